import PyProof.Rows.All
import Wide.All
import OpenK.AllK
import Wide.FinOn
import PyProof.EqAt
import PyProof.EqKinds
import PyProof.TupleCall
import Lean
import PySem.Challenge.RW_limb_k24_steps_refused
def z6:=@PySem.wpAny_bind
def z9:=@PySem.wpAny_pure
def Za:=@PySem.Heap.get?_push_of_some
def Zb:=@List.getElem?_eq_getElem
def Zd:=@Nat.le_refl
def Ze:=@List.getD_eq_getElem?_getD
def Zf:=@PyProof.Rows.wpS_bind
def Zg:=@List.length_append
def Zh:=@List.mem_cons_of_mem
def Zi:=@Option.some.inj
def Zj:=@List.size_toArray
def Zk:=@PyProof.Rows.wpS_pure
def Zl:=@PySem.Heap.lt_size
def Zm:=@Bool.false_ne_true
def Zn:=@PySem.Heap.get?_push_size
def Zo:=@List.mem_cons_self
def Zq:=@List.mem_cons
def Zr:=@List.length_cons
def Zs:=@Array.length_toList
def Zt:=@List.getElem?_eq_some_iff
def Zu:=@List.length_map
def Zv:=@Nat.lt_of_lt_of_le
def Zw:=@List.mem_singleton
def Zx:=@List.map_cons
def Zy:=@Nat.ne_of_lt
def Zz:=@Bool.and_eq_true
def ZA:=@List.getElem?_map
def ZB:=@Nat.le_trans
def ZC:=@Option.map_eq_some_iff
def ZD:=@List.take_of_length_le
def ZE:=@Array.toList_append
def ZF:=@List.append_assoc
def ZG:=@List.mem_append
def ZH:=@PySem.wpAny_mono
def ZI:=@PySem.Paired.length
def ZJ:=@List.mem_append_right
def ZK:=@List.lookup_cons
def ZL:=@List.getElem?_append_right
def ZM:=@List.pairwise_append
def ZN:=@Ne.symm
def ZO:=@List.mem_iff_getElem?
def ZP:=@beq_iff_eq
def ZQ:=@List.append_nil
def ZR:=@List.nodup_cons
def ZS:=@List.length_take
def ZT:=@PySem.wpAny_rule
def ZU:=@List.map_append
def ZV:=@PySem.W.mg_of
def ZW:=@congrArg
def ZX:=@PySem.wpAny_field
def ZY:=@List.take_append_drop
def ZZ:=@List.mem_of_getElem?
def Z0:=@PySem.Heap.SameBut.update
def Z1:=@PySem.wpAny_callSpecial?_slot
def Z2:=@Nat.add_sub_cancel_left
def Z3:=@PySem.wpAny_dictEpoch
def Z4:=@Option.isSome_iff_exists
def Z5:=@PySem.wpAny_call_entry
def Z6:=@PyProof.Rows.wpS_forRange
def Z7:=@Nat.zero_le
def Z8:=@PySem.wpAny_newObj_type
def Z9:=@PyProof.Rows.slot_tuple_getitem
def y0:=@PySem.W.kia_one
def y3:=@List.mem_map
def y4:=@PyProof.Rows.wpS_mono
def y6:=@Array.map_append
def y7:=@List.getElem?_append_left
def y8:=@PySem.mem_of_lookup
def y9:=@List.take_sublist
def Ya:=@of_decide_eq_true
def Yb:=@PySem.F.slot_dict_keyiterator_next
def Yc:=@PySem.wpAny_holding
def Yd:=@Nat.lt_or_ge
def Ye:=@PySem.Obj.data_mapFields
def Yf:=@Array.getD_eq_getD_getElem?
def Yg:=@PySem.Heap.get?_update_other
def Yh:=@List.drop_sublist
def Yi:=@List.mem_filter
def Yj:=@Array.getElem?_eq_getElem
def Yk:=@List.pairwise_iff_getElem
def Yl:=@PySem.Heap.get?_update_self
def Ym:=@List.mem_filterMap
def Yn:=@Array.size_map
def Yo:=@PySem.PassesOwn.never
def Yp:=@beq_eq_false_iff_ne
def Yq:=@PySem.SeqAt.canLay_of_shaped
def Yr:=@Nat.lt_irrefl
def Ys:=@Array.getElem?_eq_some_iff
def Yt:=@Nat.lt_succ_self
def Yu:=@List.length_drop
def Yv:=@List.all_eq_true
def Yw:=@List.length_singleton
def Yx:=@Array.getElem?_toList
def Yy:=@Int.emod_lt_of_pos
def Yz:=@Nat.ne_of_gt
def YA:=@PySem.wpAny_dictEntries
def YB:=@PySem.wpAny_loadPart_at
def YC:=@List.all_cons
def YD:=@PySem.wpAny_typeNameOfWhole_keyiter
def YE:=@List.toList_toArray
def YF:=@PySem.wpAny_forIn_list
def YG:=@PySem.wpAny_setField
def YH:=@List.not_mem_nil
def YI:=@List.getElem_mem
def YJ:=@PySem.boot_len
def YK:=@List.take_succ
def YL:=@List.drop_of_length_le
def YM:=@List.find?_cons_of_pos
def YN:=@PyProof.Rows.callWith_type1
def YO:=@List.contains_cons
def YQ:=@Nat.sub_self
def YR:=@Int.emod_nonneg
def YS:=@Bool.eq_false_iff
set_option Elab.async false
set_option linter.all false
set_option maxRecDepth 100000
set_option maxHeartbeats 2000000
local macro_rules | `(tactic| omega) => `(tactic| first | with_reducible first | assumption | exact Nat.le_of_lt (by assumption) | exact Nat.le_refl _ | exact Nat.lt_add_one _ | exact Nat.le_trans (by assumption) (by decide) | exact Nat.lt_of_lt_of_le (by assumption) (by decide) | exact Nat.sub_lt_sub_left (by assumption) (Nat.lt_add_one _) | exact Nat.le_antisymm (by assumption) (Nat.le_of_not_lt (by assumption)) | lia)
namespace L2
open PySem PySem.Spec PyProof.Rows
abbrev Key:=Sum Int Str
def iS:Key->Value->Bool
 |.inl k,v=>Value.isInt k v
 |.inr x,v=>Value.isStrOf x v
def Dc(w:World):Key->Int
 |.inl k=>hashInt k
 |.inr x=>hashStr w x
theorem bj:∀{k:Key} {v:Value},iS k v=true->(∃i t,k=Sum.inl i/\v=Value.int i t)\/(∃x t,k=Sum.inr x/\v=Value.str x t)
 |.inl i,v,h=>by obtain⟨t,e⟩:=Value.isInt_shape (k:=i) (v:=v) h;exact .inl ⟨i,t,rfl,e⟩
 |.inr x,v,h=>by obtain⟨t,e⟩:=Value.isStrOf_shape (x:=x) (v:=v) h;exact .inr ⟨x,t,rfl,e⟩
theorem tN(i:Int)(t:Tok):iS (.inl i) (.int i t)=true:=by simp[iS,Value.isInt]
theorem tO(x:Str)(t:Tok):iS (.inr x) (.str x t)=true:=by simp[iS,Value.isStrOf]
theorem Ah(a b:Int):decide ((Sum.inl a:Key)=Sum.inl b)=(a==b):=by
 by_cases e:a=b
 ·subst e;simp
 ·have h:¬(Sum.inl a:Key)=Sum.inl b:=fun q=>e (Sum.inl.inj q);rw[decide_eq_false h];exact(Yp.mpr e).symm
theorem Ak(a b:Str):decide ((Sum.inr a:Key)=Sum.inr b)=decide (a=b):=by
 by_cases e:a=b
 ·subst e;simp
 ·have h:¬(Sum.inr a:Key)=Sum.inr b:=fun q=>e (Sum.inr.inj q);rw[decide_eq_false h,decide_eq_false e]
theorem Ai(a:Int)(b:Str):decide ((Sum.inl a:Key)=Sum.inr b)=false:=decide_eq_false (fun q=>nomatch q)
theorem Aj(a:Str)(b:Int):decide ((Sum.inr a:Key)=Sum.inl b)=false:=decide_eq_false (fun q=>nomatch q)
def aM(prog:Program)(w:World):PySem.KeyKind prog w Key where
 is:=iS
 hash:=Dc w
 inj:=fun v a b ha hb=>by
  rcases bj ha with⟨i,t,rfl,rfl⟩|⟨x,t,rfl,rfl⟩
  ·rcases bj hb with⟨j,u,rfl,e⟩|⟨y,u,rfl,e⟩
   ·injection e with e1 _;rw[e1]
   ·exact nomatch e
  ·rcases bj hb with⟨j,u,rfl,e⟩|⟨y,u,rfl,e⟩
   ·exact nomatch e
   ·injection e with e1 _;rw[e1]
 byValue:=fun k v h=>by rcases bj h with⟨i,t,rfl,rfl⟩|⟨x,t,rfl,rfl⟩<;>rfl
 pyHash:=fun hv h=>by
  rcases bj hv with⟨i,t,rfl,rfl⟩|⟨x,t,rfl,rfl⟩
  ·exact wpAny_pyHash_int h
  ·exact wpAny_pyHash_str h
 eqBool:=fun hu hv h=>by
  rcases bj hu with⟨i,t,rfl,rfl⟩|⟨x,t,rfl,rfl⟩
  ·rcases bj hv with⟨j,u,rfl,rfl⟩|⟨y,u,rfl,rfl⟩
   ·rw[Ah]at h;exact wpAny_eqBool_int h
   ·rw[Ai]at h;exact SeqAt.EqAt.int_str i t y u _ _ _ _ h
  ·rcases bj hv with⟨j,u,rfl,rfl⟩|⟨y,u,rfl,rfl⟩
   ·rw[Aj]at h;exact SeqAt.EqAt.str_int x t j u _ _ _ _ h
   ·rw[Ak]at h;exact wpAny_eqBool_str h
 «strs»:=fun k x t v h=>by
  rcases bj h with⟨i,u,rfl,e⟩|⟨y,u,rfl,e⟩
  ·exact nomatch e
  ·injection e with e1 _;subst e1;cases v<;>rfl
theorem pK(prog:Program)(w:World)(i:Int)(t:Tok):(aM prog w).is (.inl i) (.int i t)=true:=tN i t
theorem pL(prog:Program)(w:World)(x:Str)(t:Tok):(aM prog w).is (.inr x) (.str x t)=true:=tO x t
open PySem PySem.Spec PyProof.Rows
inductive V where
 |non|bl (b:Bool)|int (i:Int)|str (x:Str)|byt (b:Array UInt8)|flt (b:UInt64)|ref (a:Addr)|ty (n:String)
 deriving DecidableEq
def RelV:V->Value->Prop
 |.non,u=>u=Value.none
 |.bl b,u=>u=Value.bool b
 |.int i,u=>∃t,u=Value.int i t
 |.str x,u=>∃t,u=Value.str x t
 |.byt b,u=>∃t,u=Value.bytes b t
 |.flt b,u=>∃t,u=Value.float b t
 |.ref a,u=>u=Value.ref a
 |.ty n,u=>u=Value.type n
abbrev Vals:List V->List Value->Prop:=Paired RelV
theorem Vals.length{xs:List V}{us:List Value}(r:Vals xs us):xs.length=us.length:=ZI r
theorem Vals.get:∀{xs:List V} {us:List Value} {i:Nat} {x:V},Vals xs us->xs[i]?=some x->∃u,us[i]?=some u/\RelV x u
 |_,_,_,_,.nil,e=>by simp at e
 |_,_,0,_,.cons r _,e=>by simp at e;subst e;exact⟨_,rfl,r⟩
 |_,_,i+1,x,.cons _ t,e=>by obtain⟨u,h1,h2⟩:=Vals.get (i:=i) (x:=x) t (by simpa using e);exact⟨u,by simpa using h1,h2⟩
theorem Vals.append:∀{xs ys:List V} {us ws:List Value},Vals xs us->Vals ys ws->Vals (xs++ys) (us++ws)
 |_,_,_,_,.nil,s=>s
 |_,_,_,_,.cons r t,s=>.cons r (Vals.append t s)
theorem Vals.take:∀{xs:List V} {us:List Value} (n:Nat),Vals xs us->Vals (xs.take n) (us.take n)
 |_,_,0,_=>.nil
 |_,_,_+1,.nil=>.nil
 |_,_,n+1,.cons r t=>.cons r (Vals.take n t)
theorem Vals.drop:∀{xs:List V} {us:List Value} (n:Nat),Vals xs us->Vals (xs.drop n) (us.drop n)
 |_,_,0,r=>r
 |_,_,_+1,.nil=>.nil
 |_,_,n+1,.cons _ t=>Vals.drop n t
def RelO:Option V->Option Value->Prop
 |some v,some u=>RelV v u
 |none,none=>True
 |_,_=>False
def KV{κ:Type}:List (κ×V)->List (κ×Value)->Prop:=Paired fun(p:κ×V) (q:κ×Value)=>p.1=q.1/\RelV p.2 q.2
def kV:Key->V
 |.inl i=>.int i
 |.inr x=>.str x
inductive HO where
 |lst (xs:List V)
 |tup (xs:List V)
 |dK (kvs:List (Key×V))|dT (kvs:List (List Key×V))
 |set (S:Int->Bool)(n:Nat)
 |ins (C dx:Addr)(fs:List (Str×V))
 |own (x:Addr)
 |xd (fs:List (Str×V))
 |met (f x:Addr)
 |rng (lo hi:Int)
 |frz (o:Obj)(u:HO)
 |tbl (ps:Array Value)
 |ext (φ:Heap->Prop)
abbrev Hp:=Addr->Option HO
def upd(H:Hp)(a:Addr)(o:HO):Hp:=fun b=>if b=a then some o else H b
theorem ad{H:Hp}{a:Addr}{o:HO}:upd H a o a=some o:=by unfold upd;rw[if_pos rfl]
theorem af{H:Hp}{a b:Addr}{o:HO}(h:b≠a):upd H a o b=H b:=by unfold upd;rw[if_neg h]
theorem hJ{H:Hp}{a b:Addr}{o u:HO}(h:H a=some o)(h':H b=some u)(d:o≠u):a≠b:=by intro e;subst e;rw[h]at h';exact d (Zi h')
theorem ai{H:Hp}{a b:Addr}{o:HO}(h:H a=some o)(h':H b=none):a≠b:=by intro e;subst e;rw[h]at h';cases h'
section
variable(P:Program)(w:World)
def ObjOk(H:Hp)(h:Heap)(a:Addr):HO->Prop
 |.lst xs=>xs.length<=sizeLine/\∃(its:List Value) (n:Nat),Vals xs its/\h.get? a=some { cls:=.type "list",data:=.seq its.toArray n }
 |.tup xs=>xs.length<=sizeLine/\∃its:List Value,Vals xs its/\IsTup h a its.toArray
 |.dK kvs=>kvs.length<=sizeLine/\(a==sysModules)=false/\∃vs,KV kvs vs/\h.DictOf (aM P w) a vs
 |.dT kvs=>kvs.length<=sizeLine/\(a==sysModules)=false/\∃xs:List (List Key×Addr×Value),
   Paired (fun(p:List Key×V) (q:List Key×Addr×Value)=>p.1=q.1/\H q.2.1=some (.tup (p.1.map kV))/\RelV p.2 q.2.2) kvs xs /\
   ∃o es ep,h.get? a=some o/\o.ExactDict/\o.data=.dict es ep/\es.toList=xs.map (entryOfKey (tupleKind (aM P w)))/\(xs.map (·.1)).Nodup
 |.set S n=>h.SetOf (intKind P w) a S n
 |.ins C dx fs=>H dx=some (.own a)/\fs.length<=1000/\dx≠a/\h.get? a=some (PySem.W.instObj C dx) /\
   ∃mA,h.Ns1 dx mA/\(∀f,RelO (fs.lookup f) (mA f))/\PySem.Within mA (fs.map (·.1))
 |.own _=>∃o,h.get? a=some o
 |.xd fs=>∃mA,h.Ns1 a mA/\∀f,RelO (fs.lookup f) (mA f)
 |.rng lo hi=>∃t u v,h.get? a=some { cls:=.type "range",data:=.fields #[.int lo t,.int hi u,.int 1 v] }
 |.frz o u=>h.get? a=some o/\ObjOk H h a u
 |.tbl ps=>h.get? a=some { cls:=.none,data:=.fields ps }
 |.met f x=>h.get? a=some (PySem.W.methodObj (.ref f) (.ref x))
 |.ext φ=>φ h/\(∃o,h.get? a=some o)/\∀h1 h2:Heap,φ h1->(∀o,h1.get? a=some o->h2.get? a=some o)->φ h2
def HOk(H:Hp)(h:Heap):Prop:=∀a o,H a=some o->ObjOk P w H h a o
end
section
variable{P:Program}{w:World}{H H':Hp}{h h':Heap}{a:Addr}{o:HO}
theorem ObjOk.lt(x:ObjOk P w H h a o):a<h.objs.size:=by
 cases o with
 |lst xs=>obtain⟨_,_,_,_,e⟩:=x;exact Zl e
 |tup xs=>obtain⟨_,_,_,p⟩:=x;exact p.lt
 |dK kvs=>obtain⟨_,_,_,_,o,_,_,e,_⟩:=x;exact Zl e
 |dT kvs=>obtain⟨_,_,_,_,o,_,_,e,_⟩:=x;exact Zl e
 |set S n=>obtain⟨o,_,_,_,e,_⟩:=x;exact Zl e
 |ins C dx fs=>obtain⟨_,_,_,e,_⟩:=x;exact Zl e
 |own y=>obtain⟨_,e⟩:=x;exact Zl e
 |xd fs=>obtain⟨_,⟨_,_,_,e,_⟩,_⟩:=x;exact Zl e
 |rng lo hi=>obtain⟨_,_,_,e⟩:=x;exact Zl e
 |frz ob u=>obtain⟨e,_⟩:=x;exact Zl e
 |tbl ps=>exact Zl (show h.get? a=some _ from x)
 |met f y=>exact Zl (show h.get? a=some _ from x)
 |ext φ=>obtain⟨_,⟨_,e⟩,_⟩:=x;exact Zl e
theorem Paired.mapP{α β:Type}{F G:α->β->Prop}:∀{l₁:List α} {l₂:List β},Paired F l₁ l₂->(∀a b,F a b->G a b)->Paired G l₁ l₂
 |_,_,.nil,_=>.nil
 |_,_,.cons r t,f=>.cons (f _ _ r) (Paired.mapP t f)
theorem ObjOk.stay(x:ObjOk P w H h a o)(k:∀b u,(b=a\/H b=some (.own a))->h.get? b=some u->h'.get? b=some u)(ho:∀b,H b=some (.own a)->H' b=some (.own a))(ht:∀b xs,H b=some (.tup xs)->H' b=some (.tup xs)):ObjOk P w H' h' a o:=by
 induction o with
 |lst xs=>obtain⟨z,its,n,r,e⟩:=x;exact⟨z,its,n,r,k _ _ (.inl rfl) e⟩
 |tup xs=>obtain⟨z,its,r,ob,e,c⟩:=x;exact⟨z,its,r,ob,k _ _ (.inl rfl) e,c⟩
 |dK kvs=>obtain⟨z,y,vs,r,ob,es,ep,e,c⟩:=x;exact⟨z,y,vs,r,ob,es,ep,k _ _ (.inl rfl) e,c⟩
 |dT kvs =>obtain⟨z,y,xs,r,ob,es,ep,e,c⟩:=x;exact⟨z,y,xs,Paired.mapP r fun p q z=>⟨z.1,ht _ _ z.2.1,z.2.2⟩,ob,es,ep,k _ _ (.inl rfl) e,c⟩
 |set S n=>obtain⟨ob,es,ep,t,e,c⟩:=x;exact⟨ob,es,ep,t,k _ _ (.inl rfl) e,c⟩
 |ins C dx fs =>obtain⟨d,z,ne,e,mA,⟨od,es,ep,e2,c⟩,r⟩:=x;exact⟨ho _ d,z,ne,k _ _ (.inl rfl) e,mA,⟨od,es,ep,k _ _ (.inr d) e2,c⟩,r⟩
 |own y=>obtain⟨ob,e⟩:=x;exact⟨ob,k _ _ (.inl rfl) e⟩
 |xd fs=>obtain⟨mA,⟨od,es,ep,e,c⟩,r⟩:=x;exact⟨mA,⟨od,es,ep,k _ _ (.inl rfl) e,c⟩,r⟩
 |rng lo hi=>obtain⟨t,u,v,e⟩:=x;exact⟨t,u,v,k _ _ (.inl rfl) e⟩
 |frz ob u ih=>obtain⟨e,q⟩:=x;exact⟨k _ _ (.inl rfl) e,ih q⟩
 |tbl ps =>have e:h.get? a=some { cls:=.none,data:=.fields ps }:=x;show h'.get? a=some { cls:=.none,data:=.fields ps };exact k a _ (.inl rfl) e
 |met f y =>have e:h.get? a=some (PySem.W.methodObj (.ref f) (.ref y)):=x;show h'.get? a=some (PySem.W.methodObj (.ref f) (.ref y));exact k a _ (.inl rfl) e
 |ext φ=>obtain⟨p,⟨o,e⟩,st⟩:=x;exact⟨st _ _ p fun o q=>k _ _ (.inl rfl) q,⟨o,k _ _ (.inl rfl) e⟩,st⟩
theorem HOk.lt(x:HOk P w H h)(e:H a=some o):a<h.objs.size:=(x a o e).lt
theorem HOk.fresh(x:HOk P w H h)(e:h.objs.size<=a):H a=none:=by
 cases q:H a with
 |none=>rfl
 |some u=>exact absurd (Zv (x.lt q) e) (Yr _)
theorem HOk.kept(x:HOk P w H h)(k:∀b u,h.get? b=some u->h'.get? b=some u):HOk P w H h':=fun a o e =>
 (x a o e).stay (fun b u _ q=>k b u q) (fun _ q=>q) fun _ _ q=>q
theorem HOk.laid(x:HOk P w H h)(k:∀b u,h.get? b=some u->h'.get? b=some u)(hp:h.objs.size<=a)(new:ObjOk P w (upd H a o) h' a o):HOk P w (upd H a o) h':=fun b u e=>by
 have hn:=x.fresh hp;by_cases hb:b=a
 ·subst hb;rw[ad]at e;cases e;exact new
 ·rw[af hb]at e;exact(x b u e).stay (fun c v _ q=>k c v q) (fun c q=>by rw[af (ai q hn)];exact q) fun c xs q=>by rw[af (ai q hn)];exact q
end
def Rd(H:Hp)(a:Addr)(u:HO):Prop:=H a=some u\/∃o,H a=some (.frz o u)
theorem Rd.of{H:Hp}{a:Addr}{u:HO}(h:H a=some u):Rd H a u:=.inl h
theorem Rd.ok{P:Program}{w:World}{H:Hp}{h:Heap}{a:Addr}{u:HO}(r:Rd H a u)(x:HOk P w H h):ObjOk P w H h a u:=by
 rcases r with r|⟨o,r⟩
 ·exact x a u r
 ·obtain⟨_,q⟩:=x a _ r;exact q
def Mut:Option HO->Prop
 |some (.lst _)=>True
 |some (.dK _)=>True
 |some (.dT _)=>True
 |some (.set _ _)=>True
 |some (.ins _ _ _)=>True
 |some (.ext _)=>True
 |_=>False
section
variable{P:Program}{w:World}{H:Hp}{h h':Heap}{x e:Addr}{o':HO}
theorem HOk.write(ok:HOk P w H h)(mu:Mut (H x))(he:e=x\/H e=some (.own x))(k:∀b u,b≠e->h.get? b=some u->h'.get? b=some u)(heo:∃u,h'.get? e=some u)(new:ObjOk P w (upd H x o') h' x o'):HOk P w (upd H x o') h':=fun b u q=>by
 have nown:∀c y,H c=some (.own y)->c≠x:=fun c y r z=>by subst z;rw[r]at mu;exact mu
 have ntup:∀c xs,H c=some (.tup xs)->c≠x:=fun c xs r z=>by subst z;rw[r]at mu;exact mu
 by_cases hb:b=x
 ·subst hb;rw[ad]at q;cases q;exact new
 ·rw[af hb]at q;by_cases hbe:b=e
  ·have q':H b=some (.own x):=by
    rcases he with z|z
    ·exact absurd (hbe.trans z) hb
    ·rw[hbe];exact z
   rw[q]at q';cases q';obtain⟨v,hv⟩:=heo;exact⟨v,by rw[hbe];exact hv⟩
  ·refine(ok b u q).stay (fun c v hc r=>k c v ?_ r) (fun c r=>by rw[af (nown c b r)];exact r) fun c xs r=>by rw[af (ntup c xs r)];exact r
   rcases hc with rfl|hc
   ·exact hbe
   ·rintro rfl;rcases he with z|z
    ·exact nown c b hc z
    ·rw[hc]at z;cases z;exact hb rfl
end
structure Un(fs ex:List Addr)(H H':Hp)(h h':Heap):Prop where
 keep:∀b o,h.get? b=some o->H b=none->b∉fs->b∉ex->h'.get? b=some o
 slot:∀b o,h.get? b=some o->H b=none->b∈fs->b∉ex->∃sl,h'.get? b=some { o with slots:=sl }
 free:∀b o,h.get? b=some o->H b=none->b∉ex->H' b=none
 there:∀b o,h.get? b=some o->b∉ex->∃o',h'.get? b=some o'
 tups:∀b xs,H b=some (.tup xs)->H' b=some (.tup xs)
 frzs:∀b o u,H b=some (.frz o u)->H' b=some (.frz o u)
 tbls:∀b ps,H b=some (.tbl ps)->∃more,H' b=some (.tbl (ps++more))
section
variable{fs fs' ex ex':List Addr}{H H1 H2:Hp}{h h1 h2 h':Heap}{a x e:Addr}{o:HO}
theorem Un.any(u:Un fs ex H H1 h h1){b:Addr}{ob:Obj}(q:h.get? b=some ob)(n:H b=none)(hx:b∉ex):∃sl,h1.get? b=some { ob with slots:=sl }:=by
 by_cases hb:b∈fs
 ·exact u.slot b ob q n hb hx
 ·exact⟨ob.slots,u.keep b ob q n hb hx⟩
theorem Un.kept(k:∀b u,h.get? b=some u->h'.get? b=some u):Un fs ex H H h h' :=
 ⟨fun b ob q _ _ _=>k b ob q,fun b ob q _ _ _=>⟨ob.slots,k b ob q⟩,fun _ _ _ n _=>n,fun b ob q _=>⟨ob,k b ob q⟩,fun _ _ q=>q,fun _ _ _ q=>q,fun _ ps q=>⟨#[],by rw[q];simp⟩⟩
theorem Un.refl:Un fs ex H H h h:=Un.kept fun _ _ q=>q
theorem Un.laid(k:∀b u,h.get? b=some u->h'.get? b=some u)(hp:h.objs.size<=a)(hn:H a=none):Un fs ex H (upd H a o) h h' where
 keep:=fun b u q _ _ _=>k b u q
 slot:=fun b u q _ _ _=>⟨u.slots,k b u q⟩
 free:=fun b u q n _=>by rw[af (Zy (Zv (Zl q) hp))];exact n
 there:=fun b u q _=>⟨u,k b u q⟩
 tups:=fun b xs q=>by rw[af (ai q hn)];exact q
 frzs:=fun b u xs q=>by rw[af (ai q hn)];exact q
 tbls:=fun b ps q=>⟨#[],by rw[af (ai q hn),q];simp⟩
theorem Un.write(mu:Mut (H x))(he:e=x\/H e=some (.own x))(k:∀b u,b≠e->h.get? b=some u->h'.get? b=some u)(heo:∃u,h'.get? e=some u):Un fs ex H (upd H x o) h h':=by
 have hx:∀b,H b=none->b≠x:=fun b n z=>by subst z;rw[n]at mu;exact mu
 have hb:∀b,H b=none->b≠e:=fun b n z=>by
  subst z;rcases he with r|r
  ·exact hx b n r
  ·rw[n]at r;cases r
 have hm:∀b u,H b=some u->¬Mut (some u)->b≠x:=fun b u q nm z=>by subst z;rw[q]at mu;exact nm mu
 refine⟨fun b u q n _ _=>k b u (hb b n) q,fun b u q n _ _=>⟨u.slots,k b u (hb b n) q⟩,fun b u q n _=>by rw[af (hx b n)];exact n,fun b u q _=>?_,
  fun b xs q=>by rw[af (hm b _ q fun z=>z)];exact q,fun b u xs q=>by rw[af (hm b _ q fun z=>z)];exact q,fun b ps q=>⟨#[],by rw[af (hm b _ q fun z=>z),q];simp⟩⟩
 by_cases hbe:b=e
 ·subst hbe;exact heo
 ·exact⟨u,k b u hbe q⟩
end
def trk(h:Heap)(H:Hp):List Addr:=(List.range h.objs.size).filter fun a=>(H a).isSome
def fN(h:Heap)(H:Hp):Heap:=PySem.W.hideAll h (trk h H)
theorem tJ(h:Heap)(H:Hp):(fN h H).objs.size=h.objs.size:=PySem.W.hideAll_size _ _
theorem gP{h:Heap}{H:Hp}{b:Addr}{o:Obj}(e:h.get? b=some o)(n:H b=none):(fN h H).get? b=some o :=
 PySem.W.hideAll_get _ e fun hm=>by have q:(H b).isSome=true:=(Yi.mp hm).2;rw[n]at q;simp at q
theorem yj{h:Heap}{H:Hp}{b:Addr}{o:Obj}(e:(fN h H).get? b=some o):h.get? b=some o/\H b=none:=by
 have e':h.get? b=some o:=PySem.W.of_hideAll (trk h H) e;refine⟨e',?_⟩;cases q:H b with
 |none=>rfl
 |some x =>have hm:b∈trk h H:=Yi.mpr ⟨List.mem_range.mpr (Zl e'),by simp[q]⟩;have z:(fN h H).get? b=none:=PySem.W.hideAll_none (trk h H) hm;rw[z]at e;cases e
open PySem PySem.Spec PyProof.Rows
structure Mod(K:PySem.W.Frag)(mg:Str->Option Value)(base:Heap):Prop where
 kin:K.In base
 glob:base.Ns mainGlobals mg
 blt:∃mb,base.Ns builtinsNs mb/\∀x:Str,x≠"__name__"->mb x=bootBuiltins x
 nolimit:base.NoLimit
structure Cx where
 prog:Program
 w:World
 K:PySem.W.Frag
 mg:Str->Option Value
 base:Heap
 A:Around
 N:List Str
 s₀:Shared
 H₀:Hp
 env:Env
 outer:List Env
 stack:List Env
 ex:List Addr
 fn:Str->Bool
 calm:Bool
 pn:List (Addr×Obj)
 xe:Value->Shared->Prop
def frs(l:List Env):List Addr:=l.filterMap (·.frame)
abbrev Cx.fs(X:Cx):List Addr:=frs X.outer
def Vis(sc:Scope)(x:Str):Prop:=sc.names.lookup x=some .local\/sc.names.lookup x=some .cell\/sc.names.lookup x=some .free
def Loc(sc:Scope)(x:Str):Prop:=sc.names.lookup x=some .local\/sc.names.lookup x=some .cell
def C7(env:Env)(h:Heap)(m:Str->Option Value)(x:Str)(u:Value):Prop :=
 (env.kindOf x=some .local/\m x=some u)\/((env.kindOf x=some .cell\/env.kindOf x=some .free)/\∃c,env.cells.lookup x=some c/\h.IsCell c (some u))
structure Cx.Ok(X:Cx):Prop where
 mod:Mod X.K X.mg X.base
 kind:X.env.scope.kind=.function
 glob:X.env.globals=mainGlobals
 blt:X.env.builtins=builtinsNs
 above:X.s₀.heap.objs.size<=X.env.locals
 inj:∀x y c,X.env.cells.lookup x=some c->X.env.cells.lookup y=some c->x=y
 has:∀x,(X.env.kindOf x=some .cell\/X.env.kindOf x=some .free)->∃c,X.env.cells.lookup x=some c
 cab:∀x c,X.fn x=true->X.env.cells.lookup x=some c->X.s₀.heap.objs.size<=c
 hd:X.calm=true->X.A.handled=none
 frames:X.A.frames=some X.stack
 stk:X.stack=X.outer\/(X.stack=X.env::X.outer/\X.env.frame=some X.env.locals)
 exf:∀b∈X.ex,b≠X.env.locals/\∀x c,X.env.cells.lookup x=some c->c≠b
 bs:∀b o,X.base.get? b=some o->X.s₀.heap.get? b=some o/\X.H₀ b=none
 bsz:X.base.objs.size<=X.s₀.heap.objs.size
 noex:∀b o,X.base.get? b=some o->b∉X.ex
 exfs:∀b∈X.ex,b∉X.fs
 funs:X.s₀.heap.FunFrames X.base X.outer
 frf:∀b∈X.fs,X.H₀ b=none
structure Inv(X:Cx)(pins:List (Addr×Obj))(σ:List (Option V))(H:Hp)(s:Shared):Prop where
 ok:X.Ok
 os:s.os=X.s₀.os
 bare:AllBare s.gens
 base:Un X.fs X.ex X.H₀ H X.s₀.heap s.heap
 loc:∃m,s.heap.Ns X.env.locals m/\∀(i:Nat) (x:Str) (v:V),X.N[i]?=some x->σ[i]?=some (some v)->Vis X.env.scope x->∃u,RelV v u/\C7 X.env s.heap m x u
 cell:∀x c,X.env.cells.lookup x=some c->∃v,s.heap.IsCell c v
 free:H X.env.locals=none
 freeC:∀x c,X.env.cells.lookup x=some c->H c=none
 pin:∀p∈X.pn++pins,s.heap.get? p.1=some p.2/\H p.1=none/\p.1≠X.env.locals/\p.1∉X.fs/\∀v,p.2.data≠.cell v
 hok:HOk X.prog X.w H s.heap
 len:σ.length=X.N.length
section
variable{X:Cx}{pins:List (Addr×Obj)}{σ:List (Option V)}{H H':Hp}{s:Shared}{h':Heap}
theorem Cx.Ok.nofr(ok:X.Ok){b:Addr}{o:Obj}(e:X.base.get? b=some o):b∉X.fs:=fun hb=>by have:=(ok.funs.mem hb).1;rw[e]at this;cases this
theorem Inv.bs(I:Inv X pins σ H s):∀b o,X.base.get? b=some o->s.heap.get? b=some o/\H b=none:=fun b o e =>
 ⟨I.base.keep b o (I.ok.bs b o e).1 (I.ok.bs b o e).2 (I.ok.nofr e) (I.ok.noex b o e),I.base.free b o (I.ok.bs b o e).1 (I.ok.bs b o e).2 (I.ok.noex b o e)⟩
theorem Inv.bk(I:Inv X pins σ H s):∀b o,X.base.get? b=some o->s.heap.get? b=some o:=fun b o e=>(I.bs b o e).1
theorem Inv.mod(I:Inv X pins σ H s):Mod X.K X.mg X.base:=I.ok.mod
theorem Inv.kIn(I:Inv X pins σ H s):X.K.In s.heap:=I.ok.mod.kin.keeps I.bk
theorem Inv.fr(I:Inv X pins σ H s):∃m,Fr X.base X.env.locals s.heap m :=
 let⟨m,hn,_⟩:=I.loc
 ⟨m,hn,I.bk,ZB I.ok.bsz I.ok.above⟩
theorem Inv.lt(I:Inv X pins σ H s):X.env.locals<s.heap.objs.size:=let⟨_,hn,_⟩:=I.loc;hn.lt
theorem Inv.sz(I:Inv X pins σ H s):X.s₀.heap.objs.size<=s.heap.objs.size:=ZB I.ok.above (Nat.le_of_lt I.lt)
theorem Inv.nofs(I:Inv X pins σ H s){a:Addr}(h:s.heap.objs.size<=a):a∉X.fs:=fun hb=>by obtain⟨_,o,ho,_⟩:=I.ok.funs.mem hb;exact absurd (Zv (Zl ho) (ZB I.sz h)) (Yr _)
theorem Inv.cne(I:Inv X pins σ H s):∀x c,X.env.cells.lookup x=some c->c≠X.env.locals:=fun x c e z=>by obtain⟨v,o,ho,hd⟩:=I.cell x c e;obtain⟨m,⟨o',es,ep,ho',hd',_⟩,_⟩:=I.loc;rw[z,ho']at ho;cases ho;rw[hd']at hd;cases hd
theorem Inv.funs(I:Inv X pins σ H s):s.heap.FunFrames X.base X.outer:=by
 have all:∀(l:List Env),(∀b∈frs l,b∈X.fs)->X.s₀.heap.FunFrames X.base l->s.heap.FunFrames X.base l:=by
  intro l;induction l with
  |nil=>intro _ _;trivial
  |cons env r ih =>intro hs hl;obtain⟨hk,⟨L,o,hf,hn,ho,hd⟩,hr⟩:=hl;have hL:L∈X.fs:=hs L (by unfold frs;rw[List.filterMap_cons,hf];exact Zo);obtain⟨sl,e⟩:=I.base.slot L o ho (I.ok.frf L hL) hL fun z=>I.ok.exfs L z hL;exact⟨hk,⟨L,_,hf,hn,e,hd⟩,ih (fun b hb=>hs b (by unfold frs;rw[List.filterMap_cons,hf];exact Zh _ hb)) hr⟩
 exact all X.outer (fun _ hb=>hb) I.ok.funs
theorem Inv.stack(I:Inv X pins σ H s):s.heap.FunFrames X.base X.stack:=by
 rcases I.ok.stk with e|⟨e,hf⟩
 ·rw[e];exact I.funs
 ·rw[e];obtain⟨m,hn,_⟩:=I.loc;refine .cons (by rw[I.ok.kind];decide) hf hn ?_ I.funs;exact Heap.get?_none_of_le (ZB I.ok.bsz I.ok.above)
theorem Inv.stkSub(I:Inv X pins σ H s):∀b∈frs X.stack,b∈X.env.locals::X.fs:=fun b hb=>by
 rcases I.ok.stk with e|⟨e,hf⟩
 ·rw[e]at hb;exact Zh _ hb
 ·rw[e]at hb;unfold frs at hb;rw[List.filterMap_cons,hf]at hb;exact hb
theorem Inv.stkFree(I:Inv X pins σ H s):∀b∈frs X.stack,H b=none:=fun b hb=>by
 rcases Zq.mp (I.stkSub b hb)with e|hb
 ·rw[e];exact I.free
 ·obtain⟨_,o,ho,_⟩:=I.ok.funs.mem hb;exact I.base.free b o ho (I.ok.frf b hb) fun z=>I.ok.exfs b z hb
theorem Inv.step{g':Array GenState}{t':Nat}{d':Drawn}{ch:List Addr}(I:Inv X pins σ H s)(hch:∀b∈ch,(b∈X.ex\/X.s₀.heap.objs.size<=b)/\b≠X.env.locals/\(∀x c,X.env.cells.lookup x=some c->c≠b)/\∀p∈X.pn++pins,p.1≠b)(keep:∀b o,b≠X.env.locals->b∉X.fs->b∉ch->s.heap.get? b=some o->H b=none->h'.get? b=some o)(slot:∀b o,b≠X.env.locals->b∈X.fs->b∉ch->s.heap.get? b=some o->H b=none->∃sl,h'.get? b=some { o with slots:=sl })(free:∀b o,b∉ch->s.heap.get? b=some o->H b=none->H' b=none)(there:∀b o,b∉ch->s.heap.get? b=some o->∃o',h'.get? b=some o')(tups:∀b xs,H b=some (.tup xs)->H' b=some (.tup xs))(frzs:∀b o u,H b=some (.frz o u)->H' b=some (.frz o u))(tbls:∀b ps,H b=some (.tbl ps)->∃more,H' b=some (.tbl (ps++more)))(ns:∀m,s.heap.Ns X.env.locals m->h'.Ns X.env.locals m)(hok:HOk X.prog X.w H' h')(hg:AllBare g') :
  Inv X pins σ H' { s with heap:=h',gens:=g',drawn:=d',toks:=t' }:=by
 have neL:∀b o,X.s₀.heap.get? b=some o->b≠X.env.locals:=fun b o e=>Zy (Zv (Zl e) I.ok.above);have neC:∀b o,X.s₀.heap.get? b=some o->b∉X.ex->b∉ch:=fun b o e hx hb=>by
  rcases(hch b hb).1 with z|z
  ·exact hx z
  ·exact absurd (Zv (Zl e) z) (Yr _)
 have cellK:∀x c,X.env.cells.lookup x=some c->∀v,s.heap.IsCell c v->h'.IsCell c v:=fun x c e v ⟨o,ho,hd⟩=>by
  have nch:c∉ch:=fun z=>(hch c z).2.2.1 x c e rfl;by_cases hc:c∈X.fs
  ·obtain⟨sl,q⟩:=slot c o (I.cne x c e) hc nch ho (I.freeC x c e);exact⟨_,q,hd⟩
  ·exact⟨o,keep c o (I.cne x c e) hc nch ho (I.freeC x c e),hd⟩
 refine⟨I.ok,I.os,hg,⟨fun b o e n hb hx=>?_,fun b o e n hb hx=>?_,fun b o e n hx=>?_,fun b o e hx=>?_,fun b xs e=>tups b xs (I.base.tups b xs e),fun b o xs e=>frzs b o xs (I.base.frzs b o xs e),fun b ps e=>?_⟩,?_,fun x c e=>?_,?_,fun x c e=>?_,fun p hp=>?_,hok,I.len⟩
 ·exact keep b o (neL b o e) hb (neC b o e hx) (I.base.keep b o e n hb hx) (I.base.free b o e n hx)
 ·obtain⟨sl,e1⟩:=I.base.slot b o e n hb hx;obtain⟨sl',e2⟩:=slot b _ (neL b o e) hb (neC b o e hx) e1 (I.base.free b o e n hx);exact⟨sl',e2⟩
 ·obtain⟨o',e1⟩:=I.base.there b o e hx;exact free b o' (neC b o e hx) e1 (I.base.free b o e n hx)
 ·obtain⟨o',e1⟩:=I.base.there b o e hx;exact there b o' (neC b o e hx) e1
 ·obtain⟨m1,e1⟩:=I.base.tbls b ps e;obtain⟨m2,e2⟩:=tbls b _ e1;exact⟨m1++m2,by rw[e2,Array.append_assoc]⟩
 ·obtain⟨m,hn,hl⟩:=I.loc;refine⟨m,ns m hn,fun i x v e1 e2 e3=>?_⟩;obtain⟨u,r,l⟩:=hl i x v e1 e2 e3;refine⟨u,r,?_⟩;rcases l with l|⟨k,c,e,z⟩
  ·exact .inl l
  ·exact .inr ⟨k,c,e,cellK x c e _ z⟩
 ·obtain⟨v,z⟩:=I.cell x c e;exact⟨v,cellK x c e v z⟩
 ·obtain⟨m,⟨o,_,_,ho,_⟩,_⟩:=I.loc;exact free _ o (fun z=>(hch _ z).2.1 rfl) ho I.free
 ·obtain⟨v,o,ho,hd⟩:=I.cell x c e;exact free c o (fun z=>(hch c z).2.2.1 x c e rfl) ho (I.freeC x c e)
 ·obtain⟨e,n,ne,nf,d⟩:=I.pin p hp;have nch:p.1∉ch:=fun z=>(hch p.1 z).2.2.2 p hp rfl;exact⟨keep p.1 p.2 ne nf nch e n,free p.1 p.2 nch e n,ne,nf,d⟩
theorem Inv.un{t':Nat}(I:Inv X pins σ H s)(u:Un X.fs [] H H' s.heap h')(hok:HOk X.prog X.w H' h'):Inv X pins σ H' { s with heap:=h',toks:=t' }:=by
 obtain⟨m,⟨o,es,ep,ho,r⟩,_⟩:=id I.loc;obtain⟨sl,hL⟩:=u.any ho I.free (by simp);exact I.step (g':=s.gens) (d':=s.drawn) (ch:=[]) (fun _ z=>nomatch z) (fun b o _ hb _ e n=>u.keep b o e n hb (by simp)) (fun b o _ hb _ e n=>u.slot b o e n hb (by simp)) (fun b o _ e n=>u.free b o e n (by simp)) (fun b o _ e=>u.there b o e (by simp)) u.tups u.frzs u.tbls (fun m' hm=>by
  obtain⟨o',es',ep',ho',r'⟩:=hm;rw[ho]at ho';cases ho';exact⟨_,es',ep',hL,r'⟩) hok I.bare
theorem Inv.call{g':Array GenState}{t':Nat}{d':Drawn}{ch:List Addr}(I:Inv X pins σ H s)(u:Un (frs X.stack) ch H H' s.heap h')(hok:HOk X.prog X.w H' h')(hg:AllBare g')(hch:∀b∈ch,(b∈X.ex\/X.s₀.heap.objs.size<=b)/\b≠X.env.locals/\(∀x c,X.env.cells.lookup x=some c->c≠b)/\∀p∈X.pn++pins,p.1≠b) :
  Inv X pins σ H' { s with heap:=h',gens:=g',drawn:=d',toks:=t' }:=by
 obtain⟨m,⟨o,es,ep,ho,r⟩,_⟩:=id I.loc;obtain⟨sl,hL⟩:=u.any ho I.free fun z=>(hch _ z).2.1 rfl;exact I.step (ch:=ch) hch (fun b o hL hb hc e n=>u.keep b o e n (fun z=>(Zq.mp (I.stkSub b z)).elim hL hb) hc) (fun b o _ _ hc e n=>u.any e n hc) (fun b o hc e n=>u.free b o e n hc) (fun b o hc e=>u.there b o e hc) u.tups u.frzs u.tbls (fun m' hm=>by
  obtain⟨o',es',ep',ho',r'⟩:=hm;rw[ho]at ho';cases ho';exact⟨_,es',ep',hL,r'⟩) hok hg
theorem Inv.turned{t':Nat}{it:Addr}(I:Inv X pins σ H s)(k:∀b o,b≠it->s.heap.get? b=some o->h'.get? b=some o)(hn:H it=none)(hL:it≠X.env.locals)(h1:it∈X.ex\/X.s₀.heap.objs.size<=it)(h2:∀x c,X.env.cells.lookup x=some c->c≠it)(h3:∀p∈X.pn++pins,p.1≠it):Inv X pins σ H { s with heap:=h',toks:=t' }:=by
 have nit:∀b u,H b=some u->b≠it:=fun b u e z=>by rw[z,hn]at e;cases e
 refine I.step (g':=s.gens) (d':=s.drawn) (ch:=[it]) (fun b hb=>?_) (fun b o _ _ hc e _=>k b o (fun z=>hc (by simp[z])) e) (fun b o _ _ hc e _=>⟨o.slots,k b o (fun z=>hc (by simp[z])) e⟩) (fun _ _ _ _ n=>n)
  (fun b o hc e=>⟨o,k b o (fun z=>hc (by simp[z])) e⟩) (fun _ _ e=>e) (fun _ _ _ e=>e) (fun b ps e=>⟨#[],by rw[e];simp⟩) (fun m hm=>?_) (fun b u e=>?_) I.bare
 ·have e:b=it:=by simpa using hb
  subst e;exact⟨h1,hL,h2,h3⟩
 ·obtain⟨o,es,ep,ho,r⟩:=hm;exact⟨o,es,ep,k _ o (ZN hL) ho,r⟩
 ·refine(I.hok b u e).stay (fun c v hc q=>k c v ?_ q) (fun _ q=>q) fun _ _ q=>q;rcases hc with z|z
  ·rw[z];exact nit b u e
  ·exact nit c _ z
theorem Inv.tok(I:Inv X pins σ H s)(t:Nat):Inv X pins σ H { s with toks:=t }:=I.un (h':=s.heap) (t':=t) Un.refl I.hok
theorem Inv.kept{t':Nat}(I:Inv X pins σ H s)(k:∀b u,s.heap.get? b=some u->h'.get? b=some u):Inv X pins σ H { s with heap:=h',toks:=t' }:=I.un (Un.kept k) (I.hok.kept k)
theorem Inv.laid{a:Addr}{o:HO}{t':Nat}(I:Inv X pins σ H s)(k:∀b u,s.heap.get? b=some u->h'.get? b=some u)(hp:s.heap.objs.size<=a)(new:ObjOk X.prog X.w (upd H a o) h' a o) :
  Inv X pins σ (upd H a o) { s with heap:=h',toks:=t' }:=I.un (Un.laid k hp (I.hok.fresh hp)) (I.hok.laid k hp new)
theorem Inv.write{x e:Addr}{o:HO}{t':Nat}(I:Inv X pins σ H s)(mu:Mut (H x))(he:e=x\/H e=some (.own x))(k:∀b u,b≠e->s.heap.get? b=some u->h'.get? b=some u)(heo:∃u,h'.get? e=some u)(new:ObjOk X.prog X.w (upd H x o) h' x o):Inv X pins σ (upd H x o) { s with heap:=h',toks:=t' }:=I.un (Un.write mu he k heo) (I.hok.write mu he k heo new)
theorem Inv.weak{σ':List (Option V)}(I:Inv X pins σ H s)(hl:σ'.length=σ.length)(w:∀(i:Nat) v,σ'[i]?=some (some v)->σ[i]?=some (some v)):Inv X pins σ' H s :=
 ⟨I.ok,I.os,I.bare,I.base,let⟨m,hn,hl'⟩:=I.loc;⟨m,hn,fun i x v e1 e2 e3=>hl' i x v e1 (w i v e2) e3⟩,I.cell,I.free,I.freeC,I.pin,I.hok,hl.trans I.len⟩
theorem Inv.pins_of{pins':List (Addr×Obj)}(I:Inv X pins σ H s)(h:∀p∈pins',s.heap.get? p.1=some p.2/\H p.1=none/\p.1≠X.env.locals/\p.1∉X.fs/\∀v,p.2.data≠.cell v):Inv X pins' σ H s :=
 ⟨I.ok,I.os,I.bare,I.base,I.loc,I.cell,I.free,I.freeC,fun p hp=>(ZG.mp hp).elim (fun z=>I.pin p (List.mem_append_left _ z)) (h p),I.hok,I.len⟩
theorem jE{N:List Str}(hN:N.Nodup){i j:Nat}{x:Str}(a:N[i]?=some x)(b:N[j]?=some x):i=j:=by obtain⟨h1,e1⟩:=Zt.mp a;obtain⟨h2,e2⟩:=Zt.mp b;exact(List.getElem_inj hN).mp (e1.trans e2.symm)
theorem mP{M:Model}{A:Around}{E:Value->Shared->Prop}{i:Nat}{x:Str}{v:V}{u:Value}{Q:Unit->Shared->Prop}(I:Inv X pins σ H s)(hN:X.N.Nodup)(hi:X.N[i]?=some x)(hx:Loc X.env.scope x)(r:RelV v u)(h:∀s',Inv X pins (σ.set i (some v)) H s'->(∃a,Heap.SameBut a s.heap s'.heap/\(a=X.env.locals\/X.env.cells.lookup x=some a))->Q () s')(hf:X.fn x=true\/X.env.scope.names.lookup x=some .local:=by first|exact .inl rfl|exact .inr rfl|assumption):wpAny M A (storeName X.env x u) Q E s:=by
 obtain⟨m,hn,hl⟩:=id I.loc;have hcls:(X.env.scope.kind == .class ||(X.env.scope.kind == .module&&X.env.locals != X.env.globals))=false:=by rw[I.ok.kind];rfl
 have hiσ:i<σ.length:=by rw[I.len];exact(Zt.mp hi).1
 have cne:=I.cne;have tracked:∀{a:Addr} {h':Heap},(∃o,s.heap.get? a=some o/\H a=none)->Heap.SameBut a s.heap h'->HOk X.prog X.w H h':=fun{a h'} ha hs b ob e=>by
  obtain⟨_,_,hfree⟩:=ha;refine(I.hok b ob e).stay (fun c w' hc q=>(hs.2 c ?_).trans q) (fun _ q=>q) fun _ _ q=>q;rintro rfl;rcases hc with rfl|hc
  ·rw[hfree]at e;cases e
  ·rw[hfree]at hc;cases hc
 rcases hx with hk|hk
 ·refine wpAny_storeName_local hk hn (fun h' hn' hs=>?_) hcls;obtain⟨oL,_,_,hoL,_⟩:=id hn;refine h _ ⟨I.ok,I.os,I.bare,⟨fun b o e n hb hx=>?_,fun b o e n hb hx=>?_,I.base.free,fun b o e hx=>?_,I.base.tups,I.base.frzs,I.base.tbls⟩,⟨_,hn',fun j y v' e1 e2 e3=>?_⟩,fun y c e=>?_,I.free,I.freeC,fun p hp=>?_,tracked ⟨oL,hoL,I.free⟩ hs,by simpa using I.len⟩ ⟨_,hs,.inl rfl⟩
  ·exact(hs.2 b (Zy (Zv (Zl e) I.ok.above))).trans (I.base.keep b o e n hb hx)
  ·obtain⟨sl,e1⟩:=I.base.slot b o e n hb hx;exact⟨sl,(hs.2 b (Zy (Zv (Zl e) I.ok.above))).trans e1⟩
  ·obtain⟨o',e1⟩:=I.base.there b o e hx;exact⟨o',(hs.2 b (Zy (Zv (Zl e) I.ok.above))).trans e1⟩
  ·by_cases hj:j=i
   ·subst hj;rw[hi]at e1;cases e1;rw[List.getElem?_set_self hiσ]at e2;cases e2;exact⟨u,r,.inl ⟨hk,by simp⟩⟩
   ·rw[List.getElem?_set_ne (ZN hj)]at e2;obtain⟨u',r',q⟩:=hl j y v' e1 e2 e3;refine⟨u',r',?_⟩;rcases q with⟨k,e⟩|⟨k,c,e,z⟩
    ·refine .inl ⟨k,?_⟩;have:y≠x:=fun e=>hj (jE hN e1 (e▸hi));simp[this,e]
    ·exact .inr ⟨k,c,e,z.sameBut hs (cne y c e)⟩
  ·obtain⟨w',z⟩:=I.cell y c e;exact⟨w',z.sameBut hs (cne y c e)⟩
  ·obtain⟨e,n,ne,nf,d⟩:=I.pin p hp;exact⟨(hs.2 p.1 ne).trans e,n,ne,nf,d⟩
 ·have hfn:X.fn x=true:=by
   rcases hf with z|z
   ·exact z
   ·rw[z]at hk;cases hk
  obtain⟨c,hc⟩:=I.ok.has x (.inl hk);obtain⟨w',z⟩:=I.cell x c hc;refine wpAny_storeName_cell I.ok.kind hk hc z (fun h' hc' hs=>?_);obtain⟨oc,hoc,hocd⟩:=id z;refine h { s with heap:=h' } ⟨I.ok,I.os,I.bare,⟨fun b o e n hb hx=>?_,fun b o e n hb hx=>?_,I.base.free,fun b o e hx=>?_,I.base.tups,I.base.frzs,I.base.tbls⟩,⟨m,hn.sameBut hs (ZN (cne x c hc)),fun j y v' e1 e2 e3=>?_⟩,fun y c' e=>?_,I.free,I.freeC,fun p hp=>?_,tracked ⟨oc,hoc,I.freeC x c hc⟩ hs,by simpa using I.len⟩ ⟨c,hs,.inr hc⟩
  ·exact(hs.2 b (Zy (Zv (Zl e) (I.ok.cab x c hfn hc)))).trans (I.base.keep b o e n hb hx)
  ·obtain⟨sl,e1⟩:=I.base.slot b o e n hb hx;exact⟨sl,(hs.2 b (Zy (Zv (Zl e) (I.ok.cab x c hfn hc)))).trans e1⟩
  ·obtain⟨o',e1⟩:=I.base.there b o e hx;exact⟨o',(hs.2 b (Zy (Zv (Zl e) (I.ok.cab x c hfn hc)))).trans e1⟩
  ·by_cases hj:j=i
   ·subst hj;rw[hi]at e1;cases e1;rw[List.getElem?_set_self hiσ]at e2;cases e2;exact⟨u,r,.inr ⟨.inl hk,c,hc,hc'⟩⟩
   ·rw[List.getElem?_set_ne (ZN hj)]at e2;obtain⟨u',r',q⟩:=hl j y v' e1 e2 e3;refine⟨u',r',?_⟩;rcases q with q|⟨k,c',e,z'⟩
    ·exact .inl q
    ·refine .inr ⟨k,c',e,z'.sameBut hs ?_⟩;rintro rfl;exact hj (jE hN e1 (I.ok.inj _ _ _ e hc▸hi))
  ·by_cases hcc:c'=c
   ·subst hcc;exact⟨_,hc'⟩
   ·obtain⟨w2,z2⟩:=I.cell y c' e;exact⟨w2,z2.sameBut hs hcc⟩
  ·obtain⟨e,n,ne,nf,d⟩:=I.pin p hp;refine⟨(hs.2 p.1 ?_).trans e,n,ne,nf,d⟩;intro q;rw[q,hoc]at e;have q':oc=p.2:=Zi e;exact d w' (by rw[<-q'];exact hocd)
theorem jK{M:Model}{A:Around}{E:Value->Shared->Prop}{i:Nat}{x:Str}{v:V}{u:Value}{Q:Unit->Shared->Prop}(I:Inv X pins σ H s)(hN:X.N.Nodup)(hi:X.N[i]?=some x)(hx:Loc X.env.scope x)(r:RelV v u)(h:∀s',Inv X pins (σ.set i (some v)) H s'->Q () s')(hf:X.fn x=true\/X.env.scope.names.lookup x=some .local:=by first|exact .inl rfl|exact .inr rfl|assumption):wpAny M A (storeName X.env x u) Q E s :=
 mP I hN hi hx r (fun s' I' _=>h s' I') hf
theorem Inv.call'{s':Shared}{ch:List Addr}(I:Inv X pins σ H s)(ho:s'.os=s.os)(u:Un (frs X.stack) ch H H' s.heap s'.heap)(hok:HOk X.prog X.w H' s'.heap)(hg:AllBare s'.gens)(hch:∀b∈ch,(b∈X.ex\/X.s₀.heap.objs.size<=b)/\b≠X.env.locals/\(∀x c,X.env.cells.lookup x=some c->c≠b)/\∀p∈X.pn++pins,p.1≠b):Inv X pins σ H' s':=by obtain⟨h',g',d',t',o'⟩:=s';have e:o'=s.os:=ho;subst e;exact I.call (g':=g') (t':=t') (d':=d') u hok hg hch
end
abbrev XK:=Value->Option Addr->Hp->Prop
abbrev St:=List (Option V)
abbrev VK:=V->Hp->Prop
abbrev TE:=St->Hp->VK->Prop
abbrev TT:=St->Hp->(Bool->Hp->Prop)->Prop
abbrev TA:=St->Hp->(List V->Hp->Prop)->Prop
structure Ends where
 nx:St->Hp->Prop
 rt:VK
 bk:St->Hp->Prop:=fun _ _=>False
 ct:St->Hp->Prop:=fun _ _=>False
abbrev TS:=Ends->St->Hp->Prop
def EP(X:Cx)(pins:List (Addr×Obj))(σ:St)(Q:VK)(u:Value)(s':Shared):Prop:=∃v H',Inv X pins σ H' s'/\RelV v u/\Q v H'
def TP(X:Cx)(pins:List (Addr×Obj))(σ:St)(Q:Bool->Hp->Prop)(b:Bool)(s':Shared):Prop:=∃H',Inv X pins σ H' s'/\Q b H'
def AP(X:Cx)(pins:List (Addr×Obj))(σ:St)(Q:List V->Hp->Prop)(us:List Value)(s':Shared):Prop:=∃vs H',Inv X pins σ H' s'/\Vals vs us/\Q vs H'
def SP(X:Cx)(pins:List (Addr×Obj))(D:Ends)(f:Flow)(s':Shared):Prop :=
 match f with
 |.next=>∃σ' H',Inv X pins σ' H' s'/\D.nx σ' H'
 |.brk=>∃σ' H',Inv X pins σ' H' s'/\D.bk σ' H'
 |.cont=>∃σ' H',Inv X pins σ' H' s'/\D.ct σ' H'
 |.ret u=>∃v σ' H',Inv X pins σ' H' s'/\RelV v u/\D.rt v H'
def PE(X:Cx)(e:Expr)(t:TE):Prop :=
 ∀(pins:List (Addr×Obj)) (s:Shared) (σ:St) (H:Hp) (Q:VK),Inv X pins σ H s->t σ H Q->wpAny (model X.prog X.w) X.A (eval e X.env) (EP X pins σ Q) X.xe s
def PT(X:Cx)(e:Expr)(t:TT):Prop :=
 ∀(pins:List (Addr×Obj)) (s:Shared) (σ:St) (H:Hp) (Q:Bool->Hp->Prop),Inv X pins σ H s->t σ H Q->wpAny (model X.prog X.w) X.A (isTrue e X.env (eval e X.env)) (TP X pins σ Q) X.xe s
def PW(X:Cx)(e:Expr)(t:TT):Prop :=
 ∀(whole:Sem Value) (pins:List (Addr×Obj)) (s:Shared) (σ:St) (H:Hp) (Q:Bool->Hp->Prop),Inv X pins σ H s->t σ H Q->wpAny (model X.prog X.w) X.A (isTrue e X.env whole) (TP X pins σ Q) X.xe s
theorem PW.pt{X:Cx}{e:Expr}{t:TT}(h:PW X e t):PT X e t:=h _
def PA(X:Cx)(es:List Expr)(t:TA):Prop :=
 ∀(pos:Pos) (pins:List (Addr×Obj)) (s:Shared) (σ:St) (H:Hp) (Q:List V->Hp->Prop),Inv X pins σ H s->t σ H Q->wpAny (model X.prog X.w) X.A (spliced (backTo pos (starEach es X.env))) (AP X pins σ Q) X.xe s
def PS(X:Cx)(st:Stmt)(t:TS):Prop :=
 ∀(pins:List (Addr×Obj)) (s:Shared) (σ:St) (H:Hp) (D:Ends),Inv X pins σ H s->t D σ H->wpAny (model X.prog X.w) X.A (exec st X.env) (SP X pins D) X.xe s
def PSs(X:Cx)(st:List Stmt)(t:TS):Prop :=
 ∀(pins:List (Addr×Obj)) (s:Shared) (σ:St) (H:Hp) (D:Ends),Inv X pins σ H s->t D σ H->wpAny (model X.prog X.w) X.A (execs st X.env) (SP X pins D) X.xe s
theorem thn{α:Type}{t:Sem α}{Q Q':α->Shared->Prop}{M:Model}{A:Around}{E:Value->Shared->Prop}{s:Shared}(h:wpAny M A t Q E s)(hQ:∀a s,Q a s->Q' a s):wpAny M A t Q' E s:=ZH h hQ fun _ _ x=>x
open PySem PySem.Spec PyProof.Rows
section
variable{X:Cx}
def wK(i:Nat):TE:=fun σ H Q=>∃v,σ[i]?=some (some v)/\Q v H
def tC(v:V):TE:=fun _ H Q=>Q v H
theorem A4{i:Nat}{x:Str}{pos:Pos}(hN:X.N[i]?=some x)(hv:Vis X.env.scope x)(hd:(x==("__debug__":Str))=false:=by decide)(hcd:(x==("__classdict__":Str))=false:=by decide):PE X (.Name x pos) (wK i):=by
 intro pins s σ H Q I h;obtain⟨v,e,h⟩:=h;obtain⟨m,hn,hl⟩:=I.loc;obtain⟨u,r,l⟩:=hl i x v hN e hv;have fin:EP X pins σ Q u s:=⟨v,H,I,r,h⟩
 rcases l with⟨hk,hm⟩|⟨hk,c,hc,hcell⟩
 ·exact wpAny_Name (wpAny_loadName_local I.ok.kind hk hn hm fin) hd
 ·rcases hk with hk|hk
  ·exact wpAny_Name (wpAny_loadName_cell I.ok.kind hk hc hcell fin) hd
  ·exact wpAny_Name (wpAny_loadName_free I.ok.kind hk hc hcell fin hcd) hd
theorem AW{i j pos}:PE X (.Constant (.int i) j pos) (tC (.int i)):=fun _ _ _ H _ I h=>wpAny_Constant_int ⟨.int i,H,I.tok _,⟨_,rfl⟩,h⟩
theorem CB{b j pos}:PE X (.Constant (.bool b) j pos) (tC (.bl b)):=fun _ _ _ H _ I h=>Constant_bool ⟨.bl b,H,I,rfl,h⟩
theorem AY{j pos}:PE X (.Constant .none j pos) (tC .non):=fun _ _ _ H _ I h=>Constant_none ⟨.non,H,I,rfl,h⟩
theorem A0{x j pos}:PE X (.Constant (.str x) j pos) (tC (.str x)):=fun _ _ _ H _ I h=>Calls.Constant_str ⟨.str x,H,I.tok _,⟨_,rfl⟩,h⟩
def Gl(X:Cx)(x:Str):Prop:=X.env.kindOf x=some .globalImplicit
theorem dC{E:Value->Shared->Prop}{pins:List (Addr×Obj)}{s:Shared}{σ:St}{H:Hp}{x:Str}{u:Value}{pos:Pos}{Q:Value->Shared->Prop}(I:Inv X pins σ H s)(hg:Gl X x)(hm:X.mg x=some u)(h:Q u s)(hd:(x==("__debug__":Str))=false:=by decide):wpAny (model X.prog X.w) X.A (eval (.Name x pos) X.env) Q E s :=
 Calls.Name_function_global I.ok.kind hg (Calls.loadGlobal_global (by rw[I.ok.glob];exact I.mod.glob.keeps I.bk) hm h) hd
theorem fb{E:Value->Shared->Prop}{pins:List (Addr×Obj)}{s:Shared}{σ:St}{H:Hp}{x:Str}{u:Value}{pos:Pos}{Q:Value->Shared->Prop}(I:Inv X pins σ H s)(hg:Gl X x)(hm:X.mg x=none)(hv:bootBuiltins x=some u)(h:Q u s)(hn:x≠"__name__":=by decide)(hd:(x==("__debug__":Str))=false:=by decide):wpAny (model X.prog X.w) X.A (eval (.Name x pos) X.env) Q E s:=by obtain⟨mb,h1,h2⟩:=I.mod.blt;exact Calls.Name_function_global I.ok.kind hg (Calls.loadGlobal_builtin (by rw[I.ok.glob];exact I.mod.glob.keeps I.bk) hm (by rw[I.ok.blt];exact h1.keeps I.bk) ((h2 x hn).trans hv) h) hd
theorem qz{x:Str}{v:V}{u:Value}{pos:Pos}(hg:Gl X x)(hm:X.mg x=some u)(r:RelV v u)(hd:(x==("__debug__":Str))=false:=by decide):PE X (.Name x pos) (tC v) :=
 fun _ _ _ H _ I h=>dC I hg hm ⟨v,H,I,r,h⟩ hd
theorem yA{x:Str}{v:V}{u:Value}{pos:Pos}(hg:Gl X x)(hm:X.mg x=none)(hv:bootBuiltins x=some u)(r:RelV v u)(hn:x≠"__name__":=by decide)(hd:(x==("__debug__":Str))=false:=by decide):PE X (.Name x pos) (tC v) :=
 fun _ _ _ H _ I h=>fb I hg hm hv ⟨v,H,I,r,h⟩ hn hd
variable{a b:Expr}{ta tb:TE}{pos:Pos}
def PC(X:Cx)(op:CmpOp)(a b:Expr)(t:TE):Prop :=
 ∀(pins:List (Addr×Obj)) (s:Shared) (σ:St) (H:Hp) (Q:VK),Inv X pins σ H s->t σ H Q ->
  wpAny (model X.prog X.w) X.A (eval a X.env) (fun v s₁=>wpAny (model X.prog X.w) X.A (eval b X.env) (fun u s₂=>wpAny (model X.prog X.w) X.A (compareOp op v u) (EP X pins σ Q) X.xe s₂) X.xe s₁) X.xe s
def tB(t:TE):TT:=fun σ H Q=>t σ H fun x H1=>∃c,x=.bl c/\Q c H1
theorem uB{op:CmpOp}{t:TE}(h:PC X op a b t)(h1:behindInMarks op b=false:=by first|exact nobehind _ (by decide) (by decide)|rfl):PT X (.Compare a [op] [b] pos) (tB t):=by intro pins s σ H Q I hw;refine wpAny_isTrue_Compare1 (thn (h pins s σ H _ I hw) fun v s1 h1=>thn h1 fun u s2 h2=>thn h2 fun c s3 hz9=>?_) h1;obtain⟨x,H1,I1,r1,q1⟩:=hz9;obtain⟨d,rfl,q⟩:=q1;cases r1;exact wpAny_truthy_bool ⟨H1,I1,q⟩
theorem Bh{e:Expr}{t:TE}(h:PE X e t)(he:∀whole,isTrue e X.env whole=(do let v ←whole;standAt e.pos;holding [v] (truthy v)):=by intro _;rfl):PT X e (tB t):=by intro pins s σ H Q I hw;refine isTrue_plain (thn (h pins s σ H _ I hw) fun v s1 hz9=>?_) (he _);obtain⟨x,H1,I1,r1,q1⟩:=hz9;obtain⟨d,rfl,q⟩:=q1;cases r1;exact wpAny_truthy_bool ⟨H1,I1,q⟩
variable{tA tB':TT}{rest:List Expr}
def BI(t u:TT):TT:=fun σ H Q=>t σ H fun c H1=>if c=true then u σ H1 Q else Q false H1
def tOr(t u:TT):TT:=fun σ H Q=>t σ H fun c H1=>if c=true then Q true H1 else u σ H1 Q
def BP(t:TT):TT:=fun σ H Q=>t σ H fun c H1=>Q (!c) H1
theorem yS(ha:PT X a tA):PW X (.BoolOp .And [a] pos) tA:=by
 intro wh pins s σ H Q I h;refine isTrue_and (thn (ha pins s σ H Q I h) fun c s1 e=>?_);cases c with
 |true=>exact isTrue_and_nil e
 |false=>exact e
theorem Bj(ha:PT X a tA):PW X (.BoolOp .Or [a] pos) tA:=by
 intro wh pins s σ H Q I h;refine isTrue_or (thn (ha pins s σ H Q I h) fun c s1 e=>?_);cases c with
 |false=>exact isTrue_or_nil e
 |true=>exact e
theorem Bi(ha:PT X a tA)(hb:PW X (.BoolOp .And (b::rest) pos) tB'):PW X (.BoolOp .And (a::b::rest) pos) (BI tA tB'):=by
 intro wh pins s σ H Q I h;refine isTrue_and (thn (ha pins s σ H _ I h) fun c s1 ⟨H1,I1,q1⟩=>?_);cases c with
 |true=>exact hb wh pins s1 σ H1 Q I1 q1
 |false=>exact⟨H1,I1,q1⟩
theorem CH(ha:PT X a tA)(hb:PW X (.BoolOp .Or (b::rest) pos) tB'):PW X (.BoolOp .Or (a::b::rest) pos) (tOr tA tB'):=by
 intro wh pins s σ H Q I h;refine isTrue_or (thn (ha pins s σ H _ I h) fun c s1 ⟨H1,I1,q1⟩=>?_);cases c with
 |true=>exact⟨H1,I1,q1⟩
 |false=>exact hb wh pins s1 σ H1 Q I1 q1
theorem Bg(ha:PT X a tA):PT X (.UnaryOp .Not a pos) (BP tA):=by intro pins s σ H Q I h;exact isTrue_not (ha pins s σ H (fun c H1=>Q (!c) H1) I h)
def xB(ta tb:TE):TE:=fun σ H Q=>ta σ H fun x H1=>∃c,x=.bl c/\if c=true then tb σ H1 Q else Q (.bl false) H1
theorem AZ{op}{t:TE}(h:PE X a t):PE X (.BoolOp op [a] pos) t:=fun pins s σ H Q I hw=>BoolOp_one (h pins s σ H Q I hw)
theorem AT(ha:PE X a ta)(hb:PE X (.BoolOp .And (b::rest) pos) tb):PE X (.BoolOp .And (a::b::rest) pos) (xB ta tb):=by
 intro pins s σ H Q I h;refine BoolOp_and (thn (ha pins s σ H _ I h) fun v s1 hz9=>?_);obtain⟨x,H1,I1,r1,q1⟩:=hz9;obtain⟨c,rfl,q1⟩:=q1;cases r1;refine wpAny_truthy_bool ?_;cases c with
 |true=>exact hb pins s1 σ H1 Q I1 q1
 |false=>exact⟨.bl false,H1,I1,rfl,q1⟩
end
open PySem PySem.Spec PyProof.Rows
def SqL(K:PySem.W.Frag)(H:Hp)(a:Addr)(xs:List V):Prop :=
 Rd H a (.lst xs) \/
  ∃(o:Obj) (its:Array Value) (n:Nat),K.lookup a=some o/\o.cls=.type "list"/\o.dict=none/\o.data=.seq its n/\its.size<=sizeLine/\Vals xs its.toList
def SqT(K:PySem.W.Frag)(H:Hp)(a:Addr)(xs:List V):Prop :=
 Rd H a (.tup xs) \/
  ∃(o:Obj) (its:Array Value) (n:Nat),K.lookup a=some o/\o.cls=.type "tuple"/\o.data=.seq its n/\its.size<=sizeLine/\Vals xs its.toList
def C9:Value->Option V
 |.none=>some .non
 |.bool b=>some (.bl b)
 |.int i _=>some (.int i)
 |.str x _=>some (.str x)
 |.bytes b _=>some (.byt b)
 |.float b _=>some (.flt b)
 |.ref a=>some (.ref a)
 |.type n=>some (.ty n)
 |_=>none
theorem RelV.abs{x:V}{u:Value}(r:RelV x u):C9 u=some x:=by
 cases x with
 |non=>cases r;rfl
 |bl _=>cases r;rfl
 |int _=>obtain⟨t,rfl⟩:=r;rfl
 |str _=>obtain⟨t,rfl⟩:=r;rfl
 |byt _=>obtain⟨t,rfl⟩:=r;rfl
 |flt _=>obtain⟨t,rfl⟩:=r;rfl
 |ref _=>cases r;rfl
 |ty _=>cases r;rfl
theorem RelV.inj{x y:V}{u:Value}(r:RelV x u)(q:RelV y u):x=y:=Zi (r.abs.symm.trans q.abs)
theorem Vals.inj:∀{xs ys:List V} {us:List Value},Vals xs us->Vals ys us->xs=ys
 |_,_,_,.nil,.nil=>rfl
 |_,_,_,.cons r t,.cons r' t'=>by rw[r.inj r',Vals.inj t t']
section
variable{X:Cx}{pins:List (Addr×Obj)}{σ:St}{H:Hp}{s:Shared}{a:Addr}{xs ys:List V}
theorem SqL.of{K:PySem.W.Frag}(h:H a=some (.lst xs)):SqL K H a xs:=.inl (.inl h)
theorem SqT.of{K:PySem.W.Frag}(h:H a=some (.tup xs)):SqT K H a xs:=.inl (.inl h)
theorem Inv.list(I:Inv X pins σ H s)(h:SqL X.K H a xs):∃its:List Value,Vals xs its/\PlainL s.heap a its.toArray/\xs.length<=sizeLine:=by
 rcases h with h|⟨o,its,n,hk,hc,hd,hs,hz,r⟩
 ·obtain⟨z,its,n,r,e⟩:=h.ok I.hok;exact⟨its,r,⟨_,n,e,rfl,rfl,rfl⟩,z⟩
 ·refine⟨its.toList,r,⟨o,n,I.kIn a o hk,hc,hd,by simpa using hs⟩,?_⟩;have e:=r.length;simp only[Zs]at e;omega
theorem Inv.tuple(I:Inv X pins σ H s)(h:SqT X.K H a xs):∃its:List Value,Vals xs its/\IsTup s.heap a its.toArray/\xs.length<=sizeLine:=by
 rcases h with h|⟨o,its,n,hk,hc,hs,hz,r⟩
 ·obtain⟨z,its,r,p⟩:=h.ok I.hok;exact⟨its,r,p,z⟩
 ·refine⟨its.toList,r,⟨o,I.kIn a o hk,hc,n,by simpa using hs⟩,?_⟩;have e:=r.length;simp only[Zs]at e;omega
theorem Inv.list_inj(I:Inv X pins σ H s)(h:SqL X.K H a xs)(h':SqL X.K H a ys):xs=ys:=by
 obtain⟨its,r,⟨o,n,e,_,_,d⟩,_⟩:=I.list h;obtain⟨its',r',⟨o',n',e',_,_,d'⟩,_⟩:=I.list h';rw[e]at e';cases e';rw[d]at d';injection d' with d1 _;have:its=its':=by simpa using ZW Array.toList d1
 subst this;exact r.inj r'
end
abbrev Cx.wish(X:Cx)(E:Value->Shared->Prop):Cx:={ X with xe:=E }
abbrev Cx.nox(X:Cx):Cx:=X.wish fun _ _=>False
theorem Cx.Ok.wish{X:Cx}(ok:X.Ok)(E:Value->Shared->Prop):(X.wish E).Ok :=
 ⟨ok.mod,ok.kind,ok.glob,ok.blt,ok.above,ok.inj,ok.has,ok.cab,ok.hd,ok.frames,ok.stk,ok.exf,ok.bs,ok.bsz,ok.noex,ok.exfs,ok.funs,ok.frf⟩
theorem Cx.Ok.unwish{X:Cx}{E:Value->Shared->Prop}(ok:(X.wish E).Ok):X.Ok :=
 ⟨ok.mod,ok.kind,ok.glob,ok.blt,ok.above,ok.inj,ok.has,ok.cab,ok.hd,ok.frames,ok.stk,ok.exf,ok.bs,ok.bsz,ok.noex,ok.exfs,ok.funs,ok.frf⟩
section
variable{X:Cx}{pins:List (Addr×Obj)}{σ:St}{H:Hp}{s:Shared}{E:Value->Shared->Prop}
theorem Inv.wish(I:Inv X pins σ H s)(E:Value->Shared->Prop):Inv (X.wish E) pins σ H s:=⟨I.ok.wish E,I.os,I.bare,I.base,I.loc,I.cell,I.free,I.freeC,I.pin,I.hok,I.len⟩
theorem Inv.unwish(I:Inv (X.wish E) pins σ H s):Inv X pins σ H s:=⟨I.ok.unwish,I.os,I.bare,I.base,I.loc,I.cell,I.free,I.freeC,I.pin,I.hok,I.len⟩
theorem SP.unwish{D:Ends}{f:Flow}{s':Shared}(h:SP (X.wish E) pins D f s'):SP X pins D f s':=by
 cases f with
 |next=>obtain⟨σ',H',I,q⟩:=h;exact⟨σ',H',I.unwish,q⟩
 |brk=>obtain⟨σ',H',I,q⟩:=h;exact⟨σ',H',I.unwish,q⟩
 |cont=>obtain⟨σ',H',I,q⟩:=h;exact⟨σ',H',I.unwish,q⟩
 |ret u=>obtain⟨v,σ',H',I,r,q⟩:=h;exact⟨v,σ',H',I.unwish,r,q⟩
theorem PSs.nox{st:List Stmt}{t:TS}(h:PSs X.nox st t):PSs X st t:=fun pins s σ H D I hw =>
 ZH (h pins s σ H D (I.wish _) hw) (fun _ _ q=>q.unwish) fun _ _ z=>False.elim z
end
section
variable{X:Cx}{st:Stmt}{rest:List Stmt}{t u:TS}{e:Expr}{te:TE}{pos:Pos}
def xF:TS:=fun D σ H=>D.nx σ H
def BR(t u:TS):TS:=fun D σ H=>t { D with nx:=u D } σ H
theorem yP:PSs X [] xF:=fun _ _ σ H _ I h=>wpAny_execs_nil ⟨σ,H,I,h⟩
theorem wm(h1:PS X st t)(h2:PSs X rest u):PSs X (st::rest) (BR t u):=by
 intro pins s σ H D I h;refine wpAny_execs_cons (thn (h1 pins s σ H { D with nx:=u D } I h) fun f s1 q=>?_);cases f with
 |next =>obtain⟨σ',H',I',q⟩:=q;exact h2 pins s1 σ' H' D I' q
 |ret v=>exact q
 |brk=>exact q
 |cont=>exact q
theorem yQ(h1:PS X st t):PSs X [st] t:=by
 intro pins s σ H D I h;refine wpAny_execs_cons (thn (h1 pins s σ H D I h) fun f s1 q=>?_);cases f with
 |next=>exact wpAny_execs_nil q
 |ret v=>exact q
 |brk=>exact q
 |cont=>exact q
theorem Inv.quiet{pins:List (Addr×Obj)}{σ:St}{H:Hp}{s:Shared}(I:Inv X pins σ H s):interactive X.env=false:=by simp[interactive,I.ok.kind]
def xD(te:TE):TS:=fun D σ H=>te σ H fun _ H1=>D.nx σ H1
theorem yN(he:PE X e te)(hs:swapsWith e none pos.line X.env=pure false:=by rfl):PS X (.Expr e pos) (xD te):=by intro pins s σ H D I h;exact wpAny_Expr_any (thn (he pins s σ H _ I h) fun v s1 ⟨x,H1,I1,r1,q1⟩=>⟨σ,H1,I1,q1⟩) I.quiet hs
def BQ(te:TE):TS:=fun D σ H=>te σ H D.rt
theorem Be(he:PE X e te):PS X (.Return (some e) pos) (BQ te):=by intro pins s σ H D I h;exact wpAny_Return_some (thn (he pins s σ H _ I h) fun v s1 ⟨x,H1,I1,r1,q1⟩=>⟨x,σ,H1,I1,r1,q1⟩)
def BM(c:TT)(t u:TS):TS:=fun D σ H=>c σ H fun b H1=>if b=true then t D σ H1 else u D σ H1
theorem CG{c:Expr}{a b:List Stmt}{tc:TT}(hc:PT X c tc)(ha:PSs X a t)(hb:PSs X b u):PS X (.If c a b pos) (BM tc t u):=by
 intro pins s σ H D I h;refine wpAny_If (thn (hc pins s σ H _ I h) fun d s1 ⟨H1,I1,q1⟩=>?_);cases d with
 |true=>exact ha pins s1 σ H1 D I1 q1
 |false=>exact hb pins s1 σ H1 D I1 q1
end
abbrev TG:=V->St->Hp->(St->Hp->Prop)->Prop
abbrev TGs:=List V->St->Hp->(St->Hp->Prop)->Prop
def PG(X:Cx)(target:Expr)(t:TG):Prop :=
 ∀(pins:List (Addr×Obj)) (s:Shared) (σ:St) (H:Hp) (v:V) (u:Value) (Q:St->Hp->Prop),Inv X pins σ H s->RelV v u->t v σ H Q ->
  wpAny (model X.prog X.w) X.A (assign target X.env u) (fun _ s'=>∃σ' H',Inv X pins σ' H' s'/\Q σ' H') X.xe s
def PGs(X:Cx)(ts:List Expr)(t:TGs):Prop :=
 ∀(pins:List (Addr×Obj)) (s:Shared) (σ:St) (H:Hp) (vs:List V) (us:List Value) (Q:St->Hp->Prop),Inv X pins σ H s->Vals vs us->t vs σ H Q ->
  wpAny (model X.prog X.w) X.A (assignInOrder ((assignEach ts X.env).map (·.2)) us) (fun _ s'=>∃σ' H',Inv X pins σ' H' s'/\Q σ' H') X.xe s
abbrev zH:=V->V->V->Hp->(Hp->Prop)->Prop
def C8(X:Cx)(t:zH):Prop :=
 ∀(pins:List (Addr×Obj)) (s:Shared) (σ:St) (H:Hp) (o i v:V) (ov iv u:Value) (Q:Hp->Prop),Inv X pins σ H s->RelV o ov->RelV i iv->RelV v u->t o i v H Q ->
  wpAny (model X.prog X.w) X.A (setItem ov iv u) (fun _ s'=>∃H',Inv X pins σ H' s'/\Q H') X.xe s
abbrev TIp:=V->V->Hp->VK->Prop
def PIp(X:Cx)(op:Operator)(t:TIp):Prop :=
 ∀(pins:List (Addr×Obj)) (s:Shared) (σ:St) (H:Hp) (x y:V) (v u:Value) (Q:VK),Inv X pins σ H s->RelV x v->RelV y u->t x y H Q ->
  wpAny (model X.prog X.w) X.A (inplaceOp op v u) (EP X pins σ Q) X.xe s
section
variable{X:Cx}{pos:Pos}
def dg(i:Nat):TG:=fun v σ H Q=>Q (σ.set i (some v)) H
theorem yG{i:Nat}{x:Str}(hN:X.N.Nodup)(hi:X.N[i]?=some x)(hx:Loc X.env.scope x)(hf:X.fn x=true\/X.env.scope.names.lookup x=some .local:=by first|exact .inl rfl|exact .inr rfl|assumption):PG X (.Name x pos) (dg i):=by intro pins s σ H v u Q I r h;exact wpAny_assign_Name (jK I hN hi hx r (fun s' I'=>⟨_,H,I',h⟩) hf)
def vE:TGs:=fun vs σ H Q=>vs=[]/\Q σ H
def ny(t:TG)(u:TGs):TGs:=fun vs σ H Q=>∃v r,vs=v::r/\t v σ H fun σ' H'=>u r σ' H' Q
theorem yH:PGs X [] vE:=by intro pins s σ H vs us Q I r h;obtain⟨e,h⟩:=h;subst e;cases r;exact assignInOrder_nil ⟨σ,H,I,h⟩
theorem wc{e:Expr}{es:List Expr}{t:TG}{u:TGs}(h1:PG X e t)(h2:PGs X es u)(hs:(assignEach (e::es) X.env).map (·.2)=assign e X.env::(assignEach es X.env).map (·.2):=by rfl):PGs X (e::es) (ny t u):=by
 intro pins s σ H vs us Q I r h;obtain⟨v,vr,e1,h⟩:=h;subst e1;cases r with
 |cons r rr =>rw[hs];refine assignInOrder_cons (thn (h1 pins s σ H _ _ _ I r h) fun _ s1 ⟨σ1,H1,I1,q1⟩=>?_);exact h2 pins s1 σ1 H1 _ _ Q I1 rr q1
def vF(K:PySem.W.Frag)(n:Nat)(t:TGs):TG:=fun v σ H Q=>∃a xs,v=.ref a/\SqT K H a xs/\xs.length=n/\t xs σ H Q
theorem A5{es:List Expr}{k:Nat}{t:TGs}{n:Nat}(hc:X.calm=true)(h:PGs X es t)(hn:(assignEach es X.env).length=n:=by rfl)(hst:(assignEach es X.env).findIdx? (·.1)=none:=by rfl):PG X (.Tuple es k pos) (vF X.K n t):=by intro pins s σ H v u Q I r hw;obtain⟨a,xs,e1,hq,hl,hw⟩:=hw;subst e1;cases r;obtain⟨its,rv,ht,hz⟩:=I.tuple hq;refine assign_Tuple_tuple (I.ok.hd hc) ht (by simp[hn,<-hl,rv.length]) hst fun h' hx=>?_;have I1:Inv X pins σ H { s with heap:=h' }:=I.kept (t':=s.toks) fun b o e=>hx b o (Zy (Zl e)) e;exact h pins _ σ H xs _ Q I1 (by simpa using rv) hw
def sE(te:TE)(g:TG):TS:=fun D σ H=>te σ H fun x H1=>g x σ H1 D.nx
theorem Bf{i:Nat}{x:Str}{e:Expr}{te:TE}{pos':Pos}(hN:X.N.Nodup)(hi:X.N[i]?=some x)(hx:Loc X.env.scope x)(he:PE X e te)(hs:swapsWith e (some (.Name x pos')) pos.line X.env=pure false:=by rfl)(hf:X.fn x=true\/X.env.scope.names.lookup x=some .local:=by first|exact .inl rfl|exact .inr rfl|assumption) :
  PS X (.Assign [.Name x pos'] e pos) (sE te (dg i)):=by
 intro pins s σ H D I h;refine wpAny_Assign_Name (thn (he pins s σ H _ I h) fun v s1 hz9=>?_) hs;obtain⟨y,H1,I1,r1,q1⟩:=hz9;exact jK I1 hN hi hx r1 (fun s2 I2=>⟨_,H1,I2,q1⟩) hf
end
section
variable{X:Cx}{pos:Pos}
def uS(c:TT)(tb:TS):TS:=fun D σ H=>∃W:Nat->St->Hp->Prop,(∃m,W m σ H)/\∀m σ H,W m σ H ->
 c σ H fun b H1=>if b=true then∃N:St->Hp->Prop,(∀σ' H',N σ' H'->∃m',m'<m/\W m' σ' H')/\tb { D with nx:=N,ct:=N,bk:=D.nx } σ H1 else D.nx σ H1
theorem wj{c:Expr}{body:List Stmt}{tc:TT}{tb:TS}(hp:PassesOwn (model X.prog X.w) X.A X.env X.xe)(hc:PT X c tc)(hb:PSs X body tb):PS X (.While c body [] pos) (uS tc tb):=by
 intro pins s σ H D I h;obtain⟨W,⟨m0,w0⟩,turn⟩:=h;refine wpAny_While (codeAny_whileLoop (fun n s'=>∃σ' H',Inv X pins σ' H' s'/\W n σ' H') ?_ m0 ⟨σ,H,I,w0⟩);rintro n s1 ⟨σ1,H1,I1,w1⟩;refine wpAny_passesOwn hp (thn (hc pins s1 σ1 H1 _ I1 (turn n σ1 H1 w1)) fun b s2 ⟨H2,I2,q2⟩=>?_);cases b with
 |true =>
  obtain⟨N,hN,q2⟩:=q2;rw[if_pos rfl];refine wpAny_passesOwn hp (thn (hb pins s2 σ1 H2 _ I2 q2) fun f s3 q3=>?_);cases f with
  |next =>obtain⟨σ3,H3,I3,n3⟩:=q3;obtain⟨m',hm,w3⟩:=hN σ3 H3 n3;exact⟨m',hm,σ3,H3,I3,w3⟩
  |cont =>obtain⟨σ3,H3,I3,n3⟩:=q3;obtain⟨m',hm,w3⟩:=hN σ3 H3 n3;exact⟨m',hm,σ3,H3,I3,w3⟩
  |brk=>exact q3
  |ret v=>exact q3
 |false =>rw[if_neg Zm];exact wpAny_execs_nil ⟨σ1,H2,I2,q2⟩
end
structure It where
 go:Nat->Hp->Prop
 yld:Nat->Hp->V->Hp->Prop
 stop:Nat->Hp->Prop
def aX(X:Cx)(pins:List (Addr×Obj))(H:Hp)(b:Addr):Prop :=
 H b=none/\b≠X.env.locals/\b∉X.fs/\(b∈X.ex\/X.s₀.heap.objs.size<=b)/\(∀x c,X.env.cells.lookup x=some c->c≠b)/\∀p∈X.pn++pins,p.1≠b
theorem Inv.fpOk{X:Cx}{pins:List (Addr×Obj)}{σ:St}{H H':Hp}{s:Shared}{b:Addr}(I:Inv X pins σ H s)(hb:s.heap.objs.size<=b)(hn:H' b=none):aX X pins H' b:=by
 refine⟨hn,Yz (Zv I.lt hb),I.nofs hb,.inr (ZB I.sz hb),fun x c e z=>?_,fun p hp z=>?_⟩
 ·obtain⟨v,q⟩:=I.cell x c e;exact absurd (Zv q.lt (by rw[z];exact hb)) (Yr _)
 ·exact absurd (Zv (Zl (I.pin p hp).1) (by rw[z];exact hb)) (Yr _)
structure Turn(P:Program)(w:World)(K:PySem.W.Frag)(tg:Expr)(J:It)(fp:List Addr)(it:Addr)(tn:Nat->Heap->Prop):Prop where
 mem:it∈fp
 obj:∀i h,tn i h->∀b∈fp,∃o,h.get? b=some o/\∀v,o.data≠.cell v
 keep:∀i h h',tn i h->(∀b∈fp,∀o,h.get? b=some o->h'.get? b=some o)->tn i h'
 item:∀(X:Cx),X.prog=P->X.w=w->X.K=K->X.calm=true->∀(i:Nat) (pins:List (Addr×Obj)) (s:Shared) (σ:St) (H:Hp) (E:Value->Shared->Prop),Inv X pins σ H s->(∀b∈fp,aX X pins H b)->tn i s.heap->J.go i H ->
  wpAny (model P w) X.A (pyNext (.ref it)) (fun r s1=>∃ u,r=some u /\
   wpAny (model P w) X.A (letOwnedTupleGo tg (.ref it) u) (fun _ s2=>∃ x H',Inv X pins σ H' s2/\RelV x u/\J.yld i H x H'/\tn (i+1) s2.heap/\∀ b∈fp,H' b=none) E s1) E s
 done:∀(X:Cx),X.prog=P->X.w=w->X.K=K->X.calm=true->∀(i:Nat) (pins:List (Addr×Obj)) (s:Shared) (σ:St) (H:Hp) (E:Value->Shared->Prop),Inv X pins σ H s->(∀b∈fp,aX X pins H b)->tn i s.heap->J.stop i H ->
  wpAny (model P w) X.A (pyNext (.ref it)) (fun r s1=>r=none/\Inv X pins σ H s1) E s
 self:∀(A:Around) (i:Nat) (s:Shared) (Q:Value->Shared->Prop) (E:Value->Shared->Prop),tn i s.heap->Q (.ref it) s->wpAny (model P w) A (pyIter (.ref it)) Q E s
abbrev TI:=St->Hp->(It->Hp->Prop)->Prop
def PIE(X:Cx)(pins:List (Addr×Obj))(σ:St)(tg:Expr)(R:It->Hp->Prop)(itv:Value)(s2:Shared):Prop :=
 ∃(it:Addr) (fp:List Addr) (tn:Nat->Heap->Prop) (J:It) (H':Hp),itv=.ref it/\Inv X pins σ H' s2/\Turn X.prog X.w X.K tg J fp it tn/\tn 0 s2.heap/\(∀b∈fp,aX X pins H' b)/\R J H'
def PI(X:Cx)(tg iter:Expr)(wi:TI):Prop :=
 ∀(pins:List (Addr×Obj)) (s:Shared) (σ:St) (H:Hp) (R:It->Hp->Prop),Inv X pins σ H s->wi σ H R ->
  wpAny (model X.prog X.w) X.A (eval iter X.env) (fun v s1=>wpAny (model X.prog X.w) X.A (pyIter v) (PIE X pins σ tg R) X.xe s1) X.xe s
theorem rB{M:Model}{A:Around}{E:Value->Shared->Prop}{s:Shared}{tg:Expr}{it:Addr}{u:Value}{o:Obj}{n:String}{vs:Array Value}{Q:Unit->Shared->Prop}(ho:s.heap.get? it=some o)(hc:o.cls=.type n)(hd:o.data=.fields vs)(hn:["enumerate","zip","dict_itemiterator","dict_reverseitemiterator","odict_iterator","itertools.zip_longest","itertools.pairwise"].contains n=false)(hQ:Q () s):wpAny M A (letOwnedTupleGo tg (.ref it) u) Q E s:=by
 unfold letOwnedTupleGo;cases tg<;>first
  |exact z9 hQ
  | (cases u<;>first
    |exact z9 hQ
    | (refine z6 (wpAny_load ho ?_)
       rw[hc,hd];show wpAny M A (if(["enumerate","zip","dict_itemiterator","dict_reverseitemiterator","odict_iterator","itertools.zip_longest","itertools.pairwise"].contains n&&vs[0]?==some (rawInt _))=true then _ else _) Q E s;rw[if_neg (by intro h;rw[hn,Bool.false_and]at h;cases h)];exact z9 hQ))
def Itl(K:PySem.W.Frag)(a:Addr):It :=
 ⟨fun i H=>∃xs x,SqL K H a xs/\xs[i]?=some x,fun i H x H'=>H'=H/\∀xs,SqL K H a xs->xs[i]?=some x,fun i H=>∃xs,SqL K H a xs/\xs.length<=i⟩
def Itr(lo:Int)(n:Nat):It:=⟨fun i _=>i<n,fun i H x H'=>H'=H/\x=.int (lo+i),fun i _=>n<=i⟩
theorem uU{P:Program}{w:World}{K:PySem.W.Frag}{tg:Expr}(a it:Addr):Turn P w K tg (Itl K a) [it] it (fun i h=>h.IsListIter it a i) where
 mem:=by simp
 obj:=fun i h st b hb=>by
  have e:b=it:=by simpa using hb
  subst e;obtain⟨o,e,c,d⟩:=st;exact⟨o,e,fun v z=>by rw[d]at z;cases z⟩
 keep:=fun i h h' st k=>st.at fun o e=>k it (by simp) o e
 item:=by intro X hP hw hK hc i pins s σ H E I hf st hg;subst hP hw hK;obtain⟨xs,x,hq,hx⟩:=hg;obtain⟨its,rv,p,hz⟩:=I.list hq;obtain⟨u,hu,ru⟩:=rv.get hx;obtain⟨f0,f1,f2,f3,f4,f5⟩:=hf it (by simp);refine wpAny_pyNext_list_item st p.isList (x:=u) (by simpa using hu) fun h' st' sb=>?_;have I1:Inv X pins σ H { s with heap:=h' }:=I.turned (t':=s.toks) (fun b o hb e=>(sb.2 b hb).trans e) f0 f1 f3 f4 f5;obtain⟨o,e,c,d⟩:=id st';exact⟨u,rfl,rB (s:={ s with heap:=h' }) e c d (by decide) ⟨x,H,I1,ru,⟨rfl,fun ys hy=>by rw[I.list_inj hy hq];exact hx⟩,st',fun b hb=>(hf b hb).1⟩⟩
 done:=by intro X hP hw hK hc i pins s σ H E I hf st hg;subst hP hw hK;obtain⟨xs,hq,hx⟩:=hg;obtain⟨its,rv,p,hz⟩:=I.list hq;obtain⟨f0,f1,f2,f3,f4,f5⟩:=hf it (by simp);have hl:=rv.length;exact wpAny_pyNext_list_end (I.ok.hd hc) st p.isList (by simp;omega) fun h' eb=>⟨rfl,I.turned (t':=s.toks) (fun b o hb e=>eb b o hb e) f0 f1 f3 f4 f5⟩
 self:=fun _ _ _ _ _ st h=>wpAny_pyIter_listiter st h
theorem sI{P:Program}{w:World}{K:PySem.W.Frag}{tg:Expr}(it:Addr)(lo:Int)(n:Nat):Turn P w K tg (Itr lo n) [it] it (fun i h=>IsRangeIter h it (lo+(i:Nat)*1) ((n:Int)-(i:Nat)) 1) where
 mem:=by simp
 obj:=fun i h st b hb=>by
  have e:b=it:=by simpa using hb
  subst e;exact⟨_,st,fun v z=>by
   have z':Data.fields _=Data.cell v:=z;cases z'⟩
 keep:=fun i h h' st k=>k it (by simp) _ st
 item:=by intro X hP hw hK hc i pins s σ H E I hf st hg;subst hP hw hK;obtain⟨f0,f1,f2,f3,f4,f5⟩:=hf it (by simp);have W:=Walks.range (prog:=X.prog) (w:=X.w) (I.ok.hd hc) it lo 1 n;refine W.item i s _ _ hg st fun v h' tk hv st' kk=>?_;obtain⟨t,rfl⟩:=hv;have I1:Inv X pins σ H { s with heap:=h',toks:=tk }:=I.turned (fun b o hb e=>kk b o (by simpa using hb) e) f0 f1 f3 f4 f5;refine⟨_,rfl,rB (s:={ s with heap:=h',toks:=tk }) (n:="range_iterator") st' rfl rfl (by decide) ⟨.int (lo+i),H,I1,⟨t,?_⟩,⟨rfl,rfl⟩,st',fun b hb=>(hf b hb).1⟩⟩;rw[Int.mul_one]
 done:=by intro X hP hw hK hc i pins s σ H E I hf st hg;subst hP hw hK;obtain⟨f0,f1,f2,f3,f4,f5⟩:=hf it (by simp);exact wpAny_pyNext_range_end (I.ok.hd hc) st (by have:n<=i:=hg;omega) fun h' eb=>⟨rfl,I.turned (t':=s.toks) (fun b o hb e=>eb b o hb e) f0 f1 f3 f4 f5⟩
 self:=fun _ _ _ _ _ st h=>wpAny_pyIter_rangeiter st h
open PySem PySem.Spec PyProof.Rows
section
variable{X:Cx}{tg:Expr}
def xb(K:PySem.W.Frag)(tl:TE):TI:=fun σ H R=>tl σ H fun x H1=>∃a,x=.ref a/\(∃xs,SqL K H1 a xs)/\R (Itl K a) H1
theorem yI{l:Expr}{tl:TE}(hl:PE X l tl):PI X tg l (xb X.K tl):=by
 intro pins s σ H R I h;refine thn (hl pins s σ H _ I h) fun v s1 hz9=>?_;obtain⟨x,H1,I1,r1,q1⟩:=hz9;obtain⟨a,e,⟨xs,hq⟩,q⟩:=q1;subst e;cases r1;obtain⟨its,rv,p,hz⟩:=I1.list hq;refine wpAny_pyIter_list p.isList ?_;refine⟨s1.heap.objs.size,[s1.heap.objs.size],_,_,H1,rfl,I1.kept (t':=s1.toks) fun b o e=>Za _ e,uU a _,⟨_,Zn _ rfl,rfl,rfl⟩,fun b hb=>?_,q⟩;have e:b=s1.heap.objs.size:=by simpa using hb
 subst e;exact I1.fpOk (Zd _) (I1.hok.fresh (Zd _))
theorem wz{pins:List (Addr×Obj)}{σ:St}{H:Hp}{s:Shared}{R:It->Hp->Prop}{E:Value->Shared->Prop}{lo hi:Int}{t u v:Tok}{tk:Nat}(I:Inv X pins σ H s)(h1:-(2^62)<=lo)(h2:lo<2^62)(h3:-(2^62)<=hi)(h4:hi<2^62)(q:R (Itr lo (hi-lo).toNat) H):wpAny (model X.prog X.w) X.A (pyIter (.ref s.heap.objs.size)) (PIE X pins σ tg R) E { s with heap:=s.heap.push { cls:=.type "range",data:=.fields #[.int lo t,.int hi u,.int 1 v] },toks:=tk }:=by
 refine wpAny_pyIter_range (IsRange.new ..) (small_one h1 h2 h3 h4) ?_;have I1:Inv X pins σ H { s with heap:=s.heap.push { cls:=.type "range",data:=.fields #[.int lo t,.int hi u,.int 1 v] },toks:=tk }:=I.kept fun b o e=>Za _ e;refine⟨(s.heap.push { cls:=.type "range",data:=.fields #[.int lo t,.int hi u,.int 1 v] }).objs.size,[(s.heap.push { cls:=.type "range",data:=.fields #[.int lo t,.int hi u,.int 1 v] }).objs.size],_,_,H,rfl,
  I1.kept (t':=tk) fun b o e=>Za _ e,sI _ lo (hi - lo).toNat,?_,fun b hb=>?_,q⟩
 ·have e1:lo+((0:Nat):Int)*1=lo:=by simp
  have e2:(((hi-lo).toNat:Nat):Int)-((0:Nat):Int)=Builtin.Range.rangeSize lo hi 1:=by rw[rangeSize_one];split<;>omega
  show IsRangeIter _ _ (lo+((0:Nat):Int)*1) ((((hi-lo).toNat:Nat):Int)-((0:Nat):Int)) 1;rw[e1,e2];exact Zn _ rfl
 ·have e:b=(s.heap.push { cls:=.type "range",data:=.fields #[.int lo t,.int hi u,.int 1 v] }).objs.size:=by simpa using hb
  subst e;exact I1.fpOk (Zd _) (I1.hok.fresh (Zd _))
def xf(ta:TA):TI:=fun σ H R=>ta σ H fun vs H1=>∃j:Int,vs=[.int j]/\-(2^62)<=j/\j<2^62/\R (Itr 0 j.toNat) H1
theorem uy{a:Expr}{ta:TA}{p pos:Pos}(hg:Gl X "range")(hm:X.mg "range" = none)(ha:PA X [a] ta)(hs:starEach [a] X.env=[(false,eval a X.env)]:=by rfl):PI X tg (.Call (.Name "range" p) [a] [] pos) (xf ta):=by
 intro pins s σ H R I h;refine Call_ (fb I hg hm boot_range (YN (thn (ha pos pins s σ H _ I h) fun us s1 hz9=>?_) hs rfl));obtain⟨vs,H1,I1,r1,q1⟩:=hz9;obtain⟨j,e,q1,q2,q⟩:=q1;subst e;cases r1 with
 |cons r rr =>cases rr;obtain⟨t,rfl⟩:=r;exact call_range_1 (wz I1 (by omega) (by omega) q1 q2 (by simpa using q))
def BL(wi:TI)(g:TG)(tb:TS):TS:=fun D σ H=>wi σ H fun J H1=>∃W:Nat->Nat->St->Hp->Prop,(∃m,W 0 m σ H1)/\∀i m σ H,W i m σ H ->
 (J.stop i H/\D.nx σ H)\/(J.go i H/\∃N:St->Hp->Prop,(∀σ' H',N σ' H'->∃m',m'<m/\W (i+1) m' σ' H')/\∀x H',J.yld i H x H'->g x σ H' fun σ2 H2=>tb { D with nx:=N,ct:=N,bk:=D.nx } σ2 H2)
def iA(fp:List Addr)(h:Heap):List (Addr×Obj):=fp.filterMap fun b=>(h.get? b).map fun o=>(b,o)
theorem eh{fp:List Addr}{h:Heap}{b:Addr}{o:Obj}(hb:b∈fp)(e:h.get? b=some o):(b,o)∈iA fp h:=Ym.mpr ⟨b,hb,by rw[e];rfl⟩
theorem ul{fp:List Addr}{h:Heap}{p:Addr×Obj}(hp:p∈iA fp h):p.1∈fp/\h.get? p.1=some p.2:=by
 obtain⟨b,hb,e⟩:=Ym.mp hp;cases q:h.get? b with
 |none=>rw[q]at e;cases e
 |some o =>rw[q]at e;have e':(b,o)=p:=Zi e;subst e';exact⟨hb,q⟩
theorem Inv.pinned{pins:List (Addr×Obj)}{σ:St}{H:Hp}{s:Shared}{fp:List Addr}(I:Inv X pins σ H s)(hf:∀b∈fp,aX X pins H b)(ho:∀b∈fp,∃o,s.heap.get? b=some o/\∀v,o.data≠.cell v):Inv X (pins++iA fp s.heap) σ H s :=
 I.pins_of fun p hp=>(ZG.mp hp).elim (fun z=>I.pin p (ZJ _ z)) fun z=>by obtain⟨hb,e⟩:=ul z;obtain⟨f0,f1,f2,_⟩:=hf p.1 hb;obtain⟨o,e',d⟩:=ho p.1 hb;rw[e]at e';cases e';exact⟨e,f0,f1,f2,d⟩
theorem Inv.unpinned{pins pl:List (Addr×Obj)}{σ:St}{H:Hp}{s:Shared}(I:Inv X (pins++pl) σ H s):Inv X pins σ H s:=I.pins_of fun p hp=>I.pin p (ZJ _ (List.mem_append_left _ hp))
theorem Bc{iter:Expr}{body:List Stmt}{wi:TI}{g:TG}{tb:TS}{pos:Pos}(hp:PassesOwn (model X.prog X.w) X.A X.env X.xe)(hc:X.calm=true)(hi:PI X tg iter wi)(hg:PG X tg g)(hb:PSs X body tb)(hs:∀x,foldedSetIterable iter X.env x=pure x:=by intro _;rfl):PS X (.For tg iter body [] pos) (BL wi g tb):=by
 intro pins s σ H D I h;refine wpAny_For (thn (hi pins s σ H _ I h) fun v s1 h1=>thn h1 fun itv s2 h2=>?_) hs;obtain⟨it,fp,tn,J,H2,e,I2,T,st2,f2,W,⟨m0,w0⟩,turn⟩:=h2;subst e;have stat:∀{H':Hp},(∀b∈fp,H' b=none)->∀b∈fp,aX X pins H' b:=fun hn b hb=>⟨hn b hb,(f2 b hb).2⟩
 refine codeAny_forLoop_any (fun n s'=>∃i σ' H',Inv X pins σ' H' s'/\tn i s'.heap/\(∀b∈fp,H' b=none)/\W i n σ' H') ?_ m0 ⟨0,σ,H2,I2,st2,fun b hb=>(f2 b hb).1,w0⟩;rintro n s3 ⟨i,σ3,H3,I3,st3,fr3,w3⟩;rcases turn i n σ3 H3 w3 with⟨stop,qn⟩|⟨go,N,hN,step⟩
 ·refine wpAny_passesOwn hp (thn (T.done X rfl rfl rfl hc i pins s3 σ3 H3 X.xe I3 (stat fr3) st3 stop) fun r s4 ⟨hr,I4⟩=>?_);subst hr;exact wpAny_execs_nil ⟨σ3,H3,I4,qn⟩
 ·refine wpAny_passesOwn hp (thn (T.item X rfl rfl rfl hc i pins s3 σ3 H3 X.xe I3 (stat fr3) st3 go) fun r s4 ⟨u,hr,h4⟩=>?_);subst hr;refine wpAny_passesOwn hp (thn h4 fun _ s5 hz9=>?_);obtain⟨x,H5,I5,r5,y5,st5,fr5⟩:=hz9;have I5':=I5.pinned (stat fr5) (T.obj _ _ st5);refine wpAny_passesOwn hp (thn (hg _ s5 σ3 H5 x u _ I5' r5 (step x H5 y5)) fun _ s6 ⟨σ6,H6,I6,q6⟩=>?_);refine wpAny_passesOwn hp (thn (hb _ s6 σ6 H6 _ I6 q6) fun f s7 q7=>?_);have again:∀{σ7:St} {H7:Hp},Inv X (pins++iA fp s5.heap) σ7 H7 s7->N σ7 H7->∃m,m<n/\∃i σ' H',Inv X pins σ' H' s7/\tn i s7.heap/\(∀b∈fp,H' b=none)/\W i m σ' H':=fun{σ7 H7} I7 n7=>by obtain⟨m',hm,w7⟩:=hN σ7 H7 n7;refine⟨m',hm,i+1,σ7,H7,I7.unpinned,T.keep _ _ _ st5 fun b hb o e=>(I7.pin (b,o) (ZJ _ (ZJ _ (eh hb e)))).1,fun b hb=>?_,w7⟩;obtain⟨o,e,d⟩:=T.obj _ _ st5 b hb;exact(I7.pin (b,o) (ZJ _ (ZJ _ (eh hb e)))).2.1
  cases f with
  |next=>obtain⟨σ7,H7,I7,n7⟩:=q7;exact again I7 n7
  |cont=>obtain⟨σ7,H7,I7,n7⟩:=q7;exact again I7 n7
  |brk=>obtain⟨σ7,H7,I7,q7⟩:=q7;exact⟨σ7,H7,I7.unpinned,q7⟩
  |ret v=>obtain⟨x7,σ7,H7,I7,r7,q7⟩:=q7;exact⟨x7,σ7,H7,I7.unpinned,r7,q7⟩
end
theorem jB{K:PySem.W.Frag}{a:Addr}{xs:List V}{g:TG}{tb:TS}{D:Ends}{σ:St}{H:Hp}(Pv:Nat->St->Hp->Prop)(h0:Pv 0 σ H)(hl:∀i σ H,i<=xs.length->Pv i σ H->SqL K H a xs)(hs:∀i x σ H,xs[i]?=some x->Pv i σ H->g x σ H fun σ2 H2=>tb { D with nx:=Pv (i+1),ct:=Pv (i+1),bk:=D.nx } σ2 H2)(hd:∀σ H,Pv xs.length σ H->D.nx σ H) :
  ∃W:Nat->Nat->St->Hp->Prop,(∃m,W 0 m σ H)/\∀i m σ H,W i m σ H ->
   ((Itl K a).stop i H/\D.nx σ H)\/((Itl K a).go i H/\∃N:St->Hp->Prop,(∀σ' H',N σ' H'->∃m',m'<m/\W (i+1) m' σ' H')/\∀x H',(Itl K a).yld i H x H'->g x σ H' fun σ2 H2=>tb { D with nx:=N,ct:=N,bk:=D.nx } σ2 H2):=by
 refine⟨fun i m σ H=>m=xs.length-i/\i<=xs.length/\Pv i σ H,⟨xs.length,by simp,Z7 _,h0⟩,?_⟩;rintro i m σ H ⟨rfl,hi,p⟩;have q:=hl i σ H hi p;by_cases hlt:i<xs.length
 ·refine .inr ⟨⟨xs,xs[i],q,by simp[hlt]⟩,Pv (i+1),fun σ' H' p'=>⟨xs.length-(i+1),by omega,rfl,hlt,p'⟩,fun x H' y=>?_⟩;obtain⟨e,y⟩:=y;subst e;exact hs i x σ _ (y xs q) p
 ·have e:i=xs.length:=by omega
  subst e;exact .inl ⟨⟨xs,q,Zd _⟩,hd σ H p⟩
theorem tF{lo:Int}{n:Nat}{g:TG}{tb:TS}{D:Ends}{σ:St}{H:Hp}(Pv:Nat->St->Hp->Prop)(h0:Pv 0 σ H)(hs:∀i σ H,i<n->Pv i σ H->g (.int (lo+i)) σ H fun σ2 H2=>tb { D with nx:=Pv (i+1),ct:=Pv (i+1),bk:=D.nx } σ2 H2)(hd:∀σ H,Pv n σ H->D.nx σ H) :
  ∃W:Nat->Nat->St->Hp->Prop,(∃m,W 0 m σ H)/\∀i m σ H,W i m σ H ->
   ((Itr lo n).stop i H/\D.nx σ H)\/((Itr lo n).go i H/\∃N:St->Hp->Prop,(∀σ' H',N σ' H'->∃m',m'<m/\W (i+1) m' σ' H')/\∀x H',(Itr lo n).yld i H x H'->g x σ H' fun σ2 H2=>tb { D with nx:=N,ct:=N,bk:=D.nx } σ2 H2):=by
 refine⟨fun i m σ H=>m=n-i/\i<=n/\Pv i σ H,⟨n,by simp,Z7 _,h0⟩,?_⟩;rintro i m σ H ⟨rfl,hi,p⟩;by_cases hlt:i<n
 ·refine .inr ⟨hlt,Pv (i+1),fun σ' H' p'=>⟨n-(i+1),by omega,rfl,hlt,p'⟩,fun x H' y=>?_⟩;obtain⟨e,y⟩:=y;subst e y;exact hs i σ _ hlt p
 ·have e:i=n:=by omega
  subst e;exact .inl ⟨Zd _,hd σ H p⟩
open PySem PySem.Spec PyProof.Rows
abbrev R2:=V->V->Hp->VK->Prop
def OpR(X:Cx)(f:Value->Value->Sem Value)(r:R2):Prop :=
 ∀(pins:List (Addr×Obj)) (s:Shared) (σ:St) (H:Hp) (x y:V) (v u:Value) (Q:VK),Inv X pins σ H s->RelV x v->RelV y u->r x y H Q ->
  wpAny (model X.prog X.w) X.A (f v u) (EP X pins σ Q) X.xe s
def UnR(X:Cx)(f:Value->Sem Value)(r:V->Hp->VK->Prop):Prop :=
 ∀(pins:List (Addr×Obj)) (s:Shared) (σ:St) (H:Hp) (x:V) (v:Value) (Q:VK),Inv X pins σ H s->RelV x v->r x H Q ->
  wpAny (model X.prog X.w) X.A (f v) (EP X pins σ Q) X.xe s
def fB(X:Cx)(f:Value)(r:List V->Hp->VK->Prop):Prop :=
 ∀(pins:List (Addr×Obj)) (s:Shared) (σ:St) (H:Hp) (xs:List V) (us:List Value) (Q:VK),Inv X pins σ H s->Vals xs us->r xs H Q ->
  wpAny (model X.prog X.w) X.A (call f us) (EP X pins σ Q) X.xe s
def tOp(r:R2)(ta tb:TE):TE:=fun σ H Q=>ta σ H fun x H1=>tb σ H1 fun y H2=>r x y H2 Q
def rI(C:Int->Int->Prop)(g:Int->Int->V):R2:=fun x y H Q=>∃i j,x=.int i/\y=.int j/\C i j/\Q (g i j) H
def rI0(g:Int->Int->V):R2:=fun x y H Q=>∃i j,x=.int i/\y=.int j/\Q (g i j) H
section
variable{X:Cx}{a b c:Expr}{ta tb tc:TE}{pos:Pos}
theorem vp(ha:PE X a ta)(hb:PE X b tb){pins:List (Addr×Obj)}{s:Shared}{σ:St}{H:Hp}{R:V->V->Hp->Prop}(I:Inv X pins σ H s)(h:ta σ H fun x H1=>tb σ H1 fun y H2=>R x y H2){Q:Value->Shared->Prop}{f:Value->Value->Sem Value}(hf:∀v u s2 x y H2,Inv X pins σ H2 s2->RelV x v->RelV y u->R x y H2->wpAny (model X.prog X.w) X.A (f v u) Q X.xe s2) :
  wpAny (model X.prog X.w) X.A (eval a X.env) (fun v s₁=>wpAny (model X.prog X.w) X.A (eval b X.env) (fun u s₂=>wpAny (model X.prog X.w) X.A (f v u) Q X.xe s₂) X.xe s₁) X.xe s:=by
 refine thn (ha pins s σ H _ I h) fun v s1 hz9=>?_;obtain⟨x,H1,I1,r1,q1⟩:=hz9;refine thn (hb pins s1 σ H1 _ I1 q1) fun u s2 hz9=>?_;obtain⟨y,H2,I2,r2,q2⟩:=hz9;exact hf v u s2 x y H2 I2 r1 r2 q2
theorem CF{op:Operator}{r:R2}(ho:OpR X (binaryOp op) r)(ha:PE X a ta)(hb:PE X b tb):PE X (.BinOp a op b pos) (tOp r ta tb):=by intro pins s σ H Q I h;exact wpAny_BinOp (vp ha hb I h fun v u s2 x y H2 I2 rx ry q=>ho pins s2 σ H2 x y v u Q I2 rx ry q)
theorem opI{f:Value->Value->Sem Value}{C:Int->Int->Prop}{g:Int->Int->Int}(rule:∀(i j:Int) (t u:Tok) (s:Shared) (Q:Value->Shared->Prop) (E:Value->Shared->Prop),C i j->Q (.int (g i j) s.toks) { s with toks:=s.toks+1 }->wpAny (model X.prog X.w) X.A (f (.int i t) (.int j u)) Q E s) :
  OpR X f (rI C fun i j=>.int (g i j)):=by
 intro pins s σ H x y v u Q I rx ry h;obtain⟨i,j,rfl,rfl,hc,q⟩:=h;obtain⟨t,rfl⟩:=rx;obtain⟨t',rfl⟩:=ry;exact rule i j t t' s _ _ hc ⟨.int (g i j),H,I.tok _,⟨_,rfl⟩,q⟩
theorem AC{f:Value->Value->Sem Value}{g:Int->Int->Int}(rule:∀(i j:Int) (t u:Tok) (s:Shared) (Q:Value->Shared->Prop) (E:Value->Shared->Prop),Q (.int (g i j) s.toks) { s with toks:=s.toks+1 }->wpAny (model X.prog X.w) X.A (f (.int i t) (.int j u)) Q E s) :
  OpR X f (rI0 fun i j=>.int (g i j)):=by
 intro pins s σ H x y v u Q I rx ry h;obtain⟨i,j,rfl,rfl,q⟩:=h;obtain⟨t,rfl⟩:=rx;obtain⟨t',rfl⟩:=ry;exact rule i j t t' s _ _ ⟨.int (g i j),H,I.tok _,⟨_,rfl⟩,q⟩
theorem AB{f:Value->Value->Sem Value}{g:Int->Int->Bool}(rule:∀(i j:Int) (t u:Tok) (s:Shared) (Q:Value->Shared->Prop) (E:Value->Shared->Prop),Q (.bool (g i j)) s->wpAny (model X.prog X.w) X.A (f (.int i t) (.int j u)) Q E s) :
  OpR X f (rI0 fun i j=>.bl (g i j)):=by
 intro pins s σ H x y v u Q I rx ry h;obtain⟨i,j,rfl,rfl,q⟩:=h;obtain⟨t,rfl⟩:=rx;obtain⟨t',rfl⟩:=ry;exact rule i j t t' s _ _ ⟨.bl (g i j),H,I,rfl,q⟩
def zC(i j:Int):Prop:=0<j/\j<1073741824
def zD(i j:Int):Prop:=0<=j/\j<=1000000/\i.natAbs<2^64
def CMul(i j:Int):Prop:=(-(2^64)<i/\i<2^64)\/(-(2^64)<j/\j<2^64)
theorem CMul.ok{i j:Int}(h:CMul i j):IntMulOk i j:=by
 rcases h with⟨h1,h2⟩|⟨h1,h2⟩
 ·exact .of_left (intBits_le_64 h1 h2)
 ·exact .of_right (intBits_le_64 h1 h2)
theorem AD:OpR X (binaryOp .Add) (rI0 fun i j=>.int (i+j)):=AC fun _ _ _ _ _ _ _ q=>add_int q
theorem AL:OpR X (binaryOp .Sub) (rI0 fun i j=>.int (i-j)):=AC fun _ _ _ _ _ _ _ q=>sub_int q
theorem AJ:OpR X (binaryOp .Mult) (rI CMul fun i j=>.int (i*j)):=opI fun _ _ _ _ _ _ _ hc q=>mul_int q hc.ok
theorem yo:OpR X (binaryOp .FloorDiv) (rI zC fun i j=>.int (i / j)):=opI fun i j _ _ _ _ _ hc q=>by have h1:(0:Int)<j:=hc.1;have h2:j<1073741824:=hc.2;exact floordiv_int (by omega) (by rw[Int.fdiv_eq_ediv_of_nonneg i (by omega)];exact q) (.inl (PyProof.noPylong_small (by omega)))
theorem AI:OpR X (binaryOp .Mod) (rI (fun _ j=>0<j) fun i j=>.int (i%j)):=opI fun i j _ _ _ _ _ hc q=>by have h1:(0:Int)<j:=hc;exact mod_int' (by omega) (by rw[Int.fmod_eq_emod_of_nonneg i (by omega)];exact q)
theorem AK:OpR X (binaryOp .Pow) (rI zD fun i j=>.int (i^j.toNat)):=opI fun _ _ _ _ _ _ _ hc q=>pow_int_small hc.1 hc.2.1 hc.2.2 q
end
def BD:V->V->Bool
 |.non,.non=>true|.non,.int _=>true|.int _,.non=>true|.non,.bl _=>true|.bl _,.non=>true|.non,.str _=>true|.str _,.non=>true
 |.int _,.int _=>true|.bl _,.bl _=>true|.str _,.str _=>true|.byt _,.byt _=>true
 |.int _,.str _=>true|.str _,.int _=>true|.bl _,.str _=>true|.str _,.bl _=>true
 |_,_=>false
def rEq:R2:=fun x y H Q=>BD x y=true/\Q (.bl (decide (x=y))) H
def rNe:R2:=fun x y H Q=>BD x y=true/\Q (.bl (!decide (x=y))) H
theorem pV{i j:Int}:decide (V.int i=V.int j)=(i==j):=by rw[Bool.eq_iff_iff];simp
theorem ti{i j:Bool}:decide (V.bl i=V.bl j)=(i==j):=by rw[Bool.eq_iff_iff];simp
theorem pX{i j:Str}:decide (V.str i=V.str j)=(i==j):=by rw[Bool.eq_iff_iff];simp
theorem pU{i j:Array UInt8}:decide (V.byt i=V.byt j)=(i.toList==j.toList):=by rw[Bool.eq_iff_iff];cases i;cases j;simp
section
variable{X:Cx}{a b c:Expr}{ta tb tc:TE}{pos:Pos}
theorem aE{pins:List (Addr×Obj)}{σ:St}{H:Hp}{s:Shared}{Q:VK}{k k':Bool}(I:Inv X pins σ H s)(q:Q (.bl k) H)(e:k=k'):EP X pins σ Q (.bool k') s:=by subst e;exact⟨.bl k,H,I,rfl,q⟩
theorem Cu:OpR X (compareOp .Eq) rEq:=by
 intro pins s σ H x y v u Q I rx ry h;obtain⟨hs,q⟩:=h;cases x with
 |non =>
  cases rx;cases y with
  |non=>cases ry;exact PySem.EqNone.eq_none_none (aE I q (by simp))
  |bl j=>cases ry;exact PySem.EqNone.eq_none_bool (aE I q (by simp))
  |int j=>obtain⟨t',rfl⟩:=ry;exact PySem.EqNone.eq_none_int (aE I q (by simp))
  |str j=>obtain⟨t',rfl⟩:=ry;exact PySem.EqNone.eq_none_str (aE I q (by simp))
  |_=>exact absurd (show false=true from hs) Zm
 |bl i =>
  cases rx;cases y with
  |non=>cases ry;exact PySem.EqNone.eq_bool_none (aE I q (by simp))
  |bl j=>cases ry;exact eq_bool (aE I q ti)
  |str j=>obtain⟨t',rfl⟩:=ry;exact PySem.EqMixed.eq_bool_str (aE I q (by simp))
  |_=>exact absurd (show false=true from hs) Zm
 |int i =>
  obtain⟨t,rfl⟩:=rx;cases y with
  |non=>cases ry;exact PySem.EqNone.eq_int_none (aE I q (by simp))
  |int j=>obtain⟨t',rfl⟩:=ry;exact eq_int (aE I q pV)
  |str j=>obtain⟨t',rfl⟩:=ry;exact PySem.EqMixed.eq_int_str (aE I q (by simp))
  |_=>exact absurd (show false=true from hs) Zm
 |str i =>
  obtain⟨t,rfl⟩:=rx;cases y with
  |non=>cases ry;exact PySem.EqNone.eq_str_none (aE I q (by simp))
  |bl j=>cases ry;exact PySem.EqMixed.eq_str_bool (aE I q (by simp))
  |int j=>obtain⟨t',rfl⟩:=ry;exact PySem.EqMixed.eq_str_int (aE I q (by simp))
  |str j=>obtain⟨t',rfl⟩:=ry;exact eq_str (aE I q pX)
  |_=>exact absurd (show false=true from hs) Zm
 |byt i =>
  obtain⟨t,rfl⟩:=rx;cases y with
  |byt j=>obtain⟨t',rfl⟩:=ry;exact PySem.W.eq_bytes (aE I q pU)
  |_=>exact absurd (show false=true from hs) Zm
 |_=>cases y<;>exact absurd (show false=true from hs) Zm
theorem Cy:OpR X (compareOp .NotEq) rNe:=by
 intro pins s σ H x y v u Q I rx ry h;obtain⟨hs,q⟩:=h;cases x with
 |non =>
  cases rx;cases y with
  |non=>cases ry;exact PySem.EqNone.ne_none_none (aE I q (by simp))
  |bl j=>cases ry;exact PySem.EqNone.ne_none_bool (aE I q (by simp))
  |int j=>obtain⟨t',rfl⟩:=ry;exact PySem.EqNone.ne_none_int (aE I q (by simp))
  |str j=>obtain⟨t',rfl⟩:=ry;exact PySem.EqNone.ne_none_str (aE I q (by simp))
  |_=>exact absurd (show false=true from hs) Zm
 |bl i =>
  cases rx;cases y with
  |non=>cases ry;exact PySem.EqNone.ne_bool_none (aE I q (by simp))
  |bl j=>cases ry;exact ne_bool (aE I q (ZW not ti))
  |str j=>obtain⟨t',rfl⟩:=ry;exact PySem.EqMixed.ne_bool_str (aE I q (by simp))
  |_=>exact absurd (show false=true from hs) Zm
 |int i =>
  obtain⟨t,rfl⟩:=rx;cases y with
  |non=>cases ry;exact PySem.EqNone.ne_int_none (aE I q (by simp))
  |int j=>obtain⟨t',rfl⟩:=ry;exact ne_int (aE I q (ZW not pV))
  |str j=>obtain⟨t',rfl⟩:=ry;exact PySem.EqMixed.ne_int_str (aE I q (by simp))
  |_=>exact absurd (show false=true from hs) Zm
 |str i =>
  obtain⟨t,rfl⟩:=rx;cases y with
  |non=>cases ry;exact PySem.EqNone.ne_str_none (aE I q (by simp))
  |bl j=>cases ry;exact PySem.EqMixed.ne_str_bool (aE I q (by simp))
  |int j=>obtain⟨t',rfl⟩:=ry;exact PySem.EqMixed.ne_str_int (aE I q (by simp))
  |str j=>obtain⟨t',rfl⟩:=ry;exact ne_str (aE I q (ZW not pX))
  |_=>exact absurd (show false=true from hs) Zm
 |byt i =>
  obtain⟨t,rfl⟩:=rx;cases y with
  |byt j=>obtain⟨t',rfl⟩:=ry;exact PySem.W.ne_bytes (aE I q (ZW not pU))
  |_=>exact absurd (show false=true from hs) Zm
 |_=>cases y<;>exact absurd (show false=true from hs) Zm
theorem Cw:OpR X (compareOp .Lt) (rI0 fun i j=>.bl (decide (i<j))):=AB fun _ _ _ _ _ _ _ q=>lt_int q
theorem Cv:OpR X (compareOp .Gt) (rI0 fun i j=>.bl (decide (j<i))):=AB fun _ _ _ _ _ _ _ q=>gt_int q
theorem AH:OpR X (compareOp .Is) (fun x y H Q=>y=.non/\Q (.bl (decide (x=.non))) H):=by
 intro pins s σ H x y v u Q I rx ry h;obtain⟨rfl,q⟩:=h;cases ry;refine is_none_gen (aE I q ?_);cases x<;>first
  |(cases rx;rfl)
  |(obtain⟨t,rfl⟩:=rx;rfl)
theorem yp:OpR X (compareOp .IsNot) (fun x y H Q=>y=.non/\Q (.bl (!decide (x=.non))) H):=by
 intro pins s σ H x y v u Q I rx ry h;obtain⟨rfl,q⟩:=h;cases ry;refine isnot_none_gen (aE I q ?_);cases x<;>first
  |(cases rx;rfl)
  |(obtain⟨t,rfl⟩:=rx;rfl)
theorem tZ(b:Expr){op:CmpOp}(h:op≠.In:=by decide)(h2:op≠.NotIn:=by decide):behindInMarks op b=false:=by
 have e1:(op==CmpOp.In)=false:=by cases op<;>first|rfl|exact absurd rfl h
 have e2:(op==CmpOp.NotIn)=false:=by cases op<;>first|rfl|exact absurd rfl h2
 cases b<;>simp[behindInMarks,e1,e2]
theorem yC{op:CmpOp}{r:R2}(ho:OpR X (compareOp op) r)(ha:PE X a ta)(hb:PE X b tb)(hm:behindInMarks op b=false):PE X (.Compare a [op] [b] pos) (tOp r ta tb):=by intro pins s σ H Q I h;exact wpAny_Compare1 (vp ha hb I h fun v u s2 x y H2 I2 rx ry q=>ho pins s2 σ H2 x y v u Q I2 rx ry q) hm
def xH(t:TE):TT:=fun σ H Q=>t σ H fun x H'=>∃k,x=.bl k/\Q k H'
theorem yR{op:CmpOp}{r:R2}(ho:OpR X (compareOp op) r)(ha:PE X a ta)(hb:PE X b tb)(hm:behindInMarks op b=false):PT X (.Compare a [op] [b] pos) (xH (tOp r ta tb)):=by
 intro pins s σ H Q I h;refine wpAny_isTrue_Compare1 (thn (ha pins s σ H _ I h) fun v s1 ⟨x,H1,I1,r1,q1⟩=>thn (hb pins s1 σ H1 _ I1 q1) fun u s2 ⟨y,H2,I2,r2,q2⟩ =>
  thn (ho pins s2 σ H2 x y v u _ I2 r1 r2 q2) fun c s3 ⟨z,H3,I3,r3,k,e,q3⟩=>?_) hm
 subst e;cases r3;exact wpAny_truthy_bool ⟨H3,I3,q3⟩
theorem oH:(sizeLine:Nat)<2^63:=by rw[sizeLine_eq];decide
theorem eI{x:V}{us:List Value}(r:Vals [x] us):∃u,us=[u]/\RelV x u:=by
 cases r with
 |cons r1 r2=>cases r2;exact⟨_,rfl,r1⟩
theorem lh{x y:V}{us:List Value}(r:Vals [x,y] us):∃u w',us=[u,w']/\RelV x u/\RelV y w':=by
 cases r with
 |cons r1 r2 =>
  cases r2 with
  |cons r3 r4=>cases r4;exact⟨_,_,rfl,r1,r3⟩
theorem sU:fB X (.type "int") (fun xs H Q=>(∃i,xs=[.int i]/\Q (.int i) H)\/∃k,xs=[.bl k]/\Q (.int (if k then 1 else 0)) H):=by
 intro pins s σ H xs us Q I r h;rcases h with⟨i,rfl,q⟩|⟨k,rfl,q⟩
 ·obtain⟨u,rfl,t,rfl⟩:=eI r;exact call_int_int ⟨.int i,H,I,⟨_,rfl⟩,q⟩
 ·obtain⟨u,rfl,r1⟩:=eI r;cases r1;exact call_int_bool ⟨.int (if k then 1 else 0),H,I.tok _,⟨_,rfl⟩,q⟩
end
open PySem PySem.Spec PyProof.Rows
structure ObjM(h:Heap)(x dx C:Addr)(mA:Str->Option Value):Prop where
 obj:h.get? x=some (PySem.W.instObj C dx)
 ns:h.Ns1 dx mA
 ne:dx≠x
theorem mF{h:Heap}{dx:Addr}{mA:Str->Option Value}(n:h.Ns1 dx mA):∃od,h.get? dx=some od/\∀name,PySem.W.lookIn name od=some (mA name):=by
 obtain⟨o,es,ep,ho,hd,hk,_,hm⟩:=n;refine⟨o,ho,fun name=>?_⟩;have e:=hm name;unfold nsFind findBy at e;rw[<-Array.find?_toList]at e;unfold PySem.W.lookIn;rw[hd];dsimp only;split
 ·rename_i y q;rw[q]at e;exact ZW some e
 ·rename_i q;rw[q]at e;have a:es.toList.any (·.refKey)=false:=by rw[List.any_eq_false];intro y hy;obtain⟨z,t,hkey⟩:=hk y (Array.mem_toList_iff.mp hy);simp[DictEntry.refKey,hkey]
  have a':¬es.toList.any (·.refKey)=true:=by rw[a];exact Zm
  rw[if_neg a'];exact ZW some e
theorem ObjM.look{h:Heap}{x dx C:Addr}{mA:Str->Option Value}(I:ObjM h x dx C mA):∃od,PySem.W.InstAt h x (PySem.W.instObj C dx) C (some od)/\∀name,PySem.W.lookIn name od=some (mA name) :=
 let⟨od,ho,hl⟩:=mF I.ns
 ⟨od,⟨I.obj,rfl,rfl,ho⟩,hl⟩
section
variable{prog:Program}{w:World}{A:Around}{E:Value->Shared->Prop}{s:Shared}{K:PySem.W.Frag}{x dx C f:Addr}{mA:Str->Option Value}{name:Str}{v:Value}
theorem xZ{expr:Bool}{Q:Value->Shared->Prop}(X:K.In s.heap)(I:ObjM s.heap x dx C mA)(hg:PySem.W.plainGet K C name=true)(hh:PySem.W.hasDictIn K C=true)(ha:PySem.W.findIn K (.ref C) name=some none)(hv:mA name=some v)(hv':PySem.W.handedIn v=true)(h:Q v { s with toks:=s.toks+1 }) :
  wpAny (model prog w) A (getAttr (.ref x) name expr) Q E s:=by
 obtain⟨od,J,hl⟩:=I.look;exact PySem.W.get_value X J (PySem.W.plainGet_of hg).1 (PySem.W.findObj_own hh ha rfl (by rw[hl,hv])) hv' h
theorem vG{pl:Sem Bool}{Q:Value×List Value->Shared->Prop}(X:K.In s.heap)(I:ObjM s.heap x dx C mA)(hg:PySem.W.plainGet K C name=true)(hf:PySem.W.findIn K (.ref C) name=some (some (.ref f)))(ht:PySem.W.isFn K (.ref f)=true)(hv:mA name=none)(h:Q (.ref f,[.ref x]) s) :
  wpAny (model prog w) A (getMethod (.ref x) name pl) Q E s:=by
 obtain⟨od,J,hl⟩:=I.look;exact PySem.W.method_fn X J (PySem.W.plainGet_of hg).1 (PySem.W.plainGet_of hg).2 hf (ZP.mp ht) (by show(PySem.W.lookIn name od).map (·.isSome)=some false;rw[hl,hv];rfl) h
theorem yX{ns:List Str}{Q:Unit->Shared->Prop}(X:K.In s.heap)(I:ObjM s.heap x dx C mA)(hs:PySem.W.findIn K (.ref C) "__setattr__" = some (some (.builtin "object.__setattr__")))(hp:PySem.W.plainOver K C=true)(ht:PySem.W.takerIn K C name=some none)(hh:PySem.W.hasDictIn K C=true)(hw:PySem.Within mA ns)(hsz:ns.length<=sizeLine)(h:∀h',ObjM h' x dx C (fun y=>if y=name then some v else mA y)->Heap.SameBut dx s.heap h'->Q () { s with heap:=h',toks:=s.toks+2 }) :
  wpAny (model prog w) A (setAttr (.ref x) name v) Q E s:=by
 obtain⟨od,J,hl⟩:=I.look;refine PySem.W.set_plain X J hs (PySem.W.osa_open (s:={ s with toks:=s.toks+1 }) (r:=none) X J hp ht fun b=>?_);obtain⟨cd,hc,hd'⟩:=PySem.W.any_some hh;have hx:s.heap.get? x=some ⟨.ref C,some dx,.plain,#[]⟩:=I.obj;refine z6 (z9 (z6 (z6 (wpAny_loadPart hx (z6 (PySem.W.Looks.here (s:={ s with toks:=s.toks+1 }) (PySem.W.looks_clsIn X hc) ?_))))));rw[hd'];refine z9 (a:=some dx) (z6 (z9 (z6 ?_)));refine wpAny_nsSet1 (s:={ s with toks:=s.toks+1 }) I.ns fun h' hn2 hs2=>?_;obtain⟨oD,esD,epD,hoD,hdD,hcD⟩:=hn2.count (PySem.Within.cons name v hw);refine z6 (wpAny_lookBehind hoD (by rw[hdD];exact pastItsLine_dict (ZB hcD (by rw[Zr];omega))) ?_);exact z9 (h _ ⟨(hs2.2 _ (ZN I.ne)).trans I.obj,hn2,I.ne⟩ hs2)
theorem vN{R:Result->Shared->Prop}{vs:List Value}{kw:List (Str×Value)}(X:K.In s.heap)(hm:PySem.W.makesIn K C=true)(hi:PySem.W.findIn K (.ref C) "__init__" = some (some (.ref f)))(hf:PySem.W.typeIn K (.ref f)=some (.type "function"))(h:codeAny (model prog w) (A.under (.builtin "type.__call__" ⟨.ref C::vs,kw⟩)) (.call (.ref f) ⟨.ref (s.heap.objs.size+1)::vs,kw⟩) (PySem.W.InitBack (s.heap.objs.size+1) R)
   { s with heap:=(s.heap.push PySem.W.emptyDict).push (PySem.W.instObj C s.heap.objs.size) }) :
  codeAny (model prog w) A (.call (.ref C) ⟨vs,kw⟩) R s:=by
 obtain⟨hh,g,d,t,os⟩:=s;exact PySem.W.make_core (PySem.W.makes_of X hm) (PySem.W.looks_findIn X hi) (fun self=>PySem.W.bind_fn X self hf) (.inl rfl) h
end
def cg(f:Str)(v:V):List (Str×V)->List (Str×V)
 | []=>[(f,v)]
 |(g,x)::r=>if g=f then(g,v)::r else(g,x)::cg f v r
theorem bP(f g:Str)(v:V):∀fs:List (Str×V),(cg f v fs).lookup g=if g=f then some v else fs.lookup g
 | []=>by
  show List.lookup g [(f,v)]=_;by_cases h:g=f
  ·have hb:(g==f)=true:=ZP.mpr h;simp only[List.lookup,hb,if_pos h]
  ·have hb:(g==f)=false:=Yp.mpr h;simp only[List.lookup,hb,if_neg h]
 |(k,x)::r=>by
  have ih:=bP f g v r;rw[show cg f v ((k,x)::r)=(if k=f then(k,v)::r else(k,x)::cg f v r)from rfl];by_cases hk:k=f
  ·rw[if_pos hk];by_cases h:g=k
   ·have hb:(g==k)=true:=ZP.mpr h;simp only[List.lookup,hb,if_pos (h.trans hk)]
   ·have hb:(g==k)=false:=Yp.mpr h;simp only[List.lookup,hb,if_neg (fun e:g=f=>h (e.trans hk.symm))]
  ·rw[if_neg hk];by_cases h:g=k
   ·have hb:(g==k)=true:=ZP.mpr h;simp only[List.lookup,hb,if_neg (fun e:g=f=>hk (h.symm.trans e))]
   ·have hb:(g==k)=false:=Yp.mpr h;simp only[List.lookup,hb];exact ih
theorem iu(f:Str)(v:V):∀fs:List (Str×V),f∈(cg f v fs).map (·.1)/\∀g,g∈fs.map (·.1)->g∈(cg f v fs).map (·.1)
 | []=>⟨by simp[cg],fun g h=>by simp at h⟩
 |(k,x)::r=>by
  obtain⟨i1,i2⟩:=iu f v r;rw[show cg f v ((k,x)::r)=(if k=f then(k,v)::r else(k,x)::cg f v r)from rfl];by_cases hk:k=f
  ·rw[if_pos hk];subst hk;exact⟨by simp,fun g h=>by simpa using h⟩
  ·rw[if_neg hk];refine⟨?_,fun g h=>?_⟩
   ·rw[Zx];exact Zh _ i1
   ·rw[Zx]at h ⊢;rcases Zq.mp h with e|e
    ·exact Zq.mpr (.inl e)
    ·exact Zh _ (i2 g e)
theorem jk(f:Str)(v:V):∀fs:List (Str×V),(cg f v fs).length<=fs.length+1
 | []=>by simp[cg]
 |(k,x)::r=>by
  have ih:=jk f v r;rw[show cg f v ((k,x)::r)=(if k=f then(k,v)::r else(k,x)::cg f v r)from rfl];by_cases hk:k=f
  ·rw[if_pos hk,Zr,Zr];omega
  ·rw[if_neg hk,Zr,Zr];omega
theorem RelO.some_of{v:V}{o:Option Value}(r:RelO (some v) o):∃u,o=some u/\RelV v u:=by
 cases o with
 |none=>exact(show False from r).elim
 |some u=>exact⟨u,rfl,r⟩
theorem RelO.none_of{o:Option Value}(r:RelO none o):o=none:=by
 cases o with
 |none=>rfl
 |some u=>exact(show False from r).elim
theorem mD{v:V}{u:Value}(r:RelV v u):PySem.W.handedIn u=true:=by
 cases v with
 |non=>cases(show u=Value.none from r);rfl
 |bl b=>cases(show u=Value.bool b from r);rfl
 |int i=>obtain⟨t,e⟩:=(show∃t,u=Value.int i t from r);cases e;rfl
 |str x=>obtain⟨t,e⟩:=(show∃t,u=Value.str x t from r);cases e;rfl
 |byt b=>obtain⟨t,e⟩:=(show∃t,u=Value.bytes b t from r);cases e;rfl
 |flt b=>obtain⟨t,e⟩:=(show∃t,u=Value.float b t from r);cases e;rfl
 |ref a=>cases(show u=Value.ref a from r);rfl
 |ty n=>cases(show u=Value.type n from r);rfl
section
variable{P:Program}{w:World}{H H':Hp}{h h':Heap}{a C dx:Addr}{fs fs':List (Str×V)}
theorem iP(hok:HOk P w H h)(e:H a=some (.ins C dx fs)):∃mA,ObjM h a dx C mA/\(∀f,RelO (fs.lookup f) (mA f))/\PySem.Within mA (fs.map (·.1))/\fs.length<=1000/\H dx=some (.own a):=by
 obtain⟨d,z,ne,ob,mA,n,r,q⟩:=(show ObjOk P w H h a (.ins C dx fs)from hok a _ e)
 exact⟨mA,⟨ob,n,ne⟩,r,q,z,d⟩
end
structure Cls(K:PySem.W.Frag)(C:Addr):Prop where
 pg:PySem.W.plainGet K C Str.empty=true
 hd:PySem.W.hasDictIn K C=true
 po:PySem.W.plainOver K C=true
 sa:PySem.W.findIn K (.ref C) "__setattr__" = some (some (.builtin "object.__setattr__"))
theorem Cls.get{K:PySem.W.Frag}{C:Addr}(c:Cls K C)(f:Str):PySem.W.plainGet K C f=true:=c.pg
def NoAttr(K:PySem.W.Frag)(C:Addr)(f:Str):Prop:=PySem.W.findIn K (.ref C) f=some none
theorem NoAttr.taker{K:PySem.W.Frag}{C:Addr}{f:Str}(n:NoAttr K C f):PySem.W.takerIn K C f=some none:=by unfold PySem.W.takerIn;rw[show PySem.W.findIn K (.ref C) f=some none from n];rfl
structure Con(K:PySem.W.Frag)(C:Addr)(f:Str)(v:V)(u:Value):Prop where
 at_:PySem.W.findIn K (.ref C) f=some (some u)
 rel:RelV v u
 get:PySem.W.specialIn K u "__get__" = some none
 cp:PySem.W.copiedNames.contains f=false
structure Meth(K:PySem.W.Frag)(C:Addr)(m:Str)(f:Addr):Prop where
 at_:PySem.W.findIn K (.ref C) m=some (some (.ref f))
 fn:PySem.W.isFn K (.ref f)=true
 kp:PySem.W.keepIn K (.ref f)=true
section
variable{X:Cx}{pins:List (Addr×Obj)}{σ:St}{H:Hp}{s:Shared}{a C dx:Addr}{fs:List (Str×V)}{f:Str}{v:V}{A:Around}{E:Value->Shared->Prop}
theorem rA{b:Bool}{Q:Value->Shared->Prop}(I:Inv X pins σ H s)(e:H a=some (.ins C dx fs))(c:Cls X.K C)(n:NoAttr X.K C f)(l:fs.lookup f=some v)(h:∀u s',Inv X pins σ H s'->RelV v u->Q u s'):wpAny (model X.prog X.w) A (getAttr (.ref a) f b) Q E s:=by obtain⟨mA,O,r,_,_,_⟩:=iP I.hok e;obtain⟨u,hu,ru⟩:=RelO.some_of (v:=v) (o:=mA f) (by rw[<-l];exact r f);exact xZ I.kIn O (c.get f) c.hd n hu (mD ru) (h u _ (I.tok _) ru)
theorem gM{m:Str}{g:Addr}{pl:Sem Bool}{Q:Value×List Value->Shared->Prop}(I:Inv X pins σ H s)(e:H a=some (.ins C dx fs))(c:Cls X.K C)(k:Meth X.K C m g)(l:fs.lookup m=none)(h:Q (.ref g,[.ref a]) s):wpAny (model X.prog X.w) A (getMethod (.ref a) m pl) Q E s:=by obtain⟨mA,O,r,_,_,_⟩:=iP I.hok e;have hn:mA m=none:=RelO.none_of (by rw[<-l];exact r m);exact vG I.kIn O (c.get m) k.at_ k.fn hn h
theorem sw{y:V}{u:Value}{Q:Unit->Shared->Prop}(I:Inv X pins σ H s)(e:H a=some (.ins C dx fs))(c:Cls X.K C)(n:NoAttr X.K C f)(hl:fs.length<1000)(ry:RelV y u)(h:∀s',Inv X pins σ (upd H a (.ins C dx (cg f y fs))) s'->Q () s'):wpAny (model X.prog X.w) A (setAttr (.ref a) f u) Q E s:=by
 obtain⟨mA,O,r,wi,_,ho⟩:=iP I.hok e;have hz:(fs.map (·.1)).length<=sizeLine:=by rw[Zu,sizeLine_eq];omega
 refine yX I.kIn O c.sa c.po n.taker c.hd wi hz fun h' O' sb=>h _ ?_;have hd:∃o,h'.get? dx=some o:=let⟨o,_,_,e',_⟩:=O'.ns;⟨o,e'⟩
 refine I.write (x:=a) (e:=dx) (by rw[e];exact True.intro) (.inr ho) (fun b q hb z=>(sb.2 b hb).trans z) hd ?_;refine⟨by rw[af O.ne];exact ho,?_,O.ne,O'.obj,_,O'.ns,fun g=>?_,fun g hg=>?_⟩
 ·have:=jk f y fs;omega
 ·show RelO ((cg f y fs).lookup g) (if g=f then some u else mA g);rw[bP];by_cases q:g=f
  ·rw[if_pos q,if_pos q];exact ry
  ·rw[if_neg q,if_neg q];exact r g
 ·by_cases q:g=f
  ·rw[q];exact(iu f y fs).1
  ·refine(iu f y fs).2 g (wi g fun z=>hg ?_);show(if g=f then some u else mA g)=none;rw[if_neg q];exact z
theorem Inv.made(I:Inv X pins σ H s):Inv X pins σ (upd (upd H s.heap.objs.size (.own (s.heap.objs.size+1))) (s.heap.objs.size+1) (.ins C s.heap.objs.size []))
  { s with heap:=(s.heap.push PySem.W.emptyDict).push (PySem.W.instObj C s.heap.objs.size) }:=by
 have e1:(s.heap.push PySem.W.emptyDict).get? s.heap.objs.size=some PySem.W.emptyDict:=Zn s.heap rfl;have e2:((s.heap.push PySem.W.emptyDict).push (PySem.W.instObj C s.heap.objs.size)).get? (s.heap.objs.size+1)=some (PySem.W.instObj C s.heap.objs.size):=by
  have:=Zn (s.heap.push PySem.W.emptyDict) (o:=PySem.W.instObj C s.heap.objs.size) rfl
  rwa [Heap.size_push]at this
 have e3:(s.heap.push PySem.W.emptyDict).Ns s.heap.objs.size (fun _=>none):=⟨PySem.W.emptyDict,#[],_,e1,rfl,(fun e he=>absurd he (by simp)),fun _=>rfl⟩
 have I1:=I.laid (a:=s.heap.objs.size) (o:=.own (s.heap.objs.size+1)) (h':=s.heap.push PySem.W.emptyDict) (t':=s.toks) (fun b u q=>Za _ q) (Zd _) ⟨_,e1⟩;refine I1.laid (a:=s.heap.objs.size+1) (o:=.ins C s.heap.objs.size []) (t':=s.toks) (fun b u q=>Za _ q) (Nat.le_of_eq (Heap.size_push _ _)) ?_;have ne:s.heap.objs.size≠s.heap.objs.size+1:=Zy (Yt _);refine⟨by rw[af ne,ad],Z7 _,ne,e2,fun _=>none,(Heap.Ns1.of_empty e3).at fun o q=>Za _ q,fun _=>True.intro,fun y hy=>absurd rfl hy⟩
theorem pQ{prog:Program}{w:World}{env:Env}{e:Expr}{f:Str}{pos:Pos}{s:Shared}{Q:Value->Shared->Prop}(hb:attributeBase e f env (eval e env)=eval e env)(h:wpAny (model prog w) A (eval e env) (fun o s₁=>wpAny (model prog w) A (getAttr o f true) Q E s₁) E s):wpAny (model prog w) A (eval (.Attribute e f pos) env) Q E s :=
 Attribute_any_ h (by rw[arm_eval_Attribute,hb])
end
def wJ(K:PySem.W.Frag)(ta:TE)(f:Str):TE:=fun σ H Q=>ta σ H fun x H1=>∃a C dx fs v,x=.ref a/\H1 a=some (.ins C dx fs)/\Cls K C/\NoAttr K C f/\fs.lookup f=some v/\Q v H1
def Bz(K:PySem.W.Frag)(ta tv:TE)(f:Str):TS:=fun D σ H=>tv σ H fun y H1=>ta σ H1 fun x H2=>∃a C dx fs,x=.ref a/\H2 a=some (.ins C dx fs)/\Cls K C/\NoAttr K C f/\fs.length<1000 /\
 D.nx σ (upd H2 a (.ins C dx (cg f y fs)))
section
variable{X:Cx}{o e value:Expr}{f:Str}{pos pos' tpos:Pos}{ta tv:TE}
theorem AV(he:PE X e ta)(hb:attributeBase e f X.env (eval e X.env)=eval e X.env):PE X (.Attribute e f pos) (wJ X.K ta f):=by intro pins s σ H Q I h;refine pQ hb (thn (he pins s σ H _ I h) fun u s1 hz9=>?_);obtain⟨x,H1,I1,rx,a,C,dx,fs,v,ex,ea,c,n,l,q⟩:=hz9;subst ex;obtain rfl:u=Value.ref a:=rx;exact rA I1 ea c n l fun u' s2 I2 ru=>⟨v,H1,I2,ru,q⟩
theorem Bb(ha:PE X o ta)(hv:PE X value tv)(hs:swapsWith value (some (.Attribute o f pos')) pos.line X.env=pure false):PS X (.Assign [.Attribute o f pos'] value pos) (Bz X.K ta tv f):=by intro pins s σ H D I h;refine plainObj_wpAny_Assign_Attribute (thn (hv pins s σ H _ I h) fun u s1 ⟨y,H1,I1,ry,q⟩=>thn (ha pins s1 σ H1 _ I1 q) fun ov s2 hz9=>?_) hs;obtain⟨x,H2,I2,rx,a,C,dx,fs,ex,ea,c,n,l,q2⟩:=hz9;subst ex;obtain rfl:ov=Value.ref a:=rx;exact sw I2 ea c n l ry fun s3 I3=>⟨σ,_,I3,q2⟩
end
section
variable{X:Cx}{pins:List (Addr×Obj)}{σ:St}{H:Hp}{s:Shared}{A:Around}{E:Value->Shared->Prop}{Q:Value->Shared->Prop}{c:Value}{b:Bool}
inductive TyOf(K:PySem.W.Frag)(H:Hp):V->Value->Prop where
 |non:TyOf K H .non (.type "NoneType")
 |bl (x:Bool):TyOf K H (.bl x) (.type "bool")
 |int (i:Int):TyOf K H (.int i) (.type "int")
 |str (x:Str):TyOf K H (.str x) (.type "str")
 |flt (x:UInt64):TyOf K H (.flt x) (.type "float")
 |lst {a:Addr} {xs:List V} (e:H a=some (.lst xs)):TyOf K H (.ref a) (.type "list")
 |frz {a:Addr} {o:Obj} {xs:List V} (e:H a=some (.frz o (.lst xs))):TyOf K H (.ref a) (.type "list")
 |tup {a:Addr} {xs:List V} (e:H a=some (.tup xs)):TyOf K H (.ref a) (.type "tuple")
 |dK {a:Addr} {kvs:List (Key×V)} (e:H a=some (.dK kvs)):TyOf K H (.ref a) (.type "dict")
 |dT {a:Addr} {kvs:List (List Key×V)} (e:H a=some (.dT kvs)):TyOf K H (.ref a) (.type "dict")
 |ins {a C dx:Addr} {fs:List (Str×V)} (e:H a=some (.ins C dx fs)) (cl:Cls K C) (ha:PySem.W.findIn K (.ref C) "__class__" = some (some (.builtin "object.__class__")))
   (hn:PySem.W.specialIn K (.builtin "object.__class__") "__get__" = some (some (.builtin "getset_descriptor.__get__"))) (htk:PySem.W.takesIn K (.builtin "object.__class__")=some true)
   (hm:PySem.W.mroIn K C (.type "object")=some true):TyOf K H (.ref a) (.ref C)
theorem tM{x:V}{u t:Value}(I:Inv X pins σ H s)(rx:RelV x u)(ty:TyOf X.K H x t)(e:PySem.W.kitOne X.K t c=some b)(h:∀tk,Q (.bool b) { s with toks:=tk }) :
  wpAny (model X.prog X.w) A (call (.builtin "isinstance") [u,c]) Q E s:=by
 cases ty with
 |non=>cases(show u=Value.none from rx);exact y0 PySem.W.kitx_none I.kIn True.intro e (fun z=>nomatch z) h
 |bl y=>cases(show u=Value.bool y from rx);exact y0 PySem.W.kitx_bool I.kIn True.intro e (fun z=>nomatch z) h
 |int i=>obtain⟨t,q⟩:=(show∃t,u=Value.int i t from rx);cases q;exact y0 PySem.W.kitx_int I.kIn True.intro e (fun z=>nomatch z) h
 |str y=>obtain⟨t,q⟩:=(show∃t,u=Value.str y t from rx);cases q;exact y0 PySem.W.kitx_str I.kIn True.intro e (fun z=>nomatch z) h
 |flt y=>obtain⟨t,q⟩:=(show∃t,u=Value.float y t from rx);cases q;exact y0 PySem.W.kitx_float I.kIn True.intro e (fun z=>nomatch z) h
 |@lst a xs ea =>
  cases(show u=Value.ref a from rx);obtain⟨_,_,n,_,h1⟩:=(show ObjOk X.prog X.w H s.heap a (.lst xs)from I.hok a _ ea)
  exact y0 PySem.W.kitx_list I.kIn ⟨_,h1,rfl⟩ e (fun z=>nomatch z) h
 |@frz a ob xs ea =>
  cases(show u=Value.ref a from rx);obtain⟨_,_,_,n,_,h1⟩:=(show ObjOk X.prog X.w H s.heap a (.frz ob (.lst xs))from I.hok a _ ea)
  exact y0 PySem.W.kitx_list I.kIn ⟨_,h1,rfl⟩ e (fun z=>nomatch z) h
 |@tup a xs ea =>
  cases(show u=Value.ref a from rx);obtain⟨_,_,_,p⟩:=(show ObjOk X.prog X.w H s.heap a (.tup xs)from I.hok a _ ea)
  obtain⟨o,h1,h2,_⟩:=p;exact y0 PySem.W.kitx_tuple I.kIn ⟨o,h1,h2⟩ e (fun z=>nomatch z) h
 |@dK a kvs ea =>
  cases(show u=Value.ref a from rx);obtain⟨_,_,vs,_,p⟩:=(show ObjOk X.prog X.w H s.heap a (.dK kvs)from I.hok a _ ea)
  obtain⟨o,es,ep,h1,h2,_⟩:=p;exact y0 PySem.W.kitx_dict I.kIn ⟨o,h1,h2.1⟩ e (fun z=>nomatch z) h
 |@dT a kvs ea =>
  cases(show u=Value.ref a from rx);obtain⟨_,_,xs,_,o,es,ep,h1,h2,_⟩:=(show ObjOk X.prog X.w H s.heap a (.dT kvs)from I.hok a _ ea)
  exact y0 PySem.W.kitx_dict I.kIn ⟨o,h1,h2.1⟩ e (fun z=>nomatch z) h
 |@ins a C dx fs ea cl ha hn htk hm =>cases(show u=Value.ref a from rx);obtain⟨mA,O,_⟩:=iP I.hok ea;obtain⟨od,J,_⟩:=O.look;exact y0 (PySem.W.kitx_own (cl.get _) cl.hd ha hn htk hm) I.kIn J e (fun z=>nomatch z) h
end
open PySem PySem.Spec PyProof.Rows
structure Room(k:Nat)(A:Around):Prop where
 hd:A.handled=none
 dp:A.depth+3*k+5<recursionLimit
 un:A.units+16*k+200<cLine
theorem Room.mono{j k:Nat}{A:Around}(r:Room k A)(h:j<=k):Room j A:=⟨r.hd,by have:=r.dp;omega,by have:=r.un;omega⟩
theorem Room.deeper{k:Nat}{A:Around}(r:Room (k+1) A)(env:Env):Room k (A.deeper env) :=
 ⟨r.hd,by have:=r.dp;show A.depth+1+3*k+5<_;omega,by have:=r.un;show A.units+3+16*k+200<_;omega⟩
theorem Room.in1{k:Nat}{A:Around}(r:Room (k+1) A):Room k A.in1 :=
 ⟨r.hd,by have:=r.dp;show A.depth+3*k+5<_;omega,by have:=r.un;show A.units+1+16*k+200<_;omega⟩
theorem rM{A:Around}{C:Addr}{us:List Value}{kw:List (Str×Value)}:(A.under (.builtin "type.__call__" ⟨.ref C::us,kw⟩)).depth=A.depth+1:=by
 first|rfl|simp[Around.under,Code.weight,Code.isCreation,Code.isGuard,Code.isCaller,Code.frames,Code.isFrame,guardIds]
theorem rN{A:Around}{C:Addr}{us:List Value}{kw:List (Str×Value)}:(A.under (.builtin "type.__call__" ⟨.ref C::us,kw⟩)).units=A.units+1:=by
 first|rfl|simp[Around.under,Code.cUnits,Code.frames,Code.isFrame]
theorem Room.make{k:Nat}{A:Around}(r:Room (k+1) A)(C:Addr)(us:List Value)(kw:List (Str×Value)):Room k (A.under (.builtin "type.__call__" ⟨.ref C::us,kw⟩)) :=
 ⟨r.hd,by have:=r.dp;rw[rM];omega,by have:=r.un;rw[rN];omega⟩
theorem Room.depth{k:Nat}{A:Around}(r:Room k A):A.depth<recursionLimit:=by have:=r.dp;omega
theorem Room.units{k:Nat}{A:Around}(r:Room k A):A.units+64<cLine:=by have:=r.un;omega
def fz:TA:=fun _ H Q=>Q [] H
def fL(ta:TE)(tr:TA):TA:=fun σ H Q=>ta σ H fun x H1=>tr σ H1 fun xs H2=>Q (x::xs) H2
section
variable{X:Cx}{e:Expr}{es:List Expr}{te:TE}{t:TA}{pos:Pos}
theorem kM:PA X [] fz:=fun _ _ _ _ H Q I h=>Calls.spliced_nil ⟨[],H,I,.nil,h⟩
theorem yw(ha:PE X e te)(hr:PA X es t)(hs:starEach (e::es) X.env=(false,eval e X.env)::starEach es X.env:=by rfl):PA X (e::es) (fL te t):=by intro pos pins s σ H Q I h;rw[hs];show wpAny _ _ (spliced ((false,eval e X.env)::backTo pos (starEach es X.env))) _ _ s;refine Calls.spliced_cons (thn (ha pins s σ H _ I h) fun u s1 hz9=>?_);obtain⟨x,H1,I1,r1,q1⟩:=hz9;exact thn (hr pos pins s1 σ H1 _ I1 q1) fun us s2 ⟨xs,H2,I2,r2,q2⟩=>⟨x::xs,H2,I2,.cons r1 r2,q2⟩
def BT(t:TA):TE:=fun σ H Q=>t σ H fun xs H1=>xs.length<=sizeLine/\∀p,H1 p=none->Q (.ref p) (upd H1 p (.tup xs))
def BN(t:TA):TE:=fun σ H Q=>t σ H fun xs H1=>xs.length<=sizeLine/\∀p,H1 p=none->Q (.ref p) (upd H1 p (.lst xs))
theorem A3{x1}(h:PA X es t):PE X (.Tuple es x1 pos) (BT t):=by intro pins s σ H Q I hq;refine wpAny_Tuple_spliced (thn (h pos pins s σ H _ I hq) fun us s1 ⟨xs,H1,I1,r,z,q⟩=>⟨by rw[<-r.length];exact z,?_⟩);have hf:H1 s1.heap.objs.size=none:=I1.hok.fresh (Zd _);refine⟨.ref s1.heap.objs.size,upd H1 s1.heap.objs.size (.tup xs),I1.laid (t':=s1.toks) (fun b u e=>Za _ e) (Zd _) ?_,rfl,q _ hf⟩;exact⟨z,us,r,⟨_,Zn _ rfl,rfl,_,rfl⟩⟩
theorem AX(h:PA X es t):PE X (.List es pos) (BN t):=by intro pins s σ H Q I hq;refine wpAny_List_spliced (thn (h pos pins s σ H _ I hq) fun us s1 ⟨xs,H1,I1,r,z,q⟩=>⟨by rw[<-r.length];exact z,?_⟩);have hf:H1 s1.heap.objs.size=none:=I1.hok.fresh (Zd _);refine⟨.ref s1.heap.objs.size,upd H1 s1.heap.objs.size (.lst xs),I1.laid (t':=s1.toks) (fun b u e=>Za _ e) (Zd _) ?_,rfl,q _ hf⟩;exact⟨z,us,0,r,Zn _ rfl⟩
end
abbrev Sp:=List V->Hp->VK->XK->Prop
abbrev CXT:=List Env->Hp->Shared->XK->Value->Shared->Prop
structure Env0(P:Program)(w:World)(K:PySem.W.Frag)(mg:Str->Option Value)(base:Heap)(A:Around)(outer:List Env)(s:Shared)(H:Hp):Prop where
 frames:A.frames=some outer
 mod:Mod K mg base
 bs:∀b o,base.get? b=some o->s.heap.get? b=some o/\H b=none
 bsz:base.objs.size<=s.heap.objs.size
 funs:s.heap.FunFrames base outer
 frf:∀b∈frs outer,H b=none
 hok:HOk P w H s.heap
 bare:AllBare s.gens
def CE(outer:List Env)(P:Program)(w:World)(H:Hp)(s:Shared)(Q:VK)(u:Value)(s':Shared):Prop :=
 ∃v H',s'.os=s.os/\AllBare s'.gens/\Un (frs outer) [] H H' s.heap s'.heap/\HOk P w H' s'.heap/\RelV v u/\Q v H'
def CR(CX:CXT)(outer:List Env)(P:Program)(w:World)(H:Hp)(s:Shared)(Q:VK)(E:XK)(r:Result)(s':Shared):Prop :=
 match r with
 |.ok (.ret u)=>CE outer P w H s Q u s'
 |.ok _=>False
 |.error e=>CX outer H s E e s'
structure FnOk(P:Program)(w:World)(K:PySem.W.Frag)(mg:Str->Option Value)(base:Heap)(CX:CXT)(k:Nat)(f:Addr)(fd:FuncData)(ps:List Str)(sp:Sp):Prop where
 len:∀vs H Q E,sp vs H Q E->vs.length=ps.length
 run:∀(A:Around) (outer:List Env) (s:Shared) (H:Hp) (args:Args) (us:List Value) (vs:List V) (Q:VK) (E:XK),Room k A->Env0 P w K mg base A outer s H->BindsTo s fd args (ps.zip us)->Vals vs us->sp vs H Q E ->
  codeAny (model P w) A (.call (.ref f) args) (CR CX outer P w H s Q E) s
theorem Env0.make{P:Program}{w:World}{K:PySem.W.Frag}{mg:Str->Option Value}{base:Heap}{A:Around}{outer:List Env}{s:Shared}{H:Hp}(e:Env0 P w K mg base A outer s H)(C:Addr)(us:List Value)(kw:List (Str×Value)) :
  Env0 P w K mg base (A.under (.builtin "type.__call__" ⟨.ref C::us,kw⟩)) outer s H:=⟨by first|exact e.frames|(simpa[Around.under,Code.envs,Code.isFrame,pushEnvs]using e.frames),e.mod,e.bs,e.bsz,e.funs,e.frf,e.hok,e.bare⟩
section
variable{X:Cx}{pins:List (Addr×Obj)}{σ:St}{H:Hp}{s s':Shared}
theorem Inv.env0(I:Inv X pins σ H s):Env0 X.prog X.w X.K X.mg X.base X.A X.stack s H :=
 ⟨I.ok.frames,I.ok.mod,I.bs,ZB I.ok.bsz I.sz,I.stack,I.stkFree,I.hok,I.bare⟩
theorem Inv.after{Q:VK}{u:Value}(I:Inv X pins σ H s)(h:CE X.stack X.prog X.w H s Q u s'):EP X pins σ Q u s':=by obtain⟨v,H',os,bare,un,hok,r,q⟩:=h;obtain⟨hh,g,d,t,os'⟩:=s';obtain rfl:os'=s.os:=os;exact⟨v,H',I.call (h':=hh) (g':=g) (d':=d) (t':=t) (ch:=[]) un hok bare (fun b z=>absurd z (by simp)),r,q⟩
end
def nF(sp:Sp)(dvs:List V)(E:XK)(t:TA):TE:=fun σ H Q=>t σ H fun vs H1=>sp (vs++dvs) H1 Q E
def kY(C:Addr)(m:Str)(sp:Sp)(dvs:List V)(E:XK)(ta:TE)(t:TA):TE:=fun σ H Q=>ta σ H fun x H1=>∃a dx fs,x=.ref a/\H1 a=some (.ins C dx fs)/\fs.lookup m=none /\
 t σ H1 fun vs H2=>sp (x::(vs++dvs)) H2 Q E
def xE(C:Addr)(sp:Sp)(dvs:List V)(E:XK)(t:TA):TE:=fun σ H Q=>t σ H fun vs H1=>∀x dx,H1 x=none->H1 dx=none->dx≠x ->
 sp (.ref x::(vs++dvs)) (upd (upd H1 dx (.own x)) x (.ins C dx [])) (fun v H2=>v=.non/\Q (.ref x) H2) E
def Binds(K:PySem.W.Frag)(fd:FuncData)(ps:List Str)(ds:List Value):Prop :=
 ∀(s:Shared) (us:List Value),K.In s.heap->(us++ds).length=ps.length->BindsTo s fd ⟨us,[]⟩ (ps.zip (us++ds))
theorem Binds.all{K:PySem.W.Frag}{fd:FuncData}{ps:List Str}(h:∀us:List Value,us.length=ps.length->bindArgs fd ⟨us,[]⟩=pure (ps.zip us)):Binds K fd ps []:=fun s us _ hl=>by rw[ZQ]at hl ⊢;exact .of_eq (h us hl)
def cn(CX:CXT)(X:Cx)(E:XK):Prop:=∀(pins:List (Addr×Obj)) (σ:St) (H:Hp) (s:Shared) (e:Value) (s':Shared),Inv X pins σ H s->CX X.stack H s E e s'->X.xe e s'
section
variable{X:Cx}{CX:CXT}{k:Nat}{f C:Addr}{fd:FuncData}{ps:List Str}{sp:Sp}{dvs:List V}{ds:List Value}{E:XK}{x m:Str}{p pos apos:Pos}{e o:Expr}{es:List Expr}{ta:TE}{t:TA}
theorem oY{pins:List (Addr×Obj)}{σ:St}{H:Hp}{s:Shared}{Q:VK}{us:List Value}{vs:List V}(F:FnOk X.prog X.w X.K X.mg X.base CX k f fd ps sp)(hr:Room k X.A)(hb:Binds X.K fd ps ds)(hd:Vals dvs ds)(hx:cn CX X E)(I:Inv X pins σ H s)(r:Vals vs us)(h:sp (vs++dvs) H Q E):wpAny (model X.prog X.w) X.A (call (.ref f) us) (EP X pins σ Q) X.xe s:=by
 have r2:Vals (vs++dvs) (us++ds):=r.append hd;have hl:(us++ds).length=ps.length:=by rw[<-r2.length];exact F.len _ _ _ _ h
 refine wpAny_call (codeAny_mono (F.run X.A X.stack s H ⟨us,[]⟩ (us++ds) (vs++dvs) Q E hr I.env0 (hb s us I.kIn hl) r2 h) fun r s' hq=>?_);cases r with
 |error e=>exact hx pins σ H s e s' I hq
 |ok fl =>
  cases fl with
  |ret u=>exact I.after hq
  |next=>exact False.elim hq
  |brk=>exact False.elim hq
  |cont=>exact False.elim hq
theorem yB(F:FnOk X.prog X.w X.K X.mg X.base CX k f fd ps sp)(hr:Room k X.A)(hg:Gl X x)(hm:X.mg x=some (.ref f))(hk:PySem.W.keepIn X.K (.ref f)=true)(hb:Binds X.K fd ps ds)(hd:Vals dvs ds)(hx:cn CX X E)(ha:PA X (e::es) t)(hdb:(x==("__debug__":Str))=false:=by decide)(he:starEach (e::es) X.env=(false,eval e X.env)::starEach es X.env:=by rfl)(hpl:(backTo pos (starEach es X.env)).any (·.1)=false:=by rfl) :
  PE X (.Call (.Name x p) (e::es) [] pos) (nF sp dvs E t):=by
 intro pins s σ H Q I h;refine wpAny_Call_Name_kw (dC I hg hm ?_ hdb);refine PySem.W.callWith_K (h₀:=X.base) I.ok.mod.kin hk (thn (ha pos pins s σ H _ I h) fun us s1 ⟨vs,H1,I1,r,q⟩=>⟨I1.kIn,?_⟩) he hpl;exact oY F hr hb hd hx I1 r q
theorem qA{pl:Sem Bool}(he:PE X o ta)(c:Cls X.K C)(hm:Meth X.K C m f)(F:FnOk X.prog X.w X.K X.mg X.base CX k f fd ps sp)(hr:Room k X.A)(hb:Binds X.K fd ps ds)(hd:Vals dvs ds)(hx:cn CX X E)(ha:PA X (e::es) t)(hst:starEach (e::es) X.env=(false,eval e X.env)::starEach es X.env:=by rfl)(hpl:(backTo pos (starEach es X.env)).any (·.1)=false:=by rfl)(ht:eval (.Call (.Attribute o m apos) (e::es) [] pos) X.env=(do
   let ov ←eval o X.env
   standAt apos.atName
   let(f,first) ←holding [ov] (getMethod ov m pl)
   callWith pos f first (backTo pos (starEach (e::es) X.env)) (backToKw pos (keywordEach [] X.env))):=by rfl) :
  PE X (.Call (.Attribute o m apos) (e::es) [] pos) (kY C m sp dvs E ta t):=by
 intro pins s σ H Q I h;refine PySem.W.methodCall_KW (pl:=pl) (thn (he pins s σ H _ I h) fun u s1 hz9=>?_) ht;obtain⟨x,H1,I1,rx,a,dx,fs,ex,ea,l,q⟩:=hz9;subst ex;obtain rfl:u=Value.ref a:=rx;refine gM I1 ea c hm l ?_;refine PySem.W.callWith_K (first:=[.ref a]) (h₀:=X.base) I.ok.mod.kin hm.kp (thn (ha pos pins s1 σ H1 _ I1 q) fun us s2 ⟨vs,H2,I2,r,q2⟩=>⟨I2.kIn,?_⟩) hst hpl;exact oY (us:=.ref a::us) (vs:=.ref a::vs) F hr hb hd hx I2 (.cons rfl r) q2
theorem vZ{pl:Sem Bool}(he:PE X o ta)(c:Cls X.K C)(hm:Meth X.K C m f)(F:FnOk X.prog X.w X.K X.mg X.base CX k f fd ps sp)(hr:Room k X.A)(hb:Binds X.K fd ps ds)(hd:Vals dvs ds)(hx:cn CX X E)(ht:eval (.Call (.Attribute o m apos) [] [] pos) X.env=(do
   let ov ←eval o X.env
   standAt apos.atName
   let(f,first) ←holding [ov] (getMethod ov m pl)
   callWith pos f first (backTo pos (starEach [] X.env)) (backToKw pos (keywordEach [] X.env))):=by rfl) :
  PE X (.Call (.Attribute o m apos) [] [] pos) (kY C m sp dvs E ta fz):=by
 intro pins s σ H Q I h;refine PySem.W.methodCall_KW (pl:=pl) (thn (he pins s σ H _ I h) fun u s1 hz9=>?_) ht;obtain⟨x,H1,I1,rx,a,dx,fs,ex,ea,l,q⟩:=hz9;subst ex;obtain rfl:u=Value.ref a:=rx;refine gM I1 ea c hm l ?_;exact PySem.W.callWith_K0 (first:=[.ref a]) I1.kIn hm.kp (oY (us:=[.ref a]) (vs:=[.ref a]) F hr hb hd hx I1 (.cons rfl .nil) q)
structure Mk(K:PySem.W.Frag)(C f:Addr):Prop where
 makes:PySem.W.makesIn K C=true
 init:PySem.W.findIn K (.ref C) "__init__" = some (some (.ref f))
 fn:PySem.W.isFn K (.ref f)=true
 kp:PySem.W.keepIn K (.ref C)=true
theorem wG{pins:List (Addr×Obj)}{σ:St}{H:Hp}{s:Shared}{Q:VK}{us:List Value}{vs:List V}(M:Mk X.K C f)(F:FnOk X.prog X.w X.K X.mg X.base CX k f fd ps sp)(hr:Room (k+1) X.A)(hb:Binds X.K fd ps ds)(hd:Vals dvs ds)(hx:cn CX X E)(I:Inv X pins σ H s)(r:Vals vs us)(h:∀x dx,H x=none->H dx=none->dx≠x->sp (.ref x::(vs++dvs)) (upd (upd H dx (.own x)) x (.ins C dx [])) (fun v H2=>v=.non/\Q (.ref x) H2) E) :
  wpAny (model X.prog X.w) X.A (call (.ref C) us) (EP X pins σ Q) X.xe s:=by
 have hq:=h (s.heap.objs.size+1) s.heap.objs.size (I.hok.fresh (Nat.le_succ _)) (I.hok.fresh (Zd _)) (Zy (Yt _));have I2:=Inv.made (C:=C) I;have r2:Vals (V.ref (s.heap.objs.size+1)::(vs++dvs)) (Value.ref (s.heap.objs.size+1)::(us++ds)):=.cons rfl (r.append hd);have hl:(Value.ref (s.heap.objs.size+1)::us++ds).length=ps.length:=by have e:=r2.length;rw[F.len _ _ _ _ hq]at e;exact e.symm
 refine wpAny_call (vN (f:=f) I.kIn M.makes M.init (ZP.mp M.fn) (codeAny_mono (F.run _ X.stack _ _ ⟨Value.ref (s.heap.objs.size+1)::us,[]⟩ (Value.ref (s.heap.objs.size+1)::(us++ds)) _ _ E (hr.make C us [])
  (I2.env0.make C us []) (hb _ (Value.ref (s.heap.objs.size+1)::us) I2.kIn hl) r2 hq) fun r s' hq'=>?_))
 cases r with
 |error e=>exact hx pins σ _ _ e s' I2 hq'
 |ok fl =>
  cases fl with
  |ret u =>obtain⟨v,H',I3,rv,ev,q3⟩:=I2.after hq';subst ev;exact⟨rv,⟨V.ref (s.heap.objs.size+1),H',I3,rfl,q3⟩⟩
  |next=>exact False.elim hq'
  |brk=>exact False.elim hq'
  |cont=>exact False.elim hq'
theorem vY(M:Mk X.K C f)(F:FnOk X.prog X.w X.K X.mg X.base CX k f fd ps sp)(hr:Room (k+1) X.A)(hg:Gl X x)(hm:X.mg x=some (.ref C))(hb:Binds X.K fd ps ds)(hd:Vals dvs ds)(hx:cn CX X E)(hdb:(x==("__debug__":Str))=false:=by decide):PE X (.Call (.Name x p) [] [] pos) (xE C sp dvs E fz):=by intro pins s σ H Q I h;refine wpAny_Call_Name_kw (dC I hg hm ?_ hdb);exact PySem.W.callWith_K0 I.kIn M.kp (wG (us:=[]) M F hr hb hd hx I .nil h)
end
def PK(X:Cx)(kws:List Keyword)(t:TA):Prop :=
 ∀(pos:Pos) (pins:List (Addr×Obj)) (s:Shared) (σ:St) (H:Hp) (Q:List V->Hp->Prop),Inv X pins σ H s->t σ H Q->wpAny (model X.prog X.w) X.A (evalAll ((backToKw pos (keywordEach kws X.env)).map (·.2))) (AP X pins σ Q) X.xe s
section
variable{X:Cx}{CX:CXT}{k:Nat}{f C:Addr}{fd:FuncData}{ps ks:List Str}{sp:Sp}{E:XK}{x m:Str}{p pos apos kpos:Pos}{e o:Expr}{es:List Expr}{kws:List Keyword}{te ta:TE}{t tk:TA}{nm:Option Str}
theorem Ba:PK X [] fz:=fun _ _ _ _ H Q I h=>wpAny_evalAll_nil ⟨[],H,I,.nil,h⟩
theorem yJ(ha:PE X e te)(hr:PK X kws t):PK X (⟨nm,e,kpos⟩::kws) (fL te t):=by intro pos pins s σ H Q I h;show wpAny _ _ (evalAll ((do let v ←eval e X.env;standAt pos;pure v)::(backToKw pos (keywordEach kws X.env)).map (·.2))) _ _ s;refine wpAny_evalAll_cons (z6 (thn (ha pins s σ H _ I h) fun u s1 ⟨x,H1,I1,r1,q1⟩=>z6 (wpAny_standAt (z9 ?_))));exact thn (hr pos pins s1 σ H1 _ I1 q1) fun us s2 ⟨xs,H2,I2,r2,q2⟩=>⟨x::xs,H2,I2,.cons r1 r2,q2⟩
structure KBinds(K:PySem.W.Frag)(fd:FuncData)(ps ks:List Str)(g:List Value->List Value->List Value)(gV:List V->List V->List V):Prop where
 to:∀(s:Shared) (us ws:List Value),K.In s.heap->(g us ws).length=ps.length->BindsTo s fd ⟨us,ks.zip ws⟩ (ps.zip (g us ws))
 rel:∀{vs:List V} {us:List Value} {zs:List V} {ws:List Value},Vals vs us->Vals zs ws->Vals (gV vs zs) (g us ws)
variable{g:List Value->List Value->List Value}{gV:List V->List V->List V}
end
structure FnScope(N P:List Str)(sc:Scope):Prop where
 kind:sc.kind=.function
 co:sc.isCoroutine=false
 gen:sc.isGenerator=false
 nd:N.Nodup
 pre:N.take P.length=P
 par:∀x∈P,sc.names.lookup x=some .local\/sc.names.lookup x=some .cell
 nofree:∀y∈sc.names,y.2≠.free
theorem mi{kindOf:Str->Option NameKind}{x:Str}:∀{binds:List (Str×Value)} {m:Str->Option Value},(∀v,(x,v)∉binds)->bindL kindOf binds m x=m x
 | [],_,_=>rfl
 |(n,v)::r,m,h=>by
  unfold bindL;rw[mi fun w hw=>h w (Zh _ hw)];split
  ·have:x≠n:=by rintro rfl;exact h v Zo
   simp[this]
  ·rfl
theorem mf{kindOf:Str->Option NameKind}{x:Str}:∀{binds:List (Str×Value)} {m:Str->Option Value},(∀v,(x,v)∉binds)->bindC kindOf binds m x=m x
 | [],_,_=>rfl
 |(n,v)::r,m,h=>by
  unfold bindC;rw[mf fun w hw=>h w (Zh _ hw)];split
  ·rfl
  ·have:x≠n:=by rintro rfl;exact h v Zo
   simp[this]
theorem mh{kindOf:Str->Option NameKind}{x:Str}{v:Value}:∀{P:List Str} {vs:List Value} {i:Nat} {m:Str->Option Value},P.Nodup->P[i]?=some x->vs[i]?=some v->kindOf x=some .local ->
  bindL kindOf (P.zip vs) m x=some v
 | [],_,_,_,_,h,_,_=>by simp at h
 |_::_,[],_,_,_,_,h,_=>by simp at h
 |p::P,w::vs,0,m,nd,h1,h2,hk=>by simp at h1 h2;subst h1;subst h2;show bindL kindOf ((p,w)::P.zip vs) m p=_;unfold bindL;rw[mi fun v hv=>(ZR.mp nd).1 (List.of_mem_zip hv).1,if_pos hk];simp
 |p::P,w::vs,i+1,m,nd,h1,h2,hk=>by show bindL kindOf ((p,w)::P.zip vs) m x=_;unfold bindL;exact mh (i:=i) (ZR.mp nd).2 (by simpa using h1) (by simpa using h2) hk
theorem me{kindOf:Str->Option NameKind}{x:Str}{v:Value}:∀{P:List Str} {vs:List Value} {i:Nat} {m:Str->Option Value},P.Nodup->P[i]?=some x->vs[i]?=some v->kindOf x≠some .local ->
  bindC kindOf (P.zip vs) m x=some v
 | [],_,_,_,_,h,_,_=>by simp at h
 |_::_,[],_,_,_,_,h,_=>by simp at h
 |p::P,w::vs,0,m,nd,h1,h2,hk=>by simp at h1 h2;subst h1;subst h2;show bindC kindOf ((p,w)::P.zip vs) m p=_;unfold bindC;rw[mf fun v hv=>(ZR.mp nd).1 (List.of_mem_zip hv).1,if_neg hk];simp
 |p::P,w::vs,i+1,m,nd,h1,h2,hk=>by show bindC kindOf ((p,w)::P.zip vs) m x=_;unfold bindC;exact me (i:=i) (ZR.mp nd).2 (by simpa using h1) (by simpa using h2) hk
def start(N:List Str)(vs:List V):St:=vs.map some++List.replicate (N.length-vs.length) none
def cK(CX:CXT)(P:Program)(w:World)(K:PySem.W.Frag)(mg:Str->Option Value)(base:Heap)(N:List Str)(qual:Str)(scope:Scope)(f:Addr)(cd:Value)(A:Around)(outer:List Env)(s:Shared)(H:Hp)(E:XK):Cx where
 prog:=P
 w:=w
 K:=K
 mg:=mg
 base:=base
 A:=A.deeper (envOfC qual scope s.heap.objs.size f cd)
 N:=N
 s₀:=s
 H₀:=H
 env:=envOfC qual scope s.heap.objs.size f cd
 outer:=outer
 stack:=envOfC qual scope s.heap.objs.size f cd::outer
 ex:=[]
 calm:=true
 fn:=fun _=>true
 pn:=[]
 xe:=fun e s'=>wpAny (model P w) (A.deeper (envOfC qual scope s.heap.objs.size f cd)) (leaving (envOfC qual scope s.heap.objs.size f cd) e) (fun _ s''=>CX outer H s E e s'') (fun e' s''=>CX outer H s E e' s'') s'
theorem oh{sc:Scope}{n:Nat}{x:Str}(h:sc.names.lookup x=some .cell):∃c,(cellsFrom n sc.names []).lookup x=some c:=by have q:=PySem.W.cellsFrom_some sc.names n [] (.inl h);exact Z4.mp q
theorem tL{CX:CXT}{P:Program}{w:World}{K:PySem.W.Frag}{mg:Str->Option Value}{base:Heap}{N ps:List Str}{qual:Str}{scope:Scope}{f:Addr}{cd:Value}{A:Around}{outer:List Env}{s s1:Shared}{H:Hp}{E:XK}{us:List Value}{vs:List V}(S:FnScope N ps scope)(hd:A.handled=none)(e0:Env0 P w K mg base A outer s H)(hl:vs.length=ps.length)(r:Vals vs us)(x:InCallC s s.heap.objs.size (bindL (envOfC qual scope s.heap.objs.size f cd).kindOf (ps.zip us) fun _=>none) (cellsFrom (s.heap.objs.size+1) scope.names []) (bindC (envOfC qual scope s.heap.objs.size f cd).kindOf (ps.zip us) fun _=>none) s1) :
  Inv (cK CX P w K mg base N qual scope f cd A outer s H E) [] (start N vs) H s1:=by
 have hpl:ps.length<=N.length:=by have:=ZW List.length S.pre;rw[ZS]at this;omega
 obtain⟨h1,tk,rfl,hk⟩:=x.done;have noA:∀b:Addr,b∉(cK CX P w K mg base N qual scope f cd A outer s H E).ex:=fun b z=>absurd (show b∈([]:List Addr)from z) (by simp);refine⟨⟨e0.mod,S.kind,rfl,rfl,Zd _,fun y z c h1 h2=>?_,fun y hy=>?_,fun y c _ h=>?_,fun _=>hd,Around.frames_deeper e0.frames,.inr ⟨rfl,rfl⟩,fun b z=>absurd z (noA b),e0.bs,e0.bsz,fun b _ _=>noA b,fun b z=>absurd z (noA b),e0.funs,e0.frf⟩,
  rfl,e0.bare,Un.kept hk,⟨_,x.toInCall.ns,fun i y v h1 h2 h3=>?_⟩,fun y c h=>⟨_,x.cell y c h⟩,e0.hok.fresh (Zd _),fun y c h=>?_,fun p hp=>absurd (show p∈([]:List (Addr×Obj)) from hp) (by simp),e0.hok.kept hk,?_⟩
 ·exact name_of_addr x.apart (y8 h1) (y8 h2)
 ·have hy:scope.names.lookup y=some .cell\/scope.names.lookup y=some .free:=hy;rcases hy with hy|hy
  ·exact oh hy
  ·exact absurd rfl (S.nofree _ (y8 hy))
 ·exact Nat.le_of_lt (x.above y c (y8 h))
 ·have hi:i<vs.length:=by
   unfold start at h2;by_cases hi:i<vs.length
   ·exact hi
   ·rw[ZL (by simpa using hi)]at h2;rw[List.getElem?_replicate]at h2;split at h2<;>cases h2
  have ha:vs[i]?=some v:=by
   unfold start at h2;rw[y7 (by simpa using hi),ZA]at h2;cases e:vs[i]? with
   |none=>rw[e]at h2;cases h2
   |some a=>rw[e]at h2;cases h2;rfl
  obtain⟨u,hu,rv⟩:=r.get ha;have hp:ps[i]?=some y:=by rw[<-S.pre,List.getElem?_take_of_lt (by omega)];exact h1
  have ndP:ps.Nodup:=by rw[<-S.pre];exact S.nd.sublist (y9 _ _)
  refine⟨u,rv,?_⟩;rcases S.par y (ZZ hp)with k|k
  ·exact .inl ⟨k,mh ndP hp hu k⟩
  ·obtain⟨c,e⟩:=oh (n:=s.heap.objs.size+1) k;refine .inr ⟨.inl k,c,e,?_⟩;have q:=x.cell y c e;rw[me ndP hp hu (by show scope.names.lookup y≠_;rw[k];decide)]at q;exact q
 ·exact e0.hok.fresh (Nat.le_of_lt (x.above y c (y8 h)))
 ·unfold start;show _=N.length;rw[Zg,Zu,List.length_replicate];omega
theorem rq{CX:CXT}{P:Program}{w:World}{K:PySem.W.Frag}{mg:Str->Option Value}{base:Heap}{k:Nat}{f:Addr}{name qual:Str}{params:Arguments}{body:List Stmt}{scope:Scope}{dV kV doc pm cdv ct oc:Value}{an od:Option Addr}{osl:Array (Option Value)}{N ps:List Str}{sp:Sp}(lk:K.lookup f=some ⟨oc,od,.func (PySem.W.fnOf name qual params body scope dV kV doc pm an cdv ct),osl⟩)(hcd:PySem.W.codeIn K cdv qual=true)(S:FnScope N ps scope)(len:∀ vs H Q E,sp vs H Q E->vs.length=ps.length)(hbody:∀ (A:Around) (outer:List Env) (s:Shared) (H:Hp) (vs:List V) (Q:VK) (E:XK),Room k (A.deeper (envOfC qual scope s.heap.objs.size f cdv))->sp vs H Q E ->
   ∃ t,PSs (cK CX P w K mg base N qual scope f cdv A outer s H E) body t/\t { nx:=fun _ H'=>Q .non H',rt:=Q } (start N vs) H) :
  FnOk P w K mg base CX (k+1) f (PySem.W.fnOf name qual params body scope dV kV doc pm an cdv ct) ps sp:=by
 refine⟨len,fun A outer s H args us vs Q E hr e0 hb r hsp=>?_⟩;have hl:=len _ _ _ _ hsp;have KX:K.In s.heap:=e0.mod.kin.keeps fun b o e=>(e0.bs b o e).1;have lim:s.heap.NoLimit:=e0.mod.nolimit.keeps fun b o e=>(e0.bs b o e).1;have hkind:∀y∈ps.zip us,scope.names.lookup y.1=some .local\/(scope.names.lookup y.1=some .cell/\((cellsFrom (s.heap.objs.size+1) scope.names []).lookup y.1).isSome=true):=fun⟨n,v⟩ hy=>by
  rcases S.par n (List.of_mem_zip hy).1 with q|q
  ·exact .inl q
  ·exact .inr ⟨q,PySem.W.cellsFrom_some _ _ _ (.inl q)⟩
 refine codeAny_call_function hr.depth (KX _ _ lk) rfl S.co S.gen rfl (PySem.W.codeRec_of KX hcd) (hb _ _ _ _ ?_);refine wpAny_newFunctionEnv_cells S.kind hkind fun env he s1 x=>?_;subst he;refine⟨lim.keeps x.toInCall.keep,codeAny_func ?_⟩;obtain⟨t,ht,hq⟩:=hbody A outer s H vs Q E (hr.deeper _) hsp;have I:Inv (cK CX P w K mg base N qual scope f cdv A outer s H E) [] (start N vs) H s1:=tL S hr.hd e0 hl r x;refine ZH (ht [] s1 (start N vs) H _ I hq) (fun fl s' hs=>?_) fun e s' hs=>hs;have fin:∀{σ':St} {H':Hp} {v:V} {u:Value},Inv (cK CX P w K mg base N qual scope f cdv A outer s H E) [] σ' H' s'->RelV v u->Q v H'->CE outer P w H s Q u s' :=
  fun{σ' H' v u} J rv q=>⟨v,H',J.os,J.bare,J.base,J.hok,rv,q⟩
 cases fl with
 |ret u =>obtain⟨v,σ',H',J,rv,q⟩:=hs;exact fin J rv q
 |next =>obtain⟨σ',H',J,q⟩:=hs;exact fin (v:=V.non) (u:=Value.none) J rfl q
 |brk =>obtain⟨_,_,_,q⟩:=hs;exact False.elim q
 |cont =>obtain⟨_,_,_,q⟩:=hs;exact False.elim q
open PySem PySem.Spec PyProof.Rows
section
variable{X:Cx}{x:Str}{p pos:Pos}{e:Expr}{es:List Expr}{t:TA}{id T:String}{r:List V->Hp->VK->Prop}
def tCB(r:List V->Hp->VK->Prop)(t:TA):TE:=fun σ H Q=>t σ H fun vs H1=>r vs H1 Q
theorem vW(hc:fB X (.builtin id) r)(hg:Gl X x)(hm:X.mg x=none)(hv:bootBuiltins x=some (.builtin id))(ha:PA X (e::es) t)(hn:x≠"__name__":=by decide)(hdb:(x==("__debug__":Str))=false:=by decide)(he:starEach (e::es) X.env=(false,eval e X.env)::starEach es X.env:=by rfl)(hpl:(backTo pos (starEach es X.env)).any (·.1)=false:=by rfl):PE X (.Call (.Name x p) (e::es) [] pos) (tCB r t):=by intro pins s σ H Q I h;refine wpAny_Call_Name_kw (fb I hg hm hv ?_ hn hdb);exact PyProof.Rows.callWith_builtin1 (thn (ha pos pins s σ H _ I h) fun us s1 ⟨vs,H1,I1,r1,q1⟩=>hc pins s1 σ H1 vs us Q I1 r1 q1) he hpl
theorem ux(hc:fB X (.type T) r)(hg:Gl X x)(hm:X.mg x=none)(hv:bootBuiltins x=some (.type T))(ha:PA X (e::es) t)(hn:x≠"__name__":=by decide)(hdb:(x==("__debug__":Str))=false:=by decide)(he:starEach (e::es) X.env=(false,eval e X.env)::starEach es X.env:=by rfl)(hpl:(backTo pos (starEach es X.env)).any (·.1)=false:=by rfl):PE X (.Call (.Name x p) (e::es) [] pos) (tCB r t):=by intro pins s σ H Q I h;refine wpAny_Call_Name_kw (fb I hg hm hv ?_ hn hdb);exact YN (thn (ha pos pins s σ H _ I h) fun us s1 ⟨vs,H1,I1,r1,q1⟩=>hc pins s1 σ H1 vs us Q I1 r1 q1) he hpl
end
end L2
namespace HT
open PySem PyProof.Rows
def lexLt:List Int->List Int->Bool
 | [],[]=>false
 | [],_::_=>true
 |_::_,[]=>false
 |x::xs,y::ys=>if x=y then lexLt xs ys else decide (x<y)
theorem lexLt_cons(x y:Int)(xs ys:List Int):lexLt (x::xs) (y::ys)=if x=y then lexLt xs ys else decide (x<y):=rfl
theorem lexLt_nil_nil:lexLt [] []=false:=rfl
theorem lexLt_nil_cons(y:Int)(ys:List Int):lexLt [] (y::ys)=true:=rfl
theorem lJ(x:Int)(xs:List Int):lexLt (x::xs) []=false:=rfl
theorem eqAt_int(A:Around)(s:Shared)(a:Int)(t:Tok)(c:Int)(u:Tok):∃e,SeqAt.EqAt A s (.int a t) (.int c u) e/\(e=true↔a=c) :=
 ⟨(a==c),SeqAt.EqAt.int_int a t c u,by simp⟩
theorem wE(A:Around)(s:Shared)(a:Int)(t:Tok)(c:Int)(u:Tok)(prog:Program)(w:World)(E:Value->Shared->Prop)(Q:Value->Shared->Prop)(h:Q (.bool (decide (a<c))) s) :
  wpAny (model prog w) A (richCompare .Lt (.int a t) (.int c u)) Q E s :=
 (PyProof.Rows.lt_int h:wpAny (model prog w) A (compareOp .Lt (.int a t) (.int c u)) Q E s)
section
open PySem.SeqAt
open PySem.AutoSeq1 (wpAny_loadPart')
open PySem.MeetsSeq PySem.MeetsSeq2 PySem.MeetsSeq3
theorem nj(l b:Addr)(items items2:Array Value)(n n2:Nat)(dd dd2:Option Addr)(sl sl2:Array (Option Value))(ns ms:List Int)(hi:IntsAre items.toList ns)(hj:IntsAre items2.toList ms) :
  Meets (Builtin.«tuple.__lt__» ⟨[.ref l,.ref b],[]⟩)
   (fun _ R s=>s.heap.get? l=some { cls:=.type "tuple",dict:=dd,data:=.seq items n,slots:=sl }/\s.heap.get? b=some { cls:=.type "tuple",dict:=dd2,data:=.seq items2 n2,slots:=sl2 } /\
    R (.ok (.ret (.bool (lexLt ns ms)))) s) :=
 .of_wp fun prog w A R s h=>by
  obtain⟨hp,g,d,tk,os⟩:=s;obtain⟨hl,hb,h⟩:=h;have f2:=AutoSeq1.sub_tuple_tuple;have z1:items.size=ns.length:=by rw[<-hi.length];simp
  have z2:items2.size=ms.length:=by rw[<-hj.length];simp
  wp_walk using wpAny_loadPart' hl,wpAny_loadPart' hb,YF _ (fun rest b s'=>b.1=none/\s'=⟨hp,g,d,tk,os⟩/\∃ (vs ws:List Value) (ns' ms':List Int),rest=vs.zip ws /\
   IntsAre vs ns'/\IntsAre ws ms'/\ns'.length+items2.size=ms'.length+items.size/\R (.ok (.ret (.bool (lexLt ns' ms')))) ⟨hp,g,d,tk,os⟩) _
  case turn =>
   rintro⟨y,x⟩ rest b s' ⟨hb',rfl,vs,ws,ns',ms',hz,hvi,hwi,hlen,hR⟩;cases hvi with
   |nil=>rw[List.zip_nil_left]at hz;cases hz
   |cons a t hvi' =>
    cases hwi with
    |nil=>rw[List.zip_nil_right]at hz;cases hz
    |cons c u hwi' =>
     rw[List.zip_cons_cons]at hz;injection hz with hyx hrest;injection hyx with hy hx;subst hy hx;rw[lexLt_cons]at hR;simp only[Zr]at hlen;obtain⟨e,he,hiff⟩:=eqAt_int A.in1 ⟨hp,g,d,tk,os⟩ a t c u;refine z6 (he prog w _ _ ?_);cases e with
     |true =>
      rw[if_pos (hiff.mp rfl)]at hR
      wp_walk
      exact⟨rfl,rfl,_,_,_,_,hrest,hvi',hwi',by omega,hR⟩
     |false =>
      rw[if_neg (fun q=>absurd (hiff.mpr q) Zm)]at hR;have hri:=wE A.in1 ⟨hp,g,d,tk,os⟩ a t c u prog w
      wp_walk using hri
      exact⟨_,rfl,by simpa using hR⟩
  case fin =>
   rintro⟨b1,b2⟩ s' ⟨hb',rfl,vs,ws,ns',ms',hz,hvi,hwi,hlen,hR⟩;simp only at hb';subst hb';have hv:lexLt ns' ms'=decide (items.size<items2.size):=by
    cases hvi with
    |nil =>
     cases hwi with
     |nil =>simp only[List.length_nil]at hlen;rw[lexLt_nil_nil];exact(decide_eq_false (by omega)).symm
     |cons c u hw =>simp only[List.length_nil,Zr]at hlen;rw[lexLt_nil_cons];exact(decide_eq_true (by omega)).symm
    |cons a t hv =>
     cases hwi with
     |nil =>simp only[List.length_nil,Zr]at hlen;rw[lJ];exact(decide_eq_false (by omega)).symm
     |cons c u hw =>rw[List.zip_cons_cons]at hz;cases hz
   rw[hv]at hR
   wp_walk
   exact⟨_,rfl,by simpa[Builtin.Tuple.tupleCompareSizes]using hR⟩
  case h =>exact⟨rfl,rfl,items.toList,items2.toList,ns,ms,rfl,hi,hj,by omega,h⟩
end
section
variable{prog:Program}{w:World}{A:Around}{E:Value->Shared->Prop}{s:Shared}
theorem lt_tupInts{l b:Addr}{items items2:Array Value}{ns ms:List Int}{Q:Value->Shared->Prop}(hl:IsTup s.heap l items)(hb:IsTup s.heap b items2)(hi:IntsAre items.toList ns)(hj:IntsAre items2.toList ms)(hu:A.units<cLine)(h:Q (.bool (lexLt ns ms)) s):wpAny (model prog w) A (compareOp .Lt (.ref l) (.ref b)) Q E s:=by
 obtain⟨⟨cls,dd,data,sl⟩,ho,hc,n,hd⟩:=id hl;obtain⟨⟨cls2,dd2,data2,sl2⟩,ho2,hc2,n2,hd2⟩:=id hb;simp only at hc hd hc2 hd2;subst hc hd hc2 hd2;exact richCompare_meets_room (op:=.Lt) ⟨_,ho,rfl⟩ ⟨_,ho2,rfl⟩ PySem.F.slot_tuple_lt PySem.F.entry_tuple_lt (PySem.F.args_tuple_lt_2 _ _) (nj l b items items2 n n2 dd dd2 sl sl2 ns ms hi hj)
  ⟨ho,ho2,show Value.bool (lexLt ns ms)≠Value.notImplemented/\Q (.bool (lexLt ns ms)) s from⟨(fun x=>nomatch x),h⟩⟩ hu
theorem cat_tup{t b:Addr}{vs ws:List Value}{Q:Value->Shared->Prop}(ht:IsTup s.heap t vs.toArray)(hb:IsTup s.heap b ws.toArray)(hv:vs≠[])(h1:ws=[]->Q (.ref t) s)(h2:ws≠[]->Q (.ref s.heap.objs.size) { s with heap:=s.heap.push { cls:=.type "tuple",data:=.seq (vs++ws).toArray } })(hsz:vs.length+ws.length<=sizeLine):wpAny (model prog w) A (binaryOp .Add (.ref t) (.ref b)) Q E s:=by
 obtain⟨⟨cls,dd,data,sl⟩,ho,hc,n,hd⟩:=id ht;obtain⟨⟨cls2,dd2,data2,sl2⟩,ho2,hc2,n2,hd2⟩:=id hb;simp only at hc hd hc2 hd2;subst hc hd hc2 hd2;have e:vs.toArray++ws.toArray=(vs++ws).toArray:=by simp
 by_cases hw:ws=[]
 ·exact concat_meets ⟨_,ho,rfl⟩ ⟨_,ho2,rfl⟩ noFill_tuple_add seq_tuple_add PySem.F.slot_tuple_add PySem.F.entry_tuple_add (PySem.F.args_tuple_add_2 _ _)
   (tuple_addW1 t b vs.toArray ws.toArray n n2 dd dd2 sl sl2 (by simpa using hv) (by simp[hw])) ⟨ho,ho2,h1 hw⟩
 ·refine concat_meets ⟨_,ho,rfl⟩ ⟨_,ho2,rfl⟩ noFill_tuple_add seq_tuple_add PySem.F.slot_tuple_add PySem.F.entry_tuple_add (PySem.F.args_tuple_add_2 _ _)
   (tuple_addW2 t b vs.toArray ws.toArray n n2 dd dd2 sl sl2 (by simpa using hv) (by simpa using hw) (by rw[Zj,Zj];exact hsz)) ⟨ho,ho2,?_⟩
  rw[e];exact h2 hw
def sIx(n d:Nat):Option Int->Nat
 |none=>d
 |some v=>if v<0 then(v+(n:Int)).toNat else min v.toNat n
theorem sIx_none(n d:Nat):sIx n d none=d:=rfl
theorem sIx_nat(n d k:Nat):sIx n d (some (k:Int))=min k n:=by show(if(k:Int)<0 then((k:Int)+(n:Int)).toNat else min (k:Int).toNat n)=min k n;rw[if_neg (by omega),Int.toNat_natCast]
theorem BA(n d:Nat)(hd:d<=n)(o:Option Int):sIx n d o<=n:=by
 cases o with
 |none=>exact hd
 |some v =>
  show(if v<0 then(v+(n:Int)).toNat else min v.toNat n)<=n;by_cases hv:v<0
  ·rw[if_pos hv];omega
  ·rw[if_neg hv];exact Nat.min_le_right _ _
theorem pS(v:Int)(n d:Nat):(if v<0 then max (v+(n:Int)) 0 else min v (n:Int))=((sIx n d (some v):Nat):Int):=by
 show(if v<0 then max (v+(n:Int)) 0 else min v (n:Int))=(((if v<0 then(v+(n:Int)).toNat else min v.toNat n):Nat):Int);by_cases hv:v<0
 ·simp only[if_pos hv];omega
 ·simp only[if_neg hv];omega
theorem ri(lo hi:Option Int)(n:Nat):Builtin.Slice.sliceAdjust lo hi 1 (n:Int)=(((sIx n 0 lo:Nat):Int),((sIx n n hi:Nat):Int)):=by
 have h1:¬((1:Int)<0):=by omega
 unfold Builtin.Slice.sliceAdjust;simp only[h1,if_false];refine Prod.ext ?_ ?_
 ·cases lo with
  |none=>rfl
  |some v=>exact pS v n 0
 ·cases hi with
  |none=>rfl
  |some v=>exact pS v n n
theorem rZ(i j:Nat):Builtin.Slice.slicePlaces (i:Int) (j:Int) 1=j-i:=by
 unfold Builtin.Slice.slicePlaces;have h1:(1:Int)>0:=by omega
 simp only[h1,if_true,Int.ediv_one];split<;>omega
theorem kQ{v:Value}{o:Option Int}{Q:Option Int->Shared->Prop}(p:IsPart v o)(h:Q o s):wpAny (model prog w) A (Builtin.Slice.slicePartIndex v) Q E s:=by
 cases p with
 |none=>exact slicePart_none h
 |int i t=>exact slicePart_int h
theorem sliceApplied_gen{sl:Addr}{vl vu:Value}{lo hi:Option Int}{n:Nat}{Q:Int×Int×Nat->Shared->Prop}(hs:s.heap.IsSliceOf sl vl vu .none)(pl:IsPart vl lo)(pu:IsPart vu hi)(h:Q (((sIx n 0 lo:Nat):Int),1,sIx n n hi-sIx n 0 lo) s):wpAny (model prog w) A (Builtin.Slice.sliceApplied (.ref sl) (pure (n:Int))) Q E s:=by obtain⟨os,hos,hcs,hds⟩:=id hs;unfold Builtin.Slice.sliceApplied Builtin.Slice.sliceFields;refine z6 (z6 (ZX hos hds (x:=vl) rfl (z6 (ZX hos hds (x:=vu) rfl (z6 (ZX hos hds (x:=.none) rfl (z9 ?_)))))));refine z6 (slicePart_none ?_);show wpAny _ _ (if((1:Int)==0)=true then _ else _) _ _ s;rw[if_neg (by decide)];refine z6 (kQ pl (z6 (kQ pu (z6 (z9 ?_)))));show wpAny _ _ (match Builtin.Slice.sliceAdjust lo hi 1 (n:Int)with|(lo,hi)=>pure (lo,(1:Int),Builtin.Slice.slicePlaces lo hi 1)) _ _ s;rw[ri lo hi n];show wpAny _ _ (pure (((sIx n 0 lo:Nat):Int),(1:Int),Builtin.Slice.slicePlaces ((sIx n 0 lo:Nat):Int) ((sIx n n hi:Nat):Int) 1)) _ _ s;rw[rZ];exact z9 h
theorem wf(xs:Array Value)(i k:Nat):((List.range k).filterMap fun(m:Nat)=>xs[((i:Int)+(m:Int)*1).toNat]?).toArray=((xs.toList.drop i).take k).toArray:=by
 have e:(fun(m:Nat)=>xs[((i:Int)+(m:Int)*1).toNat]?)=fun m=>xs[i+m]?:=by
  funext m;have:((i:Int)+(m:Int)*1).toNat=i+m:=by omega
  rw[this]
 rw[e];have:=pick_run xs i k;rw[List.filterMap_map]at this;have e2:((fun x=>xs[x]?)∘fun x=>i+x)=fun m=>xs[i+m]?:=rfl;rw[e2]at this;rw[this]
theorem getItem_tuple_cut{t sl:Addr}{items:Array Value}{vl vu:Value}{lo hi:Option Int}{Q:Value->Shared->Prop}(ht:IsTup s.heap t items)(hs:s.heap.IsSliceOf sl vl vu .none)(pl:IsPart vl lo)(pu:IsPart vu hi)(hw:¬(sIx items.size 0 lo=0/\sIx items.size items.size hi=items.size))(h:Q (.ref s.heap.objs.size) { s with heap:=s.heap.push { cls:=.type "tuple",data:=.seq ((items.toList.drop (sIx items.size 0 lo)).take (sIx items.size items.size hi-sIx items.size 0 lo)).toArray } })(hsz:items.size<=sizeLine):wpAny (model prog w) A (getItem (.ref t) (.ref sl)) Q E s:=by
 have htake:sizeOk (.seq ((items.toList.drop (sIx items.size 0 lo)).take (sIx items.size items.size hi-sIx items.size 0 lo)).toArray):=by show((items.toList.drop (sIx items.size 0 lo)).take (sIx items.size items.size hi-sIx items.size 0 lo)).toArray.size<=sizeLine;rw[Zj,ZS,Yu,Zs];omega
 have hj:sIx items.size items.size hi<=items.size:=BA _ _ (Zd _) hi;obtain⟨os,hos,hcs,hds⟩:=id hs;have hTs:s.TypeIs (.ref sl) "slice":=⟨os,hos,hcs⟩
 unfold getItem
 try with_reducible refine Yc ?_
 first|refine z6 (z9 ?_)|skip
 refine z6 (wpAny_sequenceKey ht.typeIs (by decide) ?_);refine z6 (Z1 (name:=Str.ofString "__getitem__") ht.typeIs Z9
  (Z5 Z9 ht.typeIs entry_tuple_getitem ?_ (args_tuple_getitem _ _)))
 show wpAny _ _ (Builtin.Tuple.tupleItemsOf (.ref t) >>= _) _ _ s;refine z6 (tupleItemsOf_ ht ?_);refine z6 (wpAny_typeOf hTs ?_);rw[if_pos (by decide)];refine z6 (sliceApplied_gen hs pl pu ?_);have hno:¬((((sIx items.size 0 lo:Nat):Int)==0&&(1:Int)==1&&(sIx items.size items.size hi-sIx items.size 0 lo)==items.size)=true):=by intro q;rw[Zz,Zz]at q;have q1:((sIx items.size 0 lo:Nat):Int)=0:=eq_of_beq q.1.1;have q2:sIx items.size items.size hi-sIx items.size 0 lo=items.size:=eq_of_beq q.2;exact hw ⟨by omega,by omega⟩
 show wpAny _ _ (if(((sIx items.size 0 lo:Nat):Int)==0&&(1:Int)==1&&(sIx items.size items.size hi-sIx items.size 0 lo)==items.size)=true then _ else _) _ _ s;rw[if_neg hno,wf]
 first
  |exact z6 (m:=Builtin.Tuple.tupleExact _) (Z8 (z9 ⟨_,rfl,z9 h⟩) htake)
  |exact z6 (m:=Builtin.Tuple.tupleExact _) (Z8 (z6 (z9 (z9 ⟨_,rfl,z9 h⟩))) htake)
  |exact z6 (z6 (m:=Builtin.Tuple.tupleExact _) (Z8 (z9 (z9 ⟨_,rfl,z9 h⟩)) htake))
  |exact z6 (z6 (m:=Builtin.Tuple.tupleExact _) (Z8 (z9 ⟨_,rfl,z9 h⟩) htake))
end
end HT
namespace L2
open PySem PySem.Spec PyProof.Rows
abbrev TO:=St->Hp->(Option Int->Hp->Prop)->Prop
def PO(X:Cx)(e:Option Expr)(t:TO):Prop :=
 ∀(pins:List (Addr×Obj)) (s:Shared) (σ:St) (H:Hp) (Q:Option Int->Hp->Prop),Inv X pins σ H s->t σ H Q ->
  wpAny (model X.prog X.w) X.A (evalPart e X.env) (fun u s'=>∃o H',Inv X pins σ H' s'/\IsPart u o/\Q o H') X.xe s
def qV:TO:=fun _ H Q=>Q none H
def xG(t:TE):TO:=fun σ H Q=>t σ H fun x H1=>∃i,x=.int i/\Q (some i) H1
theorem bI{ns:List Int}:∀{us:List Value},Vals (ns.map V.int) us->IntsAre us ns:=by
 induction ns with
 |nil=>intro us r;rw[List.map_nil]at r;cases r;exact .nil
 |cons n ns ih =>
  intro us r;rw[Zx]at r;cases r with
  |cons r1 r2 =>obtain⟨t,e⟩:=r1;subst e;exact .cons n t (ih r2)
section
variable{X:Cx}{e:Expr}{te:TE}{lo hi:Option Expr}{tl th:TO}{pos p2:Pos}
theorem yK:PO X none qV:=by intro pins s σ H Q I h;rw[evalPart_none];exact z9 ⟨none,H,I,.none,h⟩
theorem yL(h:PE X e te):PO X (some e) (xG te):=by intro pins s σ H Q I hw;rw[evalPart_some];refine thn (h pins s σ H _ I hw) fun u s1 hz9=>?_;obtain⟨x,H1,I1,r1,q1⟩:=hz9;obtain⟨i,rfl,q⟩:=q1;obtain⟨t,rfl⟩:=r1;exact⟨some i,H1,I1,.int i t,q⟩
def SlR(X:Cx)(r:V->Option Int->Option Int->Hp->VK->Prop):Prop :=
 ∀(pins:List (Addr×Obj)) (s:Shared) (σ:St) (H:Hp) (x:V) (v vl vu:Value) (lo hi:Option Int) (sl:Addr) (Q:VK),Inv X pins σ H s->RelV x v->s.heap.IsSliceOf sl vl vu .none->IsPart vl lo->IsPart vu hi->r x lo hi H Q ->
  ∃T id,typeLookup (.type T) "__getitem__" = pure (some (.builtin id))/\s.TypeIs v T/\wpAny (model X.prog X.w) X.A (getItem v (.ref sl)) (EP X pins σ Q) X.xe s
def tSl(r:V->Option Int->Option Int->Hp->VK->Prop)(te:TE)(tl th:TO):TE:=fun σ H Q=>te σ H fun x H1=>tl σ H1 fun l H2=>th σ H2 fun u H3=>r x l u H3 Q
theorem wb{r:V->Option Int->Option Int->Hp->VK->Prop}(hr:SlR X r)(he:PE X e te)(hl:PO X lo tl)(hu:PO X hi th):PE X (.Subscript e (.Slice lo hi none p2) pos) (tSl r te tl th):=by intro pins s σ H Q I h;refine Subscript_ (thn (he pins s σ H _ I h) fun v s1 hz9=>?_);obtain⟨x,H1,I1,r1,q1⟩:=hz9;refine wpAny_Slice (thn (hl pins s1 σ H1 _ I1 q1) fun vl s2 ⟨l,H2,I2,pl,q2⟩=>thn (hu pins s2 σ H2 _ I2 q2) fun vu s3 hz9=>?_);obtain⟨u,H3,I3,pu,q3⟩:=hz9;rw[evalPart_none];refine z9 ?_;have I4:Inv X pins σ H3 { s3 with heap:=s3.heap.push { cls:=.type "slice",data:=.fields #[vl,vu,.none] } }:=I3.kept (t':=s3.toks) fun b ob q=>Za _ q;obtain⟨T,id,hT,ht,hg⟩:=hr pins { s3 with heap:=s3.heap.push { cls:=.type "slice",data:=.fields #[vl,vu,.none] } } σ H3 x v vl vu l u s3.heap.objs.size Q I4 r1 (Heap.IsSliceOf.new ..) pl pu q3;show wpAny (model X.prog X.w) X.A (subscriptTail e (.Slice lo hi none p2) v (.ref s3.heap.objs.size)) (EP X pins σ Q) X.xe { s3 with heap:=s3.heap.push { cls:=.type "slice",data:=.fields #[vl,vu,.none] } };exact tail_any (ops:=[.ref s3.heap.objs.size,v]) ht hT hg (by with_unfolding_all rfl)
def bK(xs:List V)(lo hi:Option Int):List V:=(xs.drop (HT.sIx xs.length 0 lo)).take (HT.sIx xs.length xs.length hi-HT.sIx xs.length 0 lo)
theorem je(xs:List V)(lo hi:Option Int):(bK xs lo hi).length<=xs.length:=by unfold bK;rw[ZS,Yu];omega
def Dj(K:PySem.W.Frag):V->Option Int->Option Int->Hp->VK->Prop:=fun x lo hi H Q=>∃a xs,x=.ref a/\SqT K H a xs /\
 ¬(HT.sIx xs.length 0 lo=0/\HT.sIx xs.length xs.length hi=xs.length)/\∀p,H p=none->Q (.ref p) (upd H p (.tup (bK xs lo hi)))
theorem BE:SlR X (Dj X.K):=by
 intro pins s σ H x v vl vu lo hi sl Q I rx hs pl pu h;obtain⟨a,xs,rfl,hx,hw,q⟩:=h;cases rx;obtain⟨its,r,ht,hz⟩:=I.tuple hx;have hlen:its.toArray.size=xs.length:=by rw[Zj];exact r.length.symm
 refine⟨"tuple",_,Z9.lookup,ht.typeIs,?_⟩;refine HT.getItem_tuple_cut ht hs pl pu (by rw[hlen];exact hw) ?_ (by rw[hlen];exact hz);rw[hlen];refine⟨.ref s.heap.objs.size,_,I.laid (t':=s.toks) (o:=.tup (bK xs lo hi)) (fun b ob q=>Za _ q) (Zd _) ?_,rfl,q _ (I.hok.fresh (Zd _))⟩;exact⟨ZB (je xs lo hi) hz,_,(r.drop (HT.sIx xs.length 0 lo)).take (HT.sIx xs.length xs.length hi-HT.sIx xs.length 0 lo),IsTup.new _ _⟩
def CL(K:PySem.W.Frag):R2:=fun x y H Q=>∃a b xs ys,x=.ref a/\y=.ref b/\SqT K H a xs/\SqT K H b ys/\xs≠[]/\xs.length+ys.length<=sizeLine /\
 (ys=[]->Q (.ref a) H)/\(ys≠[]->∀p,H p=none->Q (.ref p) (upd H p (.tup (xs++ys))))
theorem Vals.nil_iff{xs:List V}{us:List Value}(r:Vals xs us):us=[]↔xs=[]:=by
 cases r with
 |nil=>simp
 |cons _ _=>simp
theorem yn:OpR X (binaryOp .Add) (CL X.K):=by intro pins s σ H x y v u Q I rx ry h;obtain⟨a,b,xs,ys,rfl,rfl,ha,hb,hx,hz,q1,q2⟩:=h;cases rx;cases ry;obtain⟨its,r1,p1,_⟩:=I.tuple ha;obtain⟨its2,r2,p2,_⟩:=I.tuple hb;refine HT.cat_tup p1 p2 (fun z=>hx (r1.nil_iff.mp z)) (fun z=>⟨.ref a,H,I,rfl,q1 (r2.nil_iff.mp z)⟩) (fun z=>?_) (by rw[<-r1.length,<-r2.length];exact hz);refine⟨.ref s.heap.objs.size,_,I.laid (t':=s.toks) (o:=.tup (xs++ys)) (fun b ob q=>Za _ q) (Zd _) ?_,rfl,q2 (fun w=>z (r2.nil_iff.mpr w)) _ (I.hok.fresh (Zd _))⟩;exact⟨by rw[Zg];exact hz,_,r1.append r2,IsTup.new _ _⟩
end
open PySem PySem.Spec PyProof.Rows
def ixN(n:Nat)(i:Int):Option Nat:=if 0<=i then(if i<n then some i.toNat else none)else if -(n:Int)<=i then some (i+n).toNat else none
def atI{α:Type}(xs:List α)(i:Int):Option α:=(ixN xs.length i).bind fun j=>xs[j]?
theorem yd{n:Nat}{i:Int}{j:Nat}(h:ixN n i=some j):seqIndex? i n=some j/\j<n/\-(n:Int)<=i/\i<n:=by
 unfold ixN at h;by_cases h0:0<=i
 ·rw[if_pos h0]at h;by_cases h1:i<n
  ·rw[if_pos h1]at h;have e:i.toNat=j:=Zi h;exact⟨by rw[seqIndex_of h0 h1,e],by omega,by omega,h1⟩
  ·rw[if_neg h1]at h;cases h
 ·rw[if_neg h0]at h;by_cases h1:-(n:Int)<=i
  ·rw[if_pos h1]at h;have e:(i+n).toNat=j:=Zi h;exact⟨by rw[seqIndex_neg (by omega) h1,e],by omega,h1,by omega⟩
  ·rw[if_neg h1]at h;cases h
theorem pP{α:Type}{xs:List α}{i:Int}{v:α}(h:atI xs i=some v):∃j,seqIndex? i xs.length=some j/\xs[j]?=some v/\j<xs.length/\-(xs.length:Int)<=i/\i<xs.length:=by
 unfold atI at h;cases e:ixN xs.length i with
 |none=>rw[e]at h;cases h
 |some j =>rw[e]at h;obtain⟨h1,h2,h3,h4⟩:=yd e;exact⟨j,h1,h,h2,h3,h4⟩
theorem cE{α:Type}{xs:List α}{j:Nat}{v:α}(h:xs[j]?=some v):atI xs (j:Int)=some v:=by
 have hj:j<xs.length:=(Zt.mp h).1;have e:ixN xs.length (j:Int)=some j:=by unfold ixN;rw[if_pos (by omega),if_pos (by omega)];simp
 unfold atI;rw[e];exact h
def pO(b:Expr):Prop:=∀o i,subscripted b false o i=operate [o,i] (getItem o i)
def IxR(X:Cx)(r:R2):Prop :=
 ∀(value slice:Expr) (pins:List (Addr×Obj)) (s:Shared) (σ:St) (H:Hp) (x y:V) (v u:Value) (Q:VK),Inv X pins σ H s->RelV x v->RelV y u->r x y H Q ->
  subscripted slice false v u=operate [v,u] (getItem v u)->wpAny (model X.prog X.w) X.A (subscriptTail value slice v u) (EP X pins σ Q) X.xe s
def MtR(X:Cx)(id:String)(r:V->List V->Hp->VK->Prop):Prop :=
 ∀(pins:List (Addr×Obj)) (s:Shared) (σ:St) (H:Hp) (x:V) (xs:List V) (v:Value) (us:List Value) (Q:VK),Inv X pins σ H s->RelV x v->Vals xs us->r x xs H Q ->
  wpAny (model X.prog X.w) X.A (call (.builtin id) (v::us)) (EP X pins σ Q) X.xe s
section
variable{X:Cx}{a b:Expr}{ta tb:TE}{pos:Pos}
theorem CD{r:R2}(hr:IxR X r)(ha:PE X a ta)(hb:PE X b tb)(hs:pO b):PE X (.Subscript a b pos) (tOp r ta tb):=by intro pins s σ H Q I h;exact Subscript_ (vp ha hb I h fun v u s2 x y H2 I2 rx ry q=>hr a b pins s2 σ H2 x y v u Q I2 rx ry q (hs _ _))
def Br(K:PySem.W.Frag):R2:=fun x y H Q=>∃p xs i v,x=.ref p/\y=.int i/\SqL K H p xs/\atI xs i=some v/\Q v H
def sr(K:PySem.W.Frag):R2:=fun x y H Q=>∃p xs i v,x=.ref p/\y=.int i/\SqT K H p xs/\atI xs i=some v/\Q v H
theorem ye:IxR X (Br X.K):=by
 intro value slice pins s σ H x y v u Q I rx ry h hs;obtain⟨p,xs,i,z,rfl,rfl,hq,he,q⟩:=h;cases rx;obtain⟨t,rfl⟩:=ry;obtain⟨its,r,pl,hz⟩:=I.list hq;obtain⟨j,h1,h2,h3,h4,h5⟩:=pP he;obtain⟨w,ew,rw'⟩:=r.get h2;have hl:=r.length;have hn:=oH;have fin:EP X pins σ Q w s:=⟨z,H,I,rw',q⟩
 by_cases h0:0<=i
 ·have hj:i.toNat=j:=by rw[seqIndex_of h0 h5]at h1;exact Zi h1
  exact item_listR pl.isList h0 (by omega) (by rw[hj];simpa using ew) fin hs
 ·have hj:(i+(its.toArray.size:Int)).toNat=j:=by rw[seqIndex_neg (by omega) h4]at h1;rw[Zj,<-hl];exact Zi h1
  exact subscriptTail_builtinR (x:=w) pl.isList.typeIs slot_list_getitem.lookup
   (wpAny_getItem_list_neg (Q:=fun r s'=>r=w/\EP X pins σ Q r s') pl.isList (by omega) (by rw[Zj]<;>omega) (by omega) (by rw[hj];simpa using ew) ⟨rfl,fin⟩) hs
theorem Ag:IxR X (sr X.K):=by
 intro value slice pins s σ H x y v u Q I rx ry h hs;obtain⟨p,xs,i,z,rfl,rfl,hq,he,q⟩:=h;cases rx;obtain⟨t,rfl⟩:=ry;obtain⟨its,r,pl,hz⟩:=I.tuple hq;obtain⟨j,h1,h2,h3,h4,h5⟩:=pP he;obtain⟨w,ew,rw'⟩:=r.get h2;have hl:=r.length;have hn:=oH;have fin:EP X pins σ Q w s:=⟨z,H,I,rw',q⟩
 exact subscriptTail_builtinR (x:=w) pl.typeIs slot_tuple_getitem.lookup
  (getItem_tuple (j:=j) (Q:=fun r s'=>r=w/\EP X pins σ Q r s') pl (by omega) (by omega) (by rw[Zj,<-hl];exact h1) (by simpa using ew) ⟨rfl,fin⟩) hs
theorem ph(lo hi:Option Int)(n:Nat):(sliceBounds lo hi none n).1=((HT.sIx n 0 lo:Nat):Int)/\(sliceBounds lo hi none n).2.1=((HT.sIx n n hi:Nat):Int)/\(sliceBounds lo hi none n).2.2=1:=by
 refine⟨?_,?_,rfl⟩
 ·cases lo with
  |none=>simp[sliceBounds,HT.sIx]
  |some i =>
   simp only[sliceBounds,HT.sIx,Option.getD_none,show(1:Int)>0 by decide,if_true];by_cases h:i<0
   ·simp only[h,if_true]<;>omega
   ·simp only[h,if_false]<;>omega
 ·cases hi with
  |none=>simp[sliceBounds,HT.sIx]
  |some i =>
   simp only[sliceBounds,HT.sIx,Option.getD_none,show(1:Int)>0 by decide,if_true];by_cases h:i<0
   ·simp only[h,if_true]<;>omega
   ·simp only[h,if_false]<;>omega
theorem nh(its:List Value)(lo hi:Option Int):slicePick its.toArray lo hi none=((its.drop (HT.sIx its.length 0 lo)).take (HT.sIx its.length its.length hi-HT.sIx its.length 0 lo)).toArray:=by obtain⟨h1,h2,h3⟩:=ph lo hi its.toArray.size;unfold slicePick;rw[h1,h2,h3];simp only[sliceRange_one,pick_run,Zj]<;>rfl
def Bv(K:PySem.W.Frag):V->Option Int->Option Int->Hp->VK->Prop:=fun x lo hi H Q=>∃a xs,x=.ref a/\SqL K H a xs/\∀p,H p=none->Q (.ref p) (upd H p (.lst (bK xs lo hi)))
theorem yY:SlR X (Bv X.K):=by intro pins s σ H x v vl vu lo hi sl Q I rx hs pl pu h;obtain⟨a,xs,rfl,hx,q⟩:=h;cases rx;obtain⟨its,r,ht,hz⟩:=I.list hx;have hlen:=r.length;refine⟨"list",_,slot_list_getitem.lookup,ht.isList.typeIs,?_⟩;refine wpAny_getItem_list_slice ht.isList hs pl pu .none (by simp) ?_ (by rw[Zj]<;>omega);rw[nh,<-hlen];refine⟨.ref s.heap.objs.size,_,I.laid (t':=s.toks) (o:=.lst (bK xs lo hi)) (fun b ob q=>Za _ q) (Zd _) ?_,rfl,q _ (I.hok.fresh (Zd _))⟩;exact⟨ZB (je xs lo hi) hz,_,0,(r.drop (HT.sIx xs.length 0 lo)).take (HT.sIx xs.length xs.length hi-HT.sIx xs.length 0 lo),Zn _ rfl⟩
def fD:V->Bool
 |.non=>true
 |.bl _=>true
 |.int _=>true
 |.str _=>true
 |_=>false
def eqV:V->V->Bool
 |.non,.non=>true
 |.bl a,.bl b=>a==b
 |.bl a,.int b=>(if a then 1 else 0)==b
 |.int a,.bl b=>a==(if b then 1 else 0)
 |.int a,.int b=>a==b
 |.str a,.str b=>a==b
 |_,_=>false
theorem zU{A:Around}{s:Shared}{y x:V}{u v:Value}(ry:RelV y u)(rx:RelV x v)(fy:fD y=true)(fx:fD x=true):SeqAt.EqAt A s u v (eqV y x):=by
 cases y with
 |non =>
  cases ry;cases x with
  |non=>cases rx;exact SeqAt.EqAt.same _
  |bl b=>cases rx;exact SeqAt.EqAt.none_bool b
  |int b=>obtain⟨t,rfl⟩:=rx;exact SeqAt.EqAt.none_int b t
  |str b=>obtain⟨t,rfl⟩:=rx;exact SeqAt.EqAt.none_str b t
  |_=>exact absurd (show false=true from fx) Zm
 |bl a =>
  cases ry;cases x with
  |non=>cases rx;exact SeqAt.EqAt.bool_none a
  |bl b=>cases rx;exact SeqAt.EqAt.bool_bool a b
  |int b=>obtain⟨t,rfl⟩:=rx;exact SeqAt.EqAt.bool_int a b t
  |str b=>obtain⟨t,rfl⟩:=rx;exact SeqAt.EqAt.bool_str a b t
  |_=>exact absurd (show false=true from fx) Zm
 |int a =>
  obtain⟨t',rfl⟩:=ry;cases x with
  |non=>cases rx;exact SeqAt.EqAt.int_none a t'
  |bl b=>cases rx;exact SeqAt.EqAt.int_bool a t' b
  |int b=>obtain⟨t,rfl⟩:=rx;exact SeqAt.EqAt.int_int a t' b t
  |str b=>obtain⟨t,rfl⟩:=rx;exact SeqAt.EqAt.int_str a t' b t
  |_=>exact absurd (show false=true from fx) Zm
 |str a =>
  obtain⟨t',rfl⟩:=ry;cases x with
  |non=>cases rx;exact SeqAt.EqAt.str_none a t'
  |bl b=>cases rx;exact SeqAt.EqAt.str_bool a t' b
  |int b=>obtain⟨t,rfl⟩:=rx;exact SeqAt.EqAt.str_int a t' b t
  |str b=>obtain⟨t,rfl⟩:=rx;exact SeqAt.EqAt.str_str a t' b t
  |_=>exact absurd (show false=true from fx) Zm
 |_=>exact absurd (show false=true from fy) Zm
def eqU(x:V)(u:Value):Bool:=match u with
 |.none=>eqV .non x
 |.bool b=>eqV (.bl b) x
 |.int i _=>eqV (.int i) x
 |.str z _=>eqV (.str z) x
 |_=>false
theorem tm{x y:V}{u:Value}(r:RelV y u)(f:fD y=true):eqU x u=eqV y x:=by
 cases y with
 |non=>cases r;rfl
 |bl b=>cases r;rfl
 |int i=>obtain⟨t,rfl⟩:=r;rfl
 |str z=>obtain⟨t,rfl⟩:=r;rfl
 |_=>exact absurd (show false=true from f) Zm
theorem lq{x:V}:∀{xs:List V} {us:List Value},Vals xs us->xs.all fD=true->us.any (eqU x)=xs.any fun y=>eqV y x
 |_,_,.nil,_=>rfl
 |y::xs,u::us,.cons r t,f=>by rw[YC,Zz]at f;rw[List.any_cons,List.any_cons,tm r f.1,lq t f.2]
theorem jD{A:Around}{s:Shared}{x:V}{v:Value}(rx:RelV x v)(fx:fD x=true):∀{xs:List V} {us:List Value},Vals xs us->xs.all fD=true->∀u∈us,SeqAt.EqAt A s u v (eqU x u)
 |_,_,.nil,_=>fun u hu=>by cases hu
 |y::xs,u::us,.cons r t,f=>fun u' hu=>by
  rw[YC,Zz]at f;rcases Zq.mp hu with rfl|hu
  ·rw[tm r f.1];exact zU r rx f.1 fx
  ·exact jD rx fx t f.2 u' hu
def inV(x:V)(xs:List V):Bool:=xs.any fun y=>eqV y x
def rIn(K:PySem.W.Frag)(neg:Bool):R2:=fun x y H Q=>∃p xs,y=.ref p/\(SqL K H p xs\/SqT K H p xs)/\fD x=true/\xs.all fD=true/\Q (.bl (if neg then !inV x xs else inV x xs)) H
theorem uq:OpR X (compareOp .In) (rIn X.K false):=by
 intro pins s σ H x y v u Q I rx ry h;obtain⟨p,xs,rfl,hq,fx,fs,q⟩:=h;cases ry;rcases hq with hq|hq
 ·obtain⟨its,r,pl,hz⟩:=I.list hq;refine SeqAt.in_listAt (eqU x) pl.isList (fun w hw=>jD rx fx r fs w (by simpa using hw)) ⟨.bl _,H,I,rfl,?_⟩;rw[show its.toArray.any (eqU x)=its.any (eqU x) by simp,lq r fs];exact q
 ·obtain⟨its,r,pl,hz⟩:=I.tuple hq;refine SeqAt.in_tupleAt (eqU x) pl (fun w hw=>jD rx fx r fs w (by simpa using hw)) ⟨.bl _,H,I,rfl,?_⟩;rw[show its.toArray.any (eqU x)=its.any (eqU x) by simp,lq r fs];exact q
theorem og:fB X (.builtin "len") (fun xs H Q=>∃p ys,xs=[.ref p]/\(SqL X.K H p ys\/SqT X.K H p ys)/\Q (.int ys.length) H):=by
 intro pins s σ H xs us Q I r h;obtain⟨p,ys,rfl,hq,q⟩:=h;obtain⟨u,rfl,rx⟩:=eI r;cases rx;have hn:=oH;rcases hq with hq|hq
 ·obtain⟨its,r',pl,hz⟩:=I.list hq;have hlen:=r'.length;exact Calls.call_len_list pl.isList (by simp only[Zj]<;>omega) ⟨.int ys.length,H,I.tok _,⟨s.toks+1,by rw[Zj,hlen]⟩,q⟩
 ·obtain⟨its,r',pl,hz⟩:=I.tuple hq;have hlen:=r'.length;exact len_tuple pl (by simp only[Zj]<;>omega) ⟨.int ys.length,H,I.tok _,⟨s.toks+1,by rw[Zj,hlen]⟩,q⟩
def tyV(K:PySem.W.Frag)(T:String)(x:V)(H:Hp):Prop:=match x with
 |.str _=>T="str"
 |.int _=>T="int"
 |.ref p=>(T="list"/\∃xs,SqL K H p xs)\/(T="tuple"/\∃o,K.lookup p=some o/\o.cls=.type "tuple"/\o.dict=none) \/
   (T="dict"/\((∃kvs,H p=some (.dK kvs))\/∃kvs,H p=some (.dT kvs)))\/(T="set"/\∃S n,H p=some (.set S n))
 |_=>False
theorem uV{pins:List (Addr×Obj)}{σ:St}{H:Hp}{s:Shared}{T:String}{x:V}{v:Value}(I:Inv X pins σ H s)(r:RelV x v)(ty:tyV X.K T x H) :
  s.TypeIs v T/\∀a,v=.ref a->∃ob,s.heap.get? a=some ob/\ob.dict=none:=by
 cases x with
 |str z =>obtain⟨t,rfl⟩:=r;cases(show T="str" from ty);exact⟨typeIs_str s z t,fun _ e=>nomatch e⟩
 |int i =>obtain⟨t,rfl⟩:=r;cases(show T="int" from ty);exact⟨typeIs_int s i t,fun _ e=>nomatch e⟩
 |ref p =>
  cases r;rcases ty with⟨rfl,xs,hq⟩|⟨rfl,o,hk,hc,hd⟩|⟨rfl,hk⟩|⟨rfl,S,n,hk⟩
  ·obtain⟨its,_,pl,_⟩:=I.list hq;refine⟨pl.isList.typeIs,fun a e=>?_⟩;cases e;obtain⟨o,n,e,c,hd,_⟩:=pl;exact⟨o,e,hd⟩
  ·refine⟨⟨o,I.kIn p o hk,hc⟩,fun a e=>?_⟩;cases e;exact⟨o,I.kIn _ o hk,hd⟩
  ·have z:∃o,s.heap.get? p=some o/\o.ExactDict:=by
    rcases hk with⟨kvs,hk⟩|⟨kvs,hk⟩
    ·obtain⟨_,_,_,_,o,_,_,e,ex,_⟩:=I.hok p _ hk;exact⟨o,e,ex⟩
    ·obtain⟨_,_,_,_,o,_,_,e,ex,_⟩:=I.hok p _ hk;exact⟨o,e,ex⟩
   obtain⟨o,e,ex⟩:=z;refine⟨⟨o,e,ex.1⟩,fun a e2=>?_⟩;cases e2;exact⟨o,e,ex.2.1⟩
  ·obtain⟨o,_,_,_,e,ex,_⟩:=I.hok p _ hk;refine⟨⟨o,e,ex.1⟩,fun a e2=>?_⟩;cases e2;exact⟨o,e,ex.2.1⟩
 |_=>exact False.elim ty
def BJ(K:PySem.W.Frag)(T:String)(r:V->List V->Hp->VK->Prop)(to:TE):TE:=fun σ H Q=>to σ H fun x H1=>tyV K T x H1/\r x [] H1 Q
def tBM(K:PySem.W.Frag)(T:String)(r:V->List V->Hp->VK->Prop)(to:TE)(t:TA):TE:=fun σ H Q=>to σ H fun x H1=>tyV K T x H1/\t σ H1 fun xs H2=>r x xs H2 Q
variable{o e:Expr}{es:List Expr}{to:TE}{t:TA}{name:Str}{apos cpos:Pos}{T id:String}{r:V->List V->Hp->VK->Prop}
theorem AU(pa:PlainAttrs T)(slot:Slot T name id)(hty:typeOf (.builtin id)=pure (.type "method_descriptor"))(hm:MtR X id r)(ho:PE X o to)(hbase:attributeBase o name X.env (eval o X.env)=eval o X.env:=by rfl)(hline:(apos.endLine==cpos.line)=true:=by rfl):PE X (.Call (.Attribute o name apos) [] [] cpos) (BJ X.K T r to):=by intro pins s σ H Q I h;refine wpAny_Call_method0_late hbase hline (thn (ho pins s σ H _ I h) fun v s1 hz9=>?_);obtain⟨x,H1,I1,r1,ty,q1⟩:=hz9;obtain⟨h1,h2⟩:=uV I1 r1 ty;exact⟨T,id,pa,slot,hty,h1,h2,Calls.callWith_builtin rfl (PySem.evalArgs_none (hm pins s1 σ H1 x [] v [] Q I1 r1 .nil q1))⟩
theorem rY(pa:PlainAttrs T)(slot:Slot T name id)(hty:typeOf (.builtin id)=pure (.type "method_descriptor"))(hm:MtR X id r)(ho:PE X o to)(ha:PA X (e::es) t)(hbase:attributeBase o name X.env (eval o X.env)=eval o X.env:=by rfl)(hfew:((backTo cpos (starEach (e::es) X.env)).all (fun x=>!x.1)&&(backToKw cpos (keywordEach [] X.env)).all (fun x=>x.1.isSome)
  &&decide ((e::es).length+([]:List Keyword).length+(if ([]:List Keyword).isEmpty then 0 else 1)<30))=true:=by rfl)(hline:(apos.endLine == cpos.line)=true:=by rfl)(hs:starEach (e::es) X.env=(false,eval e X.env)::starEach es X.env:=by rfl)(hplain:(backTo cpos (starEach es X.env)).any (·.1)=false:=by rfl) :
  PE X (.Call (.Attribute o name apos) (e::es) [] cpos) (tBM X.K T r to t):=by
 intro pins s σ H Q I h;refine wpAny_Call_method_late hbase hfew hline rfl (thn (ho pins s σ H _ I h) fun v s1 hz9=>?_);obtain⟨x,H1,I1,r1,ty,q1⟩:=hz9;obtain⟨h1,h2⟩:=uV I1 r1 ty;refine⟨T,id,pa,slot,hty,h1,h2,?_⟩;have hA:=ha cpos pins s1 σ H1 _ I1 q1;rw[hs]at hA ⊢;refine Calls.callWith_builtin (by show(false ||(backTo cpos (starEach es X.env)).any (·.1))=false;rw[hplain]<;>rfl) (Calls.evalArgs_plain ?_);exact thn hA fun us s2 ⟨vs,H2,I2,r2,q2⟩=>hm pins s2 σ H2 x vs v us Q I2 r1 r2 q2
end
open PySem PySem.Spec PyProof.Rows
def MtM(X:Cx)(id:String)(r:V->List V->Hp->VK->Prop):Prop :=
 ∀(pins:List (Addr×Obj)) (s:Shared) (σ:St) (H:Hp) (x:V) (xs:List V) (v:Value) (us:List Value) (Q:VK),Inv X pins σ H s->RelV x v->Vals xs us->r x xs H Q ->
  wpAny (model X.prog X.w) X.A (call (.builtin id) (v::us)) (EP X pins σ Q) X.xe s
theorem Vals.one:∀{x:V} {us:List Value},Vals [x] us->∃u,us=[u]/\RelV x u
 |_,_,.cons r .nil=>⟨_,rfl,r⟩
theorem Vals.zero:∀{us:List Value},Vals [] us->us=[]
 |_,.nil=>rfl
theorem Vals.dropLast{xs:List V}{us:List Value}(h:Vals xs us):Vals xs.dropLast us.dropLast:=by
 induction h with
 |nil=>exact .nil
 |cons r t ih =>
  cases t with
  |nil=>exact .nil
  |cons q t'=>exact .cons r ih
theorem ro{α:Type}(l:List α):l.eraseIdx (l.length-1)=l.dropLast:=by
 induction l with
 |nil=>rfl
 |cons a r ih =>
  cases r with
  |nil=>rfl
  |cons b r =>
   have e:(a::b::r).length-1=((b::r).length-1)+1:=by have h1:(a::b::r).length=r.length+2:=rfl;have h2:(b::r).length=r.length+1:=rfl;omega
   rw[e,List.eraseIdx_cons_succ,ih]
   all_goals rfl
section
variable{X:Cx}{pins:List (Addr×Obj)}{σ:St}{H:Hp}{s:Shared}{l b:Addr}{xs ys zs:List V}
theorem Inv.lset{its its':List Value}{n:Nat}{f:Array Value->Array Value}{t':Nat}(I:Inv X pins σ H s)(hH:H l=some (.lst xs))(e:s.heap.get? l=some { cls:=.type "list",data:=.seq its.toArray n })(hf:f its.toArray=its'.toArray)(hv:Vals ys its')(hz:ys.length<=sizeLine) :
  Inv X pins σ (upd H l (.lst ys)) { s with heap:=s.heap.update l (Obj.mapSeq f),toks:=t' }:=by
 have q:=PySem.IsL.update e f;rw[hf]at q;refine I.write (x:=l) (e:=l) (by rw[hH];exact trivial) (.inl rfl) (fun b' u hb hu=>(Yg s.heap (Obj.mapSeq f) (ZN hb)).trans hu) ⟨_,q⟩ ?_;exact⟨hz,its',_,hv,q⟩
theorem Inv.lnew{its:List Value}{t':Nat}(I:Inv X pins σ H s)(hv:Vals ys its)(hz:ys.length<=sizeLine) :
  Inv X pins σ (upd H s.heap.objs.size (.lst ys)) { s with heap:=s.heap.push { cls:=.type "list",data:=.seq its.toArray },toks:=t' } :=
 I.laid (fun _ _ q=>Za _ q) (Zd _) ⟨hz,its,0,hv,Zn _ rfl⟩
theorem Inv.fresh(I:Inv X pins σ H s):H s.heap.objs.size=none:=I.hok.fresh (Zd _)
theorem Inv.lstM(I:Inv X pins σ H s)(hH:H l=some (.lst xs)):xs.length<=sizeLine/\∃(its:List Value) (n:Nat),Vals xs its/\xs.length=its.length/\s.heap.get? l=some { cls:=.type "list",data:=.seq its.toArray n }:=by obtain⟨z,its,n,r,e⟩:=I.hok l _ hH;exact⟨z,its,n,r,r.length,e⟩
theorem vQ{n:Nat}(h:n<=sizeLine):Builtin.List.listTooLong n=false:=by unfold Builtin.List.listTooLong;exact decide_eq_false (by omega)
end
section
variable{X:Cx}
def qD:V->List V->Hp->VK->Prop:=fun x vs H Q=>∃l xs y,x=.ref l/\vs=[y]/\H l=some (.lst xs)/\xs.length<sizeLine/\Q .non (upd H l (.lst (xs++[y])))
theorem tX:MtM X "list.append" qD:=by intro pins s σ H x vs v us Q I rx rv h;obtain⟨l,xs,y,rfl,rfl,hH,hz,q⟩:=h;cases rx;obtain⟨u,rfl,ru⟩:=rv.one;obtain⟨z,its,n,r,hl,e⟩:=I.lstM hH;refine call_meets F.slot_list_append ⟨_,e,rfl⟩ F.entry_list_append (F.args_list_append_2 _ _) (PySem.list_append l its.toArray n u (by rw[Zj];omega)) ⟨e,?_⟩;refine⟨.non,_,I.lset (its':=its++[u]) hH e (by simp) (r.append (.cons ru .nil)) ?_,rfl,q⟩;rw[Zg,Yw];omega
def qE:V->List V->Hp->VK->Prop:=fun x vs H Q=>∃l b xs zs,x=.ref l/\vs=[.ref b]/\H l=some (.lst xs)/\H b=some (.lst zs)/\xs.length+zs.length<=sizeLine/\Q .non (upd H l (.lst (xs++zs)))
theorem tY:MtM X "list.extend" qE:=by
 intro pins s σ H x vs v us Q I rx rv h;obtain⟨l,b,xs,zs,rfl,rfl,hH,hB,hz,q⟩:=h;cases rx;obtain⟨u,rfl,ru⟩:=rv.one;cases ru;obtain⟨z,its,n,r,hl,e⟩:=I.lstM hH;obtain⟨z2,its2,n2,r2,hl2,e2⟩:=I.lstM hB;have hsz:its.toArray.size+its2.toArray.size<=sizeLine:=by rw[Zj,Zj];omega
 have hlong:¬(!its.toArray.isEmpty&&Builtin.List.listTooLong (its.toArray.size+its2.toArray.size))=true:=by rw[vQ hsz,Bool.and_false];exact Zm
 refine call_meets F.slot_list_extend ⟨_,e,rfl⟩ F.entry_list_extend (F.args_list_extend_2 _ _)
  (AutoSeq1.list_extend_list_list_0 l its.toArray n b its2.toArray n2 hlong (by rw[Zj];omega) (by omega)) ⟨e,e2,?_⟩
 refine⟨.non,_,I.lset (its':=its++its2) hH e (by simp) (r.append r2) ?_,rfl,q⟩;rw[Zg];omega
def Bu:V->List V->Hp->VK->Prop:=fun x vs H Q=>∃l xs y,x=.ref l/\vs=[]/\H l=some (.lst xs)/\xs[xs.length-1]?=some y/\Q y (upd H l (.lst xs.dropLast))
theorem Ap:MtM X "list.pop" Bu:=by
 intro pins s σ H x vs v us Q I rx rv h;obtain⟨l,xs,y,rfl,rfl,hH,hy,q⟩:=h;cases rx;have hus:=rv.zero;subst hus;obtain⟨z,its,n,r,hl,e⟩:=I.lstM hH;obtain⟨u,hu,ru⟩:=r.get hy;have hy':its.toArray[its.toArray.size-1]?=some u:=by show its.toArray[its.length-1]?=some u;rw[<-Yx,<-hl];exact hu
 refine call_meets F.slot_list_pop ⟨_,e,rfl⟩ F.entry_list_pop (F.args_list_pop_1 _) (MeetsSeq.list_pop_last l its.toArray n u hy' (by rw[Zj];omega)) ⟨e,?_⟩;refine⟨y,_,I.lset (its':=its.dropLast) hH e ?_ r.dropLast ?_,ru,q⟩
 ·show its.toArray.eraseIdxIfInBounds (its.toArray.size-1)=its.dropLast.toArray;rw[Zj,List.eraseIdxIfInBounds_toArray,ro]
 ·rw[List.length_dropLast];omega
def Bo:R2:=fun x y H Q=>∃l b xs zs,x=.ref l/\y=.ref b/\H l=some (.lst xs)/\H b=some (.lst zs)/\xs.length+zs.length<=sizeLine/\∀p,H p=none->Q (.ref p) (upd H p (.lst (xs++zs)))
theorem AE:OpR X (binaryOp .Add) Bo:=by
 intro pins s σ H x y v u Q I rx ry h;obtain⟨l,b,xs,zs,rfl,rfl,hH,hB,hz,q⟩:=h;cases rx;cases ry;obtain⟨z,its,n,r,hl,e⟩:=I.lstM hH;obtain⟨z2,its2,n2,r2,hl2,e2⟩:=I.lstM hB;refine PySem.P.add_list e e2 ?_ (by rw[Zj,Zj];omega);have ea:its.toArray++its2.toArray=(its++its2).toArray:=by simp
 rw[ea];exact⟨.ref _,_,I.lnew (t':=s.toks) (r.append r2) (by rw[Zg];omega),rfl,q _ I.fresh⟩
end
open PySem PySem.Spec PyProof.Rows
section
variable{κ:Type}[DecidableEq κ]
def bu(kvs:List (κ×V))(k:κ):Option V:=(kvs.find? fun kv=>decide (kv.1=k)).map (·.2)
def bD(kvs:List (κ×V))(k:κ)(v:V):List (κ×V) :=
 if(kvs.any fun kv=>decide (kv.1=k))=true then kvs.map (fun kv=>if kv.1=k then(kv.1,v)else kv)else kvs++[(k,v)]
theorem ie{p:κ×V}{r:List (κ×V)}{k:κ}(e:p.1=k):bu (p::r) k=some p.2:=by simp[bu,List.find?_cons,e]
theorem fA{p:κ×V}{r:List (κ×V)}{k:κ}(e:¬p.1=k):bu (p::r) k=bu r k:=by simp[bu,List.find?_cons,e]
theorem dI(k:κ):∀kvs:List (κ×V),(kvs.any fun kv=>decide (kv.1=k))=(bu kvs k).isSome
 | []=>rfl
 |p::r=>by
  rw[List.any_cons];by_cases e:p.1=k
  ·simp only[ie e,decide_eq_true e,Bool.true_or,Option.isSome_some]
  ·rw[fA e,decide_eq_false e,Bool.false_or];exact dI k r
theorem jl(kvs:List (κ×V))(k:κ)(v:V):(bD kvs k v).length<=kvs.length+1:=by
 unfold bD;split
 ·rw[Zu];omega
 ·rw[Zg,Zr,List.length_nil];omega
theorem wn{kvs:List (κ×V)}{k:κ}(v:V)(h:bu kvs k=none):bD kvs k v=kvs++[(k,v)]:=by unfold bD;rw[dI,h];exact if_neg (by decide)
theorem RelO.isSome_eq{o:Option V}{u:Option Value}(r:RelO o u):o.isSome=u.isSome:=by
 cases o with
 |none=>cases u with
  |none=>rfl
  |some _=>exact(show False from r).elim
 |some _=>cases u with
  |none=>exact(show False from r).elim
  |some _=>rfl
theorem KV.val{kvs:List (κ×V)}{vs:List (κ×Value)}(r:KV kvs vs)(k:κ):RelO (bu kvs k) (valueAt vs k):=by
 unfold KV at r;induction r with
 |nil=>exact True.intro
 |@cons p q ps qs h t ih =>
  obtain⟨h1,h2⟩:=h;by_cases e:p.1=k
  ·have e':q.1=k:=h1.symm.trans e;have b:valueAt (q::qs) k=some q.2:=by simp[valueAt,List.find?_cons,e']
   rw[ie e,b];exact h2
  ·have e':¬q.1=k:=fun z=>e (h1.trans z);have b:valueAt (q::qs) k=valueAt qs k:=by simp[valueAt,List.find?_cons,e']
   rw[fA e,b];exact ih
theorem KV.any{kvs:List (κ×V)}{vs:List (κ×Value)}(r:KV kvs vs)(k:κ):(kvs.any fun kv=>decide (kv.1=k))=vs.any fun kv=>decide (kv.1=k):=by
 unfold KV at r;induction r with
 |nil=>rfl
 |cons h t ih=>rw[List.any_cons,List.any_cons,ih,h.1]
theorem KV.repl{kvs:List (κ×V)}{vs:List (κ×Value)}(r:KV kvs vs)(k:κ){y:V}{u:Value}(ry:RelV y u) :
  KV (kvs.map fun kv=>if kv.1=k then(kv.1,y)else kv) (vs.map fun kv=>if kv.1=k then(kv.1,u)else kv):=by
 unfold KV at r ⊢;induction r with
 |nil=>exact .nil
 |@cons p q ps qs h t ih =>
  rw[Zx,Zx];refine .cons ?_ ih;obtain⟨h1,h2⟩:=h;by_cases e:p.1=k
  ·rw[if_pos e,if_pos (h1.symm.trans e)];exact⟨h1,ry⟩
  ·rw[if_neg e,if_neg (fun z=>e (h1.trans z))];exact⟨h1,h2⟩
theorem KV.put{kvs:List (κ×V)}{vs:List (κ×Value)}(r:KV kvs vs)(k:κ){y:V}{u:Value}(ry:RelV y u):KV (bD kvs k y) (stored vs k u):=by
 unfold bD stored;rw[r.any k];by_cases e:(vs.any fun kv=>decide (kv.1=k))=true
 ·rw[if_pos e,if_pos e];exact r.repl k ry
 ·rw[if_neg e,if_neg e];exact Paired.snoc r ⟨rfl,ry⟩
theorem KV.length{kvs:List (κ×V)}{vs:List (κ×Value)}(r:KV kvs vs):kvs.length=vs.length:=ZI r
end
theorem kj{P:Program}{w:World}{k:Key}{u:Value}(r:RelV (kV k) u):(aM P w).is k u=true:=by
 cases k with
 |inl i=>obtain⟨t,e⟩:=(show∃t,u=Value.int i t from r);subst e;exact pK P w i t
 |inr x=>obtain⟨t,e⟩:=(show∃t,u=Value.str x t from r);subst e;exact pL P w x t
theorem mE{P:Program}{w:World}:∀{ks:List Key} {us:List Value},Vals (ks.map kV) us->ItemsAre (aM P w) ks us
 | [],_,r=>by rw[List.map_nil]at r;cases r;exact .nil
 |k::ks,_,r=>by
  rw[Zx]at r;cases r with
  |cons h t=>exact .cons (kj h) (mE t)
abbrev KT(H:Hp):List (List Key×V)->List (List Key×Addr×Value)->Prop:=Paired fun p q=>p.1=q.1/\H q.2.1=some (.tup (p.1.map kV))/\RelV p.2 q.2.2
theorem KT.val{H:Hp}{kvs:List (List Key×V)}{xs:List (List Key×Addr×Value)}(r:KT H kvs xs)(k:List Key):RelO (bu kvs k) ((atKey xs k).map (·.2)):=by
 induction r with
 |nil=>exact True.intro
 |@cons p q ps qs h t ih =>
  obtain⟨h1,_,h2⟩:=h;by_cases e:p.1=k
  ·have e':q.1=k:=h1.symm.trans e;have b:atKey (q::qs) k=some q.2:=by simp[atKey,List.find?_cons,e']
   rw[ie e,b];exact h2
  ·have e':¬q.1=k:=fun z=>e (h1.trans z);have b:atKey (q::qs) k=atKey qs k:=by simp[atKey,List.find?_cons,e']
   rw[fA e,b];exact ih
theorem KT.repl{H:Hp}{kvs:List (List Key×V)}{xs:List (List Key×Addr×Value)}(r:KT H kvs xs)(k:List Key){y:V}{u:Value}(ry:RelV y u) :
  KT H (kvs.map fun kv=>if kv.1=k then(kv.1,y)else kv) (xs.map (putAt k u)):=by
 induction r with
 |nil=>exact .nil
 |@cons p q ps qs h t ih =>
  rw[Zx,Zx];refine .cons ?_ ih;obtain⟨h1,h2,h3⟩:=h;unfold putAt;by_cases e:p.1=k
  ·rw[if_pos e,if_pos (h1.symm.trans e)];exact⟨h1,h2,ry⟩
  ·rw[if_neg e,if_neg (fun z=>e (h1.trans z))];exact⟨h1,h2,h3⟩
theorem KT.put{H:Hp}{kvs:List (List Key×V)}{xs:List (List Key×Addr×Value)}(r:KT H kvs xs)(k:List Key){b:Addr}{y:V}{u:Value}(hb:H b=some (.tup (k.map kV)))(ry:RelV y u) :
  KT H (bD kvs k y) (storedH xs k b u):=by
 have e:(kvs.any fun kv=>decide (kv.1=k))=(atKey xs k).isSome:=by rw[dI,(r.val k).isSome_eq,Option.isSome_map]
 unfold bD storedH;rw[e];by_cases q:(atKey xs k).isSome=true
 ·rw[if_pos q,if_pos q];exact r.repl k ry
 ·rw[if_neg q,if_neg q];exact Paired.snoc r ⟨rfl,hb,ry⟩
theorem KT.keeps{H H':Hp}{kvs:List (List Key×V)}{xs:List (List Key×Addr×Value)}(r:KT H kvs xs)(ht:∀b ys,H b=some (.tup ys)->H' b=some (.tup ys)):KT H' kvs xs :=
 Paired.mapP r fun _ _ z=>⟨z.1,ht _ _ z.2.1,z.2.2⟩
section
variable{P:Program}{w:World}{H:Hp}{h:Heap}{a:Addr}
theorem xu{u:HO}(ok:HOk P w H h)(e:Rd H a u):ObjOk P w H h a u:=e.ok ok
theorem jT{kvs:List (Key×V)}(ok:HOk P w H h)(e:Rd H a (.dK kvs)):kvs.length<=sizeLine/\(a==sysModules)=false/\∃vs,KV kvs vs/\h.DictOf (aM P w) a vs :=
 show ObjOk P w H h a (.dK kvs)from xu ok e
theorem Ce{kvs:List (Key×V)}(ok:HOk P w H h)(e:H a=some (.dK kvs)):kvs.length<=sizeLine/\(a==sysModules)=false/\∃vs,KV kvs vs/\h.DictOf (aM P w) a vs:=jT ok (.inl e)
theorem eW{ks:List Key}(ok:HOk P w H h)(e:H a=some (.tup (ks.map kV))):(tupleKind (aM P w)).is h ks a:=by
 obtain⟨_,its,r,o,h1,h2,n,h3⟩:=(show ObjOk P w H h a (.tup (ks.map kV))from ok a _ e)
 exact⟨o,its.toArray,n,h1,h2,h3,by simpa using mE r⟩
theorem gF{kvs:List (List Key×V)}(ok:HOk P w H h)(e:Rd H a (.dT kvs)):kvs.length<=sizeLine/\(a==sysModules)=false /\
  ∃xs,KT H kvs xs/\h.DictOfH (tupleKind (aM P w)) a xs:=by
 obtain⟨z,y,xs,r,o,es,ep,h1,h2,h3,h4,h5⟩:=(show ObjOk P w H h a (.dT kvs)from xu ok e)
 refine⟨z,y,xs,r,o,es,ep,h1,h2,h3,h4,fun x hx=>?_,h5⟩;have all:∀{l:List (List Key×V)} {m:List (List Key×Addr×Value)},KT H l m->∀x∈m,(tupleKind (aM P w)).is h x.1 x.2.1:=by
  intro l m q;induction q with
  |nil=>intro x hx;exact nomatch hx
  |@cons p q ps qs hq t ih =>
   intro x hx;rcases Zq.mp hx with e|hx
   ·subst e;exact eW ok (by rw[<-hq.1];exact hq.2.1)
   ·exact ih x hx
 exact all r x hx
theorem Cf{kvs:List (List Key×V)}(ok:HOk P w H h)(e:H a=some (.dT kvs)):kvs.length<=sizeLine/\(a==sysModules)=false /\
  ∃xs,KT H kvs xs/\h.DictOfH (tupleKind (aM P w)) a xs:=gF ok (.inl e)
end
def DGet(H:Hp)(a:Addr)(y:V)(r:Option V):Prop :=
 (∃kvs k,Rd H a (.dK kvs)/\y=kV k/\r=bu kvs k)\/∃kvs k b,Rd H a (.dT kvs)/\y=.ref b/\H b=some (.tup (k.map kV))/\r=bu kvs k
def DPut(H:Hp)(a:Addr)(y v:V)(H':Hp):Prop :=
 (∃kvs k,H a=some (.dK kvs)/\y=kV k/\kvs.length<sizeLine/\H'=upd H a (.dK (bD kvs k v))) \/
 ∃kvs k b,H a=some (.dT kvs)/\y=.ref b/\H b=some (.tup (k.map kV))/\kvs.length<sizeLine/\H'=upd H a (.dT (bD kvs k v))
theorem DGet.t{H:Hp}{a b:Addr}{kvs:List (List Key×V)}{k:List Key}(e:H a=some (.dT kvs))(eb:H b=some (.tup (k.map kV))):DGet H a (.ref b) (bu kvs k):=.inr ⟨kvs,k,b,.inl e,rfl,eb,rfl⟩
theorem DPut.t{H:Hp}{a b:Addr}{kvs:List (List Key×V)}{k:List Key}{v:V}(e:H a=some (.dT kvs))(eb:H b=some (.tup (k.map kV)))(hl:kvs.length<sizeLine) :
  DPut H a (.ref b) v (upd H a (.dT (bD kvs k v))):=.inr ⟨kvs,k,b,e,rfl,eb,hl,rfl⟩
section
variable{X:Cx}{pins:List (Addr×Obj)}{σ:St}{H:Hp}{s:Shared}{a:Addr}{y v:V}{u r:Value}{o:Option V}{A:Around}{E:Value->Shared->Prop}
theorem Inv.big(I:Inv X pins σ H s):sysModules<s.heap.objs.size:=by have h:mainGlobals<s.heap.objs.size:=(I.mod.glob.keeps I.bk).lt;exact Nat.lt_trans (by decide) h
theorem sW{Q:Value->Shared->Prop}(hu:A.units+1<cLine)(I:Inv X pins σ H s)(g:DGet H a y (some v))(ry:RelV y u)(h:∀w' s',Inv X pins σ H s'->RelV v w'->Q w' s') :
  wpAny (model X.prog X.w) A (getItem (.ref a) u) Q E s:=by
 rcases g with⟨kvs,k,e,ey,l⟩|⟨kvs,k,b,e,ey,eb,l⟩
 ·subst ey;obtain⟨z,hd,vs,rel,dd⟩:=jT I.hok e;obtain⟨w',hw,rw'⟩:=RelO.some_of (v:=v) (o:=valueAt vs k) (by rw[l];exact rel.val k);exact wpAny_getItem_of (kj ry) dd.mapOf hw (h w' _ (I.tok _) rw')
 ·subst ey;cases(show u=Value.ref b from ry);obtain⟨z,hd,xs,rel,dd⟩:=gF I.hok e;obtain⟨w',hw,rw'⟩:=RelO.some_of (v:=v) (o:=(atKey xs k).map (·.2)) (by rw[l];exact rel.val k);obtain⟨p,hp,hp2⟩:=ZC.mp hw;refine wpAny_getItem_heap (tupleKind_room_in1 hu) (eW I.hok eb) dd hp ?_;rw[hp2];exact h w' _ (I.tok _) rw'
theorem Da{Q:Value->Shared->Prop}(hu:A.units+1<cLine)(I:Inv X pins σ H s)(g:DGet H a y o)(ry:RelV y u)(h:∀s',Inv X pins σ H s'->Q (.bool o.isSome) s') :
  wpAny (model X.prog X.w) A (compareOp .In u (.ref a)) Q E s:=by
 rcases g with⟨kvs,k,e,ey,l⟩|⟨kvs,k,b,e,ey,eb,l⟩
 ·subst ey;obtain⟨z,hd,vs,rel,dd⟩:=jT I.hok e;refine wpAny_in_of (kj ry) hd dd.mapOf ?_;rw[<-(rel.val k).isSome_eq,<-l];exact h _ (I.tok _)
 ·subst ey;cases(show u=Value.ref b from ry);obtain⟨z,hd,xs,rel,dd⟩:=gF I.hok e;refine wpAny_in_heap (tupleKind_room_in1 hu) (eW I.hok eb) hd dd ?_;have q:=(rel.val k).isSome_eq;rw[Option.isSome_map]at q;rw[<-q,<-l];exact h _ (I.tok _)
theorem xV{Q:Value->Shared->Prop}(hu:A.units+1<cLine)(I:Inv X pins σ H s)(g:DGet H a y o)(ry:RelV y u)(h:∀s',Inv X pins σ H s'->Q (.bool (!o.isSome)) s') :
  wpAny (model X.prog X.w) A (compareOp .NotIn u (.ref a)) Q E s:=by
 rcases g with⟨kvs,k,e,ey,l⟩|⟨kvs,k,b,e,ey,eb,l⟩
 ·subst ey;obtain⟨z,hd,vs,rel,dd⟩:=jT I.hok e;refine wpAny_notIn_of (kj ry) hd dd.mapOf ?_;rw[<-(rel.val k).isSome_eq,<-l];exact h _ (I.tok _)
 ·subst ey;cases(show u=Value.ref b from ry);obtain⟨z,hd,xs,rel,dd⟩:=gF I.hok e;refine wpAny_notIn_heap (tupleKind_room_in1 hu) (eW I.hok eb) hd dd ?_;have q:=(rel.val k).isSome_eq;rw[Option.isSome_map]at q;rw[<-q,<-l];exact h _ (I.tok _)
theorem lC{h':Heap}{t':Nat}{ob:HO}(I:Inv X pins σ H s)(mu:Mut (H a))(hs:Heap.SameBut a s.heap h')(he:∃q,h'.get? a=some q)(new:ObjOk X.prog X.w (upd H a ob) h' a ob) :
  Inv X pins σ (upd H a ob) { s with heap:=h',toks:=t' } :=
 I.write (x:=a) (e:=a) mu (.inl rfl) (fun b q hb z=>(hs.2 b hb).trans z) he new
theorem zT{P:Program}{w:World}{H':Hp}{h':Heap}{kvs:List (Key×V)}{vs:List (Key×Value)}(z:kvs.length<=sizeLine)(hd:(a==sysModules)=false)(rel:KV kvs vs)(dd:h'.DictOf (aM P w) a vs) :
  ObjOk P w H' h' a (.dK kvs):=⟨z,hd,vs,rel,dd⟩
theorem sZ{H':Hp}{Q:Unit->Shared->Prop}(hu:A.units+1<cLine)(I:Inv X pins σ H s)(g:DPut H a y v H')(ry:RelV y u)(rv:RelV v r)(h:∀s',Inv X pins σ H' s'->Q () s') :
  wpAny (model X.prog X.w) A (setItem (.ref a) u r) Q E s:=by
 rcases g with⟨kvs,k,e,ey,l,eH⟩|⟨kvs,k,b,e,ey,eb,l,eH⟩
 ·subst ey eH;obtain⟨z,hd,vs,rel,dd⟩:=Ce I.hok e;have hz:vs.length<=sizeLine:=by rw[<-rel.length];exact z
  have hl:(bD kvs k v).length<=sizeLine:=by have:=jl kvs k v;omega
  refine wpAny_setItem_pairs (hsz:=hz) (kj ry) dd fun h' dd' hs=>h _ ?_;have he:∃q,h'.get? a=some q:=let⟨q,_,_,hq,_⟩:=dd';⟨q,hq⟩
  exact lC I (by rw[e];exact True.intro) hs he (zT hl hd (rel.put k rv) dd')
 ·subst ey eH;cases(show u=Value.ref b from ry);obtain⟨z,hd,xs,rel,dd⟩:=Cf I.hok e;have hz:xs.length<=sizeLine:=by rw[<-ZI rel];exact z
  have hl:(bD kvs k v).length<=sizeLine:=by have:=jl kvs k v;omega
  refine wpAny_setItem_heap (hsz:=hz) (tupleKind_room_in1 hu) (eW I.hok eb) dd fun h' dd' hs=>h _ ?_;obtain⟨q,es,ep,hq,h2,h3,h4,_,h5⟩:=dd';refine lC I (by rw[e];exact True.intro) hs ⟨q,hq⟩ ⟨hl,hd,_,(rel.put k eb rv).keeps fun c ys ec=>?_,q,es,ep,hq,h2,h3,h4,h5⟩;rw[af (hJ ec e (fun z=>nomatch z))];exact ec
end
def vm(i:Expr):Prop:=∀ov iv,subscripted i false ov iv=operate [ov,iv] (getItem ov iv)
theorem zd{prog:Program}{w:World}{A:Around}{E:Value->Shared->Prop}{s:Shared}{env:Env}{value slice:Expr}{pos:Pos}{T id:String}{Q:Value->Shared->Prop}(hl:typeLookup (.type T) "__getitem__" = pure (some (.builtin id)))(hs:vm slice)(h:wpAny (model prog w) A (eval value env) (fun o s₁=>wpAny (model prog w) A (eval slice env) (fun i s₂=>s₂.TypeIs o T/\wpAny (model prog w) A (getItem o i) Q E s₂) E s₁) E s) :
  wpAny (model prog w) A (eval (.Subscript value slice pos) env) Q E s:=by
 refine Subscript_ (ZH h (fun o s₁ h₁=>ZH h₁ (fun i s₂ h₂=>?_) fun _ _ x=>x) fun _ _ x=>x);obtain⟨hT,h₂⟩:=h₂;unfold subscriptTail;refine z6 ?_;rw[getitemInPython_of_ne hT.not_modules];refine z6 (wpAny_specialOf hT hl ?_);have fin:wpAny (model prog w) A (subscripted slice false o i) (fun r s₃=>wpAny (model prog w) A (letTemporaryGo value o r >>= fun _=>pure r) Q E s₃) E s₂:=by rw[hs o i];exact wpAny_operating (ZH h₂ (fun r s₃ h₃=>z6 (wpAny_letTemporaryGo (z9 h₃))) fun _ _ x=>x)
 first
  |exact z9 (z6 fin)
  |exact z6 (z9 (z6 fin))
  |exact z6 fin
theorem pH{X:Cx}{pins:List (Addr×Obj)}{σ:St}{H:Hp}{s:Shared}{a:Addr}{y:V}{o:Option V}(I:Inv X pins σ H s)(g:DGet H a y o):s.TypeIs (.ref a) "dict":=by
 rcases g with⟨kvs,k,e,_,_⟩|⟨kvs,k,b,e,_,_,_⟩
 ·obtain⟨_,_,vs,_,dd⟩:=jT I.hok e;exact dd.typeIs
 ·obtain⟨_,_,xs,_,dd⟩:=gF I.hok e;exact dd.typeIs
def xC(td ty:TE):TE:=fun σ H Q=>td σ H fun x H1=>ty σ H1 fun y H2=>∃a v,x=.ref a/\DGet H2 a y (some v)/\Q v H2
def BK(ty td:TE):TE:=fun σ H Q=>ty σ H fun y H1=>td σ H1 fun x H2=>∃a o,x=.ref a/\DGet H2 a y o/\Q (.bl o.isSome) H2
def qU(ty td:TE):TE:=fun σ H Q=>ty σ H fun y H1=>td σ H1 fun x H2=>∃a o,x=.ref a/\DGet H2 a y o/\Q (.bl (!o.isSome)) H2
def xw(td ty tv:TE):TS:=fun D σ H=>tv σ H fun v H1=>td σ H1 fun x H2=>ty σ H2 fun y H3=>∃a H4,x=.ref a/\DPut H3 a y v H4/\D.nx σ H4
section
variable{X:Cx}{o i e value:Expr}{pos pos' tpos:Pos}{td ty tv:TE}
theorem yE(hu:X.A.units+1<cLine)(ho:PE X o td)(hi:PE X i ty)(hs:vm i):PE X (.Subscript o i pos) (xC td ty):=by intro pins s σ H Q I h;refine zd PySem.F.slot_dict_getitem.lookup hs (thn (ho pins s σ H _ I h) fun u s1 ⟨x,H1,I1,rx,q1⟩=>thn (hi pins s1 σ H1 _ I1 q1) fun iv s2 hz9=>?_);obtain⟨y,H2,I2,ry,a,v,ex,g,q2⟩:=hz9;subst ex;obtain rfl:u=Value.ref a:=rx;exact⟨pH I2 g,sW hu I2 g ry fun w' s3 I3 rw'=>⟨v,H2,I3,rw',q2⟩⟩
theorem AR(hu:X.A.units+1<cLine)(hi:PE X i ty)(ho:PE X o td):PC X .In i o (BK ty td):=by intro pins s σ H Q I h;refine thn (hi pins s σ H _ I h) fun iv s1 ⟨y,H1,I1,ry,q1⟩=>thn (ho pins s1 σ H1 _ I1 q1) fun u s2 hz9=>?_;obtain⟨x,H2,I2,rx,a,ov,ex,g,q2⟩:=hz9;subst ex;obtain rfl:u=Value.ref a:=rx;exact Da hu I2 g ry fun s3 I3=>⟨.bl ov.isSome,H2,I3,rfl,q2⟩
theorem uw(hu:X.A.units+1<cLine)(hi:PE X i ty)(ho:PE X o td):PC X .NotIn i o (qU ty td):=by intro pins s σ H Q I h;refine thn (hi pins s σ H _ I h) fun iv s1 ⟨y,H1,I1,ry,q1⟩=>thn (ho pins s1 σ H1 _ I1 q1) fun u s2 hz9=>?_;obtain⟨x,H2,I2,rx,a,ov,ex,g,q2⟩:=hz9;subst ex;obtain rfl:u=Value.ref a:=rx;exact xV hu I2 g ry fun s3 I3=>⟨.bl (!ov.isSome),H2,I3,rfl,q2⟩
theorem yM(hu:X.A.units+1<cLine)(ho:PE X o td)(hi:PE X i ty)(hv:PE X value tv)(hs:swapsWith value (some (.Subscript o i pos')) pos.line X.env=pure false) :
  PS X (.Assign [.Subscript o i pos'] value pos) (xw td ty tv):=by
 intro pins s σ H D I h;refine wpAny_Assign_Subscript (thn (hv pins s σ H _ I h) fun r s1 ⟨v,H1,I1,rv,q1⟩=>thn (ho pins s1 σ H1 _ I1 q1) fun u s2 ⟨x,H2,I2,rx,q2⟩=>thn (hi pins s2 σ H2 _ I2 q2) fun iv s3 hz9=>?_) hs;obtain⟨y,H3,I3,ry,a,H4,ex,g,q3⟩:=hz9;subst ex;obtain rfl:u=Value.ref a:=rx;exact sZ hu I3 g ry rv fun s4 I4=>⟨σ,H4,I4,q3⟩
end
theorem vB{P:Program}{w:World}{H:Hp}(h:Heap)(hb:sysModules<h.objs.size):ObjOk P w H (h.push { cls:=.type "dict",data:=.dict #[] }) h.objs.size (.dT []) :=
 ⟨Z7 _,Yp.mpr (ZN (Zy hb)),[],.nil,_,#[],0,Zn _ rfl,⟨rfl,rfl,rfl⟩,rfl,rfl,List.nodup_nil⟩
def uQ:TE:=fun _ H Q=>∀p,H p=none->Q (.ref p) (upd H p (.dT []))
section
variable{X:Cx}{pos:Pos}
theorem vX:PE X (.Dict [] [] pos) uQ:=fun pins s σ H Q I h =>
 wpAny_Dict_empty ⟨.ref s.heap.objs.size,_,I.laid (a:=s.heap.objs.size) (o:=.dT []) (t':=s.toks) (fun _ _ q=>Za _ q) (Zd _) (vB s.heap I.big),rfl,h _ (I.hok.fresh (Zd _))⟩
end
def uR:List (TE×TE)->St->Hp->(List (V×V)->Hp->Prop)->Prop
 | [],_,H,Q=>Q [] H
 |(tk,tv)::r,σ,H,Q=>tk σ H fun x H1=>tv σ H1 fun y H2=>uR r σ H2 fun ps H3=>Q ((x,y)::ps) H3
abbrev VV:List (V×V)->List (Value×Value)->Prop:=Paired fun p q=>RelV p.1 q.1/\RelV p.2 q.2
def PPs(X:Cx)(pos:Pos)(keys:List (Option Expr))(values:List Expr)(trs:List (TE×TE)):Prop :=
 ∀(pins:List (Addr×Obj)) (s:Shared) (σ:St) (H:Hp) (Q:List (V×V)->Hp->Prop),Inv X pins σ H s->uR trs σ H Q ->
  wpAny (model X.prog X.w) X.A (evalPairs (pairTrees keys values X.env pos)) (fun vs s'=>∃ps H',Inv X pins σ H' s'/\VV ps vs/\Q ps H') X.xe s
structure M1(X:Cx)(o:Expr)(m:Str)(apos:Pos)(e:Expr)(cpos:Pos):Prop where
 base:attributeBase o m X.env (eval o X.env)=eval o X.env
 few:((backTo cpos (starEach [e] X.env)).all (fun x=>!x.1)&&(backToKw cpos (keywordEach [] X.env)).all (fun x=>x.1.isSome)
 &&decide (([e]:List Expr).length+([]:List Keyword).length+(if ([]:List Keyword).isEmpty then 0 else 1)<30))=true
 line:(apos.endLine==cpos.line)=true
 trees:backTo cpos (starEach [e] X.env)=[(false,eval e X.env)]
structure M2(X:Cx)(o:Expr)(m:Str)(apos:Pos)(e f:Expr)(cpos:Pos):Prop where
 base:attributeBase o m X.env (eval o X.env)=eval o X.env
 few:((backTo cpos (starEach [e,f] X.env)).all (fun x=>!x.1)&&(backToKw cpos (keywordEach [] X.env)).all (fun x=>x.1.isSome)
 &&decide (([e,f]:List Expr).length+([]:List Keyword).length+(if ([]:List Keyword).isEmpty then 0 else 1)<30))=true
 line:(apos.endLine==cpos.line)=true
 trees:backTo cpos (starEach [e,f] X.env)=[(false,eval e X.env),(false,eval f X.env)]
end L2
namespace Att
open PySem PySem.W PySem.Calls PyProof.Rows
theorem kh{P:Params}{h:Heap}:∀(ns:List Int) (vs:List Value),WellAll P h vs (ns.map WData.int)->IntsAre vs ns:=by
 intro ns;induction ns with
 |nil =>intro vs w;rw[List.map_nil]at w;cases w;exact .nil
 |cons n ns ih =>
  intro vs w;rw[Zx]at w;cases w with
  |cons a b =>cases a;exact .cons _ _ (ih _ b)
theorem uL{l:OpenLaw}{n:Nat}(hn:l.most=some n){P:Params}{h:Heap}{args:List WData}{vals:List Value}(hpre:l.row.toRowW.claim.pre args=true)(hwl:WellAll P h vals args) :
  ∃a vs ns,vals=[Value.ref a]/\args=[WData.list (ns.map WData.int)]/\h.get? a=some { cls:=.type "list",data:=.seq vs.toArray }/\IntsAre vs ns/\ns.length<=n:=by
 have hsh:WShape.hasAll [] args [.list .int]=true:=(pre_splitW hpre).1;have hc:l.pre.holds [] { args:=args }=true:=(pre_splitW hpre).2;obtain⟨d,r,rfl,h1,h2⟩:=hasAllW_cons hsh;obtain rfl:=hasAllW_nil h2;obtain⟨xs,rfl,h3⟩:=hasW_list h1;obtain⟨ns,rfl⟩:=items_int h3;have hlen:ns.length<=n:=by
  unfold OpenLaw.pre at hc;have h4:(WTm.not (.lt (.lit (.int (n:Int))) (.len (.arg 0)))).holds [] { args:=[.list (ns.map .int)] }=true:=by have h4:=(holds_andW hc).1;rw[hn]at h4;exact h4
  have h5:=condW_of h4 (w_not (w_lt w_lit (w_len_list (w_arg rfl))));rw[Zu]at h5;refine Nat.le_of_not_lt fun q=>?_;have q':(n:Int)<((ns.length:Nat):Int):=by omega
  first
   |(rw[decide_eq_true q']at h5;exact absurd h5 (by decide))
   |(simp at h5;omega)
 cases hwl with
 |cons w1 w2 =>
  cases w2;cases w1 with
  |list ho hall=>exact⟨_,_,ns,rfl,rfl,ho,kh ns _ hall,hlen⟩
theorem uA(l:OpenLaw)(args:List WData):l.row.toRowW.claim.post args (.bool true) args=true :=
 postW_of (r:=l.row.toRowW) (X:=(true==true))
  (show WShape.has [] (.bool true) .bool=true by first|rfl|decide|simp[WShape.has,WShape.arms,WShape.armsAll])
  (show(WTm.eq .res (.lit (.bool true))).value [] { args:=args,res:=some (.bool true),after:=args }=some (.bool (true==true))from w_eq_bool (w_res rfl) w_lit) rfl
theorem attach_call{l:OpenLaw}{n:Nat}{q:Program}{loose:List Str}{XP:(Str->Option Value)->Heap->Prop}{YP:World->Heap->Prop}{d:DefRec}(hn:l.most=some n)(hdf:d.params.defaults=[])(call:∀ (w:World) (s₀ s₁:Shared) (mg mb:Str->Option Value) (fa:Addr) (o:Obj) (pm cd doc:Value) (a:Addr) (vs:List Value) (ns:List Int),
   Ground q loose [] XP w s₀ mg mb s₁.heap->YP w s₁.heap ->
   s₁.heap.get? fa=some o->o.data=.func (docDef d.name d.params d.body d.scope pm cd doc)->s₁.heap.CodeRec cd d.name->mg d.name=some (.ref fa) ->
   s₁.heap.get? a=some { cls:=.type "list",data:=.seq vs.toArray }->IntsAre vs ns->ns.length<=n->s₁.gens=#[] ->
   codeAny (model l.prog w) callerA (.call (.ref fa) ⟨[.ref a],[]⟩) (fun r s'=>r=.ok (.ret (.bool true))/\OldK s₁.heap s'.heap/\s'.os=s₁.os/\AllBare s'.gens) s₁) :
  WalkO q loose XP YP l.row.toRowW d [] (fun f vs=>PySem.call f vs):=by
 intro w s₀ s₁ mg mb G Y fa o pm cd doc dV kV ho hd hcd hD hmg hg args vals as hpre hlay hrd hwl hlo;obtain rfl:dV=.none:=Dflts.none hD hdf;obtain rfl:kV=.none:=Dflts.noKw hD;obtain⟨a,vs,ns,rfl,rfl,hobj,hints,hlen⟩:=uL hn hpre hwl;refine enter_call (codeAny_mono (call w s₀ s₁ mg mb fa o pm cd doc a vs ns G Y ho (fd_plain hd) hcd hmg hobj hints hlen hg) fun r s' hq=>?_);obtain⟨rfl,h2,h3,h4⟩:=hq;exact⟨.inl ⟨.bool true,.bool true,[],rfl,fun _=>rfl,.bool true,uA l _,fun _=>⟨List.Pairwise.nil,fun _ hm=>(nomatch hm)⟩⟩,h2,h3,h4⟩
end Att
namespace L2
open PySem PySem.Spec PyProof.Rows
theorem mR:∀{vs:List Value} {ns:List Int},IntsAre vs ns->Vals (ns.map V.int) vs
 |_,_,.nil=>.nil
 |_,_,.cons n t h=>.cons ⟨t,rfl⟩ (mR h)
open PySem PySem.Spec PyProof.Rows
open PySem PySem.Spec PyProof.Rows
def bG(s:Stmt)(j:Nat):Stmt:=match s with
 |.ClassDef _ _ _ body _ _ _ _ _ _ _=>body.getD j (.Pass ⟨0,0,0,0⟩)
 |_=>.Pass ⟨0,0,0,0⟩
def bE(s:Stmt):Arguments:=match s with
 |.FunctionDef _ a _ _ _ _ _ _ _ _=>a
 |_=>{ posonlyargs:=[],args:=[],vararg:=none,kwonlyargs:=[],kw_defaults:=[],kwarg:=none,defaults:=[] }
def aV(s:Stmt):List Stmt:=match s with
 |.FunctionDef _ _ b _ _ _ _ _ _ _=>b
 |_=>[]
def am(s:Stmt):Scope:=match s with
 |.FunctionDef _ _ _ _ _ _ sc _ _ _=>sc
 |_=>{ kind:=.function,names:=[],isGenerator:=false,isCoroutine:=false }
abbrev CX0:CXT:=fun _ _ _ _ _ _=>False
abbrev E0:XK:=fun _ _ _=>False
theorem fH{X:Cx}:cn CX0 X E0:=fun _ _ _ _ _ _ _ h=>h.elim
structure Fun(K:PySem.W.Frag)(x qual:Str)(st:Stmt)(f:Addr)(fd:FuncData):Prop where
 ex:∃(oc:Value) (od:Option Addr) (kV doc pm:Value) (an:Option Addr) (cdv ct:Value) (osl:Array (Option Value)),
  fd=PySem.W.fnOf x qual (bE st) (aV st) (am st) .none kV doc pm an cdv ct/\K.lookup f=some ⟨oc,od,.func fd,osl⟩/\PySem.W.codeIn K cdv qual=true
 kp:PySem.W.keepIn K (.ref f)=true
section
variable{P:Program}{w:World}{K:PySem.W.Frag}{mg:Str->Option Value}{base:Heap}
theorem Fun.ok{x qual:Str}{st:Stmt}{f:Addr}{fd:FuncData}{N ps:List Str}{k:Nat}{sp:Sp}(F:Fun K x qual st f fd)(S:FnScope N ps (am st))(len:∀ vs H Q E,sp vs H Q E->vs.length=ps.length)(hbody:∀ (cdv:Value) (A:Around) (outer:List Env) (s:Shared) (H:Hp) (vs:List V) (Q:VK) (E:XK),Room k (A.deeper (envOfC qual (am st) s.heap.objs.size f cdv))->sp vs H Q E ->
   ∃ t,PSs (cK CX0 P w K mg base N qual (am st) f cdv A outer s H E).nox (aV st) t/\t { nx:=fun _ H'=>Q .non H',rt:=Q } (start N vs) H):FnOk P w K mg base CX0 (k+1) f fd ps sp:=by
 obtain⟨oc,od,kV,doc,pm,an,cdv,ct,osl,rfl,lk,hcd⟩:=F.ex;refine rq lk hcd S len fun A outer s H vs Q E hr hsp=>?_;obtain⟨t,h,q⟩:=hbody cdv A outer s H vs Q E hr hsp;exact⟨t,h.nox,q⟩
theorem Fun.binds{x qual:Str}{st:Stmt}{f:Addr}{fd:FuncData}{ps:List Str}(F:Fun K x qual st f fd)(h:∀(kV doc pm:Value) (an:Option Addr) (cdv ct:Value) (us:List Value),us.length=ps.length->bindArgs (PySem.W.fnOf x qual (bE st) (aV st) (am st) .none kV doc pm an cdv ct) ⟨us,[]⟩=pure (ps.zip us)):Binds K fd ps []:=by obtain⟨oc,od,kV,doc,pm,an,cdv,ct,osl,rfl,lk,hcd⟩:=F.ex;exact .all (h kV doc pm an cdv ct)
theorem tH{x qual:Str}{st:Stmt}{f:Addr}{oc:Value}{od an:Option Addr}{osl:Array (Option Value)}{kV doc pm cdv ct:Value}(l:K.lookup f=some ⟨oc,od,.func (PySem.W.fnOf x qual (bE st) (aV st) (am st) .none kV doc pm an cdv ct),osl⟩)(c:PySem.W.codeIn K cdv qual=true)(k:PySem.W.keepIn K (.ref f)=true):Fun K x qual st f (PySem.W.fnOf x qual (bE st) (aV st) (am st) .none kV doc pm an cdv ct):=⟨⟨oc,od,kV,doc,pm,an,cdv,ct,osl,rfl,l,c⟩,k⟩
end
theorem fK{n:Nat}(h:n<=1000):n<sizeLine:=Nat.lt_of_le_of_lt h (by decide)
theorem aA{A B:Prop}(h:B):if false=true then A else B:=by rw[if_neg Zm];exact h
theorem bw{A B:Prop}(h:A):if true=true then A else B:=by rw[if_pos rfl];exact h
theorem fF{c A B:Prop}[Decidable c](hc:c)(h:B):if(!decide c)=true then A else B:=by rw[decide_eq_true hc];exact aA h
def Same(H H':Hp):Prop:=∀b o,H b=some o->H' b=some o
theorem Same.refl(H:Hp):Same H H:=fun _ _ h=>h
theorem Same.trans{H H1 H2:Hp}(a:Same H H1)(b:Same H1 H2):Same H H2:=fun c o h=>b c o (a c o h)
theorem Same.free{H H':Hp}(e:Same H H'){l:Addr}(h:H' l=Option.none):H l=Option.none:=by
 cases q:H l with
 |none=>rfl
 |some o =>rw[e l o q]at h;cases h
theorem Same.seq{K:PySem.W.Frag}{H H':Hp}{a:Addr}{xs:List V}(e:Same H H')(h:SqL K H a xs):SqL K H' a xs:=by
 rcases h with(h|⟨o,h⟩)|h
 ·exact .inl (.inl (e _ _ h))
 ·exact .inl (.inr ⟨o,e _ _ h⟩)
 ·exact .inr h
open PySem PySem.Spec PyProof.Rows
section
variable{κ:Type}[DecidableEq κ]
theorem wP{kvs:List (κ×V)}{k:κ}(h:bu kvs k=none):¬k∈kvs.map (·.1):=by intro m;obtain⟨p,hp,e⟩:=y3.mp m;have q:(kvs.any fun kv=>decide (kv.1=k))=true:=List.any_eq_true.mpr ⟨p,hp,decide_eq_true e⟩;rw[dI,h]at q;exact absurd q (by simp)
theorem zm{kvs:List (κ×V)}{k:κ}{v:V}(h:bu kvs k=some v):k∈kvs.map (·.1):=by
 have q:(kvs.any fun kv=>decide (kv.1=k))=true:=by
  rw[dI,h]
  all_goals rfl
 obtain⟨p,hp,e⟩:=List.any_eq_true.mp q;exact y3.mpr ⟨p,hp,Ya e⟩
end
open PySem PySem.Spec PyProof.Rows
theorem gh{env:Env}:∀{names:List (Str×NameKind)} {x:Str} {k:NameKind},
  (names.map fun(n,k)=>if(k==NameKind.free&&env.scope.kind == .function&&env.kindOf n==some .cell)then(n,NameKind.cell)else(n,k)).lookup x=some k ->
  ∃k',names.lookup x=some k'/\(k=k'\/(k'=.free/\k=.cell))
 | [],_,_,h=>by simp at h
 |(n,k0)::r,x,k,h=>by
  have ih:=@gh env r x k;rw[Zx]at h;by_cases hc:(k0==NameKind.free&&env.scope.kind == .function&&env.kindOf n==some .cell)=true
  ·have e:(if(k0==NameKind.free&&env.scope.kind == .function&&env.kindOf n==some .cell)=true then(n,NameKind.cell)else(n,k0))=(n,NameKind.cell):=if_pos hc;simp only[e]at h;cases hx:x==n with
   |true =>
    simp only[ZK,hx]at h ⊢;have hf:k0=.free:=by have:=hc;simp only[Zz,ZP]at this;exact this.1.1
    exact⟨k0,rfl,.inr ⟨hf,(Zi h).symm⟩⟩
   |false =>simp only[ZK,hx]at h ⊢;exact ih h
  ·have e:(if(k0==NameKind.free&&env.scope.kind == .function&&env.kindOf n==some .cell)=true then(n,NameKind.cell)else(n,k0))=(n,k0):=if_neg hc;simp only[e]at h;cases hx:x==n with
   |true =>simp only[ZK,hx]at h ⊢;exact⟨k0,rfl,.inl (Zi h).symm⟩
   |false =>simp only[ZK,hx]at h ⊢;exact ih h
theorem iD{env:Env}:∀{names:List (Str×NameKind)} {x:Str},names.lookup x=some .free ->
  (names.map fun(n,k)=>if(k==NameKind.free&&env.scope.kind == .function&&env.kindOf n==some .cell)then(n,NameKind.cell)else(n,k)).lookup x=some .cell \/
  (names.map fun(n,k)=>if(k==NameKind.free&&env.scope.kind == .function&&env.kindOf n==some .cell)then(n,NameKind.cell)else(n,k)).lookup x=some .free
 | [],_,h=>by simp at h
 |(n,k0)::r,x,h=>by
  have ih:=@iD env r x;rw[Zx];by_cases hc:(k0==NameKind.free&&env.scope.kind == .function&&env.kindOf n==some .cell)=true
  ·have e:(if(k0==NameKind.free&&env.scope.kind == .function&&env.kindOf n==some .cell)=true then(n,NameKind.cell)else(n,k0))=(n,NameKind.cell):=if_pos hc;simp only[e];cases hx:x==n with
   |true =>
    simp only[ZK,hx]at h ⊢
    first|exact .inl rfl|exact .inl trivial
   |false =>simp only[ZK,hx]at h ⊢;exact ih h
  ·have e:(if(k0==NameKind.free&&env.scope.kind == .function&&env.kindOf n==some .cell)=true then(n,NameKind.cell)else(n,k0))=(n,k0):=if_neg hc;simp only[e];cases hx:x==n with
   |true =>simp only[ZK,hx]at h ⊢;exact .inr h
   |false =>simp only[ZK,hx]at h ⊢;exact ih h
def bo(env:Env):List (Str×NameKind)->List (Str×Addr)->List (Str×Addr)
 | [],acc=>acc
 |y::r,acc=>if(y.2==NameKind.free)=true then bo env r ((y.1,(env.cells.lookup y.1).getD 0)::acc)else bo env r acc
theorem lA{env:Env}:∀{names:List (Str×NameKind)} {acc:List (Str×Addr)},(∀y∈names,y.2=.free->∃c,env.cells.lookup y.1=some c) ->
  (forIn names acc fun(x:Str×NameKind) (cs:List (Str×Addr))=>if(x.2==NameKind.free)=true then do let c ←cellOf env x.1;pure (ForInStep.yield ((x.1,c)::cs))else pure (ForInStep.yield cs):Sem (List (Str×Addr)))=pure (bo env names acc)
 | [],_,_=>rfl
 |y::r,acc,h=>by
  rw[List.forIn_cons];by_cases hy:(y.2==NameKind.free)=true
  ·obtain⟨c,hc⟩:=h y Zo (by simpa using hy);have e:cellOf env y.1=pure c:=by unfold cellOf;rw[hc]
   rw[if_pos hy,e,pure_bind,pure_bind];show(forIn r ((y.1,c)::acc) _:Sem (List (Str×Addr)))=_;rw[lA fun z hz=>h z (Zh _ hz)];show _=pure (if(y.2==NameKind.free)=true then bo env r ((y.1,(env.cells.lookup y.1).getD 0)::acc)else bo env r acc);rw[if_pos hy,hc];rfl
  ·rw[if_neg hy,pure_bind];show(forIn r acc _:Sem (List (Str×Addr)))=_;rw[lA fun z hz=>h z (Zh _ hz)];show _=pure (if(y.2==NameKind.free)=true then bo env r ((y.1,(env.cells.lookup y.1).getD 0)::acc)else bo env r acc);rw[if_neg hy]
theorem xS{scope:Scope}{env:Env}(h:∀y∈scope.names,y.2=.free->∃c,env.cells.lookup y.1=some c):closureFor scope env=pure (bo env scope.names []):=by have q:=lA (env:=env) (names:=scope.names) (acc:=[]) h;unfold closureFor;exact(by first|(simp only[bind_pure];exact q)|(rw[bind_pure];exact q)|exact q)
theorem lB{env:Env}:∀{names:List (Str×NameKind)} {acc:List (Str×Addr)},(∀y∈names,y.2=.free->∃c,env.cells.lookup y.1=some c)->(∀x c,acc.lookup x=some c->env.cells.lookup x=some c) ->
  ∀x c,(bo env names acc).lookup x=some c->env.cells.lookup x=some c
 | [],_,_,ha=>ha
 |y::r,acc,h,ha=>by
  have hr:∀z∈r,z.2=.free->∃c,env.cells.lookup z.1=some c:=fun z hz=>h z (Zh _ hz);intro x c e;unfold bo at e;by_cases hy:(y.2==NameKind.free)=true
  ·rw[if_pos hy]at e;refine lB hr (fun x' c' e'=>?_) x c e;obtain⟨d,hd⟩:=h y Zo (by simpa using hy);rw[hd,Option.getD_some]at e';cases hx:x'==y.1 with
   |true =>simp only[ZK,hx]at e';have e1:x'=y.1:=eq_of_beq hx;rw[e1,hd];exact e'
   |false =>simp only[ZK,hx]at e';exact ha x' c' e'
  ·rw[if_neg hy]at e;exact lB hr ha x c e
theorem jv{env:Env}:∀{names:List (Str×NameKind)} {acc:List (Str×Addr)} {x:Str},(∃c,acc.lookup x=some c)->∃c,(bo env names acc).lookup x=some c
 | [],_,_,h=>h
 |y::r,acc,x,h=>by
  unfold bo;by_cases hy:(y.2==NameKind.free)=true
  ·rw[if_pos hy];refine jv ?_;cases hx:x==y.1 with
   |true=>exact⟨(env.cells.lookup y.1).getD 0,by simp only[ZK,hx]⟩
   |false =>obtain⟨c,e⟩:=h;exact⟨c,by simp only[ZK,hx];exact e⟩
  ·rw[if_neg hy];exact jv h
theorem lz{env:Env}:∀{names:List (Str×NameKind)} {acc:List (Str×Addr)} {x:Str},names.lookup x=some .free->∃c,(bo env names acc).lookup x=some c
 | [],_,_,h=>by simp at h
 |(n,k)::r,acc,x,h=>by
  unfold bo;cases hx:x==n with
  |true =>
   simp only[ZK,hx]at h;have hy:(k==NameKind.free)=true:=by rw[Zi h];rfl
   rw[if_pos hy];exact jv ⟨(env.cells.lookup n).getD 0,by simp only[ZK,hx]⟩
  |false =>
   simp only[ZK,hx]at h;by_cases hy:(k==NameKind.free)=true
   ·rw[if_pos hy];exact lz h
   ·rw[if_neg hy];exact lz h
abbrev aJ(X:Cx)(scope:Scope)(N':List Str)(C:Addr)(s0:Shared)(H0:Hp)(ex:List Addr):Cx where
 prog:=X.prog
 w:=X.w
 K:=X.K
 mg:=X.mg
 base:=X.base
 A:=X.A
 N:=N'
 s₀:=s0
 H₀:=H0
 env:=compEnvC scope (bo X.env scope.names []) C X.env
 outer:=X.stack
 stack:=X.stack
 ex:=ex
 fn:=fun _=>false
 calm:=X.calm
 pn:=[]
 xe:=fun _ _=>False
def CapOk(X:Cx)(sc:Scope):List Nat->List Str->Prop
 | [],[]=>True
 |j::js,x::xs=>X.N[j]?=some x/\sc.names.lookup x=some .free/\CapOk X sc js xs
 |_,_=>False
theorem CapOk.get{X:Cx}{sc:Scope}:∀{js:List Nat} {xs:List Str} {i:Nat} {x:Str},CapOk X sc js xs->xs[i]?=some x ->
  ∃j,js[i]?=some j/\X.N[j]?=some x/\sc.names.lookup x=some .free
 | [],[],_,_,_,e=>by simp at e
 |j::js,y::xs,0,x,h,e=>by
  obtain⟨h1,h2,_⟩:=h;have e':y=x:=by simpa using e
  subst e';exact⟨j,rfl,h1,h2⟩
 |j::js,y::xs,i+1,x,h,e=>by obtain⟨_,_,h6⟩:=h;obtain⟨j',q⟩:=CapOk.get (i:=i) (x:=x) h6 (by simpa using e);exact⟨j',by simpa using q.1,q.2⟩
 | [],_::_,_,_,h,_=>h.elim
 |_::_,[],_,_,h,_=>h.elim
theorem CapOk.len{X:Cx}{sc:Scope}:∀{js:List Nat} {xs:List Str},CapOk X sc js xs->js.length=xs.length
 | [],[],_=>rfl
 |j::js,y::xs,h=>by obtain⟨_,_,h6⟩:=h;simp[CapOk.len h6]
 | [],_::_,h=>h.elim
 |_::_,[],h=>h.elim
structure CompOk(X:Cx)(scope:Scope)(cap:List Nat)(capN:List Str):Prop where
 kind:scope.kind=.function
 names:∀x∈scope.names,x.2=.local->scope.names.lookup x.1=some .local
 nocell:∀y∈scope.names,y.2≠.cell
 frees:(scope.names.all fun y=>!(y.2==NameKind.free) ||(X.env.kindOf y.1==some .cell ||X.env.kindOf y.1==some .free))=true
 cap:CapOk X scope cap capN
section
variable{X:Cx}{scope:Scope}{cap:List Nat}{capN:List Str}
theorem CompOk.around(O:CompOk X scope cap capN){y:Str×NameKind}(hy:y∈scope.names)(hf:y.2=.free):X.env.kindOf y.1=some .cell\/X.env.kindOf y.1=some .free:=by have q:=Yv.mp O.frees y hy;rw[hf]at q;simpa using q
theorem CompOk.cells(O:CompOk X scope cap capN)(ok:X.Ok):∀y∈scope.names,y.2=.free->∃c,X.env.cells.lookup y.1=some c:=fun y hy hf=>ok.has _ (O.around hy hf)
theorem CompOk.clos(O:CompOk X scope cap capN)(ok:X.Ok):closureFor scope X.env=pure (bo X.env scope.names []):=xS (O.cells ok)
theorem CompOk.sub(O:CompOk X scope cap capN)(ok:X.Ok):∀x c,(bo X.env scope.names []).lookup x=some c->X.env.cells.lookup x=some c:=lB (O.cells ok) fun x c e=>by simp at e
theorem CompOk.has(_O:CompOk X scope cap capN){x:Str}(h:scope.names.lookup x=some .free):∃c,(bo X.env scope.names []).lookup x=some c:=lz h
end
def cv(n:Nat)(cap:List Nat)(σ:St):St:=List.replicate n none++cap.map (fun j=>(σ[j]?).join)
theorem rm{n:Nat}{cap:List Nat}{σ:St}:(cv n cap σ).length=n+cap.length:=by unfold cv;rw[Zg,List.length_replicate,Zu]
theorem jS{n:Nat}{cap:List Nat}{σ:St}{i:Nat}{v:V}(h:(cv n cap σ)[i]?=some (some v)):n<=i/\∃j,cap[i-n]?=some j/\σ[j]?=some (some v):=by
 unfold cv at h;by_cases hi:i<n
 ·rw[y7 (by simpa using hi),List.getElem?_replicate]at h;rw[if_pos hi]at h;cases h
 ·have hi':n<=i:=Nat.le_of_not_lt hi;rw[ZL (by simpa using hi'),List.length_replicate,ZA]at h;refine⟨hi',?_⟩;cases e:cap[i-n]? with
  |none=>rw[e]at h;cases h
  |some j =>
   rw[e]at h;refine⟨j,rfl,?_⟩;have h':(σ[j]?).join=some v:=by simpa using h
   cases q:σ[j]? with
   |none=>rw[q]at h';cases h'
   |some o =>rw[q]at h';have:o=some v:=h';rw[this]
section
variable{X:Cx}{pins:List (Addr×Obj)}{σ:St}{H:Hp}{s:Shared}{scope:Scope}{cap:List Nat}{capN N':List Str}{C:Addr}{ex:List Addr}
theorem sV(I:Inv X pins σ H s)(O:CompOk X scope cap capN)(hC:s.heap.objs.size<=C)(hex:∀b∈ex,aX X pins H b/\b<s.heap.objs.size):(aJ X scope N' C s H ex).Ok where
 mod:=I.ok.mod
 kind:=O.kind
 glob:=I.ok.glob
 blt:=I.ok.blt
 above:=hC
 inj:=fun x y c h1 h2=>I.ok.inj x y c (O.sub I.ok x c h1) (O.sub I.ok y c h2)
 has:=fun x hx=>by
  have hx':(relabel scope X.env).names.lookup x=some .cell\/(relabel scope X.env).names.lookup x=some .free:=hx;have key:∀k,(relabel scope X.env).names.lookup x=some k->(k=.cell\/k=.free)->scope.names.lookup x=some .free:=fun k e hk=>by
   obtain⟨k',e',q⟩:=gh (env:=X.env) e;rcases q with q|⟨q,_⟩
   ·subst q;rcases hk with z|z
    ·subst z;exact absurd rfl (O.nocell _ (y8 e'))
    ·subst z;exact e'
   ·subst q;exact e'
  rcases hx' with e|e
  ·exact O.has (key _ e (.inl rfl))
  ·exact O.has (key _ e (.inr rfl))
 cab:=fun x c h _=>by cases h
 hd:=I.ok.hd
 frames:=I.ok.frames
 stk:=.inl rfl
 exf:=fun b hb=>by obtain⟨⟨f0,f1,f2,f3,f4,f5⟩,lt⟩:=hex b hb;exact⟨Zy (Zv lt hC),fun x c e=>f4 x c (O.sub I.ok x c e)⟩
 bs:=I.bs
 bsz:=ZB I.ok.bsz I.sz
 noex:=fun b o e hb=>by
  obtain⟨⟨f0,f1,f2,f3,f4,f5⟩,lt⟩:=hex b hb;rcases f3 with z|z
  ·exact I.ok.noex b o e z
  ·exact absurd (Zv (Zl e) (ZB I.ok.bsz z)) (Yr _)
 exfs:=fun b hb z=>by
  obtain⟨⟨f0,f1,f2,f3,f4,f5⟩,lt⟩:=hex b hb;rcases Zq.mp (I.stkSub b z)with e|e
  ·exact f1 e
  ·exact f2 e
 funs:=I.stack
 frf:=I.stkFree
theorem uc(I:Inv X pins σ H s){b:Addr}(hb:s.heap.objs.size<=b):b∉frs X.stack:=fun z=>by
 rcases Zq.mp (I.stkSub b z)with e|e
 ·exact absurd (Zv I.lt hb) (by rw[e];exact Yr _)
 ·exact I.nofs hb e
theorem vR(I:Inv X pins σ H s){b:Addr}(hb:s.heap.objs.size<=b):∀x c,X.env.cells.lookup x=some c->c≠b:=fun x c e z=>by obtain⟨v,q⟩:=I.cell x c e;exact absurd (Zv q.lt (by rw[z];exact hb)) (Yr _)
theorem rn{n:Nat}{h1:Heap}{m1:Str->Option Value}{tk:Nat}(I:Inv X pins σ H s)(O:CompOk X scope cap capN)(hN:N'.length=n+capN.length)(hN2:∀i x,n<=i->N'[i]?=some x->capN[i-n]?=some x)(hC:s.heap.objs.size<=C)(hex:∀b∈ex,aX X pins H b/\b<s.heap.objs.size)(hk:∀b o,s.heap.get? b=some o->h1.get? b=some o)(hn:h1.Ns C m1):Inv (aJ X scope N' C s H ex) [] (cv n cap σ) H { s with heap:=h1,toks:=tk }:=by
 refine⟨sV I O hC hex,rfl,I.bare,Un.kept hk,⟨m1,hn,fun i x v e1 e2 e3=>?_⟩,fun x c e=>?_,I.hok.fresh hC,fun x c e=>I.freeC x c (O.sub I.ok x c e),fun p hp=>absurd (show p∈([]:List (Addr×Obj))from hp) (by simp),I.hok.kept hk,?_⟩
 ·obtain⟨hi,j,ej,es⟩:=jS e2;obtain⟨j',q1,q2,qf⟩:=O.cap.get (hN2 i x hi e1);have q3:=O.around (y8 qf) rfl;have q4:=iD (env:=X.env) qf;obtain⟨c,q5⟩:=O.has qf;have q6:=O.sub I.ok x c q5;rw[q1]at ej;cases ej;obtain⟨m0,hn0,hl0⟩:=I.loc;obtain⟨u,r,l⟩:=hl0 _ x v q2 es (by
   rcases q3 with z|z
   ·exact .inr (.inl z)
   ·exact .inr (.inr z))
  refine⟨u,r,.inr ⟨q4,c,q5,?_⟩⟩;rcases l with⟨k,_⟩|⟨_,c',e',z⟩
  ·rcases q3 with z|z
   ·have z':X.env.kindOf x=some .cell:=z;rw[z']at k;cases k
   ·have z':X.env.kindOf x=some .free:=z;rw[z']at k;cases k
  ·rw[q6]at e';cases e';obtain⟨o,ho,hd⟩:=z;exact⟨o,hk _ _ ho,hd⟩
 ·obtain⟨v,o,ho,hd⟩:=I.cell x c (O.sub I.ok x c e);exact⟨v,o,hk _ _ ho,hd⟩
 ·rw[rm,O.cap.len];exact hN.symm
end
def nV(X:Cx)(ifs:List Expr)(t:TT):Prop :=
 ∀(pins:List (Addr×Obj)) (s:Shared) (σ:St) (H:Hp) (Q:Bool->Hp->Prop),Inv X pins σ H s->t σ H Q ->
  wpAny (model X.prog X.w) X.A (forIn ifs true fun c r=>if r=true then do let ok ←isTrue c X.env (eval c X.env);pure (ForInStep.yield ok)else pure (ForInStep.yield r)) (TP X pins σ Q) X.xe s
def kZ:TT:=fun _ H Q=>Q true H
theorem wg{X:Cx}:nV X [] kZ:=fun _ _ _ H _ I h=>wpAny_tests_nil ⟨H,I,h⟩
def GK(n:Nat)(g:TG):Prop:=∀x σ H Q,g x σ H Q->g x σ H (fun σ2 H2=>(σ2.length=σ.length/\∀i,n<=i->σ2[i]?=σ[i]?)/\Q σ2 H2)
theorem iN{n i:Nat}(hi:i<n):GK n (dg i):=fun x σ H Q h=>⟨⟨List.length_set,fun j hj=>List.getElem?_set_ne (by omega)⟩,h⟩
def kX(n:Nat)(cap:List Nat)(g:TG)(tc:TT)(te:TE)(σ:St)(J:It)(H1:Hp)(Q:VK):Prop :=
 ∃W:Nat->Nat->List V->Hp->Prop,(∃m,W 0 m [] H1)/\∀i m ys H,W i m ys H ->
  (J.stop i H/\∀p,H p=none->Q (.ref p) (upd H p (.lst ys))) \/
  (J.go i H/\ys.length<sizeLine/\∀ x H',J.yld i H x H'->g x (cv n cap σ) H' fun σ2 H2=>tc σ2 H2 fun b H3 =>
   if b=true then te σ2 H3 fun y H4=>∃ m',m'<m/\W (i+1) m' (ys++[y]) H4 else ∃ m',m'<m/\W (i+1) m' ys H3)
def nG(n:Nat)(cap:List Nat)(wi:TI)(g:TG)(tc:TT)(te:TE):TE:=fun σ H Q=>wi σ H fun J H1=>kX n cap g tc te σ J H1 Q
theorem gC{prog:Program}{w:World}{A:Around}{R:Result->Shared->Prop}{s:Shared}{elt target iter:Expr}{ifs:List Expr}{scope:Scope}{pos:Pos}{it acc:Value}{env:Env}(I:Nat->Shared->Prop)(turn:∀ n s,I n s->wpAny (model prog w) A (pyNext it) (fun r s₁=>match r with
   |none=>R (.ok .next) s₁
   | some v=>wpAny (model prog w) A (letOwnedTupleGo target it v) (fun _ s₁'=>wpAny (model prog w) A (assign target env v) (fun _ s₂ =>
     wpAny (model prog w) A (forIn ifs true fun c r=>if r=true then do let ok ←isTrue c env (eval c env);pure (ForInStep.yield ok) else pure (ForInStep.yield r)) (fun ok s₃ =>
      if ok=true then wpAny (model prog w) A (eval elt env) (fun x s₄ =>
       wpAny (model prog w) A (call (.builtin "list.append") [acc,x]) (fun _ s₅=>∃ m,m<n/\I m s₅) (fun _ _=>False) s₄) (fun _ _=>False) s₃
      else ∃ m,m<n/\I m s₃) (fun _ _=>False) s₂) (fun _ _=>False) s₁') (fun _ _=>False) s₁) (fun _ _=>False) s)(n:Nat)(h:I n s) :
  codeAny (model prog w) A (.compLoop (.ListComp elt [⟨target,iter,ifs,0⟩] scope pos) 0 it acc env) R s:=by
 refine codeAny_loop rfl I (fun n s hI=>?_) n h;show wpAny _ A ((compTurn (.ListComp elt [⟨target,iter,ifs,0⟩] scope pos) 0 it acc env).onRaise (fun x=>do noteFrame x env;theTreesLotGoes x)) _ _ s;refine wpAny_noted (wpAny_noRaise ?_);rw[compTurn_list];refine z6 (wpAny_standAt (z6 (ZH (turn n s hI) (fun r s₁ h₁=>?_) fun _ _ h'=>h')));cases r with
 |none=>exact z9 h₁
 |some v =>
  refine z6 (ZH h₁ (fun _ s₁' h₁'=>?_) fun _ _ h'=>h');refine z6 (ZH h₁' (fun _ s₂ h₂=>z6 (ZH h₂ (fun ok s₃ h₃=>?_) fun _ _ h'=>h')) fun _ _ h'=>h');cases ok with
  |false=>exact z9 ⟨rfl,h₃⟩
  |true =>exact z6 (z6 (ZH h₃ (fun x s₄ h₄=>z6 (ZH h₄ (fun _ s₅ h₅=>z9 (z9 ⟨rfl,h₅⟩)) fun _ _ h'=>h')) fun _ _ h'=>h'))
theorem yt{own capN:List Str}:∀(i:Nat) (x:Str),own.length<=i->(own++capN)[i]?=some x->capN[i-own.length]?=some x:=fun i x hi e=>by rw[ZL hi]at e;exact e
section
variable{X:Cx}{pins:List (Addr×Obj)}{σ:St}{H2:Hp}{s2:Shared}{scope:Scope}{cap:List Nat}{capN own:List Str}
variable{elt tg iter:Expr}{ifs:List Expr}{pos:Pos}{g:TG}{tc:TT}{te:TE}{Q:VK}
abbrev dS(its:List Value)(nn:Nat):Obj:={ cls:=.type "list",data:=.seq its.toArray nn }
theorem mq{J:It}{fp:List Addr}{it:Addr}{tn:Nat->Heap->Prop}{E:Value->Shared->Prop}{RR:Value->Addr->Result->Shared->Prop}(O:CompOk X scope cap capN)(hc:X.calm=true)(hg:∀C s0 H0 ex,PG (aJ X scope (own++capN) C s0 H0 ex) tg g)(gk:GK own.length g)(ht:∀C s0 H0 ex,nV (aJ X scope (own++capN) C s0 H0 ex) ifs tc)(he:∀C s0 H0 ex,PE (aJ X scope (own++capN) C s0 H0 ex) elt te)(I2:Inv X pins σ H2 s2)(T:Turn X.prog X.w X.K tg J fp it tn)(st2:tn 0 s2.heap)(f2:∀b∈fp,aX X pins H2 b)(hq:kX own.length cap g tc te σ J H2 Q)(fin:∀(D C:Addr) (s4:Shared) (H4:Hp) (ys:List V),Inv X pins σ (upd H4 D (.lst ys)) s4->(∃m,s4.heap.Ns C m)->aX X pins (upd H4 D (.lst ys)) C->Q (.ref D) (upd H4 D (.lst ys))->RR (.ref D) C (.ok .next) s4) :
  wpAny (model X.prog X.w) X.A (newList []) (fun acc s₃=>wpAny (model X.prog X.w) X.A (newFunctionEnv scope X.env.globals (bo X.env scope.names []) [] X.env.qual none .none (some X.env)) (fun cenv s₄ =>
   codeAny (model X.prog X.w) X.A (.compStart (.ListComp elt [⟨tg,iter,ifs,0⟩] scope pos) 0 (.ref it) acc { cenv with scope:=relabel scope X.env }) (RR acc cenv.locals) s₄) E s₃) E s2:=by
 obtain⟨W,⟨m0,w0⟩,turn⟩:=hq;refine Z8 (wpAny_newFunctionEnv O.nocell (by intro y hy;simp at hy) (fun h₁ hns₁ hsb₁=>?_) O.kind);dsimp only at hns₁ hsb₁ ⊢;generalize hHp:s2.heap.push { cls:=.type "list",dict:=none,data:=.seq ([]:List Value).toArray }=Hp2 at hns₁ hsb₁ ⊢;have hC:Hp2.objs.size=s2.heap.objs.size+1:=by rw[<-hHp,Heap.size_push]
 have hDC:s2.heap.objs.size≠Hp2.objs.size:=by rw[hC];exact Zy (Yt _)
 have hCle:s2.heap.objs.size<=Hp2.objs.size:=by rw[hC];exact Nat.le_succ _
 have below:∀b,b<s2.heap.objs.size->b≠Hp2.objs.size/\b≠s2.heap.objs.size:=fun b hb=>⟨by rw[hC];exact Zy (Nat.lt_succ_of_lt hb),Zy hb⟩
 have old:∀b o,s2.heap.get? b=some o->h₁.get? b=some o:=fun b o e=>hsb₁.extBut b o (below b (Zl e)).1 (Za _ (hHp▸Za _ e));have hacc:h₁.get? s2.heap.objs.size=some (dS [] 0):=hsb₁.extBut _ _ hDC (Za _ (hHp▸Zn _ rfl));generalize hDe:s2.heap.objs.size=D at *;generalize hCe:Hp2.objs.size=C at *;have hfpl:∀b∈fp,b<s2.heap.objs.size:=fun b hb=>by obtain⟨o,e,_⟩:=T.obj _ _ st2 b hb;exact Zl e
 have hex:∀b∈fp,aX X pins H2 b/\b<s2.heap.objs.size:=fun b hb=>⟨f2 b hb,hfpl b hb⟩
 have hCle':s2.heap.objs.size<=C:=by rw[hDe];exact hCle
 have hDle:s2.heap.objs.size<=D:=by rw[hDe];exact Zd _
 have hDfp:∀b∈fp,D≠b:=fun b hb z=>by have:=hfpl b hb;rw[<-z]at this;exact absurd this (Nat.not_lt.mpr hDle)
 have I0:∀tk,Inv (aJ X scope (own++capN) C s2 H2 fp) [] (cv own.length cap σ) H2 { s2 with heap:=h₁,toks:=tk }:=fun tk=>rn I2 O (by simp) yt hCle' hex old hns₁;have Dst:D∉frs X.stack:=uc I2 hDle;have Dcell:∀x c,(aJ X scope (own++capN) C s2 H2 fp).env.cells.lookup x=some c->c≠D:=fun x c e=>vR I2 hDle x c (O.sub I2.ok x c e);have pinD:∀{σ':St} {H':Hp} {s':Shared} {its:List Value} {nn:Nat},Inv (aJ X scope (own++capN) C s2 H2 fp) [] σ' H' s'->s'.heap.get? D=some (dS its nn)->H' D=none->Inv (aJ X scope (own++capN) C s2 H2 fp) [(D,dS its nn)] σ' H' s':=fun{σ' H' s' its nn} I e hn =>
  I.pins_of fun p hp=>by
   have z:p=(D,dS its nn):=by simpa using hp
   subst z;exact⟨e,hn,hDC,Dst,fun v q=>by cases q⟩
 have loop:∀s₃:Shared,s₃={ s2 with heap:=h₁,toks:=s2.toks+([]:List (Str×Value)).length } ->
   codeAny (model X.prog X.w) X.A (.compLoop (.ListComp elt [⟨tg,iter,ifs,0⟩] scope pos) 0 (.ref it) (.ref D) (compEnvC scope (bo X.env scope.names []) C X.env)) (RR (.ref D) C) s₃:=by
  rintro s₃ rfl;refine gC (fun k s'=>∃(i:Nat) (ys:List V) (its:List Value) (nn:Nat) (H':Hp),Inv (aJ X scope (own++capN) C s2 H2 fp) [(D,dS its nn)] (cv own.length cap σ) H' s'/\tn i s'.heap/\(∀b∈fp,H' b=none)/\Vals ys its/\ys.length<=sizeLine/\W i k ys H') ?_ m0
   ⟨0,[],[],0,H2,pinD (I0 _) hacc (I2.hok.fresh hDle),T.keep _ _ _ st2 (fun b hb o e=>old b o e),fun b hb=>(f2 b hb).1,.nil,Z7 _,w0⟩
  rintro k s3 ⟨i,ys,its,nn,H3,I3,st3,fr3,rv,hz,w3⟩;have oD3:s3.heap.get? D=some (dS its nn):=(I3.pin (D,dS its nn) (by simp)).1;have fpY:∀{H':Hp},(∀b∈fp,H' b=none)->∀b∈fp,aX (aJ X scope (own++capN) C s2 H2 fp) [(D,dS its nn)] H' b:=fun{H'} hn b hb=>by
   obtain⟨f0,f1,g2,f3,f4,f5⟩:=f2 b hb;refine⟨hn b hb,Zy (Zv (hfpl b hb) hCle'),fun z=>?_,.inl hb,fun x c e=>f4 x c (O.sub I2.ok x c e),fun p hp=>?_⟩
   ·rcases Zq.mp (I2.stkSub b z)with e|e
    ·exact f1 e
    ·exact g2 e
   ·have z:p=(D,dS its nn):=by simpa[aJ]using hp
    subst z;exact hDfp b hb
  rcases turn i k ys H3 w3 with⟨stop,qn⟩|⟨go,hlt,step⟩
  ·refine thn (T.done (aJ X scope (own++capN) C s2 H2 fp) rfl rfl rfl hc i _ s3 _ H3 _ I3 (fpY fr3) st3 stop) fun r s4 ⟨hr,I4⟩=>?_;subst hr;obtain⟨oD,nD,_⟩:=I4.pin (D,dS its nn) (by simp);have neD:∀{b:Addr} {u:HO},H3 b=some u->b≠D:=fun{b u} e=>ai e nD;have JX:Inv X pins σ (upd H3 D (.lst ys)) s4:=by
    refine I2.call' (ch:=fp) I4.os ⟨I4.base.keep,I4.base.slot,fun b o e nb hx=>?_,I4.base.there,fun b xs e=>?_,fun b o u e=>?_,fun b ps e=>?_⟩ (fun b u e=>?_) I4.bare (fun b hb=>?_)
    ·rw[af (by rw[<-hDe];exact Zy (Zl e))];exact I4.base.free b o e nb hx
    ·have q:=I4.base.tups b xs e;rw[af (neD q)];exact q
    ·have q:=I4.base.frzs b o u e;rw[af (neD q)];exact q
    ·obtain⟨more,q⟩:=I4.base.tbls b ps e;exact⟨more,by rw[af (neD q)];exact q⟩
    ·by_cases hb:b=D
     ·subst hb;rw[ad]at e;cases e;exact⟨hz,its,nn,rv,oD⟩
     ·rw[af hb]at e;exact(I4.hok b u e).stay (fun _ _ _ q=>q) (fun c q=>by rw[af (neD q)];exact q) fun c xs q=>by rw[af (neD q)];exact q
    ·obtain⟨f0,f1,g2,f3,f4,f5⟩:=f2 b hb;exact⟨f3,f1,f4,f5⟩
   obtain⟨m4,hn4,_⟩:=I4.loc;refine fin D C s4 H3 ys JX ⟨m4,hn4⟩ ?_ (qn D nD);refine I2.fpOk (b:=C) hCle' ?_;rw[af (ZN hDC)];exact I4.free
  ·refine thn (T.item (aJ X scope (own++capN) C s2 H2 fp) rfl rfl rfl hc i _ s3 _ H3 _ I3 (fpY fr3) st3 go) fun r s4 ⟨u,hr,h4⟩=>?_;subst hr;refine thn h4 fun _ s5 hz9=>?_;obtain⟨x,H5,I5,r5,y5,st5,fr5⟩:=hz9;have I5':=I5.pinned (fpY fr5) (T.obj _ _ st5);refine thn (hg C s2 H2 fp _ s5 _ H5 x u _ I5' r5 (gk _ _ _ _ (step x H5 y5))) fun _ s6 hz9=>?_;obtain⟨σ6,H6,I6,⟨l6,k6⟩,q6⟩:=hz9;refine thn (ht C s2 H2 fp _ s6 σ6 H6 _ I6 q6) fun ok s7 ⟨H7,I7,q7⟩=>?_;have wk:∀{H8:Hp} {s8:Shared} {pl:List (Addr×Obj)},Inv (aJ X scope (own++capN) C s2 H2 fp) pl σ6 H8 s8->Inv (aJ X scope (own++capN) C s2 H2 fp) pl (cv own.length cap σ) H8 s8:=fun I=>I.weak l6.symm fun j v e=>by obtain⟨hj,_⟩:=jS e;rw[k6 j hj];exact e
   have tn8:∀{σ8:St} {H8:Hp} {s8:Shared},Inv (aJ X scope (own++capN) C s2 H2 fp) ([(D,dS its nn)]++iA fp s5.heap) σ8 H8 s8->(∀b∈fp,∀o,s5.heap.get? b=some o->s8.heap.get? b=some o)/\∀b∈fp,H8 b=none:=fun{σ8 H8 s8} I=>by refine⟨fun b hb o e=>(I.pin (b,o) (ZJ _ (ZJ _ (eh hb e)))).1,fun b hb=>?_⟩;obtain⟨o,e,d⟩:=T.obj _ _ st5 b hb;exact(I.pin (b,o) (ZJ _ (ZJ _ (eh hb e)))).2.1
   cases ok with
   |false =>rw[if_neg Zm]at q7 ⊢;obtain⟨m',hm,w7⟩:=q7;obtain⟨t1,t2⟩:=tn8 I7;exact⟨m',hm,i+1,ys,its,nn,H7,wk I7.unpinned,T.keep _ _ _ st5 t1,t2,rv,hz,w7⟩
   |true =>
    rw[if_pos rfl]at q7 ⊢;refine thn (he C s2 H2 fp _ s7 σ6 H7 _ I7 q7) fun y s8 hz9=>?_;obtain⟨yv,H8,I8,r8,m',hm,w8⟩:=hz9;obtain⟨t1,t2⟩:=tn8 I8;obtain⟨oD,nD,_⟩:=I8.pin (D,dS its nn) (by simp);have hil:=rv.length;refine call_meets F.slot_list_append ⟨_,oD,rfl⟩ F.entry_list_append (F.args_list_append_2 _ _) (PySem.list_append D its.toArray nn y (by rw[Zj];omega)) ⟨oD,?_⟩;have q:=PySem.IsL.update oD (fun x_1=>x_1.push y);have hf:its.toArray.push y=(its++[y]).toArray:=by simp
    rw[hf]at q;have keepO:∀b o,b≠D->s8.heap.get? b=some o->(s8.heap.update D (Obj.mapSeq fun x_1=>x_1.push y)).get? b=some o:=fun b o hb e=>(Yg s8.heap (Obj.mapSeq fun x_1=>x_1.push y) (ZN hb)).trans e;have I9:Inv (aJ X scope (own++capN) C s2 H2 fp) [] σ6 H8 { s8 with heap:=s8.heap.update D (Obj.mapSeq fun x_1=>x_1.push y),toks:=s8.toks } :=
     (I8.pins_of (pins':=[]) fun p hp=>absurd hp (by simp)).turned (it:=D) keepO nD hDC (.inr hDle) Dcell (fun p hp=>absurd (show p∈([]:List (Addr×Obj))from hp) (by simp))
    refine⟨m',hm,i+1,ys++[yv],its++[y],_,H8,wk (pinD I9 q nD),T.keep _ _ _ st5 (fun b hb o e=>keepO b o (ZN (hDfp b hb)) (t1 b hb o e)),t2,rv.append (.cons r8 .nil),?_,w8⟩;rw[Zg,Yw];omega
 exact codeAny_compStart_list (loop _ rfl) (T.self _ 0 _ _ _ (T.keep _ _ _ st2 (fun b hb o e=>old b o e)) (loop _ rfl))
theorem yD{wi:TI}(O:CompOk X scope cap capN)(hc:X.calm=true)(hi:PI X tg iter wi)(hg:∀C s0 H0 ex,PG (aJ X scope (own++capN) C s0 H0 ex) tg g)(gk:GK own.length g)(ht:∀C s0 H0 ex,nV (aJ X scope (own++capN) C s0 H0 ex) ifs tc)(he:∀C s0 H0 ex,PE (aJ X scope (own++capN) C s0 H0 ex) elt te)(hs:∀x,foldedSetIterable iter X.env x=pure x:=by intro _;rfl):PE X (.ListComp elt [⟨tg,iter,ifs,0⟩] scope pos) (nG own.length cap wi g tc te):=by intro pins s σ H Q I h;rw[eval_ListComp];refine wpAny_comprehension_free (use:=none) rfl hs (O.clos I.ok) O.kind O.names (thn (hi pins s σ H _ I h) fun v s1 h1=>thn h1 fun itv s2 h2=>?_);obtain⟨it,fp,tn,J,H2,e,I2,T,st2,f2,hq⟩:=h2;subst e;refine mq (RR:=fun acc C=>compPost (model X.prog X.w) X.A X.xe none (EP X pins σ Q) acc C) O hc hg gk ht he I2 T st2 f2 hq fun D C s4 H4 ys J4 hn4 fC q4=>?_;obtain⟨m,hn⟩:=hn4;obtain⟨f0,f1,g2,f3,f4,f5⟩:=fC;exact⟨m,hn,fun h' sb=>⟨.ref D,_,J4.turned (t':=s4.toks) (fun b o hb e=>(sb.2 b hb).trans e) f0 f1 f3 f4 f5,rfl,q4⟩⟩
theorem yO{wi:TI}{j:Nat}{y:Str}{py spos:Pos}(hN0:X.N.Nodup)(hj:X.N[j]?=some y)(hy:Loc X.env.scope y)(O:CompOk X scope cap capN)(hc:X.calm=true)(hi:PI X tg iter wi)(hg:∀C s0 H0 ex,PG (aJ X scope (own++capN) C s0 H0 ex) tg g)(gk:GK own.length g)(ht:∀C s0 H0 ex,nV (aJ X scope (own++capN) C s0 H0 ex) ifs tc)(he:∀C s0 H0 ex,PE (aJ X scope (own++capN) C s0 H0 ex) elt te)(hsw:swapsWith (.ListComp elt [⟨tg,iter,ifs,0⟩] scope pos) (some (.Name y py)) spos.line X.env=pure true:=by rfl)(hs:∀x,foldedSetIterable iter X.env x=pure x:=by intro _;rfl)(hf:X.fn y=true\/X.env.scope.names.lookup y=some .local:=by first|exact .inl rfl|exact .inr rfl|assumption) :
  PS X (.Assign [.Name y py] (.ListComp elt [⟨tg,iter,ifs,0⟩] scope pos) spos) (sE (nG own.length cap wi g tc te) (dg j)):=by
 intro pins s σ H D0 I h;rw[exec_Assign_Name_used _ _ _ _ hsw];refine z6 (wpAny_standAt (z6 ?_));show wpAny _ X.A (do let _ ←comprehension (.ListComp elt [⟨tg,iter,ifs,0⟩] scope pos) scope X.env _ (newList []) false (eval iter X.env) (some (assign (.Name y py) X.env))) _ _ s;refine z6 (ZH (wpAny_comprehension_free (use:=some (assign (.Name y py) X.env)) (Q:=fun _ s'=>SP X pins D0 .next s') rfl hs (O.clos I.ok) O.kind O.names (thn (hi pins s σ H _ I h) fun v s1 h1=>thn h1 fun itv s2 h2=>?_)) (fun _ s' hq=>z9 (z9 hq)) fun _ _ e=>e);obtain⟨it,fp,tn,J,H2,e,I2,T,st2,f2,hq⟩:=h2;subst e;refine mq (RR:=fun acc C=>compPost (model X.prog X.w) X.A X.xe (some (assign (.Name y py) X.env)) (fun _ s'=>SP X pins D0 .next s') acc C) O hc hg gk ht he I2 T st2 f2 hq fun D C s4 H4 ys J4 hn4 fC q4=>?_;obtain⟨m,hn⟩:=hn4;obtain⟨f0,f1,g2,f3,f4,f5⟩:=fC;show wpAny _ X.A (assign (.Name y py) X.env (.ref D)) _ _ _;refine wpAny_assign_Name (mP J4 hN0 hj hy (v:=.ref D) rfl (fun s5 I5 ⟨a,sba,ha⟩=>?_) hf);have hCa:C≠a:=by
  rcases ha with z|z
  ·rw[z];exact f1
  ·exact ZN (f4 _ _ z)
 refine⟨m,hn.sameBut sba hCa,fun h' sb=>?_⟩;exact⟨_,_,I5.turned (t':=s5.toks) (fun b o hb e=>(sb.2 b hb).trans e) f0 f1 f3 f4 f5,q4⟩
end
open PySem PySem.Spec PyProof.Rows
structure Fn(P:Program)(w:World)(K:PySem.W.Frag)(mg:Str->Option Value)(base:Heap)(k:Nat)(x:Str)(ps:List Str)(sp:Sp):Prop where
 ex:∃f fd,FnOk P w K mg base CX0 k f fd ps sp/\mg x=some (.ref f)/\PySem.W.keepIn K (.ref f)=true/\Binds K fd ps []
section
variable{X:Cx}{k:Nat}{x:Str}{p pos:Pos}{e:Expr}{es:List Expr}{ps:List Str}{sp:Sp}{t:TA}
theorem CC(F:Fn X.prog X.w X.K X.mg X.base k x ps sp)(hr:Room k X.A)(ha:PA X (e::es) t)(hg:Gl X x:=by rfl)(hdb:(x==("__debug__":Str))=false:=by decide)(he:starEach (e::es) X.env=(false,eval e X.env)::starEach es X.env:=by rfl)(hpl:(backTo pos (starEach es X.env)).any (·.1)=false:=by rfl) :
  PE X (.Call (.Name x p) (e::es) [] pos) (nF sp [] E0 t):=by
 obtain⟨f,fd,G,m,kp,b⟩:=F.ex;exact yB G hr hg m kp b .nil fH ha hdb he hpl
end
theorem aK:bootBuiltins "isinstance" = some (.builtin "isinstance"):=by decide +kernel
theorem vq:bootBuiltins "int" = some (.type "int"):=by decide +kernel
theorem mj:bootBuiltins "list" = some (.type "list"):=by decide +kernel
theorem ag{H:Hp}{p:Addr}(h:H p=none)(o:HO):Same H (upd H p o):=fun b u q=>by rw[af (ai q h)];exact q
theorem cU{n:Nat}(h:n<=1000):n<=sizeLine:=Nat.le_of_lt (fK h)
theorem sz{n:Nat}(h:Nat.ble n 1000=true):n<=sizeLine:=cU (Nat.le_of_ble_eq_true h)
open PySem PySem.Spec PyProof.Rows
def aF:Expr->Bool
 |.Starred _ _=>false
 |_=>true
theorem aG{e:Expr}{es:List Expr}{env:Env}(h:aF e=true):starEach (e::es) env=(false,eval e env)::starEach es env:=by cases e<;>first|rfl|cases h
theorem aY{env:Env}{pos:Pos}:∀{es:List Expr},es.all aF=true->(backTo pos (starEach es env)).any (·.1)=false
 | [],_=>rfl
 |e::es,h=>by rw[YC,Zz]at h;rw[aG h.1];show(false ||(backTo pos (starEach es env)).any (·.1))=false;rw[Bool.false_or];exact aY h.2
section
variable{X:Cx}{x:Str}{p pos:Pos}{e:Expr}{es:List Expr}{te:TE}{t:TA}{id T:String}{r:List V->Hp->VK->Prop}{k:Nat}{ps:List Str}{sp:Sp}
theorem pa(ha:PE X e te)(hr:PA X es t)(hs:aF e=true:=by rfl):PA X (e::es) (fL te t):=yw ha hr (aG hs)
theorem pB(hc:fB X (.builtin id) r)(hm:X.mg x=none)(hv:bootBuiltins x=some (.builtin id))(ha:PA X (e::es) t)(hg:Gl X x:=by rfl)(hs:(e::es).all aF=true:=by rfl)(hn:x≠"__name__":=by decide)(hdb:(x==("__debug__":Str))=false:=by decide) :
  PE X (.Call (.Name x p) (e::es) [] pos) (tCB r t):=by
 rw[YC,Zz]at hs;exact vW hc hg hm hv ha hn hdb (aG hs.1) (aY hs.2)
theorem pTy(hc:fB X (.type T) r)(hm:X.mg x=none)(hv:bootBuiltins x=some (.type T))(ha:PA X (e::es) t)(hg:Gl X x:=by rfl)(hs:(e::es).all aF=true:=by rfl)(hn:x≠"__name__":=by decide)(hdb:(x==("__debug__":Str))=false:=by decide) :
  PE X (.Call (.Name x p) (e::es) [] pos) (tCB r t):=by
 rw[YC,Zz]at hs;exact ux hc hg hm hv ha hn hdb (aG hs.1) (aY hs.2)
theorem pfn(F:Fn X.prog X.w X.K X.mg X.base k x ps sp)(hr:Room k X.A)(ha:PA X (e::es) t)(hg:Gl X x:=by rfl)(hs:(e::es).all aF=true:=by rfl)(hdb:(x==("__debug__":Str))=false:=by decide) :
  PE X (.Call (.Name x p) (e::es) [] pos) (nF sp [] E0 t):=by
 rw[YC,Zz]at hs;exact CC F hr ha hg hdb (aG hs.1) (aY hs.2)
end
open PySem PySem.Spec PyProof.Rows
structure QE(X:Cx)(e:Expr)(t:TE):Prop where
 h:PE X e t
structure QT(X:Cx)(e:Expr)(t:TT):Prop where
 h:PT X e t
structure QW(X:Cx)(e:Expr)(t:TT):Prop where
 h:PW X e t
structure QA(X:Cx)(es:List Expr)(t:TA):Prop where
 h:PA X es t
structure QS(X:Cx)(st:Stmt)(t:TS):Prop where
 h:PS X st t
structure QB(X:Cx)(st:List Stmt)(t:TS):Prop where
 h:PSs X st t
structure QG(X:Cx)(tg:Expr)(g:TG):Prop where
 h:PG X tg g
structure QGs(X:Cx)(ts:List Expr)(g:TGs):Prop where
 h:PGs X ts g
structure QI(X:Cx)(tg iter:Expr)(wi:TI):Prop where
 h:PI X tg iter wi
structure QIf(X:Cx)(ifs:List Expr)(t:TT):Prop where
 h:nV X ifs t
structure QO(X:Cx)(e:Option Expr)(t:TO):Prop where
 h:PO X e t
structure QOp(X:Cx)(f:Value->Value->Sem Value)(r:R2):Prop where
 h:OpR X f r
structure QCall(X:Cx)(f:Value)(r:List V->Hp->VK->Prop):Prop where
 h:fB X f r
structure QIx(X:Cx)(r:R2):Prop where
 h:IxR X r
structure QSl(X:Cx)(r:V->Option Int->Option Int->Hp->VK->Prop):Prop where
 h:SlR X r
structure QSet(X:Cx)(t:zH):Prop where
 h:C8 X t
structure QUn(X:Cx)(f:Value->Sem Value)(r:V->Hp->VK->Prop):Prop where
 h:UnR X f r
structure QIp(X:Cx)(op:Operator)(t:TIp):Prop where
 h:PIp X op t
section
variable{X:Cx}{pos p:Pos}{e a b c o:Expr}{es rest:List Expr}{te ta tb tc:TE}{t:TA}{tA tB':TT}{x:Str}
theorem q_v(i:Nat){x:Str}{pos:Pos}(hN:X.N[i]?=some x:=by rfl)(hv:Vis X.env.scope x:=by first|exact Or.inl rfl|exact Or.inr (Or.inl rfl)|exact Or.inr (Or.inr rfl))(hd:(x==("__debug__":Str))=false:=by decide)(hcd:(x==("__classdict__":Str))=false:=by decide):QE X (.Name x pos) (wK i):=⟨A4 hN hv hd hcd⟩
theorem ah{i:Int}{j:Nat}:QE X (.Constant (.int i) j pos) (tC (.int i)):=⟨AW⟩
theorem cC{i:Bool}{j:Nat}:QE X (.Constant (.bool i) j pos) (tC (.bl i)):=⟨CB⟩
theorem bg{j:Nat}:QE X (.Constant .none j pos) (tC .non):=⟨AY⟩
theorem aq{i:Str}{j:Nat}:QE X (.Constant (.str i) j pos) (tC (.str i)):=⟨A0⟩
theorem Dh{T:String}(hm:X.mg x=none)(hv:bootBuiltins x=some (.type T))(hg:Gl X x:=by rfl)(hn:x≠"__name__":=by decide)(hd:(x==("__debug__":Str))=false:=by decide):QE X (.Name x pos) (tC (.ty T)):=⟨yA hg hm hv rfl hn hd⟩
theorem oU{i:Int}{tk:Tok}(hm:X.mg x=some (.int i tk))(hg:Gl X x:=by rfl)(hd:(x==("__debug__":Str))=false:=by decide):QE X (.Name x pos) (tC (.int i)):=⟨qz hg hm ⟨_,rfl⟩ hd⟩
theorem aD{op:Operator}{r:R2}(ho:QOp X (binaryOp op) r)(ha:QE X a ta)(hb:QE X b tb):QE X (.BinOp a op b pos) (tOp r ta tb):=⟨CF ho.h ha.h hb.h⟩
theorem CK{op}(h:QE X a ta):QE X (.BoolOp op [a] pos) ta:=⟨AZ h.h⟩
theorem CI(ha:QE X a ta)(hb:QE X (.BoolOp .And (b::rest) pos) tb):QE X (.BoolOp .And (a::b::rest) pos) (xB ta tb):=⟨AT ha.h hb.h⟩
theorem sj{op:CmpOp}{r:R2}(ho:QOp X (compareOp op) r)(ha:QE X a ta)(hb:QE X b tb)(hm:behindInMarks op b=false:=by first|exact tZ _|with_unfolding_all rfl):QE X (.Compare a [op] [b] pos) (tOp r ta tb):=⟨yC ho.h ha.h hb.h hm⟩
theorem bf(h:QA X es t):QE X (.List es pos) (BN t):=⟨AX h.h⟩
theorem au{x1}(h:QA X es t):QE X (.Tuple es x1 pos) (BT t):=⟨A3 h.h⟩
theorem aB{r:R2}(hr:QIx X r)(ha:QE X a ta)(hb:QE X b tb)(hs:pO b:=by intro _ _;rfl):QE X (.Subscript a b pos) (tOp r ta tb):=⟨CD hr.h ha.h hb.h hs⟩
theorem jH{r:V->Option Int->Option Int->Hp->VK->Prop}{lo hi:Option Expr}{tl th:TO}{p2:Pos}(hr:QSl X r)(he:QE X e te)(hl:QO X lo tl)(hu:QO X hi th):QE X (.Subscript e (.Slice lo hi none p2) pos) (tSl r te tl th):=⟨wb hr.h he.h hl.h hu.h⟩
theorem lQ:QO X none qV:=⟨yK⟩
theorem iC(h:QE X e te):QO X (some e) (xG te):=⟨yL h.h⟩
theorem aj:QA X [] fz:=⟨kM⟩
theorem q_a(ha:QE X e te)(hr:QA X es t)(hs:aF e=true:=by rfl):QA X (e::es) (fL te t):=⟨pa ha.h hr.h hs⟩
theorem q_B{id:String}{r:List V->Hp->VK->Prop}(hc:QCall X (.builtin id) r)(hm:X.mg x=none)(hv:bootBuiltins x=some (.builtin id))(ha:QA X (e::es) t)(hg:Gl X x:=by rfl)(hs:(e::es).all aF=true:=by rfl)(hn:x≠"__name__":=by decide)(hdb:(x==("__debug__":Str))=false:=by decide) :
  QE X (.Call (.Name x p) (e::es) [] pos) (tCB r t):=⟨pB hc.h hm hv ha.h hg hs hn hdb⟩
theorem wq{T:String}{r:List V->Hp->VK->Prop}(hc:QCall X (.type T) r)(hm:X.mg x=none)(hv:bootBuiltins x=some (.type T))(ha:QA X (e::es) t)(hg:Gl X x:=by rfl)(hs:(e::es).all aF=true:=by rfl)(hn:x≠"__name__":=by decide)(hdb:(x==("__debug__":Str))=false:=by decide) :
  QE X (.Call (.Name x p) (e::es) [] pos) (tCB r t):=⟨pTy hc.h hm hv ha.h hg hs hn hdb⟩
theorem cQ{k:Nat}{ps:List Str}{sp:Sp}(F:Fn X.prog X.w X.K X.mg X.base k x ps sp)(hr:Room k X.A)(ha:QA X (e::es) t)(hg:Gl X x:=by rfl)(hs:(e::es).all aF=true:=by rfl)(hdb:(x==("__debug__":Str))=false:=by decide) :
  QE X (.Call (.Name x p) (e::es) [] pos) (nF sp [] E0 t):=⟨pfn F hr ha.h hg hs hdb⟩
theorem aw{op:CmpOp}{r:R2}(ho:QOp X (compareOp op) r)(ha:QE X a ta)(hb:QE X b tb)(hm:behindInMarks op b=false:=by first|exact tZ _|with_unfolding_all rfl):QT X (.Compare a [op] [b] pos) (xH (tOp r ta tb)):=⟨yR ho.h ha.h hb.h hm⟩
theorem CV(ha:QT X a tA):QT X (.UnaryOp .Not a pos) (BP tA):=⟨Bg ha.h⟩
theorem ja(h:QE X e te)(he:∀whole,isTrue e X.env whole=(do let v ←whole;standAt e.pos;holding [v] (truthy v)):=by intro _;rfl):QT X e (tB te):=⟨Bh h.h he⟩
theorem cc(ha:QT X a tA):QW X (.BoolOp .And [a] pos) tA:=⟨yS ha.h⟩
theorem ik(ha:QT X a tA):QW X (.BoolOp .Or [a] pos) tA:=⟨Bj ha.h⟩
theorem cJ(ha:QT X a tA)(hb:QW X (.BoolOp .And (b::rest) pos) tB'):QW X (.BoolOp .And (a::b::rest) pos) (BI tA tB'):=⟨Bi ha.h hb.h⟩
theorem jM(ha:QT X a tA)(hb:QW X (.BoolOp .Or (b::rest) pos) tB'):QW X (.BoolOp .Or (a::b::rest) pos) (tOr tA tB'):=⟨CH ha.h hb.h⟩
theorem t_w(h:QW X e tA):QT X e tA:=⟨h.h.pt⟩
end
section
variable{X:Cx}{pos:Pos}{tg iter elt:Expr}{ifs:List Expr}{g:TG}{gs:TGs}{tc:TT}{te:TE}{scope:Scope}{cap:List Nat}{capN own:List Str}{wi:TI}
theorem bH{i:Nat}{x:Str}(hN:X.N.Nodup)(hi:X.N[i]?=some x:=by rfl)(hx:Loc X.env.scope x:=by first|exact Or.inl rfl|exact Or.inr rfl)(hf:X.fn x=true\/X.env.scope.names.lookup x=some .local:=by first|exact .inl rfl|exact .inr rfl):QG X (.Name x pos) (dg i):=⟨yG hN hi hx hf⟩
theorem zX:QGs X [] vE:=⟨yH⟩
theorem rC{e:Expr}{es:List Expr}(h1:QG X e g)(h2:QGs X es gs)(hs:(assignEach (e::es) X.env).map (·.2)=assign e X.env::(assignEach es X.env).map (·.2):=by rfl):QGs X (e::es) (ny g gs):=⟨wc h1.h h2.h hs⟩
theorem xa{es:List Expr}{k n:Nat}(hc:X.calm=true)(h:QGs X es gs)(hn:(assignEach es X.env).length=n:=by rfl)(hst:(assignEach es X.env).findIdx? (·.1)=none:=by rfl):QG X (.Tuple es k pos) (vF X.K n gs):=⟨A5 hc h.h hn hst⟩
theorem eV{l:Expr}(hl:QE X l te):QI X tg l (xb X.K te):=⟨yI hl.h⟩
theorem Ac{a:Expr}{ta:TA}{p:Pos}(hm:X.mg "range" = none)(ha:QA X [a] ta)(hg:Gl X "range":=by rfl)(hs:aF a=true:=by rfl):QI X tg (.Call (.Name "range" p) [a] [] pos) (xf ta):=⟨uy hg hm ha.h (aG hs)⟩
theorem rG:QIf X [] kZ:=⟨wg⟩
theorem oS(O:CompOk X scope cap capN)(hc:X.calm=true)(hi:QI X tg iter wi)(hg:∀C s0 H0 ex,QG (aJ X scope (own++capN) C s0 H0 ex) tg g)(gk:GK own.length g)(ht:∀C s0 H0 ex,QIf (aJ X scope (own++capN) C s0 H0 ex) ifs tc)(he:∀C s0 H0 ex,QE (aJ X scope (own++capN) C s0 H0 ex) elt te)(hs:∀x,foldedSetIterable iter X.env x=pure x:=by intro _;rfl):QE X (.ListComp elt [⟨tg,iter,ifs,0⟩] scope pos) (nG own.length cap wi g tc te) :=
 ⟨yD O hc hi.h (fun C s0 H0 ex=>(hg C s0 H0 ex).h) gk (fun C s0 H0 ex=>(ht C s0 H0 ex).h) (fun C s0 H0 ex=>(he C s0 H0 ex).h) hs⟩
variable{st:Stmt}{rest:List Stmt}{t u:TS}{e c:Expr}
theorem b_0:QB X [] xF:=⟨yP⟩
theorem b_1(h:QS X st t):QB X [st] t:=⟨yQ h.h⟩
theorem b_c(h1:QS X st t)(h2:QB X rest u):QB X (st::rest) (BR t u):=⟨wm h1.h h2.h⟩
theorem aH(h:QE X e te):QS X (.Return (some e) pos) (BQ te):=⟨Be h.h⟩
theorem cR(h:QE X e te)(hs:swapsWith e none pos.line X.env=pure false:=by rfl):QS X (.Expr e pos) (xD te):=⟨yN h.h hs⟩
theorem aL{body els:List Stmt}(hc:QT X c tc)(ht:QB X body t)(hu:QB X els u):QS X (.If c body els pos) (BM tc t u):=⟨CG hc.h ht.h hu.h⟩
theorem ay{i:Nat}{x:Str}{pos':Pos}(hN:X.N.Nodup)(he:QE X e te)(hi:X.N[i]?=some x:=by rfl)(hx:Loc X.env.scope x:=by first|exact Or.inl rfl|exact Or.inr rfl)(hs:swapsWith e (some (.Name x pos')) pos.line X.env=pure false:=by rfl)(hf:X.fn x=true\/X.env.scope.names.lookup x=some .local:=by first|exact .inl rfl|exact .inr rfl):QS X (.Assign [.Name x pos'] e pos) (sE te (dg i)):=⟨Bf hN hi hx he.h hs hf⟩
theorem BC{j:Nat}{y:Str}{py spos:Pos}(hN0:X.N.Nodup)(O:CompOk X scope cap capN)(hc:X.calm=true)(hi:QI X tg iter wi)(hg:∀C s0 H0 ex,QG (aJ X scope (own++capN) C s0 H0 ex) tg g)(gk:GK own.length g)(ht:∀C s0 H0 ex,QIf (aJ X scope (own++capN) C s0 H0 ex) ifs tc)(he:∀C s0 H0 ex,QE (aJ X scope (own++capN) C s0 H0 ex) elt te)(hj:X.N[j]?=some y:=by rfl)(hy:Loc X.env.scope y:=by first|exact Or.inl rfl|exact Or.inr rfl)(hsw:swapsWith (.ListComp elt [⟨tg,iter,ifs,0⟩] scope pos) (some (.Name y py)) spos.line X.env=pure true:=by rfl)(hs:∀x,foldedSetIterable iter X.env x=pure x:=by intro _;rfl)(hf:X.fn y=true\/X.env.scope.names.lookup y=some .local:=by first|exact .inl rfl|exact .inr rfl) :
  QS X (.Assign [.Name y py] (.ListComp elt [⟨tg,iter,ifs,0⟩] scope pos) spos) (sE (nG own.length cap wi g tc te) (dg j)) :=
 ⟨yO hN0 hj hy O hc hi.h (fun C s0 H0 ex=>(hg C s0 H0 ex).h) gk (fun C s0 H0 ex=>(ht C s0 H0 ex).h) (fun C s0 H0 ex=>(he C s0 H0 ex).h) hsw hs hf⟩
theorem fJ{body:List Stmt}(hp:PassesOwn (model X.prog X.w) X.A X.env X.xe)(hc:X.calm=true)(hi:QI X tg iter wi)(hg:QG X tg g)(hb:QB X body t)(hs:∀x,foldedSetIterable iter X.env x=pure x:=by intro _;rfl):QS X (.For tg iter body [] pos) (BL wi g t):=⟨Bc hp hc hi.h hg.h hb.h hs⟩
theorem lY{body:List Stmt}(hp:PassesOwn (model X.prog X.w) X.A X.env X.xe)(hc:QT X c tc)(hb:QB X body t):QS X (.While c body [] pos) (uS tc t):=⟨wj hp hc.h hb.h⟩
end
theorem Fun.okQ{P:Program}{w:World}{K:PySem.W.Frag}{mg:Str->Option Value}{base:Heap}{x qual:Str}{st:Stmt}{f:Addr}{fd:FuncData}{N ps:List Str}{k:Nat}{sp:Sp}(F:Fun K x qual st f fd)(S:FnScope N ps (am st))(len:∀ vs H Q E,sp vs H Q E->vs.length=ps.length)(hbody:∀ (cdv:Value) (A:Around) (outer:List Env) (s:Shared) (H:Hp) (vs:List V) (Q:VK) (E:XK),Room k (A.deeper (envOfC qual (am st) s.heap.objs.size f cdv))->sp vs H Q E ->
   ∃ t,QB (cK CX0 P w K mg base N qual (am st) f cdv A outer s H E).nox (aV st) t/\t { nx:=fun _ H'=>Q .non H',rt:=Q } (start N vs) H):FnOk P w K mg base CX0 (k+1) f fd ps sp :=
 F.ok S len fun cdv A outer s H vs Q E hr hsp=>let⟨t,h,q⟩:=hbody cdv A outer s H vs Q E hr hsp;⟨t,h.h,q⟩
section
variable{X:Cx}
theorem eC:QOp X (binaryOp .Add) (rI0 fun i j=>.int (i+j)):=⟨AD⟩
theorem xn:QOp X (binaryOp .Sub) (rI0 fun i j=>.int (i-j)):=⟨AL⟩
theorem xm:QOp X (binaryOp .Mult) (rI CMul fun i j=>.int (i*j)):=⟨AJ⟩
theorem cA:QOp X (binaryOp .FloorDiv) (rI zC fun i j=>.int (i / j)):=⟨yo⟩
theorem bQ:QOp X (binaryOp .Mod) (rI (fun _ j=>0<j) fun i j=>.int (i%j)):=⟨AI⟩
theorem eE:QOp X (binaryOp .Pow) (rI zD fun i j=>.int (i^j.toNat)):=⟨AK⟩
theorem nC:QOp X (binaryOp .Add) Bo:=⟨AE⟩
theorem bC:QOp X (compareOp .Eq) rEq:=⟨Cu⟩
theorem Dg:QOp X (compareOp .NotEq) rNe:=⟨Cy⟩
theorem Av:QOp X (compareOp .Lt) (rI0 fun i j=>.bl (decide (i<j))):=⟨Cw⟩
theorem oQ:QOp X (compareOp .Gt) (rI0 fun i j=>.bl (decide (j<i))):=⟨Cv⟩
theorem xj:QOp X (compareOp .Is) (fun x y H Q=>y=.non/\Q (.bl (decide (x=.non))) H):=⟨AH⟩
theorem iw:QOp X (compareOp .IsNot) (fun x y H Q=>y=.non/\Q (.bl (!decide (x=.non))) H):=⟨yp⟩
theorem dw:QIx X (Br X.K):=⟨ye⟩
theorem ax:QIx X (sr X.K):=⟨Ag⟩
theorem tR:QSl X (Bv X.K):=⟨yY⟩
theorem jR:QCall X (.builtin "len") (fun xs H Q=>∃p ys,xs=[.ref p]/\(SqL X.K H p ys\/SqT X.K H p ys)/\Q (.int ys.length) H):=⟨og⟩
theorem Ca:QCall X (.type "int") (fun xs H Q=>(∃i,xs=[.int i]/\Q (.int i) H)\/∃k,xs=[.bl k]/\Q (.int (if k then 1 else 0)) H):=⟨sU⟩
end
open PySem PySem.Spec PyProof.Rows
mutual
def Dt(H:Hp):PyData->V->Prop
 |.none,v=>v=.non
 |.bool b,v=>v=.bl b
 |.int i,v=>v=.int i
 |.str x,v=>v=.str x
 |.list ds,v=>∃a xs,v=.ref a/\Rd H a (.lst xs)/\DtAll H ds xs
 |.tuple ds,v=>∃a xs,v=.ref a/\Rd H a (.tup xs)/\DtAll H ds xs
 |.dict _,_=>False
def DtAll(H:Hp):List PyData->List V->Prop
 | [],xs=>xs=[]
 |d::ds,xs=>∃y ys,xs=y::ys/\Dt H d y/\DtAll H ds ys
end
section
variable{P:Program}{w:World}{H:Hp}{h:Heap}
mutual
theorem Dt.reads(ok:HOk P w H h):∀(d:PyData) (x:V) (v:Value),Dt H d x->RelV x v->∃as,Reads h v d as
 |.none,x,v,e,r=>by
  have e':x=.non:=by simpa only[Dt]using e
  subst e';cases r;exact⟨_,.none⟩
 |.bool b,x,v,e,r=>by
  have e':x=.bl b:=by simpa only[Dt]using e
  subst e';cases r;exact⟨_,.bool b⟩
 |.int i,x,v,e,r=>by
  have e':x=.int i:=by simpa only[Dt]using e
  subst e';obtain⟨t,rfl⟩:=r;exact⟨_,.int i t⟩
 |.str z,x,v,e,r=>by
  have e':x=.str z:=by simpa only[Dt]using e
  subst e';obtain⟨t,rfl⟩:=r;exact⟨_,.str z t⟩
 |.list ds,x,v,e,r=>by
  have e':∃a xs,x=.ref a/\Rd H a (.lst xs)/\DtAll H ds xs:=by simpa only[Dt]using e
  obtain⟨a,xs,rfl,hr,hd⟩:=e';cases r;obtain⟨_,its,n,rv,eo⟩:=hr.ok ok;obtain⟨as,q⟩:=DtAll.reads ok ds xs its hd rv;exact⟨_,.list eo rfl rfl (by simpa using q)⟩
 |.tuple ds,x,v,e,r=>by
  have e':∃a xs,x=.ref a/\Rd H a (.tup xs)/\DtAll H ds xs:=by simpa only[Dt]using e
  obtain⟨a,xs,rfl,hr,hd⟩:=e';cases r;obtain⟨_,its,rv,o,eo,hc,n,hs⟩:=hr.ok ok;obtain⟨as,q⟩:=DtAll.reads ok ds xs its hd rv;exact⟨_,.tuple eo hc hs (by simpa using q)⟩
 |.dict kvs,x,v,e,r=>by
  have e':False:=by simpa only[Dt]using e
  exact e'.elim
theorem DtAll.reads(ok:HOk P w H h):∀(ds:List PyData) (xs:List V) (vs:List Value),DtAll H ds xs->Vals xs vs->∃as,ReadsAll h vs ds as
 | [],xs,vs,e,r=>by
  have e':xs=[]:=by simpa only[DtAll]using e
  subst e';cases r;exact⟨_,.nil⟩
 |d::ds,xs,vs,e,r=>by
  have e':∃y ys,xs=y::ys/\Dt H d y/\DtAll H ds ys:=by simpa only[DtAll]using e
  obtain⟨y,ys,rfl,h1,h2⟩:=e';cases r with
  |cons r1 r2 =>obtain⟨as,q1⟩:=Dt.reads ok d y _ h1 r1;obtain⟨bs,q2⟩:=DtAll.reads ok ds ys _ h2 r2;exact⟨_,.cons q1 q2⟩
end
end
theorem pY{H:Hp}:∀(ns:List Int),DtAll H (ns.map PyData.int) (ns.map V.int)
 | []=>by simp only[List.map_nil,DtAll]
 |n::ns=>by simp only[Zx,DtAll];exact⟨_,_,rfl,by simp only[Dt],pY ns⟩
section
variable{X:Cx}
def Bp:R2:=fun x y H Q=>∃dx dy,Dt H dx x/\Dt H dy y/\SeqAt.shaped dx=true/\SeqAt.shaped dy=true/\Q (.bl (PyData.eqv dx dy)) H
def Bt:R2:=fun x y H Q=>∃dx dy,Dt H dx x/\Dt H dy y/\SeqAt.shaped dx=true/\SeqAt.shaped dy=true/\Q (.bl (!PyData.eqv dx dy)) H
theorem um(hu:X.A.units+64<cLine):OpR X (compareOp .Eq) Bp:=by intro pins s σ H x y v u Q I rx ry h;obtain⟨dx,dy,h1,h2,s1,s2,q⟩:=h;obtain⟨as,r1⟩:=Dt.reads I.hok dx x v h1 rx;obtain⟨bs,r2⟩:=Dt.reads I.hok dy y u h2 ry;exact eq_dataH r1 r2 s1 s2 hu ⟨.bl _,H,I,rfl,q⟩
theorem ur(hu:X.A.units+64<cLine):OpR X (compareOp .NotEq) Bt:=by intro pins s σ H x y v u Q I rx ry h;obtain⟨dx,dy,h1,h2,s1,s2,q⟩:=h;obtain⟨as,r1⟩:=Dt.reads I.hok dx x v h1 rx;obtain⟨bs,r2⟩:=Dt.reads I.hok dy y u h2 ry;exact ne_dataH r1 r2 s1 s2 hu ⟨.bl _,H,I,rfl,q⟩
theorem xi(hu:X.A.units+64<cLine):QOp X (compareOp .Eq) Bp:=⟨um hu⟩
theorem kJ(hu:X.A.units+64<cLine):QOp X (compareOp .NotEq) Bt:=⟨ur hu⟩
end
section
variable{X:Cx}
variable{o e:Expr}{to te:TE}{apos cpos:Pos}
theorem nE(ho:QE X o to)(he:QE X e te)(hs:aF e=true:=by rfl)(hbase:attributeBase o "append" X.env (eval o X.env)=eval o X.env:=by rfl)(hline:(apos.endLine==cpos.line)=true:=by rfl) :
  QE X (.Call (.Attribute o "append" apos) [e] [] cpos) (tBM X.K "list" qD to (fL te fz)):=by
 have h1:=aG (es:=[]) (env:=X.env) hs;have h2:starEach ([]:List Expr) X.env=[]:=rfl;refine⟨rY PySem.F.plainAttrs_list PySem.F.slot_list_append PySem.F.type_list_append tX ho.h (pa he.h kM hs) hbase ?_ hline h1 (by rw[h2];rfl)⟩;rw[h1,h2];rfl
end
open PySem PySem.Spec PyProof.Rows
theorem dq{H H':Hp}{p:Addr}{o:HO}(e:Same H H')(h:H p=none):Same H (upd H' p o):=fun b u q=>by rw[af (ai q h)];exact e _ _ q
def dL(ns:List Int)(k:Nat):Int:=(ns[k]?).getD 0
theorem vo{ns:List Int}{k:Int}(h0:0<=k)(h1:k<ns.length):atI (ns.map V.int) k=some (.int (dL ns k.toNat)):=by
 have hk:k.toNat<ns.length:=by omega
 have ek:k=((k.toNat:Nat):Int):=by omega
 have q:atI (ns.map V.int) ((k.toNat:Nat):Int)=some (.int ns[k.toNat]):=cE (by rw[ZA,Zb hk]<;>rfl);rw[<-ek]at q;rw[q];unfold dL;rw[Zb hk];rfl
theorem vw{ns:List Int}{k:Int}(h0:0<=k)(h1:¬k<ns.length):dL ns k.toNat=0:=by unfold dL;rw[List.getElem?_eq_none (by omega)];rfl
open PySem PySem.Spec PyProof.Rows
section
variable{prog:Program}{w:World}{A:Around}
theorem dM(calm:A.handled=none)(it t:Addr)(apart:t≠it)(xs:Array Value) :
  Draws prog w A it [it,t] xs.size (fun i v=>xs[i]?=some v) (fun i h=>h.IsTupleIter it t i/\h.IsTuple t xs) where
 live:=fun _ _ q=>let⟨o,eo,_⟩:=q.1;⟨o,eo⟩
 frame:=fun _ _ _ q kp=>⟨let⟨o,eo,r⟩:=q.1;⟨o,kp it (by simp) o eo,r⟩,let⟨o,eo,r⟩:=q.2;⟨o,kp t (by simp) o eo,r⟩⟩
 item:=fun i s Q E lt q cont=>by
  have ei:xs[i]?=some xs[i]:=by simp[lt]
  obtain⟨o,eo,ec,ed⟩:=id q.1;obtain⟨p,ep,_,np,edp⟩:=id q.2;have ty:=q.1.typeIs;unfold Builtin.SmallTypes.nextOf;refine z6 (Z1 (name:=Str.ofString "__next__") ty F.slot_tuple_iterator_next (Z5 F.slot_tuple_iterator_next ty F.entry_tuple_iterator_next ?_ (F.args_tuple_iterator_next_1 _)));show wpAny _ _ (field (.ref it) 0 >>= _) _ _ s;refine z6 (ZX eo ed (x:=.ref t) rfl ?_);show wpAny _ _ (if(Value.ref t==Value.none)=true then _ else _) _ _ s;rw[if_neg (show¬((Value.ref t==Value.none)=true)from Zm)];show wpAny _ _ (field (.ref it) 1 >>= _) _ _ s;refine z6 (ZX eo ed (x:=.int i 0) rfl ?_);show wpAny _ _ (seqItems? (.ref t) >>= _) _ _ s;refine z6 (wpAny_seqItems ep edp ?_);simp only[Int.toNat_natCast,ei];have sb:=Z0 s.heap it (fun ob=>ob.mapFields fun fs=>fs.setIfInBounds 1 (rawInt (i+1)));refine z6 (YG eo ed (by simp) (z9 ⟨xs[i],rfl,z9 (cont _ _ s.toks ei ⟨?_,?_⟩ (Z0 ..))⟩))
  ·exact⟨_,Yl _ eo (Obj.isFreed_of_fields (Ye ed _)),(Obj.cls_mapFields ..).trans ec,by rw[Ye ed];simp[rawInt]⟩
  ·exact q.2.extBut (Z0 ..).extBut apart
 done:=fun s Q E q cont=>by
  have ei:xs[xs.size]?=none:=by simp
  obtain⟨o,eo,ec,ed⟩:=id q.1;obtain⟨p,ep,_,np,edp⟩:=id q.2;have ty:=q.1.typeIs;unfold Builtin.SmallTypes.nextOf;refine z6 (Z1 (name:=Str.ofString "__next__") ty F.slot_tuple_iterator_next (Z5 F.slot_tuple_iterator_next ty F.entry_tuple_iterator_next ?_ (F.args_tuple_iterator_next_1 _)));show wpAny _ _ (field (.ref it) 0 >>= _) _ _ s;refine z6 (ZX eo ed (x:=.ref t) rfl ?_);show wpAny _ _ (if(Value.ref t==Value.none)=true then _ else _) _ _ s;rw[if_neg (show¬((Value.ref t==Value.none)=true)from Zm)];show wpAny _ _ (field (.ref it) 1 >>= _) _ _ s;refine z6 (ZX eo ed (x:=.int xs.size 0) rfl ?_);show wpAny _ _ (seqItems? (.ref t) >>= _) _ _ s;refine z6 (wpAny_seqItems ep edp ?_);simp only[Int.toNat_natCast,ei];refine z6 (ZT (z6 (YG eo ed (by simp) ?_)));show wpAny _ _ (newExc (.type "StopIteration") [] >>= _) _ _ _;refine z6 ?_;simp only[newExc,newTuple];refine z6 (Z8 ?_ (by size_fits));refine z6 (m:=firstArgMember _ _) (wpAny_of_eq (a:=Value.none) (by first|rfl|(simp only[firstArgMember];rfl)) (Z8 ?_ (by size_fits)));simp only[raiseNew];refine z6 (wpAny_handled ?_)
  first|rw[show A.in1.handled=none from calm]|rw[calm]
  exact z6 (z9 (wpAny_throw (cont _ _ (((Z0 ..).extBut.push _).push _) ⟨_,Zn _ rfl,rfl⟩)))
end
structure ZAp(z u v i j:Addr)(f g:List Addr):Prop where
 uz:u≠z
 vz:v≠z
 uv:u≠v
 ui:u≠i
 uj:u≠j
 vi:v≠i
 vj:v≠j
 iz:i≠z
 jz:j≠z
 ij:i≠j
 zf:z∉f
 zg:z∉g
 vf:v∉f
 vg:v∉g
 jf:j∉f
 ig:i∉g
section
variable{prog:Program}{w:World}{A:Around}{E:Value->Shared->Prop}{s:Shared}{z u v i j:Addr}{f g:List Addr}{n m k:Nat}{P1 P2:Nat->Value->Prop}{S1 S2:Nat->Heap->Prop}{a b:Value}
def rh(z v i j:Addr)(h h':Heap):Prop:=∀c o,c≠z->c≠v->c≠i->c≠j->h.get? c=some o->h'.get? c=some o
theorem cz{c:Addr}{f:List Addr}{d:Addr}(hc:c∈f)(hd:d∉f):c≠d:=fun e=>hd (e▸hc)
theorem wU(d1:Draws prog w A i f n P1 S1)(d2:Draws prog w A j g m P2 S2)(ap:ZAp z u v i j f g)(hz:IsZip s.heap z u v .none)(hu:IsPair s.heap u (.ref i) (.ref j))(hv:IsPair s.heap v a b)(h1:S1 k s.heap)(h2:S2 k s.heap)(l1:k<n)(l2:k<m){Q:Value->Shared->Prop}(cont:∀h' tk x y,P1 k x->P2 k y->IsZip h' z u v (rawInt s.heap.objs.size)->IsPair h' v x y->S1 (k+1) h'->S2 (k+1) h'->IsPair h' s.heap.objs.size x y->rh z v i j s.heap h'->Q (.ref s.heap.objs.size) { s with heap:=h',toks:=tk }) :
  wpAny (model prog w) A (Builtin.«zip.__next__» ⟨[.ref z],[]⟩) (fun fin s'=>∃r,fin=.done (.ret r)/\Q r s') E s:=by
 show wpAny _ _ (field (.ref z) 2 >>= _) _ _ _;refine z6 (ZX hz rfl (x:=.bool false) rfl ?_);show wpAny _ _ (field (.ref z) 3 >>= _) _ _ _;refine z6 (ZX hz rfl (x:=.ref u) rfl (z6 (wpAny_seqItems hu rfl ?_)));show wpAny _ _ (Builtin.SmallTypes.ownedTupleIsFree (.ref z) >>= _) _ _ _;refine z6 ?_;unfold Builtin.SmallTypes.ownedTupleIsFree;refine z6 (ZX hz rfl (x:=.none) rfl (z9 ?_));simp only[if_true];refine z6 (ZT (z6 (ZX hz rfl (x:=.ref v) rfl ?_)));refine z6 (wpAny_setField_rec hz (by simp) fun q1 z1 b1=>?_)
 replace z1:IsZip q1 z u v .ellipsis:=z1
 refine z6 ?_;simp only[List.zipIdx_cons,List.zipIdx_nil,List.forIn_cons,List.forIn_nil];refine z6 (z6 (wpAny_onRaise ?_));show wpAny _ _ (Builtin.SmallTypes.nextOf (.ref i) >>= _) _ _ _;refine z6 (d1.item k { s with heap:=q1 } _ _ l1 (d1.frame _ _ _ h1 fun c hc o e=>b1.extBut c o (cz hc ap.zf) e) fun x q2 t2 px s2 b2=>z9 ?_);have v2:IsPair q2 v a b:=b2.extBut _ _ ap.vi (b1.extBut _ _ ap.vz hv);refine z6 (wpAny_seqItems v2 rfl (z6 (wpAny_updateSeq_pair v2 fun q3 w3 b3=>?_)))
 replace w3:IsPair q3 v x b:=w3
 refine z6 (wpAny_letGo (z9 ?_));refine z6 (z6 (wpAny_onRaise ?_));show wpAny _ _ (Builtin.SmallTypes.nextOf (.ref j) >>= _) _ _ _;refine z6 (d2.item k { s with heap:=q3,toks:=t2 } _ _ l2 (d2.frame _ _ _ h2 fun c hc o e=>b3.extBut c o (cz hc ap.vg) (b2.extBut c o (cz hc ap.ig) (b1.extBut c o (cz hc ap.zg) e))) fun y q4 t4 py s4 b4=>z9 ?_);have v4:IsPair q4 v x b:=b4.extBut _ _ ap.vj w3;refine z6 (wpAny_seqItems v4 rfl (z6 (wpAny_updateSeq_pair v4 fun q5 w5 b5=>?_)))
 replace w5:IsPair q5 v x y:=w5
 refine z6 (wpAny_letGo (z9 (z9 (z6 (wpAny_seqItems w5 rfl (z6 (wpAny_newTuple ?_)))))));have sz:q5.objs.size=s.heap.objs.size:=by rw[b5.1,b4.1,b3.1,b2.1,b1.1]
 have z5:IsZip q5 z u v .ellipsis:=b5.extBut _ _ ap.vz.symm (b4.extBut _ _ ap.jz.symm (b3.extBut _ _ ap.vz.symm (b2.extBut _ _ ap.iz.symm z1)));have k5:rh z v i j s.heap q5:=fun c o c1 c2 c3 c4 e=>b5.extBut _ _ c2 (b4.extBut _ _ c4 (b3.extBut _ _ c2 (b2.extBut _ _ c3 (b1.extBut _ _ c1 e))));have s5:S1 (k+1) q5:=d1.frame _ _ _ s2 fun c hc o e=>b5.extBut c o (cz hc ap.vf) (b4.extBut c o (cz hc ap.jf) (b3.extBut c o (cz hc ap.vf) e));have r5:S2 (k+1) q5:=d2.frame _ _ _ s4 fun c hc o e=>b5.extBut c o (cz hc ap.vg) e;have zlt:z<q5.objs.size:=Zl z5;show wpAny _ _ (Builtin.SmallTypes.ownedTupleHandOut (.ref z) (.ref q5.objs.size) >>= _) _ _ _;refine z6 ?_;unfold Builtin.SmallTypes.ownedTupleHandOut;refine z6 (wpAny_setField_rec (show IsZip (q5.push { cls:=.type "tuple",data:=.seq #[x,y] }) z u v .ellipsis from Za _ z5) (by simp) fun q7 z7 b7=>?_)
 replace z7:IsZip q7 z u v (rawInt q5.objs.size):=z7
 refine wpAny_setField_rec z7 (by simp) fun q8 z8 b8=>?_
 replace z8:IsZip q8 z u v (rawInt q5.objs.size):=z8
 have up:∀c o,c≠z->q5.get? c=some o->q8.get? c=some o:=fun c o c1 e=>b8.extBut _ _ c1 (b7.extBut _ _ c1 (Za _ e));have p8:IsPair q8 q5.objs.size x y:=b8.extBut _ _ (Yz zlt) (b7.extBut _ _ (Yz zlt) (Zn _ rfl));rw[sz]at z8 p8;refine z9 ⟨_,rfl,?_⟩;show Q (.ref q5.objs.size) _;rw[sz];exact cont q8 _ x y px py z8 (up _ _ ap.vz w5) (d1.frame _ _ _ s5 fun c hc o e=>up c o (cz hc ap.zf) e) (d2.frame _ _ _ r5 fun c hc o e=>up c o (cz hc ap.zg) e) p8 fun c o c1 c2 c3 c4 e=>up c o c1 (k5 c o c1 c2 c3 c4 e)
theorem zr(d1:Draws prog w A i f n P1 S1)(d2:Draws prog w A j g m P2 S2)(ap:ZAp z u v i j f g)(hz:IsZip s.heap z u v .none)(hu:IsPair s.heap u (.ref i) (.ref j))(hv:IsPair s.heap v a b)(h1:S1 n s.heap){Q:Fin->Shared->Prop}(cont:∀h' e,rh z v i j s.heap h'->(∃o,h'.get? e=some o/\o.cls=.type "StopIteration")->E (.ref e) { s with heap:=h' }):wpAny (model prog w) A (Builtin.«zip.__next__» ⟨[.ref z],[]⟩) Q E s:=by
 show wpAny _ _ (field (.ref z) 2 >>= _) _ _ _;refine z6 (ZX hz rfl (x:=.bool false) rfl ?_);show wpAny _ _ (field (.ref z) 3 >>= _) _ _ _;refine z6 (ZX hz rfl (x:=.ref u) rfl (z6 (wpAny_seqItems hu rfl ?_)));show wpAny _ _ (Builtin.SmallTypes.ownedTupleIsFree (.ref z) >>= _) _ _ _;refine z6 ?_;unfold Builtin.SmallTypes.ownedTupleIsFree;refine z6 (ZX hz rfl (x:=.none) rfl (z9 ?_));simp only[if_true];refine z6 (ZT (z6 (ZX hz rfl (x:=.ref v) rfl ?_)));refine z6 (wpAny_setField_rec hz (by simp) fun q1 z1 b1=>?_)
 replace z1:IsZip q1 z u v .ellipsis:=z1
 refine z6 ?_;simp only[List.zipIdx_cons,List.zipIdx_nil,List.forIn_cons,List.forIn_nil];refine z6 (z6 (wpAny_onRaise ?_));show wpAny _ _ (Builtin.SmallTypes.nextOf (.ref i) >>= _) _ _ _;refine z6 (d1.done { s with heap:=q1 } _ _ (d1.frame _ _ _ h1 fun c hc o e=>b1.extBut c o (cz hc ap.zf) e) fun q2 e b2 he=>?_);obtain⟨oe,hoe,hce⟩:=he;have z2:IsZip q2 z u v .ellipsis:=b2 _ _ ap.iz.symm z1;have ez:e≠z:=fun x=>by subst x;rw[z2]at hoe;cases hoe;simp at hce
 exact wpAny_setField_rec z2 (by simp) fun q3 _ b3=>cont q3 e (fun c o c1 _ c3 _ x=>b3.extBut _ _ c1 (b2 _ _ c3 (b1.extBut _ _ c1 x))) ⟨oe,b3.extBut _ _ ez hoe,hce⟩
end
section
variable{X:Cx}{pins:List (Addr×Obj)}{σ:St}{H:Hp}{s:Shared}{h':Heap}{ch:List Addr}{t':Nat}
theorem Inv.turnH{H':Hp}(I:Inv X pins σ H s)(hch:∀b∈ch,aX X pins H b)(kp:∀b o,b∉ch->s.heap.get? b=some o->h'.get? b=some o)(up:∀b u,H b=some u->H' b=some u)(dn:∀b o,s.heap.get? b=some o->H b=none->H' b=none)(hok:HOk X.prog X.w H' h') :
  Inv X pins σ H' { s with heap:=h',toks:=t' }:=by
 refine I.step (g':=s.gens) (d':=s.drawn) (ch:=ch) (fun b hb=>?_) (fun b o _ _ hc e _=>kp b o hc e) (fun b o _ _ hc e _=>⟨o.slots,kp b o hc e⟩) (fun b o _ e n=>dn b o e n) (fun b o hc e=>⟨o,kp b o hc e⟩) (fun b xs e=>up _ _ e) (fun b o u e=>up _ _ e) (fun b ps e=>⟨#[],by rw[up _ _ e];simp⟩) (fun m hm=>?_) hok I.bare
 ·obtain⟨f0,f1,f2,f3,f4,f5⟩:=hch b hb;exact⟨f3,f1,f4,f5⟩
 ·obtain⟨o,es,ep,ho,r⟩:=hm;exact⟨o,es,ep,kp _ o (fun z=>(hch _ z).2.1 rfl) ho,r⟩
theorem oA(I:Inv X pins σ H s)(hch:∀b∈ch,aX X pins H b)(kp:∀b o,b∉ch->s.heap.get? b=some o->h'.get? b=some o):HOk X.prog X.w H h':=fun b u e=>by
 have nin:∀{c:Addr} {q:HO},H c=some q->c∉ch:=fun{c q} e z=>by rw[(hch c z).1]at e;cases e
 refine(I.hok b u e).stay (fun c v hc q=>kp c v ?_ q) (fun _ q=>q) fun _ _ q=>q;rcases hc with z|z
 ·rw[z];exact nin e
 ·exact nin z
theorem Inv.turnM(I:Inv X pins σ H s)(hch:∀b∈ch,aX X pins H b)(kp:∀b o,b∉ch->s.heap.get? b=some o->h'.get? b=some o):Inv X pins σ H { s with heap:=h',toks:=t' } :=
 I.turnH hch kp (fun _ _ e=>e) (fun _ _ _ n=>n) (oA I hch kp)
theorem Inv.turnT{xs:List V}{its:List Value}(I:Inv X pins σ H s)(hch:∀b∈ch,aX X pins H b)(kp:∀b o,b∉ch->s.heap.get? b=some o->h'.get? b=some o)(hp:IsTup h' s.heap.objs.size its.toArray)(rv:Vals xs its)(hz:xs.length<=sizeLine) :
  Inv X pins σ (upd H s.heap.objs.size (.tup xs)) { s with heap:=h',toks:=t' }:=by
 have fr:=I.hok.fresh (Zd s.heap.objs.size);have ne:∀{b:Addr} {u:HO},H b=some u->b≠s.heap.objs.size:=fun{b u} e=>ai e fr;have hk:=oA I hch kp;refine I.turnH hch kp (fun b u e=>by rw[af (ne e)];exact e) (fun b o e n=>by rw[af (Zy (Zl e))];exact n) fun b u e=>?_;by_cases hb:b=s.heap.objs.size
 ·subst hb;rw[ad]at e;cases e;exact⟨hz,its,rv,hp⟩
 ·rw[af hb]at e;exact(hk b u e).stay (fun _ _ _ q=>q) (fun c q=>by rw[af (ne q)];exact q) fun c ys q=>by rw[af (ne q)];exact q
end
def Itz(K:PySem.W.Frag)(a b:Addr)(xs ys:List V):It :=
 ⟨fun i H=>i<xs.length/\SqT K H a xs/\SqT K H b ys,fun i H x H'=>∃T p q,H T=none/\xs[i]?=some p/\ys[i]?=some q/\x=.ref T/\H'=upd H T (.tup [p,q]),fun i H=>i=xs.length/\SqT K H a xs/\SqT K H b ys⟩
abbrev zTn(z u v i1 i2 a b:Addr):Nat->Heap->Prop:=fun i h=>IsZip h z u v .none/\IsPair h u (.ref i1) (.ref i2)/\(∃p q,IsPair h v p q)/\h.IsTupleIter i1 a i/\h.IsTupleIter i2 b i
theorem wO{P:Program}{w:World}{K:PySem.W.Frag}{elts:List Expr}{kt:Nat}{tp:Pos}{z u v i1 i2 a b:Addr}{xs ys:List V}(hl:xs.length=ys.length)(D:[z,u,v,i1,i2].Nodup)(ha:∀c∈[z,u,v,i1,i2],c≠a/\c≠b) :
  Turn P w K (.Tuple elts kt tp) (Itz K a b xs ys) [z,u,v,i1,i2] z (zTn z u v i1 i2 a b):=by
 have nd:(z≠u/\z≠v/\z≠i1/\z≠i2)/\(u≠v/\u≠i1/\u≠i2)/\(v≠i1/\v≠i2)/\i1≠i2:=by simpa using D
 obtain⟨⟨zu,zv,z1,z2⟩,⟨uv,u1,u2⟩,⟨v1,v2⟩,i12⟩:=nd;have az:=ha z (by simp);have av:=ha v (by simp);have a1:=ha i1 (by simp);have a2:=ha i2 (by simp);have ap:ZAp z u v i1 i2 [i1,a] [i2,b]:=⟨zu.symm,zv.symm,uv,u1,u2,v1,v2,z1.symm,z2.symm,i12,by simp[z1,az.1],by simp[z2,az.2],by simp[v1,av.1],by simp[v2,av.2],by simp[i12.symm,a2.1],by simp[i12,a1.2]⟩
 refine⟨by simp,fun i h st c hc=>?_,fun i h h' st k=>?_,?_,?_,fun A i s Q E st h=>wpAny_pyIter_zip st.1 h⟩
 ·obtain⟨e1,e2,⟨p,q,e3⟩,⟨o4,e4,_,d4⟩,⟨o5,e5,_,d5⟩⟩:=st;simp only[Zq,YH,or_false]at hc;rcases hc with rfl|rfl|rfl|rfl|rfl
  ·exact⟨_,e1,fun v z=>nomatch z⟩
  ·exact⟨_,e2,fun v z=>nomatch z⟩
  ·exact⟨_,e3,fun v z=>nomatch z⟩
  ·exact⟨_,e4,fun v z=>by rw[d4]at z;cases z⟩
  ·exact⟨_,e5,fun v z=>by rw[d5]at z;cases z⟩
 ·obtain⟨e1,e2,⟨p,q,e3⟩,⟨o4,e4,r4⟩,⟨o5,e5,r5⟩⟩:=st;exact⟨k z (by simp) _ e1,k u (by simp) _ e2,⟨p,q,k v (by simp) _ e3⟩,⟨o4,k i1 (by simp) _ e4,r4⟩,⟨o5,k i2 (by simp) _ e5,r5⟩⟩
 ·intro X hP hw hK hc i pins s σ H E I hf st hg;subst hP hw hK;obtain⟨e1,e2,⟨p,q,e3⟩,e4,e5⟩:=st;obtain⟨hi,hx,hy⟩:=hg;obtain⟨its,rx,px,zx⟩:=I.tuple hx;obtain⟨jts,ry,py,zy⟩:=I.tuple hy;have lx:i<its.toArray.size:=by rw[Zj,<-rx.length];exact hi
  have ly:i<jts.toArray.size:=by rw[Zj,<-ry.length,<-hl];exact hi
  have hh:=I.ok.hd hc;have hT:s.TypeIs (.ref z) "zip":=⟨_,e1,rfl⟩
  unfold pyNext;refine z6 (wpAny_attempt (Z1 (name:=Str.ofString "__next__") hT F.slot_zip_next (Z5 F.slot_zip_next hT F.entry_zip_next
   (wU (dM (A:=X.A.in1) hh i1 a a1.1.symm its.toArray) (dM (A:=X.A.in1) hh i2 b a2.2.symm jts.toArray) ap e1 e2 e3 ⟨e4,px⟩ ⟨e5,py⟩ lx ly fun h' tk x y qx qy zz vv s1 s2 pp kp=>z9 ?_) (F.args_zip_next_1 _))))
  refine⟨_,rfl,wpAny_letOwnedTupleGo_zip (s:={ s with heap:=h',toks:=tk }) zz fun h2 z2' sb=>?_⟩;obtain⟨xv,ex⟩:∃xv,xs[i]?=some xv:=⟨xs[i],by simp[hi]⟩
  obtain⟨yv,ey⟩:∃yv,ys[i]?=some yv:=⟨ys[i]'(by omega),by simp[show i<ys.length by omega]⟩
  obtain⟨x',gx,rxv⟩:=rx.get ex;obtain⟨y',gy,ryv⟩:=ry.get ey;have qx':its[i]?=some x:=by simpa using qx
  have qy':jts[i]?=some y:=by simpa using qy
  rw[gx]at qx';rw[gy]at qy';cases qx';cases qy';have ltz:z<s.heap.objs.size:=Zl e1;have kp2:∀c o,c∉[z,u,v,i1,i2]->s.heap.get? c=some o->h2.get? c=some o:=fun c o hc e=>by simp only[Zq,YH,or_false,not_or]at hc;exact sb.extBut c o hc.1 (kp c o hc.1 hc.2.2.1 hc.2.2.2.1 hc.2.2.2.2 e)
  have tT:IsTup h2 s.heap.objs.size [x,y].toArray:=⟨_,sb.extBut _ _ (Yz ltz) pp,rfl,_,rfl⟩
  refine⟨.ref s.heap.objs.size,upd H s.heap.objs.size (.tup [xv,yv]),I.turnT (t':=tk) hf kp2 tT (.cons rxv (.cons ryv .nil)) (sz rfl),rfl,⟨_,xv,yv,I.hok.fresh (Zd _),ex,ey,rfl,rfl⟩,?_,fun c hc=>?_⟩
  ·exact⟨z2',sb.extBut _ _ zu.symm (kp _ _ zu.symm uv u1 u2 e2),⟨_,_,sb.extBut _ _ zv.symm vv⟩,s1.1.extBut sb.extBut z1.symm,s2.1.extBut sb.extBut z2.symm⟩
  ·rw[af]
   ·exact(hf c hc).1
   ·obtain⟨o,eo,_⟩:∃o,s.heap.get? c=some o/\True:=by
     simp only[Zq,YH,or_false]at hc;rcases hc with rfl|rfl|rfl|rfl|rfl
     ·exact⟨_,e1,trivial⟩
     ·exact⟨_,e2,trivial⟩
     ·exact⟨_,e3,trivial⟩
     ·obtain⟨o,eo,_⟩:=e4;exact⟨o,eo,trivial⟩
     ·obtain⟨o,eo,_⟩:=e5;exact⟨o,eo,trivial⟩
    exact Zy (Zl eo)
 ·intro X hP hw hK hc i pins s σ H E I hf st hg;subst hP hw hK;obtain⟨e1,e2,⟨p,q,e3⟩,e4,e5⟩:=st;obtain⟨rfl,hx,hy⟩:=hg;obtain⟨its,rx,px,zx⟩:=I.tuple hx;obtain⟨jts,ry,py,zy⟩:=I.tuple hy;have lx:its.toArray.size=xs.length:=by rw[Zj,<-rx.length]
  have hh:=I.ok.hd hc;have hT:s.TypeIs (.ref z) "zip":=⟨_,e1,rfl⟩
  unfold pyNext;refine z6 (wpAny_attempt (Z1 (name:=Str.ofString "__next__") hT F.slot_zip_next (Z5 F.slot_zip_next hT F.entry_zip_next
   (zr (dM (A:=X.A.in1) hh i1 a a1.1.symm its.toArray) (dM (A:=X.A.in1) hh i2 b a2.2.symm jts.toArray) ap e1 e2 e3 ⟨by rw[lx];exact e4,px⟩ fun h' e kp he=>?_) (F.args_zip_next_1 _))))
  obtain⟨o,ho,hco⟩:=he;refine z6 (wpAny_isInstance (T:="StopIteration") (b:=true) ⟨o,ho,hco⟩ isSubtype_stop (z9 ⟨rfl,?_⟩));exact I.turnM (t':=s.toks) hf fun c ob hc e=>by simp only[Zq,YH,or_false,not_or]at hc;exact kp c ob hc.1 hc.2.2.1 hc.2.2.2.1 hc.2.2.2.2 e
theorem rO(l1 l2:Addr)(xs ys:Array Value) :
  Meets (Builtin.«zip.__new__» ⟨[.type "zip",.ref l1,.ref l2],[]⟩) (fun _ R s=>s.heap.IsTuple l1 xs/\s.heap.IsTuple l2 ys /\
   R (.ok (.ret (.ref ((((s.heap.push { cls:=.type "tuple_iterator",data:=.fields #[.ref l1,.int 0 0] }).push { cls:=.type "tuple_iterator",data:=.fields #[.ref l2,.int 0 0] }).push { cls:=.type "tuple",data:=.seq #[.ref s.heap.objs.size,.ref (s.heap.push { cls:=.type "tuple_iterator",data:=.fields #[.ref l1,.int 0 0] }).objs.size] }).push { cls:=.type "tuple",data:=.seq #[.none,.none] }).objs.size)))
    { s with heap:=((((s.heap.push { cls:=.type "tuple_iterator",data:=.fields #[.ref l1,.int 0 0] }).push { cls:=.type "tuple_iterator",data:=.fields #[.ref l2,.int 0 0] }).push { cls:=.type "tuple",data:=.seq #[.ref s.heap.objs.size,.ref (s.heap.push { cls:=.type "tuple_iterator",data:=.fields #[.ref l1,.int 0 0] }).objs.size] }).push { cls:=.type "tuple",data:=.seq #[.none,.none] }).push { cls:=.type "zip",data:=.fields #[.none,.bool false,.bool false,.ref ((s.heap.push { cls:=.type "tuple_iterator",data:=.fields #[.ref l1,.int 0 0] }).push { cls:=.type "tuple_iterator",data:=.fields #[.ref l2,.int 0 0] }).objs.size,.ref (((s.heap.push { cls:=.type "tuple_iterator",data:=.fields #[.ref l1,.int 0 0] }).push { cls:=.type "tuple_iterator",data:=.fields #[.ref l2,.int 0 0] }).push { cls:=.type "tuple",data:=.seq #[.ref s.heap.objs.size,.ref (s.heap.push { cls:=.type "tuple_iterator",data:=.fields #[.ref l1,.int 0 0] }).objs.size] }).objs.size] } }) :=
 .of_wp fun prog w A R s h=>by
  obtain⟨hp,g,d,tk,os⟩:=s;obtain⟨t1,t2,h⟩:=h;have hsub:=sub_zip;have T1:Heap.IsTuple (Shared.heap ⟨hp,g,d,tk,os⟩) l1 xs:=t1;have T2:Heap.IsTuple (Shared.heap ⟨hp.push { cls:=.type "tuple_iterator",data:=.fields #[.ref l1,.int 0 0] },g,d,tk,os⟩) l2 ys:=Heap.IsTuple.push t2 _
  wp_walk using wpAny_pyIter_tuple T1,wpAny_pyIter_tuple T2
  exact⟨_,rfl,h⟩
theorem At(n:Nat):[n+4,n+2,n+3,n,n+1].Nodup:=by simp
def Ab(K:PySem.W.Frag)(ta:TA):TI:=fun σ H R=>ta σ H fun vs H1=>∃a b xs ys,vs=[.ref a,.ref b]/\SqT K H1 a xs/\SqT K H1 b ys/\xs.length=ys.length/\R (Itz K a b xs ys) H1
section
variable{X:Cx}
theorem A7{e1 e2:Expr}{ta:TA}{p pos tp:Pos}{elts:List Expr}{kt:Nat}(hg:Gl X "zip")(hm:X.mg "zip" = none)(ha:PA X [e1,e2] ta)(n1:aF e1=true)(n2:aF e2=true):PI X (.Tuple elts kt tp) (.Call (.Name "zip" p) [e1,e2] [] pos) (Ab X.K ta):=by
 intro pins s σ H R I h;refine Call_ (fb I hg hm boot_zip (YN (thn (ha pos pins s σ H _ I h) fun us s1 hz9=>?_) (aG n1) (aY (by simp[n2]))));obtain⟨vs,H1,I1,r1,q1⟩:=hz9;obtain⟨a,b,xs,ys,e,hx,hy,hl,q⟩:=q1;subst e;obtain⟨ua,ub,rfl,ra,rb⟩:=lh r1;cases ra;cases rb;obtain⟨its,rx,px,zx⟩:=I1.tuple hx;obtain⟨jts,ry,py,zy⟩:=I1.tuple hy;refine callType_new F.called_zip (by decide) (F.typeCall_zip_2 _ _) (F.newCall_zip_2 _ _) (fun obj=>F.args_object_init_3 obj _ _) F.entry_zip_new (rO a b its.toArray jts.toArray) ⟨px,py,?_⟩;generalize ea:({ cls:=.type "tuple_iterator",data:=.fields #[.ref a,.int 0 0] }:Obj)=oa;generalize eb:({ cls:=.type "tuple_iterator",data:=.fields #[.ref b,.int 0 0] }:Obj)=ob;have z1:(s1.heap.push oa).objs.size=s1.heap.objs.size+1:=Heap.size_push ..;have z2:((s1.heap.push oa).push ob).objs.size=s1.heap.objs.size+2:=by rw[Heap.size_push,z1]
 rw[z2,z1];generalize eu:({ cls:=.type "tuple",data:=.seq #[.ref s1.heap.objs.size,.ref (s1.heap.objs.size+1)] }:Obj)=ou;have z3:(((s1.heap.push oa).push ob).push ou).objs.size=s1.heap.objs.size+3:=by rw[Heap.size_push,z2]
 generalize ev:({ cls:=.type "tuple",data:=.seq #[.none,.none] }:Obj)=ov;have z4:((((s1.heap.push oa).push ob).push ou).push ov).objs.size=s1.heap.objs.size+4:=by rw[Heap.size_push,z3]
 rw[z4,z3];generalize ez:({ cls:=.type "zip",data:=.fields #[.none,.bool false,.bool false,.ref (s1.heap.objs.size+2),.ref (s1.heap.objs.size+3)] }:Obj)=oz;have g5:(((((s1.heap.push oa).push ob).push ou).push ov).push oz).get? (s1.heap.objs.size+4)=some oz:=by rw[<-z4];exact Zn _ (by rw[<-ez];rfl)
 have g4:(((((s1.heap.push oa).push ob).push ou).push ov).push oz).get? (s1.heap.objs.size+3)=some ov:=by rw[<-z3];exact Za _ (Zn _ (by rw[<-ev];rfl))
 have g3:(((((s1.heap.push oa).push ob).push ou).push ov).push oz).get? (s1.heap.objs.size+2)=some ou:=by rw[<-z2];exact Za _ (Za _ (Zn _ (by rw[<-eu];rfl)))
 have g2:(((((s1.heap.push oa).push ob).push ou).push ov).push oz).get? (s1.heap.objs.size+1)=some ob:=by rw[<-z1];exact Za _ (Za _ (Za _ (Zn _ (by rw[<-eb];rfl))))
 have g1:(((((s1.heap.push oa).push ob).push ou).push ov).push oz).get? s1.heap.objs.size=some oa:=Za _ (Za _ (Za _ (Za _ (Zn _ (by rw[<-ea];rfl)))));have kp:∀c o,s1.heap.get? c=some o->(((((s1.heap.push oa).push ob).push ou).push ov).push oz).get? c=some o:=fun c o e=>Za _ (Za _ (Za _ (Za _ (Za _ e))));generalize((((s1.heap.push oa).push ob).push ou).push ov).push oz=hN at g1 g2 g3 g4 g5 kp ⊢;have I2:Inv X pins σ H1 { s1 with heap:=hN }:=I1.kept (t':=s1.toks) kp;have la:a<s1.heap.objs.size:=px.lt;have lb:b<s1.heap.objs.size:=py.lt;subst ea eb eu ev ez;have base:∀c∈[s1.heap.objs.size+4,s1.heap.objs.size+2,s1.heap.objs.size+3,s1.heap.objs.size,s1.heap.objs.size+1],s1.heap.objs.size<=c:=fun c hc=>by simp only[Zq,YH,or_false]at hc;omega
 refine⟨⟨_,g5,rfl⟩,?_⟩;show wpAny (model X.prog X.w) X.A (pyIter (.ref (s1.heap.objs.size+4))) (PIE X pins σ (.Tuple elts kt tp) R) X.xe { s1 with heap:=hN };refine wpAny_pyIter_zip g5 ?_;refine⟨s1.heap.objs.size+4,[s1.heap.objs.size+4,s1.heap.objs.size+2,s1.heap.objs.size+3,s1.heap.objs.size,s1.heap.objs.size+1],zTn (s1.heap.objs.size+4) (s1.heap.objs.size+2) (s1.heap.objs.size+3) s1.heap.objs.size (s1.heap.objs.size+1) a b,_,H1,rfl,I2,
  wO hl ?_ (fun c hc=>⟨Yz (Zv la (base c hc)),Yz (Zv lb (base c hc))⟩),⟨g5,g3,⟨_,_,g4⟩,⟨_,g1,rfl,rfl⟩,⟨_,g2,rfl,rfl⟩⟩,fun c hc=>?_,q⟩
 ·exact At s1.heap.objs.size
 ·exact I1.fpOk (base c hc) (I1.hok.fresh (base c hc))
theorem xh{e1 e2:Expr}{ta:TA}{p pos tp:Pos}{elts:List Expr}{kt:Nat}(hm:X.mg "zip" = none)(ha:QA X [e1,e2] ta)(hg:Gl X "zip":=by rfl)(n1:aF e1=true:=by rfl)(n2:aF e2=true:=by rfl):QI X (.Tuple elts kt tp) (.Call (.Name "zip" p) [e1,e2] [] pos) (Ab X.K ta):=⟨A7 hg hm ha.h n1 n2⟩
end
open PySem PySem.Spec PyProof.Rows
def xt:R2:=fun x y H Q=>∃a b xs ys,x=.ref a/\y=.ref b/\H a=some (.tup xs)/\H b=some (.tup ys)/\xs.length+ys.length<=sizeLine/\∀p H',Same H H'->H' p=some (.tup (xs++ys))->Q (.ref p) H'
section
variable{X:Cx}
theorem yl:OpR X (binaryOp .Add) xt:=by
 intro pins s σ H x y v u Q I rx ry h;obtain⟨a,b,xs,ys,rfl,rfl,ha,hb,hz,q⟩:=h;by_cases hx:xs=[]
 ·cases rx;cases ry;obtain⟨its,r1,p1,_⟩:=I.tuple (SqT.of (K:=X.K) ha);obtain⟨its2,r2,p2,_⟩:=I.tuple (SqT.of (K:=X.K) hb);obtain⟨⟨cls,dd,data,sl⟩,ho,hc,n,hd⟩:=id p1;obtain⟨⟨cls2,dd2,data2,sl2⟩,ho2,hc2,n2,hd2⟩:=id p2;simp only at hc hd hc2 hd2;subst hc hd hc2 hd2;have e:its=[]:=r1.nil_iff.mpr hx;subst e;refine PySem.concat_meets ⟨_,ho,rfl⟩ ⟨_,ho2,rfl⟩ noFill_tuple_add seq_tuple_add PySem.F.slot_tuple_add PySem.F.entry_tuple_add (PySem.F.args_tuple_add_2 _ _)
   (tuple_addW0 a b _ its2.toArray n n2 dd dd2 sl sl2 (by simp)) ⟨ho,ho2,⟨.ref b,H,I,rfl,q b H (Same.refl H) ?_⟩⟩
  rw[hx];exact hb
 ·exact yn pins s σ H _ _ v u Q I rx ry ⟨a,b,xs,ys,rfl,rfl,SqT.of ha,SqT.of hb,hx,hz,fun e=>q a H (Same.refl H) (by rw[e,ZQ];exact ha),fun _ p hp=>q p _ (ag hp _) ad⟩
theorem uf:QOp X (binaryOp .Add) xt:=⟨yl⟩
variable{K:PySem.W.Frag}(hK:X.K=K)
include hK
theorem BY:QIx X (sr K):=by subst hK;exact ax
omit hK
end
open PySem PySem.Spec PyProof.Rows PySem.W
section
variable{X:Cx}
theorem gi{st:Stmt}:QS X st (fun _ _ _=>False):=⟨fun _ _ _ _ _ _ h=>h.elim⟩
theorem ug:QOp X (compareOp .IsNot) (fun x y H Q=>∃b c,x=.bl b/\y=.bl c/\Q (.bl (!decide (b=c))) H):=by refine⟨?_⟩;intro pins s σ H x y v u Q I rx ry h;obtain⟨b,c,rfl,rfl,q⟩:=h;cases rx;cases ry;cases b<;>cases c<;>exact z9 ⟨.bl _,H,I,rfl,q⟩
variable{o e d:Expr}{to te td:TE}{apos cpos:Pos}
theorem ip{prog:Program}{w:World}{A:Around}{E:Value->Shared->Prop}{s:Shared}{t sl:Addr}{items:Array Value}{vl vu:Value}{lo hi:Option Int}{Q:Value->Shared->Prop}(ht:IsTup s.heap t items)(hs:s.heap.IsSliceOf sl vl vu .none)(pl:IsPart vl lo)(pu:IsPart vu hi)(hw:HT.sIx items.size 0 lo=0/\HT.sIx items.size items.size hi=items.size)(h:Q (.ref t) s):wpAny (model prog w) A (getItem (.ref t) (.ref sl)) Q E s:=by
 obtain⟨os,hos,hcs,hds⟩:=id hs;have hTs:s.TypeIs (.ref sl) "slice":=⟨os,hos,hcs⟩
 unfold getItem
 try with_reducible refine Yc ?_
 first|refine z6 (z9 ?_)|skip
 refine z6 (wpAny_sequenceKey ht.typeIs (by decide) ?_);refine z6 (Z1 (name:=Str.ofString "__getitem__") ht.typeIs Z9
  (Z5 Z9 ht.typeIs entry_tuple_getitem ?_ (args_tuple_getitem _ _)))
 show wpAny _ _ (Builtin.Tuple.tupleItemsOf (.ref t) >>= _) _ _ s;refine z6 (tupleItemsOf_ ht ?_);refine z6 (wpAny_typeOf hTs ?_);rw[if_pos (by decide)];refine z6 (HT.sliceApplied_gen hs pl pu ?_);show wpAny _ _ (if(((HT.sIx items.size 0 lo:Nat):Int)==0&&(1:Int)==1&&(HT.sIx items.size items.size hi-HT.sIx items.size 0 lo)==items.size)=true then _ else _) _ _ s;rw[if_pos (by rw[hw.1,hw.2];simp)];refine z6 (m:=Builtin.Tuple.tupleIsExact _) ?_;unfold Builtin.Tuple.tupleIsExact;refine z6 (wpAny_typeOf ht.typeIs (z9 ?_));rw[if_pos (by decide)];exact z6 (ZT (z9 ⟨_,rfl,z9 h⟩))
def Di:V->Option Int->Option Int->Hp->VK->Prop:=fun x lo hi H Q=>∃a xs,x=.ref a/\H a=some (.tup xs)/\∀p H',Same H H'->H' p=some (.tup (bK xs lo hi))->Q (.ref p) H'
theorem kn:QSl X Di:=by
 refine⟨?_⟩;intro pins s σ H x v vl vu lo hi sl Q I rx hs pl pu h;obtain⟨a,xs,rfl,hx,q⟩:=h;by_cases hw:HT.sIx xs.length 0 lo=0/\HT.sIx xs.length xs.length hi=xs.length
 ·cases rx;obtain⟨its,r,ht,hz⟩:=I.tuple (SqT.of (K:=X.K) hx);have hlen:its.toArray.size=xs.length:=by rw[Zj];exact r.length.symm
  refine⟨"tuple",_,Z9.lookup,ht.typeIs,ip ht hs pl pu (by rw[hlen];exact hw) ⟨.ref a,H,I,rfl,q a H (Same.refl H) ?_⟩⟩;unfold bK;rw[hw.1,hw.2,List.drop_zero,Nat.sub_zero,List.take_length];exact hx
 ·exact BE pins s σ H _ v vl vu lo hi sl Q I rx hs pl pu ⟨a,xs,rfl,SqT.of hx,hw,fun p hp=>q p _ (ag hp _) ad⟩
end
section
variable{prog:Program}{w:World}{A:Around}{s:Shared}{fin:Bool}{Q:Bool->Shared->Prop}
theorem pI(ns:List Int):∀(ms:List Int) (vs ws:List Value) (i:Nat),IntsAre vs ns->IntsAre ws ms->fin=decide (ns.length<ms.length)->Q (HT.lexLt ns ms) s->KatLex prog w A true fin Q (vs.zip ws) i s:=by
 induction ns with
 |nil =>
  intro ms vs ws i a b hf q;subst hf;cases a;cases b with
  |nil=>exact kat_nil q
  |cons _ _ _=>exact kat_nil (by rw[decide_eq_true (by simp)];exact q)
 |cons x ns ih =>
  intro ms vs ws i a b hf q;cases a with
  |cons _ t h1 =>
  cases b with
  |nil =>subst hf;exact kat_nil q
  |cons y u h2 =>
  obtain⟨e,he,iff⟩:=HT.eqAt_int A s x t y u;rw[HT.lexLt_cons]at q;refine kat_cons (he _ _ _ _ (kat_go (fun et=>?_) (fun ef=>?_)))
  ·rw[if_pos (iff.mp et)]at q;exact kat_yes (ih _ _ _ (i+1) h1 h2 (by rw[hf];simp) q)
  ·have hne:x≠y:=fun z=>by rw[iff.mpr z]at ef;cases ef
   rw[if_neg hne]at q;refine kat_no ?_;cases i with
   |zero=>exact oneLt_int q
   |succ i=>exact kat_one _ _ (PyProof.Rows.lt_int q)
end
section
variable{X:Cx}{pins:List (Addr×Obj)}{σ:St}{H:Hp}{s:Shared}{h':Heap}
theorem dD{P:Program}{w:World}{H:Hp}{h:Heap}{a:Addr}{o:HO}(x:ObjOk P w H h a o):∃ob,h.get? a=some ob:=by
 cases o with
 |lst xs =>obtain⟨_,_,_,_,e⟩:=x;exact⟨_,e⟩
 |tup xs =>obtain⟨_,_,_,ob,e,_⟩:=x;exact⟨ob,e⟩
 |dK kvs =>obtain⟨_,_,_,_,ob,_,_,e,_⟩:=x;exact⟨ob,e⟩
 |dT kvs =>obtain⟨_,_,_,_,ob,_,_,e,_⟩:=x;exact⟨ob,e⟩
 |set S n =>obtain⟨ob,_,_,_,e,_⟩:=x;exact⟨ob,e⟩
 |ins C dx fs =>obtain⟨_,_,_,e,_⟩:=x;exact⟨_,e⟩
 |own y=>exact x
 |xd fs =>obtain⟨_,⟨ob,_,_,e,_⟩,_⟩:=x;exact⟨ob,e⟩
 |rng lo hi =>obtain⟨_,_,_,e⟩:=x;exact⟨_,e⟩
 |frz ob u=>exact⟨ob,x.1⟩
 |tbl ps=>exact⟨_,x⟩
 |met f y=>exact⟨_,x⟩
 |ext φ=>exact x.2.1
theorem none_of(I:Inv X pins σ H s){a:Addr}(hg:s.heap.get? a=none):H a=none:=by
 cases q:H a with
 |none=>rfl
 |some u =>obtain⟨ob,e⟩:=dD (I.hok a u q);rw[hg]at e;cases e
def oV(base h:Heap)(L:Addr):List (Addr×Obj):=(List.range h.objs.size).filterMap fun b=>if b=L\/(base.get? b).isSome=true then none else(h.get? b).map fun o=>(b,o)
theorem jp(base h:Heap)(L:Addr):News base L h (oV base h L):=fun p hp=>by
 obtain⟨b,_,e⟩:=Ym.mp hp;by_cases c:b=L\/(base.get? b).isSome=true
 ·rw[if_pos c]at e;cases e
 ·rw[if_neg c]at e;cases q:h.get? b with
  |none=>rw[q]at e;cases e
  |some o =>
   rw[q]at e;cases e;refine⟨q,fun z=>c (.inl z),?_⟩;cases z:base.get? b with
   |none=>rfl
   |some u=>exact absurd (.inr (by rw[z];rfl)) c
theorem eG{base h:Heap}{L b:Addr}{o:Obj}(e:h.get? b=some o)(hL:b≠L)(hb:base.get? b=none):(b,o)∈oV base h L:=by refine Ym.mpr ⟨b,List.mem_range.mpr (Zl e),?_⟩;rw[if_neg (by rintro(z|z);exact hL z;rw[hb]at z;cases z),e];rfl
end
theorem ce(ns:List Int):SeqAt.shaped (.tuple (ns.map .int))=true:=by
 unfold SeqAt.shaped;rw[Zz];refine⟨?_,?_⟩
 ·simp only[PyData.canLay0];exact PyProof.Rows.canLayAll_ints ns
 ·refine decide_eq_true ?_;simp only[PyData.depth];rw[PyProof.Rows.depthAll_ints ns];decide
theorem jg:∀(ns ms:List Int),PyData.eqvAll (ns.map .int) (ms.map .int)=decide (ns=ms)
 | [],[]=>by simp[PyData.eqvAll]
 | [],_::_=>by simp[PyData.eqvAll]
 |_::_,[]=>by simp[PyData.eqvAll]
 |x::ns,y::ms=>by simp only[Zx,PyData.eqvAll,PyData.eqv];rw[jg ns ms,Bool.eq_iff_iff];simp
theorem gG(ns ms:List Int):PyData.eqv (.tuple (ns.map .int)) (.tuple (ms.map .int))=decide (ns=ms):=by simp only[PyData.eqv];exact jg ns ms
theorem eQ{H:Hp}{a:Addr}{ns:List Int}(h:H a=some (.tup (ns.map V.int))):Dt H (.tuple (ns.map .int)) (.ref a):=by simp only[Dt];exact⟨a,_,rfl,Rd.of h,pY ns⟩
section
variable{X:Cx}
theorem Au(hu:X.A.units+64<cLine):QOp X (compareOp .Eq) (fun x y H Q=>∃(a b:Addr) (ns ms:List Int),x=.ref a/\y=.ref b/\H a=some (.tup (ns.map V.int))/\H b=some (.tup (ms.map V.int))/\Q (.bl (decide (ns=ms))) H):=by refine⟨?_⟩;intro pins s σ H x y v u Q I rx ry h;obtain⟨a,b,ns,ms,rfl,rfl,ha,hb,q⟩:=h;exact um hu pins s σ H _ _ v u Q I rx ry ⟨_,_,eQ ha,eQ hb,ce ns,ce ms,by rw[gG];exact q⟩
theorem Aw(hu:X.A.units+64<cLine):QOp X (compareOp .NotEq) (fun x y H Q=>∃(a b:Addr) (ns ms:List Int),x=.ref a/\y=.ref b/\H a=some (.tup (ns.map V.int))/\H b=some (.tup (ms.map V.int))/\Q (.bl (!decide (ns=ms))) H):=by refine⟨?_⟩;intro pins s σ H x y v u Q I rx ry h;obtain⟨a,b,ns,ms,rfl,rfl,ha,hb,q⟩:=h;exact ur hu pins s σ H _ _ v u Q I rx ry ⟨_,_,eQ ha,eQ hb,ce ns,ce ms,by rw[gG];exact q⟩
end
theorem iR{x:V}{A B:Prop}(h:x≠.non)(hA:A):if(!decide (x=.non))=true then A else B:=by rw[decide_eq_false h];exact bw hA
theorem Cn{c A B:Prop}[Decidable c](h:c)(hA:A):if decide c=true then A else B:=by rw[decide_eq_true h];exact bw hA
theorem bM{c A B:Prop}[Decidable c](h1:c->A)(h2:¬c->B):if decide c=true then A else B:=by
 by_cases h:c
 ·exact Cn h (h1 h)
 ·rw[decide_eq_false h];exact aA (h2 h)
open PySem PySem.Spec PyProof.Rows
structure CompOk1(X:Cx)(scope:Scope)(cx:Str)(cap:List Nat)(capN:List Str):Prop where
 kind:scope.kind=.function
 names:∀x∈scope.names,x.2=.local->scope.names.lookup x.1=some .local
 onecell:∀y∈scope.names,y.2=.cell->y.1=cx
 own:scope.names.lookup cx=some .cell
 cf:∀(n:Nat) (acc:List (Str×Addr)),cellsFrom n scope.names acc=(cx,n)::acc
 pc:∀h:Heap,pushCells h scope.names=h.push { cls:=.type "cell",data:=.cell none }
 frees:(scope.names.all fun y=>!(y.2==NameKind.free) ||(X.env.kindOf y.1==some .cell ||X.env.kindOf y.1==some .free))=true
 cap:CapOk X scope cap capN
theorem kg:∀{vs:List Value} {ns:List Int},IntsAre vs ns->∃xs:List (Int×Tok),vs=xs.map (fun p=>.int p.1 p.2)/\ns=xs.map (·.1)
 |_,_,.nil=>⟨[],rfl,rfl⟩
 |_,_,.cons n t h=>by obtain⟨xs,e1,e2⟩:=kg h;exact⟨(n,t)::xs,by rw[e1];rfl,by rw[e2];rfl⟩
open PySem PySem.Spec PyProof.Rows PySem.W
def cm(h:Heap)(e:Addr)(dc:Option Addr):Prop:=∃o,h.get? e=some o/\o.dict=dc
theorem lD(f:Array Value->Array Value)(o:Obj):(Obj.mapFields f o).dict=o.dict:=by unfold Obj.mapFields;split<;>rfl
section
variable{M:Model}{A:Around}{E:Value->Shared->Prop}{s:Shared}{base:Heap}{env:Env}{outer l:List Env}{L e:Addr}
theorem jm{oe:Obj}{vs:Array Value}{hd0 a0:Value}{nx:Bool}{Q:Unit->Shared->Prop}(fr:A.frames=some (env::outer))(ff:s.heap.FunFrames base (env::outer))(ef:env.frame=some L)(he:s.heap.get? e=some oe)(kb:base.StaysIn s.heap)(en:base.get? e=none)(dt:oe.data=.fields vs)(sz:1<vs.size)(v0:vs[0]?=some a0)(k:∀h',Heap.NotedW base (env::outer) e oe.cls a0 (rawInt L) s.heap h'->cm h' e oe.dict->Q () { s with heap:=h' }) :
  wpAny M A (do let a ←frameOf env;let pl ←entryPlaceOf L nx;let b ←EntryCells.newEntry hd0 a .none (rawInt L) .none pl;setField (.ref e) 1 b) Q E s:=by
 have nf:e∉(env::outer).filterMap (·.frame):=fun hm=>by obtain⟨_,o,ho,hn⟩:=ff.mem hm;cases Zi (he.symm.trans ho);exact hn vs dt
 refine z6 (wpAny_frameOf_fun fr ff ef fun h1 k1=>z6 (wpAny_entryPlaceOf fun pl hpl=>?_));unfold EntryCells.newEntry newFields;refine z6 (Z8 ?_ (hpl.sizeOk5 _ _ _ _ _));have t3:([hd0,.ref L,.none,rawInt L,.none]++(if pl.isEmpty then List.replicate 6 Value.none else pl)).toArray[3]?=some (rawInt L):=by simp
 generalize([hd0,.ref L,.none,rawInt L,.none]++(if pl.isEmpty then List.replicate 6 Value.none else pl)).toArray=ts at t3 ⊢;have g1:h1.get? e=some oe:=(k1.2.1 e nf).trans he;have st1:base.StaysIn h1:=fun b o hb=>(k1.2.1 b fun hm=>nomatch(hb.symm.trans (ff.mem hm).1)).trans (kb b o hb);have gp:(h1.push { cls:=.type "traceback",data:=.fields ts }).get? e=some oe:=Za _ g1;have ne:h1.objs.size≠e:=Yz (Zl g1);have dm:=Ye dt (·.setIfInBounds 1 (Value.ref h1.objs.size));have self:=Yl (Obj.mapFields (·.setIfInBounds 1 (Value.ref h1.objs.size))) gp (Obj.isFreed_of_fields dm);have atT:=(Yg (h1.push { cls:=.type "traceback",data:=.fields ts }) (Obj.mapFields (·.setIfInBounds 1 (Value.ref h1.objs.size))) (ZN ne)).trans (Zn h1 rfl);have oth:∀b o,b≠e->h1.get? b=some o->((h1.push { cls:=.type "traceback",data:=.fields ts }).update e (Obj.mapFields (·.setIfInBounds 1 (Value.ref h1.objs.size)))).get? b=some o:=fun b o n q=>(Yg _ _ (ZN n)).trans (Za _ q);have nrec:∀b o,s.heap.get? b=some o->(∀ws,o.data≠.fields ws)->b≠e:=fun b o q hn z=>by subst z;cases Zi (he.symm.trans q);exact hn vs dt
 refine YG gp dt sz (k _ ⟨fun b o q=>oth b o (fun z=>nomatch((z▸q).symm.trans en)) (st1 b o q),ff.of_keeps fun b o q hn=>?_,?_,fun b o q hn=>?_⟩ ⟨_,self,lD _ _⟩)
 ·obtain⟨sl,hs⟩:=k1.2.2 b o q;exact⟨_,oth b _ (nrec b o q hn) hs,rfl⟩
 ·exact⟨_,_,h1.objs.size,_,ts,self,⟨Obj.cls_mapFields _ _,by rw[Array.getElem?_setIfInBounds_ne (by decide)];exact v0⟩,dm,by simp[sz],st1.fresh,ne,atT,rfl,t3⟩
 ·obtain⟨sl,hs⟩:=k1.2.2 b o q;exact⟨sl,oth b _ (nrec b o q hn) hs⟩
theorem dZ{cls a0 fl:Value}{dc:Option Addr}{Q:Unit->Shared->Prop}(kb:base.StaysIn s.heap)(ff:s.heap.FunFrames base l)(tr:s.heap.TracedAtW base e cls a0 fl)(dd:cm s.heap e dc)(k:∀h',base.StaysIn h'->h'.FunFrames base l->h'.TracedW base e cls a0->s.heap.UpToSlots h'->cm h' e dc->Q () { s with heap:=h' }):wpAny M A (setFlight (.ref e) none) Q E s:=by
 obtain⟨oe,vs,T,oT,ts,he,hc,dt,v1,nT,ne,hT,dT,t3⟩:=tr;have z3:3<ts.size:=(Ys.mp t3).1;have oth:∀b,b≠T->(s.heap.update T (Obj.mapFields (·.setIfInBounds 3 ((none:Option Addr).elim Value.none fun f=>rawInt f)))).get? b=s.heap.get? b:=fun b n=>Yg _ _ (ZN n);have nrec:∀b o,s.heap.get? b=some o->(∀ws,o.data≠.fields ws)->b≠T:=fun b o q hn z=>by subst z;cases Zi (hT.symm.trans q);exact hn ts dT
 unfold setFlight;refine z6 (ZX he dt v1 ?_);rw[if_pos (by simp:(Value.ref T != Value.none)=true)];refine YG hT dT z3 (k _ (fun b o q=>(oth b fun z=>nomatch((z▸q).symm.trans nT)).trans (kb b o q)) (ff.of_keeps fun b o q hn=>⟨o,(oth b (nrec b o q hn)).trans q,rfl⟩) ?_ (fun b o q hn=>⟨o.slots,(oth b (nrec b o q hn)).trans q⟩) ?_)
 ·exact⟨oe,vs,T,_,_,(oth e (ZN ne)).trans he,hc,dt,v1,nT,ne,Yl _ hT (Obj.isFreed_of_fields (Ye dT _)),Ye dT _,by simp[z3]⟩
 ·obtain⟨o,q,d⟩:=dd;exact⟨o,(oth e (ZN ne)).trans q,d⟩
theorem kz{cls a0:Value}{dc:Option Addr}{Q:Unit->Shared->Prop}(fr:A.frames=some (env::outer))(ef:env.frame=some L)(fl:Heap.FlyingW base (env::outer) e cls a0 s.heap)(dd:cm s.heap e dc)(k:∀h',Heap.HeldW base (env::outer) e cls a0 L h'->s.heap.UpToSlots h'->cm h' e dc->Q () { s with heap:=h' }):wpAny M A (noteFrame (.ref e) env) Q E s:=by
 obtain⟨f1,f2,f3,oe,vs,T,oT,ts,he,hc,dt,v1,nT,ne,hT,dT,t3⟩:=fl;obtain⟨o2,q2,d2⟩:=dd;cases Zi (he.symm.trans q2);have z3:3<ts.size:=(Ys.mp t3).1;unfold noteFrame;simp only[ef];refine z6 (ZX he dt v1 ?_);rw[if_pos (by simp:(Value.ref T != Value.none)=true)];refine z6 (ZX hT dT t3 ?_);rw[if_neg (by simp[rawInt]:¬(Value.none==rawInt L)=true)];refine z6 (YG hT dT z3 ?_);have oth:∀b,b≠T->(s.heap.update T (Obj.mapFields (·.setIfInBounds 3 Value.none))).get? b=s.heap.get? b:=fun b n=>Yg _ _ (ZN n);have nrec:∀b o,s.heap.get? b=some o->(∀ws,o.data≠.fields ws)->b≠T:=fun b o q hn z=>by subst z;cases Zi (hT.symm.trans q);exact hn ts dT
 have sz:1<vs.size:=(Ys.mp v1).1;refine jm (s:={ s with heap:=s.heap.update T (Obj.mapFields (·.setIfInBounds 3 Value.none)) }) fr (f3.of_keeps fun b o q hn=>⟨o,(oth b (nrec b o q hn)).trans q,rfl⟩) ef ((oth e (ZN ne)).trans he) (fun b o q=>(oth b fun z=>nomatch((z▸q).symm.trans nT)).trans (f1 b o q)) f2 dt sz hc.2 fun h' nt dd=>?_;obtain⟨n1,n2,n3,n4⟩:=nt;rw[hc.1]at n3;rw[d2]at dd;exact k h' ⟨n1,f2,n2,n3⟩ (fun b o q hn=>n4 b o ((oth b (nrec b o q hn)).trans q) hn) dd
end
open PySem PySem.Spec PyProof.Rows PySem.W
section
variable{X:Cx}
theorem nZ:QCall X (.builtin "len") (fun xs H Q=>∃x:Str,xs=[.str x]/\x.length<=1000/\Q (.int (x.length:Int)) H):=by refine⟨?_⟩;intro pins s σ H xs us Q I r h;obtain⟨x,rfl,hz,q⟩:=h;obtain⟨u,rfl,rx⟩:=eI r;obtain⟨t,rfl⟩:=rx;exact PyProof.Rows.len_str (by omega) ⟨.int x.length,H,I.tok _,⟨_,rfl⟩,q⟩
end
theorem oB{v:V}{A B:Prop}(hA:A):if decide (v=v)=true then A else B:=by rw[decide_eq_true rfl];exact bw hA
theorem bR{v u:V}{A B:Prop}(h:v≠u)(hB:B):if decide (v=u)=true then A else B:=by rw[decide_eq_false h];exact aA hB
inductive TV where
 |flat (v:V)
 |tup (xs:List V)
def nI:V->Value->Bool
 |.non,.none=>true
 |.bl b,.bool c=>b==c
 |.int i,.int j _=>i==j
 |.str x,.str y _=>x==y
 |_,_=>false
theorem mQ:∀{v:V} {u:Value},nI v u=true->RelV v u:=by
 intro v u h;unfold nI at h;split at h
 ·exact rfl
 ·obtain rfl:=ZP.mp h;exact rfl
 ·obtain rfl:=ZP.mp h;exact⟨_,rfl⟩
 ·obtain rfl:=ZP.mp h;exact⟨_,rfl⟩
 ·cases h
def pF:List V->List Value->Bool
 | [],[]=>true
 |v::vs,u::us=>nI v u&&pF vs us
 |_,_=>false
theorem jr:∀{vs:List V} {us:List Value},pF vs us=true->Vals vs us
 | [],[],_=>.nil
 |_::_,_::_,h=>by have h:=(Zz _ _).mp h;exact .cons (mQ h.1) (jr h.2)
 | [],_::_,h=>nomatch h
 |_::_,[],h=>nomatch h
def lc(K:PySem.W.Frag):TV->Value->Bool
 |.flat v,u=>nI v u
 | .tup xs,.ref a=>(match K.lookup a with
  |some o=>o.cls == .type "tuple"&&(match o.data with|.seq its _=>decide (its.size<=1000)&&pF xs its.toList|_=>false)
  | none=>false)
 |_,_=>false
def zI(K:PySem.W.Frag):TV->Value->Prop
 |.flat v,u=>RelV v u
 |.tup xs,u=>∃a,u=.ref a/\∀H,SqT K H a xs
theorem CW{K:PySem.W.Frag}(d:TV)(u:Value)(h:lc K d u=true):zI K d u:=by
 unfold lc at h;split at h
 ·exact mQ h
 ·rename_i xs a;split at h
  ·rename_i o ho;obtain⟨e1,e2⟩:=(Zz _ _).mp h;split at e2
   ·rename_i its n hd;obtain⟨e3,e4⟩:=(Zz _ _).mp e2;exact⟨a,rfl,fun H=>.inr ⟨o,its,n,ho,ZP.mp e1,hd,cU (Ya e3),jr e4⟩⟩
   ·cases e2
  ·cases h
 ·cases h
structure Tab(K:PySem.W.Frag)(a:Addr)(D:List (Str×TV)):Prop where
 look:KTD.tabLook (lc K) (fun b=>K.lookup b) a D=true
theorem Tab.at{K:PySem.W.Frag}{a:Addr}{D:List (Str×TV)}(T:Tab K a D){h:Heap}(X:K.In h):KTD.TabOf (zI K) h a D:=KTD.tab_of_look CW (fun b o e=>X b o e) T.look
section
variable{prog:Program}{w:World}{A:Around}{E:Value->Shared->Prop}{s:Shared}{d:Addr}{o:Obj}{es:Array DictEntry}{ep:Nat}{x:Str}{tx:Tok}
theorem zi{Q:Option Value->Shared->Prop}(ho:s.heap.get? d=some o)(hd:o.data=.dict es ep)(hall:(es.all fun e=>isExactStrKey e.key)=true)(h:Q ((es.toList.find? fun e=>e.key.isStr x).map (·.val)) { s with toks:=s.toks+1 }) :
  wpAny (model prog w) A (dictGet d (.str x tx)) Q E s:=by
 unfold dictGet;(try with_reducible (refine Yc ?_))
 refine z6 (wpAny_pyHash_str (z6 (KTD.kt_dictFind_strs (s:={ s with toks:=s.toks+1 }) ho hd hall ?_)));have hq:Q (findBy (fun y v=>v.isStr y) es x) { s with toks:=s.toks+1 }:=by
  have hf:findBy (fun y v=>v.isStr y) es x=(es.toList.find? fun e=>e.key.isStr x).map (·.val):=by obtain⟨l⟩:=es;simp[findBy]
  rw[hf];exact h
 rw[findBy_of_findIdx?]at hq;cases hi:es.findIdx? fun e=>e.key.isStr x<;>rw[hi]at hq
 ·exact z9 hq
 ·exact z6 (YA (s:={ s with toks:=s.toks+1 }) ho hd (z9 hq))
theorem wL{Q:Value->Shared->Prop}{v:Value}(ex:o.ExactDict)(ho:s.heap.get? d=some o)(hd:o.data=.dict es ep)(hall:(es.all fun e=>isExactStrKey e.key)=true)(hv:(es.toList.find? fun e=>e.key.isStr x).map (·.val)=some v)(h:Q v { s with toks:=s.toks+1 }):wpAny (model prog w) A (getItem (.ref d) (.str x tx)) Q E s:=by
 have T:s.TypeIs (.ref d) "dict":=⟨o,ho,ex.1⟩
 unfold getItem;(try with_reducible (refine Yc ?_))
 refine z6 (wpAny_sequenceKey T (by decide) (z6 (Z1 (name:=Str.ofString "__getitem__") T slot_dict_getitem (Z5 slot_dict_getitem T entry_dict_getitem ?_ (args_dict_getitem _ _)))));show wpAny _ _ (dictGet d (.str x tx) >>= _) _ _ _;refine z6 (zi ho hd hall ?_);rw[hv];exact z9 ⟨v,rfl,z9 h⟩
end
section
variable{X:Cx}
def Bs(K:PySem.W.Frag):R2:=fun x y H Q=>∃a k D d,x=.ref a/\y=.str k/\Tab K a D/\KTD.datumAt k D=some d/\(match d with|.flat v=>Q v H|.tup xs=>∀t,(∀H',SqT K H' t xs)->Q (.ref t) H)
theorem CZ:QIx X (Bs X.K):=by
 refine⟨?_⟩;intro value slice pins s σ H x y v u Q I rx ry h hs;obtain⟨a,k,D,d,rfl,rfl,T,hk,q⟩:=h;obtain⟨t,rfl⟩:=ry;cases rx;obtain⟨sy,o,es,ep,ho,ex,hd,hr⟩:=T.at I.kIn;obtain⟨v,hv,ok⟩:=hr.find_some hk;have fin:EP X pins σ Q v { s with toks:=s.toks+1 }:=by
  cases d with
  |flat z=>exact⟨z,H,I.tok _,ok,q⟩
  |tup xs =>obtain⟨t,rfl,e⟩:=ok;exact⟨.ref t,H,I.tok _,rfl,q t e⟩
 exact subscriptTail_builtinR (x:=v) (⟨o,ho,ex.1⟩:s.TypeIs (.ref a) "dict") slot_dict_getitem.lookup (wL (Q:=fun r s'=>r=v/\EP X pins σ Q r s') ex ho hd (by obtain⟨l⟩:=es;simpa using hr.exact) hv ⟨rfl,fin⟩) hs
theorem fe{x:Str}{a:Addr}{pos:Pos}(hm:X.mg x=some (.ref a))(hg:Gl X x:=by rfl)(hd:(x==("__debug__":Str))=false:=by decide):QE X (.Name x pos) (tC (.ref a)):=⟨qz hg hm rfl hd⟩
end
open PySem PySem.Spec PyProof.Rows PySem.W
def CXr(P:Program)(w:World):CXT:=fun outer H s E e s' =>
 ∃(ea t:Addr) (C:Value) (vs:List Value) (B:Heap) (H':Hp) (dc:Option Addr),e=.ref ea/\s'.os=s.os/\AllBare s'.gens/\Un (frs outer) [] H H' s.heap s'.heap/\HOk P w H' s'.heap /\
  Heap.FlyingW B outer ea C (.ref t) s'.heap/\s'.heap.TupAt t vs/\B.get? t=none/\(∀b o,b∉frs outer->((∃u,H' b=some u)\/∃o0,s.heap.get? b=some o0)->s'.heap.get? b=some o->B.get? b=some o)/\cm s'.heap ea dc/\E C dc H'
structure ExCls(K:PySem.W.Frag)(C:Addr):Prop where
 cls:∀h,K.In h->∃nm q N bs bm hdct sn sub ab col dd k0 k1 k2 k3 k5 mN,h.get? C=some (excClassObj nm q C N bs bm hdct sn sub ab col dd k0 k1 k2 k3 k5 "ValueError.__new__")/\h.Ns N mN/\mN "__init__" = none/\bm.contains (.type "BaseException")=true /\
  OwnTail h [.type "ValueError",.type "Exception",.type "BaseException",.type "object"] bm
def sR(X:Cx)(EC:Value->Hp->Prop):Prop:=∀(pins:List (Addr×Obj)) (σ:St) (H1:Hp) (s1:Shared) (h2:Heap) (e:Addr) (C:Value) (vs:List Value),Inv X pins σ H1 s1->Heap.MadeExcOf s1.heap h2 e C vs->EC C H1->X.xe (.ref e) { s1 with heap:=h2 }
section
variable{X:Cx}{EC:Value->Hp->Prop}{C:Addr}{x:Str}{np cpos pos:Pos}{e:Expr}{es:List Expr}{ta:TA}
theorem iY(hR:sR X EC)(hc:X.calm=true)(cl:ExCls X.K C)(hm:X.mg x=some (.ref C))(ha:QA X (e::es) ta)(hg:Gl X x:=by rfl)(hs:(e::es).all aF=true:=by rfl)(hdb:(x==("__debug__":Str))=false:=by decide) :
  QS X (.Raise (some (.Call (.Name x np) (e::es) [] cpos)) none pos) (fun _ σ H=>ta σ H fun vs H1=>vs.length<=sizeLine/\EC (.ref C) H1):=by
 refine⟨?_⟩;intro pins s σ H D I h;obtain⟨nm,q,N,bs,bm,hdct,sn,sub,ab,col,dd,k0,k1,k2,k3,k5,mN,hC,hN,hni,hb,T⟩:=cl.cls X.base I.ok.mod.kin;have hs1:aF e=true:=by have:=Yv.mp hs e (by simp);exact this
 have he:=aG (es:=es) (env:=X.env) hs1;have hpl:(backTo cpos (starEach es X.env)).any (·.1)=false:=aY (by
  rw[Yv];intro y hy;exact Yv.mp hs y (Zh _ hy))
 refine wpAny_Raise_call_subT (nm:=nm) (q:=q) (C:=C) (N:=N) (bs:=bs) (hdct:=hdct) (sn:=sn) (sub:=sub) (ab:=ab) (col:=col) (dd:=dd) (k0:=k0) (k1:=k1) (k2:=k2) (k3:=k3) (k5:=k5) PySem.F.excBase_ValueError hb (I.ok.hd hc) ?_ hni (dC I hg hm ⟨rfl,?_⟩ hdb)
 ·rw[he];show(false ||(backTo cpos (starEach es X.env)).any (·.1))=false;rw[hpl];rfl
 ·have hA:=ha.h cpos pins s σ H _ I h;rw[he]at hA ⊢;refine Calls.evalArgs_plain (thn hA fun us s1 ⟨vs,H1,I1,r1,hz,hE⟩=>⟨rfl,by rw[<-r1.length];exact hz,I1.bk _ _ hC,hN.keeps I1.bk,T.keeps I1.bk,fun h' ea hm=>hR pins σ H1 s1 h' ea _ _ I1 hm hE⟩)
end
open PySem PySem.Spec PyProof.Rows PySem.W
theorem Fun.okX{P:Program}{w:World}{K:PySem.W.Frag}{mg:Str->Option Value}{base:Heap}{x qual:Str}{st:Stmt}{f:Addr}{fd:FuncData}{N ps:List Str}{k:Nat}{sp:Sp}(F:Fun K x qual st f fd)(S:FnScope N ps (am st))(len:∀ vs H Q E,sp vs H Q E->vs.length=ps.length)(hb:∀ (cdv:Value) (A:Around) (outer:List Env) (s:Shared) (H:Hp) (vs:List V) (Q:VK) (E:XK),Room k (A.deeper (envOfC qual (am st) s.heap.objs.size f cdv))->sp vs H Q E ->
   ∃ t,QB (cK (CXr P w) P w K mg base N qual (am st) f cdv A outer s H E) (aV st) t/\t { nx:=fun _ H'=>Q .non H',rt:=Q } (start N vs) H):FnOk P w K mg base (CXr P w) (k+1) f fd ps sp:=by
 obtain⟨oc,od,kV,doc,pm,an,cdv,ct,osl,rfl,lk,hcd⟩:=F.ex;exact rq lk hcd S len fun A outer s H vs Q E hr hsp=>let⟨t,h,q⟩:=hb cdv A outer s H vs Q E hr hsp;⟨t,h.h,q⟩
structure FnX(P:Program)(w:World)(K:PySem.W.Frag)(mg:Str->Option Value)(base:Heap)(k:Nat)(x:Str)(ps:List Str)(sp:Sp):Prop where
 ex:∃f fd,FnOk P w K mg base (CXr P w) k f fd ps sp/\mg x=some (.ref f)/\PySem.W.keepIn K (.ref f)=true/\Binds K fd ps []
def XP(X:Cx)(pins:List (Addr×Obj))(σ:St)(E:XK)(e:Value)(s':Shared):Prop:=∃s0 H0,Inv X pins σ H0 s0/\CXr X.prog X.w X.stack H0 s0 E e s'
abbrev TX:=St->Hp->VK->XK->Prop
structure QX(X:Cx)(e:Expr)(t:TX):Prop where
 h:∀(pins:List (Addr×Obj)) (s:Shared) (σ:St) (H:Hp) (Q:VK) (E:XK),Inv X pins σ H s->t σ H Q E->wpAny (model X.prog X.w) X.A (eval e X.env) (EP X pins σ Q) (XP X pins σ E) s
abbrev TSX:=Ends->St->Hp->XK->Prop
structure QSX(X:Cx)(st:Stmt)(t:TSX):Prop where
 h:∀(pins:List (Addr×Obj)) (s:Shared) (σ:St) (H:Hp) (D:Ends) (E:XK),Inv X pins σ H s->t D σ H E->wpAny (model X.prog X.w) X.A (exec st X.env) (SP X pins D) (XP X pins σ E) s
section
variable{X:Cx}{e:Expr}{tx:TX}{pos pos':Pos}{x:Str}
theorem qS(he:QX X e tx)(hs:swapsWith e none pos.line X.env=pure false:=by rfl):QSX X (.Expr e pos) (fun D σ H E=>tx σ H (fun _ H1=>D.nx σ H1) E):=by refine⟨?_⟩;intro pins s σ H D E I h;exact wpAny_Expr_any (thn (he.h pins s σ H _ E I h) fun v s1 ⟨y,H1,I1,r1,q1⟩=>⟨σ,H1,I1,q1⟩) I.quiet hs
end
structure Fl(X:Cx)(H0 H':Hp)(s0 s':Shared)(B:Heap):Prop where
 os:s'.os=s0.os
 bare:AllBare s'.gens
 un:Un (frs X.stack) [] H0 H' s0.heap s'.heap
 hok:HOk X.prog X.w H' s'.heap
 kb:∀b o,b∉frs X.stack->((∃u,H' b=some u)\/∃o0,s0.heap.get? b=some o0)->s'.heap.get? b=some o->B.get? b=some o
section
variable{X:Cx}{pins:List (Addr×Obj)}{σ:St}{H0 H':Hp}{s0 s':Shared}{B h':Heap}
theorem Fl.inv(F:Fl X H0 H' s0 s' B)(I:Inv X pins σ H0 s0):Inv X pins σ H' s':=I.call' F.os F.un F.hok F.bare fun _ z=>nomatch z
theorem Fl.nf(F:Fl X H0 H' s0 s' B)(I:Inv X pins σ H0 s0){b:Addr}{u:HO}(h:H' b=some u):b∉frs X.stack:=fun hm=>by have:=(F.inv I).stkFree b hm;rw[h]at this;cases this
theorem Fl.move{tk:Nat}(F:Fl X H0 H' s0 s' B)(I:Inv X pins σ H0 s0)(st:B.StaysIn h')(up:s'.heap.UpToSlots h'):Fl X H0 H' s0 { s' with heap:=h',toks:=tk } B:=by
 have kp:∀b o,b∉frs X.stack->((∃u,H' b=some u)\/∃o0,s0.heap.get? b=some o0)->s'.heap.get? b=some o->h'.get? b=some o:=fun b o h1 h2 h3=>st b o (F.kb b o h1 h2 h3);have sl:∀b o,b∈frs X.stack->s'.heap.get? b=some o->∃sl,h'.get? b=some { o with slots:=sl }:=fun b o hm q=>by obtain⟨_,o',ho',hd⟩:=(F.inv I).stack.mem hm;have e:s'.heap.get? b=some o':=ho';rw[q]at e;cases e;exact up b o q hd
 refine⟨F.os,F.bare,⟨fun b o q n hb hx=>kp b o hb (.inr ⟨o,q⟩) (F.un.keep b o q n hb hx),fun b o q n hb hx=>?_,F.un.free,fun b o q hx=>?_,F.un.tups,F.un.frzs,F.un.tbls⟩,fun b u q=>?_,fun b o hb ho q=>?_⟩
 ·obtain⟨s1,e1⟩:=F.un.slot b o q n hb hx;obtain⟨s2,e2⟩:=sl b _ hb e1;exact⟨s2,e2⟩
 ·obtain⟨o',e1⟩:=F.un.there b o q hx;by_cases hb:b∈frs X.stack
  ·obtain⟨s2,e2⟩:=sl b o' hb e1;exact⟨_,e2⟩
  ·exact⟨o',kp b o' hb (.inr ⟨o,q⟩) e1⟩
 ·refine(F.hok b u q).stay (fun c v hc z=>kp c v ?_ ?_ z) (fun _ z=>z) fun _ _ z=>z
  ·rcases hc with z'|z'
   ·rw[z'];exact F.nf I q
   ·exact F.nf I z'
  ·rcases hc with z'|z'
   ·rw[z'];exact .inl ⟨u,q⟩
   ·exact .inl ⟨_,z'⟩
 ·obtain⟨o1,q1⟩:∃o1,s'.heap.get? b=some o1:=by
   rcases ho with⟨u,z⟩|⟨o0,z⟩
   ·exact dD (F.hok b u z)
   ·exact F.un.there b o0 z (by simp)
  have q2:=kp b o1 hb ho q1;have q':h'.get? b=some o:=q;rw[q']at q2;cases q2;exact F.kb b o hb ho q1
end
structure ExC(K:PySem.W.Frag)(C:Addr)(bm:List Value):Prop where
 cls:∀h,K.In h->∃nm q N bs hdct sn sub ab col dd k0 k1 k2 k3 k5 ni,h.get? C=some (excClassObj nm q C N bs bm hdct sn sub ab col dd k0 k1 k2 k3 k5 ni)
 exc:bm.contains (.type "BaseException")=true
theorem jh{M:Model}{A:Around}{E:Value->Shared->Prop}{s:Shared}{e C T:Addr}{oe:Obj}{bmC bmT:List Value}{K:PySem.W.Frag}{Q:Bool->Shared->Prop}(hC:ExC K C bmC)(hT:ExC K T bmT)(hk:K.In s.heap)(he:s.heap.get? e=some oe)(hcls:oe.cls=.ref C)(hq:Q ((Value.ref C::bmC).contains (.ref T)) s):wpAny M A (excMatches (.ref e) (.ref T)) Q E s:=by
 obtain⟨nm,q,N,bs,hdct,sn,sub,ab,col,dd,k0,k1,k2,k3,k5,ni,oC⟩:=hC.cls _ hk;obtain⟨nm',q',N',bs',hdct',sn',sub',ab',col',dd',k0',k1',k2',k3',k5',ni',oT⟩:=hT.cls _ hk;obtain⟨hp,g,d,tk,os⟩:=s;have hcB:(Value.ref T::bmT).contains (.type "BaseException")=true:=by rw[YO,hT.exc,Bool.or_true]
 have f:=tc_notTuple;unfold excMatches;generalize hr:(Value.ref C::bmC).contains (Value.ref T)=r at hq
 repeat(first|(with_reducible refine YB he ?_;rw[hcls])|with_reducible refine YB oT ?_|(with_reducible refine wpAny_isSubtype_exc oT ?_;rw[hcB])|(with_reducible refine wpAny_isSubtype_exc oC ?_;rw[hr])|wp_step)
 cases r<;>(first|exact hq|(wp_walk;exact hq))
theorem fG{X:Cx}{pins:List (Addr×Obj)}{σ:St}{H:Hp}{s:Shared}{M:Model}{A:Around}{E:Value->Shared->Prop}{i:Nat}{n:Str}{pos:Pos}{Q:Unit->Shared->Prop}(I:Inv X pins σ H s)(hN:X.N.Nodup)(hi:X.N[i]?=some n)(hl:X.env.kindOf n=some .local)(h:∀s',Inv X pins (σ.set i none) H s'->Q () s'):wpAny M A (do bindName X.env n .none;unbindBehindTheSuite X.env n pos) Q E s:=by
 obtain⟨m,hn,hv⟩:=id I.loc;refine wpAny_nameGoes_keeps hl hn (by rw[I.ok.kind];rfl) fun h' v hn' hs=>h _ ?_;obtain⟨oL,_,_,hoL,_⟩:=id hn;have cne:=I.cne;have lt:∀b o,X.s₀.heap.get? b=some o->b≠X.env.locals:=fun b o q=>Zy (Zv (Zl q) I.ok.above);refine⟨I.ok,I.os,I.bare,⟨fun b o e n hb hx=>(hs.2 b (lt b o e)).trans (I.base.keep b o e n hb hx),fun b o e n hb hx=>?_,I.base.free,fun b o e hx=>?_,I.base.tups,I.base.frzs,I.base.tbls⟩,⟨_,hn',fun j y v' e1 e2 e3=>?_⟩,fun y c e=>?_,I.free,I.freeC,fun p hp=>?_,fun b u q=>?_,by simpa using I.len⟩
 ·obtain⟨sl,e1⟩:=I.base.slot b o e n hb hx;exact⟨sl,(hs.2 b (lt b o e)).trans e1⟩
 ·obtain⟨o',e1⟩:=I.base.there b o e hx;exact⟨o',(hs.2 b (lt b o e)).trans e1⟩
 ·have hj:j≠i:=fun z=>by
   subst z;have hz:j<σ.length:=by have:=(Zt.mp e2).1;simpa using this
   rw[List.getElem?_set_self hz]at e2;cases e2
  rw[List.getElem?_set_ne (ZN hj)]at e2;obtain⟨u',r',q⟩:=hv j y v' e1 e2 e3;refine⟨u',r',?_⟩;rcases q with⟨k,e⟩|⟨k,c,e,z⟩
  ·refine .inl ⟨k,?_⟩;have:y≠n:=fun e=>hj (jE hN e1 (e▸hi));simp[this,e]
  ·exact .inr ⟨k,c,e,z.sameBut hs (cne y c e)⟩
 ·obtain⟨w',z⟩:=I.cell y c e;exact⟨w',z.sameBut hs (cne y c e)⟩
 ·obtain⟨e,n,ne,nf,d⟩:=I.pin p hp;exact⟨(hs.2 p.1 ne).trans e,n,ne,nf,d⟩
 ·refine(I.hok b u q).stay (fun c w' hc z=>(hs.2 c ?_).trans z) (fun _ z=>z) fun _ _ z=>z;rintro rfl;rcases hc with z'|z'
  ·rw[<-z',I.free]at q;cases q
  ·rw[I.free]at z';cases z'
def Cx.exc(X:Cx)(e:Value):Cx:={ X with A:=X.A.mark (some e),calm:=false,xe:=fun _ _=>False }
section
variable{X:Cx}{pins:List (Addr×Obj)}{σ:St}{H:Hp}{s:Shared}{e:Value}
theorem Inv.exc(I:Inv X pins σ H s)(e:Value):Inv (X.exc e) pins σ H s :=
 ⟨⟨I.ok.mod,I.ok.kind,I.ok.glob,I.ok.blt,I.ok.above,I.ok.inj,I.ok.has,I.ok.cab,fun z=>(nomatch z),I.ok.frames,I.ok.stk,I.ok.exf,I.ok.bs,I.ok.bsz,I.ok.noex,I.ok.exfs,I.ok.funs,I.ok.frf⟩,I.os,I.bare,I.base,I.loc,I.cell,I.free,I.freeC,I.pin,I.hok,I.len⟩
theorem Inv.unexc(ok:X.Ok)(I:Inv (X.exc e) pins σ H s):Inv X pins σ H s:=⟨ok,I.os,I.bare,I.base,I.loc,I.cell,I.free,I.freeC,I.pin,I.hok,I.len⟩
end
abbrev TH:=Ends->St->Value->Option Addr->Hp->Prop
structure QH(X:Cx)(hs:List ExceptHandler)(th:TH):Prop where
 h:∀(pins:List (Addr×Obj)) (s0:Shared) (H0:Hp) (σ:St) (D:Ends) (ea t:Addr) (C:Value) (B:Heap) (H':Hp) (dc:Option Addr) (s':Shared),Inv X pins σ H0 s0->Fl X H0 H' s0 s' B->Heap.FlyingW B X.stack ea C (.ref t) s'.heap->cm s'.heap ea dc->th D σ C dc H' ->
  wpAny (model X.prog X.w) X.A (handleBy (.ref ea) X.env hs) (SP X pins D) X.xe s'
section
variable{X:Cx}
def Dm(tb:TSX)(th:TH):TS:=fun D σ H=>tb D σ H fun C dc H1=>th D σ C dc H1
theorem uJ{st:Stmt}{tb:TSX}{th:TH}{h0:ExceptHandler}{hs:List ExceptHandler}{pos:Pos}(hst:X.stack=X.env::X.outer)(hfr:X.env.frame=some X.env.locals)(hb:QSX X st tb)(hh:QH X (h0::hs) th) :
  QS X (.Try [st] (h0::hs) [] [] pos) (Dm tb th):=by
 refine⟨?_⟩;intro pins s σ H D I h;refine wpAny_Try_except (wpAny_execs_cons (ZH (hb.h pins s σ H D _ I h) (fun f s1 q=>?_) (fun e s1 x=>?_)))
 ·cases f with
  |next=>exact wpAny_execs_nil (wpAny_execs_nil q)
  |brk=>exact q
  |cont=>exact q
  |ret v=>exact q
 ·obtain⟨s0,H0,I0,ea,t,C,vs,B,H',dc,rfl,os,bare,un,hok,fly,tup,hBt,kb,dd,q⟩:=x;have F:Fl X H0 H' s0 s1 B:=⟨os,bare,un,hok,kb⟩
  have fr:X.A.frames=some (X.env::X.outer):=by rw[<-hst];exact I.ok.frames
  rw[hst]at fly;refine kz fr hfr fly dd fun h4 held up4 dd4=>?_;obtain⟨f1,f2,f3,f4⟩:=held;refine dZ f1 f3 f4 dd4 fun h5 k1 k2 k3 up5 dd5=>?_;have F5:=(F.move (tk:=s1.toks) I0 k1 (up4.trans up5))
  rw[<-hst]at k2;exact hh.h pins s0 H0 σ D ea t C B H' dc _ I0 F5 ⟨k1,f2,k2,k3⟩ dd5 q
end
open PySem PySem.Spec PyProof.Rows PySem.W
abbrev VE:List Value:=[.type "ValueError",.type "Exception",.type "BaseException",.type "object"]
structure ExcAt(K:PySem.W.Frag)(C:Addr)(bm:List Value):Prop where
 isIn:excIn K C VE "ValueError.__new__" = true
 mro:∃c d cd sl,K.lookup C=some ⟨c,d,.cls cd,sl⟩/\cd.mro=Value.ref C::bm
 exc:bm.contains (.type "BaseException")=true
theorem mC{K:PySem.W.Frag}{C:Addr}{bm:List Value}(q:ExcAt K C bm){h:Heap}(X:K.In h) :
  ∃nm qn N bs hdct sn sub ab col dd k0 k1 k2 k3 k5 mN,h.get? C=some (excClassObj nm qn C N bs bm hdct sn sub ab col dd k0 k1 k2 k3 k5 "ValueError.__new__")/\h.Ns N mN/\mN "__init__" = none/\OwnTail h VE bm:=by
 have q1:=q.isIn;obtain⟨c9,d9,cd9,sl9,l9,m9⟩:=q.mro;unfold excIn at q1;split at q1
 ·rename_i dd cd sl ho;split at q1
  ·rename_i C' bm' k0 k1 k2 k3 n k5 hm hs;have q2:cd.mro=Value.ref C::bm:=by have z:=ho.symm.trans l9;cases z;exact m9
   rw[hm]at q2;injection q2 with z1 z2;injection z1 with z1;cases z1;cases z2;simp only[Zz,ZP,Bool.not_eq_true']at q1;obtain⟨⟨⟨⟨⟨_,rfl⟩,nd⟩,ht⟩,ok⟩,ni⟩:=q1;have es:sl=#[k0,k1,k2,k3,some (.builtin "ValueError.__new__"),k5]:=by obtain⟨l⟩:=sl;simp only at hs;rw[hs]
   cases es;obtain⟨nm,bs,mro,ns,qn,hd,sn,sub,ab,col,del⟩:=cd;dsimp only at hm nd ok ni;cases hm;cases nd;exact⟨nm,qn,ns,bs,hd,sn,sub,ab,col,dd,k0,k1,k2,k3,k5,_,X _ _ ho,.of_isNs (isNs_of_in X ok),nsMap_none_of_in X ok ni,tail_of_in X ht⟩
  ·cases q1
 ·cases q1
theorem fS{K:PySem.W.Frag}{C:Addr}{bm:List Value}(q:ExcAt K C bm):ExC K C bm where
 cls:=fun h X=>by obtain⟨nm,qn,N,bs,hdct,sn,sub,ab,col,dd,k0,k1,k2,k3,k5,mN,e,_⟩:=mC q X;exact⟨nm,qn,N,bs,hdct,sn,sub,ab,col,dd,k0,k1,k2,k3,k5,_,e⟩
 exc:=q.exc
theorem jA{K:PySem.W.Frag}{C:Addr}{bm:List Value}(q:ExcAt K C bm):ExCls K C where
 cls:=fun h X=>by obtain⟨nm,qn,N,bs,hdct,sn,sub,ab,col,dd,k0,k1,k2,k3,k5,mN,e,e2,e3,e4⟩:=mC q X;exact⟨nm,qn,N,bs,bm,hdct,sn,sub,ab,col,dd,k0,k1,k2,k3,k5,mN,e,e2,e3,(fS q).exc,e4⟩
theorem jQ:bootBuiltins "ValueError" = some (.type "ValueError"):=by decide +kernel
structure ExK(K:PySem.W.Frag)(c:Addr):Prop where
 hc:(clsIn K c).isSome=true
 hga:findIn K (.ref c) "__getattribute__" = some (some (.builtin "BaseException.__getattribute__"))
 hgh:findIn K (.ref c) "__getattr__" = some none
 ha:findIn K (.ref c) "__class__" = some (some (.builtin "object.__class__"))
 hb:mroIn K c (.type "BaseException")=some true
 hm:mroIn K c (.type "object")=some true
open PySem PySem.Spec PyProof.Rows PySem.W
theorem qd{K:PySem.W.Frag}{a b:Addr}{xs ys:List V}{i j:Nat}{tb:TS}{D:Ends}{σ:St}{H:Hp}(Pv:Nat->St->Hp->Prop)(h0:Pv 0 σ H)(ha:∀i σ H,i<=xs.length->Pv i σ H->SqT K H a xs)(hb:∀i σ H,i<=xs.length->Pv i σ H->SqT K H b ys)(hl:xs.length=ys.length)(hs:∀k x y σ H,xs[k]?=some x->ys[k]?=some y->Pv k σ H->∀T,H T=none->tb { D with nx:=Pv (k+1),ct:=Pv (k+1),bk:=D.nx } ((σ.set i (some x)).set j (some y)) (upd H T (.tup [x,y])))(hd:∀σ H,Pv xs.length σ H->D.nx σ H) :
  ∃W:Nat->Nat->St->Hp->Prop,(∃m,W 0 m σ H)/\∀k m σ H,W k m σ H ->
   ((Itz K a b xs ys).stop k H/\D.nx σ H)\/((Itz K a b xs ys).go k H/\∃N:St->Hp->Prop,(∀σ' H',N σ' H'->∃m',m'<m/\W (k+1) m' σ' H')/\∀x H',(Itz K a b xs ys).yld k H x H'->vF K 2 (ny (dg i) (ny (dg j) vE)) x σ H' fun σ2 H2=>tb { D with nx:=N,ct:=N,bk:=D.nx } σ2 H2):=by
 refine⟨fun k m σ H=>m=xs.length-k/\k<=xs.length/\Pv k σ H,⟨xs.length,by simp,Z7 _,h0⟩,?_⟩;rintro k m σ H ⟨rfl,hk,pv⟩;by_cases hlt:k<xs.length
 ·refine .inr ⟨⟨hlt,ha k σ H hk pv,hb k σ H hk pv⟩,Pv (k+1),fun σ' H' z=>⟨xs.length-(k+1),by omega,rfl,hlt,z⟩,fun x H' y=>?_⟩;obtain⟨T,p,q,hT,hx,hy,rfl,rfl⟩:=y;exact⟨T,[p,q],rfl,SqT.of ad,rfl,p,[q],rfl,q,[],rfl,rfl,hs k p q σ H hx hy pv T hT⟩
 ·have e:k=xs.length:=by omega
  subst e;exact .inl ⟨⟨rfl,ha _ σ H hk pv,hb _ σ H hk pv⟩,hd σ H pv⟩
theorem dz{J:It}{N n:Nat}{cap:List Nat}{g:TG}{te:TE}{σ:St}{H0:Hp}{Q:VK}(Pv:Nat->List V->Hp->Prop)(hz:N<=1000)(hn:∀i ys H,Pv i ys H->ys.length=i)(h0:Pv 0 [] H0)(hgo:∀i ys H,i<N->Pv i ys H->J.go i H)(hst:∀ys H,Pv N ys H->J.stop N H)(ht:∀i ys H x H',i<N->Pv i ys H->J.yld i H x H'->∀A:VK,(∀v H4,Pv (i+1) (ys++[v]) H4->A v H4)->g x (cv n cap σ) H' fun σ2 H2=>te σ2 H2 A)(hq:∀ys p H,Pv N ys H->H p=none->Q (.ref p) (upd H p (.lst ys))):kX n cap g kZ te σ J H0 Q:=by
 refine⟨fun i m ys H=>m=N-i/\i<=N/\Pv i ys H,⟨N,by simp,Z7 _,h0⟩,?_⟩;rintro i m ys H ⟨rfl,hi,pv⟩;by_cases hlt:i<N
 ·refine .inr ⟨hgo i ys H hlt pv,by rw[hn i ys H pv];exact fK (by omega),fun x H' y=>?_⟩;have k:=ht i ys H x H' hlt pv y (fun v H4=>∃m',m'<N-i/\m'=N-(i+1)/\i+1<=N/\Pv (i+1) (ys++[v]) H4) (fun v H4 z=>⟨N-(i+1),by omega,rfl,hlt,z⟩);unfold kZ;simpa using k
 ·have e:i=N:=by omega
  subst e;exact .inl ⟨hst ys H pv,fun p hp=>hq ys p H pv hp⟩
open PySem PySem.Spec PyProof.Rows PySem.W
def dA(z:Str)(lo hi:Option Int):Str:=if(Builtin.Str.strSliceIndices lo hi 1 z.length).length=z.length then z else⟨((Builtin.Str.strSliceIndices lo hi 1 z.length).filterMap (z.cps[·]?)).toArray⟩
theorem vx(z:Str)(lo hi:Option Int):(dA z lo hi).length<=z.length:=by
 unfold dA;split
 ·exact Zd _
 ·show(List.filterMap _ _).toArray.size<=_;rw[Zj];exact ZB (List.length_filterMap_le _ _) (indices_len_le _ _ _)
section
variable{X:Cx}{K:PySem.W.Frag}
theorem Al:QSl X (fun x lo hi H Q=>∃z:Str,x=.str z/\z.length<=1000/\Q (.str (dA z lo hi)) H):=by
 refine⟨?_⟩;intro pins s σ H x v vl vu lo hi sl Q I rx hs pl pu h;obtain⟨z,rfl,hz,q⟩:=h;obtain⟨t,rfl⟩:=rx;have pt:∀{v:Value} {o:Option Int},IsPart v o->∃p:Option (Int×Tok),v=partValue p/\p.map (·.1)=o:=fun{v o} p=>by
  cases p with
  |none=>exact⟨none,rfl,rfl⟩
  |int i t=>exact⟨some (i,t),rfl,rfl⟩
 obtain⟨l,rfl,hl⟩:=pt pl;obtain⟨u,rfl,hu⟩:=pt pu;have e:slicePicked z l u none=Builtin.Str.strSliceIndices lo hi 1 z.length:=by unfold slicePicked;rw[hl,hu];rfl
 refine⟨"str",_,F.slot_str_getitem.lookup,typeIs_str _ _ _,wpAny_getItem_str_slice (l:=l) (u:=u) (st:=none) hs rfl ?_⟩;have hy:=vx z lo hi;unfold sliceMade;unfold dA at q hy;rw[e];split
 ·rename_i hc;have hc':(Builtin.Str.strSliceIndices lo hi 1 z.length).length=z.length:=by simpa using hc
  rw[if_pos hc']at q;exact⟨.str z,H,I,⟨_,rfl⟩,q⟩
 ·rename_i hc;have hc':¬(Builtin.Str.strSliceIndices lo hi 1 z.length).length=z.length:=by simpa using hc
  rw[if_neg hc']at q hy;exact⟨cU (ZB hy hz),.str _,H,I.tok _,⟨_,rfl⟩,q⟩
end
open PySem PySem.Spec PyProof.Rows PySem.W
open PySem PySem.Spec PyProof.Rows PySem.W
def POk(n:Nat)(p:Array Nat):Prop:=p.Perm (List.range n).toArray
theorem POk.lt{n:Nat}{p:Array Nat}(h:POk n p)(hn:0<n)(k:Nat):p.getD k 0<n:=by
 rw[Yf];cases e:p[k]? with
 |none=>exact hn
 |some x =>have hm:x∈p:=Array.mem_of_getElem? e;have:=(h.mem_iff).mp hm;simpa using this
theorem POk.rev{n:Nat}{p:Array Nat}(h:POk n p)(i j:Nat):POk n (kas_rev p i j):=(mirror_perm p i j _).trans h
theorem POk.bub{n:Nat}{p:Array Nat}(h:POk n p)(i j:Nat):POk n (bubble p i j):=(bubble_perm p i j).trans h
section
variable{X:Cx}
theorem Cr{K:PySem.W.Frag}(hK:X.K=K):QOp X (compareOp .In) (rIn K false):=by subst hK;exact⟨uq⟩
end
open PySem PySem.Spec PyProof.Rows PySem.W
def KW{α:Type}(lt:Nat->Nat->Bool)(Q:α->Prop):KasT α->Prop
 |.ret a=>Q a
 |.ask i j k=>KW lt Q (k (lt i j))
theorem KW.bind{α β:Type}{lt:Nat->Nat->Bool}{Q:β->Prop}{f:α->KasT β}:∀{t:KasT α},KW lt (fun a=>KW lt Q (f a)) t->KW lt Q (t.bind f)
 |.ret _,h=>h
 |.ask i j k,h=>KW.bind (t:=k (lt i j)) h
theorem KW.mono{α:Type}{lt:Nat->Nat->Bool}{Q R:α->Prop}(k:∀a,Q a->R a):∀{t:KasT α},KW lt Q t->KW lt R t
 |.ret _,h=>k _ h
 |.ask i j c,h=>KW.mono k (t:=c (lt i j)) h
structure LtOk(lt:Nat->Nat->Bool):Prop where
 as:∀{a b},lt a b=true->lt b a=false
 tr:∀{a b c},lt b a=false->lt c b=false->lt c a=false
def gA(p:Array Nat)(k:Nat):Nat:=p.getD k 0
def Lx(lt:Nat->Nat->Bool)(a b:Nat):Prop:=lt b a=false/\(lt a b=true\/a<b)
section
variable{lt:Nat->Nat->Bool}(O:LtOk lt)
include O
theorem LtOk.lt_le{a b c:Nat}(h:lt a b=true)(h2:lt c b=false):lt a c=true:=by
 cases e:lt a c with
 |true=>rfl
 |false=>rw[O.tr h2 e]at h;cases h
theorem LtOk.le_lt{a b c:Nat}(h:lt b a=false)(h2:lt b c=true):lt a c=true:=by
 cases e:lt a c with
 |true=>rfl
 |false=>rw[O.tr e h]at h2;cases h2
theorem Lx.trans{a b c:Nat}(h:Lx lt a b)(k:Lx lt b c):Lx lt a c:=by
 refine⟨O.tr h.1 k.1,?_⟩;rcases h.2 with x|x
 ·exact .inl (O.lt_le x k.1)
 ·rcases k.2 with y|y
  ·exact .inl (O.le_lt h.1 y)
  ·exact .inr (Nat.lt_trans x y)
theorem Lx.of_lt{a b:Nat}(h:lt a b=true):Lx lt a b:=⟨O.as h,.inl h⟩
end
structure Fx(N:Nat)(p:Array Nat)(m:Nat):Prop where
 sz:p.size=N
 hi:∀k,m<=k->k<N->gA p k=k
 lo:∀i,i<m->gA p i<m
def LS(lt:Nat->Nat->Bool)(p:Array Nat)(m:Nat):Prop:=∀i j,i<j->j<m->Lx lt (gA p i) (gA p j)
def AS(lt:Nat->Nat->Bool)(p:Array Nat)(m:Nat):Prop:=∀i j,i<j->j<m->Lx lt (gA p j) (gA p i)
theorem Fx.succ{N:Nat}{p:Array Nat}{m:Nat}(h:Fx N p m)(hm:m<N):Fx N p (m+1):=⟨h.sz,fun k h1 h2=>h.hi k (by omega) h2,fun i hi=>by
 rcases Yd i m with h1|h1
 ·have:=h.lo i h1;omega
 ·have e:i=m:=by omega
  subst e;rw[h.hi i (Zd _) hm];omega⟩
theorem bZ{p:Array Nat}{i j k:Nat}(hj:j<=p.size):gA (kas_rev p i j) k=if i<=k/\k<j then gA p (i+j-1-k)else gA p k:=by
 unfold gA kas_rev;rw[Yf,getElem?_mirror_all hj];split
 ·rw[Yf]
 ·rw[Yf]
theorem gK(p:Array Nat)(k:Nat):gA p k=(p[k]?).getD 0:=by unfold gA;rw[Yf]
theorem zV{p:Array Nat}{k d i:Nat}(hk:k<p.size)(hd:d<=k):gA (bubble p k d) i=if i=k-d then gA p k else if k-d<i/\i<=k then gA p (i-1)else gA p i:=by
 rw[gK,getElem?_bubble hk d hd];split
 ·rw[gK]
 ·split
  ·rw[gK]
  ·rw[gK]
theorem Fx.rev{N:Nat}{p:Array Nat}{m i j:Nat}(h:Fx N p m)(hj:j<=m)(hm:m<=N):Fx N (kas_rev p i j) m:=by
 have hs:j<=p.size:=by rw[h.sz];omega
 refine⟨by rw[kas_rev_size];exact h.sz,fun k h1 h2=>?_,fun k hk=>?_⟩
 ·rw[bZ hs,if_neg (by omega)];exact h.hi k h1 h2
 ·rw[bZ hs];split
  ·exact h.lo _ (by omega)
  ·exact h.lo _ hk
section
variable{lt:Nat->Nat->Bool}(O:LtOk lt){N:Nat}
include O
theorem LS.step{p:Array Nat}{n:Nat}(h:LS lt p n)(hx:Lx lt (gA p (n-1)) (gA p n))(h1:1<=n):LS lt p (n+1):=fun i j hij hj=>by
 rcases Yd j n with h2|h2
 ·exact h i j hij h2
 ·have e:j=n:=by omega
  subst e;rcases Yd i (j-1)with h3|h3
  ·exact(h i (j-1) h3 (by omega)).trans O hx
  ·have e:i=j-1:=by omega
   subst e;exact hx
theorem oF{p:Array Nat}:∀(f n:Nat),1<=n->n+f<=N->Fx N p n->LS lt p n->KW lt (fun m=>n<=m/\m<=n+f/\Fx N p m/\LS lt p m/\(m<n+f->lt (gA p m) (gA p (m-1))=true)) (kas_asc p f n)
 |0,n,_,_,hf,hs=>⟨Zd _,Zd _,hf,hs,fun h=>absurd h (by omega)⟩
 |f+1,n,h1,hN,hf,hs=>by
  show KW lt _ (if lt (gA p n) (gA p (n-1))=true then .ret n else kas_asc p f (n+1));by_cases c:lt (gA p n) (gA p (n-1))=true
  ·rw[if_pos c];exact⟨Zd _,by omega,hf,hs,fun _=>c⟩
  ·rw[if_neg c];have c':=YS.mpr c;have hx:Lx lt (gA p (n-1)) (gA p n):=⟨c',.inr (by rw[hf.hi n (Zd _) (by omega)];exact hf.lo _ (by omega))⟩
   refine KW.mono (fun m hm=>?_) (oF f (n+1) (by omega) (by omega) (hf.succ (by omega)) (hs.step O hx h1));exact⟨by omega,by omega,hm.2.2.1,hm.2.2.2.1,fun z=>hm.2.2.2.2 (by omega)⟩
theorem AS.rev{p:Array Nat}{n:Nat}(h:AS lt p n)(hn:n<=p.size):LS lt (kas_rev p 0 n) n:=fun i j hij hj=>by rw[bZ hn,bZ hn,if_pos (by omega),if_pos (by omega)];exact h _ _ (by omega) (by omega)
theorem qr{p:Array Nat}{n:Nat}(h1:1<=n)(hN:n<=N)(hf:Fx N p n)(ha:AS lt p n):KW lt (fun r=>r.1<=N/\1<=r.1/\Fx N r.2 r.1/\LS lt r.2 r.1) (kas_tail3 n N p):=by refine KW.bind (KW.mono (fun m hm=>?_) (oF O (N:=N) (N-n) n h1 (by omega) (hf.rev (Zd _) hN) (ha.rev O (by rw[hf.sz];exact hN))));exact⟨by omega,by omega,hm.2.2.1,hm.2.2.2.1⟩
structure Dn(lt:Nat->Nat->Bool)(p:Array Nat)(n q:Nat):Prop where
 hq:q+1<=n
 up:∀i j,i<j->j<n-(q+1)->Lx lt (gA p j) (gA p i)
 cr:∀i j,i<n-(q+1)->n-(q+1)<=j->j<n->lt (gA p j) (gA p i)=true
 eq:∀i j,n-(q+1)<=i->i<j->j<n->lt (gA p i) (gA p j)=false/\lt (gA p j) (gA p i)=false/\gA p i<gA p j
theorem Dn.rev{p:Array Nat}{n q:Nat}(h:Dn lt p n q)(hn:n<=p.size):AS lt (kas_rev p (n-(q+1)) n) n:=fun i j hij hj=>by
 have hq:=h.hq;rw[bZ hn,bZ hn];by_cases c1:n-(q+1)<=i
 ·rw[if_pos (by omega),if_pos (by omega)];obtain⟨e1,e2,e3⟩:=h.eq (n-(q+1)+n-1-j) (n-(q+1)+n-1-i) (by omega) (by omega) (by omega);exact⟨e2,.inr e3⟩
 ·rw[if_neg (show¬(n-(q+1)<=i/\i<n) by omega)];by_cases c2:n-(q+1)<=j
  ·rw[if_pos (by omega)];exact Lx.of_lt O (h.cr _ _ (by omega) (by omega) (by omega))
  ·rw[if_neg (by omega)];exact h.up _ _ hij (by omega)
theorem Dn.zero{p:Array Nat}{n:Nat}(h:Dn lt p n 0):AS lt p n:=fun i j hij hj=>by
 rcases Yd j (n-1)with c|c
 ·exact h.up i j hij c
 ·exact Lx.of_lt O (h.cr i j (by omega) (by omega) hj)
theorem Dn.start{p:Array Nat}{n:Nat}(h:AS lt p n)(h1:1<=n)(hl:lt (gA p n) (gA p (n-1))=true):Dn lt p (n+1) 0:=by
 refine⟨by omega,fun i j hij hj=>h i j hij (by omega),fun i j hi h2 h3=>?_,fun i j h2 h3 h4=>absurd h3 (by omega)⟩;have e:j=n:=by omega
 subst e;rcases Yd i (j-1)with h3|h3
 ·exact O.lt_le hl (h i (j-1) h3 (by omega)).1
 ·have e:i=j-1:=by omega
  subst e;exact hl
theorem iT:∀(f:Nat) {p:Array Nat} {n q:Nat},n+f<=N->Fx N p n->Dn lt p n q->KW lt (fun r=>n<=r.2.1/\r.2.1<=n+f/\Fx N r.1 r.2.1/\Dn lt r.1 r.2.1 r.2.2) (kas_desc f p n q)
 |0,_,n,_,_,hf,hd=>⟨Zd _,Zd _,hf,hd⟩
 |f+1,p,n,q,hN,hf,hd=>by
  have hs:n<=p.size:=by rw[hf.sz];omega
  have hq:=hd.hq;show KW lt _ (if lt (gA p n) (gA p (n-1))=true then(if q>0 then kas_desc f (kas_rev p (n-(q+1)) n) (n+1) 0 else kas_desc f p (n+1) 0)else KasT.ask (gA p (n-1)) (gA p n) fun d=>if d=true then .ret (p,n,q)else kas_desc f p (n+1) (q+1));by_cases c:lt (gA p n) (gA p (n-1))=true
  ·rw[if_pos c];have wk:∀{r:Array Nat×Nat×Nat},(n+1<=r.2.1/\r.2.1<=n+1+f/\Fx N r.1 r.2.1/\Dn lt r.1 r.2.1 r.2.2)->n<=r.2.1/\r.2.1<=n+(f+1)/\Fx N r.1 r.2.1/\Dn lt r.1 r.2.1 r.2.2:=fun h=>⟨by omega,by omega,h.2.2.1,h.2.2.2⟩
   by_cases cq:q>0
   ·rw[if_pos cq];have fr:=hf.rev (i:=n-(q+1)) (Zd n) (by omega);have e1:gA (kas_rev p (n-(q+1)) n) n=gA p n:=by rw[bZ hs,if_neg (by omega)]
    have e2:gA (kas_rev p (n-(q+1)) n) (n-1)=gA p (n-(q+1)):=by rw[bZ hs,if_pos (by omega)];congr 1;omega
    have l2:lt (gA p n) (gA p (n-(q+1)))=true:=O.lt_le c (hd.eq (n-(q+1)) (n-1) (Zd _) (by omega) (by omega)).1;refine KW.mono (fun r h=>wk h) (iT f (by omega) (fr.succ (by omega)) (Dn.start O (hd.rev O hs) (by omega) (by rw[e1,e2];exact l2)))
   ·rw[if_neg cq];have e:q=0:=by omega
    subst e;exact KW.mono (fun r h=>wk h) (iT f (by omega) (hf.succ (by omega)) (Dn.start O (hd.zero O) (by omega) c))
  ·rw[if_neg c];have c':=YS.mpr c;show KW lt _ (if lt (gA p (n-1)) (gA p n)=true then _ else _);by_cases d:lt (gA p (n-1)) (gA p n)=true
   ·rw[if_pos d];exact⟨Zd _,Nat.le_add_right _ _,hf,hd⟩
   ·rw[if_neg d];have d':=YS.mpr d;have gn:gA p n=n:=hf.hi n (Zd _) (by omega);have same:∀i,n-(q+1)<=i->i<n->lt (gA p i) (gA p n)=false/\lt (gA p n) (gA p i)=false:=fun i h1 h2=>by
     rcases Yd i (n-1)with h3|h3
     ·obtain⟨a1,a2,_⟩:=hd.eq i (n-1) h1 h3 (by omega);exact⟨O.tr d' a1,O.tr a2 c'⟩
     ·have e:i=n-1:=by omega
      subst e;exact⟨d',c'⟩
    refine KW.mono (fun r h=>⟨by omega,by omega,h.2.2.1,h.2.2.2⟩) (iT f (n:=n+1) (q:=q+1) (by omega) (hf.succ (by omega)) ⟨by omega,fun i j hij hj=>hd.up i j hij (by omega),fun i j hi h2 h3=>?_,fun i j h1 h2 h3=>?_⟩)
    ·rcases Yd j n with h4|h4
     ·exact hd.cr i j (by omega) (by omega) h4
     ·have e:j=n:=by omega
      subst e;exact O.le_lt d' (hd.cr i (j-1) (by omega) (by omega) (by omega))
    ·rcases Yd j n with h4|h4
     ·exact hd.eq i j (by omega) h2 h4
     ·have e:j=n:=by omega
      subst e;obtain⟨a1,a2⟩:=same i (by omega) h2;exact⟨a1,a2,by rw[gn];exact hf.lo _ h2⟩
theorem ji{p:Array Nat}{n:Nat}(h1:1<=n)(hN:n<N)(hf:Fx N p n)(ha:AS lt p n)(hl:lt (gA p n) (gA p (n-1))=true):KW lt (fun r=>r.1<=N/\1<=r.1/\Fx N r.2 r.1/\LS lt r.2 r.1) (kas_descPart n N p):=by
 refine KW.bind (KW.mono (fun r hr=>?_) (iT O (N:=N) (N-(n+1)) (by omega) (hf.succ hN) (Dn.start O ha h1 hl)));obtain⟨r1,r2,r3,r4⟩:=hr;show KW lt _ (if r.2.2>0 then _ else _);by_cases c:r.2.2>0
 ·rw[if_pos c];exact qr O (by omega) (by omega) (r3.rev (Zd _) (by omega)) (r4.rev O (by rw[r3.sz];omega))
 ·rw[if_neg c];have e:r.2.2=0:=by omega
  rw[e]at r4;exact qr O (by omega) (by omega) r3 (r4.zero O)
theorem vH{p:Array Nat}(hN:1<=N)(hf:Fx N p 1):KW lt (fun r=>r.1<=N/\1<=r.1/\Fx N r.2 r.1/\LS lt r.2 r.1) (kas_count N p):=by
 refine KW.bind (KW.mono (fun n hn=>?_) (oF O (N:=N) (N-1) 1 (Zd _) (by omega) hf (fun i j h1 h2=>absurd h1 (by omega))));obtain⟨n1,n2,nf,ns,nl⟩:=hn;show KW lt _ (if(n==N)=true then KasT.ret (n,p)else if n>1 then KasT.ask (gA p 0) (gA p (n-1)) (fun c=>if c=true then .ret (n,p)else kas_descPart n N (kas_rev p 0 n))else kas_descPart n N p);by_cases c:(n==N)=true
 ·rw[if_pos c];exact⟨by omega,n1,nf,ns⟩
 ·rw[if_neg c];have nN:n<N:=by have:n≠N:=fun z=>c (ZP.mpr z);omega
  have hl:=nl (by omega);by_cases c2:n>1
  ·rw[if_pos c2];show KW lt _ (if lt (gA p 0) (gA p (n-1))=true then _ else _);by_cases c3:lt (gA p 0) (gA p (n-1))=true
   ·rw[if_pos c3];exact⟨by omega,n1,nf,ns⟩
   ·rw[if_neg c3];have c3':=YS.mpr c3;have hs:n<=p.size:=by rw[nf.sz];omega
    have le0:∀i,i<n->lt (gA p i) (gA p 0)=false:=fun i hi=>by
     rcases Nat.eq_zero_or_pos i with z|z
     ·subst z;cases e:lt (gA p 0) (gA p 0)with
      |false=>rfl
      |true=>rw[O.as e]at e;cases e
     ·exact(ns 0 i z hi).1
    have leN:∀i,i<n->lt (gA p (n-1)) (gA p i)=false:=fun i hi=>by
     rcases Yd i (n-1)with z|z
     ·exact(ns i (n-1) z (by omega)).1
     ·have e:i=n-1:=by omega
      subst e;cases e:lt (gA p (n-1)) (gA p (n-1))with
      |false=>rfl
      |true=>rw[O.as e]at e;cases e
    have all:∀i j,i<n->j<n->lt (gA p i) (gA p j)=false:=fun i j hi hj=>O.tr (leN j hj) (O.tr c3' (le0 i hi));refine ji O n1 nN (nf.rev (Zd _) (by omega)) (fun i j hij hj=>?_) ?_
    ·rw[bZ hs,bZ hs,if_pos (by omega),if_pos (by omega)];have z:=ns (0+n-1-j) (0+n-1-i) (by omega) (by omega);refine⟨all _ _ (by omega) (by omega),?_⟩;rcases z.2 with y|y
     ·rw[all _ _ (by omega) (by omega)]at y;cases y
     ·exact .inr y
    ·rw[bZ hs,bZ hs,if_neg (by omega),if_pos (by omega)];exact O.lt_le hl (all _ _ (by omega) (by omega))
  ·rw[if_neg c2];have e:n=1:=by omega
   subst e;exact ji O n1 nN nf (fun i j h1 h2=>absurd h1 (by omega)) hl
theorem jC{p:Array Nat}{k:Nat}(hs:LS lt p k):∀(f l r:Nat),r-l<=f->r<=k->(∀i,i<l->i<k->lt (gA p k) (gA p i)=false)->(∀i,r<=i->i<k->lt (gA p k) (gA p i)=true)->l<=r ->
  KW lt (fun m=>m<=k/\(∀i,i<m->lt (gA p k) (gA p i)=false)/\∀i,m<=i->i<k->lt (gA p k) (gA p i)=true) (kas_place p k f l r)
 |0,l,r,h1,h2,h3,h4,h5=>⟨by omega,fun i hi=>h3 i hi (by omega),fun i hi=>h4 i (by omega)⟩
 |f+1,l,r,h1,h2,h3,h4,h5=>by
  show KW lt _ (if l>=r then KasT.ret l else KasT.ask (gA p k) (gA p ((l+r) / 2)) fun c=>if c=true then kas_place p k f l ((l+r) / 2)else kas_place p k f ((l+r) / 2+1) r);by_cases c:l>=r
  ·rw[if_pos c];exact⟨by omega,fun i hi=>h3 i hi (by omega),fun i hi=>h4 i (by omega)⟩
  ·rw[if_neg c];show KW lt _ (if lt (gA p k) (gA p ((l+r) / 2))=true then _ else _);by_cases d:lt (gA p k) (gA p ((l+r) / 2))=true
   ·rw[if_pos d];refine jC hs f l ((l+r) / 2) (by omega) (by omega) h3 (fun i hi hk=>?_) (by omega);rcases Nat.eq_or_lt_of_le hi with e|e
    ·rw[<-e];exact d
    ·exact O.lt_le d (hs _ _ e hk).1
   ·rw[if_neg d];have d':=YS.mpr d;refine jC hs f ((l+r) / 2+1) r (by omega) h2 (fun i hi hk=>?_) h4 (by omega);rcases Yd i ((l+r) / 2)with e|e
    ·exact O.tr (hs _ _ e (by omega)).1 d'
    ·have e:i=(l+r) / 2:=by omega
     rw[e];exact d'
end
open PySem PySem.Spec PyProof.Rows PySem.W
open PySem PySem.Spec PyProof.Rows PySem.W
section
variable{X:Cx}{pins:List (Addr×Obj)}{σ:St}{H:Hp}{s:Shared}{h':Heap}
theorem Inv.movedF{ch:List Addr}{t':Nat}(I:Inv X pins σ H s)(hch:∀b∈ch,aX X pins H b)(k:∀b u,b≠X.env.locals->b∉ch->s.heap.get? b=some u->h'.get? b=some u)(hn:∃m,s.heap.Ns X.env.locals m/\h'.Ns X.env.locals m):Inv X pins σ H { s with heap:=h',toks:=t' }:=by
 have neL:∀{b:Addr} {u:HO},H b=some u->b≠X.env.locals:=fun{b u} e=>ai e I.free;have neC:∀{b:Addr} {u:HO},H b=some u->b∉ch:=fun{b u} e z=>by have:=(hch b z).1;rw[e]at this;cases this
 refine I.step (g':=s.gens) (d':=s.drawn) (ch:=ch) (fun b hb=>⟨(hch b hb).2.2.2.1,(hch b hb).2.1,(hch b hb).2.2.2.2.1,(hch b hb).2.2.2.2.2⟩) (fun b o hL _ hc e _=>k b o hL hc e) (fun b o hL _ hc e _=>⟨o.slots,k b o hL hc e⟩) (fun b o _ e n=>n) (fun b o hc e=>?_)
  (fun b xs e=>e) (fun b o u e=>e) (fun b ps e=>⟨#[],by rw[e];simp⟩) (fun m' hm'=>?_) (fun b u e=>?_) I.bare
 ·by_cases hL:b=X.env.locals
  ·obtain⟨m,_,o',_,_,e',_⟩:=hn;exact⟨o',by rw[hL];exact e'⟩
  ·exact⟨o,k b o hL hc e⟩
 ·obtain⟨m,h1,h2⟩:=hn;rw[hm'.eq_nsMap,<-h1.eq_nsMap];exact h2
 ·refine(I.hok b u e).stay (fun c v hc q=>k c v ?_ ?_ q) (fun c q=>q) fun c ys q=>q
  ·rcases hc with z|z
   ·rw[z];exact neL e
   ·exact neL z
  ·rcases hc with z|z
   ·rw[z];exact neC e
   ·exact neC z
theorem Inv.tookF{ch:List Addr}{a:Addr}{o:HO}{t':Nat}(I:Inv X pins σ H s)(ha:a∈ch)(hch:∀b∈ch,aX X pins H b)(k:∀b u,b≠X.env.locals->b∉ch->s.heap.get? b=some u->h'.get? b=some u)(hn:∃m,s.heap.Ns X.env.locals m/\h'.Ns X.env.locals m)(new:ObjOk X.prog X.w (upd H a o) h' a o):Inv X pins σ (upd H a o) { s with heap:=h',toks:=t' }:=by
 have fr:=(hch a ha).1;have ne:∀{b:Addr} {u:HO},H b=some u->b≠a:=fun{b u} e=>ai e fr;have neL:∀{b:Addr} {u:HO},H b=some u->b≠X.env.locals:=fun{b u} e=>ai e I.free;have neC:∀{b:Addr} {u:HO},H b=some u->b∉ch:=fun{b u} e z=>by have:=(hch b z).1;rw[e]at this;cases this
 refine I.step (g':=s.gens) (d':=s.drawn) (ch:=ch) (fun b hb=>⟨(hch b hb).2.2.2.1,(hch b hb).2.1,(hch b hb).2.2.2.2.1,(hch b hb).2.2.2.2.2⟩) (fun b o hL _ hc e _=>k b o hL hc e) (fun b o hL _ hc e _=>⟨o.slots,k b o hL hc e⟩) (fun b o hc e n=>by rw[af (fun z:b=a=>hc (by rw[z];exact ha))];exact n) (fun b o hc e=>?_)
  (fun b xs e=>by rw[af (ne e)];exact e) (fun b o u e=>by rw[af (ne e)];exact e) (fun b ps e=>⟨#[],by rw[af (ne e),e];simp⟩) (fun m' hm'=>?_) (fun b u e=>?_) I.bare
 ·by_cases hL:b=X.env.locals
  ·obtain⟨m,_,o',_,_,e',_⟩:=hn;exact⟨o',by rw[hL];exact e'⟩
  ·exact⟨o,k b o hL hc e⟩
 ·obtain⟨m,h1,h2⟩:=hn;rw[hm'.eq_nsMap,<-h1.eq_nsMap];exact h2
 ·by_cases hb:b=a
  ·subst hb;rw[ad]at e;cases e;exact new
  ·rw[af hb]at e;refine(I.hok b u e).stay (fun c v hc q=>k c v ?_ ?_ q) (fun c q=>by rw[af (ne q)];exact q) fun c ys q=>by rw[af (ne q)];exact q
   ·rcases hc with z|z
    ·rw[z];exact neL e
    ·exact neL z
   ·rcases hc with z|z
    ·rw[z];exact neC e
    ·exact neC z
def eM(base h:Heap)(L kS:Addr):List (Addr×Obj):=(oV base h L).filter fun p=>decide (p.1≠kS)
theorem fh{base h:Heap}{L kS:Addr}{o:Obj}(e:h.get? kS=some o)(hL:kS≠L)(hb:base.get? kS=none):News base L h ((kS,o)::eM base h L kS):=fun p hp=>by
 rcases Zq.mp hp with rfl|hp
 ·exact⟨e,hL,hb⟩
 ·exact jp base h L p (Yi.mp hp).1
theorem hV{base h:Heap}{L kS:Addr}:∀p∈eM base h L kS,p.1≠kS:=fun p hp=>Ya (Yi.mp hp).2
theorem fg{base h h2:Heap}{L kS:Addr}{o':Obj}{m:Str->Option Value}(hbk:∀b o,base.get? b=some o->h.get? b=some o)(F:Fr base L h2 m)(N:News base L h2 ((kS,o')::eM base h L kS)):∀b u,b≠L->b∉[kS]->h.get? b=some u->h2.get? b=some u:=fun b u hL hk e=>by
 cases q:base.get? b with
 |none=>exact(N (b,u) (.tail _ (Yi.mpr ⟨eG e hL q,decide_eq_true (fun z=>hk (Zw.mpr z))⟩))).1
 |some o =>have e':=hbk b o q;rw[e]at e';cases e';exact F.keep b u q
structure SK(X:Cx)(pins:List (Addr×Obj))(σ:St)(H1:Hp)(m:Str->Option Value)(kS D:Addr)(e1:Nat)(ks:List (List Int))(as:List Addr)(e:Nat)(H:Hp)(s:Shared):Prop where
 I:Inv X pins σ H s
 sm:Same H1 H
 fk:aX X pins H kS
 fd:aX X pins H D
 bk:X.base.get? kS=none
 bd:X.base.get? D=none
 hk:s.heap.get? kS=some (seqObj "list" (List.toArray (as.map Value.ref)) e)
 hd:s.heap.get? D=some (seqObj "list" #[] e1)
 ns:s.heap.Ns X.env.locals m
 keys:∀(i:Nat) (a:Addr) (k:List Int),as[i]?=some a->ks[i]?=some k->H a=some (.tup (k.map V.int))
end
open PySem PySem.Spec PyProof.Rows PySem.W
theorem oG:∀{a b:List Int},HT.lexLt a b=true->HT.lexLt b a=false
 | [],[],h=>by cases h
 | [],_::_,_=>rfl
 |_::_,[],h=>by cases h
 |x::a,y::b,h=>by
  rw[HT.lexLt_cons]at h ⊢;by_cases e:x=y
  ·subst e;rw[if_pos rfl]at h ⊢;exact oG h
  ·rw[if_neg e]at h;rw[if_neg (fun z=>e z.symm)];have:=Ya h;exact decide_eq_false (by omega)
theorem tS:∀{a b c:List Int},HT.lexLt b a=false->HT.lexLt c b=false->HT.lexLt c a=false
 | [],[],[],_,_=>rfl
 | [],[],_::_,_,_=>rfl
 | [],_::_,[],_,h=>by cases h
 | [],_::_,_::_,_,_=>rfl
 |_::_,[],_,h,_=>by cases h
 |_::_,_::_,[],_,h=>by cases h
 |x::a,y::b,z::c,h,k=>by
  rw[HT.lexLt_cons]at h k ⊢;by_cases e:y=x
  ·subst e;rw[if_pos rfl]at h;by_cases e2:z=y
   ·rw[if_pos e2]at k ⊢;exact tS h k
   ·rw[if_neg e2]at k ⊢;exact k
  ·rw[if_neg e]at h;have h':=of_decide_eq_false h;by_cases e2:z=y
   ·rw[if_neg (by omega)];exact decide_eq_false (by omega)
   ·rw[if_neg e2]at k;have k':=of_decide_eq_false k;rw[if_neg (by omega)];exact decide_eq_false (by omega)
theorem Am(ks:List (List Int)):LtOk (fun i j=>HT.lexLt (ks.getD i []) (ks.getD j [])):=⟨oG,tS⟩
section
variable{X:Cx}{pins:List (Addr×Obj)}{σ:St}{H:Hp}{s:Shared}
def wX(X:Cx)(l:List Addr):Cx:={ X with ex:=l++X.ex }
structure ExOk(X:Cx)(b:Addr):Prop where
 old:b∈X.ex\/X.s₀.heap.get? b=none
 loc:b≠X.env.locals
 cel:∀x c,X.env.cells.lookup x=some c->c≠b
 bas:X.base.get? b=none
 fs:b∉X.fs
theorem Inv.widen{l:List Addr}(I:Inv X pins σ H s)(hl:∀b∈l,ExOk X b):Inv (wX X l) pins σ H s:=by
 have ok:(wX X l).Ok:=by
  have o:=I.ok;refine⟨o.mod,o.kind,o.glob,o.blt,o.above,o.inj,o.has,o.cab,o.hd,o.frames,o.stk,fun b hb=>?_,o.bs,o.bsz,fun b ob hb z=>?_,fun b hb=>?_,o.funs,o.frf⟩
  ·rcases ZG.mp hb with h|h
   ·exact⟨(hl b h).loc,(hl b h).cel⟩
   ·exact o.exf b h
  ·rcases ZG.mp z with h|h
   ·have hb':X.base.get? b=some ob:=hb;rw[(hl b h).bas]at hb';cases hb'
   ·exact o.noex b ob hb h
  ·rcases ZG.mp hb with h|h
   ·exact(hl b h).fs
   ·exact o.exfs b h
 have ne:∀{b:Addr},b∉l++X.ex->b∉X.ex:=fun h z=>h (ZJ _ z);have u:=I.base;exact⟨ok,I.os,I.bare,⟨fun b o e n hb hx=>u.keep b o e n hb (ne hx),fun b o e n hb hx=>u.slot b o e n hb (ne hx),fun b o e n hx=>u.free b o e n (ne hx),fun b o e hx=>u.there b o e (ne hx),u.tups,u.frzs,u.tbls⟩,I.loc,I.cell,I.free,I.freeC,I.pin,I.hok,I.len⟩
theorem Inv.narrow{l:List Addr}(I:Inv (wX X l) pins σ H s)(ok:X.Ok)(hl:∀b∈l,b∈X.ex\/X.s₀.heap.get? b=none):Inv X pins σ H s:=by
 have ne:∀{b:Addr} {o:Obj},X.s₀.heap.get? b=some o->b∉X.ex->b∉l++X.ex:=fun{b o} e h z=>by
  rcases ZG.mp z with z|z
  ·rcases hl b z with y|y
   ·exact h y
   ·rw[y]at e;cases e
  ·exact h z
 have u:=I.base;exact⟨ok,I.os,I.bare,⟨fun b o e n hb hx=>u.keep b o e n hb (ne e hx),fun b o e n hb hx=>u.slot b o e n hb (ne e hx),fun b o e n hx=>u.free b o e n (ne e hx),fun b o e hx=>u.there b o e (ne e hx),u.tups,u.frzs,u.tbls⟩,I.loc,I.cell,I.free,I.freeC,I.pin,I.hok,I.len⟩
theorem Inv.exOk(I:Inv X pins σ H s){b:Addr}(hb:s.heap.get? b=none)(hL:b≠X.env.locals)(h0:X.base.get? b=none):ExOk X b:=by
 have old:b∈X.ex\/X.s₀.heap.get? b=none:=by
  by_cases hx:b∈X.ex
  ·exact .inl hx
  ·cases e:X.s₀.heap.get? b with
   |none=>exact .inr rfl
   |some o =>obtain⟨o',e'⟩:=I.base.there b o e hx;rw[hb]at e';cases e'
 refine⟨old,hL,fun x c e z=>?_,h0,fun z=>?_⟩
 ·obtain⟨v,o,ho,_⟩:=I.cell x c e;rw[z,hb]at ho;cases ho
 ·obtain⟨_,o,ho,_⟩:=I.ok.funs.mem z;rcases old with y|y
  ·exact I.ok.exfs b y z
  ·rw[y]at ho;cases ho
theorem Inv.fpW{l:List Addr}(I:Inv X pins σ H s){b:Addr}(hm:b∈l)(x:ExOk X b)(hb:s.heap.get? b=none):aX (wX X l) pins H b:=by refine⟨none_of I hb,x.loc,x.fs,.inl (List.mem_append_left _ hm),x.cel,fun p hp z=>?_⟩;have:=(I.pin p hp).1;rw[z,hb]at this;cases this
end
open PySem PySem.Spec PyProof.Rows PySem.W
section
variable{X:Cx}{o i value:Expr}{pos pos':Pos}{td ty tv:TE}
theorem sq:QE X (.Dict [] [] pos) uQ:=⟨vX⟩
theorem di(hu:X.A.units+64<cLine)(ho:QE X o td)(hi:QE X i ty)(hs:vm i:=by intro _ _;rfl):QE X (.Subscript o i pos) (xC td ty):=⟨yE (by omega) ho.h hi.h hs⟩
theorem sG(hu:X.A.units+64<cLine)(hi:QE X i ty)(ho:QE X o td)(hm:behindInMarks .In o=false:=by with_unfolding_all rfl):QT X (.Compare i [.In] [o] pos) (tB (BK ty td)):=⟨uB (AR (by omega) hi.h ho.h) hm⟩
theorem ic(hu:X.A.units+64<cLine)(hi:QE X i ty)(ho:QE X o td)(hm:behindInMarks .NotIn o=false:=by with_unfolding_all rfl):QT X (.Compare i [.NotIn] [o] pos) (tB (qU ty td)):=⟨uB (uw (by omega) hi.h ho.h) hm⟩
theorem uI(hu:X.A.units+64<cLine)(ho:QE X o td)(hi:QE X i ty)(hv:QE X value tv)(hs:swapsWith value (some (.Subscript o i pos')) pos.line X.env=pure false:=by rfl):QS X (.Assign [.Subscript o i pos'] value pos) (xw td ty tv):=⟨yM (by omega) ho.h hi.h hv.h hs⟩
end
open PySem PySem.Spec PyProof.Rows PySem.W
open PySem PySem.Spec PyProof.Rows PySem.W
def Itv(K:PySem.W.Frag)(a:Addr)(xs:List V):It:=⟨fun i H=>i<xs.length/\SqL K H a xs,fun i H x H'=>H'=H/\xs.reverse[i]?=some x,fun i H=>i=xs.length/\SqL K H a xs⟩
theorem wM{P:Program}{w:World}{K:PySem.W.Frag}{tg:Expr}{xs:List V}(a it:Addr):Turn P w K tg (Itv K a xs) [it] it (fun i h=>h.IsRevIter it a ((xs.length:Int)-1-(i:Nat))) where
 mem:=Zw.mpr rfl
 obj:=fun i h st b hb=>by obtain rfl:b=it:=Zw.mp hb;obtain⟨o,e,c,d⟩:=st;exact⟨o,e,fun v z=>by rw[d]at z;cases z⟩
 keep:=fun i h h' st k=>st.at fun o e=>k it (Zw.mpr rfl) o e
 item:=by
  intro X hP hw hK hc i pins s σ H E I hf st hg;subst hP hw hK;obtain⟨hi,hq⟩:=hg;obtain⟨its,rv,p,hz⟩:=I.list hq;have hl:=rv.length;have hx:xs[xs.length-1-i]?=some xs[xs.length-1-i]:=Zb (by omega);obtain⟨u,hu,ru⟩:=rv.get hx;obtain⟨f0,f1,f2,f3,f4,f5⟩:=hf it (Zw.mpr rfl);have st1:s.heap.IsRevIter it a ((xs.length-1-i:Nat):Int):=by rw[show((xs.length-1-i:Nat):Int)=(xs.length:Int)-1-(i:Nat) by omega];exact st
  refine wpAny_pyNext_rev_item st1 p.isList (x:=u) (by simpa using hu) fun h' st' sb=>?_;have I1:Inv X pins σ H { s with heap:=h' }:=I.turned (t':=s.toks) (fun b o hb e=>(sb.2 b hb).trans e) f0 f1 f3 f4 f5;obtain⟨o,e,c,d⟩:=id st';rw[show((xs.length-1-i:Nat):Int)-1=(xs.length:Int)-1-((i+1:Nat):Int) by omega]at st';exact⟨u,rfl,rB (s:={ s with heap:=h' }) e c d (by decide) ⟨_,H,I1,ru,⟨rfl,by rw[List.getElem?_reverse hi];exact hx⟩,st',fun b hb=>(hf b hb).1⟩⟩
 done:=by intro X hP hw hK hc i pins s σ H E I hf st hg;subst hP hw hK;obtain⟨rfl,hq⟩:=hg;obtain⟨f0,f1,f2,f3,f4,f5⟩:=hf it (Zw.mpr rfl);rw[show(xs.length:Int)-1-((xs.length:Nat):Int)=-1 by omega]at st;exact wpAny_pyNext_rev_end (I.ok.hd hc) st fun h' eb=>⟨rfl,I.turned (t':=s.toks) (fun b o hb e=>eb b o hb e) f0 f1 f3 f4 f5⟩
 self:=fun _ _ _ _ _ st h=>wpAny_pyIter_revIter st h
def zZ(K:PySem.W.Frag)(ta:TA):TI:=fun σ H R=>ta σ H fun vs H1=>∃a xs,vs=[.ref a]/\SqL K H1 a xs/\R (Itv K a xs) H1
section
variable{X:Cx}
theorem vt:bootBuiltins "reversed" = some (.type "reversed"):=by decide +kernel
theorem A6{tg e1:Expr}{ta:TA}{p pos:Pos}(hg:Gl X "reversed")(hm:X.mg "reversed" = none)(ha:PA X [e1] ta)(n1:aF e1=true):PI X tg (.Call (.Name "reversed" p) [e1] [] pos) (zZ X.K ta):=by
 intro pins s σ H R I h;refine Call_ (fb I hg hm vt (YN (thn (ha pos pins s σ H _ I h) fun us s1 hz9=>?_) (aG n1) (aY (by simp))));obtain⟨vs,H1,I1,r1,q1⟩:=hz9;obtain⟨a,xs,e,hx,q⟩:=q1;subst e;obtain⟨ua,rfl,ra⟩:=eI r1;cases ra;obtain⟨its,rv,pl,hz⟩:=I1.list hx;have hl:=rv.length;refine call_reversed_list pl.isList (wpAny_pyIter_revIter ⟨_,Zn _ rfl,rfl,rfl⟩ ?_);refine⟨s1.heap.objs.size,[s1.heap.objs.size],_,_,H1,rfl,I1.kept (t':=s1.toks) fun b o e=>Za _ e,wM (xs:=xs) a _,⟨_,Zn _ rfl,rfl,?_⟩,fun b hb=>?_,q⟩
 ·show Data.fields #[.ref a,rawInt ((its.toArray.size:Int)-1)]=_;rw[Zj,<-hl];simp
 ·obtain rfl:=Zw.mp hb;exact I1.fpOk (Zd _) (I1.hok.fresh (Zd _))
theorem xg{tg e1:Expr}{ta:TA}{p pos:Pos}(hm:X.mg "reversed" = none)(ha:QA X [e1] ta)(hg:Gl X "reversed":=by rfl)(n1:aF e1=true:=by rfl):QI X tg (.Call (.Name "reversed" p) [e1] [] pos) (zZ X.K ta):=⟨A6 hg hm ha.h n1⟩
end
open PySem PySem.Spec PyProof.Rows PySem.W
open Classical in
noncomputable def eU(h:Heap)(dx:PyData)(u:Value):Bool:=decide (∃d as,Reads h u d as/\PyData.canLay0 d=true/\PyData.eqv d dx=true)
open Classical in
theorem iM{h:Heap}{dx d:PyData}{u:Value}{as:List Addr}(r:Reads h u d as)(hl:d.canLay0=true):eU h dx u=PyData.eqv d dx:=by
 unfold eU;cases e:PyData.eqv d dx with
 |true=>exact decide_eq_true ⟨d,as,r,hl,e⟩
 |false =>refine decide_eq_false ?_;rintro⟨d',as',r',l',e'⟩;rw[SeqAt.Reads.unique d d' u as as' hl r r',e']at e;cases e
section
variable{P:Program}{w:World}{H:Hp}{h:Heap}
theorem gE(ok:HOk P w H h):∀{ds:List PyData} {xs:List V} {us:List Value},DtAll H ds xs->Vals xs us->PyData.canLayAll0 ds=true->∀dx:PyData,us.any (eU h dx)=ds.any (fun d=>PyData.eqv d dx)/\us.countP (eU h dx)=ds.countP (fun d=>PyData.eqv d dx)/\∀u∈us,∃d as,d∈ds/\Reads h u d as/\d.canLay0=true
 | [],xs,us,hd,r,_,dx=>by
  have e:xs=[]:=by simpa only[DtAll]using hd
  subst e;cases r;exact⟨rfl,rfl,fun u hu=>nomatch hu⟩
 |d::ds,xs,us,hd,r,hl,dx=>by
  have e:∃y ys,xs=y::ys/\Dt H d y/\DtAll H ds ys:=by simpa only[DtAll]using hd
  obtain⟨y,ys,rfl,h1,h2⟩:=e;cases r with
  |cons r1 r2 =>
   have hl':d.canLay0=true/\PyData.canLayAll0 ds=true:=by simpa[PyData.canLayAll0]using hl
   obtain⟨as,q1⟩:=Dt.reads ok d y _ h1 r1;obtain⟨i1,i2,i3⟩:=gE ok h2 r2 hl'.2 dx;refine⟨by rw[List.any_cons,List.any_cons,iM q1 hl'.1,i1],by rw[List.countP_cons,List.countP_cons,iM q1 hl'.1,i2],fun u hu=>?_⟩;rcases Zq.mp hu with rfl|hu
   ·exact⟨d,as,by simp,q1,hl'.1⟩
   ·obtain⟨d',as',m,z⟩:=i3 u hu;exact⟨d',as',by simp[m],z⟩
end
section
variable{X:Cx}
def Bq(K:PySem.W.Frag)(neg:Bool):R2:=fun x y H Q=>∃(p:Addr) (xs:List V) (dx:PyData) (ds:List PyData),y=.ref p/\SqL K H p xs/\Dt H dx x/\DtAll H ds xs/\SeqAt.shaped dx=true/\PyData.canLayAll0 ds=true/\Q (.bl (if neg then !(ds.any fun d=>PyData.eqv d dx)else ds.any fun d=>PyData.eqv d dx)) H
theorem mw{pins:List (Addr×Obj)}{σ:St}{H:Hp}{s:Shared}{A:Around}{dx:PyData}{x:V}{v:Value}{ds:List PyData}{xs:List V}{us:List Value}(I:Inv X pins σ H s)(hu:A.units+64<cLine)(h1:Dt H dx x)(rx:RelV x v)(h2:DtAll H ds xs)(r:Vals xs us)(s1:SeqAt.shaped dx=true)(s2:PyData.canLayAll0 ds=true):∀u∈us,SeqAt.EqAt A s u v (eU s.heap dx u):=fun u hu'=>by obtain⟨_,_,z⟩:=gE I.hok h2 r s2 dx;obtain⟨d,as,_,q1,q2⟩:=z u hu';obtain⟨bs,q3⟩:=Dt.reads I.hok dx x v h1 rx;rw[iM q1 q2];refine SeqAt.eqAt_reads d dx A s u v as bs q1 q3 q2 (Yq s1) ?_;have d1:=SeqAt.depth_of_shaped s1;have d2:min d.depth dx.depth<=dx.depth:=Nat.min_le_right _ _;omega
theorem AG(hu:X.A.in1.units+64<cLine):OpR X (compareOp .In) (Bq X.K false):=by intro pins s σ H x y v u Q I rx ry h;obtain⟨p,xs,dx,ds,rfl,hq,h1,h2,s1,s2,q⟩:=h;cases ry;obtain⟨its,r,pl,hz⟩:=I.list hq;refine SeqAt.in_listAt (eU s.heap dx) pl.isList (fun w hw=>mw I hu h1 rx h2 r s1 s2 w (by simpa using hw)) ⟨.bl _,H,I,rfl,?_⟩;rw[show its.toArray.any (eU s.heap dx)=its.any (eU s.heap dx) by simp,(gE I.hok h2 r s2 dx).1];exact q
theorem Cq{k:Nat}(hr:Room k X.A):QOp X (compareOp .In) (Bq X.K false):=⟨AG (by have:=hr.un;show X.A.units+_+64<_;omega)⟩
end
open PySem PySem.Spec PyProof.Rows PySem.W
section
variable{X:Cx}
structure QPs(X:Cx)(pos:Pos)(keys:List (Option Expr))(values:List Expr)(trs:List (TE×TE)):Prop where
 h:PPs X pos keys values trs
end
open PySem PySem.Spec PyProof.Rows PySem.W
open PySem PySem.Spec PyProof.Rows PySem.W
structure MFn(P:Program)(w:World)(K:PySem.W.Frag)(mg:Str->Option Value)(base:Heap)(k:Nat)(C:Addr)(m:Str)(ps:List Str)(sp:Sp):Prop where
 cl:Cls K C
 ex:∃f fd,FnOk P w K mg base CX0 k f fd ps sp/\Meth K C m f/\Binds K fd ps []
structure MkFn(P:Program)(w:World)(K:PySem.W.Frag)(mg:Str->Option Value)(base:Heap)(k:Nat)(C:Addr)(x:Str)(ps:List Str)(sp:Sp):Prop where
 cl:Cls K C
 mgC:mg x=some (.ref C)
 ex:∃f fd,FnOk P w K mg base CX0 k f fd ps sp/\Mk K C f/\Binds K fd ps []
section
variable{X:Cx}{k:Nat}{C:Addr}{m x f:Str}{p pos pos' apos:Pos}{o e value:Expr}{es:List Expr}{ps:List Str}{sp:Sp}{t:TA}{ta tv:TE}
theorem cH(he:QE X e ta)(hb:attributeBase e f X.env (eval e X.env)=eval e X.env:=by rfl):QE X (.Attribute e f pos) (wJ X.K ta f):=⟨AV he.h hb⟩
theorem xy(ha:QE X o ta)(hv:QE X value tv)(hs:swapsWith value (some (.Attribute o f pos')) pos.line X.env=pure false:=by rfl):QS X (.Assign [.Attribute o f pos'] value pos) (Bz X.K ta tv f):=⟨Bb ha.h hv.h hs⟩
theorem iB{pl:Sem Bool}(F:MFn X.prog X.w X.K X.mg X.base k C m ps sp)(hr:Room k X.A)(he:QE X o ta)(ha:QA X (e::es) t)(hs:(e::es).all aF=true:=by rfl)(ht:eval (.Call (.Attribute o m apos) (e::es) [] pos) X.env=(do
   let ov ←eval o X.env
   standAt apos.atName
   let(f,first) ←holding [ov] (getMethod ov m pl)
   callWith pos f first (backTo pos (starEach (e::es) X.env)) (backToKw pos (keywordEach [] X.env))):=by rfl) :
  QE X (.Call (.Attribute o m apos) (e::es) [] pos) (kY C m sp [] E0 ta t):=by
 obtain⟨f,fd,G,hm,b⟩:=F.ex;rw[YC,Zz]at hs;exact⟨qA (pl:=pl) he.h F.cl hm G hr b .nil fH ha.h (aG hs.1) (aY hs.2) ht⟩
theorem fY{pl:Sem Bool}(F:MFn X.prog X.w X.K X.mg X.base k C m ps sp)(hr:Room k X.A)(he:QE X o ta)(ht:eval (.Call (.Attribute o m apos) [] [] pos) X.env=(do
   let ov ←eval o X.env
   standAt apos.atName
   let(f,first) ←holding [ov] (getMethod ov m pl)
   callWith pos f first (backTo pos (starEach [] X.env)) (backToKw pos (keywordEach [] X.env))):=by rfl) :
  QE X (.Call (.Attribute o m apos) [] [] pos) (kY C m sp [] E0 ta fz):=by
 obtain⟨f,fd,G,hm,b⟩:=F.ex;exact⟨vZ (pl:=pl) he.h F.cl hm G hr b .nil fH ht⟩
theorem qC(F:MkFn X.prog X.w X.K X.mg X.base k C x ps sp)(hr:Room (k+1) X.A)(hg:Gl X x:=by rfl)(hdb:(x==("__debug__":Str))=false:=by decide):QE X (.Call (.Name x p) [] [] pos) (xE C sp [] E0 fz):=by obtain⟨f,fd,G,hm,b⟩:=F.ex;exact⟨vY hm G hr hg F.mgC b .nil fH hdb⟩
end
def DRaw(h:Heap)(d:Addr)(es:Array DictEntry)(ep:Nat):Prop:=∃o,h.get? d=some o/\o.ExactDict/\o.data=.dict es ep
theorem DRaw.type{s:Shared}{d:Addr}{es:Array DictEntry}{ep:Nat}(x:DRaw s.heap d es ep):s.TypeIs (.ref d) "dict":=let⟨o,ho,hc,_⟩:=x;⟨o,ho,hc.1⟩
theorem DRaw.at'{h h':Heap}{d:Addr}{es:Array DictEntry}{ep:Nat}(x:DRaw h d es ep)(e:∀o,h.get? d=some o->h'.get? d=some o):DRaw h' d es ep:=let⟨o,ho,r⟩:=x;⟨o,e o ho,r⟩
theorem DRaw.lt{h:Heap}{d:Addr}{es:Array DictEntry}{ep:Nat}(x:DRaw h d es ep):d<h.objs.size:=let⟨_,ho,_⟩:=x;Zl ho
section
variable{prog:Program}{w:World}{A:Around}{E:Value->Shared->Prop}{s:Shared}{d it:Addr}{es:Array DictEntry}{ep i:Nat}
theorem wC{Q:Value->Shared->Prop}(hd:(d==sysModules)=false)(hm:DRaw s.heap d es ep)(hQ:Q (.ref s.heap.objs.size) { s with heap:=s.heap.push { cls:=.type "dict_keyiterator",data:=.fields #[.ref d,.int 0 0,.int es.size 0,.int ep 0] } }) :
  wpAny (model prog w) A (pyIter (.ref d)) Q E s:=by
 obtain⟨o,ho,hc,hdat⟩:=id hm;refine wpAny_pyIter_slot hm.type PySem.F.slot_dict_iter (Z5 PySem.F.slot_dict_iter hm.type PySem.F.entry_dict_iter ?_ (PySem.F.args_dict_iter_1 _));unfold Builtin.«dict.__iter__»;refine z6 ?_;unfold Builtin.Dict.dictSlotNone;refine z6 (wpAny_notOrdered_dict hm.type ?_);show wpAny _ _ (pure (Value.ref d)) _ _ s;refine z9 ?_;show wpAny _ _ (Builtin.Dict.showsAll d >>= _) _ _ s;unfold Builtin.Dict.showsAll;rw[if_neg (by rw[hd];exact Zm)];refine z6 (z9 ?_);refine z6 (YA ho hdat ?_);refine z6 (Z3 ho hdat ?_);refine z6 (Z8 (z9 ⟨_,rfl,"dict_keyiterator",_,⟨_,Zn _ rfl,rfl⟩,Yb.lookup,?_⟩));simpa[rawInt]using hQ
theorem wB{Q:Option Value->Shared->Prop}(hit:s.heap.IsKeyIter it d i es.size ep)(hm:DRaw s.heap d es ep)(hx:i<es.size)(hQ:∀h',h'.IsKeyIter it d (i+1) es.size ep->Heap.SameBut it s.heap h'->Q (some es[i].key) { s with heap:=h' }):wpAny (model prog w) A (pyNext (.ref it)) Q E s:=by
 obtain⟨o,ho,hc,hd⟩:=id hit;obtain⟨od,hod,hcd,hdd⟩:=id hm;unfold pyNext;refine z6 (wpAny_attempt (Z1 (name:=Str.ofString "__next__") hit.typeIs Yb
  (Z5 Yb hit.typeIs PySem.F.entry_dict_keyiterator_next ?_ (PySem.F.args_dict_keyiterator_next_1 _))))
 refine z6 (z9 ?_);refine z6 ?_;refine z6 ?_
 first|refine z6 (YD hit.typeIs (z9 ?_))|refine z6 (wpAny_typeNameOf_keyiter hit.typeIs (z9 ?_))
 refine z6 (wpAny_fieldsOf ho hd ?_);have hown:Builtin.Dict_items.ownsTuple "dict_keyiterator" = false:=by decide
 simp only[hown,Bool.false_eq_true,if_false];show wpAny _ _ (if(Value.ref d==Value.none)=true then _ else _) _ _ s;rw[if_neg (show¬((Value.ref d==Value.none)=true)from Zm)];refine z6 (z9 ?_);refine z6 (YA hod hdd ?_);rw[if_neg (by simp)];refine z6 (z9 ?_);refine z6 (Z3 hod hdd ?_);rw[if_neg (by simp)];refine z9 ?_;simp only[show¬((i:Int)<0)from by omega,if_false,Int.toNat_natCast,Yj hx];refine z6 ?_
 first|refine z6 (YD hit.typeIs (z9 ?_))|refine z6 (wpAny_typeNameOf_keyiter hit.typeIs (z9 ?_))
 refine z6 (wpAny_isOneOf_keyiter hit.typeIs ?_);show wpAny _ _ (setField (.ref it) 1 (rawInt ((i:Int)+1)) >>= _) _ _ s;refine z6 (YG ho hd (by simp) ?_);have hit':(s.heap.update it (Obj.mapFields (·.setIfInBounds 1 (rawInt ((i:Int)+1))))).IsKeyIter it d (i+1) es.size ep :=
  ⟨_,Yl _ ho (Obj.isFreed_of_fields (Ye hd _)),(Obj.cls_mapFields ..).trans hc,by rw[Ye hd];simp[rawInt]⟩
 refine z6 (Yc ?_);refine z6 (wpAny_isOneOf_keyiter (s:={ s with heap:=s.heap.update it (Obj.mapFields (·.setIfInBounds 1 (rawInt ((i:Int)+1)))) }) hit'.typeIs ?_);show wpAny _ _ (pure es[i].key) _ _ _;exact z9 (z9 ⟨_,rfl,z9 (hQ _ hit' (Z0 ..))⟩)
theorem yU{Q:Option Value->Shared->Prop}(hh:A.handled=none)(hit:s.heap.IsKeyIter it d es.size es.size ep)(hm:DRaw s.heap d es ep)(hQ:∀h',Heap.ExtBut it s.heap h'->Q none { s with heap:=h' }) :
  wpAny (model prog w) A (pyNext (.ref it)) Q E s:=by
 obtain⟨o,ho,hc,hd⟩:=id hit;obtain⟨od,hod,hcd,hdd⟩:=id hm;unfold pyNext;refine z6 (wpAny_attempt (Z1 (name:=Str.ofString "__next__") hit.typeIs Yb
  (Z5 Yb hit.typeIs PySem.F.entry_dict_keyiterator_next ?_ (PySem.F.args_dict_keyiterator_next_1 _))))
 refine z6 (z9 ?_);refine z6 ?_;refine z6 ?_
 first|refine z6 (YD hit.typeIs (z9 ?_))|refine z6 (wpAny_typeNameOf_keyiter hit.typeIs (z9 ?_))
 refine z6 (wpAny_fieldsOf ho hd ?_);have hown:Builtin.Dict_items.ownsTuple "dict_keyiterator" = false:=by decide
 simp only[hown,Bool.false_eq_true,if_false];show wpAny _ _ (if(Value.ref d==Value.none)=true then _ else _) _ _ s;rw[if_neg (show¬((Value.ref d==Value.none)=true)from Zm)];refine z6 (z9 ?_);refine z6 (YA hod hdd ?_);rw[if_neg (by simp)];refine z6 (z9 ?_);refine z6 (Z3 hod hdd ?_);rw[if_neg (by simp)];refine z9 ?_;simp only[show¬((es.size:Int)<0)from by omega,if_false,Int.toNat_natCast,Array.getElem?_eq_none (Zd _)];refine z6 ?_
 first|refine z6 (YD hit.typeIs (z9 ?_))|refine z6 (wpAny_typeNameOf_keyiter hit.typeIs (z9 ?_))
 show wpAny _ _ (setField (.ref it) 0 .none >>= _) _ _ s;refine z6 (YG ho hd (by simp) ?_);show wpAny _ _ (newExc (.type "StopIteration") [] >>= _) _ _ _;refine z6 ?_;simp only[newExc,newTuple];refine z6 (Z8 ?_ (by size_fits));refine z6 (m:=firstArgMember _ _) (wpAny_of_eq (a:=Value.none) (by first|rfl|(simp only[firstArgMember];rfl)) ?_);refine Z8 ?_ (by size_fits);simp only[raiseNew];refine z6 (wpAny_handled ?_);rw[show A.in1.handled=none from hh];refine z6 (z9 (wpAny_throw ?_));refine z6 (wpAny_isInstance (T:="StopIteration") (b:=true) ⟨_,Zn _ rfl,rfl⟩ isSubtype_stop ?_);exact z9 (hQ _ (((Z0 ..).extBut.push _).push _))
theorem uG(hh:A.handled=none)(I d:Addr)(hne:d≠I)(es:Array DictEntry)(ep:Nat) :
  Walks prog w A I [I,d] [I] es.size (fun i v=>∃e,es[i]?=some e/\v=e.key) (fun i h=>h.IsKeyIter I d i es.size ep/\DRaw h d es ep) where
 sub:=fun b hb=>by simp at hb;simp[hb]
 frame:=fun _ _ _ st hk=>⟨st.1.at fun o e=>hk I (by simp) o e,st.2.at' fun o e=>hk d (by simp) o e⟩
 item:=fun i s Q E hi st hQ=>wB st.1 st.2 hi fun h' hit' hs'=>hQ _ h' s.toks ⟨es[i],by simp[hi],rfl⟩ ⟨hit',st.2.at' fun o e=>hs'.extBut d o hne e⟩ fun b o hb e=>hs'.extBut b o (fun h=>hb (by simp[h])) e
 done:=fun s Q E st hQ=>yU hh st.1 st.2 fun h' he'=>hQ h' s.toks fun b o hb e=>he' b o (fun h=>hb (by simp[h])) e
 self:=fun _ _ _ _ st hQ=>wpAny_pyIter_keyiter st.1 hQ
theorem qG(lo:(d==sysModules)=false):KdlSrc prog w "dict" d d es.size (fun i v=>∃e,es[i]?=some e/\v=e.key) (fun h=>DRaw h d es ep) where
 type:=fun _ hm=>hm.type
 there:=fun _ hm=>⟨hm.lt,hm.lt⟩
 keep:=fun _ _ hm hk=>hm.at' fun o e=>hk d (.inl rfl) o e
 notList:=by decide
 notTuple:=by decide
 hint:=fun _ _ _ _ hm hq=>kdl_hint_dict hm.type hq
 iter:=fun _ _ hh hm=>⟨_,_,(fun _ _ hq=>wC lo hm hq),uG hh _ d (Zy hm.lt) es ep,⟨⟨_,Zn _ rfl,rfl,rfl⟩,hm.at' fun o e=>Za _ e⟩⟩
end
def dO(H:Hp)(kvs:List (List Key×V))(ks:List V):Prop:=Paired (fun(p:List Key×V) (v:V)=>∃b,v=V.ref b/\H b=some (.tup (p.1.map kV))) kvs ks
theorem km{H:Hp}{kvs:List (List Key×V)}{xs:List (List Key×Addr×Value)}(r:KT H kvs xs):dO H kvs (xs.map fun(x:List Key×Addr×Value)=>V.ref x.2.1):=by
 unfold dO;induction r with
 |nil=>exact .nil
 |cons h _ ih=>exact .cons ⟨_,rfl,h.2.1⟩ ih
section
variable{X:Cx}
theorem rk(hc:X.calm=true):fB X (.type "list") (fun xs H Q=>∃p kvs,xs=[.ref p]/\Rd H p (.dT kvs)/\∀l ks,H l=none->dO H kvs ks->Q (.ref l) (upd H l (.lst ks))):=by
 intro pins s σ H xs us Q I r h;obtain⟨p,kvs,rfl,hq,q⟩:=h;obtain⟨u,rfl,rx⟩:=eI r;cases rx;obtain⟨z,hd,xs,rel,o,es,ep,h1,h2,h3,h4,_,_⟩:=gF I.hok hq;have hsz:es.size=xs.length:=size_of_entries h4;have hkl:kvs.length=xs.length:=ZI rel;refine kdl_call (qG (es:=es) (ep:=ep) hd) (I.ok.hd hc) ⟨o,h1,h2,h3⟩ (by omega) fun h' tk acc' c' kp e hacc=>?_;have ev:Vals (xs.map fun(x:List Key×Addr×Value)=>V.ref x.2.1) acc'.toList:=by
  have gen:∀(vs:List Value) (ys:List (List Key×Addr×Value)),vs.length=ys.length->(∀(j:Nat) (v:Value),vs[j]?=some v->∃x:List Key×Addr×Value,ys[j]?=some x/\v=Value.ref x.2.1)->Vals (ys.map fun(x:List Key×Addr×Value)=>V.ref x.2.1) vs:=by
   intro vs;induction vs with
   |nil =>
    intro ys hl _;cases ys with
    |nil=>exact .nil
    |cons _ _=>cases hl
   |cons v vs ih =>
    intro ys hl hv;cases ys with
    |nil=>cases hl
    |cons y ys =>obtain⟨x,e1,e2⟩:=hv 0 v rfl;cases e1;exact .cons e2 (ih ys (by simpa using hl) fun j v' e'=>hv (j+1) v' (by simpa using e'))
  refine gen _ _ (by rw[Zs,hacc.1,hsz]) fun j v e'=>?_;obtain⟨en,e1,e2⟩:=hacc.2 j v (by rw[<-Yx];exact e');rw[entry_at h4]at e1;obtain⟨x,e3,e4⟩:=ZC.mp e1;refine⟨x,e3,?_⟩;rw[e2,<-e4];rfl
 refine⟨.ref s.heap.objs.size,_,I.laid (t':=tk) kp (Zd _) (show ObjOk X.prog X.w _ h' _ (.lst (xs.map fun(x:List Key×Addr×Value)=>V.ref x.2.1))from⟨by rw[Zu];omega,acc'.toList,c',ev,by simpa using e⟩),rfl,q _ _ (I.hok.fresh (Zd _)) (km rel)⟩
theorem pR(hc:X.calm=true):QCall X (.type "list") (fun xs H Q=>∃p kvs,xs=[.ref p]/\Rd H p (.dT kvs)/\∀l ks,H l=none->dO H kvs ks->Q (.ref l) (upd H l (.lst ks))):=⟨rk hc⟩
end
def CP(t:TS):TS:=fun D σ H=>∃Pv:St->Hp->Prop,t { D with nx:=Pv } σ H/\∀σ' H',Pv σ' H'->D.nx σ' H'
theorem fu{X:Cx}{st:Stmt}{t:TS}(h:QS X st t):QS X st (CP t):=⟨fun pins s σ H D I ⟨Pv,h1,h2⟩=>thn (h.h pins s σ H _ I h1) fun fl s' q=>by
 cases fl with
 |next =>obtain⟨σ',H',I',q'⟩:=q;exact⟨σ',H',I',h2 _ _ q'⟩
 | _=>exact q⟩
open PySem PySem.Spec PyProof.Rows PySem.W
open PySem PySem.Spec PyProof.Rows PySem.W
section
variable{prog:Program}{w:World}{A:Around}{E:Value->Shared->Prop}{h:Heap}{g:Array GenState}{d:Drawn}{t:Nat}{os:OsState}
variable{nm q:Str}{C N:Addr}{bs bm bmB:List Value}{hdct:Bool}{sn:List Str}{sub:List Value}{ab:Bool}{col:Option Bool}{dd:Option Addr}{k0 k1 k2 k3 k5:Option Value}{B newId initId:String}
theorem lf(F:ExcBaseFacts B newId initId bmB)(T:OwnTail h bmB bm){mN:Str->Option Value}{rest:List Value}{fI:Addr}{oI:Obj}{Q:PySem.Fin->Shared->Prop}(hC:h.get? C=some (excClassObj nm q C N bs bm hdct sn sub ab col dd k0 k1 k2 k3 k5 newId))(hn:h.Ns N mN)(hi:mN "__init__" = some (.ref fI))(hfI:h.get? fI=some oI)(hfc:oI.cls=.type "function")(hq:∀h' e,Heap.MadeExcOf h h' e (.ref C) rest->wpAny (model prog w) A (call (.ref fI) (.ref e::rest)) (fun r s'=>r=.none/\Q (.done (.ret (.ref e))) s') E ⟨h',g,d,t,os⟩)(hrest:rest.length<=sizeLine) :
  wpAny (model prog w) A (Builtin.«type.__call__» ⟨.ref C::rest,[]⟩) Q E ⟨h,g,d,t,os⟩:=by
 repeat(first|with_reducible refine YB hC ?_|with_reducible refine wpAny_madeBy_exc hC ?_|wp_step)
 refine codeAny_call_builtin_code (Code.quiet_builtin _ F.quiet) (wpAny_check_new_subT F T hC ?_);refine codeAny_exc_new_subT F T hC ?_ hrest;show wpAny _ _ _ _ _ _;have kp:∀b o,h.get? b=some o->((h.push { cls:=.type "tuple",data:=.seq rest.toArray }).push { cls:=.ref C,data:=.fields #[.ref h.objs.size,.none,.none,.none,.bool false,.none] }).get? b=some o :=
  fun b o e=>Za _ (Za _ e)
 have hn₁:((h.push { cls:=.type "tuple",data:=.seq rest.toArray }).push { cls:=.ref C,data:=.fields #[.ref h.objs.size,.none,.none,.none,.bool false,.none] }).Ns N mN:=hn.keeps kp;have hget:((h.push { cls:=.type "tuple",data:=.seq rest.toArray }).push { cls:=.ref C,data:=.fields #[.ref h.objs.size,.none,.none,.none,.bool false,.none] }).get? (h.objs.size+1) =
   some { cls:=.ref C,data:=.fields #[.ref h.objs.size,.none,.none,.none,.bool false,.none] }:=by heap_get
 have hcC:(Value.ref C::bm).contains (.ref C)=true:=by simp
 unfold isInstance
 repeat(first|with_reducible refine YB hget ?_|(with_reducible refine wpAny_isSubtype_exc (kp _ _ hC) ?_;rw[hcC])|wp_step)
 show wpAny _ _ (typeLookup (.ref C) _) _ _ _;refine wpAny_typeLookup_tail (kp _ _ hC) hn₁ (T.keeps kp) F.mroIs F.init.lookup ?_;rw[hi];refine Yc (z6 ?_);unfold bindSpecial;refine z6 (wpAny_typeOf (T:="function") ⟨_,kp _ _ hfI,hfc⟩ ?_);rw[if_pos (by decide)];refine z9 (z6 (ZH (hq _ (h.objs.size+1) ⟨kp,Heap.get?_none_of_le (Nat.le_succ _),h.objs.size,hget,Heap.get?_none_of_le (Zd _),?_⟩) (fun r s' hr=>?_) fun _ _ x=>x))
 ·exact Za _ (Heap.get?_push_at rfl rfl)
 ·obtain⟨rfl,hQ⟩:=hr
  wp_walk
  exact hQ
theorem rj(F:ExcBaseFacts B newId initId bmB)(T:OwnTail h bmB bm){mN:Str->Option Value}{rest:List Value}{fI:Addr}{oI:Obj}{Q:Value->Shared->Prop}(hC:h.get? C=some (excClassObj nm q C N bs bm hdct sn sub ab col dd k0 k1 k2 k3 k5 newId))(hn:h.Ns N mN)(hi:mN "__init__" = some (.ref fI))(hfI:h.get? fI=some oI)(hfc:oI.cls=.type "function")(hq:∀h' e,Heap.MadeExcOf h h' e (.ref C) rest->wpAny (model prog w) (A.under (.builtin "type.__call__" ⟨.ref C::rest,[]⟩)) (call (.ref fI) (.ref e::rest)) (fun r s'=>r=.none/\Q (.ref e) s') E ⟨h',g,d,t,os⟩)(hrest:rest.length<=sizeLine) :
  wpAny (model prog w) A (call (.ref C) rest) Q E ⟨h,g,d,t,os⟩:=by
 have f1:=tc_lookup;have f2:=tc_bind (.ref C);have hT:(⟨h,g,d,t,os⟩:Shared).TypeIs (.ref C) "type":=⟨_,hC,rfl⟩
 refine wpAny_call (codeAny_of_tree ?_);show wpAny _ _ (callAny (.ref C) _) _ _ _
 repeat(any_goals(first|assumption|with_reducible refine YB hC ?_|wp_step))
 refine⟨rfl,?_⟩;exact codeAny_call_builtin_at (Code.quiet_builtin _ (by decide +kernel)) entry_typeCall (wpAny_check_type_call_sub hC (lf F T hC hn hi hfI hfc (fun h' e hm=>hq h' e hm) hrest))
end
section
variable{M:Model}{A:Around}{E:Value->Shared->Prop}{env:Env}{K:PySem.W.Frag}
theorem uF{C:Addr}{bm:List Value}{s:Shared}{x:Sem Value}{Q:Flow->Shared->Prop}(hC:ExC K C bm)(hh:A.handled=none)(h:wpAny M A x (fun v s₁=>∃e oe,v=.ref e/\K.In s₁.heap/\s₁.heap.get? e=some oe/\oe.cls=.ref C/\(∃t,oe.data=.fields #[.ref t,.none,.none,.none,.bool false,.none])/\E (.ref e) s₁) E s):wpAny M A (raiseStmt env (some x) none) Q E s:=by
 have hcB:(Value.ref C::bm).contains (.type "BaseException")=true:=by rw[YO,hC.exc,Bool.or_true]
 unfold raiseStmt;refine z6 (ZH h (fun v s₁ h₁=>?_) fun _ _ x=>x);obtain⟨e,oe,rfl,hk,he,hcl,⟨vs,hd⟩,hE⟩:=h₁;obtain⟨nm,q,N,bs,hdct,sn,sub,ab,col,dd,k0,k1,k2,k3,k5,ni,oC⟩:=hC.cls _ hk;obtain⟨hp,g,d,tk,os⟩:=s₁;obtain⟨oc,od,odt,osl⟩:=oe;cases hcl;cases hd
 repeat(first|with_reducible refine YB he ?_|with_reducible refine YB oC ?_|(with_reducible refine wpAny_isSubtype_exc oC ?_;rw[hcB])|wp_step)
 exact wpAny_raiseNew_none hh hE
end
open PySem PySem.Spec PyProof.Rows PySem.W PySem.Builtin PySem.Builtin.ObjectAttr
theorem uH(self:Value):refuseLoop self "__setattr__" VE=pure ():=by kernel_rfl
def kL:List Value->Bool
 |.ref _::r=>kL r
 |l=>l==VE
theorem jo(self:Value):∀{l:List Value},kL l=true->refuseLoop self "__setattr__" l=pure ()
 |.ref c::r,e=>by rw[refuseLoop_ref];exact jo self e
 | [],e=>nomatch e
 |.type n::r,e=>by rw[show(Value.type n::r)=VE from ZP.mp e];exact uH self
 |.none::r,e=>by have:=(ZP (α:=List Value)).mp e;cases this
 |.bool b::r,e=>by have:=(ZP (α:=List Value)).mp e;cases this
 |.int b t::r,e=>by have:=(ZP (α:=List Value)).mp e;cases this
 |.str b t::r,e=>by have:=(ZP (α:=List Value)).mp e;cases this
 |.bytes b t::r,e=>by have:=(ZP (α:=List Value)).mp e;cases this
 |.float b t::r,e=>by have:=(ZP (α:=List Value)).mp e;cases this
 |.builtin b::r,e=>by have:=(ZP (α:=List Value)).mp e;cases this
 |.ellipsis::r,e=>by have:=(ZP (α:=List Value)).mp e;cases this
 |.notImplemented::r,e=>by have:=(ZP (α:=List Value)).mp e;cases this
structure ExS(K:PySem.W.Frag)(c:Addr):Prop where
 sa:findIn K (.ref c) "__setattr__" = some (some (.builtin "object.__setattr__"))
 ov:((clsIn K c).any fun cd=>kL cd.mro&&cd.hasDict)=true
 ob:mroIn K c (.type "object")=some true
section
variable{prog:Program}{w:World}{K:PySem.W.Frag}{A:Around}{R:Result->Shared->Prop}{s:Shared}{x C:Addr}
theorem yq{ox:Obj}{od:Option Obj}{name:Str}{tk:Tok}{v:Value}(X:K.In s.heap)(I:InstAt s.heap x ox C od)(S:ExS K C)(hn:findIn K (.ref C) name=some none)(h:wpAny (model prog w) A.in1 (storeInOwnDict (.ref x) (.ref C) (.str name tk) name v false)
   (fun fin s'=>match fin with|.done f=>R (.ok f) s'|.again c'=>c'.quiet=true/\codeAny (model prog w) A c' R s') (fun e s'=>R (.error e) s') s) :
  codeAny (model prog w) A (.call (.builtin "object.__setattr__") ⟨[.ref x,.str name tk,v],[]⟩) R s:=by
 have SF:=PySem.F.store_object;obtain⟨cd,hc,ho⟩:=any_some S.ov;rw[Zz]at ho;have sub:Looks (model prog w) s.heap (isInstance (.ref x) (.type "object")) true:=I.type.andThen (looks_mroIn X S.ob);refine codeAny_call_builtin SF.slot.plain SF.entry (@check_slot (model prog w) _ _ s "object.__setattr__" "object" "__setattr__" (.ref x) [.str name tk,v] [] _ SF.kind SF.split sub (SF.args (.ref x) (.str name tk) v) ?_);have hm:Looks (model prog w) s.heap (mroOf (.ref C)) cd.mro:=(looks_clsIn X hc).andThen .now;rw[osa_eq,refuse_eq];refine z6 (z6 (I.type.here (z6 (hm.here ?_))));rw[jo _ ho.1];refine z9 (z6 (I.type.here (z6 ((looks_findIn X hn).here (z6 (Looks.now.here ?_))))));exact h
end
def exN(ea c t:Addr)(dc:Option Addr):HO:=.ext fun h=>h.get? ea=some { cls:=.ref c,dict:=dc,data:=.fields #[.ref t,.none,.none,.none,.bool false,.none] }
theorem tq{P:Program}{w:World}{H:Hp}{h:Heap}{ea c t:Addr}{dc:Option Addr}(e:h.get? ea=some { cls:=.ref c,dict:=dc,data:=.fields #[.ref t,.none,.none,.none,.bool false,.none] }):ObjOk P w H h ea (exN ea c t dc) :=
 ⟨e,⟨_,e⟩,fun _ _ p k=>k _ p⟩
section
variable{X:Cx}{pins:List (Addr×Obj)}{σ:St}{H:Hp}{s:Shared}{a c t:Addr}{f:Str}{y:V}{u:Value}{A:Around}{E:Value->Shared->Prop}
theorem yW{Q:Unit->Shared->Prop}(I:Inv X pins σ H s)(e:H a=some (exN a c t none))(S:ExS X.K c)(n:NoAttr X.K c f)(ry:RelV y u)(h:∀d s',H d=none->Inv X pins σ (upd (upd H d (.xd [(f,y)])) a (exN a c t (some d))) s'->Q () s'):wpAny (model X.prog X.w) A (setAttr (.ref a) f u) Q E s:=by
 have hx:s.heap.get? a=some { cls:=.ref c,dict:=none,data:=.fields #[.ref t,.none,.none,.none,.bool false,.none] }:=(show ObjOk X.prog X.w H s.heap a (exN a c t none)from I.hok a _ e).1;have J:InstAt s.heap a { cls:=.ref c,dict:=none,data:=.fields #[.ref t,.none,.none,.none,.bool false,.none] } c none:=⟨hx,rfl,rfl,True.intro⟩
 obtain⟨cd,hc,ho⟩:=any_some S.ov;rw[Zz]at ho;refine PySem.W.set_plain I.kIn J S.sa (yq (s:={ s with toks:=s.toks+1 }) I.kIn J S n ?_);refine z6 (z9 (z6 (z6 (wpAny_loadPart hx (z6 (PySem.W.Looks.here (s:={ s with toks:=s.toks+1 }) (PySem.W.looks_clsIn I.kIn hc) ?_))))));rw[ho.2];have hxs:a≠s.heap.objs.size:=Zy (Zl hx);have hx1:(s.heap.push { cls:=.type "dict",data:=.dict #[] }).get? a=some { cls:=.ref c,dict:=none,data:=.fields #[.ref t,.none,.none,.none,.bool false,.none] }:=Za _ hx;show wpAny _ _ (alloc { cls:=.type "dict",data:=.dict #[] } >>= fun d=>update a (fun o=>{ cls:=o.cls,dict:=some d,data:=o.data,slots:=o.slots }) >>= fun _=>dictMade (.ref c) a d) _ _ _;refine z6 (wpAny_alloc' ?_);refine z6 (wpAny_update' hx1 ?_);refine z9 ?_;have hgd:((s.heap.push { cls:=.type "dict",data:=.dict #[] }).update a fun o=>{ cls:=o.cls,dict:=some s.heap.objs.size,data:=o.data,slots:=o.slots }).get? s.heap.objs.size=some { cls:=.type "dict",data:=.dict #[] } :=
  (Heap.get?_update_ne _ _ _ _ hxs.symm).trans (Heap.get?_push_at rfl rfl)
 have hnd:((s.heap.push { cls:=.type "dict",data:=.dict #[] }).update a fun o=>{ cls:=o.cls,dict:=some s.heap.objs.size,data:=o.data,slots:=o.slots }).Ns s.heap.objs.size (fun _=>none) :=
  ⟨_,#[],_,hgd,rfl,fun e he=>absurd he (by simp),fun _=>rfl⟩
 refine z6 (z9 (z6 (wpAny_nsSet1 (Heap.Ns1.of_empty hnd) fun h' hn' hs=>?_)));obtain⟨oD,esD,epD,hoD,hdD,hcD⟩:=hn'.count (Within.cons f u Within.nil);refine z6 (wpAny_lookBehind hoD (by rw[hdD];exact pastItsLine_dict (ZB hcD (by rw[Zr,List.length_nil,sizeLine_eq];omega))) ?_);have hx':h'.get? a=some { cls:=.ref c,dict:=some s.heap.objs.size,data:=.fields #[.ref t,.none,.none,.none,.bool false,.none] }:=(hs.2 a hxs).trans (Yl _ hx1 rfl);have kp:∀b o,b≠a->s.heap.get? b=some o->h'.get? b=some o:=fun b o hb q=>(hs.2 b (Zy (Zl q))).trans ((Heap.get?_update_ne _ _ _ _ hb).trans (Za _ q));have hd0:H s.heap.objs.size=none:=I.hok.fresh (Zd _);have nd:∀b o,s.heap.get? b=some o->b≠s.heap.objs.size:=fun b o q=>Zy (Zl q);have ne1:∀b v,H b=some v->v≠exN a c t none->b≠a:=fun b v q hv z=>by rw[z,e]at q;exact hv (Zi q).symm
 have ne2:∀b v,H b=some v->b≠s.heap.objs.size:=fun b v q=>ai q hd0;have un:Un X.fs [] H (upd (upd H s.heap.objs.size (.xd [(f,y)])) a (exN a c t (some s.heap.objs.size))) s.heap h':=by
  refine⟨fun b o q m _ _=>kp b o (fun z=>by rw[z,e]at m;cases m) q,fun b o q m _ _=>⟨o.slots,kp b o (fun z=>by rw[z,e]at m;cases m) q⟩,fun b o q m _=>?_,fun b o q _=>?_,fun b xs q=>?_,fun b o v q=>?_,fun b ps q=>⟨#[],?_⟩⟩
  ·rw[af (fun z=>by rw[z,e]at m;cases m),af (nd b o q)];exact m
  ·by_cases hb:b=a
   ·exact⟨_,hb▸hx'⟩
   ·exact⟨o,kp b o hb q⟩
  ·rw[af (ne1 _ _ q (by intro z;cases z)),af (ne2 _ _ q)];exact q
  ·rw[af (ne1 _ _ q (by intro z;cases z)),af (ne2 _ _ q)];exact q
  ·rw[af (ne1 _ _ q (by intro z;cases z)),af (ne2 _ _ q),q];simp
 have hok:HOk X.prog X.w (upd (upd H s.heap.objs.size (.xd [(f,y)])) a (exN a c t (some s.heap.objs.size))) h':=fun b v q=>by
  by_cases hb:b=a
  ·subst hb;rw[ad]at q;cases q;exact tq hx'
  ·rw[af hb]at q;by_cases hbd:b=s.heap.objs.size
   ·subst hbd;rw[ad]at q;cases q;refine⟨_,hn',fun g=>?_⟩;by_cases hg:g=f
    ·subst hg;rw[if_pos rfl];show RelO ([(g,y)].lookup g) (some u);rw[ZK,show(g==g)=true by simp];exact ry
    ·rw[if_neg hg];show RelO ([(f,y)].lookup g) none;rw[ZK,show(g==f)=false by simpa using hg];exact True.intro
   ·rw[af hbd]at q;refine(I.hok b v q).stay (fun b' v' hb' q'=>kp b' v' ?_ q') (fun b' q'=>?_) fun b' xs q'=>?_
    ·rcases hb' with rfl|z
     ·exact hb
     ·exact ne1 _ _ z (by intro z;cases z)
    ·rw[af (ne1 _ _ q' (by intro z;cases z)),af (ne2 _ _ q')];exact q'
    ·rw[af (ne1 _ _ q' (by intro z;cases z)),af (ne2 _ _ q')];exact q'
 exact z9 (h _ _ hd0 (I.un un hok))
end
def CN(K:PySem.W.Frag)(ta tv:TE)(f:Str):TS:=fun D σ H=>tv σ H fun y H1=>ta σ H1 fun x H2=>∃a c t,x=.ref a/\H2 a=some (exN a c t none)/\ExS K c/\NoAttr K c f/\∀d,H2 d=none ->
 D.nx σ (upd (upd H2 d (.xd [(f,y)])) a (exN a c t (some d)))
theorem BB{X:Cx}{o value:Expr}{f:Str}{pos pos':Pos}{ta tv:TE}(ha:QE X o ta)(hv:QE X value tv)(hs:swapsWith value (some (.Attribute o f pos')) pos.line X.env=pure false:=by rfl):QS X (.Assign [.Attribute o f pos'] value pos) (CN X.K ta tv f):=by refine⟨?_⟩;intro pins s σ H D I h;refine plainObj_wpAny_Assign_Attribute (thn (hv.h pins s σ H _ I h) fun u s1 ⟨y,H1,I1,ry,q⟩=>thn (ha.h pins s1 σ H1 _ I1 q) fun ov s2 hz9=>?_) hs;obtain⟨x,H2,I2,rx,a,c,t,ex,ea,S,n,q2⟩:=hz9;subst ex;obtain rfl:ov=Value.ref a:=rx;exact yW I2 ea S n ry fun d s3 hd I3=>⟨σ,_,I3,q2 d hd⟩
open PySem PySem.Spec PyProof.Rows PySem.W
def del(H:Hp)(a:Addr):Hp:=fun b=>if b=a then none else H b
theorem vy{H:Hp}{a:Addr}:del H a a=none:=by unfold del;rw[if_pos rfl]
theorem de{H:Hp}{a b:Addr}(h:b≠a):del H a b=H b:=by unfold del;rw[if_neg h]
theorem uk{H:Hp}{a b:Addr}{u:HO}(h:del H a b=some u):b≠a/\H b=some u:=by
 by_cases c:b=a
 ·rw[c,vy]at h;cases h
 ·rw[de c]at h;exact⟨c,h⟩
open PySem PySem.Spec PyProof.Rows PySem.W
def oj(K:PySem.W.Frag)(C fI:Addr):Bool:=match K.lookup C with
 | some ⟨.type "type",_,.cls cd,sl⟩=>(match cd.mro,sl.toList with
  |.ref C'::bm,[_,_,_,_,some (.builtin n),_]=>C'==C&&n=="ValueError.__new__"&&!cd.hasDel&&tailIn K VE bm&&nsOkIn K cd.ns&&nsIn K cd.ns "__init__" == some (some (.ref fI))
  | _,_=>false)
 |_=>false
theorem rQ{K:PySem.W.Frag}{h:Heap}{N:Addr}{m:Str->Option Value}{n:Str}{v:Value}(X:K.In h)(G:h.Ns N m)(e:nsIn K N n=some (some v)):m n=some v:=by
 obtain⟨o,es,ep,ho,hd,_,hf⟩:=G;unfold nsIn at e;split at e
 ·rename_i c d es' n' sl q;have:=X _ _ q;rw[ho]at this;cases this;cases hd;split at e
  ·rename_i en he;cases e;rw[<-hf];unfold nsFind findBy;rw[<-Array.find?_toList,he];rfl
  ·split at e<;>cases e
 ·cases e
structure ExcAtI(K:PySem.W.Frag)(C fI:Addr)(bm:List Value):Prop where
 isIn:oj K C fI=true
 mro:∃c d cd sl,K.lookup C=some ⟨c,d,.cls cd,sl⟩/\cd.mro=Value.ref C::bm
 exc:bm.contains (.type "BaseException")=true
 fn:∃oI,K.lookup fI=some oI/\oI.cls=.type "function"
theorem jW{K:PySem.W.Frag}{C fI:Addr}{bm:List Value}(q:ExcAtI K C fI bm){h:Heap}(X:K.In h) :
  ∃nm qn N bs hdct sn sub ab col dd k0 k1 k2 k3 k5 mN,h.get? C=some (excClassObj nm qn C N bs bm hdct sn sub ab col dd k0 k1 k2 k3 k5 "ValueError.__new__")/\h.Ns N mN/\mN "__init__" = some (.ref fI)/\OwnTail h VE bm:=by
 have q1:=q.isIn;obtain⟨c9,d9,cd9,sl9,l9,m9⟩:=q.mro;unfold oj at q1;split at q1
 ·rename_i dd cd sl ho;split at q1
  ·rename_i C' bm' k0 k1 k2 k3 n k5 hm hs;have q2:cd.mro=Value.ref C::bm:=by have z:=ho.symm.trans l9;cases z;exact m9
   rw[hm]at q2;injection q2 with z1 z2;injection z1 with z1;cases z1;cases z2;simp only[Zz,ZP,Bool.not_eq_true']at q1;obtain⟨⟨⟨⟨⟨_,rfl⟩,nd⟩,ht⟩,ok⟩,ni⟩:=q1;have es:sl=#[k0,k1,k2,k3,some (.builtin "ValueError.__new__"),k5]:=by obtain⟨l⟩:=sl;simp only at hs;rw[hs]
   cases es;obtain⟨nm,bs,mro,ns,qn,hd,sn,sub,ab,col,del⟩:=cd;dsimp only at hm nd ok ni;cases hm;cases nd;have G:h.Ns ns _:=.of_isNs (isNs_of_in X ok);exact⟨nm,qn,ns,bs,hd,sn,sub,ab,col,dd,k0,k1,k2,k3,k5,_,X _ _ ho,G,rQ X G ni,tail_of_in X ht⟩
  ·cases q1
 ·cases q1
theorem qc{K:PySem.W.Frag}{C fI:Addr}{bm:List Value}(q:ExcAtI K C fI bm):ExC K C bm where
 cls:=fun h X=>by obtain⟨nm,qn,N,bs,hdct,sn,sub,ab,col,dd,k0,k1,k2,k3,k5,mN,e,_⟩:=jW q X;exact⟨nm,qn,N,bs,hdct,sn,sub,ab,col,dd,k0,k1,k2,k3,k5,_,e⟩
 exc:=q.exc
structure ExI(P:Program)(w:World)(K:PySem.W.Frag)(mg:Str->Option Value)(base:Heap)(k:Nat)(C:Addr)(bm:List Value)(ps:List Str)(sp:Sp):Prop where
 ex:∃fI fd,ExcAtI K C fI bm/\FnOk P w K mg base CX0 k fI fd ps sp/\Binds K fd ps []
section
variable{X:Cx}{pins:List (Addr×Obj)}{σ:St}{H:Hp}{s:Shared}
theorem Inv.excMade{h':Heap}{e c t:Addr}(I:Inv X pins σ H s)(kp:∀b o,s.heap.get? b=some o->h'.get? b=some o)(hn:s.heap.get? e=none)(he:h'.get? e=some { cls:=.ref c,data:=.fields #[.ref t,.none,.none,.none,.bool false,.none] }) :
  H e=none/\Inv X pins σ (upd H e (exN e c t none)) { s with heap:=h' }:=by
 have h0:H e=none:=by
  cases q:H e with
  |none=>rfl
  |some u =>obtain⟨o,z⟩:=dD (I.hok e u q);rw[hn]at z;cases z
 have nb:∀b o,s.heap.get? b=some o->b≠e:=fun b o q z=>by rw[z,hn]at q;cases q
 refine⟨h0,I.un (t':=s.toks) ⟨fun b o q _ _ _=>kp b o q,fun b o q _ _ _=>⟨o.slots,kp b o q⟩,fun b o q m _=>by rw[af (nb b o q)];exact m,fun b o q _=>⟨o,kp b o q⟩,fun b xs q=>by rw[af (ai q h0)];exact q,fun b o v q=>by rw[af (ai q h0)];exact q,fun b ps q=>⟨#[],by rw[af (ai q h0),q];simp⟩⟩ fun b u q=>?_⟩;by_cases hb:b=e
 ·subst hb;rw[ad]at q;cases q;exact tq he
 ·rw[af hb]at q;exact(I.hok b u q).stay (fun b' v _ q'=>kp b' v q') (fun b' z=>by rw[af (ai z h0)];exact z) fun b' xs z=>by rw[af (ai z h0)];exact z
end
section
variable{X:Cx}{EC:Value->Option Addr->Hp->Prop}{C:Addr}{bm:List Value}{k:Nat}{ps:List Str}{sp:Sp}{x:Str}{np cpos pos:Pos}{e:Expr}{es:List Expr}{ta:TA}
def ze(sp:Sp)(C:Addr)(EC:Value->Option Addr->Hp->Prop)(ta:TA):TS:=fun _ σ H=>ta σ H fun vs H1=>vs.length<=sizeLine/\∀ea t,H1 ea=none->H1 t=none->t≠ea ->
 sp (.ref ea::vs) (upd H1 ea (exN ea C t none)) (fun v H2=>v=.non/\∃dc,H2 ea=some (exN ea C t dc)/\EC (.ref C) dc (del H2 ea)) E0
end
open PySem PySem.Spec PyProof.Rows PySem.W
structure MFnX(P:Program)(w:World)(K:PySem.W.Frag)(mg:Str->Option Value)(base:Heap)(k:Nat)(C:Addr)(m:Str)(ps:List Str)(sp:Sp):Prop where
 cl:Cls K C
 ex:∃f fd,FnOk P w K mg base (CXr P w) k f fd ps sp/\Meth K C m f/\Binds K fd ps []
section
variable{X:Cx}{k:Nat}{C:Addr}{m x:Str}{p pos apos:Pos}{o e:Expr}{es:List Expr}{ps:List Str}{sp:Sp}{t:TA}{ta:TE}{E:XK}
theorem fZ{pl:Sem Bool}(F:MFnX X.prog X.w X.K X.mg X.base k C m ps sp)(hx:cn (CXr X.prog X.w) X E)(hr:Room k X.A)(he:QE X o ta)(ha:QA X (e::es) t)(hs:(e::es).all aF=true:=by rfl)(ht:eval (.Call (.Attribute o m apos) (e::es) [] pos) X.env=(do
   let ov ←eval o X.env
   standAt apos.atName
   let(f,first) ←holding [ov] (getMethod ov m pl)
   callWith pos f first (backTo pos (starEach (e::es) X.env)) (backToKw pos (keywordEach [] X.env))):=by rfl) :
  QE X (.Call (.Attribute o m apos) (e::es) [] pos) (kY C m sp [] E ta t):=by
 obtain⟨f,fd,G,hm,b⟩:=F.ex;rw[YC,Zz]at hs;exact⟨qA (pl:=pl) he.h F.cl hm G hr b .nil hx ha.h (aG hs.1) (aY hs.2) ht⟩
def BO(C:Addr)(m:Str)(sp:Sp)(ta:TE)(t:TA):TX:=fun σ H Q E=>ta σ H fun x H1=>∃a dx fs,x=.ref a/\H1 a=some (.ins C dx fs)/\fs.lookup m=none/\t σ H1 fun vs H2=>sp (x::vs) H2 Q E
theorem uW{pl:Sem Bool}(F:MFnX X.prog X.w X.K X.mg X.base k C m ps sp)(hr:Room k X.A)(he:QE X.nox o ta)(ha:QA X.nox (e::es) t)(hs:(e::es).all aF=true:=by rfl)(ht:eval (.Call (.Attribute o m apos) (e::es) [] pos) X.env=(do
   let ov ←eval o X.env
   standAt apos.atName
   let(f,first) ←holding [ov] (getMethod ov m pl)
   callWith pos f first (backTo pos (starEach (e::es) X.env)) (backToKw pos (keywordEach [] X.env))):=by rfl) :
  QX X (.Call (.Attribute o m apos) (e::es) [] pos) (BO C m sp ta t):=by
 refine⟨?_⟩;intro pins s σ H Q E I h;obtain⟨f,fd,G,hm,b⟩:=F.ex;rw[YC,Zz]at hs;refine PySem.W.methodCall_KW (pl:=pl) (ZH (he.h pins s σ H _ (I.wish _) h) (fun u s1 hz9=>?_) fun _ _ z=>False.elim z) ht;obtain⟨y,H1,I1,rx,a,dx,fs,ex,ea,l,q⟩:=hz9;subst ex;obtain rfl:u=Value.ref a:=rx;have I1':=I1.unwish;refine gM I1' ea F.cl hm l ?_;refine PySem.W.callWith_K (first:=[.ref a]) (h₀:=X.base) I.ok.mod.kin hm.kp (ZH (ha.h pos pins s1 σ H1 _ I1 q) (fun us s2 ⟨vs,H2,I2,r,q2⟩=>⟨I2.kIn,?_⟩) fun _ _ z=>False.elim z) (aG hs.1) (aY hs.2);have I3:=I2.unwish;have hb:=b s2 (.ref a::us) I3.kIn (by rw[ZQ,<-G.len _ _ _ _ q2,Zr,Zr,r.length]);rw[ZQ]at hb;refine wpAny_call (codeAny_mono (G.run X.A X.stack s2 H2 ⟨.ref a::us,[]⟩ (.ref a::us) (.ref a::vs) Q E hr I3.env0 hb (.cons rfl r) q2) fun r s' hq=>?_);cases r with
 |error e=>exact⟨s2,H2,I3,hq⟩
 |ok fl =>
  cases fl with
  |ret u=>exact I3.after hq
  |next=>exact False.elim hq
  |brk=>exact False.elim hq
  |cont=>exact False.elim hq
end
section
variable{X:Cx}
theorem Ci:QH X [] (fun _ _ _ _ _=>False):=⟨fun _ _ _ _ _ _ _ _ _ _ _ _ _ _ _ _ h=>h.elim⟩
def CQ(K:PySem.W.Frag)(Ch:Addr)(ts:TS)(th:TH):TH:=fun D σ C dc H'=>∃c bm,C=.ref c/\ExC K c bm/\if(Value.ref c::bm).contains (.ref Ch)=true then ts D σ H' else th D σ C dc H'
theorem Db{x:Str}{Ch:Addr}{bmh:List Value}{b0:Stmt}{suite:List Stmt}{ts:TS}{np pos:Pos}{rest:List ExceptHandler}{th:TH}(cl:ExC X.K Ch bmh)(hm:X.mg x=some (.ref Ch))(hs:∀e,QB (X.exc e) (b0::suite) ts)(hrest:QH X rest th)(hg:Gl X x:=by rfl)(hdb:(x==("__debug__":Str))=false:=by decide):QH X (.ExceptHandler (some (.Name x np)) none (b0::suite) pos::rest) (CQ X.K Ch ts th):=by
 refine⟨?_⟩;rintro pins s0 H0 σ D ea t C B H' dc s' I0 F fly hd ⟨c,bm,rfl,ec,q⟩;have I:=F.inv I0;refine wpAny_handleBy_cons (codeAny_handlers_test ?_) (by intro z;cases z);refine dC (X:=X.exc (.ref ea)) (I.exc _) hg hm ?_ hdb;obtain⟨oe,he,hcl⟩:=fly.there;refine jh ec cl I.kIn he hcl ?_;cases hc:(Value.ref c::bm).contains (.ref Ch)with
 |true =>
  rw[hc,if_pos rfl]at q;refine codeAny_handlers_suite ?_;obtain⟨f1,f2,f3,f4⟩:=fly;refine dZ f1 f3 f4.at hd fun h6 k1 k2 k3 up6 hd6=>?_;have F6:=F.move (tk:=s'.toks) I0 k1 up6;refine ZH ((hs (.ref ea)).h pins _ _ _ _ ((F6.inv I0).exc _) q) (fun f s8 sp=>?_) (fun _ _ z=>False.elim z);cases f with
  |next =>obtain⟨σ2,H2,I8,q8⟩:=sp;exact⟨_,H2,I8.unexc I0.ok,q8⟩
  |brk =>obtain⟨σ2,H2,I8,q8⟩:=sp;exact⟨_,H2,I8.unexc I0.ok,q8⟩
  |cont =>obtain⟨σ2,H2,I8,q8⟩:=sp;exact⟨_,H2,I8.unexc I0.ok,q8⟩
  |ret u =>obtain⟨v,σ2,H2,I8,r8,q8⟩:=sp;exact⟨v,_,H2,I8.unexc I0.ok,r8,q8⟩
 |false =>rw[hc,if_neg Zm]at q;exact hrest.h pins s0 H0 σ D ea t _ B H' dc _ I0 F fly hd q
end
def exD(ea c:Addr)(dc:Option Addr):HO:=.ext fun h=>∃oe,h.get? ea=some oe/\oe.cls=.ref c/\oe.dict=dc/\notCls oe=true
theorem Fl.trackD{X:Cx}{pins:List (Addr×Obj)}{σ:St}{H0 H':Hp}{s0 s':Shared}{B:Heap}{ea t c:Addr}{dc:Option Addr}(F:Fl X H0 H' s0 s' B)(I0:Inv X pins σ H0 s0)(fly:Heap.FlyingW B X.stack ea (.ref c) (.ref t) s'.heap)(hd:∃oe,s'.heap.get? ea=some oe/\oe.cls=.ref c/\oe.dict=dc/\notCls oe=true) :
  H' ea=none/\Inv X pins σ (upd H' ea (exD ea c dc)) s':=by
 have I:=F.inv I0;obtain⟨oe,vs,he,hc,hf,_⟩:=fly.first;have nfr:ea∉frs X.stack:=fun hm=>by obtain⟨_,o',ho',hd'⟩:=I.stack.mem hm;have e:s'.heap.get? ea=some o':=ho';rw[he]at e;cases e;exact hd' vs hf
 have hB:B.get? ea=none:=fly.2.1;have hn:H' ea=none:=by
  cases q:H' ea with
  |none=>rfl
  |some u =>have:=F.kb ea oe nfr (.inl ⟨u,q⟩) he;rw[hB]at this;cases this
 have h0:s0.heap.get? ea=none:=by
  cases q:s0.heap.get? ea with
  |none=>rfl
  |some o0 =>have:=F.kb ea oe nfr (.inr ⟨o0,q⟩) he;rw[hB]at this;cases this
 have ne0:∀b o,s0.heap.get? b=some o->b≠ea:=fun b o q z=>by rw[z,h0]at q;cases q
 have neH:∀b u,H' b=some u->b≠ea:=fun b u q z=>by rw[z,hn]at q;cases q
 refine⟨hn,⟨I.ok,I.os,I.bare,⟨I.base.keep,I.base.slot,fun b o q n hx=>?_,I.base.there,fun b xs q=>?_,fun b o u q=>?_,fun b ps q=>?_⟩,I.loc,I.cell,?_,fun x c' q=>?_,fun p hp=>?_,fun b u q=>?_,I.len⟩⟩
 ·obtain⟨o',q'⟩:=I0.base.there b o q hx;rw[af (ne0 b o' q')];exact I.base.free b o q n hx
 ·have:=I.base.tups b xs q;rw[af (neH _ _ this)];exact this
 ·have:=I.base.frzs b o u q;rw[af (neH _ _ this)];exact this
 ·obtain⟨more,this⟩:=I.base.tbls b ps q;exact⟨more,by rw[af (neH _ _ this)];exact this⟩
 ·obtain⟨m,⟨o,_,_,ho,_⟩,_⟩:=I0.loc;rw[af (ne0 _ o ho)];exact I.free
 ·obtain⟨v,o,ho,_⟩:=I0.cell x c' q;rw[af (ne0 _ o ho)];exact I.freeC x c' q
 ·obtain⟨e,n,ne,nf,d⟩:=I.pin p hp;refine⟨e,?_,ne,nf,d⟩;rw[af (ne0 _ _ (I0.pin p hp).1)];exact n
 ·by_cases hb:b=ea
  ·subst hb;rw[ad]at q;cases q;obtain⟨o1,a1,a2,a3,a4⟩:=hd;exact⟨⟨o1,a1,a2,a3,a4⟩,⟨o1,a1⟩,fun h1 h2 ⟨o2,b1,b2,b3,b4⟩ k=>⟨o2,k o2 b1,b2,b3,b4⟩⟩
  ·rw[af hb]at q;refine(I.hok b u q).stay (fun _ _ _ z=>z) (fun d z=>?_) fun d xs z=>?_
   ·rw[af (neH _ _ z)];exact z
   ·rw[af (neH _ _ z)];exact z
def Dl(K:PySem.W.Frag)(i:Nat)(Ch:Addr)(ts:TS):TH:=fun D σ C dc H'=>∃c bm,C=.ref c/\ExC K c bm/\(Value.ref c::bm).contains (.ref Ch)=true/\∀ea,H' ea=none ->
 ts { nx:=fun σ2 H2=>D.nx (σ2.set i none) H2,rt:=D.rt,bk:=fun σ2 H2=>D.bk (σ2.set i none) H2,ct:=fun σ2 H2=>D.ct (σ2.set i none) H2 } (σ.set i (some (.ref ea))) (upd H' ea (exD ea c dc))
section
variable{X:Cx}
theorem Cg{i:Nat}{x n:Str}{Ch:Addr}{bmh:List Value}{b0:Stmt}{suite:List Stmt}{ts:TS}{np pos:Pos}{rest:List ExceptHandler}(hN:X.N.Nodup)(cl:ExC X.K Ch bmh)(hm:X.mg x=some (.ref Ch))(hs:∀e,QB (X.exc e) (b0::suite) ts)(hi:X.N[i]?=some n:=by rfl)(hl:X.env.kindOf n=some .local:=by rfl)(hg:Gl X x:=by rfl)(hdb:(x==("__debug__":Str))=false:=by decide) :
  QH X (.ExceptHandler (some (.Name x np)) (some n) (b0::suite) pos::rest) (Dl X.K i Ch ts):=by
 refine⟨?_⟩;rintro pins s0 H0 σ D ea t C B H' dc s' I0 F fly hd ⟨c,bm,rfl,ec,hc,q⟩;have I:=F.inv I0;refine wpAny_handleBy_cons (codeAny_handlers_test ?_) (by intro z;cases z);refine dC (X:=X.exc (.ref ea)) (I.exc _) hg hm ?_ hdb;obtain⟨oe,he,hcl⟩:=fly.there;refine jh ec cl I.kIn he hcl ?_;rw[hc];refine codeAny_handlers_suite_as ?_;obtain⟨f1,f2,f3,f4⟩:=fly;refine dZ f1 f3 f4.at hd fun h6 k1 k2 k3 up6 hd6=>?_;have fly6:Heap.FlyingW B X.stack ea (.ref c) (.ref t) h6:=⟨k1,f2,k2,k3⟩
 have F6:=F.move (tk:=s'.toks) I0 fly6.1 up6;have hx6:∃oe,h6.get? ea=some oe/\oe.cls=.ref c/\oe.dict=dc/\notCls oe=true:=by obtain⟨oe,vs,z1,z2,z3,_⟩:=fly6.first;obtain⟨o2,y1,y2⟩:=hd6;cases Zi (z1.symm.trans y1);exact⟨oe,z1,z2,y2,by unfold notCls;rw[z3]⟩
 obtain⟨hn,I6⟩:=F6.trackD I0 fly6 hx6;refine jK I6 hN hi (.inl hl) (v:=.ref ea) (u:=.ref ea) rfl (fun s7 I7=>?_) (.inr hl);refine ZH ((hs (.ref ea)).h pins s7 _ _ _ (I7.exc _) (q ea hn)) (fun f s8 sp=>?_) (fun _ _ z=>False.elim z);cases f with
 |next =>obtain⟨σ2,H2,I8,q8⟩:=sp;exact fG (I8.unexc I0.ok) hN hi hl fun s9 I9=>⟨_,H2,I9,q8⟩
 |brk =>obtain⟨σ2,H2,I8,q8⟩:=sp;exact fG (I8.unexc I0.ok) hN hi hl fun s9 I9=>⟨_,H2,I9,q8⟩
 |cont =>obtain⟨σ2,H2,I8,q8⟩:=sp;exact fG (I8.unexc I0.ok) hN hi hl fun s9 I9=>⟨_,H2,I9,q8⟩
 |ret u =>obtain⟨v,σ2,H2,I8,r8,q8⟩:=sp;exact fG (I8.unexc I0.ok) hN hi hl fun s9 I9=>⟨v,_,H2,I9,r8,q8⟩
end
open PySem PySem.Spec PyProof.Rows PySem.W
section
variable{K:PySem.W.Frag}{prog:Program}{w:World}{A:Around}{E:Value->Shared->Prop}{h:Heap}{g:Array GenState}{d:Drawn}{t:Nat}{os:OsState}{x D:Addr}{ox:Obj}{od:Option Obj}
theorem jV{tk:Tok}{Q:PySem.Fin->Shared->Prop}(X:K.In h)(I:InstAt h x ox D od)(ha:findIn K (.ref D) "__class__" = some (some (.builtin "object.__class__")))(hm:mroIn K D (.type "object")=some true)(hq:Q (.done (.ret (.ref D))) ⟨h,g,d,t,os⟩):wpAny (model prog w) A (Builtin.«object.__getattribute__» ⟨[.ref x,.str "__class__" tk],[]⟩) Q E ⟨h,g,d,t,os⟩:=by
 have hT5:(⟨h,g,d,t,os⟩:Shared).TypeIs (.builtin "object.__class__") "getset_descriptor":=F.typeOf_object_class;have L0:=I.type (M:=model prog w);have L3:=looks_findIn (M:=model prog w) X ha;have f5:=F.typeOf_object_class;have f6:=F.slot_gs_get.lookup;have f7:=F.slot_gs_set.lookup
 repeat(any_goals(first|assumption|with_reducible refine L0.at ?_|with_reducible refine L3.at ?_|wp_step))
 refine class_get (s:=⟨h,g,d,t,os⟩) X I hm ?_
 repeat(any_goals(first|assumption|wp_step))
theorem jU{M:Model}{nv:Value}{Q:Unit->Shared->Prop}(X:K.In h)(I:InstAt h x ox D od)(hb:mroIn K D (.type "BaseException")=some true)(hq:Q () ⟨h,g,d,t,os⟩) :
  wpAny M A (checkBuiltinCall "BaseException.__getattribute__" ⟨[.ref x,nv],[]⟩) Q E ⟨h,g,d,t,os⟩:=by
 have hk:builtinKind "BaseException.__getattribute__" = some .slot:=by decide +kernel
 have hs:splitId "BaseException.__getattribute__" = some ("BaseException","__getattribute__"):=by decide +kernel
 have ao:=F.args_bexc_ga (.ref x) nv;have L0:=I.type (M:=M);have L1:=looks_mroIn (M:=M) X hb;simp only[checkBuiltinCall,hk,hs];refine z6 ?_;unfold isInstance
 repeat(first|with_reducible refine L0.at ?_|with_reducible refine L1.at ?_|wp_step)
 exact hq
theorem rp{Q:Option Value->Shared->Prop}(X:K.In h)(I:InstAt h x ox D od)(hga:findIn K (.ref D) "__getattribute__" = some (some (.builtin "BaseException.__getattribute__")))(hgh:findIn K (.ref D) "__getattr__" = some none)(ha:findIn K (.ref D) "__class__" = some (some (.builtin "object.__class__")))(hb:mroIn K D (.type "BaseException")=some true)(hm:mroIn K D (.type "object")=some true)(hq:Q (some (.ref D)) ⟨h,g,d,t+1,os⟩) :
  wpAny (model prog w) A (getAttr? (.ref x) "__class__") Q E ⟨h,g,d,t,os⟩:=by
 have L0:=I.type (M:=model prog w);have L1:=looks_findIn (M:=model prog w) X hga;have L2:=looks_findIn (M:=model prog w) X hgh;have f3:=F.excAttr_ValueError.ga.bind (.ref x);have ne:(Value.builtin "BaseException.__getattribute__" == Value.builtin "object.__getattribute__")=false:=by decide +kernel
 have ne1:(onTheHeap (Value.ref D)&&Value.builtin "BaseException.__getattribute__" == Value.builtin "object.__getattribute__")=false:=by rw[ne];rfl
 have ne2:(false&&onTheHeap (Value.builtin "BaseException.__getattribute__"))=false:=rfl;unfold getAttr? getAttrBy?
 repeat(any_goals(first|assumption|with_reducible refine L0.at ?_|with_reducible refine L1.at ?_|with_reducible refine L2.at ?_|wp_step))
 refine codeAny_call_builtin F.excAttr_ValueError.ga.plain F.entry_bexc_ga (jU X I hb (jV X I ha hm ?_))
 repeat(any_goals(first|assumption|wp_step))
theorem tu{tk:Tok}{name:Str}{v:Value}{Q:PySem.Fin->Shared->Prop}(X:K.In h)(I:InstAt h x ox D od)(hf:findObj K D od name=some (.value v))(hq:Q (.done (.ret v)) ⟨h,g,d,t,os⟩):wpAny (model prog w) A (Builtin.«object.__getattribute__» ⟨[.ref x,.str name tk],[]⟩) Q E ⟨h,g,d,t,os⟩:=by have L0:=I.type (M:=model prog w);have L3:=looks_find (M:=model prog w) X I hf;refine z6 (z9 (z6 (z9 (z6 (L0.at (z6 (L3.at ?_)))))));exact z9 hq
theorem vC{name:Str}{v:Value}{expr:Bool}{Q:Value->Shared->Prop}(X:K.In h)(I:InstAt h x ox D od)(hga:findIn K (.ref D) "__getattribute__" = some (some (.builtin "BaseException.__getattribute__")))(hgh:findIn K (.ref D) "__getattr__" = some none)(hb:mroIn K D (.type "BaseException")=some true)(hf:findObj K D od name=some (.value v))(hv:handedIn v=true)(hq:Q v ⟨h,g,d,t+1,os⟩) :
  wpAny (model prog w) A (getAttr (.ref x) name expr) Q E ⟨h,g,d,t,os⟩:=by
 have L0:=I.type (M:=model prog w);have L1:=looks_findIn (M:=model prog w) X hga;have L2:=looks_findIn (M:=model prog w) X hgh;have f3:=F.excAttr_ValueError.ga.bind (.ref x);have hx0:(expr&&onTheHeap (Value.builtin "BaseException.__getattribute__"))=false:=by cases expr<;>rfl
 have ne:(Value.builtin "BaseException.__getattribute__" == Value.builtin "object.__getattribute__")=false:=by decide +kernel
 have ne1:(onTheHeap (Value.ref D)&&Value.builtin "BaseException.__getattribute__" == Value.builtin "object.__getattribute__")=false:=by rw[ne];rfl
 have hh:=handedOut_of hv;unfold getAttr getAttrBy
 repeat(any_goals(first|assumption|with_reducible refine L0.at ?_|with_reducible refine L1.at ?_|with_reducible refine L2.at ?_|wp_step))
 refine codeAny_call_builtin F.excAttr_ValueError.ga.plain F.entry_bexc_ga (jU X I hb (tu X I hf ?_))
 repeat(any_goals(first|assumption|wp_step))
end
theorem tQ{K:PySem.W.Frag}{x c:Addr}{ox:Obj}{od:Option Obj}(k:ExK K c):KitX K (.ref x) (.ref c) (fun h=>InstAt h x ox c od) where
 ty:=fun _ _ _ I=>I.type
 it:=fun _ _ X _=>by
  obtain⟨cd,hc⟩:=Z4.mp k.hc;unfold clsIn at hc;split at hc
  ·rename_i ho;intro A' Q' E' s' kp q;unfold isType loadHead;exact z6 (wpAny_loadPart (kp _ _ (X _ _ ho)) (z9 q))
  ·cases hc
 ne:=fun h tp dd its n sl X htp=>by
  obtain⟨cd,hc⟩:=Z4.mp k.hc;refine YS.mpr fun q=>?_;have e:c=tp:=Value.ref.inj (ZP.mp q);cases e;unfold clsIn at hc;split at hc
  ·rename_i ho;exact nomatch((X _ _ ho).symm.trans htp)
  ·cases hc
 ca:=fun{_ _ _ _ _ s} X I kq=>by obtain⟨hp,g,d,tt,os⟩:=s;exact rp X I k.hga k.hgh k.ha k.hb k.hm kq
def nM(H:Hp):Option Addr->Prop
 |none=>True
 |some d=>∃fs,H d=some (.xd fs)
section
variable{X:Cx}{pins:List (Addr×Obj)}{σ:St}{H:Hp}{s:Shared}
theorem my{a c:Addr}{dc:Option Addr}(I:Inv X pins σ H s)(ha:H a=some (exD a c dc))(hd:nM H dc):∃oe od,InstAt s.heap a oe c od/\∀d,dc=some d->∃o,od=some o/\s.heap.get? d=some o:=by
 obtain⟨⟨oe,h1,h2,h3,h4⟩,_⟩:=(show ObjOk X.prog X.w H s.heap a (exD a c dc)from I.hok a _ ha)
 cases dc with
 |none=>exact⟨oe,none,⟨h1,h2,h4,by rw[h3];exact True.intro⟩,fun d z=>nomatch z⟩
 |some d =>obtain⟨fs,hf⟩:=hd;obtain⟨o,ho⟩:=dD (I.hok d _ hf);exact⟨oe,some o,⟨h1,h2,h4,by rw[h3];exact ho⟩,fun d' z=>by cases z;exact⟨o,rfl,ho⟩⟩
def CO(K:PySem.W.Frag)(ta:TE)(f:Str):TE:=fun σ H Q=>ta σ H fun x H1=>∃a c d fs v,x=.ref a/\H1 a=some (exD a c (some d))/\H1 d=some (.xd fs)/\ExK K c/\hasDictIn K c=true/\NoAttr K c f/\fs.lookup f=some v/\Q v H1
theorem Bk{e:Expr}{f:Str}{pos:Pos}{ta:TE}(he:QE X e ta)(hb:attributeBase e f X.env (eval e X.env)=eval e X.env:=by rfl):QE X (.Attribute e f pos) (CO X.K ta f):=by
 refine⟨?_⟩;intro pins s σ H Q I h;refine pQ hb (thn (he.h pins s σ H _ I h) fun u s1 hz9=>?_);obtain⟨x,H1,I1,rx,a,c,d,fs,v,ex,ea,ed,k,hh,n,l,q⟩:=hz9;subst ex;obtain rfl:u=Value.ref a:=rx;obtain⟨oe,od,ia,hod⟩:=my I1 ea ⟨fs,ed⟩;obtain⟨o,rfl,ho⟩:=hod d rfl;obtain⟨mA,hn,hr⟩:=(show ObjOk X.prog X.w H1 s1.heap d (.xd fs)from I1.hok d _ ed)
 obtain⟨o2,ho2,hl⟩:=mF hn;cases Zi (ho.symm.trans ho2);obtain⟨u',hu,ru⟩:=RelO.some_of (v:=v) (o:=mA f) (by rw[<-l];exact hr f);obtain⟨hp,g,dr,tk,os⟩:=s1;exact vC I1.kIn ia k.hga k.hgh k.hb (findObj_own hh n rfl (by rw[hl,hu])) (mD ru) ⟨v,H1,I1.tok (tk+1),ru,q⟩
end
open PySem PySem.Spec PyProof.Rows PySem.W
def xP(X:Cx)(B:Heap)(ea:Addr)(C:Value)(t:Addr)(h:Heap):Prop :=
 (B.StaysIn h/\B.get? ea=none/\h.FunFrames B X.stack/\∃oe,h.get? ea=some oe/\oe.cls=C/\oe.data=.fields #[.ref t,.none,.none,.none,.bool false,.none]) \/
 Heap.FlyingW B X.stack ea C (.ref t) h\/Heap.HeldW B X.stack ea C (.ref t) X.env.locals h
def rc(X:Cx)(E:XK)(ea:Addr)(s':Shared):Prop:=∃(pins:List (Addr×Obj)) (σ:St) (H0 H':Hp) (s0:Shared) (B:Heap) (t:Addr) (C:Value) (vs:List Value) (dc:Option Addr),
 Inv X pins σ H0 s0/\Fl X H0 H' s0 s' B/\xP X B ea C t s'.heap/\s'.heap.TupAt t vs/\B.get? t=none/\cm s'.heap ea dc/\E C dc H'
section
variable{M:Model}{A:Around}{E:Value->Shared->Prop}{s:Shared}{base:Heap}{l:List Env}{L e:Addr}
theorem tD{cls a0 fl:Value}{dc:Option Addr}{Q:Unit->Shared->Prop}(kb:base.StaysIn s.heap)(ff:s.heap.FunFrames base l)(tr:s.heap.TracedAtW base e cls a0 fl)(dd:cm s.heap e dc)(k:∀h',base.StaysIn h'->h'.FunFrames base l->h'.TracedAtW base e cls a0 (rawInt L)->s.heap.UpToSlots h'->cm h' e dc->Q () { s with heap:=h' }):wpAny M A (setFlight (.ref e) (some L)) Q E s:=by
 obtain⟨oe,vs,T,oT,ts,he,hc,dt,v1,nT,ne,hT,dT,t3⟩:=tr;have z3:3<ts.size:=(Ys.mp t3).1;have oth:∀b,b≠T->(s.heap.update T (Obj.mapFields (·.setIfInBounds 3 ((some L:Option Addr).elim Value.none fun f=>rawInt f)))).get? b=s.heap.get? b:=fun b n=>Yg _ _ (ZN n);have nrec:∀b o,s.heap.get? b=some o->(∀ws,o.data≠.fields ws)->b≠T:=fun b o q hn z=>by subst z;cases Zi (hT.symm.trans q);exact hn ts dT
 unfold setFlight;refine z6 (ZX he dt v1 ?_);rw[if_pos (by simp:(Value.ref T != Value.none)=true)];refine YG hT dT z3 (k _ (fun b o q=>(oth b fun z=>nomatch((z▸q).symm.trans nT)).trans (kb b o q)) (ff.of_keeps fun b o q hn=>⟨o,(oth b (nrec b o q hn)).trans q,rfl⟩) ?_ (fun b o q hn=>⟨o.slots,(oth b (nrec b o q hn)).trans q⟩) ?_)
 ·exact⟨oe,vs,T,_,_,(oth e (ZN ne)).trans he,hc,dt,v1,nT,ne,Yl _ hT (Obj.isFreed_of_fields (Ye dT _)),Ye dT _,by simp[z3]⟩
 ·obtain⟨o,q,d⟩:=dd;exact⟨o,(oth e (ZN ne)).trans q,d⟩
end
section
variable{X:Cx}{E:XK}{ea:Addr}{s':Shared}{EE:Value->Shared->Prop}
theorem jP{Q:Unit->Shared->Prop}(hst:X.stack=X.env::X.outer)(hfr:X.env.frame=some X.env.locals)(x:rc X E ea s')(k:∀ h',(∃ (pins:List (Addr×Obj)) (σ:St) (H0 H':Hp) (s0:Shared) (B:Heap) (t:Addr) (C:Value) (vs:List Value) (dc:Option Addr),
   Inv X pins σ H0 s0/\Fl X H0 H' s0 { s' with heap:=h' } B/\Heap.HeldW B X.stack ea C (.ref t) X.env.locals h'/\h'.TupAt t vs/\B.get? t=none/\cm h' ea dc/\E C dc H')->Q () { s' with heap:=h' }) :
  wpAny (model X.prog X.w) X.A (noteFrame (.ref ea) X.env) Q EE s':=by
 obtain⟨pins,σ,H0,H',s0,B,t,C,vs,dc,I0,F,st,tup,hBt,dd,q⟩:=x;have fr:X.A.frames=some (X.env::X.outer):=by rw[<-hst];exact I0.ok.frames
 rcases st with⟨f1,f2,f3,oe,he,rfl,hd⟩|fly|held
 ·unfold noteFrame;simp only[hfr];refine z6 (ZX he hd (show _=some Value.none from rfl) ?_);rw[if_neg (by decide)];rw[hst]at f3;refine jm (a0:=.ref t) fr f3 hfr he f1 f2 hd (by simp) rfl fun h1 nt dd1=>?_;obtain⟨n1,n2,n3,n4⟩:=nt;rw[<-hst]at n2;obtain⟨o9,q9,d9⟩:=dd;cases Zi (he.symm.trans q9);rw[d9]at dd1;exact k h1 ⟨pins,σ,H0,H',s0,B,t,_,vs,dc,I0,F.move (tk:=s'.toks) I0 n1 n4,⟨n1,f2,n2,n3⟩,tup.of_slots n4,hBt,dd1,q⟩
 ·rw[hst]at fly;refine kz fr hfr fly dd fun h1 held up dd1=>?_;rw[<-hst]at held;exact k h1 ⟨pins,σ,H0,H',s0,B,t,C,vs,dc,I0,F.move (tk:=s'.toks) I0 held.1 up,held,tup.of_slots up,hBt,dd1,q⟩
 ·exact wpAny_noteFrame_againW hfr held.2.2.2 (k s'.heap ⟨pins,σ,H0,H',s0,B,t,C,vs,dc,I0,F,held,tup,hBt,dd,q⟩)
def Mid(X:Cx)(E:XK):Value->Shared->Prop:=fun e s'=>∃ea,e=.ref ea/\rc X E ea s'
theorem kO(hst:X.stack=X.env::X.outer)(hfr:X.env.frame=some X.env.locals):PassesOwn (model X.prog X.w) X.A X.env (Mid X E):=by rintro e s' ⟨ea,rfl,x⟩;refine jP hst hfr x ?_;rintro h1 ⟨pins,σ,H0,H',s0,B,t,C,vs,dc,I0,F,held,tup,hBt,dd,q⟩;obtain⟨f1,f2,f3,f4⟩:=held;obtain⟨oe,us,T,oT,ts,he,hc,dt,v1,nT,ne,hT,dT,t3⟩:=id f4;unfold cameBackBy;refine z6 (ZX he dt v1 ?_);rw[if_neg (by simp)];rw[hfr];refine tD (s:={ s' with heap:=h1 }) f1 f3 f4 dd fun h2 k1 k2 k3 up dd2=>?_;exact⟨ea,rfl,pins,σ,H0,H',s0,B,t,C,vs,dc,I0,F.move (tk:=s'.toks) I0 k1 up,.inr (.inr ⟨k1,f2,k2,k3⟩),tup.of_slots up,hBt,dd2,q⟩
end
def eJ(X:Cx)(E:XK):Prop:=∀ea s',rc X E ea s'->X.xe (.ref ea) s'
theorem jn{X:Cx}{E:XK}:eJ (X.wish (Mid X E)) E:=by rintro ea s' ⟨pins,σ,H0,H',s0,B,t,C,vs,dc,I0,F,st,r⟩;exact⟨ea,rfl,pins,σ,H0,H',s0,B,t,C,vs,dc,I0.unwish,⟨F.os,F.bare,F.un,F.hok,F.kb⟩,st,r⟩
section
variable{P:Program}{w:World}{K:PySem.W.Frag}{mg:Str->Option Value}{base:Heap}{N:List Str}{qual:Str}{scope:Scope}{f:Addr}{cd:Value}{A:Around}{outer:List Env}{s:Shared}{H:Hp}{E:XK}
theorem bU:eJ (cK (CXr P w) P w K mg base N qual scope f cd A outer s H E) E:=by
 intro ea s' x;show wpAny (model P w) (A.deeper (envOfC qual scope s.heap.objs.size f cd)) (leaving (envOfC qual scope s.heap.objs.size f cd) (.ref ea)) _ _ _;unfold leaving;refine z6 (jP (X:=cK (CXr P w) P w K mg base N qual scope f cd A outer s H E) rfl rfl x ?_);rintro h1 ⟨pins,σ,H0,H',s0,B,t,C,vs,dc,I,F,held,tup,hBt,dd,q⟩;obtain⟨f1,f2,f3,f4⟩:=held;refine dZ (s:={ s' with heap:=h1 }) f1 f3 f4 dd fun h2 k1 k2 k3 up dd2=>?_;have F2:=F.move (tk:=s'.toks) I k1 up;have I2:=F2.inv I;have hL:∀b o,s.heap.get? b=some o->b≠s.heap.objs.size:=fun b o q=>Zy (Zl q);have nfr:∀b,b∉frs outer->b≠s.heap.objs.size->b∉frs (envOfC qual scope s.heap.objs.size f cd::outer):=fun b h1 h2 hm=>by
  rcases Zq.mp (I.stkSub b hm)with z|z
  ·exact h2 z
  ·exact h1 z
 obtain⟨_,_,k2'⟩:=k2;refine⟨ea,t,C,vs,B,H',dc,rfl,I2.os,F2.bare,⟨fun b o q n hb _=>?_,fun b o q n hb _=>?_,fun b o q n _=>?_,fun b o q _=>?_,I2.base.tups,I2.base.frzs,I2.base.tbls⟩,F2.hok,⟨k1,f2,k2',k3⟩,tup.of_slots up,hBt,fun b o hb ho q=>?_,dd2,q⟩
 ·exact I2.base.keep b o q n hb (by intro z;cases z)
 ·exact I2.base.slot b o q n hb (by intro z;cases z)
 ·exact I2.base.free b o q n (by intro z;cases z)
 ·exact I2.base.there b o q (by intro z;cases z)
 ·refine F2.kb b o ?_ ?_ q
  ·rcases ho with⟨u,z⟩|⟨o0,z⟩
   ·exact F2.nf I z
   ·exact nfr b hb (hL b o0 z)
  ·rcases ho with⟨u,z⟩|⟨o0,z⟩
   ·exact .inl ⟨u,z⟩
   ·exact .inr (I.base.there b o0 z (by intro z;cases z))
end
section
variable{X:Cx}{E:XK}
theorem xq(hR:eJ X E):cn (CXr X.prog X.w) X E:=fun pins σ H s e s' I x=>by obtain⟨ea,t,C,vs,B,H',dc,rfl,os,bare,un,hok,fly,tup,hBt,kb,dd,q⟩:=x;exact hR ea s' ⟨pins,σ,H,H',s,B,t,C,vs,dc,I,⟨os,bare,un,hok,kb⟩,.inr (.inl fly),tup,hBt,dd,q⟩
theorem dj(hR:eJ X E):sR X (fun C H1=>E C none H1):=fun pins σ H1 s1 h2 e C vs I hx hE=>by
 obtain⟨t,he,tn,tt⟩:=hx.there;have fr0:∀b,b∈frs X.stack->∃o,s1.heap.get? b=some o:=fun b hm=>by obtain⟨_,o',ho',_⟩:=I.stack.mem hm;exact⟨o',ho'⟩
 have hid:∀b o,s1.heap.get? b=some o->b∉frs X.stack->(hideAll s1.heap (frs X.stack)).get? b=some o:=fun b o q hb=>hideAll_get _ q hb;have none_of:∀b,s1.heap.get? b=none->(hideAll s1.heap (frs X.stack)).get? b=none:=fun b hb=>by
  cases q:(hideAll s1.heap (frs X.stack)).get? b with
  |none=>rfl
  |some o=>exact nomatch hb.symm.trans (of_hideAll _ q)
 have tr:∀b u,H1 b=some u->b∉frs X.stack:=fun b u q hm=>by have:=I.stkFree b hm;rw[q]at this;cases this
 have F:Fl X H1 H1 s1 { s1 with heap:=h2 } (hideAll s1.heap (frs X.stack)):=⟨rfl,I.bare,Un.kept hx.keeps,I.hok.kept hx.keeps,fun b o hb ho q=>by
  obtain⟨o1,q1⟩:∃o1,s1.heap.get? b=some o1:=by
   rcases ho with⟨u,z⟩|⟨o0,z⟩
   ·exact dD (I.hok b u z)
   ·exact⟨o0,z⟩
  have q2:=hx.keeps _ _ q1;have q':h2.get? b=some o:=q;rw[q']at q2;cases q2;exact hid b o q1 hb⟩
 have ff:h2.FunFrames (hideAll s1.heap (frs X.stack)) X.stack:=(funFrames_hide I.stack fun env he b hb=>Ym.mpr ⟨env,he,hb⟩).of_keeps fun b o q _=>⟨o,hx.keeps b o q,rfl⟩
 exact hR e _ ⟨pins,σ,H1,H1,s1,_,t,C,vs,none,I,F,.inl ⟨fun b o q=>hx.keeps b o (of_hideAll _ q),none_of e hx.new,ff,_,he,rfl,rfl⟩,⟨_,_,tt,rfl,rfl⟩,none_of t tn,⟨_,he,rfl⟩,hE⟩
end
section
variable{X:Cx}{E:XK}{st:Stmt}{t:TS}
theorem xz(hR:eJ X E)(h:QS (X.wish (Mid X E)) st t):QS X st t:=⟨fun pins s σ H D I q=>ZH (h.h pins s σ H D (I.wish _) q) (fun _ _ z=>z.unwish) fun _ _ ⟨ea,e,x⟩=>by rw[e];exact hR ea _ x⟩
end
section
variable{X:Cx}{E:XK}{C:Addr}{bm:List Value}{k:Nat}{ps:List Str}{sp:Sp}{x:Str}{np cpos pos:Pos}{e:Expr}{es:List Expr}{ta:TA}
theorem wH(hR:eJ X E)(hc:X.calm=true)(F:ExI X.prog X.w X.K X.mg X.base k C bm ps sp)(hr:Room (k+1) X.A)(hm:X.mg x=some (.ref C))(ha:QA X (e::es) ta)(hg:Gl X x:=by rfl)(hs:(e::es).all aF=true:=by rfl)(hdb:(x==("__debug__":Str))=false:=by decide) :
  QS X (.Raise (some (.Call (.Name x np) (e::es) [] cpos)) none pos) (ze sp C E ta):=by
 refine⟨?_⟩;intro pins s σ H D I h;obtain⟨fI,fd,xc,G,hb⟩:=F.ex;have hs1:aF e=true:=Yv.mp hs e (by simp);have he:=aG (es:=es) (env:=X.env) hs1;have hpl:(backTo cpos (starEach es X.env)).any (·.1)=false:=aY (by
  rw[Yv];intro y hy;exact Yv.mp hs y (Zh _ hy))
 have hpl':(backTo cpos (starEach (e::es) X.env)).any (·.1)=false:=by rw[he];show(false ||(backTo cpos (starEach es X.env)).any (·.1))=false;rw[hpl];rfl
 rw[arm_exec_Raise];refine z6 (wpAny_standAt (uF (K:=X.K) (qc xc) (I.ok.hd hc) (z6 (ZH (wpAny_Call_ofName (dC I hg hm ?_ hdb)) (fun v s₃ h₃=>z6 (wpAny_standAt (z9 h₃))) fun _ _ x=>x))));unfold callWith;have hA:=ha.h cpos pins s σ H _ I h;rw[he]at hA ⊢;refine z6 (Yc (Calls.evalArgs_plain (thn hA fun us s1 ⟨vs,H1,I1,r1,hz,hE⟩=>z6 (wpAny_standAt ?_))));obtain⟨nm,q,N,bs,hdct,sn,sub,ab,col,dd,k0,k1,k2,k3,k5,mN,oC,hN,hi,T⟩:=jW xc I1.kIn;obtain⟨oI,lI,cI⟩:=xc.fn;obtain⟨hp,g,d,tk,os⟩:=s1;rw[<-he];simp only[hpl'];refine z6 (wpAny_keeperOf_exc oC ?_);refine z6 (rj PySem.F.excBase_ValueError T oC hN hi (I1.kIn _ _ lI) cI (fun h' ea mx=>?_) (show us.length<=sizeLine by rw[<-r1.length];exact hz));obtain⟨t,ht,tn,tt⟩:=mx.there;obtain⟨hea0,I2⟩:=I1.excMade mx.keeps mx.new ht;have nt:t≠ea:=fun z=>by rw[z,ht]at tt;cases tt
 have ht0:H1 t=none:=by
  cases q:H1 t with
  |none=>rfl
  |some u =>obtain⟨o,z⟩:=dD (I1.hok t u q);exact nomatch tn.symm.trans z
 have hq:=hE ea t hea0 ht0 nt;have hl:(Value.ref ea::us).length=ps.length:=by rw[<-G.len _ _ _ _ hq,Zr,Zr,r1.length]
 refine wpAny_call (codeAny_mono (G.run _ X.stack _ _ ⟨Value.ref ea::us,[]⟩ (Value.ref ea::us) (V.ref ea::vs) _ _ (hr.make C us []) (I2.env0.make C us []) (by have:=hb _ (Value.ref ea::us) I2.kIn (by rw[ZQ];exact hl);rw[ZQ]at this;exact this) (.cons rfl r1) hq) fun r s' hq'=>?_);cases r with
 |error e'=>exact False.elim hq'
 |ok fl =>
  cases fl with
  |next=>exact False.elim hq'
  |brk=>exact False.elim hq'
  |cont=>exact False.elim hq'
  |ret u =>
   obtain⟨v,H',os',bare,un,hok,r,rfl,dc,hd,hE'⟩:=hq';obtain rfl:u=Value.none:=r;have I3:Inv X pins σ H' s':=I2.call' os' un hok bare fun _ z=>nomatch z;have notin:∀b,hp.get? b=none->b∉frs X.stack:=fun b hb hm=>by obtain⟨_,o',ho',_⟩:=I1.stack.mem hm;exact nomatch hb.symm.trans ho'
   have hx:s'.heap.get? ea=some { cls:=.ref C,dict:=dc,data:=.fields #[.ref t,.none,.none,.none,.bool false,.none] }:=(show ObjOk X.prog X.w H' s'.heap ea (exN ea C t dc)from I3.hok ea _ hd).1;have ut:upd H1 ea (exN ea C t none) t=none:=by rw[af nt];exact ht0
   have tt':=un.keep t _ tt ut (notin t tn) (by intro z;cases z);refine⟨rfl,z6 (Yc (wpAny_point (z9 ⟨ea,_,rfl,I3.kIn,hx,rfl,⟨t,rfl⟩,?_⟩)))⟩;have hy:s'.heap.get? ea=some { cls:=.ref C,dict:=dc,data:=.fields #[.ref t,.none,.none,.none,.bool false,.none] }:=hx;have ne:∀b v,H' b=some v->v≠exN ea C t dc->b≠ea:=fun b v q hv z=>by rw[z,hd]at q;exact hv (Zi q).symm
   have ft:=un.free t _ tt ut (by intro z;cases z);have tr2:∀b v,H' b=some v->b≠t:=fun b v q z=>by rw[z,ft]at q;cases q
   have tfr:∀b v,H' b=some v->b∉frs X.stack:=fun b v q hm=>by have:=I3.stkFree b hm;rw[q]at this;cases this
   have oe:∀b o,hp.get? b=some o->b≠ea:=fun b o q z=>by rw[z]at q;exact nomatch mx.new.symm.trans q
   have ot:∀b o,hp.get? b=some o->b≠t:=fun b o q z=>by rw[z]at q;exact nomatch tn.symm.trans q
   have un1:Un (frs X.stack) [] H1 (del H' ea) hp s'.heap:=by
    refine⟨fun b o q n hb hx'=>un.keep b o (mx.keeps b o q) (by rw[af (oe b o q)];exact n) hb hx',fun b o q n hb hx'=>un.slot b o (mx.keeps b o q) (by rw[af (oe b o q)];exact n) hb hx',fun b o q n hx'=>?_,fun b o q hx'=>un.there b o (mx.keeps b o q) hx',fun b xs q=>?_,fun b o v q=>?_,fun b ps' q=>?_⟩
    ·rw[de (oe b o q)];exact un.free b o (mx.keeps b o q) (by rw[af (oe b o q)];exact n) hx'
    ·have:=un.tups b xs (by rw[af (ai q hea0)];exact q);rw[de (ne _ _ this (by intro z;cases z))];exact this
    ·have:=un.frzs b o v (by rw[af (ai q hea0)];exact q);rw[de (ne _ _ this (by intro z;cases z))];exact this
    ·obtain⟨more,this⟩:=un.tbls b ps' (by rw[af (ai q hea0)];exact q);exact⟨more,by rw[de (ne _ _ this (by intro z;cases z))];exact this⟩
   have hok1:HOk X.prog X.w (del H' ea) s'.heap:=fun b v q=>by obtain⟨hb,q⟩:=uk q;exact(I3.hok b v q).stay (fun _ _ _ z=>z) (fun b' z=>by rw[de (ne _ _ z (by intro z;cases z))];exact z) fun b' xs z=>by rw[de (ne _ _ z (by intro z;cases z))];exact z
   have hid:∀b o,s'.heap.get? b=some o->b≠ea->b≠t->b∉frs X.stack->(hideAll s'.heap (ea::t::frs X.stack)).get? b=some o:=fun b o q h1 h2 h3 =>
    hideAll_get _ q fun hm=>by
     rcases Zq.mp hm with z|hm
     ·exact h1 z
     rcases Zq.mp hm with z|hm
     ·exact h2 z
     ·exact h3 hm
   have Fx:Fl X H1 (del H' ea) ⟨hp,g,d,tk,os⟩ s' (hideAll s'.heap (ea::t::frs X.stack)):=⟨os',bare,un1,hok1,fun b o hb ho q=>by
    rcases ho with⟨v,z⟩|⟨o0,z⟩
    ·obtain⟨hb',z⟩:=uk z;exact hid b o q hb' (tr2 _ _ z) hb
    ·exact hid b o q (oe b o0 z) (ot b o0 z) hb⟩
   exact hR ea s' ⟨pins,σ,H1,del H' ea,_,_,t,.ref C,us,dc,I1,Fx,.inl ⟨fun b o q=>of_hideAll _ q,hideAll_none _ Zo,
    funFrames_hide I3.stack fun env he b hb=>Zh _ (Zh _ (Ym.mpr ⟨env,he,hb⟩)),_,hy,rfl,rfl⟩,⟨_,_,tt',rfl,rfl⟩,hideAll_none _ (Zh _ Zo),⟨_,hy,rfl⟩,hE'⟩
end
open PySem PySem.Spec PyProof.Rows PySem.W
theorem cu{X:Cx}:QCall X (.builtin "isinstance") (fun xs H Q=>∃ (x T:V) (u:Value) (b:Bool),xs=[x,T]/\(∀ v,RelV T v->v=u) /\
  ((∃ t,TyOf X.K H x t/\PySem.W.kitOne X.K t u=some b)\/∃ (a c:Addr) (dc:Option Addr),x=.ref a/\H a=some (exD a c dc)/\nM H dc/\ExK X.K c/\PySem.W.kitOne X.K (.ref c) u=some b)/\Q (.bl b) H):=by
 refine⟨?_⟩;intro pins s σ H xs us Q I r h;obtain⟨x,T,u,b,rfl,ht,hh,q⟩:=h;obtain⟨v,w',rfl,rx,ry⟩:=lh r;cases ht w' ry;rcases hh with⟨t,ty,e⟩|⟨a,c,dc,rfl,ha,hd,k,e⟩
 ·exact tM I rx ty e fun tk=>⟨.bl b,H,I.tok tk,rfl,q⟩
 ·cases rx;obtain⟨oe,od,ia,_⟩:=my I ha hd;exact y0 (tQ k) I.kIn ia e (fun z=>nomatch z) fun tk=>⟨.bl b,H,I.tok tk,rfl,q⟩
open PySem PySem.Spec PyProof.Rows PySem.W
def rJ(qual:Str)(params:Arguments)(body:Expr)(scope:Scope)(cl:List (Str×Addr))(pm:Value)(c:Addr)(ct:Value):FuncData:=kla_fn "<lambda>" qual params body scope cl pm (.ref c) ct
def fT(qual:Str)(params:Arguments)(body:Expr)(scope:Scope)(cl:List (Str×Addr))(pm:Value)(c:Addr)(ct:Value):Obj:={ cls:=.type "function",data:=.func (rJ qual params body scope cl pm c ct) }
def lH(a:Addr)(o:Obj):HO:=.ext fun h=>h.get? a=some o
def gQ(c:Addr)(qual:Str):HO:=.ext fun h=>h.CodeRec (.ref c) qual
theorem qh{P:Program}{w:World}{H:Hp}{h:Heap}{a:Addr}{o:Obj}(e:h.get? a=some o):ObjOk P w H h a (lH a o):=⟨e,⟨o,e⟩,fun _ _ x k=>k _ x⟩
theorem yc{P:Program}{w:World}{H:Hp}{h:Heap}{c:Addr}{q:Str}(e:h.CodeRec (.ref c) q):ObjOk P w H h c (gQ c q):=by obtain⟨c',oc,vs,t,e1,e2,e3,e4⟩:=id e;cases e1;refine⟨e,⟨oc,e2⟩,fun h1 h2 x k=>?_⟩;obtain⟨c',oc,vs,t,e1,e2,e3,e4⟩:=id x;cases e1;exact⟨c,oc,vs,t,rfl,k _ e2,e3,e4⟩
def Blt(h:Heap)(mg:Str->Option Value):Prop:=∃bm ob,mg "__builtins__" = some (.ref bm)/\bm≠builtinsNs/\h.get? bm=some ob/\ob.cls=.type "module"/\ob.dict=some builtinsNs/\ob.data=.plain
section
variable{X:Cx}{pins:List (Addr×Obj)}{σ:St}{H:Hp}{s:Shared}
theorem Inv.bltAt(I:Inv X pins σ H s)(B:Blt X.base X.mg){P:Addr}{ps:Array Value}(hP:H P=some (.tbl ps)):s.heap.BuiltinsAt X.mg P:=by
 obtain⟨bm,ob,b1,b2,b3,b4,b5,b6⟩:=B;refine⟨bm,ob,b1,b2,fun z=>?_,fun z=>?_,I.bk _ _ b3,b4,b5,b6⟩
 ·obtain⟨o,es,ep,e,d,_⟩:=I.ok.mod.glob;rw[<-z,b3]at e;cases e;rw[d]at b6;cases b6
 ·have:=(I.bs _ _ b3).2;rw[z,hP]at this;cases this
theorem Inv.grown{h':Heap}{P c f:Addr}{ps more:Array Value}{oc of':HO}{t':Nat}(I:Inv X pins σ H s)(hP:H P=some (.tbl ps))(k:∀b o,b≠P->s.heap.get? b=some o->h'.get? b=some o)(hc:s.heap.objs.size<=c)(hf:s.heap.objs.size<=f)(hcf:c≠f)(eP:h'.get? P=some { cls:=.none,data:=.fields (ps++more) })(nc:∀H',ObjOk X.prog X.w H' h' c oc)(nf:∀H',ObjOk X.prog X.w H' h' f of') :
  H c=none/\H f=none/\Inv X pins σ (upd (upd (upd H P (.tbl (ps++more))) c oc) f of') { s with heap:=h',toks:=t' }:=by
 have c0:=I.hok.fresh hc;have f0:=I.hok.fresh hf;have nP:∀{b:Addr} {u:HO},H b=some u->(∀qs,u≠.tbl qs)->b≠P:=fun{b u} e n z=>by rw[z,hP]at e;cases e;exact n _ rfl
 have up:∀{b:Addr},b≠P->b≠c->b≠f->upd (upd (upd H P (.tbl (ps++more))) c oc) f of' b=H b:=fun{b} n1 n2 n3=>by rw[af n3,af n2,af n1]
 have old:∀{b:Addr} {o:Obj},s.heap.get? b=some o->b≠c/\b≠f:=fun{b o} e=>⟨Zy (Zv (Zl e) hc),Zy (Zv (Zl e) hf)⟩
 have pcf:P≠c/\P≠f:=by have:=I.hok P _ hP;exact old (show s.heap.get? P=some _ from this)
 refine⟨c0,f0,I.un (t':=t') ⟨fun b o e n _ _=>k b o (fun z=>by rw[z,hP]at n;cases n) e,fun b o e n _ _=>⟨o.slots,k b o (fun z=>by rw[z,hP]at n;cases n) e⟩,fun b o e n _=>?_,fun b o e _=>?_,fun b xs e=>?_,fun b o u e=>?_,fun b qs e=>?_⟩ fun b u e=>?_⟩
 ·rw[up (fun z=>by rw[z,hP]at n;cases n) (old e).1 (old e).2];exact n
 ·by_cases z:b=P
  ·exact⟨_,z▸eP⟩
  ·exact⟨o,k b o z e⟩
 ·rw[up (nP e fun _ z=>nomatch z) (ai e c0) (ai e f0)];exact e
 ·rw[up (nP e fun _ z=>nomatch z) (ai e c0) (ai e f0)];exact e
 ·by_cases z:b=P
  ·subst z;rw[hP]at e;cases e;exact⟨more,by rw[af pcf.2,af pcf.1,ad]⟩
  ·exact⟨#[],by rw[up z (ai e c0) (ai e f0),e];simp⟩
 ·by_cases zf:b=f
  ·subst zf;rw[ad]at e;cases e;exact nf _
  ·rw[af zf]at e;by_cases zc:b=c
   ·subst zc;rw[ad]at e;cases e;exact nc _
   ·rw[af zc]at e;by_cases zP:b=P
    ·subst zP;rw[ad]at e;cases e;exact eP
    ·rw[af zP]at e;refine(I.hok b u e).stay (fun b' v hb' q=>k b' v (fun z=>?_) q) (fun b' z=>by rw[up (nP z fun _ z=>nomatch z) (ai z c0) (ai z f0)];exact z) fun b' xs z=>by rw[up (nP z fun _ z=>nomatch z) (ai z c0) (ai z f0)];exact z
     rcases hb' with rfl|hb'
     ·exact zP z
     ·rw[z,hP]at hb';cases hb'
end
def aP(q:Str)(P:Addr)(pos:Pos)(H:Hp):Prop:=∃ps:Array Value,H P=some (.tbl ps)/\TriplesOk ps.toList/\(codeAmong pos ps.toList=none\/∃c',codeAmong pos ps.toList=some (.ref c')/\H c'=some (gQ c' q))
def SameT(P:Addr)(H H':Hp):Prop:=∀b o,H b=some o->b≠P->H' b=some o
theorem SameT.of{P:Addr}{H H':Hp}(s:Same H H'):SameT P H H':=fun b o e _=>s b o e
theorem SameT.trans{P:Addr}{H H' H2:Hp}(s:SameT P H H')(t:SameT P H' H2):SameT P H H2:=fun b o e n=>t b o (s b o e n) n
theorem iJ{x y:Int}{c:Value}{a b:Tok}:∀l:List Value,TriplesOk l->TriplesOk (l++[.int x a,.int y b,c])
 | [],_=>trivial
 |.int _ _::.int _ _::_::rest,h=>iJ rest h
structure LamOk(P:Program)(w:World)(K:PySem.W.Frag)(mg:Str->Option Value)(base:Heap)(k:Nat)(qual:Str)(body:Expr)(scope:Scope)(x:Str)(sp:Sp):Prop where
 ex:∃N:List Str,FnScope N [x] scope/\(∀vs H Q E,sp vs H Q E->vs.length=1)/\∀(f c':Addr) (A:Around) (outer:List Env) (s:Shared) (H:Hp) (vs:List V) (Q:VK) (E:XK),Room k (A.deeper (envOfC qual scope s.heap.objs.size f (.ref c')))->sp vs H Q E ->
  ∃t,QE (cK CX0 P w K mg base N qual scope f (.ref c') A outer s H E) body t/\t (start N vs) H Q
open PySem PySem.Spec PyProof.Rows PySem.W
def xL(a:Addr)(tabs:List (Addr×Addr))(H:Hp):Prop:=∀b,H b=none\/(b=a/\∃o xs,H b=some (.frz o (.lst xs)))\/((∃c,(c,b)∈tabs)/\H b=some (.tbl #[]))
theorem vK{P:Program}{w:World}{K:PySem.W.Frag}{mg mb:Str->Option Value}{k:Nat}{fa a:Addr}{fd:FuncData}{x:Str}{sp:Sp}{s:Shared}{vs:List Value}{ns:List Int}{tabs:List (Addr×Addr)}(kx:K.In s.heap)(gx:s.heap.Ns mainGlobals mg)(bx:s.heap.Ns builtinsNs mb)(bb:∀y:Str,y≠"__name__"->mb y=bootBuiltins y)(nl:s.heap.NoLimit)(gn:s.gens=#[])(bl:Blt s.heap mg)(tx:∀q∈tabs,CodeHd s.heap q.1 q.2/\s.heap.get? q.2=some (tabObj #[]))(nt:noTabs K=true)(sa:s.heap.get? a=some { cls:=.type "list",data:=.seq vs.toArray })(si:IntsAre vs ns)(sl:ns.length<=sizeLine)(hr:Room k callerA)(F:∀base:Heap,K.In base->base.Ns mainGlobals mg->Blt base mg->(∀q∈tabs,CodeHd base q.1 q.2)->FnOk P w K mg base CX0 k fa fd [x] sp)(bind:∀(s:Shared) (u:Value),BindsTo s fd ⟨[u],[]⟩ [(x,u)])(go:∀H:Hp,(∀q∈tabs,H q.2=some (.tbl #[]))->SqL K H a (ns.map V.int)->sp [.ref a] H (fun v _=>v=.bl true) fun _ _ _=>False) :
  codeAny (model P w) callerA (.call (.ref fa) ⟨[.ref a],[]⟩) (fun r s'=>r=.ok (.ret (.bool true))/\OldK s.heap s'.heap/\s'.os=s.os/\AllBare s'.gens) s:=by
 have tabNot:∀{b:Addr} {c:Addr},(c,b)∈tabs->K.lookup b=none:=fun{b c} hm=>by
  cases e:K.lookup b with
  |none=>rfl
  |some o =>have e1:=(kx b o e).symm.trans (tx _ hm).2;cases e1;have:=Yv.mp nt _ (mem_of_lookupK e);cases this
 have aNot:∀{c:Addr},¬(c,a)∈tabs:=fun{c} hm=>by have:=(tx _ hm).2;rw[sa]at this;cases this
 have main:∀H:Hp,xL a tabs H->(∀q∈tabs,H q.2=some (.tbl #[]))->SqL K H a (ns.map V.int)->HOk P w H s.heap->(H a≠none->K.lookup a=none) ->
   codeAny (model P w) callerA (.call (.ref fa) ⟨[.ref a],[]⟩) (fun r s'=>r=.ok (.ret (.bool true))/\OldK s.heap s'.heap/\s'.os=s.os/\AllBare s'.gens) s:=by
  intro H ae ht hS ok ha;have free:∀{b:Addr} {o:Obj},s.heap.get? b=some o->(∀n m,o.data≠.seq n m)->(∀n,o.data≠.fields n)->H b=none:=fun{b o} e n1 n2=>by
   rcases ae b with z|⟨rfl,_⟩|⟨⟨c,hm⟩,_⟩
   ·exact z
   ·rw[sa]at e;cases e;exact absurd rfl (n1 _ _)
   ·rw[(tx _ hm).2]at e;cases e;exact absurd rfl (n2 _)
  have nsB:∀{b:Addr} {m:Str->Option Value},s.heap.Ns b m->(fN s.heap H).Ns b m:=fun{b m} ⟨o,es,ep,e,d,r⟩=>⟨o,es,ep,gP e (free e (fun _ _ z=>by rw[d]at z;cases z) fun _ z=>by rw[d]at z;cases z),d,r⟩
  have kB:K.In (fN s.heap H):=fun b o e=>gP (kx b o e) (by
   rcases ae b with z|⟨rfl,o',xs,z⟩|⟨⟨c,hm⟩,_⟩
   ·exact z
   ·rw[ha (by rw[z];simp)]at e;cases e
   ·rw[tabNot hm]at e;cases e)
  have bB:Blt (fN s.heap H) mg:=by obtain⟨bm,ob,b1,b2,b3,b4,b5,b6⟩:=bl;exact⟨bm,ob,b1,b2,gP b3 (free b3 (fun _ _ z=>by rw[b6]at z;cases z) fun _ z=>by rw[b6]at z;cases z),b4,b5,b6⟩
  have cB:∀q∈tabs,CodeHd (fN s.heap H) q.1 q.2:=fun q hq=>by
   obtain⟨o,ws,file,tf,fl,tg,inF,text,tt,c1,c2,c3,c4⟩:=(tx q hq).1;refine⟨o,ws,file,tf,fl,tg,inF,text,tt,gP c1 ?_,c2,c3,c4⟩;rcases ae q.1 with z|⟨z,_⟩|⟨⟨c,hm⟩,_⟩
   ·exact z
   ·rw[z,sa]at c1;cases c1;injection c2 with c2;exact absurd c2 (by decide)
   ·rw[(tx _ hm).2]at c1;cases c1;cases c2
  have mB:Mod K mg (fN s.heap H):=⟨kB,nsB gx,⟨mb,nsB bx,bb⟩,let⟨mc,n1,n2⟩:=nl;⟨mc,nsB n1,n2⟩⟩
  have env:Env0 P w K mg (fN s.heap H) callerA [] s H:=⟨rfl,mB,fun b o e=>yj e,Nat.le_of_eq (tJ _ _),trivial,fun b hb=>absurd (show b∈([]:List Addr)from hb) (by simp),ok,.of_eq gn⟩
  refine codeAny_mono ((F _ kB (nsB gx) bB cB).run callerA [] s H ⟨[.ref a],[]⟩ [.ref a] [.ref a] _ _ hr env (bind s (.ref a)) (.cons rfl .nil) (go H ht hS)) fun r s' h=>?_;cases r with
  |error e=>exact False.elim h
  |ok fl =>
   cases fl with
   |next=>exact False.elim h
   |brk=>exact False.elim h
   |cont=>exact False.elim h
   |ret u =>
    obtain⟨v,H',os,bare,un,ok',rv,hv⟩:=h;obtain rfl:v=.bl true:=hv;obtain rfl:u=Value.bool true:=rv;have each:∀b o,s.heap.get? b=some o->asItWas s.heap s'.heap b o/\∃o',s'.heap.get? b=some o':=fun b o e=>by
     rcases ae b with z|⟨rfl,o',xs,z⟩|⟨⟨c,hm⟩,z⟩
     ·have:=un.keep b o e z (by intro q;exact absurd (show b∈([]:List Addr)from q) (by simp)) (by simp);exact⟨.inl this,_,this⟩
     ·obtain⟨e1,_⟩:=ok b _ z;obtain⟨e2,_⟩:=ok' b _ (un.frzs b o' _ z);rw[e]at e1;cases e1;exact⟨.inl e2,_,e2⟩
     ·obtain⟨more,z2⟩:=un.tbls b _ z;have e2:s'.heap.get? b=some { cls:=.none,data:=.fields (#[]++more) }:=ok' b _ z2;have e1:=(tx _ hm).2;rw[e]at e1;cases e1;exact⟨.inr (.inl ⟨(((tx _ hm).1).tab e).isCodeTable,rfl,#[],more,rfl,e2⟩),_,e2⟩
    exact⟨rfl,⟨fun b o e=>(each b o e).1,fun b o e=>(each b o e).2⟩,os,bare⟩
 have rv:=mR si;have lv:=si.length;have inT:∀b,Decidable (∃c,(c,b)∈tabs):=fun b=>Classical.propDecidable _;cases hk:K.lookup a with
 |some o =>
  have e:=kx a o hk;rw[sa]at e;cases e;refine main (fun b=>@ite _ (∃c,(c,b)∈tabs) (inT b) (some (.tbl #[])) none) (fun b=>?_) (fun q hq=>if_pos ⟨q.1,hq⟩) (.inr ⟨_,vs.toArray,_,hk,rfl,rfl,rfl,by rw[Zj,lv];exact sl,by simpa using rv⟩) (fun b u z=>?_) (fun z=>absurd (if_neg fun⟨c,hm⟩=>aNot hm) z)
  ·by_cases c:∃c,(c,b)∈tabs
   ·exact .inr (.inr ⟨c,if_pos c⟩)
   ·exact .inl (if_neg c)
  ·by_cases c:∃c,(c,b)∈tabs
   ·have z':=(if_pos c).symm.trans z;cases z';obtain⟨c,hm⟩:=c;exact(tx _ hm).2
   ·have z':=(if_neg c).symm.trans z;cases z'
 |none =>
  refine main (fun b=>@ite _ (∃c,(c,b)∈tabs) (inT b) (some (.tbl #[])) (if b=a then some (.frz { cls:=.type "list",data:=.seq vs.toArray } (.lst (ns.map V.int)))else none)) (fun b=>?_) (fun q hq=>if_pos ⟨q.1,hq⟩) (.inl (.inr ⟨{ cls:=.type "list",data:=.seq vs.toArray },(if_neg fun⟨c,hm⟩=>aNot hm).trans (if_pos rfl)⟩)) (fun b u z=>?_) (fun _=>hk)
  ·by_cases c:∃c,(c,b)∈tabs
   ·exact .inr (.inr ⟨c,if_pos c⟩)
   ·by_cases hb:b=a
    ·exact .inr (.inl ⟨hb,_,_,(if_neg c).trans (if_pos hb)⟩)
    ·exact .inl ((if_neg c).trans (if_neg hb))
  ·by_cases c:∃c,(c,b)∈tabs
   ·have z':=(if_pos c).symm.trans z;cases z';obtain⟨c,hm⟩:=c;exact(tx _ hm).2
   ·have z':=(if_neg c).symm.trans z;by_cases hb:b=a
    ·rw[if_pos hb]at z';cases z';subst hb;exact⟨sa,by rw[Zu];exact sl,vs,_,rv,sa⟩
    ·rw[if_neg hb]at z';cases z'
theorem Fun.okC{P:Program}{w:World}{K:PySem.W.Frag}{mg:Str->Option Value}{base:Heap}{x qual:Str}{st:Stmt}{f c:Addr}{fd:FuncData}{N ps:List Str}{k:Nat}{sp:Sp}(F:Fun K x qual st f fd)(hc:fd.code=.ref c)(S:FnScope N ps (am st))(len:∀ vs H Q E,sp vs H Q E->vs.length=ps.length)(body:∀ (A:Around) (outer:List Env) (s:Shared) (H:Hp) (vs:List V) (Q:VK) (E:XK),Room k (A.deeper (envOfC qual (am st) s.heap.objs.size f (.ref c)))->sp vs H Q E ->
   ∃ t,QB (cK CX0 P w K mg base N qual (am st) f (.ref c) A outer s H E).nox (aV st) t/\t { nx:=fun _ H'=>Q .non H',rt:=Q } (start N vs) H):FnOk P w K mg base CX0 (k+1) f fd ps sp:=by
 obtain⟨oc,od,kV,doc,pm,an,cdv,ct,osl,rfl,lk,hcd⟩:=F.ex;obtain rfl:cdv=.ref c:=hc;refine rq lk hcd S len fun A outer s H vs Q E hr hs=>?_;obtain⟨t,h,q⟩:=body A outer s H vs Q E hr hs;exact⟨t,h.h.nox,q⟩
open PySem PySem.Spec PyProof.Rows PySem.W
inductive SKey where
 |i (n:Int)|s (t:Str)|bi (b:Bool)(n:Int)
def SKey.at(H:Hp):SKey->V->Prop
 |.i n,v=>v=.int n
 |.s t,v=>v=.str t
 |.bi b n,v=>∃a,v=.ref a/\H a=some (.tup [.bl b,.int n])
section
variable{X:Cx}{pins:List (Addr×Obj)}{σ:St}{H:Hp}{s:Shared}{h':Heap}
def rf(X:Cx)(pins:List (Addr×Obj))(σ:St)(f:Addr)(sp:Sp):Prop:=∀(s:Shared) (H:Hp) (u:Value) (v:V) (Q:VK),Inv X pins σ H s->RelV v u->sp [v] H Q E0->codeAny (model X.prog X.w) X.A.in1.in1 (.call (.ref f) ⟨[u],[]⟩) (CR CX0 X.stack X.prog X.w H s Q E0) s
structure SG(X:Cx)(pins:List (Addr×Obj))(σ:St)(H1:Hp)(m:Str->Option Value)(kS D:Addr)(e1:Nat)(ks:List SKey)(as:List V)(us:List Value)(e:Nat)(H:Hp)(s:Shared):Prop where
 I:Inv X pins σ H s
 sm:Same H1 H
 fk:aX X pins H kS
 fd:aX X pins H D
 bk:X.base.get? kS=none
 bd:X.base.get? D=none
 hk:s.heap.get? kS=some (seqObj "list" (List.toArray us) e)
 hd:s.heap.get? D=some (seqObj "list" #[] e1)
 ns:s.heap.Ns X.env.locals m
 vals:Vals as us
 keys:∀(i:Nat) (a:V) (k:SKey),as[i]?=some a->ks[i]?=some k->k.at H a
theorem pE(b:Bool){xs:List V}{us:List Value}(h:Vals xs us):Vals (katRev b xs) (katRev b us):=by
 cases b with
 |false=>exact h
 |true =>
  show Vals xs.reverse us.reverse;induction h with
  |nil=>exact .nil
  |cons r _ ih =>rw[List.reverse_cons,List.reverse_cons];exact ih.append (.cons r .nil)
theorem yh(n m:Int):HT.lexLt [n] [m]=decide (n<m):=by
 rw[HT.lexLt_cons,HT.lexLt_nil_nil];by_cases z:n=m
 ·rw[if_pos z,decide_eq_false (by omega)]
 ·rw[if_neg z]
end
open PySem PySem.Spec PyProof.Rows PySem.W
structure LamScope(x y:Str)(sc:Scope):Prop where
 kind:sc.kind=.function
 co:sc.isCoroutine=false
 gen:sc.isGenerator=false
 lx:sc.names.lookup x=some .local
 ly:sc.names.lookup y=some .free
 nc:∀z∈sc.names,z.2≠.cell
 nf:∀z∈sc.names,z.2=.free->z.1=y
 ne:x≠y
def cxX(CX:CXT)(P:Program)(w:World)(K:PySem.W.Frag)(mg:Str->Option Value)(base:Heap)(N:List Str)(qual:Str)(scope:Scope)(f:Addr)(cd:Value)(cl:List (Str×Addr))(A:Around)(outer:List Env)(s:Shared)(H:Hp)(E:XK):Cx where
 prog:=P
 w:=w
 K:=K
 mg:=mg
 base:=base
 A:=A.deeper (envX qual scope s.heap.objs.size f cd cl)
 N:=N
 s₀:=s
 H₀:=H
 env:=envX qual scope s.heap.objs.size f cd cl
 outer:=outer
 stack:=envX qual scope s.heap.objs.size f cd cl::outer
 ex:=[]
 calm:=true
 fn:=fun _=>false
 pn:=[]
 xe:=fun e s'=>wpAny (model P w) (A.deeper (envX qual scope s.heap.objs.size f cd cl)) (leaving (envX qual scope s.heap.objs.size f cd cl) e) (fun _ s''=>CX outer H s E e s'') (fun e' s''=>CX outer H s E e' s'') s'
theorem rH{CX:CXT}{P:Program}{w:World}{K:PySem.W.Frag}{mg:Str->Option Value}{base:Heap}{x y:Str}{qual:Str}{scope:Scope}{f c:Addr}{cd:Value}{A:Around}{outer:List Env}{s:Shared}{H:Hp}{E:XK}{u ku:Value}{v kv:V}{h1:Heap}{tk:Nat}(S:LamScope x y scope)(hd:A.handled=none)(e0:Env0 P w K mg base A outer s H)(r:RelV v u)(kr:RelV kv ku)(hc:s.heap.IsCell c (some ku))(fc:H c=none)(hns:h1.Ns s.heap.objs.size fun z=>[(x,u)].reverse.lookup z)(hk:∀b o,s.heap.get? b=some o->h1.get? b=some o) :
  Inv (cxX CX P w K mg base [x,y] qual scope f cd [(y,c)] A outer s H E) [] [some v,some kv] H { s with heap:=h1,toks:=tk }:=by
 have noA:∀b:Addr,b∉(cxX CX P w K mg base [x,y] qual scope f cd [(y,c)] A outer s H E).ex:=fun b z=>absurd (show b∈([]:List Addr)from z) (by simp);have lk:∀{z:Str} {d:Addr},([(y,c)]:List (Str×Addr)).lookup z=some d->z=y/\d=c:=fun{z d} h=>by
  rw[ZK]at h;split at h
  ·rename_i e;cases h;exact⟨by simpa using e,rfl⟩
  ·cases h
 have ly:([(y,c)]:List (Str×Addr)).lookup y=some c:=by simp
 have cell1:h1.IsCell c (some ku):=by obtain⟨o,a1,a2⟩:=hc;exact⟨o,hk _ _ a1,a2⟩
 refine⟨⟨e0.mod,S.kind,rfl,rfl,Zd _,fun z z' d q1 q2=>?_,fun z hz=>?_,fun z d q _=>(nomatch q),fun _=>hd,Around.frames_deeper e0.frames,.inr ⟨rfl,rfl⟩,fun b z=>absurd z (noA b),e0.bs,e0.bsz,fun b _ _=>noA b,fun b z=>absurd z (noA b),e0.funs,e0.frf⟩,
  rfl,e0.bare,Un.kept hk,⟨_,hns,fun i z v' q1 q2 q3=>?_⟩,fun z d q=>⟨some ku,by rw[(lk q).2];exact cell1⟩,e0.hok.fresh (Zd _),fun z d q=>by rw[(lk q).2];exact fc,fun p hp=>absurd (show p∈([]:List (Addr×Obj)) from hp) (by simp),e0.hok.kept hk,rfl⟩
 ·exact(lk q1).1.trans (lk q2).1.symm
 ·have hz:scope.names.lookup z=some .cell\/scope.names.lookup z=some .free:=hz;rcases hz with hz|hz
  ·exact absurd rfl (S.nc _ (y8 hz))
  ·exact⟨c,by rw[show z=y from S.nf _ (y8 hz) rfl];exact ly⟩
 ·match i,q1,q2 with
  |0,q1,q2 =>cases q1;cases q2;exact⟨u,r,.inl ⟨S.lx,by simp⟩⟩
  |1,q1,q2 =>cases q1;cases q2;exact⟨ku,kr,.inr ⟨.inr S.ly,c,ly,cell1⟩⟩
  |i+2,q1,_=>simp[cxX]at q1
section
variable{X:Cx}{pins:List (Addr×Obj)}{σ:St}
theorem vJ{k j:Nat}{x y qual:Str}{params:Arguments}{body:Expr}{scope:Scope}{f c c':Addr}{pm ct:Value}{kv:V}{sp:Sp}(S:LamScope x y scope)(hi:X.N[j]? = some y)(hσ:σ[j]? = some (some kv))(hyc:X.env.scope.names.lookup y=some .cell)(hcy:X.env.cells.lookup y=some c)(hr:Room (k+1) X.A.in1.in1)(hbd:∀ (s:Shared) (u:Value),BindsTo s (rJ qual params body scope [(y,c)] pm c' ct) ⟨[u],[]⟩ [(x,u)])(hbody:∀ (A:Around) (outer:List Env) (s:Shared) (H:Hp) (v:V) (Q:VK),Room k (A.deeper (envX qual scope s.heap.objs.size f (.ref c') [(y,c)]))->sp [v] H Q E0 ->
   ∃ t,PE (cxX CX0 X.prog X.w X.K X.mg X.base [x,y] qual scope f (.ref c') [(y,c)] A outer s H E0) body t/\t [some v,some kv] H Q) :
  ∀l,rf (wX X l) pins σ f (fun vs H Q E=>H f=some (lH f (fT qual params body scope [(y,c)] pm c' ct))/\H c'=some (gQ c' qual)/\sp vs H Q E):=by
 intro l s H u v Q I ru ⟨hf,hc,hsp⟩;have e0:Env0 X.prog X.w X.K X.mg X.base X.A.in1.in1 X.stack s H:=by have e0:=I.env0;exact⟨e0.frames,e0.mod,e0.bs,e0.bsz,e0.funs,e0.frf,e0.hok,e0.bare⟩
 have lim:s.heap.NoLimit:=e0.mod.nolimit.keeps fun b o e=>(e0.bs b o e).1;have of1:=(e0.hok f _ hf).1;have oc1:=(e0.hok c' _ hc).1;obtain⟨m,_,look⟩:=I.loc;obtain⟨ku,kr,lk⟩:=look j y kv hi hσ (.inr (.inl hyc));have cell:s.heap.IsCell c (some ku):=by
  rcases lk with⟨z,_⟩|⟨_,d,e1,e2⟩
  ·have z':X.env.scope.names.lookup y=some .local:=z;rw[hyc]at z';cases z'
  ·have e1':X.env.cells.lookup y=some d:=e1;rw[hcy]at e1';cases e1';exact e2
 have fc:H c=none:=I.freeC y c hcy;refine kla_callFunE hr.depth of1 rfl S.co S.gen rfl oc1 (hbd s u _ _ _ _ ?_);refine wpAny_newFunctionEnv S.nc (fun z hz=>?_) (fun h1 hns hsb=>⟨lim.keeps ?_,kla_codeExpr ?_⟩) S.kind
 ·rw[Zw.mp hz];exact S.lx
 all_goals have hk:∀b o,s.heap.get? b=some o->h1.get? b=some o:=fun b o e=>hsb.extBut b o (Zy (Zl e)) (Za _ e)
 ·exact hk
 ·obtain⟨t,ht,hq⟩:=hbody X.A.in1.in1 X.stack s H v Q (hr.deeper _) hsp;have I2:=rH (CX:=CX0) (qual:=qual) (f:=f) (cd:=.ref c') (E:=E0) (tk:=s.toks+1) S hr.hd e0 ru kr cell fc hns hk;refine ZH (ht [] _ _ H _ I2 hq) (fun u s' hz9=>?_) fun e s' hs=>hs;obtain⟨v,H',J,rv,q⟩:=hz9;exact⟨v,H',J.os,J.bare,J.base,J.hok,rv,q⟩
end
open PySem PySem.Spec PyProof.Rows PySem.W
section
variable{X:Cx}{c P:Addr}{params:Arguments}{body:Expr}{scope:Scope}{pos:Pos}{cl:List (Str×Addr)}
def sF(cl:List (Str×Addr))(X:Cx)(P:Addr)(params:Arguments)(body:Expr)(scope:Scope)(pos:Pos):TE:=fun _ H Q=>∃ps:Array Value,H P=some (.tbl ps)/\TriplesOk ps.toList /\
 ((∃ c',codeAmong pos ps.toList=some (.ref c')/\H c'=some (gQ c' (X.env.qual++"<lambda>"))/\∀ f ct,H f=none->Q (.ref f) (upd H f (lH f (fT (X.env.qual++"<lambda>") params body scope cl ((X.mg "__name__").getD .none) c' ct)))) \/
  (codeAmong pos ps.toList=none/\∀ f c' ct,H f=none->H c'=none->c'≠f->Q (.ref f) (upd (upd (upd H P (.tbl (ps++#[rawInt pos.line,rawInt pos.col,.ref c']))) c' (gQ c' (X.env.qual++"<lambda>"))) f (lH f (fT (X.env.qual++"<lambda>") params body scope cl ((X.mg "__name__").getD .none) c' ct)))))
theorem yF(hcode:X.env.code=.ref c)(hge:X.env.globals=mainGlobals)(C:CodeHd X.base c P)(B:Blt X.base X.mg)(hdef:defaultsOf params X.env=([],[]))(hcl:closureFor scope X.env=pure cl):PE X (.Lambda params body scope pos) (sF cl X P params body scope pos):=by
 intro pins s σ H Q I h;obtain⟨ps,hP,ht,hh⟩:=h;have oP:s.heap.get? P=some (tabObj ps):=I.hok P _ hP;have hg:s.heap.Ns mainGlobals X.mg:=I.ok.mod.glob.keeps I.bk;have hb:=I.bltAt B hP;refine kla_eval hdef ?_;rcases hh with⟨c',hf,hc',q⟩|⟨hnf,q⟩
 ·refine kla_makeFunctionHit hcl hge hg hcode (C.keeps I.bk) oP ht hf hb fun ct h' tk kp hsz=>?_;have hn:=I.hok.fresh hsz;exact⟨.ref _,_,I.laid (t':=tk) (fun b o e=>Za _ (kp b o e)) hsz (qh (Zn _ rfl)),rfl,q _ ct hn⟩
 ·have hgP:mainGlobals≠P:=fun z=>by obtain⟨o,es,ep,e,d,_⟩:=hg;rw[z,oP]at e;cases e;cases d
  refine kla_makeFunction hcl hge hg hcode (C.keeps I.bk) oP ht hnf hgP hb fun c' ct h' tk hx hge' hlt hrec htb=>?_;have hnF:c'≠h'.objs.size:=Zy hlt;obtain⟨i1,i2,i3⟩:=I.grown (t':=tk) (c:=c') (f:=h'.objs.size) (h':=h'.push (fT (X.env.qual++"<lambda>") params body scope cl ((X.mg "__name__").getD .none) c' ct)) (oc:=gQ c' (X.env.qual++"<lambda>")) (of':=lH h'.objs.size (fT (X.env.qual++"<lambda>") params body scope cl ((X.mg "__name__").getD .none) c' ct)) hP
   (fun b o hb' e=>Za _ (hx b o hb' e)) hge' (ZB hge' (Nat.le_of_lt hlt)) hnF (Za _ htb) (fun _=>yc (by
    obtain⟨c₂,oc,vs,t,e1,e2,e3,e4⟩:=hrec;exact⟨c₂,oc,vs,t,e1,Za _ e2,e3,e4⟩)) (fun _=>qh (Zn _ rfl))
  exact⟨.ref _,_,i3,rfl,q _ c' ct i2 i1 hnF⟩
structure LamOkX(P:Program)(w:World)(K:PySem.W.Frag)(mg:Str->Option Value)(base:Heap)(k:Nat)(qual:Str)(body:Expr)(scope:Scope)(x y:Str)(sp:V->Sp):Prop where
 sc:LamScope x y scope
 ex:∀(f c' c:Addr) (kv:V) (A:Around) (outer:List Env) (s:Shared) (H:Hp) (v:V) (Q:VK),Room k (A.deeper (envX qual scope s.heap.objs.size f (.ref c') [(y,c)]))->sp kv [v] H Q E0 ->
  ∃t,QE (cxX CX0 P w K mg base [x,y] qual scope f (.ref c') [(y,c)] A outer s H E0) body t/\t [some v,some kv] H Q
def pN(X:Cx)(P:Addr)(q:Str)(lpos:Pos)(params:Arguments)(body:Expr)(scope:Scope)(cl:List (Str×Addr))(H1:Hp)(f:Addr)(H2:Hp):Prop :=
 ∃(c':Addr) (ct:Value),SameT P H1 H2/\aP q P lpos H2/\H2 f=some (lH f (fT q params body scope cl ((X.mg "__name__").getD .none) c' ct))/\H2 c'=some (gQ c' q)/\f≠P/\c'≠P
theorem vI{H1:Hp}{lpos:Pos}{σ:St}{R:VK}(tab:aP (X.env.qual++"<lambda>") P lpos H1)(h:∀f H2,pN X P (X.env.qual++"<lambda>") lpos params body scope cl H1 f H2->R (.ref f) H2):sF cl X P params body scope lpos σ H1 R:=by
 obtain⟨ps,tP,t3,tc⟩:=tab;refine⟨ps,tP,t3,?_⟩;rcases tc with hno|⟨c',hy,hc'⟩
 ·refine .inr ⟨hno,fun f c' ct f0 c0 hcf=>h _ _ ?_⟩;have nPf:f≠P:=fun z=>by rw[z,tP]at f0;cases f0
  have nPc:c'≠P:=fun z=>by rw[z,tP]at c0;cases c0
  refine⟨c',ct,fun b o e hb=>?_,⟨_,by rw[af (ZN nPf),af (ZN nPc),ad],?_,.inr ⟨c',?_,by rw[af hcf,ad]⟩⟩,ad,by rw[af hcf,ad],nPf,nPc⟩
  ·rw[af (ai e f0),af (ai e c0),af hb];exact e
  ·rw[ZE];exact iJ _ t3
  ·rw[ZE];exact codeAmong_snoc _ t3 hno
 ·refine .inl ⟨c',hy,hc',fun f ct f0=>h _ _ ?_⟩;have nPf:f≠P:=fun z=>by rw[z,tP]at f0;cases f0
  have nPc:c'≠P:=fun z=>by rw[z,tP]at hc';cases hc'
  exact⟨c',ct,fun b o e hb=>by rw[af (ai e f0)];exact e,⟨ps,by rw[af (ZN nPf)];exact tP,t3,.inr ⟨c',hy,by rw[af (ai hc' f0)];exact hc'⟩⟩,ad,by rw[af (ai hc' f0)];exact hc',nPf,nPc⟩
end
open PySem PySem.Spec PyProof.Rows PySem.W
section
variable{X:Cx}
theorem pT{P:Program}{w:World}{H:Hp}{h:Heap}(ok:HOk P w H h):∀{ds:List PyData} {xs:List V} {us:List Value},DtAll H ds xs->Vals xs us->PyData.canLayAll0 ds=true->∀(dx:PyData),us.length=ds.length/\∀(i:Nat) (hi:i<us.length) (hd:i<ds.length),eU h dx us[i]=PyData.eqv ds[i] dx
 | [],xs,us,hd,r,_,dx=>by
  have e:xs=[]:=by simpa only[DtAll]using hd
  subst e;cases r;exact⟨rfl,fun i hi=>absurd hi (Nat.not_lt_zero _)⟩
 |d::ds,xs,us,hd,r,hl,dx=>by
  have e:∃y ys,xs=y::ys/\Dt H d y/\DtAll H ds ys:=by simpa only[DtAll]using hd
  obtain⟨y,ys,rfl,h1,h2⟩:=e;cases r with
  |cons r1 r2 =>
   have hl':d.canLay0=true/\PyData.canLayAll0 ds=true:=by simpa[PyData.canLayAll0]using hl
   obtain⟨as,q1⟩:=Dt.reads ok d y _ h1 r1;obtain⟨i1,i2⟩:=pT ok h2 r2 hl'.2 dx;refine⟨by rw[Zr,Zr,i1],fun i hi hd=>?_⟩;cases i with
   |zero=>exact iM q1 hl'.1
   |succ i=>exact i2 i _ _
def uE:V->List V->Hp->VK->Prop:=fun x vs H Q=>∃(l:Addr) (xs:List V) (y:V) (dy:PyData) (ds:List PyData) (j:Nat) (hj:j<ds.length),x=.ref l/\vs=[y]/\H l=some (.lst xs)/\Dt H dy y/\DtAll H ds xs/\SeqAt.shaped dy=true/\PyData.canLayAll0 ds=true/\ds.length<=1000/\PyData.eqv ds[j] dy=true/\(∀(i:Nat) (hi:i<j),PyData.eqv (ds[i]'(Nat.lt_trans hi hj)) dy=false)/\Q (.int (j:Int)) H
theorem vO(hu:X.A.in1.units+64<cLine):MtM X "list.index" uE:=by
 intro pins s σ H x vs v us Q I rx rv h;obtain⟨l,xs,y,dy,ds,j,hj,rfl,rfl,hH,h1,h2,s1,s2,hz,hyes,hno,q⟩:=h;cases rx;obtain⟨u,rfl,ru⟩:=rv.one;obtain⟨z,its,n,r,hl,e⟩:=I.lstM hH;obtain⟨el,ea⟩:=pT I.hok h2 r s2 dy;have hj':j<its.length:=by omega
 refine call_meets F.slot_list_index ⟨_,e,rfl⟩ F.entry_list_index (F.args_list_index_2 _ _) (SeqAt.list_indexAt l its.toArray n none #[] u (eU s.heap dy) j (by simpa using hj') (by omega) ?_ ?_) ⟨e,fun y' hy'=>mw I hu h1 ru h2 r s1 s2 y' (by simpa using hy'),?_⟩
 ·show eU s.heap dy its.toArray[j]=true;rw[List.getElem_toArray,ea j hj' hj,hyes]
 ·intro m hm hmj;rw[List.getElem_toArray,ea m (by simpa using hm) (by omega),hno m hmj]
 ·refine⟨.int _,H,I.tok _,⟨_,rfl⟩,?_⟩;exact q
end
section
variable{X:Cx}{o e:Expr}{to te:TE}{apos cpos:Pos}
theorem yT{k:Nat}(hr:Room k X.A)(ho:QE X o to)(he:QE X e te)(hs:aF e=true:=by rfl)(hbase:attributeBase o "index" X.env (eval o X.env)=eval o X.env:=by rfl)(hline:(apos.endLine==cpos.line)=true:=by rfl) :
  QE X (.Call (.Attribute o "index" apos) [e] [] cpos) (tBM X.K "list" uE to (fL te fz)):=by
 have h1:=aG (es:=[]) (env:=X.env) hs;have h2:starEach ([]:List Expr) X.env=[]:=rfl;refine⟨rY PySem.F.plainAttrs_list PySem.F.slot_list_index PySem.F.type_list_index (vO (by have:=hr.un;show X.A.units+_+64<_;omega)) ho.h (pa he.h kM hs) hbase ?_ hline h1 (by rw[h2];rfl)⟩;rw[h1,h2];rfl
end
open PySem PyProof.Rows PySem.W
def dJ:Bool->Keyed->Array Keyed->Nat->Nat->Nat->StateT SortSt Sem (Option Nat):=sortPriv%PySem.Builtin.gallop
def zLo:Array Keyed->Array Keyed->StateT SortSt Sem (Array Keyed):=sortPriv%PySem.Builtin.mergeLo
def zHi:Array Keyed->Array Keyed->StateT SortSt Sem (Array Keyed):=sortPriv%PySem.Builtin.mergeHi
def iL:Nat->StateT SortSt Sem Unit:=sortPriv%PySem.Builtin.setMinGallop
def iK(le:Bool)(ky:Keyed)(ar:Array Keyed)(ba i:Nat):StateT SortSt Sem (Option Bool):=do
 let it ←elem' ar (ba+i)
 if le then lt' it ky else do
  let o ←lt' ky it
  pure (o.map (!·))
theorem zo(le:Bool)(ky:Keyed)(ar:Array Keyed)(ba n at0:Nat):dJ le ky ar ba n at0=(do
 let mut las:=0;let mut ofs:=1;let mut lo:=0;let mut hi:=0
 let some rig ←iK le ky ar ba at0|return none
 if rig then
  for _ in[0:n]do
   if ofs>=n-at0 then break
   let some mo ←iK le ky ar ba (at0+ofs)|return none
   if !mo then break
   las:=ofs;ofs:=2*ofs+1
  lo:=at0+las+1;hi:=at0+min ofs (n-at0)
 else
  for _ in[0:n]do
   if ofs>=at0+1 then break
   let some fo ←iK le ky ar ba (at0-ofs)|return none
   if fo then break
   las:=ofs;ofs:=2*ofs+1
  lo:=at0+1-min ofs (at0+1);hi:=at0-las
 for _ in[0:n]do
  if lo>=hi then break
  let some mo ←iK le ky ar ba (lo+(hi-lo) / 2)|return none
  if mo then lo:=lo+(hi-lo) / 2+1 else hi:=lo+(hi-lo) / 2
 return some hi):=rfl
theorem B1(a b:Array Keyed):zLo a b=(do
 liftM (rule "list.sort.merge-lo");let e0 ←elem' b 0;let mut out:Array Keyed:=#[e0];let mut ia:=0;let mut ib:=1
 if ib==b.size then return out++a.extract ia a.size++b.extract ib b.size
 if ia+1==a.size then return out++b.extract ib b.size++a.extract ia a.size
 let mut mg:=gallopOf (←get)
 for _ in[0:a.size+b.size]do
  let mut ac:=0;let mut bc:=0
  for _ in[0:a.size+b.size]do
   let y ←elem' b ib;let x ←elem' a ia
   let some won ←lt' y x|return out++a.extract ia a.size++b.extract ib b.size
   if won then
    let y ←elem' b ib;out:=out.push y;ib:=ib+1;bc:=bc+1;ac:=0
    if ib==b.size then return out++a.extract ia a.size++b.extract ib b.size
    if bc>=mg then break
   else
    let x ←elem' a ia;out:=out.push x;ia:=ia+1;ac:=ac+1;bc:=0
    if ia+1==a.size then return out++b.extract ib b.size++a.extract ia a.size
    if ac>=mg then break
  liftM (rule "list.sort.gallop");mg:=mg+1
  for _ in[0:a.size+b.size]do
   if mg>1 then mg:=mg-1
   iL mg;let y ←elem' b ib
   let some k ←dJ false y a ia (a.size-ia) 0|return out++a.extract ia a.size++b.extract ib b.size
   ac:=k
   if k>0 then
    out:=out++a.extract ia (ia+k);ia:=ia+k
    if ia+1==a.size then return out++b.extract ib b.size++a.extract ia a.size
    if ia==a.size then return out++a.extract ia a.size++b.extract ib b.size
   let y ←elem' b ib;out:=out.push y;ib:=ib+1
   if ib==b.size then return out++a.extract ia a.size++b.extract ib b.size
   let x ←elem' a ia
   let some k ←dJ true x b ib (b.size-ib) 0|return out++a.extract ia a.size++b.extract ib b.size
   bc:=k
   if k>0 then
    out:=out++b.extract ib (ib+k);ib:=ib+k
    if ib==b.size then return out++a.extract ia a.size++b.extract ib b.size
   let x ←elem' a ia;out:=out.push x;ia:=ia+1
   if ia+1==a.size then return out++b.extract ib b.size++a.extract ia a.size
   if ac<7&&bc<7 then break
  mg:=mg+1;iL mg
 unsupported "internal:list.sort.merge-bound"):=rfl
theorem B0(a b:Array Keyed):zHi a b=(do
 liftM (rule "list.sort.merge-hi");let mut na:=a.size-1;let mut nb:=b.size;let e0 ←elem' a na;let mut out:Array Keyed:=#[e0]
 if na==0 then return a.extract 0 na++b.extract 0 nb++out.reverse
 if nb==1 then return b.extract 0 nb++a.extract 0 na++out.reverse
 let mut mg:=gallopOf (←get)
 for _ in[0:a.size+b.size]do
  let mut ac:=0;let mut bc:=0
  for _ in[0:a.size+b.size]do
   let y ←elem' b (nb-1);let x ←elem' a (na-1)
   let some won ←lt' y x|return a.extract 0 na++b.extract 0 nb++out.reverse
   if won then
    na:=na-1;let x ←elem' a na;out:=out.push x;ac:=ac+1;bc:=0
    if na==0 then return a.extract 0 na++b.extract 0 nb++out.reverse
    if ac>=mg then break
   else
    nb:=nb-1;let y ←elem' b nb;out:=out.push y;bc:=bc+1;ac:=0
    if nb==1 then return b.extract 0 nb++a.extract 0 na++out.reverse
    if bc>=mg then break
  liftM (rule "list.sort.gallop");mg:=mg+1
  for _ in[0:a.size+b.size]do
   if mg>1 then mg:=mg-1
   iL mg;let y ←elem' b (nb-1)
   let some k ←dJ false y a 0 na (na-1)|return a.extract 0 na++b.extract 0 nb++out.reverse
   ac:=na-k
   if na-k>0 then
    out:=out++(a.extract k na).reverse;na:=k
    if na==0 then return a.extract 0 na++b.extract 0 nb++out.reverse
   nb:=nb-1;let y ←elem' b nb;out:=out.push y
   if nb==1 then return b.extract 0 nb++a.extract 0 na++out.reverse
   let x ←elem' a (na-1)
   let some k ←dJ true x b 0 nb (nb-1)|return a.extract 0 na++b.extract 0 nb++out.reverse
   bc:=nb-k
   if nb-k>0 then
    out:=out++(b.extract k nb).reverse;nb:=k
    if nb==1 then return b.extract 0 nb++a.extract 0 na++out.reverse
    if nb==0 then return a.extract 0 na++b.extract 0 nb++out.reverse
   na:=na-1;let x ←elem' a na;out:=out.push x
   if na==0 then return a.extract 0 na++b.extract 0 nb++out.reverse
   if ac<7&&bc<7 then break
  mg:=mg+1;iL mg
 unsupported "internal:list.sort.merge-bound"):=rfl
def jN(ar:Array Keyed)(at0:Nat)(xs:Array Keyed):Array Keyed:=xs.toList.zipIdx.foldl (fun a (p,j)=>a.setIfInBounds (at0+j) p) ar
theorem BZ(i:Nat):mergeAt' i=(do
 let st ←get
 let(some (sa,na,pw),some (sb,nb,_)):=((pendingOf st)[i]?,(pendingOf st)[i+1]?)|unsupported "internal:list.sort.pending"
 set (setPending st (((pendingOf st).setIfInBounds i (sa,na+nb,pw)).eraseIdxIfInBounds (i+1)))
 let y ←elem' (arrOf st) sb
 let some k ←dJ false y (arrOf st) sa na 0|return false
 if na-k==0 then return true
 let x ←elem' (arrOf st) (sa+k+(na-k)-1)
 let some nc ←dJ true x (arrOf st) sb nb (nb-1)|return false
 if nc==0 then return true
 let mer ←if na-k<=nc then zLo ((arrOf st).extract (sa+k) sb) ((arrOf st).extract sb (sb+nc))else zHi ((arrOf st).extract (sa+k) sb) ((arrOf st).extract sb (sb+nc))
 modify fun st=>setArr st (jN (arrOf st) (sa+k) mer)
 return (failedOf (←get)).isNone):=rfl
open PySem PyProof.Rows PySem.W
section
variable{prog:Program}{w:World}{A:Around}{E:Value->Shared->Prop}{s:Shared}{κ:SortKind}{it:Array Keyed}{lt:Nat->Nat->Bool}{N:Nat}{st:SortSt}
def Zc(prog:Program)(w:World)(A:Around)(s:Shared)(κ:SortKind)(it:Array Keyed)(lt:Nat->Nat->Bool)(N:Nat):Prop :=
 ∀i j (C:Bool->Shared->Prop),i<N->j<N->C (lt i j) s->kas_cmp prog w A κ it i j C s
theorem pG(Z:Zc prog w A s κ it lt N){i j:Nat}{Q:Option Bool->SortSt->Prop}(hk:kindOf st=κ)(hi:i<N)(hj:j<N)(h:Q (some (lt i j)) st):wpS (model prog w) A E s (lt' (kas_item it i) (kas_item it j)) Q st:=by rw[lt'_eq];refine Zf (wpS_get ?_);rw[hk];refine Zf (wpS_lift (wpAny_attempt (ZH (Z i j (fun c s'=>c=lt i j/\s'=s) hi hj ⟨rfl,rfl⟩) (fun c s' hc=>?_) fun _ _ hF=>hF.elim)));obtain⟨rfl,rfl⟩:=hc;exact⟨rfl,Zk h⟩
theorem B2{q:Array Nat}{i:Nat}(hi:i<q.size):elem' (q.map (kas_item it)) i=pure (kas_item it (gA q i)):=by
 rw[elem'_eq];have e:(q.map (kas_item it))[i]?=some (kas_item it (gA q i)):=by
  rw[Array.getElem?_map];have e1:gA q i=q[i]:=by unfold gA;simp[Array.getD,hi]
  rw[e1];simp[hi]
 rw[e]
def zB(lt:Nat->Nat->Bool)(le:Bool)(k x:Nat):Bool:=if le=true then lt x k else !lt k x
theorem C1(Z:Zc prog w A s κ it lt N){le:Bool}{k ba i:Nat}{q:Array Nat}{Q:Option Bool->SortSt->Prop}(hk:kindOf st=κ)(hK:k<N)(hi:ba+i<q.size)(hq:gA q (ba+i)<N)(h:Q (some (zB lt le k (gA q (ba+i)))) st) :
  wpS (model prog w) A E s (iK le (kas_item it k) (q.map (kas_item it)) ba i) Q st:=by
 unfold iK;rw[B2 hi];refine Zf (Zk ?_);cases le with
 |true =>simp only[if_true];exact pG Z hk hq hK h
 |false =>simp only[Bool.false_eq_true,if_false];exact Zf (pG Z hk hK hq (Zk h))
theorem B3{le:Bool}{ky:Keyed}{ar:Array Keyed}{ba n at0:Nat}{B:Nat->Bool}{Q:Option Nat->SortSt->Prop}(hb:∀i (Q:Option Bool->SortSt->Prop),i<n->Q (some (B i)) st->wpS (model prog w) A E s (iK le ky ar ba i) Q st)(h0:at0<n)(mono:∀i j,i<=j->j<n->B j=true->B i=true)(h:∀m,m<=n->(∀i,i<m->B i=true)->(∀i,m<=i->i<n->B i=false)->Q (some m) st):wpS (model prog w) A E s (dJ le ky ar ba n at0) Q st:=by
 have fin:∀ lo hi,lo<=hi->hi<=n->(∀ i,i<lo->B i=true)->(∀ i,hi<=i->i<n->B i=false)->wpS (model prog w) A E s (do
   let mut lo:=lo;let mut hi:=hi
   for _ in[0:n]do
    if lo>=hi then break
    let some mo ←iK le ky ar ba (lo+(hi-lo) / 2)|return none
    if mo then lo:=lo+(hi-lo) / 2+1 else hi:=lo+(hi-lo) / 2
   return some hi) Q st:=fun lo hi h1 h2 h3 h4=>by
  refine Zf (y4 (Z6 (I:=fun x c st'=>st'=st/\∃ lo hi,c=(none,lo,hi)/\lo<=hi/\hi<=n/\hi - lo<=n - x/\(∀ i,i<lo->B i=true)/\(∀ i,hi<=i->i<n->B i=false))
   (Q:=fun c st'=>st'=st/\∃ hi,c=(none,hi,hi)/\hi<=n/\(∀ i,i<hi->B i=true)/\(∀ i,hi<=i->i<n->B i=false)) ?step ?fin ⟨rfl,lo,hi,rfl,h1,h2,by omega,h3,h4⟩) ?post)
  case fin =>
   rintro c st' ⟨rfl,lo,hi,rfl,g1,g2,g3,g4,g5⟩;have e:lo=hi:=by omega
   subst e;exact⟨rfl,lo,rfl,g2,g4,g5⟩
  case post =>rintro c st' ⟨rfl,hi,rfl,g2,g4,g5⟩;exact Zk (h hi g2 g4 g5)
  case step =>
   rintro x c st' _ hx ⟨rfl,lo,hi,rfl,g1,g2,g3,g4,g5⟩;dsimp only;by_cases hge:lo>=hi
   ·rw[if_pos hge];have e:lo=hi:=by omega
    subst e;exact Zk ⟨rfl,lo,rfl,g2,g4,g5⟩
   ·rw[if_neg hge];refine Zf (hb _ _ (by omega) ?_);dsimp only;cases e:B (lo+(hi-lo) / 2)with
    |true =>rw[if_pos rfl];exact Zk ⟨rfl,_,_,rfl,by omega,g2,by omega,fun i hi'=>mono i (lo+(hi-lo) / 2) (by omega) (by omega) e,g5⟩
    |false =>
     rw[if_neg (by simp)];refine Zk ⟨rfl,_,_,rfl,by omega,by omega,by omega,g4,fun i hi1 hi2=>?_⟩;cases e':B i with
     |false=>rfl
     |true=>rw[mono _ i hi1 hi2 e']at e;cases e
 rw[zo];refine Zf (hb at0 _ h0 ?_);dsimp only;cases e:B at0 with
 |true =>
  simp only[if_true];refine Zf (y4 (Z6 (I:=fun x c st'=>st'=st/\∃ las ofs,c=(none,las,ofs)/\las<ofs/\x+1<=ofs/\las<n - at0/\B (at0+las)=true)
   (Q:=fun c st'=>st'=st/\∃ las ofs,c=(none,las,ofs)/\las<ofs/\las<n - at0/\B (at0+las)=true/\(ofs>=n - at0\/B (at0+ofs)=false)) ?step ?fin ⟨rfl,0,1,rfl,by omega,by omega,by omega,e⟩) ?post)
  case fin =>rintro c st' ⟨rfl,las,ofs,rfl,g1,g2,g3,g4⟩;exact⟨rfl,las,ofs,rfl,g1,g3,g4,.inl (by omega)⟩
  case post =>
   rintro c st' ⟨rfl,las,ofs,rfl,g1,g2,g3,g4⟩;refine fin (at0+las+1) (at0+min ofs (n-at0)) (by omega) (by omega) (fun i hi'=>mono i (at0+las) (by omega) (by omega) g3) fun i hi1 hi2=>?_;rcases g4 with g4|g4
   ·omega
   ·cases e':B i with
    |false=>rfl
    |true=>rw[mono _ i (by omega) hi2 e']at g4;cases g4
  case step =>
   rintro x c st' _ hx ⟨rfl,las,ofs,rfl,g1,g2,g3,g4⟩;dsimp only;by_cases hge:ofs>=n-at0
   ·rw[if_pos hge];exact Zk ⟨rfl,las,ofs,rfl,g1,g3,g4,.inl hge⟩
   ·rw[if_neg hge];refine Zf (hb _ _ (by omega) ?_);dsimp only;cases e:B (at0+ofs)with
    |true =>rw[if_neg (by simp)];exact Zk ⟨rfl,ofs,_,rfl,by omega,by omega,by omega,e⟩
    |false =>rw[if_pos (by simp)];exact Zk ⟨rfl,las,ofs,rfl,g1,g3,g4,.inr e⟩
 |false =>
  simp only[Bool.false_eq_true,if_false];refine Zf (y4 (Z6 (I:=fun x c st'=>st'=st/\∃ las ofs,c=(none,las,ofs)/\las<ofs/\x+1<=ofs/\las<=at0/\B (at0 - las)=false)
   (Q:=fun c st'=>st'=st/\∃ las ofs,c=(none,las,ofs)/\las<ofs/\las<=at0/\B (at0 - las)=false/\(ofs>=at0+1\/B (at0 - ofs)=true)) ?step ?fin ⟨rfl,0,1,rfl,by omega,by omega,by omega,e⟩) ?post)
  case fin =>rintro c st' ⟨rfl,las,ofs,rfl,g1,g2,g3,g4⟩;exact⟨rfl,las,ofs,rfl,g1,g3,g4,.inl (by omega)⟩
  case post =>
   rintro c st' ⟨rfl,las,ofs,rfl,g1,g2,g3,g4⟩;refine fin (at0+1-min ofs (at0+1)) (at0-las) (by omega) (by omega) (fun i hi'=>?_) fun i hi1 hi2=>?_
   ·rcases g4 with g4|g4
    ·omega
    ·exact mono i (at0-ofs) (by omega) (by omega) g4
   ·cases e':B i with
    |false=>rfl
    |true=>rw[mono _ i hi1 hi2 e']at g3;cases g3
  case step =>
   rintro x c st' _ hx ⟨rfl,las,ofs,rfl,g1,g2,g3,g4⟩;dsimp only;by_cases hge:ofs>=at0+1
   ·rw[if_pos hge];exact Zk ⟨rfl,las,ofs,rfl,g1,g3,g4,.inl hge⟩
   ·rw[if_neg hge];refine Zf (hb _ _ (by omega) ?_);dsimp only;cases e:B (at0-ofs)with
    |true =>rw[if_pos rfl];exact Zk ⟨rfl,las,ofs,rfl,g1,g3,g4,.inr e⟩
    |false =>rw[if_neg (by simp)];exact Zk ⟨rfl,ofs,_,rfl,by omega,by omega,by omega,e⟩
theorem jb(Z:Zc prog w A s κ it lt N){le:Bool}{k ba n at0:Nat}{q:Array Nat}{Q:Option Nat->SortSt->Prop}(hk:kindOf st=κ)(hK:k<N)(hz:ba+n<=q.size)(hq:∀i,ba<=i->i<ba+n->gA q i<N)(h0:at0<n)(mono:∀i j,i<=j->j<n->zB lt le k (gA q (ba+j))=true->zB lt le k (gA q (ba+i))=true)(h:∀m,m<=n->(∀i,i<m->zB lt le k (gA q (ba+i))=true)->(∀i,m<=i->i<n->zB lt le k (gA q (ba+i))=false)->Q (some m) st):wpS (model prog w) A E s (dJ le (kas_item it k) (q.map (kas_item it)) ba n at0) Q st :=
 B3 (B:=fun i=>zB lt le k (gA q (ba+i))) (fun i _ hi hQ=>C1 Z hk hK (by omega) (hq _ (by omega) (by omega)) hQ) h0 mono h
end
open PySem PyProof.Rows PySem.W
section
variable{lt:Nat->Nat->Bool}
theorem aI(p:Array Nat)(k:Nat):gA p k=p.toList.getD k 0:=by unfold gA;rw[Yf,Ze,Yx]
theorem iU{l:List Nat}{i x:Nat}(h:x∈l.drop i):∃j,i<=j/\j<l.length/\l.getD j 0=x:=by obtain⟨n,hn,e⟩:=List.mem_iff_getElem.mp h;rw[Yu]at hn;refine⟨i+n,by omega,by omega,?_⟩;rw[List.getElem_drop]at e;rw[Ze,Zb (by omega)];exact e
theorem iV{l:List Nat}{i x:Nat}(h:x∈l.take i):∃j,j<i/\j<l.length/\l.getD j 0=x:=by obtain⟨n,hn,e⟩:=List.mem_iff_getElem.mp h;rw[ZS]at hn;refine⟨n,by omega,by omega,?_⟩;rw[List.getElem_take]at e;rw[Ze,Zb (by omega)];exact e
theorem tV{l:List Nat}{i k x:Nat}(h:x∈(l.drop i).take k):∃j,i<=j/\j<i+k/\j<l.length/\l.getD j 0=x:=by obtain⟨j,h1,h2,e⟩:=iV h;rw[Yu]at h2;refine⟨i+j,by omega,by omega,by omega,?_⟩;rw[<-e,Ze,Ze,List.getElem?_drop]
def Mg(lt:Nat->Nat->Bool)(T o A B:List Nat):Prop:=∀r:List Nat,r.Perm (A++B)->r.Pairwise (Lx lt)->(o++r).Pairwise (Lx lt)/\(o++r).Perm T
def Mh(lt:Nat->Nat->Bool)(T o A B:List Nat):Prop:=∀r:List Nat,r.Perm (A++B)->r.Pairwise (Lx lt)->(r++o).Pairwise (Lx lt)/\(r++o).Perm T
theorem Mg.step{T o A B c A' B':List Nat}(h:Mg lt T o A B)(hp:(c++(A'++B')).Perm (A++B))(hc:c.Pairwise (Lx lt))(hx:∀x∈c,∀y∈A'++B',Lx lt x y):Mg lt T (o++c) A' B':=fun r hr hs=>by rw[ZF];exact h (c++r) ((hr.append_left c).trans hp) (ZM.mpr ⟨hc,hs,fun x hx' y hy=>hx x hx' y (hr.mem_iff.mp hy)⟩)
theorem Mh.step{T o A B c A' B':List Nat}(h:Mh lt T o A B)(hp:((A'++B')++c).Perm (A++B))(hc:c.Pairwise (Lx lt))(hx:∀y∈A'++B',∀x∈c,Lx lt y x):Mh lt T (c++o) A' B':=fun r hr hs=>by rw[<-ZF];exact h (r++c) ((hr.append_right c).trans hp) (ZM.mpr ⟨hs,hc,fun y hy x hx'=>hx y (hr.mem_iff.mp hy) x hx'⟩)
structure MF(lt:Nat->Nat->Bool)(N:Nat)(a b:Array Nat):Prop where
 sa:∀i j,i<j->j<a.size->Lx lt (gA a i) (gA a j)
 sb:∀i j,i<j->j<b.size->Lx lt (gA b i) (gA b j)
 cr:∀i j,i<a.size->j<b.size->lt (gA b j) (gA a i)=false->Lx lt (gA a i) (gA b j)
 na:∀i,i<a.size->gA a i<N
 nb:∀i,i<b.size->gA b i<N
 a0:0<a.size
 b0:0<b.size
 fst:lt (gA b 0) (gA a 0)=true
 lst:∀j,j<b.size->lt (gA b j) (gA a (a.size-1))=true
theorem cW{p:Array Nat}(h:∀i j,i<j->j<p.size->Lx lt (gA p i) (gA p j)):p.toList.Pairwise (Lx lt):=by rw[Yk];intro i j hi hj hij;have:=h i j hij (by simpa using hj);rw[aI,aI,Ze,Ze,Zb hi,Zb hj]at this;exact this
theorem rR{p:Array Nat}(h:p.toList.Pairwise (Lx lt)):∀i j,i<j->j<p.size->Lx lt (gA p i) (gA p j):=fun i j hij hj=>by
 rw[Yk]at h;have hj':j<p.toList.length:=by simpa using hj
 have:=h i j (by omega) hj' hij;rw[aI,aI,Ze,Ze,Zb (show i<p.toList.length by omega),Zb hj'];exact this
variable{N:Nat}{a b:Array Nat}{f:Nat->Keyed}
theorem MF.leA(h:MF lt N a b)(O:LtOk lt){i j:Nat}(hij:i<=j)(hj:j<a.size){x:Nat}(hx:lt x (gA a i)=true):lt x (gA a j)=true:=by
 rcases Yd i j with h1|h1
 ·exact O.lt_le hx (h.sa i j h1 hj).1
 ·have e:i=j:=by omega
  rw[<-e];exact hx
theorem MF.leB(h:MF lt N a b)(O:LtOk lt){i j:Nat}(hij:i<=j)(hj:j<b.size){x:Nat}(hx:lt (gA b j) x=true):lt (gA b i) x=true:=by
 rcases Yd i j with h1|h1
 ·exact O.le_lt (h.sb i j h1 hj).1 hx
 ·have e:i=j:=by omega
  rw[e];exact hx
def Gd(lt:Nat->Nat->Bool)(f:Nat->Keyed)(a b:Array Nat)(r:Array Keyed):Prop:=∃q:Array Nat,r=q.map f/\q.toList.Pairwise (Lx lt)/\q.toList.Perm (a.toList++b.toList)
def LoM(lt:Nat->Nat->Bool)(f:Nat->Keyed)(a b:Array Nat)(out:Array Keyed)(ia ib:Nat):Prop:=∃o:Array Nat,out=o.map f/\Mg lt (a.toList++b.toList) o.toList (a.toList.drop ia) (b.toList.drop ib)
def HiM(lt:Nat->Nat->Bool)(f:Nat->Keyed)(a b:Array Nat)(out:Array Keyed)(na nb:Nat):Prop:=∃o:Array Nat,out=o.map f/\Mh lt (a.toList++b.toList) o.toList.reverse (a.toList.take na) (b.toList.take nb)
theorem bp(p:Array Nat)(i j:Nat):(p.map f).extract i j=(p.extract i j).map f:=by apply Array.toList_inj.mp;simp
theorem gI(p:Array Nat)(i k:Nat):(p.extract i (i+k)).toList=(p.toList.drop i).take k:=by rw[Array.toList_extract,List.extract_eq_take_drop,Z2]
theorem gH(p:Array Nat)(i:Nat):(p.extract i p.size).toList=p.toList.drop i:=by rw[Array.toList_extract,List.extract_eq_take_drop];exact ZD (by simp)
theorem gJ(p:Array Nat)(i:Nat):(p.extract 0 i).toList=p.toList.take i:=by rw[Array.toList_extract,List.extract_eq_take_drop,List.drop_zero,Nat.sub_zero]
theorem LoM.chunkA(M:MF lt N a b)(O:LtOk lt){out:Array Keyed}{ia ib:Nat}(h:LoM lt f a b out ia ib)(k:Nat)(hk:ia+k<=a.size)(hb:ib<b.size)(hw:∀i,i<k->lt (gA b ib) (gA a (ia+i))=false):LoM lt f a b (out++(a.map f).extract ia (ia+k)) (ia+k) ib:=by
 obtain⟨o,rfl,h⟩:=h;refine⟨o++a.extract ia (ia+k),by rw[bp,y6],?_⟩;rw[ZE,gI];have e:a.toList.drop ia=(a.toList.drop ia).take k++a.toList.drop (ia+k):=by rw[<-List.drop_drop,ZY]
 have pa:(a.toList.drop ia).Pairwise (Lx lt):=(cW M.sa).sublist (Yh _ _);refine h.step ?_ (pa.sublist (y9 _ _)) fun x hx y hy=>?_
 ·rw[<-ZF,<-e]
 ·rcases ZG.mp hy with hy|hy
  ·rw[e]at pa;exact(ZM.mp pa).2.2 x hx y hy
  ·obtain⟨i,h1,h2,h3,rfl⟩:=tV hx;obtain⟨j,g1,g2,rfl⟩:=iU hy;have h3':i<a.size:=by simpa using h3
   have g2':j<b.size:=by simpa using g2
   rw[<-aI,<-aI];have w:=hw (i-ia) (by omega);rw[show ia+(i-ia)=i by omega]at w;refine M.cr i j h3' g2' ?_;cases e':lt (gA b j) (gA a i)with
   |false=>rfl
   |true=>rw[M.leB O g1 g2' e']at w;cases w
theorem LoM.chunkB(M:MF lt N a b)(O:LtOk lt){out:Array Keyed}{ia ib:Nat}(h:LoM lt f a b out ia ib)(k:Nat)(hk:ib+k<=b.size)(hb:ia<a.size)(hw:∀i,i<k->lt (gA b (ib+i)) (gA a ia)=true):LoM lt f a b (out++(b.map f).extract ib (ib+k)) ia (ib+k):=by
 obtain⟨o,rfl,h⟩:=h;refine⟨o++b.extract ib (ib+k),by rw[bp,y6],?_⟩;rw[ZE,gI];have e:b.toList.drop ib=(b.toList.drop ib).take k++b.toList.drop (ib+k):=by rw[<-List.drop_drop,ZY]
 have pb:(b.toList.drop ib).Pairwise (Lx lt):=(cW M.sb).sublist (Yh _ _);refine h.step ?_ (pb.sublist (y9 _ _)) fun x hx y hy=>?_
 ·refine(List.perm_append_comm_assoc _ _ _).trans ?_;rw[<-e]
 ·rcases ZG.mp hy with hy|hy
  ·obtain⟨i,h1,h2,h3,rfl⟩:=tV hx;obtain⟨j,g1,g2,rfl⟩:=iU hy;have g2':j<a.size:=by simpa using g2
   rw[<-aI,<-aI];have w:=hw (i-ib) (by omega);rw[show ib+(i-ib)=i by omega]at w;exact Lx.of_lt O (M.leA O g1 g2' w)
  ·rw[e]at pb;exact(ZM.mp pb).2.2 x hx y hy
theorem jG{out:Array Keyed}{p:Array Nat}{i:Nat}(hi:i<p.size):out.push (f (gA p i))=out++(p.map f).extract i (i+1):=by
 apply Array.toList_inj.mp;rw[Array.toList_push,ZE,bp,Array.toList_map,gI];have hi':i<p.toList.length:=by simpa using hi
 have e:(p.toList.drop i).take 1=[gA p i]:=by rw[List.drop_eq_getElem_cons hi',aI,Ze,Zb hi'];rfl
 rw[e];rfl
theorem LoM.pushA(M:MF lt N a b)(O:LtOk lt){out:Array Keyed}{ia ib:Nat}(h:LoM lt f a b out ia ib)(ha:ia<a.size)(hb:ib<b.size)(hw:lt (gA b ib) (gA a ia)=false):LoM lt f a b (out.push (f (gA a ia))) (ia+1) ib:=by rw[jG ha];refine h.chunkA M O 1 (by omega) hb fun i hi=>?_;rw[show ia+i=ia by omega];exact hw
theorem LoM.pushB(M:MF lt N a b)(O:LtOk lt){out:Array Keyed}{ia ib:Nat}(h:LoM lt f a b out ia ib)(ha:ia<a.size)(hb:ib<b.size)(hw:lt (gA b ib) (gA a ia)=true):LoM lt f a b (out.push (f (gA b ib))) ia (ib+1):=by rw[jG hb];refine h.chunkB M O 1 (by omega) ha fun i hi=>?_;rw[show ib+i=ib by omega];exact hw
theorem LoM.done(M:MF lt N a b){out:Array Keyed}{ia ib:Nat}(h:LoM lt f a b out ia ib)(he:ia=a.size\/ib=b.size):Gd lt f a b (out++(a.map f).extract ia a.size++(b.map f).extract ib b.size):=by
 obtain⟨o,rfl,h⟩:=h;have pa:(a.toList.drop ia).Pairwise (Lx lt):=(cW M.sa).sublist (Yh _ _);have pb:(b.toList.drop ib).Pairwise (Lx lt):=(cW M.sb).sublist (Yh _ _);refine⟨o++a.extract ia a.size++b.extract ib b.size,by rw[bp,bp,y6,y6],?_⟩;rw[ZE,ZE,gH,gH,ZF];refine h _ (List.Perm.refl _) ?_;rcases he with rfl|rfl
 ·rw[YL (by simp),List.nil_append];exact pb
 ·rw[YL (l:=b.toList) (by simp),ZQ];exact pa
theorem LoM.last(M:MF lt N a b)(O:LtOk lt){out:Array Keyed}{ia ib:Nat}(h:LoM lt f a b out ia ib)(he:ia+1=a.size):Gd lt f a b (out++(b.map f).extract ib b.size++(a.map f).extract ia a.size):=by
 obtain⟨o,rfl,h⟩:=h;have pa:(a.toList.drop ia).Pairwise (Lx lt):=(cW M.sa).sublist (Yh _ _);have pb:(b.toList.drop ib).Pairwise (Lx lt):=(cW M.sb).sublist (Yh _ _);refine⟨o++b.extract ib b.size++a.extract ia a.size,by rw[bp,bp,y6,y6],?_⟩;rw[ZE,ZE,gH,gH,ZF];refine h _ List.perm_append_comm (ZM.mpr ⟨pb,pa,fun x hx y hy=>?_⟩);obtain⟨i,h1,h3,rfl⟩:=iU hx;obtain⟨j,g1,g2,rfl⟩:=iU hy;have g2':j<a.size:=by simpa using g2
 rw[<-aI,<-aI];have w:=M.lst i (by simpa using h3);rw[show j=a.size-1 by omega];exact Lx.of_lt O w
theorem LoM.start(M:MF lt N a b)(O:LtOk lt):LoM lt f a b #[f (gA b 0)] 0 1:=by
 have h:LoM lt f a b #[] 0 0:=⟨#[],by simp,fun r hr hs=>⟨hs,hr⟩⟩
 exact h.pushB M O M.a0 M.b0 M.fst
theorem qI{out:Array Keyed}(p:Array Nat)(i j:Nat)(o:Array Nat)(e:out=o.map f):out++((p.map f).extract i j).reverse=(o++(p.extract i j).reverse).map f:=by rw[e,bp,y6,Array.map_reverse]
theorem lE(p:Array Nat)(i j:Nat):(p.extract i j).toList=(p.toList.take j).drop i:=by rw[Array.toList_extract,List.extract_eq_take_drop,List.drop_take]
theorem tW{l:List Nat}{i j x:Nat}(h:x∈(l.take j).drop i):∃k,i<=k/\k<j/\k<l.length/\l.getD k 0=x:=by obtain⟨k,h1,h2,e⟩:=iU h;rw[ZS]at h2;refine⟨k,h1,by omega,by omega,?_⟩;rw[<-e,Ze,Ze,List.getElem?_take,if_pos (by omega)]
theorem HiM.chunkA(M:MF lt N a b)(O:LtOk lt){out:Array Keyed}{na nb:Nat}(h:HiM lt f a b out na nb)(k:Nat)(hk:k<=na)(ha:na<=a.size)(hb1:0<nb)(hb:nb<=b.size)(hw:∀i,k<=i->i<na->lt (gA b (nb-1)) (gA a i)=true):HiM lt f a b (out++((a.map f).extract k na).reverse) k nb:=by
 obtain⟨o,e0,h⟩:=h;refine⟨o++(a.extract k na).reverse,qI a k na o e0,?_⟩;rw[ZE,Array.toList_reverse,List.reverse_append,List.reverse_reverse,lE];have e:a.toList.take na=a.toList.take k++(a.toList.take na).drop k:=by have:=ZY k (a.toList.take na);rw[List.take_take,Nat.min_eq_left hk]at this;exact this.symm
 have pa:(a.toList.take na).Pairwise (Lx lt):=(cW M.sa).sublist (y9 _ _);refine h.step ?_ (pa.sublist (Yh _ _)) fun y hy x hx=>?_
 ·rw[ZF];refine(List.perm_append_comm.append_left _).trans ?_;rw[<-ZF,<-e]
 ·rcases ZG.mp hy with hy|hy
  ·rw[e]at pa;exact(ZM.mp pa).2.2 y hy x hx
  ·obtain⟨i,h1,h2,h3,rfl⟩:=tW hx;obtain⟨j,g1,g2,rfl⟩:=iV hy;rw[<-aI,<-aI];exact Lx.of_lt O (M.leB O (show j<=nb-1 by omega) (by omega) (hw i h1 h2))
theorem HiM.chunkB(M:MF lt N a b)(O:LtOk lt){out:Array Keyed}{na nb:Nat}(h:HiM lt f a b out na nb)(k:Nat)(hk:k<=nb)(ha:na<=a.size)(ha1:0<na)(hb:nb<=b.size)(hw:∀i,k<=i->i<nb->lt (gA b i) (gA a (na-1))=false):HiM lt f a b (out++((b.map f).extract k nb).reverse) na k:=by
 obtain⟨o,e0,h⟩:=h;refine⟨o++(b.extract k nb).reverse,qI b k nb o e0,?_⟩;rw[ZE,Array.toList_reverse,List.reverse_append,List.reverse_reverse,lE];have e:b.toList.take nb=b.toList.take k++(b.toList.take nb).drop k:=by have:=ZY k (b.toList.take nb);rw[List.take_take,Nat.min_eq_left hk]at this;exact this.symm
 have pb:(b.toList.take nb).Pairwise (Lx lt):=(cW M.sb).sublist (y9 _ _);refine h.step ?_ (pb.sublist (Yh _ _)) fun y hy x hx=>?_
 ·rw[ZF,<-e]
 ·rcases ZG.mp hy with hy|hy
  ·obtain⟨i,h1,h2,h3,rfl⟩:=tW hx;obtain⟨j,g1,g2,rfl⟩:=iV hy;have h3':i<b.size:=by simpa using h3
   have g2':j<a.size:=by simpa using g2
   rw[<-aI,<-aI];have w:=hw i h1 h2;refine M.cr j i g2' h3' ?_;cases e':lt (gA b i) (gA a j)with
   |false=>rfl
   |true=>rw[M.leA O (show j<=na-1 by omega) (by omega) e']at w;cases w
  ·rw[e]at pb;exact(ZM.mp pb).2.2 y hy x hx
theorem oR{out:Array Keyed}{p:Array Nat}{i:Nat}(hi:i<p.size):out.push (f (gA p i))=out++((p.map f).extract i (i+1)).reverse:=by
 have e:=jG (f:=f) (out:=#[]) hi;have e2:(p.map f).extract i (i+1)=#[f (gA p i)]:=by rw[<-Array.empty_append (xs:=(p.map f).extract i (i+1)),<-e];rfl
 rw[e2];rfl
theorem HiM.pushA(M:MF lt N a b)(O:LtOk lt){out:Array Keyed}{na nb:Nat}(h:HiM lt f a b out na nb)(ha1:0<na)(ha:na<=a.size)(hb1:0<nb)(hb:nb<=b.size)(hw:lt (gA b (nb-1)) (gA a (na-1))=true):HiM lt f a b (out.push (f (gA a (na-1)))) (na-1) nb:=by rw[oR (show na-1<a.size by omega),Nat.sub_add_cancel ha1];refine h.chunkA M O (na-1) (by omega) ha hb1 hb fun i h1 h2=>?_;rw[show i=na-1 by omega];exact hw
theorem HiM.pushB(M:MF lt N a b)(O:LtOk lt){out:Array Keyed}{na nb:Nat}(h:HiM lt f a b out na nb)(ha1:0<na)(ha:na<=a.size)(hb1:0<nb)(hb:nb<=b.size)(hw:lt (gA b (nb-1)) (gA a (na-1))=false):HiM lt f a b (out.push (f (gA b (nb-1)))) na (nb-1):=by rw[oR (show nb-1<b.size by omega),Nat.sub_add_cancel hb1];refine h.chunkB M O (nb-1) (by omega) ha ha1 hb fun i h1 h2=>?_;rw[show i=nb-1 by omega];exact hw
theorem HiM.done(M:MF lt N a b){out:Array Keyed}{na nb:Nat}(h:HiM lt f a b out na nb)(he:na=0\/nb=0):Gd lt f a b ((a.map f).extract 0 na++(b.map f).extract 0 nb++out.reverse):=by
 obtain⟨o,rfl,h⟩:=h;have pa:(a.toList.take na).Pairwise (Lx lt):=(cW M.sa).sublist (y9 _ _);have pb:(b.toList.take nb).Pairwise (Lx lt):=(cW M.sb).sublist (y9 _ _);refine⟨a.extract 0 na++b.extract 0 nb++o.reverse,by rw[bp,bp,y6,y6,Array.map_reverse],?_⟩;rw[ZE,ZE,gJ,gJ,Array.toList_reverse];refine h _ (List.Perm.refl _) ?_;rcases he with rfl|rfl
 ·exact pb
 ·rw[List.take_zero,ZQ];exact pa
theorem HiM.first(M:MF lt N a b)(O:LtOk lt){out:Array Keyed}{na nb:Nat}(h:HiM lt f a b out na nb)(he:nb=1):Gd lt f a b ((b.map f).extract 0 nb++(a.map f).extract 0 na++out.reverse):=by
 obtain⟨o,rfl,h⟩:=h;have pa:(a.toList.take na).Pairwise (Lx lt):=(cW M.sa).sublist (y9 _ _);have pb:(b.toList.take nb).Pairwise (Lx lt):=(cW M.sb).sublist (y9 _ _);refine⟨b.extract 0 nb++a.extract 0 na++o.reverse,by rw[bp,bp,y6,y6,Array.map_reverse],?_⟩;rw[ZE,ZE,gJ,gJ,Array.toList_reverse];refine h _ List.perm_append_comm (ZM.mpr ⟨pb,pa,fun x hx y hy=>?_⟩);obtain⟨i,h1,h3,rfl⟩:=iV hx;obtain⟨j,g1,g2,rfl⟩:=iV hy;have g2':j<a.size:=by simpa using g2
 rw[<-aI,<-aI,show i=0 by omega];exact Lx.of_lt O (M.leA O (Z7 _) g2' M.fst)
theorem HiM.start(M:MF lt N a b)(O:LtOk lt):HiM lt f a b #[f (gA a (a.size-1))] (a.size-1) b.size:=by
 have h:HiM lt f a b #[] a.size b.size:=⟨#[],by simp,fun r hr hs=>by
  rw[ZD (by simp),ZD (by simp)]at hr;have e:(#[]:Array Nat).toList.reverse=[]:=rfl;rw[e,ZQ];exact⟨hs,hr⟩⟩
 exact h.pushA M O M.a0 (Zd _) M.b0 (Zd _) (M.lst _ (by have:=M.b0;omega))
end
open PySem PyProof.Rows PySem.W
abbrev LoC:=Option (Array Keyed)×Array Keyed×Nat×Nat×Nat×Nat×Nat
def gZ(a b out:Array Keyed)(ia ib:Nat):Array Keyed:=out++a.extract ia a.size++b.extract ib b.size
def ko(a b out:Array Keyed)(ia ib:Nat):Array Keyed:=out++b.extract ib b.size++a.extract ia a.size
def rL(a b out:Array Keyed)(ia ib mg ac bc:Nat):StateT SortSt Sem (ForInStep LoC):=do
 let x ←elem' a ia
 if(ia+1+1==a.size)=true then pure (.done (some (ko a b (out.push x) (ia+1) ib),out.push x,ia+1,ib,mg,ac,bc))
 else if(decide (ac<7)&&decide (bc<7))=true then pure (.done (none,out.push x,ia+1,ib,mg,ac,bc))else pure (.yield (none,out.push x,ia+1,ib,mg,ac,bc))
def rK(a b out:Array Keyed)(ia ib mg ac bc:Nat):StateT SortSt Sem (ForInStep LoC):=do
 let y ←elem' b ib
 if(ib+1==b.size)=true then pure (.done (some (gZ a b (out.push y) ia (ib+1)),out.push y,ia,ib+1,mg,ac,bc))
 else do
  let x ←elem' a ia
  let some k ←dJ true x b (ib+1) (b.size-(ib+1)) 0|pure (.done (some (gZ a b (out.push y) ia (ib+1)),out.push y,ia,ib+1,mg,ac,bc))
  if k>0 then
   if(ib+1+k==b.size)=true then pure (.done (some (gZ a b (out.push y++b.extract (ib+1) (ib+1+k)) ia (ib+1+k)),out.push y++b.extract (ib+1) (ib+1+k),ia,ib+1+k,mg,ac,k))
   else rL a b (out.push y++b.extract (ib+1) (ib+1+k)) ia (ib+1+k) mg ac k
  else rL a b (out.push y) ia (ib+1) mg ac k
def An(a b out:Array Keyed)(ia ib mg ac bc:Nat):StateT SortSt Sem (ForInStep LoC):=do
 iL mg
 let y ←elem' b ib
 let some k ←dJ false y a ia (a.size-ia) 0|pure (.done (some (gZ a b out ia ib),out,ia,ib,mg,ac,bc))
 if k>0 then
  if(ia+k+1==a.size)=true then pure (.done (some (ko a b (out++a.extract ia (ia+k)) (ia+k) ib),out++a.extract ia (ia+k),ia+k,ib,mg,k,bc))
  else if(ia+k==a.size)=true then pure (.done (some (gZ a b (out++a.extract ia (ia+k)) (ia+k) ib),out++a.extract ia (ia+k),ia+k,ib,mg,k,bc))
  else rK a b (out++a.extract ia (ia+k)) (ia+k) ib mg k bc
 else rK a b out ia ib mg k bc
section
variable{prog:Program}{w:World}{A:Around}{E:Value->Shared->Prop}{s:Shared}{κ:SortKind}{it:Array Keyed}{lt:Nat->Nat->Bool}{N:Nat}{st:SortSt}{a b:Array Nat}
def jJ(st:SortSt)(g:Nat):SortSt:=SortSt.mk' (kindOf st) (arrOf st) (pendingOf st) g (failedOf st)
def SG'(st st':SortSt):Prop:=∃g,st'=jJ st g
theorem SG'.refl:SG' st st:=⟨gallopOf st,rfl⟩
theorem SG'.set{st':SortSt}(h:SG' st st')(g:Nat):SG' st (jJ st' g):=by obtain⟨g',rfl⟩:=h;exact⟨g,rfl⟩
theorem SG'.kind{st':SortSt}(h:SG' st st')(hk:kindOf st=κ):kindOf st'=κ:=by obtain⟨g',rfl⟩:=h;exact hk
theorem nL{g:Nat}{Q:Unit->SortSt->Prop}(h:Q () (jJ st g)):wpS (model prog w) A E s (iL g) Q st:=by have e:iL g=modify fun st=>jJ st g:=rfl;rw[e];exact wpS_modify h
theorem aR{q:Array Nat}{i:Nat}{Q:Keyed->SortSt->Prop}(hi:i<q.size)(h:Q (kas_item it (gA q i)) st):wpS (model prog w) A E s (elem' (q.map (kas_item it)) i) Q st:=by rw[B2 hi];exact Zk h
theorem aC{α:Type}{c:Prop}[Decidable c]{x y:StateT SortSt Sem α}{Q:α->SortSt->Prop}(h1:c->wpS (model prog w) A E s x Q st)(h2:¬c->wpS (model prog w) A E s y Q st):wpS (model prog w) A E s (if c then x else y) Q st:=by
 split
 ·exact h1 ‹_›
 ·exact h2 ‹_›
def LoI(lt:Nat->Nat->Bool)(f:Nat->Keyed)(a b:Array Nat)(n:Nat)(c:LoC):Prop:=∃out ia ib mg ac bc,c=(none,out,ia,ib,mg,ac,bc)/\LoM lt f a b out ia ib/\ia+1<a.size/\ib<b.size/\n<=ia+ib
def LoQ(lt:Nat->Nat->Bool)(f:Nat->Keyed)(a b:Array Nat)(st:SortSt)(n:Nat)(r:ForInStep LoC)(st':SortSt):Prop:=SG' st st'/\match r with
 |.done c=>(∃r d,c=(some r,d)/\Gd lt f a b r)\/LoI lt f a b n c
 |.yield c=>LoI lt f a b n c
theorem ve(O:LtOk lt)(M:MF lt N a b){out:Array Keyed}{ia ib mg ac bc n:Nat}{st0:SortSt}(g:SG' st0 st)(l:LoM lt (kas_item it) a b out ia ib)(h1:ia+1<a.size)(h2:ib<b.size)(hn:n<=ia+ib)(hw:lt (gA b ib) (gA a ia)=false) :
  wpS (model prog w) A E s (rL (a.map (kas_item it)) (b.map (kas_item it)) out ia ib mg ac bc) (LoQ lt (kas_item it) a b st0 n) st:=by
 unfold rL ko;rw[Yn,Yn];refine Zf (aR (by omega) ?_);have l3:=l.pushA M O (by omega) h2 hw;refine aC (fun e=>?_) fun e=>aC (fun _=>?_) fun _=>?_
 ·exact Zk ⟨g,.inl ⟨_,_,rfl,l3.last M O (by simpa using e)⟩⟩
 ·have e':ia+1+1≠a.size:=by simpa using e
  exact Zk ⟨g,.inr ⟨_,_,_,_,_,_,rfl,l3,by omega,h2,by omega⟩⟩
 ·have e':ia+1+1≠a.size:=by simpa using e
  exact Zk ⟨g,⟨_,_,_,_,_,_,rfl,l3,by omega,h2,by omega⟩⟩
theorem vd(Z:Zc prog w A s κ it lt N)(O:LtOk lt)(M:MF lt N a b){out:Array Keyed}{ia ib mg ac bc n:Nat}{st0:SortSt}(hk:kindOf st0=κ)(g:SG' st0 st)(l:LoM lt (kas_item it) a b out ia ib)(h1:ia+1<a.size)(h2:ib<b.size)(hn:n<=ia+ib)(hw:lt (gA b ib) (gA a ia)=true) :
  wpS (model prog w) A E s (rK (a.map (kas_item it)) (b.map (kas_item it)) out ia ib mg ac bc) (LoQ lt (kas_item it) a b st0 n) st:=by
 unfold rK gZ;rw[Yn,Yn];refine Zf (aR h2 ?_);have l3:=l.pushB M O (by omega) h2 hw;refine aC (fun e=>?_) fun e=>?_
 ·exact Zk ⟨g,.inl ⟨_,_,rfl,l3.done M (.inr (by simpa using e))⟩⟩
 have e':ib+1≠b.size:=by simpa using e
 refine Zf (aR (by omega) (Zf (jb Z (g.kind hk) (M.na _ (by omega)) (by omega) (fun i _ _=>M.nb i (by omega)) (by omega) (fun i j h3 h4 h5=>?_) fun k hk1 hk2 hk3=>?_)))
 ·exact M.leB O (by omega) (by omega) h5
 refine aC (fun hp=>aC (fun e=>?_) fun e=>?_) fun hp=>?_
 ·have l4:=l3.chunkB M O k (by omega) (by omega) hk2;exact Zk ⟨g,.inl ⟨_,_,rfl,l4.done M (.inr (by simpa using e))⟩⟩
 ·have l4:=l3.chunkB M O k (by omega) (by omega) hk2;have e2:ib+1+k≠b.size:=by simpa using e
  exact ve O M g l4 h1 (by omega) (by omega) (hk3 k (Zd _) (by omega))
 ·have e3:k=0:=by omega
  subst e3;exact ve O M g l3 h1 (by omega) (by omega) (hk3 0 (Zd _) (by omega))
theorem vc(Z:Zc prog w A s κ it lt N)(O:LtOk lt)(M:MF lt N a b){out:Array Keyed}{ia ib mg ac bc n:Nat}{st0:SortSt}(hk:kindOf st0=κ)(g:SG' st0 st)(l:LoM lt (kas_item it) a b out ia ib)(h1:ia+1<a.size)(h2:ib<b.size)(hn:n<=ia+ib) :
  wpS (model prog w) A E s (An (a.map (kas_item it)) (b.map (kas_item it)) out ia ib mg ac bc) (LoQ lt (kas_item it) a b st0 n) st:=by
 unfold An gZ ko;rw[Yn,Yn];have tf:∀{x y:Nat},zB lt false x y=true->lt x y=false:=fun{x y} z=>by have z':(!lt x y)=true:=z;simpa using z'
 have ft:∀{x y:Nat},zB lt false x y=false->lt x y=true:=fun{x y} z=>by have z':(!lt x y)=false:=z;simpa using z'
 refine Zf (nL (Zf (aR h2 (Zf (jb Z ((g.set _).kind hk) (M.nb _ h2) (by omega) (fun i _ _=>M.na i (by omega)) (by omega) (fun i j h3 h4 h5=>?_) fun k hk1 hk2 hk3=>?_)))))
 ·have z:=tf h5;show(!lt (gA b ib) (gA a (ia+i)))=true;cases e:lt (gA b ib) (gA a (ia+i))with
  |false=>rfl
  |true=>rw[M.leA O (show ia+i<=ia+j by omega) (by omega) e]at z;cases z
 refine aC (fun hp=>aC (fun e=>?_) fun e=>aC (fun e2=>?_) fun e2=>?_) fun hp=>?_
 ·have l4:=l.chunkA M O k (by omega) h2 fun i hi=>tf (hk2 i hi);exact Zk ⟨g.set _,.inl ⟨_,_,rfl,l4.last M O (by simpa using e)⟩⟩
 ·have l4:=l.chunkA M O k (by omega) h2 fun i hi=>tf (hk2 i hi);exact Zk ⟨g.set _,.inl ⟨_,_,rfl,l4.done M (.inl (by simpa using e2))⟩⟩
 ·have l4:=l.chunkA M O k (by omega) h2 fun i hi=>tf (hk2 i hi);have e':ia+k+1≠a.size:=by simpa using e
  have e2':ia+k≠a.size:=by simpa using e2
  exact vd Z O M hk (g.set _) l4 (by omega) h2 (by omega) (ft (hk3 k (Zd _) (by omega)))
 ·have e3:k=0:=by omega
  subst e3;exact vd Z O M hk (g.set _) l (by omega) h2 (by omega) (ft (hk3 0 (Zd _) (by omega)))
theorem Dr(Z:Zc prog w A s κ it lt N)(O:LtOk lt)(M:MF lt N a b){Q:Array Keyed->SortSt->Prop}(hk:kindOf st=κ)(h:∀r st',Gd lt (kas_item it) a b r->SG' st st'->Q r st'):wpS (model prog w) A E s (zLo (a.map (kas_item it)) (b.map (kas_item it))) Q st:=by
 have a0:=M.a0;have b0:=M.b0;have za:(a.map (kas_item it)).size=a.size:=Yn ..;have zb:(b.map (kas_item it)).size=b.size:=Yn ..;rw[B1];refine Zf (wpS_lift (ZT ⟨rfl,?_⟩));refine Zf (aR b0 ?_);have l0:=LoM.start (f:=kas_item it) M O;have dn:∀{out ia ib},LoM lt (kas_item it) a b out ia ib->ia=a.size\/ib=b.size->Gd lt (kas_item it) a b (out++(a.map (kas_item it)).extract ia (a.map (kas_item it)).size++(b.map (kas_item it)).extract ib (b.map (kas_item it)).size):=fun h e=>by rw[za,zb];exact h.done M e
 have ls:∀{out ia ib},LoM lt (kas_item it) a b out ia ib->ia+1=a.size->Gd lt (kas_item it) a b (out++(b.map (kas_item it)).extract ib (b.map (kas_item it)).size++(a.map (kas_item it)).extract ia (a.map (kas_item it)).size):=fun h e=>by rw[za,zb];exact h.last M O e
 have hit:∀{α:Type} {c:Prop} [Decidable c] {x y:StateT SortSt Sem α} {Q:α->SortSt->Prop} {st:SortSt},(c->wpS (model prog w) A E s x Q st)->(¬c->wpS (model prog w) A E s y Q st)->wpS (model prog w) A E s (if c then x else y) Q st:=fun h1 h2=>by
  split
  ·exact h1 ‹_›
  ·exact h2 ‹_›
 refine hit (fun e1=>?_) fun e1=>hit (fun e2=>?_) fun e2=>?_
 ·exact Zk (h _ _ (dn l0 (.inr (by rw[<-zb];simpa using e1))) .refl)
 ·exact Zk (h _ _ (ls l0 (by rw[<-za];simpa using e2)) .refl)
 have e1':1≠b.size:=by rw[<-zb];simpa using e1
 have e2':1≠a.size:=by rw[<-za];simpa using e2
 refine Zf (wpS_get ?_);have J:∀{γ:Type} {m:StateT SortSt Sem γ} {Q R:γ->SortSt->Prop} {st:SortSt},wpS (model prog w) A E s m R st->(∀c st,R c st->Q c st)->wpS (model prog w) A E s m Q st:=fun h k=>y4 h k;refine Zf (y4 (Z6 (I:=fun x c st'=>SG' st st'/\∃ out ia ib mg,c=(none,out,ia,ib,mg)/\LoM lt (kas_item it) a b out ia ib/\ia+1<a.size/\ib<b.size/\x+1<=ia+ib)
  (Q:=fun c st'=>SG' st st'/\∃ r d,c=(some r,d)/\Gd lt (kas_item it) a b r) ?step ?fin ⟨.refl,_,0,1,_,rfl,l0,by omega,by omega,by omega⟩) ?post)
 case fin =>rintro c st' ⟨_,out,ia,ib,mg,rfl,_,h1,h2,h3⟩;rw[za,zb]at h3;omega
 case post =>rintro c st' ⟨g,r,d,rfl,hr⟩;exact Zk (h r st' hr g)
 case step =>
  rintro x c st1 _ hx ⟨g,out,ia,ib,mg,rfl,l1,h1,h2,h3⟩;refine Zf (y4 (Z6 (I:=fun y c st'=>st'=st1/\∃ out ia' ib' ac bc,c=(none,out,ia',ib',ac,bc)/\LoM lt (kas_item it) a b out ia' ib'/\ia'+1<a.size/\ib'<b.size/\ia+ib+y<=ia'+ib')
   (Q:=fun c st'=>st'=st1/\((∃ r d,c=(some r,d)/\Gd lt (kas_item it) a b r)\/∃ out ia' ib' ac bc,c=(none,out,ia',ib',ac,bc)/\LoM lt (kas_item it) a b out ia' ib'/\ia'+1<a.size/\ib'<b.size/\ia+ib+1<=ia'+ib')) ?step1 ?fin1 ⟨rfl,_,ia,ib,_,_,rfl,l1,h1,h2,by omega⟩) ?post1)
  case fin1 =>rintro c st' ⟨rfl,out,ia',ib',ac,bc,rfl,l2,g1,g2,g3⟩;exact⟨rfl,.inr ⟨out,ia',ib',ac,bc,rfl,l2,g1,g2,by rw[za,zb]at g3;omega⟩⟩
  case step1 =>
   rintro y c st' _ hy ⟨rfl,out,ia',ib',ac,bc,rfl,l2,g1,g2,g3⟩;dsimp only;refine Zf (aR g2 (Zf (aR (show ia'<a.size by omega) (Zf (pG Z (g.kind hk) (M.nb _ g2) (M.na _ (by omega)) ?_)))));cases ew:lt (gA b ib') (gA a ia')with
   |true =>
    refine hit (fun _=>?_) (fun z=>absurd rfl z);refine Zf (aR g2 ?_);have l3:=l2.pushB M O (by omega) g2 ew;refine hit (fun e=>?_) fun e=>hit (fun _=>?_) fun _=>?_
    ·exact Zk ⟨rfl,.inl ⟨_,_,rfl,dn l3 (.inr (by rw[<-zb];simpa using e))⟩⟩
    ·exact Zk ⟨rfl,.inr ⟨_,_,_,_,_,rfl,l3,g1,by have:ib'+1≠b.size:=(by rw[<-zb];simpa using e);omega,by omega⟩⟩
    ·exact Zk ⟨rfl,_,_,_,_,_,rfl,l3,g1,by have:ib'+1≠b.size:=(by rw[<-zb];simpa using e);omega,by omega⟩
   |false =>
    refine hit (fun z=>absurd z (by simp)) fun _=>?_;refine Zf (aR (show ia'<a.size by omega) ?_);have l3:=l2.pushA M O (by omega) g2 ew;refine hit (fun e=>?_) fun e=>hit (fun _=>?_) fun _=>?_
    ·exact Zk ⟨rfl,.inl ⟨_,_,rfl,ls l3 (by rw[<-za];simpa using e)⟩⟩
    ·exact Zk ⟨rfl,.inr ⟨_,_,_,_,_,rfl,l3,by have:ia'+1+1≠a.size:=(by rw[<-za];simpa using e);omega,g2,by omega⟩⟩
    ·exact Zk ⟨rfl,_,_,_,_,_,rfl,l3,by have:ia'+1+1≠a.size:=(by rw[<-za];simpa using e);omega,g2,by omega⟩
  case post1 =>
   rintro c st' ⟨rfl,⟨r,d,rfl,hr⟩|⟨out,ia',ib',ac,bc,rfl,l2,g1,g2,g3⟩⟩
   ·exact Zk ⟨g,r,_,rfl,hr⟩
   refine Zf (wpS_lift (ZT ⟨rfl,?_⟩));refine Zf (y4 (Z6 (I:=fun y c st'=>SG' st st'/\∃ out ia1 ib1 mg ac bc,c=(none,out,ia1,ib1,mg,ac,bc)/\LoM lt (kas_item it) a b out ia1 ib1/\ia1+1<a.size/\ib1<b.size/\ia'+ib'<=ia1+ib1)
    (Q:=fun c st'=>SG' st st'/\((∃ r d,c=(some r,d)/\Gd lt (kas_item it) a b r)\/∃ out ia1 ib1 mg ac bc,c=(none,out,ia1,ib1,mg,ac,bc)/\LoM lt (kas_item it) a b out ia1 ib1/\ia1+1<a.size/\ib1<b.size/\ia'+ib'<=ia1+ib1)) ?step2 ?fin2 ⟨g,_,_,_,_,_,_,rfl,l2,g1,g2,Zd _⟩) ?post2)
   case fin2 =>rintro c st2 ⟨gg,hh⟩;exact⟨gg,.inr hh⟩
   case post2 =>
    rintro c st2 ⟨gg,⟨r,d,rfl,hr⟩|⟨out,ia1,ib1,mg,ac,bc,rfl,l3,k1,k2,k3⟩⟩
    ·exact Zk ⟨gg,r,_,rfl,hr⟩
    ·exact Zf (nL (Zk ⟨gg.set _,out,ia1,ib1,_,rfl,l3,k1,k2,by omega⟩))
   case step2 =>
    rintro y c st2 _ hy ⟨gg,out,ia1,ib1,mg,ac,bc,rfl,l3,k1,k2,k3⟩;dsimp only;refine aC (fun _=>?_) fun _=>?_
    ·exact y4 (vc (n:=ia'+ib') (mg:=mg-1) (ac:=ac) (bc:=bc) Z O M hk gg l3 k1 k2 k3) fun r st3 hr=>by
      cases r with
      |done c=>exact hr
      |yield c=>exact hr
    ·exact y4 (vc (n:=ia'+ib') (mg:=mg) (ac:=ac) (bc:=bc) Z O M hk gg l3 k1 k2 k3) fun r st3 hr=>by
      cases r with
      |done c=>exact hr
      |yield c=>exact hr
end
open PySem PyProof.Rows PySem.W
def fE(a b out:Array Keyed)(na nb:Nat):Array Keyed:=a.extract 0 na++b.extract 0 nb++out.reverse
def rD(a b out:Array Keyed)(na nb:Nat):Array Keyed:=b.extract 0 nb++a.extract 0 na++out.reverse
abbrev HiC:=Option (Array Keyed)×Nat×Nat×Array Keyed×Nat×Nat×Nat
def rF(a b:Array Keyed)(na nb:Nat)(out:Array Keyed)(mg ac bc:Nat):StateT SortSt Sem (ForInStep HiC):=do
 let x ←elem' a (na-1)
 if(na-1==0)=true then pure (.done (some (fE a b (out.push x) (na-1) nb),na-1,nb,out.push x,mg,ac,bc))
 else if(decide (ac<7)&&decide (bc<7))=true then pure (.done (none,na-1,nb,out.push x,mg,ac,bc))else pure (.yield (none,na-1,nb,out.push x,mg,ac,bc))
def rE(a b:Array Keyed)(na nb:Nat)(out:Array Keyed)(mg ac bc:Nat):StateT SortSt Sem (ForInStep HiC):=do
 let y ←elem' b (nb-1)
 if(nb-1==1)=true then pure (.done (some (rD a b (out.push y) na (nb-1)),na,nb-1,out.push y,mg,ac,bc))
 else do
  let x ←elem' a (na-1)
  let some k ←dJ true x b 0 (nb-1) (nb-1-1)|pure (.done (some (fE a b (out.push y) na (nb-1)),na,nb-1,out.push y,mg,ac,bc))
  if nb-1-k>0 then
   if(k==1)=true then pure (.done (some (rD a b (out.push y++(b.extract k (nb-1)).reverse) na k),na,k,out.push y++(b.extract k (nb-1)).reverse,mg,ac,nb-1-k))
   else if(k==0)=true then pure (.done (some (fE a b (out.push y++(b.extract k (nb-1)).reverse) na k),na,k,out.push y++(b.extract k (nb-1)).reverse,mg,ac,nb-1-k))
   else rF a b na k (out.push y++(b.extract k (nb-1)).reverse) mg ac (nb-1-k)
  else rF a b na (nb-1) (out.push y) mg ac (nb-1-k)
def zY(a b:Array Keyed)(na nb:Nat)(out:Array Keyed)(mg ac bc:Nat):StateT SortSt Sem (ForInStep HiC):=do
 iL mg
 let y ←elem' b (nb-1)
 let some k ←dJ false y a 0 na (na-1)|pure (.done (some (fE a b out na nb),na,nb,out,mg,ac,bc))
 if na-k>0 then
  if(k==0)=true then pure (.done (some (fE a b (out++(a.extract k na).reverse) k nb),k,nb,out++(a.extract k na).reverse,mg,na-k,bc))
  else rE a b k nb (out++(a.extract k na).reverse) mg (na-k) bc
 else rE a b na nb out mg (na-k) bc
section
variable{prog:Program}{w:World}{A:Around}{E:Value->Shared->Prop}{s:Shared}{κ:SortKind}{it:Array Keyed}{lt:Nat->Nat->Bool}{N:Nat}{st:SortSt}{a b:Array Nat}
def HiI(lt:Nat->Nat->Bool)(f:Nat->Keyed)(a b:Array Nat)(n:Nat)(c:HiC):Prop:=∃na nb out mg ac bc,c=(none,na,nb,out,mg,ac,bc)/\HiM lt f a b out na nb/\1<=na/\na<=a.size/\2<=nb/\nb<=b.size/\na+nb<=n
def HiQ(lt:Nat->Nat->Bool)(f:Nat->Keyed)(a b:Array Nat)(st:SortSt)(n:Nat)(r:ForInStep HiC)(st':SortSt):Prop:=SG' st st'/\match r with
 |.done c=>(∃r d,c=(some r,d)/\Gd lt f a b r)\/HiI lt f a b n c
 |.yield c=>HiI lt f a b n c
theorem va(O:LtOk lt)(M:MF lt N a b){out:Array Keyed}{na nb mg ac bc n:Nat}{st0:SortSt}(g:SG' st0 st)(l:HiM lt (kas_item it) a b out na nb)(h1:1<=na)(h1':na<=a.size)(h2:2<=nb)(h2':nb<=b.size)(hn:na+nb<=n)(hw:lt (gA b (nb-1)) (gA a (na-1))=true) :
  wpS (model prog w) A E s (rF (a.map (kas_item it)) (b.map (kas_item it)) na nb out mg ac bc) (HiQ lt (kas_item it) a b st0 n) st:=by
 unfold rF fE;refine Zf (aR (by omega) ?_);have l3:=l.pushA M O (by omega) h1' (by omega) h2' hw;refine aC (fun e=>?_) fun e=>aC (fun _=>?_) fun _=>?_
 ·exact Zk ⟨g,.inl ⟨_,_,rfl,l3.done M (.inl (by simpa using e))⟩⟩
 ·have e':na-1≠0:=by simpa using e
  exact Zk ⟨g,.inr ⟨_,_,_,_,_,_,rfl,l3,by omega,by omega,h2,h2',by omega⟩⟩
 ·have e':na-1≠0:=by simpa using e
  exact Zk ⟨g,⟨_,_,_,_,_,_,rfl,l3,by omega,by omega,h2,h2',by omega⟩⟩
theorem uZ(Z:Zc prog w A s κ it lt N)(O:LtOk lt)(M:MF lt N a b){out:Array Keyed}{na nb mg ac bc n:Nat}{st0:SortSt}(hk:kindOf st0=κ)(g:SG' st0 st)(l:HiM lt (kas_item it) a b out na nb)(h1:1<=na)(h1':na<=a.size)(h2:2<=nb)(h2':nb<=b.size)(hn:na+nb<=n)(hw:lt (gA b (nb-1)) (gA a (na-1))=false) :
  wpS (model prog w) A E s (rE (a.map (kas_item it)) (b.map (kas_item it)) na nb out mg ac bc) (HiQ lt (kas_item it) a b st0 n) st:=by
 unfold rE fE rD;refine Zf (aR (by omega) ?_);have l3:=l.pushB M O (by omega) h1' (by omega) h2' hw;refine aC (fun e=>?_) fun e=>?_
 ·exact Zk ⟨g,.inl ⟨_,_,rfl,l3.first M O (by simpa using e)⟩⟩
 have e':nb-1≠1:=by simpa using e
 have z0:∀i,0+i=i:=fun i=>by omega
 refine Zf (aR (by omega) (Zf (jb Z (g.kind hk) (M.na _ (by omega)) (by omega) (fun i _ _=>M.nb i (by omega)) (by omega) (fun i j h3 h4 h5=>?_) fun k hk1 hk2 hk3=>?_)))
 ·rw[z0]at h5 ⊢;exact M.leB O (by omega) (by omega) h5
 have hk3':∀i,k<=i->i<nb-1->lt (gA b i) (gA a (na-1))=false:=fun i x y=>by have:=hk3 i x y;rw[z0]at this;exact this
 have hk2':∀i,i<k->lt (gA b i) (gA a (na-1))=true:=fun i x=>by have:=hk2 i x;rw[z0]at this;exact this
 refine aC (fun hp=>aC (fun e=>?_) fun e=>aC (fun e2=>?_) fun e2=>?_) fun hp=>?_
 ·have l4:=l3.chunkB M O k (by omega) h1' (by omega) (by omega) hk3';exact Zk ⟨g,.inl ⟨_,_,rfl,l4.first M O (by simpa using e)⟩⟩
 ·have l4:=l3.chunkB M O k (by omega) h1' (by omega) (by omega) hk3';exact Zk ⟨g,.inl ⟨_,_,rfl,l4.done M (.inr (by simpa using e2))⟩⟩
 ·have l4:=l3.chunkB M O k (by omega) h1' (by omega) (by omega) hk3';have q1:k≠1:=by simpa using e
  have q2:k≠0:=by simpa using e2
  exact va O M g l4 h1 h1' (by omega) (by omega) (by omega) (hk2' (k-1) (by omega))
 ·have e3:k=nb-1:=by omega
  exact va O M g l3 h1 h1' (by omega) (by omega) (by omega) (hk2' (nb-1-1) (by omega))
theorem uY(Z:Zc prog w A s κ it lt N)(O:LtOk lt)(M:MF lt N a b){out:Array Keyed}{na nb mg ac bc n:Nat}{st0:SortSt}(hk:kindOf st0=κ)(g:SG' st0 st)(l:HiM lt (kas_item it) a b out na nb)(h1:1<=na)(h1':na<=a.size)(h2:2<=nb)(h2':nb<=b.size)(hn:na+nb<=n) :
  wpS (model prog w) A E s (zY (a.map (kas_item it)) (b.map (kas_item it)) na nb out mg ac bc) (HiQ lt (kas_item it) a b st0 n) st:=by
 unfold zY fE;have z0:∀i,0+i=i:=fun i=>by omega
 have tf:∀{x y:Nat},zB lt false x y=true->lt x y=false:=fun{x y} z=>by have z':(!lt x y)=true:=z;simpa using z'
 have ft:∀{x y:Nat},zB lt false x y=false->lt x y=true:=fun{x y} z=>by have z':(!lt x y)=false:=z;simpa using z'
 refine Zf (nL (Zf (aR (by omega) (Zf (jb Z ((g.set _).kind hk) (M.nb _ (by omega)) (by omega) (fun i _ _=>M.na i (by omega)) (by omega) (fun i j h3 h4 h5=>?_) fun k hk1 hk2 hk3=>?_)))))
 ·rw[z0]at h5 ⊢;have z:=tf h5;show(!lt (gA b (nb-1)) (gA a i))=true;cases e:lt (gA b (nb-1)) (gA a i)with
  |false=>rfl
  |true=>rw[M.leA O h3 (by omega) e]at z;cases z
 have hk3':∀i,k<=i->i<na->lt (gA b (nb-1)) (gA a i)=true:=fun i x y=>by have:=ft (hk3 i x y);rw[z0]at this;exact this
 have hk2':∀i,i<k->lt (gA b (nb-1)) (gA a i)=false:=fun i x=>by have:=tf (hk2 i x);rw[z0]at this;exact this
 refine aC (fun hp=>aC (fun e=>?_) fun e=>?_) fun hp=>?_
 ·have l4:=l.chunkA M O k (by omega) h1' (by omega) h2' hk3';exact Zk ⟨g.set _,.inl ⟨_,_,rfl,l4.done M (.inl (by simpa using e))⟩⟩
 ·have l4:=l.chunkA M O k (by omega) h1' (by omega) h2' hk3';have q1:k≠0:=by simpa using e
  exact uZ Z O M hk (g.set _) l4 (by omega) (by omega) h2 h2' (by omega) (hk2' (k-1) (by omega))
 ·have e3:k=na:=by omega
  exact uZ Z O M hk (g.set _) l h1 h1' h2 h2' hn (hk2' (na-1) (by omega))
theorem Dq(Z:Zc prog w A s κ it lt N)(O:LtOk lt)(M:MF lt N a b){Q:Array Keyed->SortSt->Prop}(hk:kindOf st=κ)(h:∀r st',Gd lt (kas_item it) a b r->SG' st st'->Q r st'):wpS (model prog w) A E s (zHi (a.map (kas_item it)) (b.map (kas_item it))) Q st:=by
 have a0:=M.a0;have b0:=M.b0;have za:(a.map (kas_item it)).size=a.size:=Yn ..;have zb:(b.map (kas_item it)).size=b.size:=Yn ..;rw[B0];refine Zf (wpS_lift (ZT ⟨rfl,?_⟩));rw[za,zb];refine Zf (aR (by omega) ?_);have l0:=HiM.start (f:=kas_item it) M O;refine aC (fun e1=>?_) fun e1=>aC (fun e2=>?_) fun e2=>?_
 ·exact Zk (h _ _ (l0.done M (.inl (by simpa using e1))) .refl)
 ·exact Zk (h _ _ (l0.first M O (by simpa using e2)) .refl)
 have e1':a.size-1≠0:=by simpa using e1
 have e2':b.size≠1:=by simpa using e2
 refine Zf (wpS_get ?_);refine Zf (y4 (Z6 (I:=fun x c st'=>SG' st st'/\∃ na nb out mg,c=(none,na,nb,out,mg)/\HiM lt (kas_item it) a b out na nb/\1<=na/\na<=a.size/\2<=nb/\nb<=b.size/\na+nb+x<=a.size+b.size)
  (Q:=fun c st'=>SG' st st'/\∃ r d,c=(some r,d)/\Gd lt (kas_item it) a b r) ?step ?fin ⟨.refl,_,_,_,_,rfl,l0,by omega,by omega,by omega,by omega,by omega⟩) ?post)
 case fin =>rintro c st' ⟨_,na,nb,out,mg,rfl,_,h1,h1',h2,h2',h3⟩;omega
 case post =>rintro c st' ⟨g,r,d,rfl,hr⟩;exact Zk (h r st' hr g)
 case step =>
  rintro x c st1 _ hx ⟨g,na,nb,out,mg,rfl,l1,h1,h1',h2,h2',h3⟩;refine Zf (y4 (Z6 (I:=fun y c st'=>st'=st1/\∃ na' nb' out ac bc,c=(none,na',nb',out,ac,bc)/\HiM lt (kas_item it) a b out na' nb'/\1<=na'/\na'<=a.size/\2<=nb'/\nb'<=b.size/\na'+nb'+y<=na+nb)
   (Q:=fun c st'=>st'=st1/\((∃ r d,c=(some r,d)/\Gd lt (kas_item it) a b r)\/∃ na' nb' out ac bc,c=(none,na',nb',out,ac,bc)/\HiM lt (kas_item it) a b out na' nb'/\1<=na'/\na'<=a.size/\2<=nb'/\nb'<=b.size/\na'+nb'+1<=na+nb)) ?step1 ?fin1 ⟨rfl,na,nb,out,0,0,rfl,l1,h1,h1',h2,h2',by omega⟩) ?post1)
  case fin1 =>rintro c st' ⟨rfl,na',nb',out,ac,bc,rfl,l2,g1,g1',g2,g2',g3⟩;exact⟨rfl,.inr ⟨na',nb',out,ac,bc,rfl,l2,g1,g1',g2,g2',by omega⟩⟩
  case step1 =>
   rintro y c st' _ hy ⟨rfl,na',nb',out,ac,bc,rfl,l2,g1,g1',g2,g2',g3⟩;dsimp only;refine Zf (aR (by omega) (Zf (aR (by omega) (Zf (pG Z (g.kind hk) (M.nb _ (by omega)) (M.na _ (by omega)) ?_)))));cases ew:lt (gA b (nb'-1)) (gA a (na'-1))with
   |true =>
    refine aC (fun _=>?_) (fun z=>absurd rfl z);refine Zf (aR (by omega) ?_);have l3:=l2.pushA M O (by omega) g1' (by omega) g2' ew;refine aC (fun e=>?_) fun e=>aC (fun _=>?_) fun _=>?_
    ·exact Zk ⟨rfl,.inl ⟨_,_,rfl,l3.done M (.inl (by simpa using e))⟩⟩
    ·have e':na'-1≠0:=by simpa using e
     exact Zk ⟨rfl,.inr ⟨_,_,_,_,_,rfl,l3,by omega,by omega,g2,g2',by omega⟩⟩
    ·have e':na'-1≠0:=by simpa using e
     exact Zk ⟨rfl,_,_,_,_,_,rfl,l3,by omega,by omega,g2,g2',by omega⟩
   |false =>
    refine aC (fun z=>absurd z (by simp)) fun _=>?_;refine Zf (aR (by omega) ?_);have l3:=l2.pushB M O (by omega) g1' (by omega) g2' ew;refine aC (fun e=>?_) fun e=>aC (fun _=>?_) fun _=>?_
    ·exact Zk ⟨rfl,.inl ⟨_,_,rfl,l3.first M O (by simpa using e)⟩⟩
    ·have e':nb'-1≠1:=by simpa using e
     exact Zk ⟨rfl,.inr ⟨_,_,_,_,_,rfl,l3,g1,g1',by omega,by omega,by omega⟩⟩
    ·have e':nb'-1≠1:=by simpa using e
     exact Zk ⟨rfl,_,_,_,_,_,rfl,l3,g1,g1',by omega,by omega,by omega⟩
  case post1 =>
   rintro c st' ⟨rfl,⟨r,d,rfl,hr⟩|⟨na',nb',out,ac,bc,rfl,l2,g1,g1',g2,g2',g3⟩⟩
   ·exact Zk ⟨g,r,_,rfl,hr⟩
   refine Zf (wpS_lift (ZT ⟨rfl,?_⟩));refine Zf (y4 (Z6 (I:=fun y c st'=>SG' st st'/\HiI lt (kas_item it) a b (na'+nb') c)
    (Q:=fun c st'=>SG' st st'/\((∃ r d,c=(some r,d)/\Gd lt (kas_item it) a b r)\/HiI lt (kas_item it) a b (na'+nb') c)) ?step2 ?fin2 ⟨g,_,_,_,_,_,_,rfl,l2,g1,g1',g2,g2',Zd _⟩) ?post2)
   case fin2 =>rintro c st2 ⟨gg,hh⟩;exact⟨gg,.inr hh⟩
   case post2 =>
    rintro c st2 ⟨gg,⟨r,d,rfl,hr⟩|⟨na1,nb1,out,mg,ac,bc,rfl,l3,k1,k1',k2,k2',k3⟩⟩
    ·exact Zk ⟨gg,r,_,rfl,hr⟩
    ·exact Zf (nL (Zk ⟨gg.set _,na1,nb1,out,_,rfl,l3,k1,k1',k2,k2',by omega⟩))
   case step2 =>
    rintro y c st2 _ hy ⟨gg,na1,nb1,out,mg,ac,bc,rfl,l3,k1,k1',k2,k2',k3⟩;dsimp only;refine aC (fun _=>?_) fun _=>?_
    ·exact y4 (uY (n:=na'+nb') (mg:=mg-1) (ac:=ac) (bc:=bc) Z O M hk gg l3 k1 k1' k2 k2' k3) fun r st3 hr=>by
      cases r with
      |done c=>exact hr
      |yield c=>exact hr
    ·exact y4 (uY (n:=na'+nb') (mg:=mg) (ac:=ac) (bc:=bc) Z O M hk gg l3 k1 k1' k2 k2' k3) fun r st3 hr=>by
      cases r with
      |done c=>exact hr
      |yield c=>exact hr
end
open PySem PyProof.Rows PySem.W
theorem qX(at0:Nat):∀(l:List Keyed) (n:Nat) (ar:Array Keyed),at0+n+l.length<=ar.size->((l.zipIdx n).foldl (fun a (p,j)=>a.setIfInBounds (at0+j) p) ar).toList=ar.toList.take (at0+n)++(l++ar.toList.drop (at0+n+l.length))
 | [],n,ar,_=>by rw[List.nil_append,List.length_nil,Nat.add_zero,ZY];rfl
 |x::l,n,ar,h=>by
  rw[Zr]at h;rw[List.zipIdx_cons,List.foldl_cons];have hs:(ar.setIfInBounds (at0+n) x).size=ar.size:=Array.size_setIfInBounds;have ih:=qX at0 l (n+1) (ar.setIfInBounds (at0+n) x) (by omega);rw[ih,Array.toList_setIfInBounds];have hl:at0+n<ar.toList.length:=by rw[Zs];omega
  have e1:(ar.toList.set (at0+n) x).take (at0+(n+1))=ar.toList.take (at0+n)++[x]:=by rw[show at0+(n+1)=at0+n+1 by omega,List.take_add_one,List.take_set_of_le (Zd _)];rw[List.getElem?_set_self hl];rfl
  have e2:(ar.toList.set (at0+n) x).drop (at0+(n+1)+l.length)=ar.toList.drop (at0+n+(x::l).length):=by rw[List.drop_set_of_lt (by omega),Zr];congr 1;omega
  rw[e1,e2,ZF];rfl
theorem zp{f:Nat->Keyed}{p q:Array Nat}{at0:Nat}(h:at0+q.size<=p.size):∃p':Array Nat,jN (p.map f) at0 (q.map f)=p'.map f/\p'.toList=p.toList.take at0++(q.toList++p.toList.drop (at0+q.size)):=by refine⟨(p.toList.take at0++(q.toList++p.toList.drop (at0+q.size))).toArray,?_,by simp⟩;apply Array.toList_inj.mp;have e:=qX at0 (q.map f).toList 0 (p.map f) (by simpa using h);unfold jN;rw[e];simp
section
variable{prog:Program}{w:World}{A:Around}{E:Value->Shared->Prop}{s:Shared}{κ:SortKind}{it:Array Keyed}{lt:Nat->Nat->Bool}{N:Nat}{st:SortSt}{a b:Array Nat}
theorem qg{l:List Nat}(h:l.Pairwise (Lx lt)){i j:Nat}(hij:i<j)(hj:j<l.length):Lx lt (l.getD i 0) (l.getD j 0):=by rw[Yk]at h;have:=h i j (by omega) hj hij;rw[Ze,Ze,Zb (show i<l.length by omega),Zb hj];exact this
theorem cw{l:List Nat}{i:Nat}(h:i<l.length):l.getD i 0∈l:=by rw[Ze,Zb h];exact YI h
theorem oJ{l:List Nat}{x:Nat}(h:x∈l):∃i,i<l.length/\l.getD i 0=x:=by obtain⟨i,hi,e⟩:=List.mem_iff_getElem.mp h;refine⟨i,hi,?_⟩;rw[Ze,Zb hi];exact e
theorem oq(O:LtOk lt){l:List Nat}(h:l.Pairwise (Lx lt)){i j:Nat}(hij:i<=j)(hj:j<l.length){x:Nat}(hx:lt x (l.getD i 0)=true):lt x (l.getD j 0)=true:=by
 rcases Yd i j with h1|h1
 ·exact O.lt_le hx (qg h h1 hj).1
 ·have e:i=j:=by omega
  rw[<-e];exact hx
theorem ow(O:LtOk lt){l:List Nat}(h:l.Pairwise (Lx lt)){i j:Nat}(hij:i<=j)(hj:j<l.length){x:Nat}(hx:lt (l.getD j 0) x=true):lt (l.getD i 0) x=true:=by
 rcases Yd i j with h1|h1
 ·exact O.le_lt (qg h h1 hj).1 hx
 ·have e:i=j:=by omega
  rw[e];exact hx
theorem Dp(Z:Zc prog w A s κ it lt N)(O:LtOk lt){p:Array Nat}{pre X Y post:List Nat}{i pw pw2:Nat}{Q:Bool->SortSt->Prop}(hk:kindOf st=κ)(hf:failedOf st=none)(ha:arrOf st=p.map (kas_item it))(hp:p.toList=pre++(X++(Y++post)))(hX:X.Pairwise (Lx lt))(hY:Y.Pairwise (Lx lt))(hX0:0<X.length)(hY0:0<Y.length)(hXY:∀ x∈X,∀ y∈Y,x<y)(hN:∀ x∈p.toList,x<N)(h1:(pendingOf st)[i]? = some (pre.length,X.length,pw))(h2:(pendingOf st)[i+1]? = some (pre.length+X.length,Y.length,pw2))(h:∀ (st':SortSt) (p':Array Nat) (W:List Nat),kindOf st'=κ->failedOf st'=none->arrOf st'=p'.map (kas_item it)->p'.toList=pre++(W++post)->W.Pairwise (Lx lt)->W.Perm (X++Y) ->
   pendingOf st'=((pendingOf st).setIfInBounds i (pre.length,X.length+Y.length,pw)).eraseIdxIfInBounds (i+1)->Q true st'):wpS (model prog w) A E s (mergeAt' i) Q st:=by
 have psz:p.size=pre.length+(X.length+(Y.length+post.length)):=by rw[<-Zs,hp];simp
 have gX:∀i,i<X.length->gA p (pre.length+i)=X.getD i 0:=fun i hi=>by rw[aI,hp,Ze,Ze,ZL (by omega),Z2,y7 hi]
 have gY:∀i,i<Y.length->gA p (pre.length+X.length+i)=Y.getD i 0:=fun i hi=>by rw[aI,hp,Ze,Ze,ZL (by omega),show pre.length+X.length+i-pre.length=X.length+i by omega,ZL (by omega),Z2,y7 hi]
 have nX:∀x∈X,x<N:=fun x hx=>hN x (by rw[hp];simp[hx]);have nY:∀x∈Y,x<N:=fun x hx=>hN x (by rw[hp];simp[hx]);have tf:∀{x y:Nat},zB lt false x y=true->lt x y=false:=fun{x y} z=>by have z':(!lt x y)=true:=z;simpa using z'
 have ft:∀{x y:Nat},zB lt false x y=false->lt x y=true:=fun{x y} z=>by have z':(!lt x y)=false:=z;simpa using z'
 rw[BZ];refine Zf (wpS_get ?_);rw[h1,h2];have hset:∀{st2:SortSt} {Q:PUnit->SortSt->Prop},Q ⟨⟩ st2->wpS (model prog w) A E s (set st2:StateT SortSt Sem PUnit) Q st:=fun{st2 Q} hq=>by have e:(set st2:StateT SortSt Sem PUnit)=modify fun _=>st2:=rfl;rw[e];exact wpS_modify hq
 refine Zf (hset ?_);rw[ha];refine Zf (aR (by omega) ?_);have eY:gA p (pre.length+X.length)=Y.getD 0 0:=gY 0 hY0;rw[eY];refine Zf (jb Z hk (nY _ (cw hY0)) (by omega) (fun i h3 h4=>?_) hX0 (fun i j h3 h4 h5=>?_) fun k hk1 hk2 hk3=>?_)
 ·obtain⟨d,rfl⟩:∃d,i=pre.length+d:=⟨i-pre.length,by omega⟩
  rw[gX d (by omega)];exact nX _ (cw (by omega))
 ·rw[gX _ (by omega)]at h5 ⊢;have z:=tf h5;show(!lt (Y.getD 0 0) (X.getD i 0))=true;cases e:lt (Y.getD 0 0) (X.getD i 0)with
  |false=>rfl
  |true=>rw[oq O hX h3 h4 e]at z;cases z
 have k2:∀i,i<k->lt (Y.getD 0 0) (X.getD i 0)=false:=fun i hi=>by have:=tf (hk2 i hi);rw[gX i (by omega)]at this;exact this
 have k3:∀i,k<=i->i<X.length->lt (Y.getD 0 0) (X.getD i 0)=true:=fun i hi hi2=>by have:=ft (hk3 i hi hi2);rw[gX i (by omega)]at this;exact this
 have low:∀x∈X.take k,∀y∈Y,Lx lt x y:=fun x hx y hy=>by
  have hm:=List.mem_of_mem_take hx;obtain⟨i,i1,i2,rfl⟩:=iV hx;obtain⟨j,j1,rfl⟩:=oJ hy;refine⟨?_,.inr (hXY _ hm _ hy)⟩;cases e:lt (Y.getD j 0) (X.getD i 0)with
  |false=>rfl
  |true=>rw[<-k2 i i1];exact(ow O hY (Z7 j) j1 e).symm
 refine aC (fun e0=>?_) fun e0=>?_
 ·have e0':X.length-k=0:=by simpa using e0
  refine Zk (h _ p (X++Y) hk hf ha (by rw[hp,ZF]) (ZM.mpr ⟨hX,hY,fun x hx y hy=>?_⟩) (List.Perm.refl _) rfl);exact low x (by rw[ZD (by omega)];exact hx) y hy
 have e0':X.length-k≠0:=by simpa using e0
 refine Zf (aR (by omega) ?_);have eXl:gA p (pre.length+k+(X.length-k)-1)=X.getD (X.length-1) 0:=by rw[show pre.length+k+(X.length-k)-1=pre.length+(X.length-1) by omega];exact gX _ (by omega)
 rw[eXl];refine Zf (jb Z hk (nX _ (cw (by omega))) (by omega) (fun i h3 h4=>?_) (by omega) (fun i j h3 h4 h5=>?_) fun c hc1 hc2 hc3=>?_)
 ·obtain⟨d,rfl⟩:∃d,i=pre.length+X.length+d:=⟨i-(pre.length+X.length),by omega⟩
  rw[gY d (by omega)];exact nY _ (cw (by omega))
 ·rw[gY _ (by omega)]at h5 ⊢;exact ow O hY h3 h4 h5
 have c2:∀i,i<c->lt (Y.getD i 0) (X.getD (X.length-1) 0)=true:=fun i hi=>by have:=hc2 i hi;rw[gY i (by omega)]at this;exact this
 have c3:∀i,c<=i->i<Y.length->lt (Y.getD i 0) (X.getD (X.length-1) 0)=false:=fun i hi hi2=>by have:=hc3 i hi hi2;rw[gY i (by omega)]at this;exact this
 refine aC (fun e1=>?_) fun e1=>?_
 ·have e1':c=0:=by simpa using e1
  have z1:=c3 0 (by omega) hY0;rw[k3 (X.length-1) (by omega) (by omega)]at z1;cases z1
 have e1':c≠0:=by simpa using e1
 have la:(p.extract (pre.length+k) (pre.length+X.length)).toList=X.drop k:=by rw[lE,hp,List.take_append,ZD (by omega),Z2,List.take_left,List.drop_append,YL (by omega),List.nil_append,Z2]
 have lb:(p.extract (pre.length+X.length) (pre.length+X.length+c)).toList=Y.take c:=by rw[gI,hp,<-ZF,List.drop_append,YL (by simp),List.nil_append,Zg,YQ,List.drop_zero,List.take_append,show c-Y.length=0 by omega,List.take_zero,ZQ]
 have sza:(p.extract (pre.length+k) (pre.length+X.length)).size=X.length-k:=by rw[<-Zs,la,Yu]
 have szb:(p.extract (pre.length+X.length) (pre.length+X.length+c)).size=c:=by rw[<-Zs,lb,ZS];omega
 have ga:∀i,gA (p.extract (pre.length+k) (pre.length+X.length)) i=X.getD (k+i) 0:=fun i=>by rw[aI,la,Ze,Ze,List.getElem?_drop]
 have gb:∀i,i<c->gA (p.extract (pre.length+X.length) (pre.length+X.length+c)) i=Y.getD i 0:=fun i hi=>by rw[aI,lb,Ze,Ze,List.getElem?_take,if_pos hi]
 have M:MF lt N (p.extract (pre.length+k) (pre.length+X.length)) (p.extract (pre.length+X.length) (pre.length+X.length+c)):=by
  refine⟨rR (by rw[la];exact hX.sublist (Yh _ _)),rR (by rw[lb];exact hY.sublist (y9 _ _)),fun i j hi hj e=>?_,fun i hi=>?_,fun i hi=>?_,by omega,by omega,?_,fun j hj=>?_⟩
  ·rw[ga,gb j (by omega)]at e ⊢;exact⟨e,.inr (hXY _ (cw (by omega)) _ (cw (by omega)))⟩
  ·rw[ga];exact nX _ (cw (by omega))
  ·rw[gb i (by omega)];exact nY _ (cw (by omega))
  ·rw[ga,gb 0 (by omega)];exact k3 _ (by omega) (by omega)
  ·rw[ga,gb j (by omega),sza,show k+(X.length-k-1)=X.length-1 by omega];exact c2 j (by omega)
 have fin:∀(r:Array Keyed) (st2 st3:SortSt),Gd lt (kas_item it) (p.extract (pre.length+k) (pre.length+X.length)) (p.extract (pre.length+X.length) (pre.length+X.length+c)) r->kindOf st2=κ->failedOf st2=none->arrOf st2=p.map (kas_item it)->pendingOf st2=((pendingOf st).setIfInBounds i (pre.length,X.length+Y.length,pw)).eraseIdxIfInBounds (i+1)->SG' st2 st3 ->
   wpS (model prog w) A E s (do
    modify fun st=>setArr st (jN (arrOf st) (pre.length+k) r)
    return (failedOf (←get)).isNone) Q st3:=fun r st2 st3 ⟨q,eq,qs,qp⟩ j1 j2 j3 j4 ⟨g,eg⟩=>by
  subst eg;subst eq;rw[la,lb]at qp;have ql:q.size=X.length-k+c:=by have:=qp.length_eq;rw[Zg,Yu,ZS,Zs]at this;omega
  obtain⟨p',ep,lp⟩:=zp (f:=kas_item it) (p:=p) (q:=q) (at0:=pre.length+k) (by omega);have lp':p'.toList=pre++((X.take k++(q.toList++Y.drop c))++post):=by rw[lp,hp,List.take_append,ZD (by omega),Z2,List.take_append,show k-X.length=0 by omega,List.take_zero,ZQ];rw[ZF,ZF,ZF];congr 2;congr 1;rw[ql,show pre.length+k+(X.length-k+c)=pre.length+X.length+c by omega,<-ZF,List.drop_append,YL (by simp),List.nil_append,Zg,Z2,List.drop_append,show c-Y.length=0 by omega,List.drop_zero]
  refine Zf (wpS_modify (Zf (wpS_get ?_)));have hcr:∀x∈X,∀y∈Y.drop c,Lx lt x y:=fun x hx y hy=>by
   have hm:=List.mem_of_mem_drop hy;obtain⟨j,d1,d2,rfl⟩:=iU hy;obtain⟨i,i1,rfl⟩:=oJ hx;refine⟨?_,.inr (hXY _ hx _ hm)⟩;cases e:lt (Y.getD j 0) (X.getD i 0)with
   |false=>rfl
   |true=>rw[<-c3 j d1 d2];exact(oq O hX (show i<=X.length-1 by omega) (by omega) e).symm
  have sX:=ZM.mp (show(X.take k++X.drop k).Pairwise (Lx lt) by rw[ZY];exact hX);have sY:=ZM.mp (show(Y.take c++Y.drop c).Pairwise (Lx lt) by rw[ZY];exact hY);have pwW:(X.take k++(q.toList++Y.drop c)).Pairwise (Lx lt):=by
   refine ZM.mpr ⟨sX.1,ZM.mpr ⟨qs,sY.2.1,fun x hx y hy=>?_⟩,fun x hx y hy=>?_⟩
   ·rcases ZG.mp (qp.mem_iff.mp hx)with hx|hx
    ·exact hcr x (List.mem_of_mem_drop hx) y hy
    ·exact sY.2.2 x hx y hy
   ·rcases ZG.mp hy with hy|hy
    ·rcases ZG.mp (qp.mem_iff.mp hy)with hy|hy
     ·exact sX.2.2 x hx y hy
     ·exact low x hx y (List.mem_of_mem_take hy)
    ·exact low x hx y (List.mem_of_mem_drop hy)
  have pmW:(X.take k++(q.toList++Y.drop c)).Perm (X++Y):=by refine((qp.append_right (Y.drop c)).append_left (X.take k)).trans ?_;rw[ZF,ZY,<-ZF,ZY]
  have ea:jN (arrOf (jJ st2 g)) (pre.length+k) (q.map (kas_item it))=p'.map (kas_item it):=by show jN (arrOf st2) (pre.length+k) (q.map (kas_item it))=_;rw[j3];exact ep
  have eF:(failedOf (setArr (jJ st2 g) (jN (arrOf (jJ st2 g)) (pre.length+k) (q.map (kas_item it))))).isNone=true:=by show(failedOf st2).isNone=true;rw[j2];rfl
  rw[eF];exact Zk (h _ p' _ j1 j2 ea lp' pwW pmW j4)
 rw[bp,bp];refine aC (fun _=>?_) fun _=>?_
 ·exact Zf (Dr Z O M hk fun r st3 hr g=>fin r (setPending st (((pendingOf st).setIfInBounds i (pre.length,X.length+Y.length,pw)).eraseIdxIfInBounds (i+1))) st3 hr hk hf ha rfl g)
 ·exact Zf (Dq Z O M hk fun r st3 hr g=>fin r (setPending st (((pendingOf st).setIfInBounds i (pre.length,X.length+Y.length,pw)).eraseIdxIfInBounds (i+1))) st3 hr hk hf ha rfl g)
end
open PySem PyProof.Rows PySem.W
theorem KW.unbind{α β:Type}{lt:Nat->Nat->Bool}{Q:β->Prop}{f:α->KasT β}:∀{t:KasT α},KW lt Q (t.bind f)->KW lt (fun a=>KW lt Q (f a)) t
 |.ret _,h=>h
 |.ask i j k,h=>KW.unbind (t:=k (lt i j)) h
def pj(pre u:Array Nat):Array Nat:=pre++u.map (pre.size+·)
theorem iW(pre u:Array Nat):(pj pre u).size=pre.size+u.size:=by simp[pj]
theorem dP(pre u:Array Nat)(k:Nat):(pj pre u)[k]?=if k<pre.size then pre[k]? else(u[k-pre.size]?).map (pre.size+·):=by
 unfold pj;rw[Array.getElem?_append];split
 ·rfl
 ·rw[Array.getElem?_map]
theorem xr{pre u:Array Nat}{k:Nat}(hk:k<u.size):gA (pj pre u) (pre.size+k)=pre.size+gA u k:=by rw[gK,gK,dP,if_neg (by omega),Z2];simp[hk]
theorem A9{pre u:Array Nat}{i j:Nat}(hj:j<=u.size):kas_rev (pj pre u) (pre.size+i) (pre.size+j)=pj pre (kas_rev u i j):=by
 apply Array.ext_getElem?;intro k;unfold kas_rev;rw[getElem?_mirror_all (by rw[iW];omega),dP,dP,dP,getElem?_mirror_all hj];by_cases h0:k<pre.size
 ·rw[if_neg (by omega),if_pos h0,if_pos h0]
 ·rw[if_neg h0,if_neg h0];by_cases h1:i<=k-pre.size/\k-pre.size<j
  ·rw[if_pos (by omega),if_neg (by omega),if_pos h1];congr 2;omega
  ·rw[if_neg (by omega),if_neg h1]
theorem A8{pre u:Array Nat}{k d:Nat}(hk:k<u.size)(hd:d<=k):bubble (pj pre u) (pre.size+k) d=pj pre (bubble u k d):=by
 apply Array.ext_getElem?;intro i;rw[getElem?_bubble (by rw[iW];omega) d (by omega),dP,dP,dP,dP,getElem?_bubble hk d hd];by_cases h0:i<pre.size
 ·rw[if_neg (by omega),if_neg (by omega),if_pos h0,if_pos h0]
 ·rw[if_neg h0,if_neg h0];by_cases h1:i-pre.size=k-d
  ·rw[if_pos (by omega),if_pos h1,if_neg (by omega),Z2]
  ·rw[if_neg (by omega),if_neg h1];by_cases h2:k-d<i-pre.size/\i-pre.size<=k
   ·rw[if_pos (by omega),if_pos h2,if_neg (by omega)];congr 2;omega
   ·rw[if_neg (by omega),if_neg h2]
section
variable{prog:Program}{w:World}{A:Around}{E:Value->Shared->Prop}{s:Shared}{κ:SortKind}{it:Array Keyed}{lt:Nat->Nat->Bool}{N:Nat}{st:SortSt}{pre u:Array Nat}
def stQ(it:Array Keyed)(st:SortSt)(q:Array Nat):SortSt:=setArr st (q.map (kas_item it))
structure Zp(prog:Program)(w:World)(A:Around)(s:Shared)(κ:SortKind)(it:Array Keyed)(lt:Nat->Nat->Bool)(N:Nat)(st:SortSt)(pre:Array Nat)(n:Nat):Prop where
 Z:Zc prog w A s κ it lt N
 hk:kindOf st=κ
 hN:pre.size+n=N
 n0:0<n
def ltS(lt:Nat->Nat->Bool)(lo:Nat):Nat->Nat->Bool:=fun i j=>lt (lo+i) (lo+j)
theorem ll{n:Nat}(P:Zp prog w A s κ it lt N st pre n)(hu:POk n u){i j:Nat}(hi:i<n)(hj:j<n){Q:Option Bool->SortSt->Prop}(h:Q (some (ltS lt pre.size (gA u i) (gA u j))) (stQ it st (pj pre u))):wpS (model prog w) A E s (ltAt' (pre.size+i) (pre.size+j)) Q (stQ it st (pj pre u)):=by
 have hz:u.size=n:=by have:=hu.size_eq;simpa using this
 have hN:=P.hN;rw[ltAt'_eq];refine Zf (wpS_get ?_);have ea:arrOf (stQ it st (pj pre u))=(pj pre u).map (kas_item it):=rfl;rw[ea];refine Zf (aR (by rw[iW];omega) (Zf (aR (by rw[iW];omega) ?_)));rw[xr (by omega),xr (by omega)];have b1:=hu.lt P.n0 i;have b2:=hu.lt P.n0 j;exact pG P.Z P.hk (by unfold gA;omega) (by unfold gA;omega) h
theorem nJ{n:Nat}(hu:POk n u){i j:Nat}(hj:j<=n){Q:Unit->SortSt->Prop}(h:Q () (stQ it st (pj pre (kas_rev u i j)))):wpS (model prog w) A E s (reverseSlice' (pre.size+i) (pre.size+j)) Q (stQ it st (pj pre u)):=by
 have hz:u.size=n:=by have:=hu.size_eq;simpa using this
 rw[reverseSlice'_eq];refine wpS_modify ?_;have e1:mirror ((pj pre u).map (kas_item it)) (pre.size+i) (pre.size+j) ((pre.size+j-(pre.size+i)) / 2)=(kas_rev (pj pre u) (pre.size+i) (pre.size+j)).map (kas_item it):=kas_swaps_map (kas_item it) (fun k=>pre.size+i+k) (fun k=>pre.size+j-1-k) _ (pj pre u);have e2:setArr (stQ it st (pj pre u)) (mirror (arrOf (stQ it st (pj pre u))) (pre.size+i) (pre.size+j) ((pre.size+j-(pre.size+i)) / 2))=stQ it st (pj pre (kas_rev u i j)):=by show setArr st (mirror ((pj pre u).map (kas_item it)) (pre.size+i) (pre.size+j) ((pre.size+j-(pre.size+i)) / 2))=setArr st ((pj pre (kas_rev u i j)).map (kas_item it));rw[e1,A9 (by omega)]
 rw[e2];exact h
theorem C4{n:Nat}(hu:POk n u){k l:Nat}(hk:k<n){Q:Unit->SortSt->Prop}(h:Q () (stQ it st (pj pre (bubble u k (k-l))))):wpS (model prog w) A E s (moveDown' (pre.size+k) (pre.size+l)) Q (stQ it st (pj pre u)):=by
 have hz:u.size=n:=by have:=hu.size_eq;simpa using this
 rw[moveDown'_eq];refine wpS_modify ?_;have e1:bubble ((pj pre u).map (kas_item it)) (pre.size+k) (pre.size+k-(pre.size+l))=(bubble (pj pre u) (pre.size+k) (pre.size+k-(pre.size+l))).map (kas_item it):=kas_swaps_map (kas_item it) (fun i=>pre.size+k-i) (fun i=>pre.size+k-i-1) _ (pj pre u);have e2:setArr (stQ it st (pj pre u)) (bubble (arrOf (stQ it st (pj pre u))) (pre.size+k) (pre.size+k-(pre.size+l)))=stQ it st (pj pre (bubble u k (k-l))):=by show setArr st (bubble ((pj pre u).map (kas_item it)) (pre.size+k) (pre.size+k-(pre.size+l)))=setArr st ((pj pre (bubble u k (k-l))).map (kas_item it));rw[e1,show pre.size+k-(pre.size+l)=k-l by omega,A8 (by omega) (by omega)]
 rw[e2];exact h
def nq(lo m nr:Nat):StateT SortSt Sem (Option Nat):=do
 reverseSlice' lo (lo+m)
 let mut m:=m
 for _ in[m:nr]do
  let some sm ←ltAt' (lo+m) (lo+m-1)|return none
  if sm then break
  m:=m+1
 return some m
def wZ(lo m nr:Nat):StateT SortSt Sem (Option Nat):=do
 liftM (rule "list.sort.descending-run");let mut m:=m+1;let mut qe:=0
 for _ in[m:nr]do
  let some sm ←ltAt' (lo+m) (lo+m-1)|return none
  if sm then
   if qe>0 then reverseSlice' (lo+m-(qe+1)) (lo+m)
   qe:=0
  else
   let some la ←ltAt' (lo+m-1) (lo+m)|return none
   if la then break
   qe:=qe+1
  m:=m+1
 if qe>0 then do
  reverseSlice' (lo+m-(qe+1)) (lo+m)
  nq lo m nr
 else nq lo m nr
theorem xJ{n:Nat}(P:Zp prog w A s κ it lt N st pre n)(hu:POk n u){m0:Nat}(h0:1<=m0)(hm:m0<=n){R:Nat->Prop}(hr:KW (ltS lt pre.size) R (kas_asc u (n - m0) m0)){f:Nat->Option (Option Nat)×Nat->StateT SortSt Sem (ForInStep (Option (Option Nat)×Nat))}(ef:∀ i m,f i (none,m)=(do
   let r ←ltAt' (pre.size+m) (pre.size+m-1)
   match r with
   |some sm=>if sm=true then pure (ForInStep.done (none,m))else pure (ForInStep.yield (none,m+1))
   | _=>pure (ForInStep.done (some none,m)))){Q:Option (Option Nat)×Nat->SortSt->Prop}(h:∀ m,m0<=m->m<=n->R m->Q (none,m) (stQ it st (pj pre u))) :
  wpS (model prog w) A E s (forIn [m0:n] ((none,m0):Option (Option Nat)×Nat) f) Q (stQ it st (pj pre u)):=by
 refine Z6 (I:=fun i c st'=>c=(none,i)/\st'=stQ it st (pj pre u)/\i<=n/\KW (ltS lt pre.size) R (kas_asc u (n-i) i)) ?_ ?_ ⟨rfl,rfl,hm,hr⟩
 ·rintro i c st' hi1 hi2 ⟨rfl,rfl,hi3,hkw⟩;rw[ef];rw[show n-i=(n-(i+1))+1 by omega]at hkw;have hkw':KW (ltS lt pre.size) R (if ltS lt pre.size (gA u i) (gA u (i-1))=true then .ret i else kas_asc u (n-(i+1)) (i+1)):=hkw;rw[show pre.size+i-1=pre.size+(i-1) by omega];refine Zf (ll P hu hi2 (by omega) ?_);refine aC (fun e=>?_) fun e=>?_
  ·rw[if_pos e]at hkw';exact Zk (h i hi1 hi3 hkw')
  ·rw[if_neg e]at hkw';exact Zk ⟨rfl,rfl,by omega,hkw'⟩
 ·rintro c st' ⟨rfl,rfl,hi3,hkw⟩;rw[Nat.max_eq_right hm]at hkw ⊢;rw[YQ]at hkw;exact h n hm (Zd _) hkw
theorem vh{n:Nat}(P:Zp prog w A s κ it lt N st pre n)(hu:POk n u){m0:Nat}(h0:1<=m0)(hm:m0<=n){G:Nat×Array Nat->Prop}{Q:Option Nat->SortSt->Prop}(hr:KW (ltS lt pre.size) G (kas_tail3 m0 n u))(h:∀m u',POk n u'->1<=m->m<=n->G (m,u')->Q (some m) (stQ it st (pj pre u'))) :
  wpS (model prog w) A E s (nq pre.size m0 n) Q (stQ it st (pj pre u)):=by
 unfold nq;have hr':=KW.unbind hr;have z:=nJ (prog:=prog) (w:=w) (A:=A) (E:=E) (s:=s) (it:=it) (st:=st) (pre:=pre) (i:=0) (j:=m0) hu hm (Q:=fun _ st'=>st'=stQ it st (pj pre (kas_rev u 0 m0))) rfl;rw[Nat.add_zero]at z;refine Zf (y4 z fun _ st' e=>?_);subst e;refine Zf (xJ P (hu.rev 0 m0) h0 hm hr' (fun i m=>rfl) fun m h1 h2 h3=>?_);exact Zk (h m _ (hu.rev 0 m0) (by omega) h2 h3)
end
open PySem PyProof.Rows PySem.W
section
variable{lt:Nat->Nat->Bool}(O:LtOk lt){N:Nat}
include O
theorem qq:∀(f:Nat) {p:Array Nat} {k:Nat},k+f<=N->1<=k->Fx N p k->LS lt p k->KW lt (fun p=>Fx N p (k+f)/\LS lt p (k+f)) (kas_bin f p k)
 |0,p,k,e,_,hf,hs=>⟨hf,hs⟩
 |f+1,p,k,e,h1,hf,hs=>by
  refine KW.bind (KW.mono (fun m hm=>?_) (jC O hs k 0 k (by omega) (Zd _) (fun i hi=>absurd hi (by omega)) (fun i h2 h3=>absurd h2 (by omega)) (Z7 _)));obtain⟨m1,m2,m3⟩:=hm;have hk:k<p.size:=by rw[hf.sz];omega
  have gk:gA p k=k:=hf.hi k (Zd _) (by omega);have ekm:k-(k-m)=m:=by omega
  have gb:∀i,gA (bubble p k (k-m)) i=if i=m then gA p k else if m<i/\i<=k then gA p (i-1)else gA p i:=fun i=>by rw[zV hk (by omega),ekm]
  rw[show k+(f+1)=k+1+f by omega];refine qq f (by omega) (by omega) ⟨by rw[bubble_size];exact hf.sz,fun i h2 h3=>?_,fun i hi=>?_⟩ (fun i j hij hj=>?_)
  ·rw[gb,if_neg (by omega),if_neg (by omega)];exact hf.hi i (by omega) h3
  ·rw[gb];split
   ·rw[gk];omega
   ·split
    ·have:=hf.lo (i-1) (by omega);omega
    ·have:=hf.lo i (by omega);omega
  ·have lk:∀i,i<m->Lx lt (gA p i) (gA p k):=fun i hi=>⟨m2 i hi,.inr (by rw[gk];exact hf.lo i (by omega))⟩
   have gt:∀i,m<=i->i<k->Lx lt (gA p k) (gA p i):=fun i h2 h3=>Lx.of_lt O (m3 i h2 h3);rw[gb,gb];by_cases a1:i=m
   ·rw[if_pos a1,if_neg (by omega),if_pos (by omega)];exact gt _ (by omega) (by omega)
   ·rw[if_neg a1];by_cases a2:m<i/\i<=k
    ·rw[if_pos a2,if_neg (by omega),if_pos (by omega)];exact hs _ _ (by omega) (by omega)
    ·rw[if_neg a2];by_cases b1:j=m
     ·rw[if_pos b1];exact lk i (by omega)
     ·rw[if_neg b1];by_cases b2:m<j/\j<=k
      ·rw[if_pos b2];exact hs _ _ (by omega) (by omega)
      ·rw[if_neg b2];exact hs _ _ hij (by omega)
end
section
variable{prog:Program}{w:World}{A:Around}{E:Value->Shared->Prop}{s:Shared}{κ:SortKind}{it:Array Keyed}{lt:Nat->Nat->Bool}{N:Nat}{st:SortSt}{pre u:Array Nat}
theorem uX{n:Nat}(P:Zp prog w A s κ it lt N st pre n)(hu:POk n u){m0:Nat}(h0:1<=m0)(hm:m0+1<=n){G:Nat×Array Nat->Prop}{Q:Option Nat->SortSt->Prop}(hr:KW (ltS lt pre.size) G (kas_descPart m0 n u))(h:∀m u',POk n u'->1<=m->m<=n->G (m,u')->Q (some m) (stQ it st (pj pre u'))) :
  wpS (model prog w) A E s (wZ pre.size m0 n) Q (stQ it st (pj pre u)):=by
 unfold wZ;have hr':=KW.unbind hr;refine Zf (wpS_lift (ZT ⟨rfl,?_⟩));refine Zf (y4 (Z6 (I:=fun i c st'=>∃ u' q,c=(none,i,q)/\st'=stQ it st (pj pre u')/\POk n u'/\i<=n/\q+1<=i/\KW (ltS lt pre.size) (fun r=>KW (ltS lt pre.size) G (if r.2.2>0 then kas_tail3 r.2.1 n (kas_rev r.1 (r.2.1 - (r.2.2+1)) r.2.1) else kas_tail3 r.2.1 n r.1)) (kas_desc (n - i) u' i q))
  (Q:=fun c st'=>∃ u' m q,c=(none,m,q)/\st'=stQ it st (pj pre u')/\POk n u'/\1<=m/\m<=n/\q+1<=m/\KW (ltS lt pre.size) G (if q>0 then kas_tail3 m n (kas_rev u' (m - (q+1)) m) else kas_tail3 m n u')) ?step ?fin ⟨u,0,rfl,rfl,hu,hm,by omega,hr'⟩) ?post)
 case fin =>rintro c st' ⟨u',q,rfl,rfl,hu',h1,h2,h3⟩;rw[Nat.max_eq_right hm]at h1 h2 h3 ⊢;rw[YQ]at h3;exact⟨u',n,q,rfl,rfl,hu',by omega,Zd _,h2,h3⟩
 case post =>
  rintro c st' ⟨u',m,q,rfl,rfl,hu',h1,h2,h3,h4⟩;dsimp only;refine aC (fun hq=>?_) fun hq=>?_
  ·rw[if_pos hq]at h4;rw[show pre.size+m-(q+1)=pre.size+(m-(q+1)) by omega];exact Zf (nJ hu' h2 (vh P (hu'.rev _ _) h1 h2 h4 h))
  ·rw[if_neg hq]at h4;exact vh P hu' h1 h2 h4 h
 case step =>
  rintro i c st' hi1 hi2 ⟨u',q,rfl,rfl,hu',h1,h2,h3⟩;dsimp only;rw[show n-i=(n-(i+1))+1 by omega]at h3;generalize hR:(fun r:Array Nat×Nat×Nat=>KW (ltS lt pre.size) G (if r.2.2>0 then kas_tail3 r.2.1 n (kas_rev r.1 (r.2.1-(r.2.2+1)) r.2.1)else kas_tail3 r.2.1 n r.1))=R at h3 ⊢;have h3':KW (ltS lt pre.size) R (if ltS lt pre.size (gA u' i) (gA u' (i - 1))=true then (if q>0 then kas_desc (n - (i+1)) (kas_rev u' (i - (q+1)) i) (i+1) 0 else kas_desc (n - (i+1)) u' (i+1) 0)
   else KasT.ask (gA u' (i - 1)) (gA u' i) fun d=>if d=true then .ret (u',i,q) else kas_desc (n - (i+1)) u' (i+1) (q+1)):=h3
  rw[show pre.size+i-1=pre.size+(i-1) by omega];refine Zf (ll P hu' hi2 (by omega) ?_);refine aC (fun e=>?_) fun e=>?_
  ·rw[if_pos e]at h3';refine aC (fun hq=>?_) fun hq=>?_
   ·rw[if_pos hq]at h3';rw[show pre.size+i-(q+1)=pre.size+(i-(q+1)) by omega];exact Zf (nJ hu' h1 (Zk ⟨_,0,rfl,rfl,hu'.rev _ _,by omega,by omega,h3'⟩))
   ·rw[if_neg hq]at h3';exact Zk ⟨_,0,rfl,rfl,hu',by omega,by omega,h3'⟩
  ·rw[if_neg e]at h3';have h3'':KW (ltS lt pre.size) R (if ltS lt pre.size (gA u' (i-1)) (gA u' i)=true then .ret (u',i,q)else kas_desc (n-(i+1)) u' (i+1) (q+1)):=h3';refine Zf (ll P hu' (by omega) hi2 ?_);refine aC (fun e2=>?_) fun e2=>?_
   ·rw[if_pos e2]at h3'';have h5:R (u',i,q):=h3'';rw[<-hR]at h5;exact Zk ⟨u',i,q,rfl,rfl,hu',by omega,h1,h2,h5⟩
   ·rw[if_neg e2]at h3'';exact Zk ⟨_,q+1,rfl,rfl,hu',by omega,by omega,h3''⟩
theorem zq{n:Nat}(P:Zp prog w A s κ it lt N st pre n)(hu:POk n u){G:Nat×Array Nat->Prop}{Q:Option Nat->SortSt->Prop}(hr:KW (ltS lt pre.size) G (kas_count n u))(h:∀m u',POk n u'->1<=m->m<=n->G (m,u')->Q (some m) (stQ it st (pj pre u'))) :
  wpS (model prog w) A E s (countRun' pre.size n) Q (stQ it st (pj pre u)):=by
 have n0:=P.n0;have hr':=KW.unbind hr;rw[countRun'_eq];refine Zf (xJ P hu (Zd 1) n0 hr' (fun i m=>rfl) fun m h1 h2 h3=>?_);dsimp only;refine aC (fun e=>?_) fun e=>?_
 ·rw[if_pos e]at h3;exact Zk (h m u hu h1 h2 h3)
 ·rw[if_neg e]at h3;have hlt:m+1<=n:=by
   have:m≠n:=by simpa using e
   omega
  refine aC (fun e2=>?_) fun e2=>?_
  ·rw[if_pos e2]at h3;have h3':KW (ltS lt pre.size) G (if ltS lt pre.size (gA u 0) (gA u (m-1))=true then .ret (m,u)else kas_descPart m n (kas_rev u 0 m)):=h3;have z:=ll (E:=E) P hu (i:=0) (j:=m-1) n0 (by omega) (Q:=fun r st'=>r=some (ltS lt pre.size (gA u 0) (gA u (m-1)))/\st'=stQ it st (pj pre u)) ⟨rfl,rfl⟩;rw[Nat.add_zero]at z;rw[show pre.size+m-1=pre.size+(m-1) by omega];refine Zf (y4 z fun r st' hz=>?_);obtain⟨rfl,rfl⟩:=hz;refine aC (fun e3=>?_) fun e3=>?_
   ·rw[if_pos e3]at h3';exact Zk (h m u hu h1 h2 h3')
   ·rw[if_neg e3]at h3';have z:=nJ (prog:=prog) (w:=w) (A:=A) (E:=E) (s:=s) (it:=it) (st:=st) (pre:=pre) (i:=0) (j:=m) hu h2 (Q:=fun _ st'=>st'=stQ it st (pj pre (kas_rev u 0 m))) rfl;rw[Nat.add_zero]at z;refine Zf (y4 z fun _ st' ez=>?_);subst ez;exact uX P (hu.rev 0 m) h1 hlt h3' h
  ·rw[if_neg e2]at h3;exact uX P hu h1 hlt h3 h
theorem C2{n nf ok:Nat}(P:Zp prog w A s κ it lt N st pre n)(hu:POk n u)(hn:nf<=n){G:Array Nat->Prop}{Q:Bool->SortSt->Prop}(hr:KW (ltS lt pre.size) G (kas_bin (nf-max ok 1) u (max ok 1)))(h:∀u',POk n u'->G u'->Q true (stQ it st (pj pre u'))) :
  wpS (model prog w) A E s (binarySort' pre.size nf ok) Q (stQ it st (pj pre u)):=by
 rw[binarySort'_eq];refine Zf (y4 (Z6 (I:=fun k c st'=>∃ u',c=(none,())/\st'=stQ it st (pj pre u')/\POk n u'/\KW (ltS lt pre.size) G (kas_bin (nf - k) u' k))
  (Q:=fun c st'=>∃ u',c=(none,())/\st'=stQ it st (pj pre u')/\POk n u'/\G u') ?step ?fin ⟨u,rfl,rfl,hu,hr⟩) ?post)
 case fin =>rintro c st' ⟨u',rfl,rfl,hu',h1⟩;rw[show nf-max (max ok 1) nf=0 by omega]at h1;exact⟨u',rfl,rfl,hu',h1⟩
 case post =>rintro c st' ⟨u',rfl,rfl,hu',h1⟩;exact Zk (h u' hu' h1)
 case step =>
  rintro k c st' hk1 hk2 ⟨u',rfl,rfl,hu',h1⟩;dsimp only;rw[show nf-k=(nf-(k+1))+1 by omega]at h1;have h1':=KW.unbind (show KW (ltS lt pre.size) G ((kas_place u' k k 0 k).bind fun l=>kas_bin (nf-(k+1)) (bubble u' k (k-l)) (k+1))from h1);generalize hR:(fun l:Nat=>KW (ltS lt pre.size) G (kas_bin (nf-(k+1)) (bubble u' k (k-l)) (k+1)))=R at h1';refine Zf (y4 (Z6 (I:=fun x c st'=>∃ l r,c=(none,l,r)/\st'=stQ it st (pj pre u')/\r<=k/\KW (ltS lt pre.size) R (kas_place u' k (k - x) l r))
   (Q:=fun c st'=>∃ l r,c=(none,l,r)/\st'=stQ it st (pj pre u')/\R l) ?istep ?ifin ⟨0,k,rfl,rfl,Zd _,h1'⟩) ?ipost)
  case ifin =>rintro c st' ⟨l,r,rfl,rfl,g1,g2⟩;rw[show k-max 0 k=0 by omega]at g2;exact⟨l,r,rfl,rfl,g2⟩
  case ipost =>rintro c st' ⟨l,r,rfl,rfl,g2⟩;rw[<-hR]at g2;exact Zf (C4 hu' (by omega) (Zk ⟨_,rfl,rfl,hu'.bub _ _,g2⟩))
  case istep =>
   rintro x c st' _ hx ⟨l,r,rfl,rfl,g1,g2⟩;dsimp only;rw[show k-x=(k-(x+1))+1 by omega]at g2;have g2':KW (ltS lt pre.size) R (if l>=r then KasT.ret l else KasT.ask (gA u' k) (gA u' ((l+r) / 2)) fun c=>if c=true then kas_place u' k (k-(x+1)) l ((l+r) / 2)else kas_place u' k (k-(x+1)) ((l+r) / 2+1) r):=g2;refine aC (fun e=>?_) fun e=>?_
   ·rw[if_pos e]at g2';exact Zk ⟨l,r,rfl,rfl,g2'⟩
   ·rw[if_neg e]at g2';have g3:KW (ltS lt pre.size) R (if ltS lt pre.size (gA u' k) (gA u' ((l+r) / 2))=true then kas_place u' k (k-(x+1)) l ((l+r) / 2)else kas_place u' k (k-(x+1)) ((l+r) / 2+1) r):=g2';refine Zf (ll P hu' (by omega) (by omega) ?_);refine aC (fun e2=>?_) fun e2=>?_
    ·rw[if_pos e2]at g3;exact Zk ⟨l,(l+r) / 2,rfl,rfl,by omega,g3⟩
    ·rw[if_neg e2]at g3;exact Zk ⟨(l+r) / 2+1,r,rfl,rfl,by omega,g3⟩
end
open PySem PyProof.Rows PySem.W
section
variable{lt:Nat->Nat->Bool}
def RunsL(lt:Nat->Nat->Bool):Nat->List (List Nat)->List (Nat×Nat×Nat)->Prop
 |_,[],[]=>True
 |b,r::rs,t::ts=>t.1=b/\t.2.1=r.length/\0<r.length/\r.Pairwise (Lx lt)/\r.Perm (List.range' b r.length)/\RunsL lt (b+r.length) rs ts
 |_,_,_=>False
theorem RunsL.len:∀{b:Nat} {rs:List (List Nat)} {ts:List (Nat×Nat×Nat)},RunsL lt b rs ts->rs.length=ts.length/\rs.length<=rs.flatten.length
 |_,[],[],_=>⟨rfl,Zd _⟩
 |_,r::rs,t::ts,⟨_,_,h,_,_,k⟩=>by have:=RunsL.len k;rw[Zr,Zr,List.flatten_cons,Zg];omega
theorem RunsL.snoc{r:List Nat}{x:Nat}(h0:0<r.length)(h1:r.Pairwise (Lx lt)):∀{b:Nat} {rs:List (List Nat)} {ts:List (Nat×Nat×Nat)},RunsL lt b rs ts->r.Perm (List.range' (b+rs.flatten.length) r.length)->RunsL lt b (rs++[r]) (ts++[(b+rs.flatten.length,r.length,x)])
 |_,[],[],_,hp=>⟨rfl,rfl,h0,h1,hp,trivial⟩
 |b,q::rs,t::ts,⟨e1,e2,e3,e4,e5,k⟩,hp=>by rw[List.flatten_cons,Zg,<-Nat.add_assoc]at hp;have ih:=RunsL.snoc (x:=x) h0 h1 k hp;rw[List.flatten_cons,Zg,<-Nat.add_assoc];exact⟨e1,e2,e3,e4,e5,ih⟩
theorem RunsL.pow{g:Nat×Nat×Nat->Nat×Nat×Nat}(hg:∀t,(g t).1=t.1/\(g t).2.1=t.2.1):∀(i:Nat) {b:Nat} {rs:List (List Nat)} {ts:List (Nat×Nat×Nat)},RunsL lt b rs ts->RunsL lt b rs (ts.modify i g)
 |_,_,[],[],_=>by rw[List.modify_nil];trivial
 |0,_,r::rs,t::ts,⟨e1,e2,e3,e4,e5,k⟩=>by rw[List.modify_zero_cons];exact⟨(hg t).1.trans e1,(hg t).2.trans e2,e3,e4,e5,k⟩
 |i+1,_,r::rs,t::ts,⟨e1,e2,e3,e4,e5,k⟩=>by rw[List.modify_succ_cons];exact⟨e1,e2,e3,e4,e5,RunsL.pow hg i k⟩
theorem RunsL.two:∀(i:Nat) {b:Nat} {rs:List (List Nat)} {ts:List (Nat×Nat×Nat)},RunsL lt b rs ts->i+1<ts.length->∃rs1 X Y rs2 pw pw2,rs=rs1++X::Y::rs2/\0<X.length/\0<Y.length/\X.Pairwise (Lx lt)/\Y.Pairwise (Lx lt)/\(∀x∈X,∀y∈Y,x<y) /\
  ts[i]?=some (b+rs1.flatten.length,X.length,pw)/\ts[i+1]?=some (b+rs1.flatten.length+X.length,Y.length,pw2) /\
  ∀W:List Nat,W.Pairwise (Lx lt)->W.Perm (X++Y)->RunsL lt b (rs1++W::rs2) ((ts.set i (b+rs1.flatten.length,X.length+Y.length,pw)).eraseIdx (i+1))
 |_,_,[],[],_,h=>absurd h (by simp)
 |0,b,X::[],t::[],_,h=>absurd h (by simp)
 |0,b,X::[],t::t2::ts,⟨_,_,_,_,_,k⟩,h=>k.elim
 |0,b,X::Y::rs,t::[],⟨_,_,_,_,_,k⟩,h=>k.elim
 |0,b,X::Y::rs,t::t2::ts,⟨e1,e2,e3,e4,e5,f1,f2,f3,f4,f5,k⟩,h=>by
  refine⟨[],X,Y,rs,t.2.2,t2.2.2,rfl,e3,f3,e4,f4,fun x hx y hy=>?_,?_,?_,fun W hw hp=>?_⟩
  ·have a1:=e5.mem_iff.mp hx;have a2:=f5.mem_iff.mp hy;rw[List.mem_range'_1]at a1 a2;omega
  ·show some t=some (b,X.length,t.2.2);rw[<-e1,<-e2]
  ·show some t2=some (b+X.length,Y.length,t2.2.2);rw[<-f1,<-f2]
  ·have hl:W.length=X.length+Y.length:=by rw[hp.length_eq,Zg]
   refine⟨rfl,hl.symm,by omega,hw,?_,?_⟩
   ·refine hp.trans ((e5.append f5).trans ?_);have:=List.range'_append (s:=b) (m:=X.length) (n:=Y.length) (step:=1);rw[Nat.one_mul]at this;rw[this,hl]
   ·rw[hl,<-Nat.add_assoc];exact k
 |i+1,b,r::rs,t::ts,⟨e1,e2,e3,e4,e5,k⟩,h=>by
  obtain⟨rs1,X,Y,rs2,pw,pw2,rfl,g1,g2,g3,g4,g5,g6,g7,g8⟩:=RunsL.two i k (by simpa using h);have el:b+(r::rs1).flatten.length=b+r.length+rs1.flatten.length:=by rw[List.flatten_cons,Zg,Nat.add_assoc]
  refine⟨r::rs1,X,Y,rs2,pw,pw2,rfl,g1,g2,g3,g4,g5,?_,?_,fun W hw hp=>?_⟩
  ·rw[List.getElem?_cons_succ,el];exact g6
  ·rw[List.getElem?_cons_succ,el];exact g7
  ·rw[el,List.set_cons_succ,List.eraseIdx_cons_succ];exact⟨e1,e2,e3,e4,e5,g8 W hw hp⟩
variable{prog:Program}{w:World}{A:Around}{E:Value->Shared->Prop}{s:Shared}{κ:SortKind}{it:Array Keyed}{N:Nat}{st:SortSt}
structure RI(κ:SortKind)(it:Array Keyed)(lt:Nat->Nat->Bool)(N lo:Nat)(T:List Nat)(p:Array Nat)(rs:List (List Nat))(st:SortSt):Prop where
 hk:kindOf st=κ
 hf:failedOf st=none
 ha:arrOf st=p.map (kas_item it)
 hp:p.toList=rs.flatten++T
 pm:p.toList.Perm (List.range N)
 rl:RunsL lt 0 rs (pendingOf st).toList
 hl:rs.flatten.length=lo
theorem xK(Z:Zc prog w A s κ it lt N)(O:LtOk lt){lo i:Nat}{T:List Nat}{p:Array Nat}{rs:List (List Nat)}(R:RI κ it lt N lo T p rs st)(hi:i+1<(pendingOf st).size){Q:Bool->SortSt->Prop}(h:∀st' p' rs',RI κ it lt N lo T p' rs' st'->(pendingOf st').size+1=(pendingOf st).size->Q true st'):wpS (model prog w) A E s (mergeAt' i) Q st:=by
 obtain⟨rs1,X,Y,rs2,pw,pw2,e0,g1,g2,g3,g4,g5,g6,g7,g8⟩:=R.rl.two i (by rw[Zs];exact hi);rw[Nat.zero_add]at g6 g7 g8;rw[Yx]at g6 g7;refine Dp Z O (pre:=rs1.flatten) (X:=X) (Y:=Y) (post:=rs2.flatten++T) R.hk R.hf R.ha ?_ g3 g4 g1 g2 g5 (fun x hx=>List.mem_range.mp (R.pm.mem_iff.mp hx)) g6 g7 fun st' p' W j1 j2 j3 j4 j5 j6 j7=>?_
 ·rw[R.hp,e0];simp
 ·refine h st' p' (rs1++W::rs2) ⟨j1,j2,j3,?_,?_,?_,?_⟩ ?_
  ·rw[j4];simp
  ·refine List.Perm.trans ?_ R.pm;rw[j4,R.hp,e0];have:(rs1.flatten++(W++(rs2.flatten++T))).Perm (rs1.flatten++((X++Y)++(rs2.flatten++T))):=(j6.append_right _).append_left _;refine this.trans (List.Perm.of_eq ?_);simp
  ·rw[j7];have:=g8 W j5 j6;rw[Array.eraseIdxIfInBounds,dif_pos (by rw[Array.size_setIfInBounds];exact hi),Array.toList_eraseIdx,Array.toList_setIfInBounds];exact this
  ·rw[<-R.hl,e0];have:=j6.length_eq;rw[Zg]at this;simp;omega
  ·rw[j7,Array.eraseIdxIfInBounds,dif_pos (by rw[Array.size_setIfInBounds];exact hi),Array.size_eraseIdx,Array.size_setIfInBounds];omega
theorem Ao(O:LtOk lt)(lo:Nat):LtOk (ltS lt lo):=⟨fun h=>O.as h,fun h k=>O.tr h k⟩
theorem vD{n:Nat}(hn:1<=n):Fx n (List.toArray (List.range n)) 1:=by
 have g:∀k,k<n->gA (List.toArray (List.range n)) k=k:=fun k hk=>by rw[gK];simp[hk]
 refine⟨by simp,fun k _ hk=>g k hk,fun i hi=>?_⟩;have e:i=0:=by omega
 subst e;rw[g 0 (by omega)];decide
theorem Bw{n m lo:Nat}{u pre:Array Nat}(hpre:pre.size=lo)(hu:POk n u)(F:Fx n u m)(S:LS (ltS lt lo) u m)(hm:m<=n):∃r:List Nat,r.length=m/\r.Pairwise (Lx lt)/\r.Perm (List.range' lo m)/\(pj pre u).toList=pre.toList++(r++List.range' (lo+m) (n-m)):=by
 have hz:u.toList.length=n:=by rw[Zs];exact F.sz
 have ed:u.toList.drop m=List.range' m (n-m):=by
  apply List.ext_getElem
  ·rw[Yu,List.length_range',hz]
  ·intro i h1 h2;rw[Yu,hz]at h1;rw[List.getElem_drop,List.getElem_range'];have:=F.hi (m+i) (by omega) (by omega);rw[aI,Ze,Zb (by omega)]at this;rw[Nat.one_mul];exact this
 have ep:u.toList.Perm (List.range n):=by have:=Array.perm_iff_toList_perm.mp hu;simpa using this
 have er:List.range n=List.range m++List.range' m (n-m):=by rw[List.range_eq_range',List.range_eq_range'];have:=List.range'_append (s:=0) (m:=m) (n:=n-m) (step:=1);rw[Nat.one_mul,Nat.zero_add]at this;rw[this];congr 1;omega
 have pt:(u.toList.take m).Perm (List.range m):=by have e:=ZY m u.toList;rw[ed]at e;rw[<-e,er]at ep;exact(List.perm_append_right_iff _).mp ep
 refine⟨(u.toList.take m).map (lo+·),by rw[Zu,ZS];omega,?_,?_,?_⟩
 ·rw[List.pairwise_map];have hS:(u.toList.take m).Pairwise (Lx (ltS lt lo)):=by rw[Yk];intro i j hi hj hij;rw[ZS]at hi hj;have:=S i j hij (by omega);rw[aI,aI,Ze,Ze,Zb (by omega),Zb (by omega)]at this;rw[List.getElem_take,List.getElem_take];exact this
  refine hS.imp fun{a b} hab=>⟨hab.1,?_⟩
  rcases hab.2 with x|x
  ·exact .inl x
  ·exact .inr (by omega)
 ·rw[List.range'_eq_map_range];exact pt.map _
 ·unfold pj;rw[ZE,Array.toList_map,hpre];congr 1;have e:=ZY m u.toList;rw[ed]at e
  conv=>lhs;rw[<-e]
  rw[ZU];congr 1;rw[List.range'_eq_map_range,List.range'_eq_map_range,List.map_map];apply List.map_congr_left;intro x _;show lo+(m+x)=lo+m+x;omega
end
open PySem PyProof.Rows PySem.W
section
variable{lt:Nat->Nat->Bool}{prog:Program}{w:World}{A:Around}{E:Value->Shared->Prop}{s:Shared}{κ:SortKind}{it:Array Keyed}{N:Nat}{st:SortSt}
theorem B4(Z:Zc prog w A s κ it lt N)(O:LtOk lt){lo mr:Nat}{p:Array Nat}{rs:List (List Nat)}(R:RI κ it lt N lo (List.range' lo (N - lo)) p rs st)(hlo:lo<N){β:Type}{g:Nat->StateT SortSt Sem β}{Q:β->SortSt->Prop}(h:∀ (m:Nat) (r:List Nat) (p':Array Nat) (st':SortSt),1<=m->lo+m<=N->r.length=m->r.Pairwise (Lx lt)->r.Perm (List.range' lo m)->RI κ it lt N lo (r++List.range' (lo+m) (N - (lo+m))) p' rs st'->pendingOf st'=pendingOf st->wpS (model prog w) A E s (g m) Q st'){bad:StateT SortSt Sem β}{k:Option Nat->StateT SortSt Sem β}(hk:∀ m,k (some m)=(if m<mr then do
    liftM (rule "list.sort.binary-insertion")
    let ok ←binarySort' lo (min (N-lo) mr) m
    if(!ok)=true then bad else g (min (N-lo) mr)
   else g m)):wpS (model prog w) A E s (countRun' lo (N - lo) >>= k) Q st:=by
 have hl:=R.hl;have O':LtOk (ltS lt (List.toArray rs.flatten).size):=Ao O _;have n0:1<=N-lo:=by omega
 have hz:(List.toArray rs.flatten).size=lo:=by rw[Zj];exact hl
 have pu:POk (N-lo) (List.toArray (List.range (N-lo))):=Array.Perm.refl _;have P:Zp prog w A s κ it lt N st (List.toArray rs.flatten) (N-lo):=⟨Z,R.hk,by omega,by omega⟩
 have ep:p=pj (List.toArray rs.flatten) (List.toArray (List.range (N-lo))):=by apply Array.toList_inj.mp;rw[R.hp];unfold pj;rw[ZE,Array.toList_map,YE,YE,hz,List.range'_eq_map_range]
 have est:st=stQ it st (pj (List.toArray rs.flatten) (List.toArray (List.range (N-lo)))):=by unfold stQ;rw[<-ep,<-R.ha]
 have fin:∀(m:Nat) (u':Array Nat),POk (N-lo) u'->1<=m->m<=N-lo->Fx (N-lo) u' m->LS (ltS lt (List.toArray rs.flatten).size) u' m->wpS (model prog w) A E s (g m) Q (stQ it st (pj (List.toArray rs.flatten) u')):=fun m u' hu h1 h2 h3 h4=>by
  rw[hz]at h4;obtain⟨r,r1,r2,r3,r4⟩:=Bw hz hu h3 h4 h2;refine h m r (pj (List.toArray rs.flatten) u') _ h1 (by omega) r1 r2 r3 ⟨R.hk,R.hf,rfl,?_,?_,R.rl,hl⟩ rfl
  ·rw[r4,YE,show N-(lo+m)=N-lo-m by omega]
  ·refine List.Perm.trans ?_ R.pm;rw[r4,R.hp,YE];refine List.Perm.append_left _ ?_;refine(r3.append_right _).trans (List.Perm.of_eq ?_);have:=List.range'_append (s:=lo) (m:=m) (n:=N-lo-m) (step:=1);rw[Nat.one_mul]at this;rw[this];congr 1;omega
 have kc:=vH O' (N:=N-lo) (p:=List.toArray (List.range (N-lo))) n0 (vD n0);rw[est];have zc:=zq (E:=E) (Q:=fun r st'=>wpS (model prog w) A E s (k r) Q st') P pu kc fun m u' hu h1 h2 hG=>by
  obtain⟨g1,g2,g3,g4⟩:=hG;rw[hk];refine aC (fun c=>?_) fun c=>?_
  ·refine Zf (wpS_lift (ZT ⟨rfl,?_⟩));have em:max m 1=m:=by omega
   have kb:=qq O' (N:=N-lo) (min (N-lo) mr-max m 1) (p:=u') (k:=max m 1) (by omega) (by omega) (by rw[em];exact g3) (by rw[em];exact g4);have zb:=C2 (E:=E) (nf:=min (N-lo) mr) (ok:=m) (Q:=fun r st'=>wpS (model prog w) A E s (if(!r)=true then bad else g (min (N-lo) mr)) Q st') P hu (by omega) kb fun u2 hu2 hG2=>by
    rw[if_neg (by simp)];have e2:max m 1+(min (N-lo) mr-max m 1)=min (N-lo) mr:=by omega
    rw[e2]at hG2;exact fin _ u2 hu2 (by omega) (by omega) hG2.1 hG2.2
   rw[hz]at zb;exact Zf zb
  ·exact fin m u' hu h1 h2 g3 g4
 rw[hz]at zc;exact Zf zc
def oK(N pw:Nat):StateT SortSt Sem (Option Unit×Unit):=forIn [0:N] ((none,()):Option Unit×Unit) fun _ _=>do
 let st ←get
 match(if(pendingOf st).size>1 then(pendingOf st)[(pendingOf st).size-2]? else none)with
 |some (_,_,old)=>if old<=pw then pure (.done (none,()))else do
  let ok ←mergeAt' ((pendingOf st).size-2)
  if(!ok)=true then pure (.done (some (),()))else pure (.yield (none,()))
 |_=>pure (.done (none,()))
def oO(N lo n:Nat):StateT SortSt Sem (ForInStep (Option Unit×Nat)):=do
 let st ←get
 match(pendingOf st).back? with
 |some (s1,n1,_)=>do
  let c ←oK N (power' N (2*s1+n1) (2*s1+n1+n1+n) N)
  match c.1 with
  |some r=>pure (.done (some r,lo))
  |none=>do
   modify fun st=>setPending st ((pendingOf st).modify ((pendingOf st).size-1) fun t=>(t.1,t.2.1,power' N (2*s1+n1) (2*s1+n1+n1+n) N))
   modify fun st=>setPending st ((pendingOf st).push (lo,n,0))
   pure (.yield (none,lo+n))
 |_=>do
  modify fun st=>setPending st ((pendingOf st).push (lo,n,0))
  pure (.yield (none,lo+n))
theorem C3(Z:Zc prog w A s κ it lt N)(O:LtOk lt){lo pw:Nat}{T:List Nat}{p:Array Nat}{rs:List (List Nat)}(R:RI κ it lt N lo T p rs st){Q:Option Unit×Unit->SortSt->Prop}(h:∀st' p' rs',RI κ it lt N lo T p' rs' st'->Q (none,()) st'):wpS (model prog w) A E s (oK N pw) Q st:=by
 unfold oK;refine Z6 (I:=fun _ c st'=>c=(none,())/\∃p' rs',RI κ it lt N lo T p' rs' st') ?_ ?_ ⟨rfl,p,rs,R⟩
 ·rintro x c st' _ _ ⟨rfl,p',rs',R'⟩;refine Zf (wpS_get ?_);by_cases hs:(pendingOf st').size>1
  ·rw[if_pos hs];have e:(pendingOf st')[(pendingOf st').size-2]?=some ((pendingOf st')[(pendingOf st').size-2]'(by omega)):=Yj (by omega);rw[e];refine aC (fun _=>Zk (h st' p' rs' R')) fun _=>?_;refine Zf (xK Z O R' (by omega) fun st2 p2 rs2 R2 _=>?_);refine aC (fun z=>absurd z (by simp)) fun _=>Zk ⟨rfl,p2,rs2,R2⟩
  ·rw[if_neg hs];exact Zk (h st' p' rs' R')
 ·rintro c st' ⟨rfl,p',rs',R'⟩;exact h st' p' rs' R'
theorem RI.push{lo m:Nat}{r:List Nat}{p:Array Nat}{rs:List (List Nat)}{T:List Nat}(R:RI κ it lt N lo (r++T) p rs st)(h1:1<=m)(hr:r.length=m)(hw:r.Pairwise (Lx lt))(hp:r.Perm (List.range' lo m)):RI κ it lt N (lo+m) T p (rs++[r]) (setPending st ((pendingOf st).push (lo,m,0))):=by
 have hl:=R.hl;refine⟨R.hk,R.hf,R.ha,?_,R.pm,?_,?_⟩
 ·rw[R.hp];simp
 ·show RunsL lt 0 (rs++[r]) ((pendingOf st).push (lo,m,0)).toList;rw[Array.toList_push];have:=R.rl.snoc (r:=r) (x:=0) (by omega) hw (by rw[Nat.zero_add,hl,hr];exact hp);rw[Nat.zero_add,hl,hr]at this;exact this
 ·simp;rw[<-List.length_flatten,hl,hr]
theorem C5(Z:Zc prog w A s κ it lt N)(O:LtOk lt){lo m:Nat}{r:List Nat}{p:Array Nat}{rs:List (List Nat)}{T:List Nat}(R:RI κ it lt N lo (r++T) p rs st)(h1:1<=m)(hr:r.length=m)(hw:r.Pairwise (Lx lt))(hp:r.Perm (List.range' lo m)){Q:ForInStep (Option Unit×Nat)->SortSt->Prop}(h:∀st' p' rs',RI κ it lt N (lo+m) T p' rs' st'->Q (.yield (none,lo+m)) st'):wpS (model prog w) A E s (oO N lo m) Q st:=by
 unfold oO;refine Zf (wpS_get ?_);cases hb:(pendingOf st).back? with
 |none=>exact Zf (wpS_modify (Zk (h _ _ _ (R.push h1 hr hw hp))))
 |some t =>obtain⟨s1,n1,o1⟩:=t;refine Zf (C3 Z O R fun st' p' rs' R'=>?_);refine Zf (wpS_modify (Zf (wpS_modify (Zk (h _ p' (rs'++[r]) (RI.push (st:=setPending st' ((pendingOf st').modify ((pendingOf st').size-1) fun t=>(t.1,t.2.1,power' N (2*s1+n1) (2*s1+n1+n1+m) N))) ⟨R'.hk,R'.hf,R'.ha,R'.hp,R'.pm,?_,R'.hl⟩ h1 hr hw hp))))));show RunsL lt 0 rs' ((pendingOf st').modify ((pendingOf st').size-1) _).toList;rw[Array.toList_modify];exact R'.rl.pow (g:=fun t=>(t.1,t.2.1,power' N (2*s1+n1) (2*s1+n1+n1+m) N)) (fun t=>⟨rfl,rfl⟩) _
theorem B5(Z:Zc prog w A s κ it lt N)(O:LtOk lt)(h1:1<=N){Q:Unit->SortSt->Prop}(h:∀(p:Array Nat) (st':SortSt),POk N p->LS lt p N->p.size=N->arrOf st'=p.map (kas_item it)->failedOf st'=none->Q () st') :
  wpS (model prog w) A E s sortRuns' Q (SortSt.mk' κ ((List.toArray (List.range N)).map (kas_item it)) #[] 7 none):=by
 rw[sortRuns'_eq];refine Zf (wpS_get ?_);have esz:(arrOf (SortSt.mk' κ ((List.toArray (List.range N)).map (kas_item it)) #[] 7 none)).size=N:=by show((List.toArray (List.range N)).map (kas_item it)).size=N;simp
 rw[esz];have R0:RI κ it lt N 0 (List.range' 0 (N-0)) (List.toArray (List.range N)) [] (SortSt.mk' κ ((List.toArray (List.range N)).map (kas_item it)) #[] 7 none):=by refine⟨rfl,rfl,rfl,?_,List.Perm.refl _,trivial,rfl⟩;rw[YE,List.range_eq_range',Nat.sub_zero];rfl
 refine Zf (y4 (Z6 (I:=fun x c st'=>∃ lo p rs,c=(none,lo)/\RI κ it lt N lo (List.range' lo (N - lo)) p rs st'/\lo<=N/\x<=lo)
  (Q:=fun c st'=>c=(none,N)/\∃ p rs,RI κ it lt N N [] p rs st') ?step ?fin ⟨0,_,_,rfl,R0,by omega,Zd _⟩) ?post)
 case fin =>
  rintro c st' ⟨lo,p,rs,rfl,R,h2,h3⟩;have e:lo=N:=by omega
  subst e;refine⟨rfl,p,rs,?_⟩;rw[YQ]at R;exact R
 case step =>
  rintro x c st' _ hx ⟨lo,p,rs,rfl,R,h2,h3⟩;dsimp -zeta only;refine aC (fun hge=>?_) fun hge=>?_
  ·have e:lo=N:=by omega
   subst e;rw[YQ]at R;exact Zk ⟨rfl,p,rs,R⟩
  refine B4 Z O R (by omega) (g:=oO N lo) (mr:=minRun' N N 0) (bad:=pure (ForInStep.done (some (),lo))) (fun m r p' st2 m1 m2 r1 r2 r3 R2 _=>?_) (fun m=>by kernel_rfl);exact C5 Z O R2 m1 r1 r2 r3 fun st3 p3 rs3 R3=>⟨lo+m,p3,rs3,rfl,R3,m2,by omega⟩
 case post =>
  rintro c st' ⟨rfl,p,rs,R⟩;dsimp only;have hle:∀{c:Prop} [Decidable c] (x:Nat),(if c then x-1 else x)<=x:=fun x=>by split<;>omega
  have hsz:(pendingOf st').size<=N:=by obtain⟨q1,q2⟩:=R.rl.len;have q3:(pendingOf st').toList.length=(pendingOf st').size:=Zs;have q4:=R.hl;omega
  refine Zf (y4 (Z6 (I:=fun x c st'=>c=(none,())/\(∃ p rs,RI κ it lt N N [] p rs st')/\((pendingOf st').size+x<=N\/(pendingOf st').size<=1))
   (Q:=fun c st'=>c=(none,())/\(∃ p rs,RI κ it lt N N [] p rs st')/\(pendingOf st').size<=1) ?step2 ?fin2 ⟨rfl,⟨p,rs,R⟩,.inl hsz⟩) ?post2)
  case fin2 =>rintro c st2 ⟨rfl,hR,h2⟩;exact⟨rfl,hR,by omega⟩
  case step2 =>
   rintro x c st2 _ hx ⟨rfl,⟨p2,rs2,R2⟩,h2⟩;refine Zf (wpS_get ?_);refine aC (fun hge=>Zk ⟨rfl,⟨p2,rs2,R2⟩,hge⟩) fun hge=>?_;refine Zf (xK Z O R2 ?_ fun st3 p3 rs3 R3 e3=>?_)
   ·exact Nat.lt_of_le_of_lt (Nat.add_le_add_right (hle _) 1) (by omega)
   ·refine aC (fun z=>absurd z (by simp)) fun _=>Zk ⟨rfl,⟨p3,rs3,R3⟩,by omega⟩
  case post2 =>
   rintro c st2 ⟨rfl,⟨p2,rs2,R2⟩,h2⟩;have ln:=R2.rl.len;rw[Zs]at ln;have hl:=R2.hl;have hp:=R2.hp;have rl:=R2.rl
   match rs2,hl,hp,rl,ln with
   | [],hl,_,_,_=>exact absurd hl (by simp;omega)
   |r::r2::rs3,_,_,_,ln=>exact absurd ln.1 (by simp;omega)
   | [r],hl,hp,rl,_ =>
    rw[ZQ,List.flatten_singleton]at hp
    match hpl:(pendingOf st2).toList,rl with
    | [],rl=>exact rl.elim
    |t::ts,⟨_,_,_,pw,_,_⟩ =>
     have hz:p2.size=N:=by rw[<-Zs,R2.pm.length_eq,List.length_range]
     refine Zk (h p2 st2 (Array.perm_iff_toList_perm.mpr (by simpa using R2.pm)) (fun i j hij hj=>rR (by rw[hp];exact pw) i j hij (by omega)) hz R2.ha R2.hf)
end
open PySem PySem.Spec PyProof.Rows PySem.W
theorem dv{n:Nat}(h:n<=4096):n<=sizeLine:=by rw[sizeLine_eq];omega
section
variable{prog:Program}{w:World}{A:Around}{E:Value->Shared->Prop}{s:Shared}{h₀:Heap}{L a kS:Addr}{m:Str->Option Value}{news:List (Addr×Obj)}{vs ks:List Value}
def ZGo(prog:Program)(w:World)(A:Around)(b:Bool)(ks vs:List Value)(F:List Value->Shared->Prop)(κ:SortKind)(s:Shared):Prop :=
 ∃lt:Nat->Nat->Bool,LtOk lt/\(∀i j (C:Bool->Shared->Prop),i<vs.length->j<vs.length->C (lt i j) s->kas_ask prog w A κ (katRev b ks) i j C s) /\
  ∀p:Array Nat,POk vs.length p->LS lt p vs.length->F (katRev b (p.toList.map fun i=>(katRev b vs).getD i Value.none)) s
def rg(prog:Program)(w:World)(A:Around)(b:Bool)(ks vs:List Value)(F:List Value->Shared->Prop)(s:Shared):Prop :=
 (2<=vs.length->wpAny (model prog w) A (keyKind' (List.toArray ks)) (ZGo prog w A b ks vs F) (fun _ _=>False) s)/\(vs.length<2->F (katRev b ((List.range vs.length).map fun i=>(katRev b vs).getD i Value.none)) s)
theorem qZ{b:Bool}{st:SortSt}{e e1:Nat}{out:List Value}{P:PySem.Fin->Shared->Prop}(ho:(arrOf st).map (·.2)=List.toArray out)(hz:out.length<=4096)(hq:ks.length<=4096)(hf:failedOf st=none)(h:KatFin h₀ L m kS a ks e e1 (katRev b out) (fun s'=>P (.done (.ret .none)) s') s):wpAny (model prog w) A (ksk_tail a b e1 (.ref kS) st) P E s:=by
 obtain⟨nw,g,Fq,Nq,Uq,kq⟩:=h;obtain⟨l1,l2,e0,hg,x1,x2⟩:=Uq.split;rw[e0]at Nq;have ak:=Nq (kS,seqObj "list" (List.toArray ks) e) (ZJ _ (.head _));have s1:=Z0 s.heap kS (Obj.mapSeq fun _=>(#[]:Array Value));obtain⟨ck,hck⟩:∃z,(s.heap.update kS (Obj.mapSeq fun _=>(#[]:Array Value))).get? kS=some (seqObj "list" #[] z):=⟨_,get?_update_seq ak.1 fun _=>#[]⟩
 have K2:=kq _ ck (kas_fr Fq s1 ak.2.1 ak.2.2) (by rw[hg];exact news_set Nq x1 x2 s1 hck);obtain⟨nw2,g2,F2,N2,U2,k2⟩:=K2;obtain⟨m1,m2,e2,hg2,y1,y2⟩:=U2.split;rw[e2]at N2;have aa:=N2 (a,seqObj "list" #[] e1) (ZJ _ (.head _));have s2:=Z0 (s.heap.update kS (Obj.mapSeq fun _=>(#[]:Array Value))) a (Obj.mapSeq fun _=>List.toArray (katRev b out));have hsz:(List.toArray (katRev b out)).size=out.length:=by rw[Zj,kat_len]
 obtain⟨c2,hc2⟩:∃z,((s.heap.update kS (Obj.mapSeq fun _=>(#[]:Array Value))).update a (Obj.mapSeq fun _=>List.toArray (katRev b out))).get? a=some (seqObj "list" (List.toArray (katRev b out)) z):=⟨_,get?_update_seq aa.1 fun _=>List.toArray (katRev b out)⟩
 unfold ksk_tail;dsimp only;rw[ho,kat_outs];refine z6 (listUpdate_at ak.1 rfl (z6 (wpAny_letGo (z6 (seqEpoch_at aa.1 rfl (z6 (listUpdate_at aa.1 rfl ?_ (Z7 _) (ZB (Nat.le_of_eq hsz) (Nat.le_succ_of_le (dv hz))))))))) (by rw[Zj];exact dv hq) (Z7 _));rw[hf];simp only[bne_self_eq_false,Bool.false_eq_true,if_false];refine z9 (k2 _ c2 (kas_fr F2 s2 aa.2.1 aa.2.2) ?_);rw[hg2];exact news_set N2 y1 y2 s2 hc2
theorem B6{b:Bool}{e e1:Nat}{P:PySem.Fin->Shared->Prop}(hl:ks.length=vs.length)(hz:vs.length<=4096)(h:rg prog w A b ks vs (fun out=>KatFin h₀ L m kS a ks e e1 out (fun s3=>P (.done (.ret .none)) s3)) s) :
  wpAny (model prog w) A (ksk_end a b vs.toArray e1 (.ref kS) (List.toArray ks)) P E s:=by
 have lr:(katRev b ks).length=(katRev b vs).length:=by rw[kat_len,kat_len,hl]
 have lv:(katRev b vs).length=vs.length:=kat_len b vs;have step:∀t:Sem PySem.Fin,wpAny (model prog w) A t P E s->wpAny (model prog w) A (if b=true then(do let _ ←rule "list.sort.reverse";t)else t) P E s:=by
  intro t ht;split
  ·exact z6 (ZT ht)
  ·exact ht
 unfold ksk_end;dsimp only;refine step _ ?_;have er:∀κ,SortSt.mk' κ ((List.toArray (katRev b ks)).zip (List.toArray (katRev b vs))) #[] 7 none=SortSt.mk' κ ((List.toArray (List.range vs.length)).map (kas_item ((List.toArray (katRev b ks)).zip (List.toArray (katRev b vs))))) #[] 7 none:=fun κ=>by have e:=kas_range ((List.toArray (katRev b ks)).zip (List.toArray (katRev b vs)));rw[show((List.toArray (katRev b ks)).zip (List.toArray (katRev b vs))).size=vs.length by simp[lr,lv]]at e;rw[e]
 rw[kat_pairs b hl];by_cases n2:vs.toArray.size<2
 ·rw[if_pos n2,if_pos n2];have n2':vs.length<2:=by simpa using n2
  refine z6 (z9 ?_);rw[er,StateT.run_pure];refine z6 (z9 ?_);dsimp only;exact qZ (kat_snds lr (p:=List.toArray (List.range vs.length)) rfl) (by simpa using hz) (by omega) rfl (h.2 n2')
 rw[if_neg n2,if_neg n2];have n3:2<=vs.length:=by rw[Zj]at n2;omega
 refine z6 (ZH (h.1 n3) (fun κ s0 hg=>?_) fun _ _ x=>x.elim);obtain⟨lt,O,ask,fin⟩:=hg;have Z:Zc prog w A s0 κ ((List.toArray (katRev b ks)).zip (List.toArray (katRev b vs))) lt vs.length:=fun i j C hi hj hC=>by have:=ask i j C hi hj hC;rw[kat_ask_eq lr]at this;exact this
 rw[er];refine z6 (ZH (B5 (E:=E) (Q:=fun _ st'=>∃p:Array Nat,POk vs.length p/\LS lt p vs.length/\p.size=vs.length/\arrOf st'=p.map (kas_item ((List.toArray (katRev b ks)).zip (List.toArray (katRev b vs))))/\failedOf st'=none) Z O (by omega) fun p st' a1 a2 a3 a4 a5=>⟨p,a1,a2,a3,a4,a5⟩) ?_ fun _ _ x=>x);rintro⟨⟨⟩,st'⟩ s' ⟨rfl,p,a1,a2,a3,a4,a5⟩;dsimp only;exact qZ (kat_snds lr a4) (by rw[Zu,Zs,a3];exact hz) (by omega) a5 (fin p a1 a2)
theorem qY{f:Value}{Fin:List Value->Nat->Shared->Prop}{n:Nat}{body:Value->PUnit->Sem (ForInStep PUnit)}(hn:n<=4096)(hb:∀ x ks e (s:Shared) (C:Value->Nat->Shared->Prop),List.length ks<4096->wpAny (model prog w) A (call f [x]) (KatBack h₀ L m kS ks e C) (fun _ _=>False) s ->
   wpAny (model prog w) A (body x ⟨⟩) (fun r s'=>r=.yield ⟨⟩/\∃ k c,s'.heap.get? kS=some (seqObj "list" (List.toArray (ks++[k])) c)/\C k c s') E s):∀ (r qs:List Value) (e:Nat) (s:Shared),qs.length+r.length=n ->
   s.heap.get? kS=some (seqObj "list" (List.toArray qs) e)->KatKeys prog w A h₀ L m kS f Fin r qs e s ->
   wpAny (model prog w) A (forIn r PUnit.unit body) (fun _ s'=>∃qs e,s'.heap.get? kS=some (seqObj "list" (List.toArray qs) e)/\qs.length=n/\Fin qs e s') E s
 | [],qs,e,s,hl,hq,h=>by rw[List.forIn_nil];exact z9 ⟨qs,e,hq,by simpa using hl,h⟩
 |x::r,qs,e,s,hl,hq,h=>by rw[Zr]at hl;rw[List.forIn_cons];refine z6 (ZH (hb x qs e s (fun k c s'=>KatKeys prog w A h₀ L m kS f Fin r (qs++[k]) c s') (by omega) h) (fun z s' hz=>?_) fun _ _ x=>x);obtain⟨rfl,k,c,hk',h2⟩:=hz;exact qY hn hb r (qs++[k]) c s' (by rw[Zg,Yw];omega) hk' h2
theorem zw{b:Bool}{f:Value}{e1:Nat}{P:PySem.Fin->Shared->Prop}(hq:s.heap.get? kS=some (seqObj "list" #[] 0))(hz:vs.length<=4096)(h:KatKeys prog w A h₀ L m kS f (fun ks e s'=>rg prog w A b ks vs (fun out=>KatFin h₀ L m kS a ks e e1 out (fun s3=>P (.done (.ret .none)) s3)) s') vs [] 0 s) :
  wpAny (model prog w) A (ksk_rest a f b vs.toArray e1 (.ref kS)) P E s:=by
 unfold ksk_rest;refine z6 (ZT ?_);rw[<-Array.forIn_toList];refine z6 (ZH (qY hz (fun x qs e s' C hzz hx=>?_) vs [] 0 s (by simp) hq h) (fun _ s' hd=>?_) fun _ _ x=>x)
 ·refine z6 (wpAny_attempt (ZH hx (fun k s2 hkk=>?_) fun _ _ hF=>hF.elim));obtain⟨nw,g,Fq,Nq,Uq,cq⟩:=hkk;obtain⟨l1,l2,e0,hg,x1,x2⟩:=Uq.split;rw[e0]at Nq;have ak:=Nq (kS,seqObj "list" (List.toArray qs) e) (ZJ _ (.head _));have s1:=Z0 s2.heap kS (Obj.mapSeq (·.push k));have ea:(List.toArray qs).push k=List.toArray (qs++[k]):=by simp
  obtain⟨c2,hc2⟩:∃z,(s2.heap.update kS (Obj.mapSeq (·.push k))).get? kS=some (seqObj "list" (List.toArray (qs++[k])) z):=⟨_,by rw[<-ea];exact get?_update_seq ak.1 (·.push k)⟩
  dsimp only;refine z6 (listUpdate_at ak.1 rfl (z9 ⟨rfl,k,c2,hc2,cq _ c2 (kas_fr Fq s1 ak.2.1 ak.2.2) (by rw[hg];exact news_set Nq x1 x2 s1 hc2)⟩) (by rw[Zj];exact dv (by omega)) (ZB (Nat.le_of_eq (Array.size_push ..)) (by rw[Zj];exact Nat.le_succ_of_le (dv (by omega)))))
 ·obtain⟨qs,e,hq',hl,fin⟩:=hd;exact z6 (listItems_at hq' rfl (B6 hl hz fin))
theorem wV{b:Bool}{f:Value}{n:Nat}{P:PySem.Fin->Shared->Prop}(F:Fr h₀ L s.heap m)(N:News h₀ L s.heap news)(ho:s.heap.get? a=some (seqObj "list" vs.toArray n))(haL:a≠L)(ha0:h₀.get? a=none)(hna:∀ p∈news,p.1≠a)(hz:vs.length<=4096)(h:∀ kS e1 h',Fr h₀ L h' m->News h₀ L h' ((kS,seqObj "list" #[] 0)::(a,seqObj "list" #[] e1)::news)->a<kS->(∀ q∈news,q.1<kS) ->
   KatKeys prog w A h₀ L m kS f (fun ks e s'=>rg prog w A b ks vs (fun out=>KatFin h₀ L m kS a ks e e1 out (fun s3=>P (.done (.ret .none)) s3)) s') vs [] 0 { s with heap:=h' }) :
  wpAny (model prog w) A (ksk_tree a f b) P E s:=by
 have la:a<s.heap.objs.size:=Zl ho;have s1:=Z0 s.heap a (Obj.mapSeq fun _=>(#[]:Array Value));have F1:=kas_fr F s1 haL ha0;have N1:=kas_news N s1 hna;obtain⟨e1,ho1⟩:∃z,(s.heap.update a (Obj.mapSeq fun _=>(#[]:Array Value))).get? a=some (seqObj "list" #[] z):=⟨_,get?_update_seq ho fun _=>#[]⟩
 have zk:((s.heap.update a (Obj.mapSeq fun _=>(#[]:Array Value))).push (seqObj "tuple" vs.toArray 0)).objs.size=s.heap.objs.size+1:=by rw[size_push',Heap.size_update]
 have lk:L<((s.heap.update a (Obj.mapSeq fun _=>(#[]:Array Value))).push (seqObj "tuple" vs.toArray 0)).objs.size:=(F1.push _).ns.lt;unfold ksk_tree;refine z6 (listItems_at ho rfl (z6 (listUpdate_at ho rfl (z6 (seqEpoch_at ho1 rfl (z6 (wpAny_newTuple (z6 (wpAny_newList (Yc ?_) (Z7 _))) (dv hz))))) (by rw[Zj];exact dv hz) (Z7 _))));refine zw (s:={ s with heap:=((s.heap.update a (Obj.mapSeq fun _=>(#[]:Array Value))).push (seqObj "tuple" vs.toArray 0)).push (seqObj "list" #[] 0) }) (kS:=((s.heap.update a (Obj.mapSeq fun _=>(#[]:Array Value))).push (seqObj "tuple" vs.toArray 0)).objs.size)
  (Zn _ rfl) hz (h _ e1 _ ((F1.push _).push _) (fun p hp=>?_) (by rw[zk];exact Nat.lt_succ_of_lt la) fun q hq=>by rw[zk];exact Nat.lt_succ_of_lt (Zl (N q hq).1))
 rcases Zq.mp hp with rfl|hp
 ·exact⟨Zn _ rfl,Yz lk,Heap.get?_none_of_le (ZB F.above (Nat.le_of_lt lk))⟩
 ·rcases Zq.mp hp with rfl|hp
  ·exact⟨Za _ (Za _ ho1),haL,ha0⟩
  ·exact⟨Za _ (Za _ (N1 p hp).1),(N1 p hp).2⟩
theorem zt{b:Bool}{f:Value}{kw:List (Str×Value)}{Q:Value->Shared->Prop}(F:Fr h₀ L s.heap m)(N:News h₀ L s.heap news)(hz:vs.length<=4096)(ha2:∀ x,argsOk "list.sort" ⟨[.ref x],kw⟩)(ht:∀ x,Builtin.«list.sort» ⟨[.ref x],kw⟩=ksk_tree x f b)(h:∀ D kS e1 h',Fr h₀ L h' m->News h₀ L h' ((kS,seqObj "list" #[] 0)::(D,seqObj "list" #[] e1)::news)->D<kS->(∀ q∈news,q.1<D) ->
   KatKeys prog w A.in1 h₀ L m kS f (fun ks e s'=>rg prog w A.in1 b ks vs (fun out=>KatFin h₀ L m kS D ks e e1 out (fun s4=>Q (.ref D) s4)) s') vs [] 0 { s with heap:=h' }) :
  wpAny (model prog w) A (do let l ←newList vs;let _ ←holding [l] (call (.builtin "list.sort") [l] kw);ret l) (fun fin s'=>∃v,fin=.done (.ret v)/\Q v s') E s:=by
 have hL:L<s.heap.objs.size:=F.ns.lt;have hoL:(s.heap.push (seqObj "list" vs.toArray 0)).get? s.heap.objs.size=some (seqObj "list" vs.toArray 0):=Zn _ rfl;refine z6 (wpAny_newList ?_ (dv hz));refine z6 (Yc (wpAny_call_entry_kw slot_list_sort ⟨_,hoL,rfl⟩ entry_list_sort ?body (ha2 _)))
 case body =>
  show wpAny (model prog w) A.in1 (Builtin.«list.sort» ⟨[.ref s.heap.objs.size],kw⟩) _ _ _;rw[ht];refine wV (s:={ s with heap:=s.heap.push (seqObj "list" vs.toArray 0) }) (F.kept fun b o q=>Za _ q) (N.grown fun b o q=>Za _ q) hoL (Yz hL) (Heap.get?_none_of_le (ZB F.above (Nat.le_of_lt hL))) (fun p hp=>Zy (Zl (N p hp).1)) hz fun kS e1 h' F' N' l0 l1=>?_;refine kat_keys_mono (h _ kS e1 h' F' N' l0 fun q hq=>Zl (N q hq).1) fun ks e s' _ hd=>⟨fun n2=>ZH (hd.1 n2) (fun κ s2 hk=>?_) fun _ _ x=>x,fun n2=>(hd.2 n2).mono fun s4 hq=>⟨_,rfl,z9 ⟨_,rfl,hq⟩⟩⟩
  obtain⟨lt,O,ask,fin⟩:=hk;exact⟨lt,O,ask,fun p a1 a2=>(fin p a1 a2).mono fun s4 hq=>⟨_,rfl,z9 ⟨_,rfl,hq⟩⟩⟩
end
open PySem PySem.Spec PyProof.Rows PySem.W
def bn:List Int->List Int->List Int
 | [],ns=>0::ns
 |p::ps,ns=>1::p::bn ps ns
theorem pZ:∀(ps ns qs ms:List Int),HT.lexLt (bn ps ns) (bn qs ms)=if ps=qs then HT.lexLt ns ms else HT.lexLt ps qs
 | [],ns,[],ms=>by rw[bn,bn,HT.lexLt_cons,if_pos rfl,if_pos rfl]
 | [],ns,q::qs,ms=>by rw[bn,bn,HT.lexLt_cons,if_neg (by decide),if_neg (by simp)];rfl
 |p::ps,ns,[],ms=>by rw[bn,bn,HT.lexLt_cons,if_neg (by decide),if_neg (by simp)];rfl
 |p::ps,ns,q::qs,ms=>by
  rw[bn,bn,HT.lexLt_cons,if_pos rfl,HT.lexLt_cons,pZ ps ns qs ms,HT.lexLt_cons];by_cases h:p=q
  ·subst h;rw[if_pos rfl,if_pos rfl];by_cases h2:ps=qs
   ·rw[if_pos h2,if_pos (by rw[h2])]
   ·rw[if_neg h2,if_neg (fun z=>h2 (by injection z))]
  ·rw[if_neg h,if_neg (fun z=>h (by injection z)),if_neg h]
inductive ZKey where
 |i (n:Int)|t (ns:List Int)|p (ps ns:List Int)
def ZKey.nums:ZKey->List Int
 |.i n=>[n]
 |.t ns=>ns
 |.p ps ns=>bn ps ns
def ZKey.at(H:Hp):ZKey->V->Prop
 |.i n,v=>v=.int n
 |.t ns,v=>∃a,v=.ref a/\H a=some (.tup (ns.map V.int))
 |.p ps ns,v=>∃a b c,v=.ref a/\H a=some (.tup [.ref b,.ref c])/\H b=some (.tup (ps.map V.int))/\H c=some (.tup (ns.map V.int))
theorem ZKey.at.same{H H':Hp}(sm:Same H H'):∀{k:ZKey} {v:V},k.at H v->k.at H' v
 |.i _,_,h=>h
 |.t _,_,⟨a,e,h⟩=>⟨a,e,sm _ _ h⟩
 |.p _ _,_,⟨a,b,c,e,h1,h2,h3⟩=>⟨a,b,c,e,sm _ _ h1,sm _ _ h2,sm _ _ h3⟩
def sL(ks:List ZKey):Prop:=∀k∈ks,∃ps ns,k=.p ps ns
theorem qa{X:Cx}{pins:List (Addr×Obj)}{σ:St}{H:Hp}{s:Shared}{A:Around}{a b:Addr}{ns ms:List Int}(I:Inv X pins σ H s)(hu:A.units+64<cLine)(ha:H a=some (.tup (ns.map V.int)))(hb:H b=some (.tup (ms.map V.int))):SeqAt.EqAt A s (.ref a) (.ref b) (decide (ns=ms)):=by obtain⟨as,r1⟩:=Dt.reads I.hok _ (.ref a) (.ref a) (eQ ha) rfl;obtain⟨bs,r2⟩:=Dt.reads I.hok _ (.ref b) (.ref b) (eQ hb) rfl;rw[<-gG];have s1:=ce ns;have s2:=ce ms;refine SeqAt.eqAt_reads _ _ A s _ _ as bs r1 r2 (Yq s1) (Yq s2) ?_;have d1:=SeqAt.depth_of_shaped s1;have d2:=Nat.min_le_left (PyData.tuple (ns.map .int)).depth (PyData.tuple (ms.map .int)).depth;omega
theorem pJ{prog:Program}{w:World}{A:Around}{s:Shared}{fin:Bool}{Q:Bool->Shared->Prop}{b c b' c':Addr}{ps ns qs ms:List Int}(e1:SeqAt.EqAt A s (.ref b) (.ref b') (decide (ps=qs)))(e2:SeqAt.EqAt A s (.ref c) (.ref c') (decide (ns=ms)))(l1:∀R:Value->Shared->Prop,R (.bool (HT.lexLt ps qs)) s->wpAny (model prog w) A (compareOp .Lt (.ref b) (.ref b')) R (fun _ _=>False) s)(l2:∀R:Value->Shared->Prop,R (.bool (HT.lexLt ns ms)) s->wpAny (model prog w) A (compareOp .Lt (.ref c) (.ref c')) R (fun _ _=>False) s)(hf:fin=false)(q:Q (HT.lexLt (bn ps ns) (bn qs ms)) s):KatLex prog w A false fin Q ([Value.ref b,.ref c].zip [Value.ref b',.ref c']) 0 s:=by
 subst hf;rw[pZ]at q;refine kat_cons (e1 _ _ _ _ (kat_go (fun et=>?_) (fun ef=>?_)))
 ·rw[if_pos (Ya et)]at q;refine kat_yes (kat_cons (e2 _ _ _ _ (kat_go (fun et2=>?_) (fun ef2=>?_))))
  ·have z:=Ya et2;subst z;have e:HT.lexLt ns ns=false:=by
    cases h:HT.lexLt ns ns with
    |false=>rfl
    |true=>rw[oG h]at h;cases h
   rw[e]at q;exact kat_yes (kat_nil q)
  ·exact kat_no (kat_one _ _ (l2 _ q))
 ·rw[if_neg (of_decide_eq_false ef)]at q;exact kat_no (kat_one _ _ (l1 _ q))
def zA(ks:List ZKey):Prop:=(∀k∈ks,∃n,k=.i n)\/∀k∈ks,∃ns,k=.t ns/\ns≠[]
section
variable{X:Cx}{pins:List (Addr×Obj)}{σ:St}{H:Hp}{s:Shared}{h':Heap}
def zG(X:Cx)(s:Shared)(l:Addr)(xs:List V):Prop:=∀Q:List Value->Shared->Prop,(∀h' tk its,(∀b o,s.heap.get? b=some o->h'.get? b=some o)->Vals xs its->Q its { s with heap:=h',toks:=tk })->wpAny (model X.prog X.w) X.A.in1 (collect (.ref l)) Q X.xe s
structure SGZ(X:Cx)(pins:List (Addr×Obj))(σ:St)(H1:Hp)(m:Str->Option Value)(kS D:Addr)(e1:Nat)(ks:List ZKey)(as:List V)(us:List Value)(e:Nat)(H:Hp)(s:Shared):Prop where
 I:Inv X pins σ H s
 sm:Same H1 H
 fk:aX X pins H kS
 fd:aX X pins H D
 bk:X.base.get? kS=none
 bd:X.base.get? D=none
 hk:s.heap.get? kS=some (seqObj "list" (List.toArray us) e)
 hd:s.heap.get? D=some (seqObj "list" #[] e1)
 ns:s.heap.Ns X.env.locals m
 vals:Vals as us
 keys:∀(i:Nat) (a:V) (k:ZKey),as[i]?=some a->ks[i]?=some k->k.at H a
theorem SGZ.fr{H1:Hp}{m:Str->Option Value}{kS D:Addr}{e1:Nat}{ks:List ZKey}{as:List V}{us:List Value}{e:Nat}(S:SGZ X pins σ H1 m kS D e1 ks as us e H s):Fr X.base X.env.locals s.heap m:=⟨S.ns,S.I.bk,ZB S.I.ok.bsz S.I.ok.above⟩
theorem kU{H1:Hp}{m:Str->Option Value}{kS D:Addr}{e1:Nat}{ks:List ZKey}{xs:List V}{its:List Value}{f:Addr}{sp:Sp}{Fin:List Value->Nat->Shared->Prop}(hne:kS≠D)(rv:Vals xs its)(hl:ks.length=xs.length)(F:rf X pins σ f sp)(spec:∀(i:Nat) (v:V) (key:ZKey) (H':Hp),xs[i]?=some v->ks[i]?=some key->Same H1 H'->∀R:VK,(∀kv H'',Same H' H''->key.at H'' kv->R kv H'')->sp [v] H' R E0)(fin:∀(as:List V) (us:List Value) (e:Nat) (H:Hp) (s:Shared),SGZ X pins σ H1 m kS D e1 ks as us e H s->as.length=xs.length->Fin us e s) :
  ∀(r:List Value) (as:List V) (us:List Value) (e:Nat) (H:Hp) (s:Shared),SGZ X pins σ H1 m kS D e1 ks as us e H s->its=its.take as.length++r->as.length+r.length=xs.length ->
   KatKeys X.prog X.w X.A.in1.in1 X.base X.env.locals m kS (.ref f) Fin r us e s
 | [],as,us,e,H,s,S,_,hlen=>KatKeys.nil (fin as us e H s S (by simpa using hlen))
 |u::r,as,us,e,H,s,S,hits,hlen=>by
  have hi:as.length<xs.length:=by rw[Zr]at hlen;omega
  have hx:xs[as.length]?=some xs[as.length]:=Zb hi;obtain⟨u',gu,ru⟩:=rv.get hx;have hlt:as.length<its.length:=by rw[<-rv.length];exact hi
  have gu':its[as.length]?=some u:=by rw[hits,ZL (by rw[ZS];omega),ZS,Nat.min_eq_left (by omega),YQ];rfl
  rw[gu']at gu;cases gu;have hkey:ks[as.length]?=some (ks[as.length]'(by omega)):=Zb (by omega);generalize ks[as.length]'(by omega)=key at hkey;refine KatKeys.cons (wpAny_call (codeAny_mono (F s H u xs[as.length] (fun v H''=>Same H H''/\key.at H'' v) S.I ru (spec _ _ _ H hx hkey S.sm _ fun kv H'' s' q=>⟨s',q⟩)) fun res s' hq=>?_));cases res with
  |error e=>exact hq
  |ok fl =>
   cases fl with
   |next=>exact False.elim hq
   |brk=>exact False.elim hq
   |cont=>exact False.elim hq
   |ret uv =>
    obtain⟨v,H'',os,bare,un,hok,rvv,sm,ea⟩:=hq;obtain⟨hh,g,d,t,os'⟩:=s';obtain rfl:os'=s.os:=os;have I2:Inv X pins σ H'' { s with heap:=hh,gens:=g,drawn:=d,toks:=t }:=S.I.call (h':=hh) (g':=g) (d':=d) (t':=t) (ch:=[]) un hok bare (fun b z=>absurd z (by simp));have nstk:∀{b:Addr},aX X pins H b->b∉frs X.stack:=fun{b} fo z=>(Zq.mp (S.I.stkSub b z)).elim fo.2.1 fo.2.2.1;have hk2:hh.get? kS=some (seqObj "list" (List.toArray us) e):=un.keep kS _ S.hk S.fk.1 (nstk S.fk) (by simp);have hd2:hh.get? D=some (seqObj "list" #[] e1):=un.keep D _ S.hd S.fd.1 (nstk S.fd) (by simp);have ns2:hh.Ns X.env.locals m:=by obtain⟨o,es,ep,ho,rr⟩:=id S.ns;obtain⟨sl,hL⟩:=un.any ho S.I.free (by simp);exact⟨_,es,ep,hL,rr⟩
    have fk2:aX X pins H'' kS:=⟨un.free kS _ S.hk S.fk.1 (by simp),S.fk.2⟩
    have fd2:aX X pins H'' D:=⟨un.free D _ S.hd S.fd.1 (by simp),S.fd.2⟩
    have hkL:kS≠X.env.locals:=S.fk.2.1;refine KatBack.intro (news:=(kS,seqObj "list" (List.toArray us) e)::eM X.base hh X.env.locals kS) ⟨ns2,I2.bk,ZB S.I.ok.bsz S.I.ok.above⟩ (fh hk2 hkL S.bk) (.head hV) fun h3 c F3 N3=>?_;have mv:=fg (fun b o q=>I2.bk b o q) F3 N3;have I3:Inv X pins σ H'' { s with heap:=h3,gens:=g,drawn:=d,toks:=t }:=Inv.movedF (ch:=[kS]) (t':=t) I2 (fun b hb=>by rw[Zw.mp hb];exact fk2) mv ⟨m,ns2,F3.ns⟩;refine kU hne rv hl F spec fin r (as++[v]) (us++[uv]) c H'' _ ⟨I3,S.sm.trans sm,fk2,fd2,S.bk,S.bd,(N3 _ (.head _)).1,mv D _ S.fd.2.1 (fun z=>hne (Zw.mp z).symm) hd2,F3.ns,S.vals.append (.cons rvv .nil),fun i b key' h1 h2=>?_⟩ ?_ ?_
    ·by_cases hi2:i<as.length
     ·rw[y7 hi2]at h1;exact(S.keys i b key' h1 h2).same sm
     ·have hi3:=(Zt.mp h1).1;rw[Zg,Yw]at hi3;have e3:i=as.length:=by omega
      subst e3;rw[ZL (Zd _),YQ]at h1;cases h1;rw[hkey]at h2;cases h2;exact ea
    ·rw[Zg,Yw,List.take_add_one,gu',Option.toList_some,ZF];exact hits
    ·rw[Zg,Yw,<-hlen,Zr];omega
theorem pM{b:Bool}{kw:List (Str×Value)}{ks:List ZKey}{xs:List V}{f l:Addr}{sp:Sp}{Q:VK}(I:Inv X pins σ H s)(src:zG X s l xs)(hz:xs.length<=4096)(hl:ks.length=xs.length)(hne:zA ks\/(sL ks/\X.A.in1.in1.units+64<cLine))(hs1:argsOk "sorted" ⟨[.ref l],kw⟩)(hs2:∀x,argsOk "list.sort" ⟨[.ref x],kw⟩)(hs3:∀x,Builtin.«list.sort» ⟨[.ref x],kw⟩=ksk_tree x (.ref f) b)(F:∀l,rf (wX X l) pins σ f sp)(spec:∀(i:Nat) (v:V) (key:ZKey) (H':Hp),xs[i]?=some v->ks[i]?=some key->Same H H'->∀R:VK,(∀kv H'',Same H' H''->key.at H'' kv->R kv H'')->sp [v] H' R E0)(q:∀(p:Array Nat) (H2:Hp) (D:Addr),POk xs.length p->LS (fun i j=>HT.lexLt ((katRev b (ks.map ZKey.nums)).getD i []) ((katRev b (ks.map ZKey.nums)).getD j [])) p xs.length->Same H H2->H2 D=none->Q (.ref D) (upd H2 D (.lst (katRev b (p.toList.map fun i=>(katRev b xs).getD i .non))))) :
  wpAny (model X.prog X.w) X.A (call (.builtin "sorted") [.ref l] kw) (EP X pins σ Q) X.xe s:=by
 refine call_function_entry_kw kind_sorted plain_sorted entry_sorted hs1 ?_;unfold Builtin.«sorted»;refine z6 (m:=checkCount "sorted" 1 1 _) (z9 (z6 (src _ fun h0 tk its kp rv=>?_)));have I0:Inv X pins σ H { s with heap:=h0,toks:=tk }:=I.kept (t':=tk) kp;obtain⟨m,F0⟩:=I0.fr;have li:its.length=xs.length:=rv.length.symm;refine zt (vs:=its) (b:=b) F0 (jp X.base h0 X.env.locals) (by omega) hs2 hs3 fun D kS e1 h1 F1 N1 hDk hD=>?_;have nD:=N1 (D,seqObj "list" #[] e1) (.tail _ (.head _));have nK:=N1 (kS,seqObj "list" #[] 0) (.head _);have hds:h0.get? D=none:=by
  cases g:h0.get? D with
  |none=>rfl
  |some o=>exact absurd (hD (D,o) (eG g nD.2.1 nD.2.2)) (Yr _)
 have hks:h0.get? kS=none:=by
  cases g:h0.get? kS with
  |none=>rfl
  |some o=>exact absurd (Nat.lt_trans hDk (hD (kS,o) (eG g nK.2.1 nK.2.2))) (Yr _)
 have xk:=I0.exOk hks nK.2.1 nK.2.2;have xd:=I0.exOk hds nD.2.1 nD.2.2;have hlx:∀b∈[kS,D],ExOk X b:=fun b' hb=>by
  simp only[Zq,YH,or_false]at hb;rcases hb with rfl|rfl
  ·exact xk
  ·exact xd
 have fpk:=I0.fpW (l:=[kS,D]) (by simp) xk hks;have fpd:=I0.fpW (l:=[kS,D]) (by simp) xd hds;have mv0:∀b u,b≠X.env.locals->b∉([]:List Addr)->h0.get? b=some u->h1.get? b=some u:=fun b u hL _ g=>by
  cases qb:X.base.get? b with
  |none=>exact(N1 (b,u) (.tail _ (.tail _ (eG g hL qb)))).1
  |some o =>have e':=I0.bk b o qb;rw[g]at e';cases e';exact F1.keep b u qb
 have I1:Inv X pins σ H { s with heap:=h1,toks:=tk }:=Inv.movedF (ch:=[]) (s:={ s with heap:=h0,toks:=tk }) (t':=tk) I0 (fun b hb=>absurd hb (by simp)) mv0 ⟨m,F0.ns,F1.ns⟩;have I2:=I1.widen hlx;have hkd:kS≠D:=Yz hDk;refine kU (X:=wX X [kS,D]) (H1:=H) (D:=D) (e1:=e1) (ks:=ks) (xs:=xs) (its:=its) hkd rv hl (F _) spec (fun as us e2 H' s' S la=>?_) its [] [] 0 H { s with heap:=h1,toks:=tk } ⟨I2,Same.refl H,fpk,fpd,nK.2.2,nD.2.2,nK.1,nD.1,F1.ns,.nil,fun i a k h=>by simp at h⟩ (by simp) (by simpa using li);have hN:its.length=xs.length:=li;have lu:us.length=xs.length:=by rw[<-S.vals.length,la]
 have rvR:Vals (katRev b xs) (katRev b its):=pE b rv;have lR:(katRev b xs).length=xs.length:=kat_len b xs;have gk:∀i,i<xs.length->∃(v:V) (u:Value) (k:ZKey),RelV v u/\(katRev b us).getD i Value.none=u/\k∈ks/\(katRev b (ks.map ZKey.nums)).getD i []=k.nums/\k.at H' v:=fun i hi=>by
  obtain⟨j,hj,e1⟩:∃j,j<xs.length/\∀{α:Type} (l:List α),l.length=xs.length->(katRev b l)[i]?=l[j]?:=by
   cases b with
   |false=>exact⟨i,hi,fun l _=>rfl⟩
   | true=>exact⟨xs.length - 1 - i,by omega,fun l hl'=>by
     show l.reverse[i]?=_;rw[List.getElem?_reverse (by omega),hl']⟩
  have h1:as[j]?=some (as[j]'(by omega)):=Zb (by omega);have h2:ks[j]?=some (ks[j]'(by omega)):=Zb (by omega);obtain⟨u,gu,ru⟩:=S.vals.get h1;refine⟨_,u,_,ru,?_,YI (show j<ks.length by omega),?_,S.keys j _ _ h1 h2⟩
  ·rw[Ze,e1 us lu,gu];rfl
  ·rw[Ze,e1 (ks.map ZKey.nums) (by rw[Zu,hl]),ZA,h2];rfl
 have fin:∀p:Array Nat,POk xs.length p->p.size=xs.length/\LS (fun i j=>HT.lexLt ((katRev b (ks.map ZKey.nums)).getD i []) ((katRev b (ks.map ZKey.nums)).getD j [])) p xs.length ->
   KatFin X.base X.env.locals m kS D us e2 e1 (katRev b (p.toList.map fun i=>(katRev b its).getD i Value.none)) (fun s4=>EP X pins σ Q (.ref D) s4) s':=fun p hp hs=>by
  refine KatFin.intro (news:=(kS,seqObj "list" (List.toArray us) e2)::eM X.base s'.heap X.env.locals kS) S.fr (fh S.hk S.fk.2.1 S.bk) (.head hV) fun h3 c F3 N3=>?_;have mv3:=fg (fun b' o qb=>S.I.bk b' o qb) F3 N3;have hd3:h3.get? D=some (seqObj "list" #[] e1):=mv3 D _ S.fd.2.1 (fun zz=>hkd (Zw.mp zz).symm) S.hd;refine KasFin.intro (news:=(D,seqObj "list" #[] e1)::eM X.base h3 X.env.locals D) (s:={ s' with heap:=h3 }) F3 (fh hd3 S.fd.2.1 S.bd) (.head hV) fun h4 c4 F4 N4=>?_;have mv4:=fg (fun b' o qb=>F3.keep b' o qb) F4 N4;have hch:∀b∈[kS,D],aX (wX X [kS,D]) pins H' b:=fun b' hb=>by
   simp only[Zq,YH,or_false]at hb;rcases hb with rfl|rfl
   ·exact S.fk
   ·exact S.fd
  have mv:∀b u,b≠X.env.locals->b∉[kS,D]->s'.heap.get? b=some u->h4.get? b=some u:=fun b' u hL hx g=>mv4 b' u hL (fun zz=>hx (by rw[Zw.mp zz];simp)) (mv3 b' u hL (fun zz=>hx (by rw[Zw.mp zz];simp)) g);have pl:∀i∈p.toList,i<xs.length:=fun i hi=>by have:=(hp.mem_iff).mp (Array.mem_toList_iff.mp hi);simpa using this
  have vals:∀(w:List Nat),(∀i∈w,i<xs.length)->Vals (w.map fun i=>(katRev b xs).getD i .non) (w.map fun i=>(katRev b its).getD i Value.none):=fun w=>by
   induction w with
   |nil=>intro _;exact .nil
   |cons i w ih =>intro hw;have hi:=hw i Zo;have hx:(katRev b xs)[i]?=some ((katRev b xs)[i]'(by omega)):=Zb (by omega);obtain⟨u,gu,ru⟩:=rvR.get hx;refine .cons ?_ (ih fun j hj=>hw j (Zh _ hj));show RelV ((katRev b xs).getD i V.non) ((katRev b its).getD i Value.none);rw[Ze,Ze,hx,gu];exact ru
  have lp:p.toList.length=xs.length:=by have:=hs.1;simpa using this
  have new:ObjOk X.prog X.w (upd H' D (.lst (katRev b (p.toList.map fun i=>(katRev b xs).getD i .non)))) h4 D (.lst (katRev b (p.toList.map fun i=>(katRev b xs).getD i .non))):=⟨by rw[kat_len,Zu,lp];exact dv (by omega),_,c4,pE b (vals _ pl),(N4 _ (.head _)).1⟩
  have I4:=Inv.tookF (X:=wX X [kS,D]) (ch:=[kS,D]) (a:=D) (o:=.lst (katRev b (p.toList.map fun i=>(katRev b xs).getD i .non))) (t':=s'.toks) S.I (by simp) hch mv ⟨m,S.ns,F4.ns⟩ new;exact⟨.ref D,_,I4.narrow I.ok (fun b' hb=>(hlx b' hb).old),rfl,q p H' D hp hs.2 S.sm S.fd.1⟩
 have go:∀κ:SortKind,(∀(i j:Nat) (C:Bool->Shared->Prop),i<xs.length->j<xs.length->C (HT.lexLt ((katRev b (ks.map ZKey.nums)).getD i []) ((katRev b (ks.map ZKey.nums)).getD j [])) s'->kas_ask X.prog X.w X.A.in1.in1 κ (katRev b us) i j C s') ->
   ZGo X.prog X.w X.A.in1.in1 b us its (fun out=>KatFin X.base X.env.locals m kS D us e2 e1 out (fun s4=>EP X pins σ Q (.ref D) s4)) κ s':=fun κ hask=>by
  refine⟨_,Am (katRev b (ks.map ZKey.nums)),?_,?_⟩
  ·rw[hN];exact hask
  ·rw[hN];exact fun p hp hs=>fin p hp ⟨by have:=hp.size_eq;simpa using this,hs⟩
 refine⟨fun n2=>?_,fun n2=>?_⟩
 rotate_left
 ·have:=fin (List.toArray (List.range its.length)) (by rw[hN];exact Array.Perm.refl _) ⟨by simpa using hN,fun i j h1 h2=>by omega⟩;rw[YE]at this;exact this
 rcases hne with(hI|hB)|⟨hP,hun⟩
 ·refine kas_kind (T:=.type "int") (by omega) (fun u hu=>?_) rfl rfl (go _ fun i j C hi hj hC=>?_)
  ·obtain⟨j,hj,rfl⟩:=List.getElem_of_mem hu;have h1:as[j]?=some (as[j]'(by omega)):=Zb (by omega);have h2:ks[j]?=some (ks[j]'(by omega)):=Zb (by omega);obtain⟨u,gu,ru⟩:=S.vals.get h1;have ky:=S.keys j _ _ h1 h2;obtain⟨n',en⟩:=hI _ (YI (show j<ks.length by omega));rw[en]at ky;rw[show as[j]'(by omega)=V.int n' from ky]at ru;obtain⟨t,rfl⟩:=ru;rw[Zb hj]at gu;rw[Zi gu];exact .now
  ·obtain⟨v,u,k1,ru,eu,m1,en,at1⟩:=gk i hi;obtain⟨v2,u2,k2,ru2,eu2,m2,en2,at2⟩:=gk j hj;obtain⟨n1,rfl⟩:=hI _ m1;obtain⟨n2,rfl⟩:=hI _ m2;rw[show v=V.int n1 from at1]at ru;rw[show v2=V.int n2 from at2]at ru2;obtain⟨t,rfl⟩:=ru;obtain⟨t2,rfl⟩:=ru2;unfold kas_ask;rw[eu,eu2];rw[en,en2]at hC;refine kat_lt_int ?_;have e1':HT.lexLt (ZKey.i n1).nums (ZKey.i n2).nums=decide (n1<n2):=yh n1 n2;rw[e1']at hC;exact hC
 ·have tups:∀(vs:List V) (ws:List Value) (n:Nat),Vals vs ws->n+vs.length=ks.length->(∀(i:Nat) (v:V) (k:ZKey),vs[i]?=some v->ks[n+i]?=some k->k.at H' v)->∃fs:List Value,KatTups s'.heap ws fs/\fs.length=ws.length/\∀v∈fs,∃i t,v=.int i t:=fun vs=>by
   induction vs with
   |nil =>intro ws n hv _ _;cases hv;exact⟨[],KatTups.nil,rfl,fun v h=>nomatch h⟩
   |cons v vs ih =>
    intro ws n hv hl' h;cases hv with
    |cons rv1 hv =>
     rw[Zr]at hl';have hkn:ks[n]?=some (ks[n]'(by omega)):=Zb (by omega);obtain⟨ns,en,ne⟩:=hB _ (YI (show n<ks.length by omega));rw[en]at hkn;obtain⟨a,rfl,ea⟩:=h 0 v _ rfl (by rw[Nat.add_zero];exact hkn);cases rv1;obtain⟨ia,ra,pa,za⟩:=S.I.tuple (SqT.of (K:=X.K) ea);obtain⟨oa,eo,ca,n1,da⟩:=id pa;obtain⟨x,t,ia',rfl⟩:∃x t r,ia=.int x t::r:=by
      cases bI ra with
      |nil=>exact absurd rfl ne
      |cons x t r=>exact⟨x,t,_,rfl⟩
     obtain⟨fs,f1,f2,f3⟩:=ih _ (n+1) hv (by omega) (fun i w k' h1 h2=>h (i+1) w k' h1 (by rw[show n+(i+1)=n+1+i by omega];exact h2));refine⟨.int x t::fs,KatTups.cons eo ca da rfl f1,by rw[Zr,Zr,f2],fun v hv=>?_⟩;rcases Zq.mp hv with rfl|hv
     ·exact⟨_,_,rfl⟩
     ·exact f3 v hv
  obtain⟨fs,t1,t2,t3⟩:=tups as us 0 S.vals (by omega) (fun i v k h1 h2=>S.keys i v k h1 (by rw[Nat.zero_add]at h2;exact h2));refine kat_kind (T:=.type "int") t1 (by omega) (fun v hv=>?_) rfl (go _ fun i j C hi hj hC=>?_)
  ·obtain⟨i,t,rfl⟩:=t3 v hv;exact .now
  ·obtain⟨v,u,k1,ru,eu,m1,en,at1⟩:=gk i hi;obtain⟨v2,u2,k2,ru2,eu2,m2,en2,at2⟩:=gk j hj;obtain⟨n1,rfl,_⟩:=hB _ m1;obtain⟨n2,rfl,_⟩:=hB _ m2;obtain⟨a1,rfl,ha1⟩:=at1;obtain⟨a2,rfl,ha2⟩:=at2;cases ru;cases ru2;obtain⟨ia,ra,pa,za⟩:=S.I.tuple (SqT.of (K:=X.K) ha1);obtain⟨ib,rb,pb,zb⟩:=S.I.tuple (SqT.of (K:=X.K) ha2);obtain⟨oa,eoa,ca,q1,da⟩:=id pa;obtain⟨ob,eob,cb,q2,db⟩:=id pb;unfold kas_ask;rw[eu,eu2];rw[en,en2]at hC;exact kat_lt eoa da eob db (pI _ _ _ _ 0 (bI ra) (bI rb) (by rw[Zj,Zj,<-ra.length,<-rb.length,Zu,Zu]) hC)
 ·have tups:∀(vs:List V) (ws:List Value) (n:Nat),Vals vs ws->n+vs.length=ks.length->(∀(i:Nat) (v:V) (k:ZKey),vs[i]?=some v->ks[n+i]?=some k->k.at H' v)->∃fs:List Value,KatTups s'.heap ws fs/\fs.length=ws.length/\∀v∈fs,∃(a:Addr) (o:Obj),v=.ref a/\s'.heap.get? a=some o/\o.cls=.type "tuple":=fun vs=>by
   induction vs with
   |nil =>intro ws n hv _ _;cases hv;exact⟨[],KatTups.nil,rfl,fun v h=>nomatch h⟩
   |cons v vs ih =>
    intro ws n hv hl' h;cases hv with
    |cons rv1 hv =>
     rw[Zr]at hl';have hkn:ks[n]?=some (ks[n]'(by omega)):=Zb (by omega);obtain⟨ps,ns,en⟩:=hP _ (YI (show n<ks.length by omega));rw[en]at hkn;obtain⟨a,b,c,rfl,ea,eb,ec⟩:=h 0 v _ rfl (by rw[Nat.add_zero];exact hkn);cases rv1;obtain⟨ia,ra,pa,za⟩:=S.I.tuple (SqT.of (K:=X.K) ea);obtain⟨oa,eo,ca,n1,da⟩:=id pa;obtain⟨ib,rb,pb,zb⟩:=S.I.tuple (SqT.of (K:=X.K) eb);obtain⟨ob,eob,cb,n2,db⟩:=id pb;obtain⟨u1,u2,rfl,r1,r2⟩:=lh ra;cases r1;obtain⟨fs,f1,f2,f3⟩:=ih _ (n+1) hv (by omega) (fun i w k' h1 h2=>h (i+1) w k' h1 (by rw[show n+(i+1)=n+1+i by omega];exact h2));refine⟨.ref b::fs,KatTups.cons eo ca da rfl f1,by rw[Zr,Zr,f2],fun v hv=>?_⟩;rcases Zq.mp hv with rfl|hv
     ·exact⟨b,ob,rfl,eob,cb⟩
     ·exact f3 v hv
  obtain⟨fs,t1,t2,t3⟩:=tups as us 0 S.vals (by omega) (fun i v k h1 h2=>S.keys i v k h1 (by rw[Nat.zero_add]at h2;exact h2));refine kat_kind (T:=.type "tuple") t1 (by omega) (fun v hv=>?_) rfl (go _ fun i j C hi hj hC=>?_)
  ·obtain⟨a,o,rfl,ho,hc'⟩:=t3 v hv;rw[<-hc'];exact(Looks.ld ho).andThen .now
  ·obtain⟨v,u,k1,ru,eu,m1,en,at1⟩:=gk i hi;obtain⟨v2,u2,k2,ru2,eu2,m2,en2,at2⟩:=gk j hj;obtain⟨p1,n1,rfl⟩:=hP _ m1;obtain⟨p2,n2,rfl⟩:=hP _ m2;obtain⟨a1,b1,c1,rfl,ha1,hb1,hc1⟩:=at1;obtain⟨a2,b2,c2,rfl,ha2,hb2,hc2⟩:=at2;cases ru;cases ru2;obtain⟨ia,ra,pa,za⟩:=S.I.tuple (SqT.of (K:=X.K) ha1);obtain⟨ib,rb,pb,zb⟩:=S.I.tuple (SqT.of (K:=X.K) ha2);obtain⟨oa,eoa,ca,q1,da⟩:=id pa;obtain⟨ob,eob,cb,q2,db⟩:=id pb;obtain⟨u1,u2,rfl,r1,r2⟩:=lh ra;cases r1;cases r2;obtain⟨u1,u2,rfl,r1,r2⟩:=lh rb;cases r1;cases r2;obtain⟨ix,rx,px,zx⟩:=S.I.tuple (SqT.of (K:=X.K) hb1);obtain⟨iy,ry,py,zy⟩:=S.I.tuple (SqT.of (K:=X.K) hb2);obtain⟨jx,sx,qx,yx⟩:=S.I.tuple (SqT.of (K:=X.K) hc1);obtain⟨jy,sy,qy,yy⟩:=S.I.tuple (SqT.of (K:=X.K) hc2);unfold kas_ask;rw[eu,eu2];rw[en,en2]at hC;have hu0:X.A.in1.in1.units<cLine:=by omega
   exact kat_lt eoa da eob db (pJ (qa S.I hun hb1 hb2) (qa S.I hun hc1 hc2) (fun R hR=>HT.lt_tupInts px py (bI rx) (bI ry) hu0 hR) (fun R hR=>HT.lt_tupInts qx qy (bI sx) (bI sy) hu0 hR) rfl hC)
end
open PySem PySem.Spec PyProof.Rows PySem.W
open PySem PySem.Spec PyProof.Rows PySem.W
open PySem PySem.Spec PyProof.Rows PySem.W
open PySem PySem.Spec PyProof.Rows PySem.W
end L2
set_option maxHeartbeats 4000000
namespace PySem
open Sem (wp)
section
variable{prog:Program}{w:World}{K:Type}[DecidableEq K]{knd:KeyKind prog w K}
structure PairAt(knd:KeyKind prog w K)(h:Heap)(p:Addr×List K×Addr×Value):Prop where
 tup:∃o n,h.get? p.1=some o/\o.cls=.type "tuple"/\o.data=.seq #[.ref p.2.2.1,p.2.2.2] n
 key:IsTupleKey knd h p.2.1 p.2.2.1
variable{A:Around}{R:Result->Shared->Prop}
end
end PySem
namespace L2
open PySem PySem.Spec PyProof.Rows PySem.W
open PySem PySem.Spec PyProof.Rows PySem.W
open PySem PySem.Spec PyProof.Rows PySem.W
open PySem PySem.Spec PyProof.Rows PySem.W
open PySem PySem.Spec PyProof.Rows PySem.W
section
variable{X:Cx}{pins:List (Addr×Obj)}{σ:St}{H:Hp}{s:Shared}
theorem Bm{K:PySem.W.Frag}{e:Expr}{f:Str}{ta:TE}{pos:Pos}(hK:X.K=K)(he:QE X e ta)(hb:attributeBase e f X.env (eval e X.env)=eval e X.env:=by rfl):QE X (.Attribute e f pos) (wJ K ta f):=by subst hK;exact cH he hb
end
open PySem PySem.Spec PyProof.Rows PySem.W
open PySem PySem.Spec PyProof.Rows PySem.W
open PySem PySem.Spec PyProof.Rows PySem.W
open PySem PySem.Spec PyProof.Rows PySem.W
open PySem PySem.Spec PyProof.Rows PySem.W
open PySem PySem.Spec PyProof.Rows PySem.W
open PySem PySem.Spec PyProof.Rows PySem.W
open PySem PySem.Spec PyProof.Rows PySem.W
open PySem PySem.Spec PyProof.Rows PySem.W
section
variable{X:Cx}{pins:List (Addr×Obj)}{σ:St}{H:Hp}{s:Shared}
theorem uP{p:Addr}{kvs:List (List Key×V)}(hc:X.calm=true)(I:Inv X pins σ H s)(hq:Rd H p (.dT kvs)):∃ks,dO H kvs ks/\zG X s p ks:=by
 obtain⟨z,hd,xs,rel,o,es,ep,h1,h2,h3,h4,_,_⟩:=gF I.hok hq;have hsz:es.size=xs.length:=size_of_entries h4;have hkl:kvs.length=xs.length:=ZI rel;refine⟨_,km rel,fun Q h=>?_⟩;refine kdu_collect (qG (es:=es) (ep:=ep) hd) (I.ok.hd hc) ⟨o,h1,h2,h3⟩ (by omega) fun h' tk acc' kp hacc=>h h' tk _ kp ?_;have gen:∀(vs:List Value) (ys:List (List Key×Addr×Value)),vs.length=ys.length->(∀(j:Nat) (v:Value),vs[j]?=some v->∃x:List Key×Addr×Value,ys[j]?=some x/\v=Value.ref x.2.1)->Vals (ys.map fun(x:List Key×Addr×Value)=>V.ref x.2.1) vs:=by
  intro vs;induction vs with
  |nil =>
   intro ys hl _;cases ys with
   |nil=>exact .nil
   |cons _ _=>cases hl
  |cons v vs ih =>
   intro ys hl hv;cases ys with
   |nil=>cases hl
   |cons y ys =>obtain⟨x,e1,e2⟩:=hv 0 v rfl;cases e1;exact .cons e2 (ih ys (by simpa using hl) fun j v' e'=>hv (j+1) v' (by simpa using e'))
 refine gen _ _ (by rw[Zs,hacc.1,hsz]) fun j v e'=>?_;obtain⟨en,e1,e2⟩:=hacc.2 j v (by rw[<-Yx];exact e');rw[entry_at h4]at e1;obtain⟨x,e3,e4⟩:=ZC.mp e1;refine⟨x,e3,?_⟩;rw[e2,<-e4];rfl
end
def BS(sp:Sp)(H:Hp)(xs:List V)(Q:VK):Prop :=
 xs.length<=4096/\∃ks:List ZKey,ks.length=xs.length/\sL ks /\
 (∀(i:Nat) (v:V) (key:ZKey) (H':Hp),xs[i]?=some v->ks[i]?=some key->Same H H'->∀R:VK,(∀kv H'',Same H' H''->key.at H'' kv->R kv H'')->sp [v] H' R E0) /\
 ∀(p:Array Nat) (H2:Hp) (D:Addr),POk xs.length p->LS (fun i j=>HT.lexLt ((ks.map ZKey.nums).getD i []) ((ks.map ZKey.nums).getD j [])) p xs.length->Same H H2->H2 D=none->Q (.ref D) (upd H2 D (.lst (p.toList.map fun i=>xs.getD i .non)))
def zh(P:Addr)(q:Str)(lpos:Pos)(j:Nat)(sp:V->Sp)(ta:TA):TE:=fun σ H0 Q=>ta σ H0 fun vs H=>∃(l:Addr) (kvs:List (List Key×V)) (kv:V),vs=[.ref l]/\σ[j]?=some (some kv)/\H l=some (.dT kvs)/\aP q P lpos H/\∀ks H2,SameT P H H2->aP q P lpos H2->dO H2 kvs ks->BS (sp kv) H2 ks Q
section
variable{X:Cx}{c P:Addr}{pins:List (Addr×Obj)}{σ:St}
theorem wx{k j:Nat}{x y:Str}{cy:Addr}{sp:V->Sp}{e body:Expr}{params:Arguments}{scope:Scope}{ta:TA}{p lpos kpos pos:Pos}(hc:X.calm=true)(hm:X.mg "sorted" = none)(hcode:X.env.code=.ref c)(C:CodeHd X.base c P)(B:Blt X.base X.mg)(F:LamOkX X.prog X.w X.K X.mg X.base k (X.env.qual++"<lambda>") body scope x y sp)(hr:Room (k+3) X.A)(ha:QA X [e] ta)(hj:X.N[j]?=some y)(hyc:X.env.scope.names.lookup y=some .cell)(hcy:X.env.cells.lookup y=some cy)(hcl:closureFor scope X.env=pure [(y,cy)])(hbd:∀(pm ct:Value) (c':Addr) (s:Shared) (u:Value),BindsTo s (rJ (X.env.qual++"<lambda>") params body scope [(y,cy)] pm c' ct) ⟨[u],[]⟩ [(x,u)]:=by intros;exact .of_eq rfl)(hge:X.env.globals=mainGlobals:=by rfl)(hdef:defaultsOf params X.env=([],[]):=by rfl)(hg:Gl X "sorted":=by rfl)(hn:aF e=true:=by rfl) :
  QE X (.Call (.Name "sorted" p) [e] [⟨some "key",.Lambda params body scope lpos,kpos⟩] pos) (zh P (X.env.qual++"<lambda>") lpos j sp ta):=by
 refine⟨?_⟩;intro pins s σ H0 Q I h;refine wpAny_Call_Name_kw (fb I hg hm PyProof.Rows.boot_sorted ?_);have h1:=aG (es:=[]) (env:=X.env) hn;refine PyProof.Rows.callWith_kw (thn (ha.h pos pins s σ H0 _ I h) fun us s1 hz9=>?_) (he:=by rw[h1];rfl) (hplain:=by rw[h1];rfl) (hall:=rfl) (hkw:=rfl);obtain⟨vs,H1,I1,r1,q1⟩:=hz9;obtain⟨l,kvs,kv,rfl,hσ,hH,tab,q⟩:=q1;obtain⟨u,rfl,ru⟩:=eI r1;cases ru;have hk:PK X [⟨some "key",.Lambda params body scope lpos,kpos⟩] (fL (sF [(y,cy)] X P params body scope lpos) fz):=yJ (yF hcode hge C B hdef hcl) Ba;refine thn (hk pos pins s1 σ H1 (fun zs H2=>∃f,zs=[.ref f]/\pN X P (X.env.qual++"<lambda>") lpos params body scope [(y,cy)] H1 f H2) I1 (vI tab fun f H2 mk=>⟨f,rfl,mk⟩)) fun ws s2 hz9=>?_;obtain⟨zs,H2,I2,rz,f,e1,mk⟩:=hz9;subst e1;obtain⟨u,rfl,ru⟩:=eI rz;cases ru;obtain⟨c',ct,sT,lt,hf,hc',nf,nc⟩:=mk;have hr2:Room (k+1) X.A.in1.in1:=(hr.mono (by omega) |>.in1 |>.in1)
 have F1:=vJ (X:=X) (pins:=pins) (σ:=σ) (sp:=sp kv) (params:=params) (f:=f) (c:=cy) (c':=c') (pm:=(X.mg "__name__").getD .none) (ct:=ct) F.sc hj hσ hyc hcy hr2 (hbd _ _ _) fun A outer s H v Q hr' hs=>let⟨t,t1,t2⟩:=F.ex f c' cy kv A outer s H v Q hr' hs;⟨t,t1.h,t2⟩
 obtain⟨ps0,tP,_⟩:=id tab;have hlP:l≠P:=fun z=>by rw[z,tP]at hH;cases hH
 have hH2:=sT _ _ hH hlP;obtain⟨ks,kat,src⟩:=uP hc I2 (Rd.of hH2);obtain⟨hz,zs,hl,hal,spec,q⟩:=q ks H2 sT lt kat;exact pM (b:=false) I2 src hz hl (.inr ⟨hal,hr2.units⟩) (ksk_s1 _ _) (fun x=>ksk_l1 _ _) (fun x=>ksk_t1 f x) F1 (fun i v key H' g1 g2 g3 R hR=>⟨g3 _ _ hf,g3 _ _ hc',spec i v key H' g1 g2 g3 R hR⟩) q
end
open PySem PySem.Spec PyProof.Rows PySem.W
section
variable{prog:Program}{w:World}{A:Around}{E:Value->Shared->Prop}{s:Shared}
theorem sK{α:Type}{M:Model}{c:Prop}[Decidable c]{x y:Sem α}{Q:α->Shared->Prop}(h1:c->wpAny M A x Q E s)(h2:¬c->wpAny M A y Q E s):wpAny M A (if c then x else y) Q E s:=by
 by_cases h:c
 ·rw[if_pos h];exact h1 h
 ·rw[if_neg h];exact h2 h
def bz(prog:Program)(w:World):Option (List Key)->Int
 |none=>0xFCA86420
 |some k=>(tupleKind (aM prog w)).hash k
def OIs(prog:Program)(w:World)(h:Heap):Option (List Key)->Value->Prop
 |none,v=>v=.none
 |some k,v=>∃a,v=.ref a/\(tupleKind (aM prog w)).is h k a
theorem mH{k:Option (List Key)}{v:Value}{Q:Int->Shared->Prop}(hu2:A.units<cLine)(h:OIs prog w s.heap k v)(q:∀tk,Q (bz prog w k) { s with toks:=tk }):wpAny (model prog w) A (pyHash v) Q E s:=by
 cases k with
 |none =>rw[show v=.none from h];exact pyHash_slot (T:="NoneType") rfl F.slot_NoneType_hash F.entry_NoneType_hash (F.args_NoneType_hash_1 _) (beq_builtin_none _) (.inr hu2) (z6 (z9 (z6 (wpAny_mkInt (z9 ⟨_,_,rfl,q _⟩)))))
 |some k =>obtain⟨a,rfl,h⟩:=h;exact(tupleKind (aM prog w)).pyHash hu2 h (q _)
theorem OIs.tup{k:List Key}{a:Addr}{h:Heap}(x:(tupleKind (aM prog w)).is h k a):∃vs,h.IsTuple a vs:=by obtain⟨o,items,n,h1,h2,h3,_⟩:=x;exact⟨items,o,h1,h2,n,h3⟩
theorem fV{x y:Option (List Key)}{u v:Value}{Q:Bool->Shared->Prop}(hu2:A.units<cLine)(h1:OIs prog w s.heap x u)(h2:OIs prog w s.heap y v)(q:Q (decide (x=y)) s):wpAny (model prog w) A (eqBool u v) Q E s:=by
 cases x with
 |none =>
  rw[show u=.none from h1];cases y with
  |none =>rw[show v=.none from h2];exact SeqAt.EqAt.same _ _ _ _ _ q
  |some k =>obtain⟨b,rfl,h2⟩:=h2;obtain⟨vs,ht⟩:=OIs.tup h2;exact SeqAt.EqAt.none_tuple ht hu2 _ _ _ _ q
 |some k =>
  obtain⟨a,rfl,h1⟩:=h1;cases y with
  |none =>rw[show v=.none from h2];obtain⟨vs,ht⟩:=OIs.tup h1;exact SeqAt.EqAt.tuple_none ht hu2 _ _ _ _ q
  |some l =>obtain⟨b,rfl,h2⟩:=h2;refine(tupleKind (aM prog w)).eqBool hu2 h1 h2 ?_;rw[show decide (k=l)=decide (some k=some l) by rw[decide_eq_decide];simp];exact q
theorem OIs.inj{h:Heap}{x y:Option (List Key)}{a:Addr}(h1:OIs prog w h x (.ref a))(h2:OIs prog w h y (.ref a)):x=y:=by
 cases x with
 |none=>cases h1
 |some k =>
  cases y with
  |none=>cases h2
  |some l =>obtain⟨b,e,h1⟩:=h1;cases e;obtain⟨b,e,h2⟩:=h2;cases e;rw[(tupleKind (aM prog w)).inj h1 h2]
theorem ud{k:Option (List Key)}{v:Value}{Q:Bool->Shared->Prop}(h:OIs prog w s.heap k v)(q:Q true s):wpAny (model prog w) A (eqIsQuiet 8 v) Q E s:=by
 cases k with
 |none =>rw[show v=.none from h];exact z9 q
 |some k =>obtain⟨a,rfl,h⟩:=h;exact(tupleKind (aM prog w)).quiet h q
theorem ue{key:Value}{k:Option (List Key)}{stored:List Value}{Q:Bool->Shared->Prop}(hkey:OIs prog w s.heap k key)(hst:∀v∈stored,∃k',OIs prog w s.heap k' v)(q:Q false s):wpAny (model prog w) A (tableMayTell key stored) Q E s:=by
 unfold tableMayTell;by_cases he:stored.isEmpty=true
 ·rw[if_pos he];exact z9 q
 ·rw[if_neg he];refine z6 (ud hkey ?_);rw[if_neg (by simp)];refine z6 (YF _ (fun rest b s'=>s'=s/\b=(none,())/\∀v∈rest,∃k',OIs prog w s.heap k' v) _ (fun x rest b s' h=>?_) (fun b s' h=>?_) _ _ ⟨rfl,rfl,hst⟩)
  ·obtain⟨rfl,rfl,hr⟩:=h;obtain⟨k',hk'⟩:=hr x Zo;refine z6 (ud hk' ?_);rw[if_neg (by simp)];exact z9 ⟨rfl,rfl,fun v hv=>hr v (Zh _ hv)⟩
  ·obtain⟨rfl,rfl,_⟩:=h;exact z9 q
abbrev bh:=Option (List Key)×Value×Value
def cP(prog:Program)(w:World)(x:bh):DictEntry:=⟨bz prog w x.1,x.2.1,x.2.2⟩
structure ODict(prog:Program)(w:World)(h:Heap)(d:Addr)(o:Obj)(es:Array DictEntry)(ep:Nat)(xs:List bh):Prop where
 ho:h.get? d=some o
 hd:o.data=.dict es ep
 he:es.toList=xs.map (cP prog w)
 his:∀x∈xs,OIs prog w h x.1 x.2.1
 hn:(xs.map (·.1)).Nodup
theorem ODict.at{d:Addr}{o:Obj}{es:Array DictEntry}{ep:Nat}{xs:List bh}{h:Heap}(D:ODict prog w h d o es ep xs)(j:Nat):es[j]?=(xs[j]?).map (cP prog w):=by rw[<-Yx,D.he,ZA]
theorem ODict.one{d:Addr}{o:Obj}{es:Array DictEntry}{ep:Nat}{xs:List bh}{h:Heap}(D:ODict prog w h d o es ep xs){i j:Nat}{x y:bh}(hx:xs[i]?=some x)(hy:xs[j]?=some y)(e:x.1=y.1):i=j:=by
 have h1:(xs.map (·.1))[i]?=some x.1:=by rw[ZA,hx];rfl
 have h2:(xs.map (·.1))[j]?=some x.1:=by rw[ZA,hy,e];rfl
 exact(List.getElem?_inj (Zt.mp h1).1 D.hn).mp (h1.trans h2.symm)
def oPl(es:Array DictEntry)(h:Int):List Nat:=placesWithHash es.size (fun i=>es[i]?.map (·.hash)) h
theorem kI(es:Array DictEntry)(h:Int):(oPl es h).Nodup:=List.Pairwise.filter _ List.nodup_range
theorem ODict.pl{d:Addr}{o:Obj}{es:Array DictEntry}{ep:Nat}{xs:List bh}{h:Heap}(D:ODict prog w h d o es ep xs){k:Option (List Key)}{j:Nat}{x:bh}(hx:xs[j]?=some x)(e:x.1=k):j∈oPl es (bz prog w k):=by
 have hj:es[j]?=some (cP prog w x):=by rw[D.at,hx];rfl
 refine Yi.mpr ⟨List.mem_range.mpr (Ys.mp hj).1,?_⟩;dsimp only;rw[hj];simp[cP,e]
theorem ODict.of_pl{d:Addr}{o:Obj}{es:Array DictEntry}{ep:Nat}{xs:List bh}{h:Heap}(D:ODict prog w h d o es ep xs){z:Int}{j:Nat}(hj:j∈oPl es z):∃x,xs[j]?=some x/\es[j]?=some (cP prog w x)/\bz prog w x.1=z:=by
 obtain⟨h1,h2⟩:=Yi.mp hj;have hl:=List.mem_range.mp h1;have e:=D.at j;rw[Yj hl]at e;obtain⟨x,hx,hx2⟩:=ZC.mp e.symm;have e2:es[j]?=some (cP prog w x):=by rw[Yj hl,hx2]
 refine⟨x,hx,e2,?_⟩;dsimp only at h2;rw[e2]at h2;simpa[cP]using h2
theorem om{d:Addr}{o:Obj}{es:Array DictEntry}{ep:Nat}{xs:List bh}{k:Option (List Key)}{key:Value}{Q:Option Nat->Shared->Prop}(hu:A.units<cLine)(hkey:OIs prog w s.heap k key)(D:ODict prog w s.heap d o es ep xs)(hnone:(∀(j:Nat) (x:bh),xs[j]?=some x->x.1≠k)->Q none s)(hsome:∀(j:Nat) (x:bh),xs[j]?=some x->x.1=k->Q (some j) s):wpAny (model prog w) A (dictFind d key (bz prog w k)) Q E s:=by
 have hst:∀v∈(oPl es (bz prog w k)).filterMap (fun i=>es[i]?.map (·.key)),∃k',OIs prog w s.heap k' v:=fun v hv=>by obtain⟨i,hi,e⟩:=Ym.mp hv;obtain⟨x,h1,h2,_⟩:=D.of_pl hi;rw[h2]at e;cases e;exact⟨x.1,D.his x (ZZ h1)⟩
 have plain:wpAny (model prog w) A (dictWalkPlain d key (bz prog w k) es (oPl es (bz prog w k))) Q E s:=by
  unfold dictWalkPlain;refine z6 (YF _ (fun rest b s'=>s'=s/\b=(none,())/\(∀i∈rest,i∈oPl es (bz prog w k))/\∀(j:Nat) (x:bh),xs[j]?=some x->x.1=k->j∈rest) _ (fun i rest b s' h=>?_) (fun b s' h=>?_) _ _ ⟨rfl,rfl,fun _ z=>z,fun j x h1 h2=>D.pl h1 h2⟩)
  ·obtain⟨rfl,rfl,sub,all⟩:=h;obtain⟨x,h1,h2,h3⟩:=D.of_pl (sub i Zo);rw[h2];dsimp only;rw[if_pos (by simp[cP,h3])];refine z6 (Z3 D.ho D.hd (z6 (fV hu (D.his x (ZZ h1)) hkey (z6 (Z3 D.ho D.hd ?_)))));rw[if_neg (by simp)];by_cases e:x.1=k
   ·rw[decide_eq_true e,if_pos rfl];exact z6 (ZT (z9 (z9 (hsome i x h1 e))))
   ·rw[decide_eq_false e,if_neg (by simp)];refine z6 (ZT (z9 ⟨rfl,rfl,fun i hi=>sub i (Zh _ hi),fun j y g1 g2=>(Zq.mp (all j y g1 g2)).resolve_left fun z=>e ?_⟩));subst z;rw[h1]at g1;cases g1;exact g2
  ·obtain⟨rfl,rfl,sub,all⟩:=h;refine z9 (hnone fun j x h1 h2=>?_);exact absurd (all j x h1 h2) (by simp)
 unfold dictFind;refine Yc ?_;refine z6 (YA D.ho D.hd ?_);have shape:key=.none\/∃a,key=.ref a:=by
  cases k with
  |none=>exact .inl hkey
  |some kk=>obtain⟨a,e,_⟩:=hkey;exact .inr ⟨a,e⟩
 rcases shape with rfl|⟨a,rfl⟩
 ·dsimp only;refine sK (fun _=>?_) (fun _=>?_)
  ·exact plain
  ·refine sK (fun _=>?_) (fun _=>?_)
   ·refine z6 (z9 ?_);rw[if_neg (by simp)];refine z6 (YF _ (fun rest b s'=>s'=s/\rest.Nodup/\(∀i∈rest,i∈oPl es (bz prog w k))/\∃hit,b=(none,hit)/\((hit=none/\∀(j:Nat) (x:bh),xs[j]?=some x->x.1=k->j∈rest)\/∃(j:Nat) (x:bh),hit=some j/\xs[j]?=some x/\x.1=k/\j∉rest)) _ (fun i rest b s' h=>?_) (fun b s' h=>?_) _ _ ⟨rfl,kI _ _,fun _ z=>z,none,rfl,.inl ⟨rfl,fun j x h1 h2=>D.pl h1 h2⟩⟩)
    ·obtain⟨rfl,nd,sub,hit,rfl,hh⟩:=h;obtain⟨x,h1,h2,h3⟩:=D.of_pl (sub i Zo);have nd':=(ZR.mp nd).2;have ni:=(ZR.mp nd).1;have sub':∀i∈rest,i∈oPl es (bz prog w k):=fun i hi=>sub i (Zh _ hi);rw[h2];dsimp only;rw[if_pos (by simp[cP,h3])];refine z6 (Z3 D.ho D.hd (z6 (fV hu (D.his x (ZZ h1)) hkey (z6 (Z3 D.ho D.hd ?_)))));rw[if_neg (by simp)];by_cases e:x.1=k
     ·rw[decide_eq_true e,if_pos rfl];rcases hh with⟨rfl,all⟩|⟨j,y,rfl,g1,g2,g3⟩
      ·rw[if_neg (by simp)];refine z6 (ZT ?_);split
       ·exact z9 (z9 (hsome i x h1 e))
       ·exact z9 ⟨rfl,nd',sub',some i,rfl,.inr ⟨i,x,rfl,h1,e,ni⟩⟩
      ·exact absurd (D.one g1 h1 (g2.trans e.symm)) fun z=>g3 (by rw[z];exact Zo)
     ·rw[decide_eq_false e,if_neg (by simp)];refine z6 (ZT ?_);rw[if_neg (by simp)];refine z9 ⟨rfl,nd',sub',hit,rfl,?_⟩;rcases hh with⟨rfl,all⟩|⟨j,y,rfl,g1,g2,g3⟩
      ·refine .inl ⟨rfl,fun j y g1 g2=>(Zq.mp (all j y g1 g2)).resolve_left fun z=>e ?_⟩;subst z;rw[h1]at g1;cases g1;exact g2
      ·exact .inr ⟨j,y,rfl,g1,g2,fun z=>g3 (Zh _ z)⟩
    ·obtain⟨rfl,_,_,hit,rfl,hh⟩:=h;rcases hh with⟨rfl,all⟩|⟨j,y,rfl,g1,g2,_⟩
     ·exact z9 (hnone fun j x h1 h2=>absurd (all j x h1 h2) (by simp))
     ·exact z9 (hsome j y g1 g2)
   ·refine z6 (ue hkey hst ?_);rw[if_neg (by simp)];refine z6 (YF _ (fun rest b s'=>s'=s/\rest.Nodup/\(∀i∈rest,i∈oPl es (bz prog w k))/\∃hit,b=(none,hit)/\((hit=none/\∀(j:Nat) (x:bh),xs[j]?=some x->x.1=k->j∈rest)\/∃(j:Nat) (x:bh),hit=some j/\xs[j]?=some x/\x.1=k/\j∉rest)) _ (fun i rest b s' h=>?_) (fun b s' h=>?_) _ _ ⟨rfl,kI _ _,fun _ z=>z,none,rfl,.inl ⟨rfl,fun j x h1 h2=>D.pl h1 h2⟩⟩)
    ·obtain⟨rfl,nd,sub,hit,rfl,hh⟩:=h;obtain⟨x,h1,h2,h3⟩:=D.of_pl (sub i Zo);have nd':=(ZR.mp nd).2;have ni:=(ZR.mp nd).1;have sub':∀i∈rest,i∈oPl es (bz prog w k):=fun i hi=>sub i (Zh _ hi);rw[h2];dsimp only;rw[if_pos (by simp[cP,h3])];refine z6 (Z3 D.ho D.hd (z6 (fV hu (D.his x (ZZ h1)) hkey (z6 (Z3 D.ho D.hd ?_)))));rw[if_neg (by simp)];by_cases e:x.1=k
     ·rw[decide_eq_true e,if_pos rfl];rcases hh with⟨rfl,all⟩|⟨j,y,rfl,g1,g2,g3⟩
      ·rw[if_neg (by simp)];refine z6 (ZT ?_);split
       ·exact z9 (z9 (hsome i x h1 e))
       ·exact z9 ⟨rfl,nd',sub',some i,rfl,.inr ⟨i,x,rfl,h1,e,ni⟩⟩
      ·exact absurd (D.one g1 h1 (g2.trans e.symm)) fun z=>g3 (by rw[z];exact Zo)
     ·rw[decide_eq_false e,if_neg (by simp)];refine z6 (ZT ?_);rw[if_neg (by simp)];refine z9 ⟨rfl,nd',sub',hit,rfl,?_⟩;rcases hh with⟨rfl,all⟩|⟨j,y,rfl,g1,g2,g3⟩
      ·refine .inl ⟨rfl,fun j y g1 g2=>(Zq.mp (all j y g1 g2)).resolve_left fun z=>e ?_⟩;subst z;rw[h1]at g1;cases g1;exact g2
      ·exact .inr ⟨j,y,rfl,g1,g2,fun z=>g3 (Zh _ z)⟩
    ·obtain⟨rfl,_,_,hit,rfl,hh⟩:=h;rcases hh with⟨rfl,all⟩|⟨j,y,rfl,g1,g2,_⟩
     ·exact z9 (hnone fun j x h1 h2=>absurd (all j x h1 h2) (by simp))
     ·exact z9 (hsome j y g1 g2)
 ·dsimp only;rw[if_neg (by simp[carriedByValue]),if_neg (fun z=>?_)]
  ·refine sK (fun _=>?_) (fun _=>?_)
   ·refine z6 (z9 ?_);rw[if_neg (by simp)];refine z6 (YF _ (fun rest b s'=>s'=s/\rest.Nodup/\(∀i∈rest,i∈oPl es (bz prog w k))/\∃hit,b=(none,hit)/\((hit=none/\∀(j:Nat) (x:bh),xs[j]?=some x->x.1=k->j∈rest)\/∃(j:Nat) (x:bh),hit=some j/\xs[j]?=some x/\x.1=k/\j∉rest)) _ (fun i rest b s' h=>?_) (fun b s' h=>?_) _ _ ⟨rfl,kI _ _,fun _ z=>z,none,rfl,.inl ⟨rfl,fun j x h1 h2=>D.pl h1 h2⟩⟩)
    ·obtain⟨rfl,nd,sub,hit,rfl,hh⟩:=h;obtain⟨x,h1,h2,h3⟩:=D.of_pl (sub i Zo);have nd':=(ZR.mp nd).2;have ni:=(ZR.mp nd).1;have sub':∀i∈rest,i∈oPl es (bz prog w k):=fun i hi=>sub i (Zh _ hi);rw[h2];dsimp only;rw[if_pos (by simp[cP,h3])];refine z6 (Z3 D.ho D.hd (z6 (fV hu (D.his x (ZZ h1)) hkey (z6 (Z3 D.ho D.hd ?_)))));rw[if_neg (by simp)];by_cases e:x.1=k
     ·rw[decide_eq_true e,if_pos rfl];rcases hh with⟨rfl,all⟩|⟨j,y,rfl,g1,g2,g3⟩
      ·rw[if_neg (by simp)];refine z6 (ZT ?_);split
       ·exact z9 (z9 (hsome i x h1 e))
       ·exact z9 ⟨rfl,nd',sub',some i,rfl,.inr ⟨i,x,rfl,h1,e,ni⟩⟩
      ·exact absurd (D.one g1 h1 (g2.trans e.symm)) fun z=>g3 (by rw[z];exact Zo)
     ·rw[decide_eq_false e,if_neg (by simp)];refine z6 (ZT ?_);rw[if_neg (by simp)];refine z9 ⟨rfl,nd',sub',hit,rfl,?_⟩;rcases hh with⟨rfl,all⟩|⟨j,y,rfl,g1,g2,g3⟩
      ·refine .inl ⟨rfl,fun j y g1 g2=>(Zq.mp (all j y g1 g2)).resolve_left fun z=>e ?_⟩;subst z;rw[h1]at g1;cases g1;exact g2
      ·exact .inr ⟨j,y,rfl,g1,g2,fun z=>g3 (Zh _ z)⟩
    ·obtain⟨rfl,_,_,hit,rfl,hh⟩:=h;rcases hh with⟨rfl,all⟩|⟨j,y,rfl,g1,g2,_⟩
     ·exact z9 (hnone fun j x h1 h2=>absurd (all j x h1 h2) (by simp))
     ·exact z9 (hsome j y g1 g2)
   ·refine z6 (ue hkey hst ?_);rw[if_neg (by simp)];refine z6 (YF _ (fun rest b s'=>s'=s/\rest.Nodup/\(∀i∈rest,i∈oPl es (bz prog w k))/\∃hit,b=(none,hit)/\((hit=none/\∀(j:Nat) (x:bh),xs[j]?=some x->x.1=k->j∈rest)\/∃(j:Nat) (x:bh),hit=some j/\xs[j]?=some x/\x.1=k/\j∉rest)) _ (fun i rest b s' h=>?_) (fun b s' h=>?_) _ _ ⟨rfl,kI _ _,fun _ z=>z,none,rfl,.inl ⟨rfl,fun j x h1 h2=>D.pl h1 h2⟩⟩)
    ·obtain⟨rfl,nd,sub,hit,rfl,hh⟩:=h;obtain⟨x,h1,h2,h3⟩:=D.of_pl (sub i Zo);have nd':=(ZR.mp nd).2;have ni:=(ZR.mp nd).1;have sub':∀i∈rest,i∈oPl es (bz prog w k):=fun i hi=>sub i (Zh _ hi);rw[h2];dsimp only;rw[if_pos (by simp[cP,h3])];refine z6 (Z3 D.ho D.hd (z6 (fV hu (D.his x (ZZ h1)) hkey (z6 (Z3 D.ho D.hd ?_)))));rw[if_neg (by simp)];by_cases e:x.1=k
     ·rw[decide_eq_true e,if_pos rfl];rcases hh with⟨rfl,all⟩|⟨j,y,rfl,g1,g2,g3⟩
      ·rw[if_neg (by simp)];refine z6 (ZT ?_);split
       ·exact z9 (z9 (hsome i x h1 e))
       ·exact z9 ⟨rfl,nd',sub',some i,rfl,.inr ⟨i,x,rfl,h1,e,ni⟩⟩
      ·exact absurd (D.one g1 h1 (g2.trans e.symm)) fun z=>g3 (by rw[z];exact Zo)
     ·rw[decide_eq_false e,if_neg (by simp)];refine z6 (ZT ?_);rw[if_neg (by simp)];refine z9 ⟨rfl,nd',sub',hit,rfl,?_⟩;rcases hh with⟨rfl,all⟩|⟨j,y,rfl,g1,g2,g3⟩
      ·refine .inl ⟨rfl,fun j y g1 g2=>(Zq.mp (all j y g1 g2)).resolve_left fun z=>e ?_⟩;subst z;rw[h1]at g1;cases g1;exact g2
      ·exact .inr ⟨j,y,rfl,g1,g2,fun z=>g3 (Zh _ z)⟩
    ·obtain⟨rfl,_,_,hit,rfl,hh⟩:=h;rcases hh with⟨rfl,all⟩|⟨j,y,rfl,g1,g2,_⟩
     ·exact z9 (hnone fun j x h1 h2=>absurd (all j x h1 h2) (by simp))
     ·exact z9 (hsome j y g1 g2)
  ·rw[<-Array.any_toList,List.any_eq_true]at z;obtain⟨e,he,hc⟩:=z;rw[D.he]at he;obtain⟨x,hx,rfl⟩:=y3.mp he;simp only[cP,Zz,ZP,bne_iff_ne,ne_eq]at hc;have h1:=D.his x hx;rw[hc.1]at h1;exact hc.2 (by rw[OIs.inj h1 hkey])
end
open PySem PySem.Spec PyProof.Rows PySem.W
section
variable{prog:Program}{w:World}{A:Around}{E:Value->Shared->Prop}{s:Shared}
theorem sB{d:Addr}{o:Obj}{es:Array DictEntry}{ep:Nat}{xs:List bh}{k:Option (List Key)}{key v:Value}{Q:Value->Shared->Prop}(hu:A.units<cLine)(hkey:OIs prog w s.heap k key)(D:ODict prog w s.heap d o es ep xs)(hc:o.ExactDict)(hz:es.size<=sizeLine)(hold:∀(j:Nat) (x:bh) (tk:Nat),xs[j]?=some x->x.1=k->Q x.2.2 { s with toks:=tk })(hnew:(∀(j:Nat) (x:bh),xs[j]?=some x->x.1≠k)->∀(h':Heap) (tk:Nat) (o':Obj) (es':Array DictEntry) (ep':Nat),h'.get? d=some o'->o'.ExactDict->o'.data=.dict es' ep'->es'.toList=es.toList++[⟨bz prog w k,key,v⟩]->Heap.SameBut d s.heap h'->Q v { s with heap:=h',toks:=tk }) :
  wpAny (model prog w) A (dictSetDefault d key v) Q E s:=by
 unfold dictSetDefault;refine Yc ?_;refine z6 (mH hu hkey fun tk=>?_);have D':ODict prog w ({ s with toks:=tk }:Shared).heap d o es ep xs:=D;refine z6 (om (s:={ s with toks:=tk }) hu hkey D' (fun hno=>?_) (fun j x h1 h2=>?_))
 ·refine z6 (ZT (z6 (wpAny_updateDictKeys (hz:=hz) (s:={ s with toks:=tk }) D.ho D.hd (z9 (hnew hno _ tk _ _ (ep+1) (Yl _ D.ho (Obj.isFreed_of_dict (Obj.data_mapDictKeys D.hd _))) (hc.mapDictKeys _) (Obj.data_mapDictKeys D.hd _) ?_ (Z0 ..))))));simp
 ·refine z6 (YA (s:={ s with toks:=tk }) D.ho D.hd ?_);rw[D.at j,h1];exact z6 (ZT (z9 (hold j x tk h1 h2)))
theorem yb{d:Addr}{o:Obj}{es:Array DictEntry}{ep:Nat}{xs:List bh}{k:Option (List Key)}{key:Value}{Q:Option Value->Shared->Prop}(hu:A.units<cLine)(hkey:OIs prog w s.heap k key)(D:ODict prog w s.heap d o es ep xs)(hold:∀(j:Nat) (x:bh) (tk:Nat),xs[j]?=some x->x.1=k->Q (some x.2.2) { s with toks:=tk })(hnew:(∀(j:Nat) (x:bh),xs[j]?=some x->x.1≠k)->∀tk:Nat,Q none { s with toks:=tk }) :
  wpAny (model prog w) A (dictGet d key) Q E s:=by
 unfold dictGet;refine Yc ?_;refine z6 (mH hu hkey fun tk=>?_);have D':ODict prog w ({ s with toks:=tk }:Shared).heap d o es ep xs:=D;refine z6 (om (s:={ s with toks:=tk }) hu hkey D' (fun hno=>z9 (hnew hno tk)) (fun j x h1 h2=>?_));refine z6 (YA (s:={ s with toks:=tk }) D.ho D.hd ?_);rw[D.at j,h1];exact z9 (hold j x tk h1 h2)
end
abbrev OK1:=Option (List Key×Addr)
def okD:OK1->Option (List Key)
 |none=>none
 |some p=>some p.1
def okV:OK1->Value
 |none=>.none
 |some p=>.ref p.2
def oE(e:OK1×Addr):bh:=(okD e.1,okV e.1,.ref e.2)
def odO(P:Program)(w:World)(d:Addr)(kls:List (OK1×Addr)):HO:=.ext fun h=>(d==sysModules)=false/\∃(o:Obj) (es:Array DictEntry) (ep:Nat),h.get? d=some o/\o.ExactDict/\o.data=.dict es ep/\es.toList=(kls.map oE).map (cP P w)
theorem uh{P:Program}{w:World}{H:Hp}{h:Heap}{d:Addr}{kls:List (OK1×Addr)}{o:Obj}{es:Array DictEntry}{ep:Nat}(hd:(d==sysModules)=false)(h1:h.get? d=some o)(h2:o.ExactDict)(h3:o.data=.dict es ep)(h4:es.toList=(kls.map oE).map (cP P w)):ObjOk P w H h d (odO P w d kls) :=
 ⟨⟨hd,o,es,ep,h1,h2,h3,h4⟩,⟨o,h1⟩,fun _ _ ⟨a,o,es,ep,b,c⟩ k=>⟨a,o,es,ep,k _ b,c⟩⟩
def lm(H:Hp)(y:V):OK1->Prop
 |none=>y=.non
 |some p=>y=.ref p.2/\H p.2=some (.tup (p.1.map kV))
def aW(kls:List (OK1×Addr))(k:Option (List Key)):Option Addr:=(kls.find? fun e=>decide (okD e.1=k)).map (·.2)
structure OdAt(P:Program)(w:World)(H:Hp)(d:Addr)(kls:List (OK1×Addr)):Prop where
 ob:H d=some (odO P w d kls)
 ks:∀e∈kls,∀p,e.1=some p->H p.2=some (.tup (p.1.map kV))
 nd:(kls.map fun e=>okD e.1).Nodup
theorem mI{kls:List (OK1×Addr)}(nd:(kls.map fun e=>okD e.1).Nodup){j:Nat}{e:OK1×Addr}(h:kls[j]?=some e):aW kls (okD e.1)=some e.2:=by
 unfold aW;induction kls generalizing j with
 |nil=>simp at h
 |cons x r ih =>
  rw[Zx,ZR]at nd;cases j with
  |zero =>cases h;rw[YM (by simp)];rfl
  |succ j =>
   have h:r[j]?=some e:=h;rw[List.find?_cons_of_neg (by
    simp only[decide_eq_true_eq];intro z;exact nd.1 (z▸List.mem_map_of_mem (ZZ h)))]
   exact ih nd.2 h
theorem kE{kls:List (OK1×Addr)}{k:Option (List Key)}(h:∀e∈kls,okD e.1≠k):aW kls k=none:=by unfold aW;rw[List.find?_eq_none.mpr (fun e he=>by simp only[decide_eq_true_eq];exact h e he)];rfl
section
variable{X:Cx}{pins:List (Addr×Obj)}{σ:St}{H:Hp}{s:Shared}
theorem qw{y:V}{e:OK1}{u:Value}(I:Inv X pins σ H s)(h:lm H y e)(r:RelV y u):OIs X.prog X.w s.heap (okD e) u/\u=okV e:=by
 cases e with
 |none =>rw[show y=.non from h]at r;cases(show u=Value.none from r);exact⟨rfl,rfl⟩
 |some p =>obtain⟨rfl,h⟩:=h;cases(show u=Value.ref p.2 from r);exact⟨⟨p.2,rfl,eW I.hok h⟩,rfl⟩
theorem xo{d:Addr}{kls:List (OK1×Addr)}(I:Inv X pins σ H s)(h:OdAt X.prog X.w H d kls):(d==sysModules)=false/\∃(o:Obj) (es:Array DictEntry) (ep:Nat),o.ExactDict/\ODict X.prog X.w s.heap d o es ep (kls.map oE):=by
 obtain⟨hd,o,es,ep,h1,h2,h3,h4⟩:=(I.hok d _ h.ob).1;refine⟨hd,o,es,ep,h2,h1,h3,h4,fun x hx=>?_,?_⟩
 ·obtain⟨e,he,rfl⟩:=y3.mp hx;cases ek:e.1 with
  |none =>show OIs _ _ _ (okD e.1) (okV e.1);rw[ek];exact rfl
  |some p =>show OIs _ _ _ (okD e.1) (okV e.1);rw[ek];exact⟨p.2,rfl,eW I.hok (h.ks e he p ek)⟩
 ·rw[List.map_map];exact h.nd
end
def vk(P:Program)(w:World)(H:Hp)(a:Addr):Prop:=∃kls,H a=some (odO P w a kls)
def CT(P:Program)(w:World):TE:=fun _ H Q=>∀p,H p=none->Q (.ref p) (upd H p (odO P w p []))
def CU(P:Program)(w:World)(td ty tx:TE):TE:=fun σ H Q=>td σ H fun x H1=>∃a,x=.ref a/\vk P w H1 a/\ty σ H1 fun y H2=>tx σ H2 fun z H3=>∃kls e l0,OdAt P w H3 a kls/\lm H3 y e/\z=.ref l0/\kls.length<4096 /\
 (∀l,aW kls (okD e)=some l->Q (.ref l) H3)/\(aW kls (okD e)=none->Q (.ref l0) (upd H3 a (odO P w a (kls++[(e,l0)]))))
def CS(P:Program)(w:World)(td ty tx:TE):TE:=fun σ H Q=>td σ H fun x H1=>∃a,x=.ref a/\vk P w H1 a/\ty σ H1 fun y H2=>tx σ H2 fun z H3=>∃kls e,OdAt P w H3 a kls/\lm H3 y e/\kls.length<4096 /\
 (∀l,aW kls (okD e)=some l->Q (.ref l) H3)/\(aW kls (okD e)=none->Q z H3)
section
variable{X:Cx}{o e f:Expr}{apos cpos:Pos}{td ty tx:TE}
theorem CJ{pos:Pos}:QE X (.Dict [] [] pos) (CT X.prog X.w):=⟨fun pins s σ H Q I h =>
 wpAny_Dict_empty ⟨.ref s.heap.objs.size,_,I.laid (a:=s.heap.objs.size) (o:=odO X.prog X.w s.heap.objs.size []) (t':=s.toks) (fun _ _ q=>Za _ q) (Zd _) (uh (ep:=0) (Yp.mpr (ZN (Zy I.big))) (Zn _ rfl) ⟨rfl,rfl,rfl⟩ rfl rfl),rfl,h _ (I.hok.fresh (Zd _))⟩⟩
theorem iQ{pins:List (Addr×Obj)}{σ:St}{H:Hp}{s:Shared}{a:Addr}(I:Inv X pins σ H s)(d:vk X.prog X.w H a):s.TypeIs (.ref a) "dict"/\(∀b,Value.ref a=.ref b->∃ob,s.heap.get? b=some ob/\ob.dict=none):=by obtain⟨kls,h⟩:=d;obtain⟨_,o,es,ep,h1,h2,_⟩:=(I.hok a _ h).1;refine⟨⟨o,h1,h2.1⟩,fun b q=>?_⟩;cases q;exact⟨o,h1,h2.2.1⟩
theorem uD(hu:X.A.units+64<cLine)(ho:QE X o td)(he:QE X e ty)(hf:QE X f tx)(hs1:aF e=true:=by rfl)(hs2:aF f=true:=by rfl)(hbase:attributeBase o "setdefault" X.env (eval o X.env)=eval o X.env:=by rfl)(hline:(apos.endLine==cpos.line)=true:=by rfl) :
  QE X (.Call (.Attribute o "setdefault" apos) [e,f] [] cpos) (CU X.prog X.w td ty tx):=by
 refine⟨?_⟩;have h1:=aG (es:=[f]) (env:=X.env) hs1;have h2:=aG (es:=[]) (env:=X.env) hs2;have h3:starEach ([]:List Expr) X.env=[]:=rfl;intro pins s σ H Q I h;refine wpAny_Call_method hbase (by rw[h1,h2,h3];rfl) hline PySem.F.plainAttrs_dict PySem.F.slot_dict_setdefault PySem.F.type_dict_setdefault (thn (ho.h pins s σ H _ I h) fun u s1 hz9=>?_);obtain⟨x,H1,I1,rx,a,ex,d,q1⟩:=hz9;subst ex;obtain rfl:u=Value.ref a:=rx;obtain⟨t1,t2⟩:=iQ I1 d;refine⟨t1,t2,?_⟩;have ht:backTo cpos (starEach [e,f] X.env)=[(false,eval e X.env),(false,eval f X.env)]:=by rw[h1,h2,h3];rfl
 rw[ht];refine Calls.callWith_builtin rfl (Calls.evalArgs_plain (Calls.spliced_cons (thn (he.h pins s1 σ H1 _ I1 q1) fun iv s2 ⟨y,H2,I2,ry,q2⟩ =>
  Calls.spliced_cons (thn (hf.h pins s2 σ H2 _ I2 q2) fun fv s3 ⟨z,H3,I3,rz,kls,ke,l0,oa,ok,ez,l,qo,qn⟩=>Calls.spliced_nil ?_))))
 subst ez;obtain rfl:fv=Value.ref l0:=rz;obtain⟨ki,kv⟩:=qw I3 ok ry;obtain⟨hd,ob,es,ep,hc,D⟩:=xo I3 oa;have hz:es.size<=sizeLine:=by rw[<-Zs,D.he,Zu,Zu];exact dv (by omega)
 have ty':=(iQ I3 ⟨kls,oa.ob⟩).1;refine Z5 PySem.F.slot_dict_setdefault ty' PySem.F.entry_dict_setdefault ?_ (PySem.F.args_dict_setdefault_3 _ _ _);show wpAny _ _ (Builtin.«dict.setdefault» ⟨[.ref a,iv,.ref l0],[]⟩) _ _ s3;unfold Builtin.«dict.setdefault»;refine z6 ?_;unfold Builtin.Dict.keyAndDefault;refine z6 (wpAny_notOrdered_dict ty' ?_);show wpAny _ _ (pure (a,iv,some (Value.ref l0))) _ _ s3;refine z9 ?_;show wpAny _ _ (if(a==sysModules)=true then _ else(dictSetDefault a iv (.ref l0) >>= _)) _ _ s3;rw[if_neg (by rw[hd];exact Zm)];refine z6 (sB (by show X.A.in1.units<cLine;simp only[Around.in1_units];omega) ki D hc hz (fun j x tk g1 g2=>z9 ⟨_,rfl,?_⟩) (fun hno h' tk o' es' ep' g1 g2 g3 g4 g5=>z9 ⟨_,rfl,?_⟩))
 ·rw[ZA]at g1;obtain⟨en,g3,rfl⟩:=ZC.mp g1;have:=mI oa.nd g3;rw[show okD en.1=okD ke from g2]at this;exact⟨.ref en.2,H3,I3.tok _,rfl,qo _ this⟩
 ·have hn:aW kls (okD ke)=none:=kE fun en hen=>by obtain⟨j,hj⟩:=ZO.mp hen;exact hno j (oE en) (by rw[ZA,hj];rfl)
  refine⟨.ref l0,_,lC (a:=a) (t':=tk) I3 (by rw[oa.ob];exact True.intro) g5 ⟨o',g1⟩ (uh (kls:=kls++[(ke,l0)]) hd g1 g2 g3 ?_),rfl,qn hn⟩;rw[g4,D.he,ZU,ZU,kv];rfl
end
open PySem PySem.Spec PyProof.Rows PySem.W
section
variable{X:Cx}{o e f:Expr}{apos cpos:Pos}{td ty tx to te:TE}
theorem uC(hu:X.A.units+64<cLine)(ho:QE X o td)(he:QE X e ty)(hf:QE X f tx)(hs1:aF e=true:=by rfl)(hs2:aF f=true:=by rfl)(hbase:attributeBase o "get" X.env (eval o X.env)=eval o X.env:=by rfl)(hline:(apos.endLine==cpos.line)=true:=by rfl) :
  QE X (.Call (.Attribute o "get" apos) [e,f] [] cpos) (CS X.prog X.w td ty tx):=by
 refine⟨?_⟩;have h1:=aG (es:=[f]) (env:=X.env) hs1;have h2:=aG (es:=[]) (env:=X.env) hs2;have h3:starEach ([]:List Expr) X.env=[]:=rfl;intro pins s σ H Q I h;refine wpAny_Call_method hbase (by rw[h1,h2,h3];rfl) hline PySem.F.plainAttrs_dict PySem.F.slot_dict_get PySem.F.type_dict_get (thn (ho.h pins s σ H _ I h) fun u s1 hz9=>?_);obtain⟨x,H1,I1,rx,a,ex,d,q1⟩:=hz9;subst ex;obtain rfl:u=Value.ref a:=rx;obtain⟨t1,t2⟩:=iQ I1 d;refine⟨t1,t2,?_⟩;have ht:backTo cpos (starEach [e,f] X.env)=[(false,eval e X.env),(false,eval f X.env)]:=by rw[h1,h2,h3];rfl
 rw[ht];refine Calls.callWith_builtin rfl (Calls.evalArgs_plain (Calls.spliced_cons (thn (he.h pins s1 σ H1 _ I1 q1) fun iv s2 ⟨y,H2,I2,ry,q2⟩ =>
  Calls.spliced_cons (thn (hf.h pins s2 σ H2 _ I2 q2) fun fv s3 ⟨z,H3,I3,rz,kls,ke,oa,ok,l,qo,qn⟩=>Calls.spliced_nil ?_))))
 obtain⟨ki,kv⟩:=qw I3 ok ry;obtain⟨hd,ob,es,ep,hc,D⟩:=xo I3 oa;have ty':=(iQ I3 ⟨kls,oa.ob⟩).1;refine Z5 PySem.F.slot_dict_get ty' PySem.F.entry_dict_get ?_ (PySem.F.args_dict_get_3 _ _ _);show wpAny _ _ (Builtin.«dict.get» ⟨[.ref a,iv,fv],[]⟩) _ _ s3;unfold Builtin.«dict.get»;refine z6 ?_;unfold Builtin.Dict.keyAndDefault;refine z6 (wpAny_notOrdered_dict ty' ?_);show wpAny _ _ (pure (a,iv,some fv)) _ _ s3;refine z9 ?_;dsimp only;refine z6 (yb (by show X.A.in1.units<cLine;simp only[Around.in1_units];omega) ki D (fun j x tk g1 g2=>?_) (fun hno tk=>?_))
 ·rw[ZA]at g1;obtain⟨en,g3,rfl⟩:=ZC.mp g1;have:=mI oa.nd g3;rw[show okD en.1=okD ke from g2]at this;exact z9 ⟨_,rfl,.ref en.2,H3,I3.tok _,rfl,qo _ this⟩
 ·have hn:aW kls (okD ke)=none:=kE fun en hen=>by obtain⟨j,hj⟩:=ZO.mp hen;exact hno j (oE en) (by rw[ZA,hj];rfl)
  dsimp only;unfold Builtin.Dict.missed;rw[if_neg (by rw[hd];exact Zm)];exact z6 (z9 (z9 ⟨_,rfl,z,H3,I3.tok _,rz,qn hn⟩))
theorem Bn(ho:QE X o to)(hbase:attributeBase o "pop" X.env (eval o X.env)=eval o X.env:=by rfl)(hline:(apos.endLine==cpos.line)=true:=by rfl):QE X (.Call (.Attribute o "pop" apos) [] [] cpos) (BJ X.K "list" Bu to) :=
 ⟨AU PySem.F.plainAttrs_list PySem.F.slot_list_pop PySem.F.type_list_pop Ap ho.h hbase hline⟩
theorem wv(ho:QE X o to)(he:QE X e te)(hs:aF e=true:=by rfl)(hbase:attributeBase o "extend" X.env (eval o X.env)=eval o X.env:=by rfl)(hline:(apos.endLine==cpos.line)=true:=by rfl) :
  QE X (.Call (.Attribute o "extend" apos) [e] [] cpos) (tBM X.K "list" qE to (fL te fz)):=by
 have h1:=aG (es:=[]) (env:=X.env) hs;have h2:starEach ([]:List Expr) X.env=[]:=rfl;refine⟨rY PySem.F.plainAttrs_list PySem.F.slot_list_extend PySem.F.type_list_extend tY ho.h (pa he.h kM hs) hbase ?_ hline h1 (by rw[h2];rfl)⟩;rw[h1,h2];rfl
end
open PySem PySem.Spec PyProof.Rows PySem.W
open PySem PySem.Spec PyProof.Rows PySem.W
theorem sJ{l:PySem.W.OpenLaw}{n k:Nat}{q:Program}{loose:List Str}{XP:(Str->Option Value)->Heap->Prop}{YP:World->Heap->Prop}{d:DefRec}{K:Params->PySem.W.Frag}{tabs:Params->List (Addr×Addr)}{sp:World->Sp}{x:Str}(hn:l.most=some n)(hn2:n<=sizeLine)(hdf:d.params.defaults=[])(hr:Room k callerA)(hY:∀ (w:World) (h:Heap),YP w h->(K w.params).In h)(ht:∀ (w:World) (h:Heap),YP w h->∀ t∈tabs w.params,CodeHd h t.1 t.2/\h.get? t.2=some (tabObj #[]))(nt:∀ w:World,noTabs (K w.params)=true)(F:∀ (w:World) (mg:Str->Option Value) (fa:Addr) (h:Heap),(K w.params).In h->h.Ns mainGlobals mg->mg d.name=some (.ref fa) ->
   ∃fd:FuncData,(∀(s:Shared) (u:Value),BindsTo s fd ⟨[u],[]⟩ [(x,u)]) /\
    ∀ base:Heap,(K w.params).In base->base.Ns mainGlobals mg->Blt base mg->(∀ t∈tabs w.params,CodeHd base t.1 t.2)->FnOk l.prog w (K w.params) mg base CX0 k fa fd [x] (sp w))(go:∀ (w:World) (H:Hp) (a:Addr) (ns:List Int),ns.length<=n->(∀ t∈tabs w.params,H t.2=some (.tbl #[]))->SqL (K w.params) H a (ns.map V.int)->sp w [.ref a] H (fun v _=>v=.bl true) fun _ _ _=>False) :
  PySem.W.WalkO q loose XP YP l.row.toRowW d [] (fun f vs=>PySem.call f vs):=by
 refine Att.attach_call hn hdf fun w s₀ s₁ mg mb fa o pm cd doc a vs ns G Y ho hd hcd hmg hobj hints hlen hg=>?_;have kx:=hY w _ Y;obtain⟨fd,hb,hF⟩:=F w mg fa _ kx G.T.g hmg;exact vK (tabs:=tabs w.params) kx G.T.g G.T.b G.T.builtins G.T.nolimit hg G.T.bmain (fun r hr'=>ht w _ Y r hr') (nt w) hobj hints (ZB hlen hn2) hr (fun base h1 h2 h3 h4=>hF base h1 h2 h3 h4) hb fun H h1 h2=>go w H a ns hlen h1 h2
def iI(K:Frag)(x m:Str):Option (Addr×Addr):=match nsIn K mainGlobals x with
 | some (some (.ref C))=>(match findIn K (.ref C) m with
  | some (some (.ref f))=>(match K.lookup f with
   | some ⟨_,_,.func fd,_⟩=>(match fd.code with
    | .ref c=>(match K.lookup c with
     | some ⟨_,_,.fields vs,_⟩=>(match (vs[11]?:Option Value) with
      |some (.ref P)=>some (c,P)
      | _=>none)
     | _=>none)
    | _=>none)
   | _=>none)
  | _=>none)
 |_=>none
theorem uT{K:Frag}{x m:Str}{C f c P:Addr}{oc:Value}{od:Option Addr}{fd:FuncData}{sl:Array (Option Value)}(g:nsIn K mainGlobals x=some (some (.ref C)))(a:findIn K (.ref C) m=some (some (.ref f)))(l:K.lookup f=some ⟨oc,od,.func fd,sl⟩)(t:iI K x m=some (c,P)):fd.code=.ref c:=by
 unfold iI at t;rw[g]at t;dsimp only at t;rw[a]at t;dsimp only at t;rw[l]at t;dsimp only at t;split at t
 ·rename_i c' e;rw[e];split at t
  ·split at t
   ·cases t;rfl
   ·cases t
  ·cases t
 ·cases t
theorem tG{K:Frag}{x m q:Str}{st:Stmt}{C f c P:Addr}{fd:FuncData}(g:nsIn K mainGlobals x=some (some (.ref C)))(a:findIn K (.ref C) m=some (some (.ref f)))(F:Fun K m q st f fd)(t:iI K x m=some (c,P)):fd.code=.ref c:=by obtain⟨oc,od,kV,dc,pm,an,cd,ct,sl,rfl,l,c0⟩:=id F.ex;exact uT g a l t
open PySem PySem.Spec PyProof.Rows
theorem zO{X:Cx}{K:PySem.W.Frag}(hK:X.K=K)(hc:X.calm=true):QCall X (.builtin "sum") (fun xs H Q=>∃(p:Addr) (ns:List Int),xs=[.ref p]/\SqL K H p (ns.map V.int)/\Q (.int ns.sum) H):=by
 subst hK;refine⟨?_⟩;intro pins s σ H xs us Q I r h;obtain⟨p,ns,rfl,hS,q⟩:=h;obtain⟨u,rfl,ru⟩:=eI r;cases ru;obtain⟨its,rv,pl,hz⟩:=I.list hS;obtain⟨ys,e1,e2⟩:=kg (bI rv);have hl:s.heap.IsList p (intItems ys.toArray):=by have:=pl.isList;rw[e1]at this;simpa[intItems]using this
 refine sum_intListG (I.ok.hd hc) hl fun h' tk t' hk=>⟨.int ns.sum,H,I.kept (t':=tk) hk,⟨t',?_⟩,q⟩
 have e:preSum (numAt ys.toArray) ys.toArray.size=ns.sum:=by rw[preSum_eq,ZD (by simp),e2]
 rw[e]
end L2
set_option maxRecDepth 100000
set_option maxHeartbeats 4000000
namespace K24
open PySem L2
open PyProof.Rows (envOfC)
open PySem.W (envX CodeHd)
def top(i:Nat):Stmt:=PySem.Challenge.pw_limb_k24_steps_refused.main.body.getD i (.Pass ⟨0,0,0,0⟩)
def tw(l:List Str):TV:=.tup (l.map V.str)
theorem cxK{CX:CXT}{N:List Str}{qual:Str}{scope:Scope}{f:Addr}{cd:Value}{A:Around}{outer:List Env}{s:Shared}{H:Hp}{E:XK}:(cK CX P w K mg base N qual scope f cd A outer s H E).nox.K=K:=rfl
theorem vix{K:PySem.W.Frag}{i:Nat}{n:Int}{σ:St}{H:Hp}{Q:VK}{a:Addr}{xs:List V}{v:V}(hv:σ[i]?=some (some (.ref a)))(hs:SqT K H a xs)(ha:atI xs n=some v)(q:Q v H):tOp (sr K) (wK i) (tC (.int n)) σ H Q:=⟨_,hv,a,_,_,_,rfl,rfl,hs,ha,q⟩
theorem tE{K:PySem.W.Frag}{a:Addr}{xs:List V}{g:TG}{tb:L2.TS}{D:Ends}{σ:St}{H:Hp}(Pv:Nat->St->Hp->Prop)(h0:Pv 0 σ H)(hl:∀i σ H,i<=xs.length->Pv i σ H->SqL K H a xs)(hs:∀i x σ H,xs[i]?=some x->Pv i σ H->∀D':Ends,(∀σ' H',Pv (i+1) σ' H'->D'.nx σ' H')->g x σ H fun σ2 H2=>tb D' σ2 H2)(hd:∀σ H,Pv xs.length σ H->D.nx σ H) :
  ∃W:Nat->Nat->St->Hp->Prop,(∃m,W 0 m σ H)/\∀i m σ H,W i m σ H ->
   ((Itl K a).stop i H/\D.nx σ H)\/((Itl K a).go i H/\∃N:St->Hp->Prop,(∀σ' H',N σ' H'->∃m',m'<m/\W (i+1) m' σ' H')/\∀x H',(Itl K a).yld i H x H'->g x σ H' fun σ2 H2=>tb { D with nx:=N,ct:=N,bk:=D.nx } σ2 H2) :=
 jB Pv h0 hl (fun i x σ H a b=>hs i x σ H a b _ fun _ _ z=>z) hd
theorem ir{K:PySem.W.Frag}{a:Addr}{xs:List V}{j:Nat}{tb:L2.TS}{D:Ends}{σ:St}{H:Hp}(Pv:Nat->St->Hp->Prop)(h0:Pv 0 σ H)(hl:∀i σ H,i<=xs.length->Pv i σ H->SqL K H a xs)(hs:∀i x σ H,xs[i]?=some x->Pv i σ H->∀D':Ends,(∀σ' H',Pv (i+1) σ' H'->D'.nx σ' H')->tb D' (σ.set j (some x)) H)(hd:∀σ H,Pv xs.length σ H->D.nx σ H) :
  ∃W:Nat->Nat->St->Hp->Prop,(∃m,W 0 m σ H)/\∀i m σ H,W i m σ H ->
   ((Itl K a).stop i H/\D.nx σ H)\/((Itl K a).go i H/\∃N:St->Hp->Prop,(∀σ' H',N σ' H'->∃m',m'<m/\W (i+1) m' σ' H')/\∀x H',(Itl K a).yld i H x H'->dg j x σ H' fun σ2 H2=>tb { D with nx:=N,ct:=N,bk:=D.nx } σ2 H2) :=
 tE Pv h0 hl hs hd
def ST:List (Str×TV):=[("put",tw ["new","up","place","text"]),("move",tw ["item","up","place"]),("write",tw ["item","text"]),("mark",tw ["item","truth"]),("due",tw ["item","whom"]),("fold",tw ["item","truth"]),("part",tw ["item","at","new","place"]),("join",tw ["item","item"]),("gone",tw ["item"])]
theorem at0{x:V}{r:List V}:atI (x::r) 0=some x:=cE (xs:=x::r) (j:=0) rfl
theorem at1{x y:V}{r:List V}:atI (x::y::r) 1=some y:=cE (xs:=x::y::r) (j:=1) rfl
theorem at2{x y z:V}{r:List V}:atI (x::y::z::r) 2=some z:=cE (xs:=x::y::z::r) (j:=2) rfl
theorem at3{x y z u:V}{r:List V}:atI (x::y::z::u::r) 3=some u:=cE (xs:=x::y::z::u::r) (j:=3) rfl
theorem at4{x y z u v:V}{r:List V}:atI (x::y::z::u::v::r) 4=some v:=cE (xs:=x::y::z::u::v::r) (j:=4) rfl
theorem Cj:¬(("held":Str)="away"):=by decide +kernel
def iq(h a:Addr):List (Str×V):=cg "away" (.ref a) (cg "held" (.ref h) [])
theorem aZ(h a:Addr):(iq h a).lookup ("held":Str)=some (.ref h):=by unfold iq;rw[bP,if_neg Cj,bP,if_pos rfl]
theorem tz(h a:Addr):(iq h a).lookup ("away":Str)=some (.ref a):=by unfold iq;rw[bP,if_pos rfl]
theorem lF(h a:Addr){m:Str}(h1:¬m="away")(h2:¬m="held"):(iq h a).lookup m=none:=by
 unfold iq;rw[bP,if_neg h1,bP,if_neg h2]
 all_goals rfl
structure PlainAt(C:Addr)(H:Hp)(p d g:Addr)(kvs gvs:List (List Key×V)):Prop where
 ob:∃dx,H p=some (.ins C dx (iq d g))
 dc:H d=some (.dT kvs)
 gc:H g=some (.dT gvs)
 ne:d≠g
theorem PlainAt.same{C:Addr}{H H':Hp}{p d g:Addr}{kvs gvs:List (List Key×V)}(x:PlainAt C H p d g kvs gvs)(s:Same H H'):PlainAt C H' p d g kvs gvs:=by obtain⟨⟨dx,h1⟩,h2,h3,h4⟩:=x;exact⟨⟨dx,s _ _ h1⟩,s _ _ h2,s _ _ h3,h4⟩
theorem PlainAt.put{C:Addr}{H:Hp}{p d g:Addr}{kvs gvs kvs':List (List Key×V)}(x:PlainAt C H p d g kvs gvs):PlainAt C (upd H d (.dT kvs')) p d g kvs' gvs:=by obtain⟨⟨dx,h1⟩,h2,h3,h4⟩:=x;exact⟨⟨dx,by rw[af (hJ h1 h2 (by intro z;cases z))];exact h1⟩,ad,by rw[af (ZN h4)];exact h3,h4⟩
def But(d:Addr)(H H':Hp):Prop:=∀b o,H b=some o->b≠d->H' b=some o
def NameIs(H:Hp)(v:V)(k:List Key):Prop:=∃b,v=.ref b/\H b=some (.tup (k.map kV))
theorem NameIs.same{H H':Hp}{v:V}{k:List Key}(x:NameIs H v k)(s:Same H H'):NameIs H' v k:=by obtain⟨b,h1,h2⟩:=x;exact⟨b,h1,s _ _ h2⟩
def qQ(K:PySem.W.Frag):Sp:=fun vs H Q _=>∃(k:Str) (ws:List Str),vs=[.str k]/\PyProof.Rows.KTD.datumAt k ST=some (tw ws)/\∀t,(∀H',SqT K H' t (ws.map V.str))->Q (.ref t) H
def pz(C:Addr):Sp:=fun vs H Q _=>∃(p dx:Addr),vs=[.ref p]/\H p=some (.ins C dx [])/\∀(d g:Addr) (H':Hp),H d=none->H g=none->PlainAt C H' p d g [] []->(∀b o,H b=some o->b≠p->H' b=some o)->Q .non H'
def qK(C:Addr):Sp:=fun vs H Q _=>∃(p d g:Addr) (kvs gvs:List (List Key×V)) (nm up pl tx:V) (k:List Key),vs=[.ref p,nm,up,pl,tx]/\PlainAt C H p d g kvs gvs/\NameIs H nm k/\kvs.length<=500 /\
 ∀(t:Addr) (H':Hp),Same H H'->H' t=some (.tup [up,pl,tx,.bl false,.non,.bl false])->Q .non (upd H' d (.dT (bD kvs k (.ref t))))
def pA(C:Addr):Sp:=fun vs H Q _=>∃(p d g:Addr) (kvs gvs:List (List Key×V)) (nm v:V) (k:List Key),vs=[.ref p,nm]/\PlainAt C H p d g kvs gvs/\NameIs H nm k/\bu kvs k=some v/\Q v H
def md(C:Addr):Sp:=fun vs H Q _=>∃(p d g:Addr) (kvs gvs:List (List Key×V)),vs=[.ref p]/\PlainAt C H p d g kvs gvs/\∀l ks,H l=none->dO H kvs ks->Q (.ref l) (upd H l (.lst ks))
def pk(K:PySem.W.Frag):Sp:=fun vs H Q _=>∃(a:Addr) (ns:List Int) (k:Int),vs=[.ref a,.int k]/\SqL K H a (ns.map V.int)/\0<=k/\Q (.int (dL ns k.toNat)) H
structure Txt(K:PySem.W.Frag)(C:Addr):Prop where
 cl:Cls K C
 nH:NoAttr K C "held"
 nA:NoAttr K C "away"
section
variable{P:Program}{w:World}{K:PySem.W.Frag}{mg:Str->Option Value}{base:Heap}
abbrev fw:Stmt:=top 15
abbrev nU:List Str:=["word"]
theorem ng:FnScope nU ["word"] (am fw):=⟨rfl,rfl,rfl,by decide +kernel,rfl,by decide +kernel,by decide +kernel⟩
theorem mX{f:Addr}{fd:FuncData}(F:Fun K "step_parts" "step_parts" fw f fd){dd:Addr}(g_STEP_PARTS:mg "STEP_PARTS" = some (.ref dd))(T:Tab K dd ST):FnOk P w K mg base CX0 1 f fd ["word"] (qQ K):=by
 refine F.okQ ng (fun vs H Q E h=>?_) (fun cdv A outer s H vs Q E hr h=>?_)
 ·obtain⟨k,ws,rfl,_⟩:=h;rfl
 obtain⟨k,ws,rfl,hk,q⟩:=h;refine⟨_,(b_1 (aH (aB CZ (fe g_STEP_PARTS) (q_v 0)))),?_⟩
 try rw[cxK]
 exact⟨_,rfl,dd,k,ST,tw ws,rfl,rfl,T,hk,q⟩
abbrev fi:Stmt:=bG (top 21) 0
abbrev nO:List Str:=["self"]
theorem mY:FnScope nO ["self"] (am fi):=⟨rfl,rfl,rfl,by decide +kernel,rfl,by decide +kernel,by decide +kernel⟩
theorem mU{f C:Addr}{fd:FuncData}(F:Fun K "__init__" "Plain.__init__" fi f fd)(T:Txt K C):FnOk P w K mg base CX0 1 f fd ["self"] (pz C):=by
 refine F.okQ mY (fun vs H Q E h=>?_) (fun cdv A outer s H vs Q E hr h=>?_)
 ·obtain⟨p,dx,rfl,_⟩:=h;rfl
 obtain⟨p,dx,rfl,hp,k⟩:=h;refine⟨_,(b_c (xy (q_v 0) sq)
   (b_1 (xy (q_v 0) sq))),?_⟩
 try rw[cxK]
 intro d hd;have npd:p≠d:=ai hp hd;refine⟨_,rfl,p,C,dx,[],rfl,(by rw[af npd];exact hp),T.cl,T.nH,(by show 0<1000;decide),?_⟩;intro g hg;have hg0:H g=none:=by
  cases e:H g with
  |none=>rfl
  |some o =>
   have:g≠d:=ai e hd;by_cases c:g=p
   ·subst c;rw[ad]at hg;cases hg
   ·rw[af c,af this,e]at hg;cases hg
 have ngp:g≠p:=fun z=>by rw[z,hp]at hg0;cases hg0
 have ngd:g≠d:=fun z=>by rw[z,af npd.symm,ad]at hg;cases hg
 refine⟨_,rfl,p,C,dx,_,rfl,(by rw[af ngp.symm,ad]),T.cl,T.nA,(by show 1<1000;decide),?_⟩;refine k d g _ hd hg0 ⟨⟨dx,ad⟩,by rw[af npd.symm,af ngd.symm,af npd.symm,ad],by rw[af ngp,ad],ngd.symm⟩ fun b o e hb=>?_;rw[af hb,af (ai e hg0),af hb,af (ai e hd)];exact e
abbrev fj:Stmt:=bG (top 21) 10
abbrev nQ:List Str:=["self","name"]
theorem mZ:FnScope nQ ["self","name"] (am fj):=⟨rfl,rfl,rfl,by decide +kernel,rfl,by decide +kernel,by decide +kernel⟩
theorem mV{f C:Addr}{fd:FuncData}(F:Fun K "item" "Plain.item" fj f fd)(T:Txt K C):FnOk P w K mg base CX0 1 f fd ["self","name"] (pA C):=by
 refine F.okQ mZ (fun vs H Q E h=>?_) (fun cdv A outer s H vs Q E hr h=>?_)
 ·obtain⟨p,d,g,kvs,gvs,nm,v,k,rfl,_⟩:=h;rfl
 obtain⟨p,d,g,kvs,gvs,nm,v,k,rfl,S,⟨b,rfl,hb⟩,hv,q⟩:=h;obtain⟨⟨dx,h1⟩,h2,h3,h4⟩:=id S;refine⟨_,(b_c (aL (ic hr.units (q_v 1) (cH (q_v 0))) (b_1 gi) b_0)
   (b_1 (aH (di hr.units (cH (q_v 0)) (q_v 1))))),?_⟩
 try rw[cxK]
 refine⟨_,rfl,_,rfl,p,C,dx,_,_,rfl,h1,T.cl,T.nH,aZ _ _,d,_,rfl,DGet.t h2 hb,_,rfl,?_⟩;rw[hv];refine aA ?_;exact⟨_,rfl,p,C,dx,_,_,rfl,h1,T.cl,T.nH,aZ _ _,_,rfl,d,v,rfl,hv▸DGet.t h2 hb,q⟩
abbrev cY:Stmt:=bG (top 21) 4
abbrev jt:List Str:=["self","name","up","place","text"]
theorem jd:FnScope jt ["self","name","up","place","text"] (am cY):=⟨rfl,rfl,rfl,by decide +kernel,rfl,by decide +kernel,by decide +kernel⟩
theorem jc{f C:Addr}{fd:FuncData}(F:Fun K "bring_in" "Plain.bring_in" cY f fd)(T:Txt K C):FnOk P w K mg base CX0 1 f fd ["self","name","up","place","text"] (qK C):=by
 refine F.okQ jd (fun vs H Q E h=>?_) (fun cdv A outer s H vs Q E hr h=>?_)
 ·obtain⟨p,d,g,kvs,gvs,nm,up,pl,tx,k,rfl,_⟩:=h;rfl
 obtain⟨p,d,g,kvs,gvs,nm,up,pl,tx,k,rfl,S,hn,hl,q⟩:=h;obtain⟨⟨dx,h1⟩,h2,h3,h4⟩:=id S;refine⟨_,(b_1 (uI hr.units (cH (q_v 0)) (q_v 1) (au (q_a (q_v 2) (q_a (q_v 3) (q_a (q_v 4) (q_a cC (q_a bg (q_a cC aj))))))))),?_⟩
 try rw[cxK]
 refine⟨_,rfl,_,rfl,_,rfl,sz rfl,fun t ht=>?_⟩;have sm:=ag ht (.tup [up,pl,tx,.bl false,.non,.bl false]);obtain⟨b,rfl,hb⟩:=hn;exact⟨_,rfl,p,C,dx,_,_,rfl,sm _ _ h1,T.cl,T.nH,aZ _ _,_,rfl,d,_,rfl,DPut.t (sm _ _ h2) (sm _ _ hb) (fK (by omega)),q t _ sm ad⟩
theorem Ck(w:Str):inV (.str w) [.str "item",.str "up"]=decide (w="item"\/w="up"):=by
 unfold inV eqV;by_cases h1:w="item"
 ·subst h1;simp
 ·by_cases h2:w="up"
  ·subst h2;simp
  ·simp[h1,h2,ZN h1,ZN h2]
abbrev ci:Stmt:=bG (top 21) 2
abbrev im:List Str:=["self","step","kinds","kind","name"]
theorem aQ:FnScope im ["self","step"] (am ci):=⟨rfl,rfl,rfl,by decide +kernel,rfl,by decide +kernel,by decide +kernel⟩
def BG(cN:Addr):Sp:=fun vs H Q _=>∃(e t:Addr) (v:V),vs=[.ref e,v]/\H e=some (exN e cN t none)/\∀d,H d=none->Q .non (upd (upd H d (.xd [("name",v)])) e (exN e cN t (some d)))
abbrev dW:Stmt:=bG (top 8) 0
abbrev mS:List Str:=["self","name"]
theorem lZ:FnScope mS ["self","name"] (am dW):=⟨rfl,rfl,rfl,by decide +kernel,rfl,by decide +kernel,by decide +kernel⟩
theorem lN{f cN:Addr}{fd:FuncData}(F:Fun K "__init__" "NoItem.__init__" dW f fd)(S:ExS K cN)(n:NoAttr K cN "name"):FnOk P w K mg base CX0 1 f fd ["self","name"] (BG cN):=by
 refine F.okQ lZ (fun vs H Q E h=>?_) (fun cdv A outer s H vs Q E hr h=>?_)
 ·obtain⟨e,t,v,rfl,_⟩:=h;rfl
 obtain⟨e,t,v,rfl,he,q⟩:=h;refine⟨_,(b_1 (BB (q_v 0) (q_v 1))),?_⟩
 try rw[cxK]
 exact⟨_,rfl,_,rfl,e,cN,t,rfl,he,S,n,q⟩
theorem vn{H1:Hp}{ea t d cN:Addr}{v:V}(h1:H1 ea=none)(hd:upd H1 ea (exN ea cN t none) d=none) :
  Same H1 (del (upd (upd (upd H1 ea (exN ea cN t none)) d (.xd [("name",v)])) ea (exN ea cN t (some d))) ea)/\del (upd (upd (upd H1 ea (exN ea cN t none)) d (.xd [("name",v)])) ea (exN ea cN t (some d))) ea d=some (.xd [("name",v)]):=by
 have nde:d≠ea:=fun z=>by rw[z,ad]at hd;cases hd
 refine⟨fun b o e=>?_,?_⟩
 ·have hb:b≠ea:=ai e h1;have hbd:b≠d:=fun z=>by rw[<-z,af hb,e]at hd;cases hd
  rw[de hb,af hb,af hbd,af hb];exact e
 ·rw[de nde,af nde,ad]
def PartB(H:Hp)(kvs:List (List Key×V))(w:Str)(v:V)(b:Bool):Prop :=
 (w="new"->∃k,NameIs H v k/\b=!(bu kvs k).isSome)/\((w="item"\/w="up")->(v=.non/\b=true)\/∃k,NameIs H v k/\b=(bu kvs k).isSome)
theorem PartB.same{H H':Hp}{kvs:List (List Key×V)}{w:Str}{v:V}{b:Bool}(x:PartB H kvs w v b)(s:Same H H'):PartB H' kvs w v b :=
 ⟨fun e=>let⟨k,a,c⟩:=x.1 e;⟨k,a.same s,c⟩,fun e=>(x.2 e).imp id fun⟨k,a,c⟩=>⟨k,a.same s,c⟩⟩
def isI(w:Str):Prop:=w="item"\/w="up"
def pq(C cT cN:Addr):Sp:=fun vs H Q E=>∃(p d g st:Addr) (kvs gvs:List (List Key×V)) (w:Str) (ws:List Str) (ps:List V) (bs:List Bool),vs=[.ref p,.ref st]/\PlainAt C H p d g kvs gvs/\H st=some (.tup (.str w::ps)) /\
 PyProof.Rows.KTD.datumAt w ST=some (tw ws)/\ws.length=ps.length/\bs.length=ps.length/\(∀(i:Nat) (w:Str) (v:V) (b:Bool),ws[i]?=some w->ps[i]?=some v->bs[i]?=some b->PartB H kvs w v b) /\
 ((∃i:Nat,ws[i]?=some "new"/\bs[i]?=some false)->∀H',Same H H'->E (.ref cT) none H') /\
 ((∀ i:Nat,ws[i]? = some "new"->bs[i]? = some true)->((∀ (i:Nat) (w:Str),ws[i]? = some w->isI w->bs[i]? = some true)->∀ H',Same H H'->Q .non H') /\
  ∀ (i:Nat) (w:Str) (v:V),ws[i]? = some w->ps[i]? = some v->isI w->bs[i]? = some false->(∀ (j:Nat) (w':Str),j<i->ws[j]? = some w'->isI w'->bs[j]? = some true)->∀ H' dd,Same H H'->H' dd=some (.xd [("name",v)])->E (.ref cN) (some dd) H')
theorem fW{f C cT cN:Addr}{fd:FuncData}{bm:List Value}(F:Fun K "check_names" "Plain.check_names" ci f fd)(T:Txt K C)(F_step_parts:Fn P w K mg base 1 "step_parts" ["word"] (qQ K))(z_zip:mg "zip" = none)(x_Taken:ExCls K cT)(g_Taken:mg "Taken" = some (.ref cT))(xi_NoItem:ExI P w K mg base 1 cN bm ["self","name"] (BG cN))(g_NoItem:mg "NoItem" = some (.ref cN)):FnOk P w K mg base (CXr P w) 3 f fd ["self","step"] (pq C cT cN):=by
 refine F.okX aQ (fun vs H Q E h=>?_) (fun cdv A outer s H vs Q E hr h=>?_)
 ·obtain⟨p,d,g,st,kvs,gvs,wd,ws,ps,bs,rfl,_⟩:=h;rfl
 obtain⟨p,d,g,st,kvs,gvs,wd,ws,ps,bs,rfl,S,hst,hk,l1,l2,ok,qT,qN⟩:=h;obtain⟨⟨dx,h1⟩,h2,h3,h4⟩:=id S;refine⟨_,(b_c (ay (i:=2) aQ.nd (cQ F_step_parts (hr.mono (by decide)) (q_a (aB ax (q_v 1) ah) aj)))
   (b_c (xz bU (fJ (kO rfl rfl) rfl (xh z_zip (q_a (q_v 2) (q_a (jH kn (q_v 1) (iC ah) lQ) aj))) (xa rfl (rC (bH (i:=3) aQ.nd) (rC (bH (i:=4) aQ.nd) zX))) (b_1 (aL (t_w (cJ (aw bC (q_v 3) aq) (cc (sG hr.units (q_v 4) (cH (q_v 0)))))) (b_1 (iY (dj jn) rfl x_Taken g_Taken (q_a aq aj))) b_0))))
   (b_1 (xz bU (fJ (kO rfl rfl) rfl (xh z_zip (q_a (q_v 2) (q_a (jH kn (q_v 1) (iC ah) lQ) aj))) (xa rfl (rC (bH (i:=3) aQ.nd) (rC (bH (i:=4) aQ.nd) zX))) (b_1 (aL (t_w (cJ (aw (Cr (K:=K) rfl) (q_v 3) (au (q_a aq (q_a aq aj)))) (cJ (aw iw (q_v 4) bg) (cc (ic hr.units (q_v 4) (cH (q_v 0))))))) (b_1 (wH jn rfl xi_NoItem (hr.mono (by decide)) g_NoItem (q_a (q_v 4) aj))) b_0))))))),?_⟩
 try rw[cxK]
 refine(vix rfl (SqT.of hst) at0 ⟨wd,ws,rfl,hk,fun t ht=>?_⟩);have c1:bK (V.str wd::ps) (some 1) none=ps:=by unfold bK;rw[HT.sIx_none,show(1:Int)=((1:Nat):Int)from rfl,HT.sIx_nat];simp
 have lw:(ws.map V.str).length=ps.length:=by rw[Zu];exact l1
 have item:∀{i:Nat} {x:V},(ws.map V.str)[i]?=some x->∃w',ws[i]?=some w'/\x=.str w':=fun{i x} hx=>by rw[ZA]at hx;obtain⟨w',e1,e2⟩:=ZC.mp hx;exact⟨w',e1,e2.symm⟩
 have bat:∀{i:Nat} {v:V},ps[i]?=some v->∃b,bs[i]?=some b:=fun{i v} hv=>by
  have hi:i<bs.length:=by rw[l2];exact(Zt.mp hv).1
  exact⟨_,Zb hi⟩
 refine⟨_,rfl,_,rfl,_,rfl,st,_,rfl,hst,fun z H1 s1 e1=>?_⟩;rw[c1]at e1;refine⟨t,z,_,_,rfl,ht _,SqT.of e1,lw,?_⟩;refine qd (i:=3) (j:=4) (fun i σ H'=>Same H H'/\H' z=some (.tup ps)/\(∀j:Nat,j<i->ws[j]?=some "new"->bs[j]?=some true)/\∃o3 o4,σ=[some (.ref p),some (.ref st),some (.ref t),o3,o4]) ⟨s1,e1,(fun j hj=>by omega),none,none,rfl⟩ (fun _ _ _ _ _=>ht _) (fun _ _ _ _ v=>SqT.of v.2.1) lw ?_ ?_
 ·rintro i x v σ H' hx hv ⟨sm,ez,pre,o3,o4,rfl⟩ T' gT;have wT:=ag gT (.tup [x,v]);obtain⟨w',hw,rfl⟩:=item hx;obtain⟨b,hb⟩:=bat hv;have sm':=sm.trans wT;have pb:=(ok i w' v b hw hv hb).same sm';refine⟨_,rfl,rfl,_,rfl,bM (fun c=>?_) (fun c=>?_)⟩
  ·injection c with c;subst c;obtain⟨k,⟨nb,rfl,hnb⟩,hbv⟩:=pb.1 rfl;refine⟨_,rfl,_,rfl,p,C,dx,_,_,rfl,sm' _ _ h1,T.cl,T.nH,aZ _ _,d,_,rfl,DGet.t (sm' _ _ h2) hnb,_,rfl,?_⟩;cases hs:(bu kvs k).isSome with
   |true =>rw[hs]at hbv;subst hbv;refine bw ?_;exact⟨sz rfl,qT ⟨i,hw,hb⟩ _ sm'⟩
   |false =>
    rw[hs]at hbv;subst hbv;refine aA ⟨sm',wT _ _ ez,fun j hj hw'=>?_,_,_,rfl⟩;by_cases c2:j=i
    ·rw[c2];exact hb
    ·exact pre j (by omega) hw'
  ·refine aA ⟨sm',wT _ _ ez,fun j hj hw'=>?_,_,_,rfl⟩;by_cases c2:j=i
   ·rw[c2,hw]at hw';exact absurd (ZW V.str (Zi hw')) c
   ·exact pre j (by omega) hw'
 ·rintro σ H' ⟨sm,ez,pre,o3,o4,rfl⟩;have all:∀i:Nat,ws[i]?=some "new"->bs[i]?=some true:=fun i hi=>pre i (by rw[Zu];exact(Zt.mp hi).1) hi;obtain⟨qok,qni⟩:=qN all;refine⟨_,rfl,_,rfl,_,rfl,st,_,rfl,sm _ _ hst,fun z' H2 s2 e2=>?_⟩;rw[c1]at e2;refine⟨t,z',_,_,rfl,ht _,SqT.of e2,lw,?_⟩;refine qd (i:=3) (j:=4) (fun i σ H'=>Same H H'/\H' z'=some (.tup ps)/\(∀(j:Nat) (w':Str),j<i->ws[j]?=some w'->isI w'->bs[j]?=some true)/\∃o3 o4,σ=[some (.ref p),some (.ref st),some (.ref t),o3,o4]) ⟨sm.trans s2,e2,(fun j _ hj=>by omega),o3,o4,rfl⟩ (fun _ _ _ _ _=>ht _) (fun _ _ _ _ v=>SqT.of v.2.1) lw ?_ ?_
  ·rintro i x v σ H' hx hv ⟨sm,ez,pre2,o3,o4,rfl⟩ T' gT;have wT:=ag gT (.tup [x,v]);obtain⟨w',hw,rfl⟩:=item hx;obtain⟨b,hb⟩:=bat hv;have sm':=sm.trans wT;refine⟨_,rfl,sz rfl,fun u gu=>?_⟩;have wu:=ag gu (.tup [.str "item",.str "up"]);have sm2:=sm'.trans wu;have pb:=(ok i w' v b hw hv hb).same sm2;refine⟨u,_,rfl,.inr (SqT.of ad),rfl,rfl,_,rfl,?_⟩;have ei:(if false=true then !inV (V.str w') [.str "item",.str "up"]else inV (V.str w') [.str "item",.str "up"])=decide (w'="item"\/w'="up"):=Ck w';have step:bs[i]?=some true->∀(j:Nat) (w'':Str),j<i+1->ws[j]?=some w''->isI w''->bs[j]?=some true:=fun hbt j w'' hj hw'' hi=>by
    by_cases c2:j=i
    ·rw[c2];exact hbt
    ·exact pre2 j w'' (by omega) hw'' hi
   rw[ei];refine bM (fun c=>?_) (fun c=>?_)
   ·rcases pb.2 c with⟨rfl,rfl⟩|⟨k,⟨nb,rfl,hnb⟩,hbv⟩
    ·refine⟨_,rfl,rfl,_,rfl,fF rfl ?_⟩;exact aA ⟨sm2,wu _ _ (wT _ _ ez),step hb,_,_,rfl⟩
    ·refine⟨_,rfl,rfl,_,rfl,iR (by intro z;cases z) ?_⟩;refine⟨_,rfl,_,rfl,p,C,dx,_,_,rfl,sm2 _ _ h1,T.cl,T.nH,aZ _ _,d,_,rfl,DGet.t (sm2 _ _ h2) hnb,_,rfl,?_⟩;cases hs:(bu kvs k).isSome with
     |true =>rw[hs]at hbv;subst hbv;exact aA ⟨sm2,wu _ _ (wT _ _ ez),step hb,_,_,rfl⟩
     |false =>rw[hs]at hbv;subst hbv;refine bw ?_;refine⟨_,rfl,sz rfl,fun ea tt' e1 e2 nt=>⟨ea,tt',_,rfl,ad,fun dd hdd=>⟨rfl,some dd,ad,?_⟩⟩⟩;obtain⟨a1,a2⟩:=vn (v:=V.ref nb) e1 hdd;exact qni i w' _ hw hv c hb pre2 _ dd (sm2.trans a1) a2
   ·refine aA ⟨sm2,wu _ _ (wT _ _ ez),fun j w'' hj hw'' hi=>?_,_,_,rfl⟩;by_cases c2:j=i
    ·rw[c2,hw]at hw'';cases hw'';exact absurd hi c
    ·exact pre2 j w'' (by omega) hw'' hi
  ·rintro σ H' ⟨sm,ez,pre2,o3,o4,rfl⟩;exact qok (fun i w' hw hi=>pre2 i w' (by rw[Zu];exact(Zt.mp hw).1) hw hi) H' sm
abbrev bS:Stmt:=bG (top 21) 12
abbrev fR:List Str:=["self","one","other"]
theorem cS:FnScope fR ["self","one","other"] (am bS):=⟨rfl,rfl,rfl,by decide +kernel,rfl,by decide +kernel,by decide +kernel⟩
abbrev bV:Stmt:=bG (top 21) 3
abbrev gz:List Str:=["self","step"]
theorem gj:FnScope gz ["self","step"] (am bV):=⟨rfl,rfl,rfl,by decide +kernel,rfl,by decide +kernel,by decide +kernel⟩
theorem cO(h a:Addr){m:Str}(h1:¬m="away":=by decide +kernel)(h2:¬m="held":=by decide +kernel):(iq h a).lookup m=none:=lF h a h1 h2
def TS(H H':Hp):Prop:=∀a zs,H a=some (.tup zs)->H' a=some (.tup zs)
theorem Same.ts{H H':Hp}(e:Same H H'):TS H H':=fun a zs h=>e a _ h
theorem BU{H:Hp}{d:Addr}{kvs kvs':List (List Key×V)}(h:H d=some (.dT kvs)):TS H (upd H d (.dT kvs')):=fun a zs e=>by rw[af (hJ e h (by intro z;cases z))];exact e
theorem cD{d:PyData}(h1:d.canLay0=true)(h2:d.depth<=10):SeqAt.shaped d=true:=by unfold SeqAt.shaped;rw[Zz];exact⟨h1,decide_eq_true (by omega)⟩
theorem sC{l:List (List Key×V)}{k:List Key}(h:k∈l.map (·.1)):(bu l k).isSome=true:=by
 cases e:bu l k with
 |none=>exact absurd h (wP e)
 |some v=>rfl
theorem wo{l:List (List Key×V)}{k:List Key}(v:V)(h:k∈l.map (·.1)):bD l k v=l.map (fun kv=>if kv.1=k then(kv.1,v)else kv):=by unfold bD;rw[if_pos];rw[dI];exact sC h
abbrev Nm:=Int×Int
structure It where
 up:Option Nm
 pl:List Int
 tx:Str
 dn:Bool
 wh:Option Int
 fo:Bool
abbrev Ol:=List (Nm×It)
def nk(n:Nm):List Key:=[.inl n.1,.inl n.2]
theorem kC{n m:Nm}(h:nk n=nk m):n=m:=by unfold nk at h;injection h with h1 h2;injection h2 with h2 _;injection h1 with h1;injection h2 with h2;exact Prod.ext h1 h2
abbrev As(β:Type):=List (Nm×β)
def look{β:Type}:As β->Nm->Option β
 | [],_=>none
 |p::l,n=>if p.1=n then some p.2 else look l n
def dH{β:Type}(l:As β)(n:Nm)(i:β):As β:=if(look l n).isSome=true then l.map (fun p=>if p.1=n then(p.1,i)else p)else l++[(n,i)]
def UpAt(H:Hp)(v:V):Option Nm->Prop
 |none=>v=.non
 |some n=>NameIs H v (nk n)
def PlAt(H:Hp)(v:V)(ns:List Int):Prop:=∃b,v=.ref b/\H b=some (.tup (ns.map V.int))
def whV:Option Int->V
 |none=>.non
 |some i=>.int i
def ItAt(H:Hp)(v:V)(it:It):Prop:=∃(a:Addr) (uv pv:V),v=.ref a/\H a=some (.tup [uv,pv,.str it.tx,.bl it.dn,whV it.wh,.bl it.fo])/\UpAt H uv it.up/\PlAt H pv it.pl
theorem NameIs.ts'{H H':Hp}{v:V}{k:List Key}(x:NameIs H v k)(s:TS H H'):NameIs H' v k:=by obtain⟨b,h1,h2⟩:=x;exact⟨b,h1,s _ _ h2⟩
theorem UpAt.ts{H H':Hp}{v:V}{u:Option Nm}(x:UpAt H v u)(s:TS H H'):UpAt H' v u:=by
 cases u with
 |none=>exact x
 |some n=>exact NameIs.ts' x s
theorem PlAt.ts{H H':Hp}{v:V}{ns:List Int}(x:PlAt H v ns)(s:TS H H'):PlAt H' v ns:=by obtain⟨b,h1,h2⟩:=x;exact⟨b,h1,s _ _ h2⟩
theorem ItAt.ts{H H':Hp}{v:V}{it:It}(x:ItAt H v it)(s:TS H H'):ItAt H' v it:=by obtain⟨a,uv,pv,h1,h2,h3,h4⟩:=x;exact⟨a,uv,pv,h1,s _ _ h2,h3.ts s,h4.ts s⟩
abbrev Rws{β:Type}(R:V->β->Prop)(kvs:List (List Key×V))(ol:As β):Prop:=Paired (fun p q=>p.1=nk q.1/\R p.2 q.2) kvs ol
abbrev Rows(H:Hp)(kvs:List (List Key×V))(ol:Ol):Prop:=Rws (ItAt H) kvs ol
theorem Rows.ts{H H':Hp}{kvs:List (List Key×V)}{ol:Ol}(x:Rows H kvs ol)(s:TS H H'):Rows H' kvs ol:=Paired.mapP x fun _ _ z=>⟨z.1,z.2.ts s⟩
section
variable{β:Type}{R:V->β->Prop}{kvs:List (List Key×V)}{ol:As β}{n:Nm}{it:β}{v:V}
theorem dQ(x:Rws R kvs ol)(h:look ol n=none):bu kvs (nk n)=none:=by
 induction x with
 |nil=>rfl
 |@cons p q _ _ r _ ih =>
  unfold look at h;by_cases c:q.1=n
  ·rw[if_pos c]at h;cases h
  ·rw[if_neg c]at h;rw[fA fun z=>c (kC (r.1.symm.trans z))];exact ih h
theorem aT(x:Rws R kvs ol)(h:look ol n=some it):∃v,bu kvs (nk n)=some v/\R v it:=by
 induction x with
 |nil=>cases h
 |@cons p q _ _ r _ ih =>
  unfold look at h;by_cases c:q.1=n
  ·rw[if_pos c]at h;cases h;exact⟨p.2,ie (r.1.trans (ZW nk c)),r.2⟩
  ·rw[if_neg c]at h;rw[fA fun z=>c (kC (r.1.symm.trans z))];exact ih h
theorem lT(x:Rws R kvs ol):(bu kvs (nk n)).isSome=(look ol n).isSome:=by
 cases e:look ol n with
 |none=>rw[dQ x e];rfl
 |some it =>obtain⟨v,h,_⟩:=aT x e;rw[h];rfl
theorem oX(x:Rws R kvs ol)(hv:R v it):Rws R (bD kvs (nk n) v) (dH ol n it):=by
 unfold dH;cases e:look ol n with
 |none =>rw[wn _ (dQ x e),if_neg (by simp)];exact Paired.snoc x ⟨rfl,hv⟩
 |some it0 =>
  obtain⟨v0,h0,_⟩:=aT x e;rw[wo _ (zm h0),if_pos (show(some it0).isSome=true from rfl)];clear e h0;induction x with
  |nil=>exact .nil
  |@cons p q _ _ r _ ih =>
   rw[Zx,Zx];refine .cons ?_ ih;by_cases c:p.1=nk n
   ·rw[if_pos c,if_pos (kC (r.1.symm.trans c))];exact⟨r.1,hv⟩
   ·rw[if_neg c,if_neg fun z=>c (r.1.trans (ZW nk z))];exact r
theorem oW(x:Rws R kvs ol):kvs.length=ol.length:=ZI x
end
def OlAt(C:Addr)(H:Hp)(p d g:Addr)(ol:Ol):Prop:=∃kvs,PlainAt C H p d g kvs []/\Rows H kvs ol
theorem OlAt.same{C:Addr}{H H':Hp}{p d g:Addr}{ol:Ol}(x:OlAt C H p d g ol)(s:Same H H'):OlAt C H' p d g ol:=by obtain⟨kvs,h1,h2⟩:=x;exact⟨kvs,h1.same s,h2.ts (Same.ts s)⟩
theorem But.put{d:Addr}{H H':Hp}(s:Same H H')(o:HO):But d H (upd H' d o):=fun b u h n=>by rw[af n];exact s _ _ h
theorem AA{C:Addr}{H H':Hp}{p d g t:Addr}{kvs:List (List Key×V)}{ol:Ol}{n:Nm}{it:It}(S:PlainAt C H p d g kvs [])(R:Rows H kvs ol)(s:Same H H')(hi:ItAt H' (.ref t) it):OlAt C (upd H' d (.dT (bD kvs (nk n) (.ref t)))) p d g (dH ol n it):=by have td:TS H' (upd H' d (.dT (bD kvs (nk n) (.ref t)))):=BU (s _ _ S.dc);exact⟨_,(S.same s).put,Rows.ts (oX (Rows.ts R (Same.ts s)) hi) td⟩
inductive Und(ol:Ol)(o:Nm):Nat->Option Nm->Bool->Prop
 |none:Und ol o 0 none false
 |self:Und ol o 0 (some o) true
 |up {k:Nat} {n:Nm} {it:It} {b:Bool}:n≠o->look ol n=some it->Und ol o k it.up b->Und ol o (k+1) (some n) b
def qR(C:Addr):Sp:=fun vs H Q _=>∃(p d g:Addr) (ol:Ol) (u v:V) (one:Option Nm) (o:Nm) (k:Nat) (b:Bool),vs=[.ref p,u,v]/\OlAt C H p d g ol/\UpAt H u one/\NameIs H v (nk o)/\Und ol o k one b/\Q (.bl b) H
theorem fO{f C:Addr}{fd:FuncData}(F:Fun K "at_or_beneath" "Plain.at_or_beneath" bS f fd)(T:Txt K C){tk:Tok}(g_UP:mg "UP" = some (.int 0 tk)):FnOk P w K mg base CX0 1 f fd ["self","one","other"] (qR C):=by
 refine F.okQ cS (fun vs H Q E h=>?_) (fun cdv A outer s H vs Q E hr h=>?_)
 ·obtain⟨p,d,g,ol,u,v,one,o,k,b,rfl,_⟩:=h;rfl
 obtain⟨p,d,g,ol,u,v,one,o,k,b,rfl,⟨kvs,S,R⟩,hu,hv,un,q⟩:=h;obtain⟨⟨dx,h1⟩,h2,h3,h4⟩:=id S;obtain⟨vb,rfl,hvb⟩:=id hv;refine⟨_,(b_c (lY Yo (t_w (cJ (aw iw (q_v 1) bg) (cc (aw (Aw hr.units) (q_v 1) (q_v 2))))) (b_1 (ay (i:=1) cS.nd (aB ax (di hr.units (cH (q_v 0)) (q_v 1)) (oU g_UP)))))
   (b_1 (aH (sj iw (q_v 1) bg)))),?_⟩
 try rw[cxK]
 refine⟨fun m σ H'=>H'=H/\∃(u:V) (one:Option Nm),UpAt H u one/\Und ol o m one b/\σ=[some (.ref p),some u,some (.ref vb)],⟨k,rfl,u,one,hu,un,rfl⟩,?_⟩;rintro m σ H' ⟨rfl,u,one,hu,un,rfl⟩;cases un with
 |none =>obtain rfl:u=.non:=hu;refine⟨_,rfl,rfl,_,rfl,fF rfl (aA ?_)⟩;exact⟨_,rfl,rfl,q⟩
 |self =>obtain⟨ub,rfl,hub⟩:=id hu;refine⟨_,rfl,rfl,_,rfl,iR (by intro z;cases z) ?_⟩;refine⟨_,rfl,_,rfl,ub,vb,[o.1,o.2],[o.1,o.2],rfl,rfl,hub,hvb,_,rfl,?_⟩;rw[decide_eq_true rfl];refine aA ?_;exact⟨_,rfl,rfl,q⟩
 |@up m n it _ hn hl un =>
  obtain⟨ub,rfl,hub⟩:=id hu;obtain⟨iv,e1,ia,uv,pv,rfl,e2,e3,e4⟩:=aT R hl;refine⟨_,rfl,rfl,_,rfl,iR (by intro z;cases z) ?_⟩;refine⟨_,rfl,_,rfl,ub,vb,[n.1,n.2],[o.1,o.2],rfl,rfl,hub,hvb,_,rfl,?_⟩;have:¬ ([n.1,n.2]=[o.1,o.2]):=fun z=>hn (by
   injection z with z1 z2;injection z2 with z2 _;exact Prod.ext z1 z2)
  rw[decide_eq_false this];refine bw ?_;refine⟨fun σ H2=>H2=H'/\σ=[some (.ref p),some uv,some (.ref vb)],?_,?_⟩
  ·rintro σ' H2 ⟨rfl,rfl⟩;exact⟨m,Yt m,rfl,uv,it.up,e3,un,rfl⟩
  ·refine⟨_,rfl,p,C,dx,_,_,rfl,h1,T.cl,T.nH,aZ _ _,_,rfl,d,.ref ia,rfl,e1▸DGet.t (k:=nk n) h2 hub,?_⟩;exact⟨ia,_,_,_,rfl,rfl,SqT.of e2,at0,rfl,rfl⟩
inductive Sd
 |put (n:Nm)(u:Option Nm)(pl:List Int)(tx:Str)
 |move (n:Nm)(u:Option Nm)(pl:List Int)
 |write (n:Nm)(tx:Str)
 |mark (n:Nm)(b:Bool)
 |due (n:Nm)(w:Option Int)
 |fold (n:Nm)(b:Bool)
 |part (n:Nm)(a:Int)(m:Nm)(pl:List Int)
 |join (n m:Nm)
 |gone (n:Nm)
def StAt(H:Hp)(st:Addr):Sd->Prop
 |.put n u pl tx=>∃nv uv pv,H st=some (.tup [.str "put",nv,uv,pv,.str tx])/\NameIs H nv (nk n)/\UpAt H uv u/\PlAt H pv pl
 |.move n u pl=>∃nv uv pv,H st=some (.tup [.str "move",nv,uv,pv])/\NameIs H nv (nk n)/\UpAt H uv u/\PlAt H pv pl
 |.write n tx=>∃nv,H st=some (.tup [.str "write",nv,.str tx])/\NameIs H nv (nk n)
 |.mark n b=>∃nv,H st=some (.tup [.str "mark",nv,.bl b])/\NameIs H nv (nk n)
 |.due n w=>∃nv,H st=some (.tup [.str "due",nv,whV w])/\NameIs H nv (nk n)
 |.fold n b=>∃nv,H st=some (.tup [.str "fold",nv,.bl b])/\NameIs H nv (nk n)
 |.part n a m pl=>∃nv mv pv,H st=some (.tup [.str "part",nv,.int a,mv,pv])/\NameIs H nv (nk n)/\NameIs H mv (nk m)/\PlAt H pv pl
 |.gone n=>∃nv,H st=some (.tup [.str "gone",nv])/\NameIs H nv (nk n)
 |.join n m=>∃nv mv,H st=some (.tup [.str "join",nv,mv])/\NameIs H nv (nk n)/\NameIs H mv (nk m)
theorem StAt.ts{H H':Hp}{st:Addr}{s:Sd}(x:StAt H st s)(t:TS H H'):StAt H' st s:=by
 cases s with
 |put=>obtain⟨nv,uv,pv,h1,h2,h3,h4⟩:=x;exact⟨nv,uv,pv,t _ _ h1,h2.ts' t,h3.ts t,h4.ts t⟩
 |move=>obtain⟨nv,uv,pv,h1,h2,h3,h4⟩:=x;exact⟨nv,uv,pv,t _ _ h1,h2.ts' t,h3.ts t,h4.ts t⟩
 |write=>obtain⟨nv,h1,h2⟩:=x;exact⟨nv,t _ _ h1,h2.ts' t⟩
 |mark=>obtain⟨nv,h1,h2⟩:=x;exact⟨nv,t _ _ h1,h2.ts' t⟩
 |due=>obtain⟨nv,h1,h2⟩:=x;exact⟨nv,t _ _ h1,h2.ts' t⟩
 |fold=>obtain⟨nv,h1,h2⟩:=x;exact⟨nv,t _ _ h1,h2.ts' t⟩
 |gone=>obtain⟨nv,h1,h2⟩:=x;exact⟨nv,t _ _ h1,h2.ts' t⟩
 |part=>obtain⟨nv,mv,pv,h1,h2,h3,h4⟩:=x;exact⟨nv,mv,pv,t _ _ h1,h2.ts' t,h3.ts' t,h4.ts t⟩
 |join=>obtain⟨nv,mv,h1,h2,h3⟩:=x;exact⟨nv,mv,t _ _ h1,h2.ts' t,h3.ts' t⟩
def Sd.items:Sd->List Nm
 |.put _ u _ _=>u.toList
 |.move n u _=>n::u.toList
 |.write n _=>[n]
 |.mark n _=>[n]
 |.due n _=>[n]
 |.fold n _=>[n]
 |.part n _ _ _=>[n]
 |.join n m=>[n,m]
 |.gone n=>[n]
def Sd.news:Sd->List Nm
 |.put n _ _ _=>[n]
 |.part _ _ m _=>[m]
 |_=>[]
inductive Bd(ol:Ol):Sd->Option Bool->Prop
 |put {n u pl tx}:Bd ol (.put n u pl tx) none
 |write {n tx}:Bd ol (.write n tx) none
 |mark {n b}:Bd ol (.mark n b) none
 |due {n w}:Bd ol (.due n w) none
 |fold {n b}:Bd ol (.fold n b) none
 |gone {n}:Bd ol (.gone n) none
 |move {n u pl k b}:Und ol n k u b->Bd ol (.move n u pl) (if b=true then some true else none)
 |join {n m k b}:Und ol m k (some n) b->Bd ol (.join n m) (if b=true then some true else none)
 |part {n a m pl it}:look ol n=some it->Bd ol (.part n a m pl) (if(it.tx.length:Int)<a then some false else none)
theorem xR{H:Hp}{st:Addr}{ol:Ol}{s:Sd}{r:Option Bool}(hs:StAt H st s)(hb:Bd ol s r) :
  (r=none/\∃wd ps,H st=some (.tup (.str wd::ps))/\V.str wd≠V.str "move"/\V.str wd≠V.str "join"/\V.str wd≠V.str "part") \/
  (∃n u k b nv uv pv,H st=some (.tup [.str "move",nv,uv,pv])/\NameIs H nv (nk n)/\UpAt H uv u/\Und ol n k u b/\r=if b=true then some true else none) \/
  (∃n m k b nv mv,H st=some (.tup [.str "join",nv,mv])/\NameIs H nv (nk n)/\NameIs H mv (nk m)/\Und ol m k (some n) b/\r=if b=true then some true else none) \/
  (∃n a it nv mv pv,H st=some (.tup [.str "part",nv,.int a,mv,pv])/\NameIs H nv (nk n)/\look ol n=some it/\r=if(it.tx.length:Int)<a then some false else none):=by
 cases hb with
 |put=>obtain⟨nv,uv,pv,h1,_⟩:=hs;exact .inl ⟨rfl,_,_,h1,by decide +kernel,by decide +kernel,by decide +kernel⟩
 |write=>obtain⟨nv,h1,_⟩:=hs;exact .inl ⟨rfl,_,_,h1,by decide +kernel,by decide +kernel,by decide +kernel⟩
 |mark=>obtain⟨nv,h1,_⟩:=hs;exact .inl ⟨rfl,_,_,h1,by decide +kernel,by decide +kernel,by decide +kernel⟩
 |due=>obtain⟨nv,h1,_⟩:=hs;exact .inl ⟨rfl,_,_,h1,by decide +kernel,by decide +kernel,by decide +kernel⟩
 |fold=>obtain⟨nv,h1,_⟩:=hs;exact .inl ⟨rfl,_,_,h1,by decide +kernel,by decide +kernel,by decide +kernel⟩
 |gone=>obtain⟨nv,h1,_⟩:=hs;exact .inl ⟨rfl,_,_,h1,by decide +kernel,by decide +kernel,by decide +kernel⟩
 |move un=>obtain⟨nv,uv,pv,h1,h2,h3,_⟩:=hs;exact .inr (.inl ⟨_,_,_,_,nv,uv,pv,h1,h2,h3,un,rfl⟩)
 |join un=>obtain⟨nv,mv,h1,h2,h3⟩:=hs;exact .inr (.inr (.inl ⟨_,_,_,_,nv,mv,h1,h2,h3,un,rfl⟩))
 |part hl=>obtain⟨nv,mv,pv,h1,h2,h3,_⟩:=hs;exact .inr (.inr (.inr ⟨_,_,_,nv,mv,pv,h1,h2,hl,rfl⟩))
def mL(C cB cF:Addr):Sp:=fun vs H Q E=>∃(p d g st:Addr) (ol:Ol) (s:Sd) (r:Option Bool),vs=[.ref p,.ref st]/\OlAt C H p d g ol/\StAt H st s/\Bd ol s r/\(∀n it,look ol n=some it->it.tx.length<=400)/\(r=some true->E (.ref cB) none H)/\(r=some false->E (.ref cF) none H)/\(r=none->Q .non H)
theorem fP{f C cB cF:Addr}{fd:FuncData}(F:Fun K "check_bounds" "Plain.check_bounds" bV f fd)(T:Txt K C)(M_at_or_beneath:MFn P w K mg base 1 C "at_or_beneath" ["self","one","other"] (qR C)){tk:Tok}(g_TEXT:mg "TEXT" = some (.int 2 tk))(z_len:mg "len" = none)(x_Beneath:ExCls K cB)(g_Beneath:mg "Beneath" = some (.ref cB))(x_Far:ExCls K cF)(g_Far:mg "Far" = some (.ref cF)):FnOk P w K mg base (CXr P w) 2 f fd ["self","step"] (mL C cB cF):=by
 refine F.okX gj (fun vs H Q E h=>?_) (fun cdv A outer s H vs Q E hr h=>?_)
 ·obtain⟨p,d,g,st,ol,sd,r,rfl,_⟩:=h;rfl
 obtain⟨p,d,g,st,ol,sd,r,rfl,O,hs,hb,htx,q1,q2,q3⟩:=h;obtain⟨kvs,S,R⟩:=id O;obtain⟨⟨dx,h1⟩,h2,h3,h4⟩:=id S;refine⟨_,(b_c (aL (t_w (cJ (aw bC (aB ax (q_v 1) ah) aq) (cc (ja (iB M_at_or_beneath (hr.mono (by decide)) (q_v 0) (q_a (aB ax (q_v 1) ah) (q_a (aB ax (q_v 1) ah) aj))))))) (b_1 (iY (dj bU) rfl x_Beneath g_Beneath (q_a aq aj))) b_0)
   (b_c (aL (t_w (cJ (aw bC (aB ax (q_v 1) ah) aq) (cc (ja (iB M_at_or_beneath (hr.mono (by decide)) (q_v 0) (q_a (aB ax (q_v 1) ah) (q_a (aB ax (q_v 1) ah) aj))))))) (b_1 (iY (dj bU) rfl x_Beneath g_Beneath (q_a aq aj))) b_0)
   (b_1 (aL (t_w (cJ (aw bC (aB ax (q_v 1) ah) aq) (cc (aw oQ (aB ax (q_v 1) ah) (q_B nZ z_len YJ (q_a (aB ax (di hr.units (cH (q_v 0)) (aB ax (q_v 1) ah)) (oU g_TEXT)) aj)))))) (b_1 (iY (dj bU) rfl x_Far g_Far (q_a aq aj))) b_0)))),?_⟩
 try rw[cxK]
 rcases xR hs hb with⟨hr',wd,ps,hst,n1,n2,n3⟩|⟨n,u,k,b,nv,uv,pv,hst,hn,hu,un,hr'⟩|⟨n,m,k,b,nv,mv,hst,hn,hm,un,hr'⟩|⟨n,a,it,nv,mv,pv,hst,hn,hl,hr'⟩
 ·refine(vix rfl (SqT.of hst) at0 ⟨rfl,_,rfl,bR n1 (aA ?_)⟩);refine(vix rfl (SqT.of hst) at0 ⟨rfl,_,rfl,bR n2 (aA ?_)⟩);exact(vix rfl (SqT.of hst) at0 ⟨rfl,_,rfl,bR n3 (aA (q3 hr'))⟩)
 ·refine(vix rfl (SqT.of hst) at0 ⟨rfl,_,rfl,oB ?_⟩);refine⟨_,rfl,p,dx,_,rfl,h1,cO _ _,vix rfl (SqT.of hst) at2 (vix rfl (SqT.of hst) at1 ⟨p,d,g,ol,uv,nv,u,n,k,b,rfl,O,hu,hn,un,_,rfl,?_⟩)⟩;cases b with
  |true=>exact bw ⟨sz rfl,q1 hr'⟩
  |false =>refine aA ?_;refine(vix rfl (SqT.of hst) at0 ⟨rfl,_,rfl,bR (by decide +kernel) (aA ?_)⟩);exact(vix rfl (SqT.of hst) at0 ⟨rfl,_,rfl,bR (by decide +kernel) (aA (q3 hr'))⟩)
 ·refine(vix rfl (SqT.of hst) at0 ⟨rfl,_,rfl,bR (by decide +kernel) (aA ?_)⟩);refine(vix rfl (SqT.of hst) at0 ⟨rfl,_,rfl,oB ?_⟩);refine⟨_,rfl,p,dx,_,rfl,h1,cO _ _,vix rfl (SqT.of hst) at1 (vix rfl (SqT.of hst) at2 ⟨p,d,g,ol,nv,mv,some n,m,k,b,rfl,O,hn,hm,un,_,rfl,?_⟩)⟩;cases b with
  |true=>exact bw ⟨sz rfl,q1 hr'⟩
  |false =>refine aA ?_;exact(vix rfl (SqT.of hst) at0 ⟨rfl,_,rfl,bR (by decide +kernel) (aA (q3 hr'))⟩)
 ·refine(vix rfl (SqT.of hst) at0 ⟨rfl,_,rfl,bR (by decide +kernel) (aA ?_)⟩);refine(vix rfl (SqT.of hst) at0 ⟨rfl,_,rfl,bR (by decide +kernel) (aA ?_)⟩);refine(vix rfl (SqT.of hst) at0 ⟨rfl,_,rfl,oB ?_⟩);obtain⟨iv,e1,ia,uv,pv',rfl,e2,e3,e4⟩:=aT R hl;obtain⟨nb,rfl,hnb⟩:=hn;refine(vix rfl (SqT.of hst) at2 ⟨_,rfl,p,C,dx,_,_,rfl,h1,T.cl,T.nH,aZ _ _,vix rfl (SqT.of hst) at1 ⟨d,.ref ia,rfl,e1▸DGet.t (k:=nk n) h2 hnb,ia,_,_,_,rfl,rfl,SqT.of e2,at2,it.tx,rfl,(by have:=htx n it hl;omega),_,_,rfl,rfl,_,rfl,?_⟩⟩);refine bM (fun c=>?_) (fun c=>?_)
  ·rw[if_pos (by omega)]at hr';exact⟨sz rfl,q2 hr'⟩
  ·rw[if_neg (by omega)]at hr';exact q3 hr'
def dY:Option Nm->PyData
 |none=>.none
 |some n=>.tuple [.int n.1,.int n.2]
theorem lg{H:Hp}{v:V}{u:Option Nm}(h:UpAt H v u):Dt H (dY u) v/\(dY u).canLay0=true/\(dY u).depth<=1:=by
 cases u with
 |none =>obtain rfl:v=.non:=h;exact⟨by simp only[dY,Dt],rfl,by decide⟩
 |some n =>obtain⟨b,rfl,e⟩:=h;refine⟨?_,by simp[dY,PyData.canLay0,PyData.canLayAll0],by simp[dY,PyData.depth,PyData.depthAll]⟩;simp only[dY,Dt,DtAll];exact⟨b,_,rfl,.inl e,_,_,rfl,rfl,_,_,rfl,rfl,rfl⟩
theorem BW(u v:Option Nm):PyData.eqv (dY u) (dY v)=decide (u=v):=by
 cases u with
 |none=>cases v<;>rfl
 |some n =>
  cases v with
  |none=>rfl
  |some m =>
   have:=gG [n.1,n.2] [m.1,m.2];show PyData.eqv (.tuple ([n.1,n.2].map PyData.int)) (.tuple ([m.1,m.2].map PyData.int))=_;rw[this,decide_eq_decide];constructor
   ·intro z;injection z with z1 z2;injection z2 with z2 _;exact ZW some (Prod.ext z1 z2)
   ·intro z;rw[Zi z]
theorem vM{β:Type}{l:As β}{n m:Nm}{i:β}:(look (l.map fun p=>if p.1=n then(p.1,i)else p) m)=if m=n then(look l m).map (fun _=>i)else look l m:=by
 induction l with
 |nil=>split<;>rfl
 |cons p l ih =>
  rw[Zx];unfold look;by_cases c:p.1=n
  ·rw[if_pos c];by_cases c2:p.1=m
   ·rw[if_pos c2,if_pos c2,if_pos (c2▸c)];rfl
   ·rw[if_neg c2,if_neg c2,ih]
  ·rw[if_neg c];by_cases c2:p.1=m
   ·rw[if_pos c2,if_pos c2,if_neg (fun z=>c (c2.trans z))]
   ·rw[if_neg c2,if_neg c2,ih]
theorem vL{β:Type}{l:As β}{n m:Nm}{i:β}(h:look l n=none):look (l++[(n,i)]) m=if m=n then some i else look l m:=by
 induction l with
 |nil =>
  show(if n=m then some i else none)=_;by_cases c:n=m
  ·rw[if_pos c,if_pos c.symm]
  ·rw[if_neg c,if_neg fun z=>c z.symm];rfl
 |cons p l ih =>
  rw[List.cons_append];unfold look at h ⊢;by_cases c:p.1=n
  ·rw[if_pos c]at h;cases h
  ·rw[if_neg c]at h;by_cases c2:p.1=m
   ·rw[if_pos c2,if_pos c2,if_neg fun z=>c (c2.trans z)]
   ·rw[if_neg c2,if_neg c2];exact ih h
theorem cX{β:Type}{l:As β}{n m:Nm}{i:β}:look (dH l n i) m=if m=n then some i else look l m:=by
 unfold dH;cases e:look l n with
 |none =>rw[if_neg (by simp)];exact vL e
 |some j =>
  rw[if_pos (show(some j).isSome=true from rfl),vM];by_cases c:m=n
  ·rw[if_pos c,if_pos c,c,e];rfl
  ·rw[if_neg c,if_neg c]
def All3(H:Hp)(kvs:List (List Key×V))(ws:List Str)(ps:List V)(bs:List Bool):Prop:=∀(i:Nat) (w:Str) (v:V) (b:Bool),ws[i]?=some w->ps[i]?=some v->bs[i]?=some b->PartB H kvs w v b
theorem All3.nil{H:Hp}{kvs:List (List Key×V)}:All3 H kvs [] [] []:=fun i w v b h=>by simp at h
theorem All3.cons{H:Hp}{kvs:List (List Key×V)}{ws:List Str}{ps:List V}{bs:List Bool}{w:Str}{v:V}{b:Bool}(h:PartB H kvs w v b)(t:All3 H kvs ws ps bs):All3 H kvs (w::ws) (v::ps) (b::bs):=fun i w' v' b' h1 h2 h3=>by
 cases i with
 |zero=>cases h1;cases h2;cases h3;exact h
 |succ i=>exact t i _ _ _ h1 h2 h3
def C6(ws:List Str)(bs:List Bool):Prop:=∀(i:Nat) (w:Str),ws[i]?=some w->isI w->bs[i]?=some true
def upB(ol:Ol):Option Nm->Bool
 |none=>true
 |some n=>(look ol n).isSome
section
variable{H:Hp}{kvs:List (List Key×V)}{ol:Ol}{v:V}{n:Nm}{u:Option Nm}
theorem AO(R:Rows H kvs ol)(h:NameIs H v (nk n)):PartB H kvs "new" v (!(look ol n).isSome):=⟨fun _=>⟨nk n,h,by rw[lT R]⟩,fun z=>absurd z (by decide +kernel)⟩
theorem yz(R:Rows H kvs ol)(h:NameIs H v (nk n)):PartB H kvs "item" v (look ol n).isSome:=⟨fun z=>absurd z (by decide +kernel),fun _=>.inr ⟨nk n,h,by rw[lT R]⟩⟩
theorem CA(R:Rows H kvs ol)(h:UpAt H v u):PartB H kvs "up" v (upB ol u):=⟨fun z=>absurd z (by decide +kernel),fun _=>by
 cases u with
 |none=>exact .inl ⟨h,rfl⟩
 | some n=>exact .inr ⟨nk n,h,by rw[lT R];rfl⟩⟩
theorem AQ{w:Str}(h1:w≠"new")(h2:¬isI w):PartB H kvs w v true:=⟨fun z=>absurd z h1,fun z=>absurd z h2⟩
end
theorem tK:isI "item":=.inl rfl
theorem Ad:isI "up":=.inr rfl
theorem gw{w:Str}(h:w="place"\/w="text"\/w="truth"\/w="whom"\/w="at"):w≠"new"/\¬isI w:=by rcases h with rfl|rfl|rfl|rfl|rfl<;>exact⟨by decide +kernel,by unfold isI;decide +kernel⟩
theorem CY:¬isI "new":=by unfold isI;decide +kernel
theorem BX:¬(("item":Str)="new")/\¬(("up":Str)="new"):=by decide +kernel
inductive Prt(H:Hp)(ol:Ol):List Str->List V->List Bool->List Nm->List Nm->Prop
 |nil:Prt H ol [] [] [] [] []
 |item {v:V} {n:Nm} {ws:List Str} {ps:List V} {bs:List Bool} {is ns:List Nm} (h:NameIs H v (nk n)) (t:Prt H ol ws ps bs is ns):Prt H ol ("item"::ws) (v::ps) ((look ol n).isSome::bs) (n::is) ns
 |up {v:V} {u:Option Nm} {ws:List Str} {ps:List V} {bs:List Bool} {is ns:List Nm} (h:UpAt H v u) (t:Prt H ol ws ps bs is ns):Prt H ol ("up"::ws) (v::ps) (upB ol u::bs) (u.toList++is) ns
 |new {v:V} {n:Nm} {ws:List Str} {ps:List V} {bs:List Bool} {is ns:List Nm} (h:NameIs H v (nk n)) (t:Prt H ol ws ps bs is ns):Prt H ol ("new"::ws) (v::ps) ((!(look ol n).isSome)::bs) is (n::ns)
 |oth {w:Str} {v:V} {ws:List Str} {ps:List V} {bs:List Bool} {is ns:List Nm} (h:w≠"new"/\¬isI w) (t:Prt H ol ws ps bs is ns):Prt H ol (w::ws) (v::ps) (true::bs) is ns
theorem Prt.all{H:Hp}{ol:Ol}{kvs:List (List Key×V)}(R:Rows H kvs ol){ws:List Str}{ps:List V}{bs:List Bool}{is ns:List Nm}(h:Prt H ol ws ps bs is ns):All3 H kvs ws ps bs/\ws.length=ps.length/\bs.length=ps.length:=by
 induction h with
 |nil=>exact⟨.nil,rfl,rfl⟩
 |item h _ ih=>exact⟨.cons (yz R h) ih.1,ZW (·+1) ih.2.1,ZW (·+1) ih.2.2⟩
 |up h _ ih=>exact⟨.cons (CA R h) ih.1,ZW (·+1) ih.2.1,ZW (·+1) ih.2.2⟩
 |new h _ ih=>exact⟨.cons (AO R h) ih.1,ZW (·+1) ih.2.1,ZW (·+1) ih.2.2⟩
 |oth h _ ih=>exact⟨.cons (AQ h.1 h.2) ih.1,ZW (·+1) ih.2.1,ZW (·+1) ih.2.2⟩
def cV(ol:Ol)(n:Nm):Bool:=(look ol n).isNone
theorem Prt.news{H:Hp}{ol:Ol}{ws:List Str}{ps:List V}{bs:List Bool}{is ns:List Nm}(h:Prt H ol ws ps bs is ns):(∀i:Nat,ws[i]?=some "new"->bs[i]?=some false->∃n∈ns,(look ol n).isSome=true)/\((∀i:Nat,ws[i]?=some "new"->bs[i]?=some true)->∀n∈ns,look ol n=none):=by
 induction h with
 |nil=>exact⟨(fun i e=>by simp at e),(fun _ n hn=>nomatch hn)⟩
 |item h _ ih =>
  refine⟨fun i e1 e2=>?_,fun z=>ih.2 fun i e=>z (i+1) e⟩;cases i with
  |zero=>exact absurd (Zi e1) BX.1
  |succ i=>exact ih.1 i e1 e2
 |up h _ ih =>
  refine⟨fun i e1 e2=>?_,fun z=>ih.2 fun i e=>z (i+1) e⟩;cases i with
  |zero=>exact absurd (Zi e1) BX.2
  |succ i=>exact ih.1 i e1 e2
 |@new v n ws ps bs is ns h _ ih =>
  refine⟨fun i e1 e2=>?_,fun z m hm=>?_⟩
  ·cases i with
   |zero =>have e2:(!(look ol n).isSome)=false:=Zi e2;exact⟨n,Zo,by rw[Bool.not_eq_false']at e2;exact e2⟩
   |succ i =>obtain⟨m,h1,h2⟩:=ih.1 i e1 e2;exact⟨m,Zh _ h1,h2⟩
  ·rcases Zq.mp hm with rfl|hm
   ·have e2:(!(look ol m).isSome)=true:=Zi (z 0 rfl);cases c:look ol m with
    |none=>rfl
    |some x=>rw[c]at e2;cases e2
   ·exact ih.2 (fun i e=>z (i+1) e) m hm
 |oth h _ ih =>
  refine⟨fun i e1 e2=>?_,fun z=>ih.2 fun i e=>z (i+1) e⟩;cases i with
  |zero=>exact absurd (Zi e1) h.1
  |succ i=>exact ih.1 i e1 e2
theorem Prt.items{H:Hp}{ol:Ol}{ws:List Str}{ps:List V}{bs:List Bool}{is ns:List Nm}(h:Prt H ol ws ps bs is ns):(C6 ws bs->∀n∈is,(look ol n).isSome=true) /\
  ∀(i:Nat) (w:Str) (v:V),ws[i]?=some w->ps[i]?=some v->isI w->bs[i]?=some false->(∀(j:Nat) (w':Str),j<i->ws[j]?=some w'->isI w'->bs[j]?=some true)->∃n,is.find? (cV ol)=some n/\NameIs H v (nk n):=by
 induction h with
 |nil=>exact⟨(fun _ n hn=>nomatch hn),(fun i w v e=>by simp at e)⟩
 |@item v n ws ps bs is ns h _ ih =>
  refine⟨fun z m hm=>?_,fun i w v' e1 e2 hi e3 pre=>?_⟩
  ·rcases Zq.mp hm with rfl|hm
   ·exact Zi (z 0 _ rfl tK)
   ·exact ih.1 (fun i w e hw=>z (i+1) w e hw) m hm
  ·cases i with
   |zero =>
    cases e2;have e3:(look ol n).isSome=false:=Zi e3;refine⟨n,?_,h⟩;rw[YM];unfold cV;cases c:look ol n with
    |none=>rfl
    |some x=>rw[c]at e3;cases e3
   |succ i =>
    obtain⟨m,h1,h2⟩:=ih.2 i w v' e1 e2 hi e3 fun j w' hj e hw=>pre (j+1) w' (by omega) e hw;have p0:(look ol n).isSome=true:=Zi (pre 0 _ (by omega) rfl tK);refine⟨m,?_,h2⟩;rw[List.find?_cons_of_neg]
    ·exact h1
    ·unfold cV;cases c:look ol n with
     |none=>rw[c]at p0;cases p0
     |some x=>intro z;cases z
 |@up v u ws ps bs is ns h _ ih =>
  refine⟨fun z m hm=>?_,fun i w v' e1 e2 hi e3 pre=>?_⟩
  ·rcases ZG.mp hm with hm|hm
   ·cases u with
    |none=>exact nomatch hm
    |some x =>
     obtain rfl:m=x:=by simpa using hm
     exact Zi (z 0 _ rfl Ad)
   ·exact ih.1 (fun i w e hw=>z (i+1) w e hw) m hm
  ·cases i with
   |zero =>
    cases e2;cases u with
    |none=>cases e3
    |some x =>
     have e3:(look ol x).isSome=false:=Zi e3;refine⟨x,?_,h⟩;show List.find? _ (x::is)=_;rw[YM];unfold cV;cases c:look ol x with
     |none=>rfl
     |some y=>rw[c]at e3;cases e3
   |succ i =>
    obtain⟨m,h1,h2⟩:=ih.2 i w v' e1 e2 hi e3 fun j w' hj e hw=>pre (j+1) w' (by omega) e hw;have p0:upB ol u=true:=Zi (pre 0 _ (by omega) rfl Ad);refine⟨m,?_,h2⟩;cases u with
    |none=>exact h1
    |some x =>
     have p0:(look ol x).isSome=true:=p0;show List.find? _ (x::is)=_;rw[List.find?_cons_of_neg]
     ·exact h1
     ·unfold cV;cases c:look ol x with
      |none=>rw[c]at p0;cases p0
      |some y=>intro z;cases z
 |new h _ ih =>
  refine⟨fun z=>ih.1 fun i w e hw=>z (i+1) w e hw,fun i w v' e1 e2 hi e3 pre=>?_⟩;cases i with
  |zero=>cases e1;exact absurd hi CY
  |succ i=>exact ih.2 i w v' e1 e2 hi e3 fun j w' hj e hw=>pre (j+1) w' (by omega) e hw
 |oth h _ ih =>
  refine⟨fun z=>ih.1 fun i w e hw=>z (i+1) w e hw,fun i w v' e1 e2 hi e3 pre=>?_⟩;cases i with
  |zero=>cases e3
  |succ i=>exact ih.2 i w v' e1 e2 hi e3 fun j w' hj e hw=>pre (j+1) w' (by omega) e hw
theorem BH{H:Hp}{ol:Ol}{st:Addr}{s:Sd}(h:StAt H st s):∃(wd:Str) (ws:List Str) (ps:List V) (bs:List Bool),H st=some (.tup (.str wd::ps))/\PyProof.Rows.KTD.datumAt wd ST=some (tw ws)/\Prt H ol ws ps bs s.items s.news:=by
 have wp:=gw (w:="place") (.inl rfl);have wt:=gw (w:="text") (.inr (.inl rfl));have wr:=gw (w:="truth") (.inr (.inr (.inl rfl)));have ww:=gw (w:="whom") (.inr (.inr (.inr (.inl rfl))));have wa:=gw (w:="at") (.inr (.inr (.inr (.inr rfl))));cases s with
 |put n u pl tx =>obtain⟨nv,uv,pv,h1,h2,h3,h4⟩:=h;have:=Prt.up (ol:=ol) h3 (.oth (v:=pv) wp (.oth (v:=.str tx) wt .nil));rw[ZQ]at this;exact⟨_,_,_,_,h1,rfl,.new h2 this⟩
 |move n u pl =>obtain⟨nv,uv,pv,h1,h2,h3,h4⟩:=h;have:=Prt.up (ol:=ol) h3 (.oth (v:=pv) wp .nil);rw[ZQ]at this;exact⟨_,_,_,_,h1,rfl,.item h2 this⟩
 |write n tx =>obtain⟨nv,h1,h2⟩:=h;exact⟨_,_,_,_,h1,rfl,.item h2 (.oth wt .nil)⟩
 |mark n b =>obtain⟨nv,h1,h2⟩:=h;exact⟨_,_,_,_,h1,rfl,.item h2 (.oth wr .nil)⟩
 |due n b =>obtain⟨nv,h1,h2⟩:=h;exact⟨_,_,_,_,h1,rfl,.item h2 (.oth ww .nil)⟩
 |fold n b =>obtain⟨nv,h1,h2⟩:=h;exact⟨_,_,_,_,h1,rfl,.item h2 (.oth wr .nil)⟩
 |part n a m pl =>obtain⟨nv,mv,pv,h1,h2,h3,h4⟩:=h;exact⟨_,_,_,_,h1,rfl,.item h2 (.oth wa (.new h3 (.oth wp .nil)))⟩
 |join n m =>obtain⟨nv,mv,h1,h2,h3⟩:=h;exact⟨_,_,_,_,h1,rfl,.item h2 (.item h3 .nil)⟩
 |gone n =>obtain⟨nv,h1,h2⟩:=h;exact⟨_,_,_,_,h1,rfl,.item h2 .nil⟩
inductive Out
 |taken
 |none (n:Nm)
 |beneath
 |far
 |ok
def B9:Option Bool->Out
 |some true=>.beneath
 |some false=>.far
 |none=>.ok
inductive Due(ol:Ol)(s:Sd):Out->Prop
 |taken (n:Nm) (h:n∈s.news) (t:(look ol n).isSome=true):Due ol s .taken
 |none (n:Nm) (h:∀m∈s.news,look ol m=none) (f:s.items.find? (cV ol)=some n):Due ol s (.none n)
 |bd (r:Option Bool) (h:∀m∈s.news,look ol m=none) (i:∀m∈s.items,(look ol m).isSome=true) (b:Bd ol s r):Due ol s (B9 r)
def hM(u:Option Nm)(pl:List Int)(tx:Str):It:=⟨u,pl,tx,false,none,false⟩
def iZ(C cT cN cB cF:Addr):Sp:=fun vs H Q E=>∃(p d g st:Addr) (ol:Ol) (s:Sd) (o:Out),vs=[.ref p,.ref st]/\OlAt C H p d g ol/\ol.length<=300/\StAt H st s/\(∀n it,look ol n=some it->it.tx.length<=400)/\Due ol s o /\
 (o=.taken->∀H',Same H H'->E (.ref cT) none H')/\(∀n,o=.none n->∀H' dd v,Same H H'->H' dd=some (.xd [("name",v)])->NameIs H' v (nk n)->E (.ref cN) (some dd) H') /\
 (o=.beneath->∀H',Same H H'->E (.ref cB) none H')/\(o=.far->∀H',Same H H'->E (.ref cF) none H') /\
 (o=.ok->∃n u pl tx,s=.put n u pl tx/\∀H',But d H H'->OlAt C H' p d g (dH ol n (hM u pl tx))->Q .non H')
abbrev fq:Stmt:=bG (top 21) 1
abbrev nS:List Str:=["self","step","word"]
theorem il:FnScope nS ["self","step"] (am fq):=⟨rfl,rfl,rfl,by decide +kernel,rfl,by decide +kernel,by decide +kernel⟩
theorem lP{f C cT cN cB cF:Addr}{fd:FuncData}(F:Fun K "step" "Plain.step" fq f fd)(MX_check_names:MFnX P w K mg base 3 C "check_names" ["self","step"] (pq C cT cN))(MX_check_bounds:MFnX P w K mg base 2 C "check_bounds" ["self","step"] (mL C cB cF))(M_bring_in:MFn P w K mg base 1 C "bring_in" ["self","name","up","place","text"] (qK C)):FnOk P w K mg base (CXr P w) 4 f fd ["self","step"] (iZ C cT cN cB cF):=by
 refine F.okX il (fun vs H Q E h=>?_) (fun cdv A outer s H vs Q E hr h=>?_)
 ·obtain⟨p,d,g,st,ol,sd,o,rfl,_⟩:=h;rfl
 obtain⟨p,d,g,st,ol,sd,o,rfl,O,l3,hs,htx,du,qT,qN,qB,qF,q⟩:=h;obtain⟨kvs,S,R⟩:=id O;obtain⟨⟨dx,h1⟩,h2,h3,h4⟩:=id S;have lk:=oW R;obtain⟨wd,ws,ps,bs,hst,dat,pr⟩:=BH (ol:=ol) hs;obtain⟨a3,l1,l2⟩:=pr.all R;obtain⟨n1,n2⟩:=pr.news;obtain⟨i1,i2⟩:=pr.items;refine⟨_,(b_c (cR (fZ MX_check_names (xq bU) (hr.mono (by decide)) (q_v 0) (q_a (q_v 1) aj)))
   (b_c (cR (fZ MX_check_bounds (xq bU) (hr.mono (by decide)) (q_v 0) (q_a (q_v 1) aj)))
   (b_c (ay (i:=2) il.nd (aB ax (q_v 1) ah))
   (b_1 (aL (aw bC (q_v 2) aq) (b_1 (cR (iB M_bring_in (hr.mono (by decide)) (q_v 0) (q_a (aB ax (q_v 1) ah) (q_a (aB ax (q_v 1) ah) (q_a (aB ax (q_v 1) ah) (q_a (aB ax (q_v 1) ah) aj))))))) (b_1 (aL (aw bC (q_v 2) aq) (b_1 gi) (b_1 (aL (aw bC (q_v 2) aq) (b_1 gi) (b_1 (aL (aw bC (q_v 2) aq) (b_1 gi) (b_1 gi)))))))))))),?_⟩
 try rw[cxK]
 refine⟨_,rfl,p,dx,_,rfl,h1,cO _ _,_,rfl,p,d,g,st,kvs,[],wd,ws,ps,bs,rfl,S,hst,dat,l1,l2,a3,fun⟨i,e1,e2⟩=>?_,fun nn=>⟨fun all H1 s1=>?_,fun i w' v e1 e2 hi e3 pre H' dd sm hd=>?_⟩⟩
 ·obtain⟨n,hn,hl⟩:=n1 i e1 e2;have no:∀{A:Prop},(∀m∈sd.news,look ol m=none)->A:=fun h=>by rw[h n hn]at hl;cases hl
  cases du with
  |taken m h t=>exact qT rfl
  |none m h f=>exact no h
  |bd r h i b=>exact no h
 ·have nn:=n2 nn;have ii:=i1 all;cases du with
  |taken m h t =>rw[nn m h]at t;cases t
  |none m h f =>
   have:=ii m (List.mem_of_find?_eq_some f);have z:=List.find?_some f;unfold cV at z;cases c:look ol m with
   |none=>rw[c]at this;cases this
   |some x=>rw[c]at z;cases z
  |bd r h i b =>
   have hs1:=hs.ts (Same.ts s1);refine⟨_,rfl,p,dx,_,rfl,s1 _ _ h1,cO _ _,_,rfl,p,d,g,st,ol,sd,r,rfl,O.same s1,hs1,b,htx,fun e=>?_,fun e=>?_,fun e=>?_⟩
   ·subst e;exact qB rfl H1 s1
   ·subst e;exact qF rfl H1 s1
   ·subst e;obtain⟨n,u,pl,tx,rfl,q'⟩:=q rfl;obtain⟨nv,uv,pv,hst',hn,hu,hp⟩:=hs1;have e1:=SqT.of (K:=K) hst';have S1:=S.same s1;have R1:=R.ts (Same.ts s1);have y1:=s1 _ _ h1;refine(vix rfl e1 at0 ?_);refine⟨_,rfl,rfl,_,rfl,oB ?_⟩;exact⟨_,rfl,p,dx,_,rfl,y1,cO _ _,vix rfl e1 at1 (vix rfl e1 at2 (vix rfl e1 at3 (vix rfl e1 at4 ⟨p,d,g,kvs,[],nv,uv,pv,.str tx,nk n,rfl,S1,hn,by omega,fun t H2 s2 e2=>q' _ (But.put (s1.trans s2) _) (AA S1 R1 s2 ⟨t,uv,pv,rfl,e2,hu.ts (Same.ts s2),hp.ts (Same.ts s2)⟩)⟩)))⟩
 ·obtain⟨n,f,hn⟩:=i2 i w' v e1 e2 hi e3 pre;have nn:=n2 nn;cases du with
  |taken m h t =>rw[nn m h]at t;cases t
  |none m h f' =>rw[f]at f';cases f';exact qN n rfl H' dd v sm hd (hn.same sm)
  |bd r h i b =>
   have:=i n (List.mem_of_find?_eq_some f);have z:=List.find?_some f;unfold cV at z;cases c:look ol n with
   |none=>rw[c]at this;cases this
   |some x=>rw[c]at z;cases z
abbrev dU:Str:=(("Plain.sorted_names":Str)++".<locals>.")++"<lambda>"
def Dk:Stmt->Expr
 |.Return (some e) _=>e
 |_=>.Name "" ⟨0,0,0,0⟩
def De:Expr->Expr
 |.Call _ _ (k::_) _=>k.value
 |e=>e
def Dd:Expr->Expr
 |.Lambda _ b _ _=>b
 |e=>e
def Df:Expr->Scope
 |.Lambda _ _ s _=>s
 |_=>default
def eZ:Expr->Pos
 |.Lambda _ _ _ p=>p
 |_=>⟨0,0,0,0⟩
abbrev br:Stmt:=bG (top 21) 15
abbrev gB:List Str:=["self"]
theorem gq:FnScope gB ["self"] (am br):=⟨rfl,rfl,rfl,by decide +kernel,rfl,by decide +kernel,by decide +kernel⟩
abbrev dB:Expr:=De (Dk ((aV br).getD 0 (.Pass ⟨0,0,0,0⟩)))
def kyP(x:Nm×It):ZKey:=.p x.2.pl [x.1.1,x.1.2]
def BF(C:Addr)(kv:V):Sp:=fun vs H Q _=>∃(p d g:Addr) (ol:Ol) (v:V) (n:Nm) (it:It),kv=.ref p/\vs=[v]/\OlAt C H p d g ol/\NameIs H v (nk n)/\look ol n=some it/\∀kv' H',Same H H'->(kyP (n,it)).at H' kv'->Q kv' H'
theorem bA{C:Addr}{tk:Tok}(T:Txt K C)(g_PLACE:mg "PLACE" = some (.int 1 tk)):LamOkX P w K mg base 1 dU (Dd dB) (Df dB) "name" "self" (BF C):=by refine⟨⟨rfl,rfl,rfl,rfl,rfl,by decide +kernel,by decide +kernel,by decide⟩,fun f c' c kv A outer s H v Q hr h=>?_⟩;obtain⟨p,d,g,ol,v',n,it,rfl,e,⟨kvs,S,R⟩,hn,hl,q⟩:=h;cases e;obtain⟨⟨dx,h1⟩,h2,h3,h4⟩:=id S;obtain⟨nb,rfl,hnb⟩:=id hn;obtain⟨iv,e1,ia,uv,pv,rfl,e2,e3,⟨pb,rfl,e4⟩⟩:=aT R hl;refine⟨_,(au (q_a (aB (BY (K:=K) rfl) (di hr.units (Bm (K:=K) rfl (q_v 1)) (q_v 0)) (oU g_PLACE)) (q_a (q_v 0) aj))),?_⟩;refine⟨_,rfl,p,C,dx,_,_,rfl,h1,T.cl,T.nH,aZ _ _,_,rfl,d,.ref ia,rfl,e1▸DGet.t (k:=nk n) h2 hnb,?_⟩;refine⟨ia,_,_,_,rfl,rfl,SqT.of e2,at1,_,rfl,sz rfl,fun t gt=>?_⟩;have wt:=ag gt (.tup [.ref pb,.ref nb]);exact q _ _ wt ⟨t,pb,nb,rfl,ad,wt _ _ e4,wt _ _ hnb⟩
def I0:Nm×It:=((0,0),⟨none,[],"",false,none,false⟩)
def leP(x y:Nm×It):Prop:=HT.lexLt (kyP y).nums (kyP x).nums=false
theorem wI{ol:Ol}{p:Array Nat}(hp:POk ol.length p)(hs:LS (fun i j=>HT.lexLt (((ol.map kyP).map ZKey.nums).getD i []) (((ol.map kyP).map ZKey.nums).getD j [])) p ol.length):(p.toList.map fun i=>ol.getD i I0).Pairwise leP/\(p.toList.map fun i=>ol.getD i I0).Perm ol:=by
 have ep:p.toList.Perm (List.range ol.length):=by have:=Array.perm_iff_toList_perm.mp hp;simpa using this
 refine⟨?_,?_⟩
 ·rw[List.pairwise_map];have hz:p.size=ol.length:=by have:=hp.size_eq;simpa using this
  rw[Yk];intro i j hi hj hij;rw[Zs]at hi hj;have lx:=(hs i j hij (by omega)).1;have e1:gA p i=p.toList[i]'(by rw[Zs];exact hi):=by rw[aI,Ze,Zb (by rw[Zs];exact hi)];rfl
  have e2:gA p j=p.toList[j]'(by rw[Zs];exact hj):=by rw[aI,Ze,Zb (by rw[Zs];exact hj)];rfl
  have m1:p.toList[i]'(by rw[Zs];exact hi)<ol.length:=List.mem_range.mp (ep.mem_iff.mp (YI _));have m2:p.toList[j]'(by rw[Zs];exact hj)<ol.length:=List.mem_range.mp (ep.mem_iff.mp (YI _));dsimp only at lx;rw[e1,e2]at lx;generalize p.toList[i]'(by rw[Zs];exact hi)=a at *;generalize p.toList[j]'(by rw[Zs];exact hj)=b at *;have ga:∀k,k<ol.length->((ol.map kyP).map ZKey.nums).getD k []=(kyP (ol.getD k I0)).nums:=fun k hk=>by simp[hk]
  rw[ga a m1,ga b m2]at lx;exact lx
 ·have:=ep.map fun i=>ol.getD i I0;have e:((List.range ol.length).map fun i=>ol.getD i I0)=ol:=by refine List.ext_getElem (by simp) fun i h1 h2=>?_;simp[h2]
  rw[e]at this;exact this
abbrev KsAt(H:Hp)(M:Ol)(ks:List V):Prop:=Paired (fun x v=>NameIs H v (nk x.1)) M ks
theorem KsAt.ts{H H':Hp}{M:Ol}{ks:List V}(x:KsAt H M ks)(s:TS H H'):KsAt H' M ks:=Paired.mapP x fun _ _ z=>z.ts' s
theorem nB{H H':Hp}{kvs:List (List Key×V)}{ol:Ol}{ks:List V}(x:dO H kvs ks)(r:Rows H' kvs ol):KsAt H ol ks:=by
 induction x generalizing ol with
 |nil=>cases r;exact .nil
 |cons h _ ih =>
  cases r with
  |cons a b =>obtain⟨c,rfl,hc⟩:=h;exact .cons ⟨c,rfl,by rw[<-a.1];exact hc⟩ (ih b)
theorem eX{H:Hp}{M:Ol}{ks:List V}(x:KsAt H M ks):∀(i:Nat) (v:V),ks[i]?=some v->∃m,M[i]?=some m/\NameIs H v (nk m.1):=by
 induction x with
 |nil=>intro i v h;simp at h
 |cons h _ ih =>
  intro i v hv;cases i with
  |zero=>cases hv;exact⟨_,rfl,h⟩
  |succ i=>exact ih i v hv
theorem yf{H:Hp}{M:Ol}{ks:List V}(x:KsAt H M ks):∀(l:List Nat),(∀i∈l,i<M.length)->KsAt H (l.map fun i=>M.getD i I0) (l.map fun i=>ks.getD i .non):=fun l=>by
 induction l with
 |nil=>intro _;exact .nil
 |cons i l ih =>
  intro h;have hi:=h i Zo;have hk:i<ks.length:=by rw[<-ZI x];exact hi
  obtain⟨m,hm,hn⟩:=eX x i _ (Zb hk);refine .cons ?_ (ih fun j hj=>h j (Zh _ hj));dsimp only;rw[Ze,Ze,hm,Zb hk];exact hn
theorem iX{T:Addr}{H H':Hp}{q:Str}{pos:Pos}(s:SameT T H H')(tab:aP q T pos H):TS H H':=fun a zs e=>s _ _ e fun z=>by obtain⟨ps,e1,_⟩:=tab;rw[z,e1]at e;cases e
theorem PlainAt.sameT{C T:Addr}{H H':Hp}{p d g:Addr}{kvs gvs:List (List Key×V)}{q:Str}{pos:Pos}(x:PlainAt C H p d g kvs gvs)(s:SameT T H H')(tab:aP q T pos H):PlainAt C H' p d g kvs gvs:=by
 obtain⟨⟨dx,h1⟩,h2,h3,h4⟩:=x;obtain⟨ps,e1,_⟩:=tab;refine⟨⟨dx,s _ _ h1 fun z=>?_⟩,s _ _ h2 fun z=>?_,s _ _ h3 fun z=>?_,h4⟩
 ·rw[z,e1]at h1;cases h1
 ·rw[z,e1]at h2;cases h2
 ·rw[z,e1]at h3;cases h3
theorem OlAt.sameT{C T:Addr}{H H':Hp}{p d g:Addr}{ol:Ol}{q:Str}{pos:Pos}(x:OlAt C H p d g ol)(s:SameT T H H')(tab:aP q T pos H):OlAt C H' p d g ol:=by obtain⟨kvs,a,b⟩:=x;exact⟨kvs,a.sameT s tab,b.ts (iX s tab)⟩
theorem bO{β:Type}{l:As β}(nd:(l.map (·.1)).Nodup){i:Nat}{x:Nm×β}(h:l[i]?=some x):look l x.1=some x.2:=by
 induction l generalizing i with
 |nil=>simp at h
 |cons y r ih =>
  rw[Zx,ZR]at nd;unfold look;cases i with
  |zero=>cases h;rw[if_pos rfl]
  |succ i =>have h:r[i]?=some x:=h;rw[if_neg fun(z:y.1=x.1)=>nd.1 (by rw[z];exact List.mem_map_of_mem (ZZ h))];exact ih nd.2 h
def pD(C T:Addr):Sp:=fun vs H Q _=>∃(p d g:Addr) (ol:Ol),vs=[.ref p]/\OlAt C H p d g ol/\ol.length<=300/\(ol.map (·.1)).Nodup/\aP dU T (eZ dB) H /\
 ∀(D:Addr) (H':Hp) (M:Ol) (ks:List V),M.Perm ol->M.Pairwise leP->SameT T H H'->aP dU T (eZ dB) H'->H D=none->H' D=some (.lst ks)->KsAt H' M ks->Q (.ref D) H'
theorem mG{H H':Hp}{D:Addr}{T:Addr}(s:SameT T H H')(h:H' D=none)(hT:∃o,H' T=some o):H D=none:=by
 cases e:H D with
 |none=>rfl
 |some o =>
  by_cases z:D=T
  ·obtain⟨o',ho⟩:=hT;rw[z,ho]at h;cases h
  ·rw[s _ _ e z]at h;cases h
theorem aU{q:Str}{T:Addr}{pos:Pos}{H H':Hp}(h:aP q T pos H)(s:Same H H'):aP q T pos H':=by obtain⟨ps,e1,e2,e3⟩:=h;exact⟨ps,s _ _ e1,e2,e3.imp id fun⟨c,z1,z2⟩=>⟨c,z1,s _ _ z2⟩⟩
theorem fX{f C0 c0 T:Addr}{fd:FuncData}{tk:Tok}(F:Fun K "sorted_names" "Plain.sorted_names" br f fd)(hcode:fd.code=.ref c0)(C:CodeHd base c0 T)(B:Blt base mg)(X_Plain:Txt K C0)(g_PLACE:mg "PLACE" = some (.int 1 tk))(z_sorted:mg "sorted" = none):FnOk P w K mg base CX0 5 f fd ["self"] (pD C0 T):=by
 have bA:=bA (P:=P) (w:=w) (K:=K) (mg:=mg) (base:=base) X_Plain g_PLACE;refine F.okC hcode gq (fun vs H Q E h=>?_) (fun A outer s H vs Q E hr h=>?_)
 ·obtain⟨p,d,g,ol,rfl,_⟩:=h;rfl
 obtain⟨p,d,g,ol,rfl,hO,hl,nd,tab,q⟩:=h;obtain⟨kvs,S,R⟩:=id hO;obtain⟨⟨dx,h1⟩,h2,h3,h4⟩:=id S;refine⟨_,(b_1 (aH (wx (j:=0) rfl z_sorted rfl C B (bA) (hr.mono (by decide)) (q_a (cH (q_v 0)) aj) rfl rfl rfl rfl))),?_⟩;refine⟨_,rfl,p,C0,dx,_,_,rfl,h1,X_Plain.cl,X_Plain.nH,aZ _ _,d,kvs,.ref p,rfl,rfl,h2,tab,fun ks H2 sT tab2 kat=>?_⟩;have O2:=hO.sameT sT tab;have ka:=nB kat R;have lk:ks.length=ol.length:=(ZI ka).symm;refine⟨by omega,ol.map kyP,by rw[Zu,lk],fun k hk=>?_,fun i v key H' hv hk sm R' kR=>?_,fun pp H3 D hp hs sm gD=>?_⟩
 ·obtain⟨x,_,rfl⟩:=y3.mp hk;exact⟨_,_,rfl⟩
 ·obtain⟨m,hm,hn⟩:=eX ka i v hv;rw[ZA,hm]at hk;cases hk;exact⟨p,d,g,ol,v,m.1,m.2,rfl,rfl,O2.same sm,hn.ts' (fun a zs e=>sm _ _ e),bO nd hm,fun kv' H'' s' a=>kR kv' H'' s' a⟩
 ·rw[lk]at hp hs;obtain⟨so,pe⟩:=wI hp hs;have pl:∀i∈pp.toList,i<ol.length:=fun i hi=>by have:=(hp.mem_iff).mp (Array.mem_toList_iff.mp hi);simpa using this
  have wD:=ag gD (.lst (pp.toList.map fun i=>ks.getD i .non));have tab3:=aU tab2 sm;have s03:SameT T H H3:=sT.trans (.of sm);refine q D _ _ _ pe so (s03.trans (.of wD)) (aU tab3 wD) (mG s03 gD ?_) ad ((yf (ka.ts fun a zs e=>sm _ _ e) _ pl).ts fun a zs e=>wD _ _ e);obtain⟨ps,e1,_⟩:=tab3;exact⟨_,e1⟩
def grp(M:Ol)(u:Option Nm):Ol:=M.filter fun x=>decide (x.2.up=u)
def upK(u:Option Nm):Option (List Key):=u.map nk
theorem qW{u v:Option Nm}(h:upK u=upK v):u=v:=by
 cases u with
 |none=>cases v with
  |none=>rfl
  |some n=>cases h
 |some m=>cases v with
  |none=>cases h
  |some n=>rw[kC (Zi h)]
structure LowAt(P:Program)(w:World)(H:Hp)(D:Addr)(M:Ol)(kls:List (OK1×Addr)):Prop where
 od:OdAt P w H D kls
 gr:∀e∈kls,∃(u:Option Nm) (ks:List V),okD e.1=upK u/\H e.2=some (.lst ks)/\KsAt H (grp M u) ks
 al:∀m∈M,(aW kls (upK m.2.up)).isSome=true
structure LowI(P:Program)(w:World)(H2 H:Hp)(D:Addr)(M:Ol)(kls:List (OK1×Addr)):Prop where
 lo:LowAt P w H D M kls
 nl:∀e∈kls,H2 e.2=none
 nd:(kls.map (·.2)).Nodup
 le:kls.length<=M.length
theorem UpAt.key{H:Hp}{v:V}{u:Option Nm}(h:UpAt H v u):∃e:OK1,lm H v e/\okD e=upK u:=by
 cases u with
 |none=>exact⟨none,h,rfl⟩
 |some n =>obtain⟨b,rfl,hb⟩:=h;exact⟨some (nk n,b),⟨rfl,hb⟩,rfl⟩
theorem kH{kls:List (OK1×Addr)}{k:Option (List Key)}{l:Addr}(h:aW kls k=some l):∃e∈kls,okD e.1=k/\e.2=l:=by unfold aW at h;obtain⟨e,he,rfl⟩:=ZC.mp h;have:=List.find?_some he;exact⟨e,List.mem_of_find?_eq_some he,Ya this,rfl⟩
theorem kG{kls:List (OK1×Addr)}{k:Option (List Key)}{e:OK1}{l:Addr}(h:(aW kls k).isSome=true\/okD e=k):(aW (kls++[(e,l)]) k).isSome=true:=by
 unfold aW at *;rw[List.find?_append];rcases h with h|h
 ·obtain⟨x,hx⟩:=Z4.mp h;obtain⟨y,hy,_⟩:=ZC.mp hx;rw[hy];rfl
 ·cases hf:kls.find? (fun e=>decide (okD e.1=k))with
  |some y=>rfl
  |none=>simp[h]
theorem gO(M:Ol)(m:Nm×It)(u:Option Nm):grp (M++[m]) u=if m.2.up=u then grp M u++[m]else grp M u:=by
 unfold grp;rw[List.filter_append];by_cases h:m.2.up=u
 ·rw[if_pos h,List.filter_cons_of_pos (by simp[h])];rfl
 ·rw[if_neg h,List.filter_cons_of_neg (by simp[h])];simp
theorem KsAt.snoc{H:Hp}{M:Ol}{ks:List V}{m:Nm×It}{v:V}(x:KsAt H M ks)(h:NameIs H v (nk m.1)):KsAt H (M++[m]) (ks++[v]):=by
 induction x with
 |nil=>exact .cons h .nil
 |cons a _ ih=>exact .cons a ih
theorem Ct{P:Program}{w:World}{H H':Hp}{D:Addr}{kls:List (OK1×Addr)}(x:OdAt P w H D kls)(h:H' D=H D)(s:TS H H'):OdAt P w H' D kls:=⟨h.trans x.ob,fun e he p hp=>s _ _ (x.ks e he p hp),x.nd⟩
theorem oM{α β:Type}{f:α->β}{l:List α}(nd:(l.map f).Nodup){a b:α}(ha:a∈l)(hb:b∈l)(h:f a=f b):a=b:=by
 induction l with
 |nil=>cases ha
 |cons x r ih =>
  rw[Zx,ZR]at nd;rcases Zq.mp ha with rfl|ha'
  ·rcases Zq.mp hb with rfl|hb'
   ·rfl
   ·exact absurd (by rw[h];exact List.mem_map_of_mem hb') nd.1
  ·rcases Zq.mp hb with rfl|hb'
   ·exact absurd (by rw[<-h];exact List.mem_map_of_mem ha') nd.1
   ·exact ih nd.2 ha' hb'
theorem vS{kls:List (OK1×Addr)}{k:Option (List Key)}(h:aW kls k=none):∀e∈kls,okD e.1≠k:=fun e he z=>by unfold aW at h;rw[Option.map_eq_none_iff,List.find?_eq_none]at h;exact h e he (by simp[z])
theorem LowAt.same{H H':Hp}{D:Addr}{M:Ol}{kls:List (OK1×Addr)}(x:LowAt P w H D M kls)(s:Same H H'):LowAt P w H' D M kls :=
 ⟨⟨s _ _ x.od.ob,fun e he p hp=>s _ _ (x.od.ks e he p hp),x.od.nd⟩,fun e he=>by
  obtain⟨u,ks,h1,h2,h3⟩:=x.gr e he;exact⟨u,ks,h1,s _ _ h2,h3.ts (Same.ts s)⟩,x.al⟩
theorem LowI.same{H2 H H':Hp}{D:Addr}{M:Ol}{kls:List (OK1×Addr)}(x:LowI P w H2 H D M kls)(s:Same H H'):LowI P w H2 H' D M kls:=⟨x.lo.same s,x.nl,x.nd,x.le⟩
theorem xp{P:Program}{w:World}{H:Hp}{D l:Addr}{kls:List (OK1×Addr)}{ks:List V}(h:H D=some (odO P w D kls))(h2:H l=some (.lst ks)):D≠l:=fun z=>by rw[z,h2]at h;unfold odO at h;cases h
theorem gv{H:Hp}{l:Addr}{ks ks':List V}(h:H l=some (.lst ks)):TS H (upd H l (.lst ks')):=fun a zs e=>by rw[af (hJ e h (by intro z;cases z))];exact e
theorem LowI.old{H2 H:Hp}{D l:Addr}{M:Ol}{kls:List (OK1×Addr)}{m:Nm×It}{v:V}(x:LowI P w H2 H D M kls)(hl:aW kls (upK m.2.up)=some l)(hv:NameIs H v (nk m.1)) :
  ∃ks,H l=some (.lst ks)/\ks.length<=M.length/\H2 l=none/\LowI P w H2 (upd H l (.lst (ks++[v]))) D (M++[m]) kls:=by
 obtain⟨e,he,hk,rfl⟩:=kH hl;obtain⟨u,ks,h1,h2,h3⟩:=x.lo.gr e he;have hu:u=m.2.up:=qW (h1.symm.trans hk);subst hu;have ts:=gv (ks':=ks++[v]) h2;refine⟨ks,h2,by rw[<-ZI h3];exact List.length_filter_le _ _,x.nl e he,⟨Ct x.lo.od (af (xp x.lo.od.ob h2)) ts,fun e' he'=>?_,fun y hy=>?_⟩,x.nl,x.nd,by rw[Zg];exact ZB x.le (Nat.le_add_right _ _)⟩
 ·by_cases z:e'.2=e.2
  ·have:=oM x.nd he' he z;subst this;refine⟨m.2.up,ks++[v],h1,ad,?_⟩;rw[gO,if_pos rfl];exact(h3.ts ts).snoc (hv.ts' ts)
  ·obtain⟨u',ks',g1,g2,g3⟩:=x.lo.gr e' he';refine⟨u',ks',g1,by rw[af z];exact g2,?_⟩;rw[gO,if_neg fun y=>z ?_]
   ·exact g3.ts ts
   ·have:okD e'.1=okD e.1:=by rw[g1,h1,y]
    rw[oM (f:=fun e=>okD e.1) x.lo.od.nd he' he this]
 ·rcases ZG.mp hy with hy|hy
  ·exact x.lo.al y hy
  ·rw[Zw]at hy;subst hy;rw[hl];rfl
theorem LowI.new{H2 H:Hp}{D l0:Addr}{M:Ol}{kls:List (OK1×Addr)}{m:Nm×It}{v uv:V}{e:OK1}(x:LowI P w H2 H D M kls)(hl:aW kls (upK m.2.up)=none)(hv:NameIs H v (nk m.1))(hk:lm H uv e)(he:okD e=upK m.2.up)(g0:H l0=none)(b:But D H2 H) :
  H2 l0=none/\l0≠D/\LowI P w H2 (upd (upd (upd H l0 (.lst [])) D (odO P w D (kls++[(e,l0)]))) l0 (.lst [v])) D (M++[m]) (kls++[(e,l0)]):=by
 have nD:l0≠D:=fun z=>by rw[z,x.lo.od.ob]at g0;cases g0
 have n2:H2 l0=none:=by
  cases z:H2 l0 with
  |none=>rfl
  |some o=>rw[b _ _ z nD]at g0;cases g0
 have keep:∀a o,H a=some o->a≠D->upd (upd (upd H l0 (.lst [])) D (odO P w D (kls++[(e,l0)]))) l0 (.lst [v]) a=some o:=fun a o ea ha=>by
  have nl:a≠l0:=fun z=>by rw[z,g0]at ea;cases ea
  rw[af nl,af ha,af nl];exact ea
 have ts:TS H (upd (upd (upd H l0 (.lst [])) D (odO P w D (kls++[(e,l0)]))) l0 (.lst [v])):=fun a zs ea=>keep a _ ea fun z=>by have:=x.lo.od.ob;rw[z,this]at ea;unfold odO at ea;cases ea
 have no:=vS hl;refine⟨n2,nD,⟨⟨by rw[af (ZN nD)];exact ad,fun e' he' p hp=>?_,?_⟩,fun e' he'=>?_,fun y hy=>?_⟩,fun e' he'=>?_,?_,?_⟩
 ·rcases ZG.mp he' with he'|he'
  ·exact ts _ _ (x.lo.od.ks e' he' p hp)
  ·rw[Zw]at he';subst he';obtain rfl:e=some p:=hp;exact ts _ _ hk.2
 ·rw[ZU,List.nodup_append];refine⟨x.lo.od.nd,by simp,fun a ha c hc z=>?_⟩;simp only[Zx,List.map_nil,Zw]at hc;obtain⟨e',he',rfl⟩:=y3.mp ha;exact no e' he' (by rw[<-he,<-hc];exact z)
 ·rcases ZG.mp he' with he'|he'
  ·obtain⟨u',ks',g1,g2,g3⟩:=x.lo.gr e' he';refine⟨u',ks',g1,keep _ _ g2 (ZN (xp x.lo.od.ob g2)),?_⟩;rw[gO,if_neg fun z=>no e' he' (by rw[g1,z])];exact g3.ts ts
  ·rw[Zw]at he';subst he';refine⟨m.2.up,[v],he,ad,?_⟩;have em:grp M m.2.up=[]:=by unfold grp;rw[List.filter_eq_nil_iff];intro y hy z;have:=x.lo.al y hy;rw[Ya z,hl]at this;cases this
   rw[gO,if_pos rfl,em];exact .cons (hv.ts' ts) .nil
 ·rcases ZG.mp hy with hy|hy
  ·exact kG (.inl (x.lo.al y hy))
  ·rw[Zw]at hy;subst hy;exact kG (.inr he)
 ·rcases ZG.mp he' with he'|he'
  ·exact x.nl e' he'
  ·rw[Zw]at he';subst he';exact n2
 ·rw[ZU,List.nodup_append];refine⟨x.nd,by simp,fun a ha c hc z=>?_⟩;simp only[Zx,List.map_nil,Zw]at hc;obtain⟨e',he',rfl⟩:=y3.mp ha;obtain⟨_,_,_,g2,_⟩:=x.lo.gr e' he';rw[z,hc,g0]at g2;cases g2
 ·rw[Zg,Zg];exact Nat.add_le_add x.le (Zd _)
def qP(P:Program)(w:World)(C T:Addr):Sp:=fun vs H Q _=>∃(p d g:Addr) (ol:Ol),vs=[.ref p]/\OlAt C H p d g ol/\ol.length<=300/\(ol.map (·.1)).Nodup/\aP dU T (eZ dB) H /\
 ∀(D:Addr) (H':Hp) (M:Ol) (kls:List (OK1×Addr)),M.Perm ol->M.Pairwise leP->SameT T H H'->aP dU T (eZ dB) H'->H D=none->kls.length<=300->LowAt P w H' D M kls->Q (.ref D) H'
def lS(n:Nat)(o:Obj):Heap:=⟨Array.replicate n o,{}⟩
theorem wF{n:Nat}{o:Obj}(hf:∀c d s,o≠⟨c,d,.freed,s⟩){a:Addr}{o':Obj}(h:(lS n o).get? a=some o'):o'=o:=by
 unfold lS Heap.get? at h;dsimp only at h;by_cases ha:a<n
 ·rw[Yj (by simpa using ha),Array.getElem_replicate]at h;split at h
  ·cases h
  ·exact(Zi h).symm
 ·rw[Array.getElem?_eq_none (by simpa using ha)]at h;cases h
theorem qH{n:Nat}{o:Obj}(hf:∀c d s,o≠⟨c,d,.freed,s⟩){a:Addr}(ha:a<n):(lS n o).get? a=some o:=by
 unfold lS Heap.get?;dsimp only;rw[Yj (by simpa using ha),Array.getElem_replicate];split
 ·rename_i z;exact absurd (Zi z) (hf _ _ _)
 ·rfl
theorem Cs{D c:Addr}{q:Str}{kls:List (OK1×Addr)}:odO P w D kls≠gQ c q:=fun z=>by
 unfold odO gQ at z;injection z with z;by_cases hs:(D==sysModules)=false
 ·have e:=congrFun z (lS (D+1) { cls:=.type "dict",data:=.dict (((kls.map oE).map (cP P w)).toArray) 0 });have:=e.mp ⟨hs,_,_,_,qH (by intro _ _ _ y;cases y) (Yt D),⟨rfl,rfl,rfl⟩,rfl,by simp⟩;obtain⟨c',o,vs,t,e1,e2,e3,e4⟩:=this;have:=wF (by intro _ _ _ y;cases y) e2;rw[this]at e3;cases e3
 ·have e:=congrFun z (lS (c+1) { cls:=.none,data:=.fields #[.none,.str q 0] });have:=e.mpr ⟨c,_,_,_,rfl,qH (by intro _ _ _ y;cases y) (Yt c),rfl,rfl⟩;exact hs this.1
theorem zQ{CX:CXT}{N:List Str}{qual:Str}{scope:Scope}{f:Addr}{cd:Value}{A:Around}{outer:List Env}{s:Shared}{H:Hp}{E:XK}:(cK CX P w K mg base N qual scope f cd A outer s H E).nox.prog=P:=rfl
theorem zR{CX:CXT}{N:List Str}{qual:Str}{scope:Scope}{f:Addr}{cd:Value}{A:Around}{outer:List Env}{s:Shared}{H:Hp}{E:XK}:(cK CX P w K mg base N qual scope f cd A outer s H E).nox.w=w:=rfl
abbrev cj:Stmt:=bG (top 21) 17
abbrev io:List Str:=["self","lower","name"]
theorem bW:FnScope io ["self"] (am cj):=⟨rfl,rfl,rfl,by decide +kernel,rfl,by decide +kernel,by decide +kernel⟩
theorem hU{f C T:Addr}{fd:FuncData}{tk:Tok}(F:Fun K "lower_names" "Plain.lower_names" cj f fd)(X_Plain:Txt K C)(M_sorted_names:MFn P w K mg base 5 C "sorted_names" ["self"] (pD C T))(g_UP:mg "UP" = some (.int 0 tk)):FnOk P w K mg base CX0 6 f fd ["self"] (qP P w C T):=by
 refine F.okQ bW (fun vs H Q E h=>?_) (fun cdv A outer s H vs Q E hr h=>?_)
 ·obtain⟨p,d,g,ol,rfl,_⟩:=h;rfl
 obtain⟨p,d,g,ol,rfl,hO,hl,nd,tab,q⟩:=h;refine⟨_,(b_c (ay (i:=1) bW.nd CJ)
   (b_c (fJ Yo rfl (eV (fY M_sorted_names (hr.mono (by decide)) (q_v 0))) (bH (i:=2) bW.nd) (b_1 (aL (ic hr.units (q_v 2) (cH (q_v 0))) (b_1 (cR (nE (uD hr.units (q_v 1) (aB ax (di hr.units (cH (q_v 0)) (q_v 2)) (oU g_UP)) (bf aj)) (q_v 2)))) b_0)))
   (b_1 (aH (q_v 1))))),?_⟩
 try rw[cxK]
 rw[zQ,zR];intro D gD;have wD:=ag gD (odO P w D []);have eD:upd H D (odO P w D []) D=some (odO P w D []):=ad;generalize upd H D (odO P w D [])=H1 at wD eD ⊢;have O1:=hO.same wD;have tab1:=aU tab wD;obtain⟨kvs1,S1,R1⟩:=id O1;obtain⟨⟨dx,h1⟩,h2,h3,h4⟩:=id S1;refine⟨_,rfl,p,dx,_,rfl,h1,lF _ _ (by decide +kernel) (by decide +kernel),p,d,g,ol,rfl,O1,hl,nd,tab1,fun L H2 M ks pe so s12 tab2 gL eL ka=>?_⟩;refine⟨L,rfl,⟨ks,SqL.of eL⟩,?_⟩;have O2:=O1.sameT s12 tab1;have nDT:D≠T:=fun z=>by obtain⟨ps,e1,_⟩:=tab1;rw[z,e1]at eD;cases eD
 have eD2:=s12 _ _ eD nDT;have nLD:L≠D:=fun z=>by rw[z,eD]at gL;cases gL
 have lM:M.length<=300:=by rw[pe.length_eq];exact hl
 have lks:=ZI ka;refine ir (xs:=ks) (fun i σ H'=>But D H2 H'/\∃(kls:List (OK1×Addr)) (o:Option V),LowI P w H2 H' D (M.take i) kls/\σ=[some (.ref p),some (.ref D),o]) ⟨fun _ _ z _=>z,[],none,⟨⟨⟨eD2,(fun e he=>by cases he),.nil⟩,(fun e he=>by cases he),(fun m hm=>by simp at hm)⟩,(fun e he=>by cases he),.nil,Z7 _⟩,rfl⟩ (fun i σ H' _ hP=>SqL.of (hP.1 _ _ eL nLD)) (fun i v σ H' hv hP D' kD=>?_) (fun σ H' hP=>?_)
 ·obtain⟨bt,kls,o,lo,rfl⟩:=hP;obtain⟨m,hm,hn⟩:=eX ka i v hv;obtain⟨kvs,S,R⟩:=id O2;have ts2:TS H2 H':=fun a zs e=>bt _ _ e fun z=>by rw[z,eD2]at e;unfold odO at e;cases e
  have nd':∀{a:Addr} {o:HO},H2 a=some o->o≠odO P w D []->H' a=some o:=fun e ne=>bt _ _ e fun z=>ne (by rw[z,eD2]at e;exact(Zi e).symm);obtain⟨⟨dx',k1⟩,k2,k3,k4⟩:=id S;have k1':=nd' k1 (by unfold odO;intro z;cases z);have k2':=nd' k2 (by unfold odO;intro z;cases z);have k3':=nd' k3 (by unfold odO;intro z;cases z);have hmo:m∈ol:=pe.mem_iff.mp (ZZ hm);obtain⟨jj,hj⟩:=ZO.mp hmo;obtain⟨iv,e1,ia,uv,pv,rfl,e2,e3,e4⟩:=aT R (bO nd hj);have hn':=hn.ts' ts2;obtain⟨nb,rfl,hnb⟩:=id hn';refine⟨_,rfl,_,rfl,p,C,dx',_,_,rfl,k1',X_Plain.cl,X_Plain.nA,tz _ _,g,none,rfl,DGet.t (k:=nk m.1) (kvs:=[]) k3' hnb,_,rfl,bw ?_⟩;obtain⟨ke,hk,hke⟩:=(e3.ts ts2).key;refine⟨_,rfl,D,rfl,⟨kls,lo.lo.od.ob⟩,?_⟩;refine⟨_,rfl,p,C,dx',_,_,rfl,k1',X_Plain.cl,X_Plain.nH,aZ _ _,_,rfl,d,.ref ia,rfl,e1▸DGet.t (k:=nk m.1) k2' hnb,?_⟩;refine⟨ia,_,_,_,rfl,rfl,SqT.of (ts2 _ _ e2),at0,sz rfl,fun l0 g0=>?_⟩;have w0:=ag g0 (.lst []);have lo0:=lo.same w0;have lt:(M.take i).length<=300:=ZB (List.length_take_le' _ _) lM;have hi:i<M.length:=(Zt.mp hm).1;have et:M.take (i+1)=M.take i++[m]:=by rw[YK,hm];rfl
  have hk0:lm (upd H' l0 (.lst [])) uv ke:=by
   cases ke with
   |none=>exact hk
   |some q=>exact⟨hk.1,w0 _ _ hk.2⟩
  refine⟨kls,ke,l0,lo0.lo.od,hk0,rfl,(by have:=lo.le;omega),fun l hl'=>?_,fun hl'=>?_⟩
  ·rw[hke]at hl';obtain⟨ks',f1,f2,f3,f4⟩:=lo0.old hl' (hn'.ts' (Same.ts w0));refine⟨.inl ⟨rfl,_,SqL.of f1⟩,_,rfl,l,_,_,rfl,rfl,f1,cU (by omega),kD _ _ ⟨fun b ob eb hb=>?_,kls,_,by rw[et];exact f4,rfl⟩⟩;have hbl:b≠l:=fun z=>by rw[z,f3]at eb;cases eb
   rw[af hbl];exact w0 _ _ (bt _ _ eb hb)
  ·rw[hke]at hl';obtain⟨n2,nD0,f4⟩:=lo.new hl' hn' hk hke g0 bt;refine⟨.inl ⟨rfl,[],SqL.of (by rw[af nD0];exact ad)⟩,_,rfl,l0,[],_,rfl,rfl,by rw[af nD0];exact ad,sz rfl,kD _ _ ⟨fun b ob eb hb=>?_,_,_,by rw[et];exact f4,rfl⟩⟩;have hbl:b≠l0:=fun z=>by rw[z,n2]at eb;cases eb
   rw[af hbl,af hb,af hbl];exact bt _ _ eb hb
 ·obtain⟨bt,kls,o,lo,rfl⟩:=hP;have ml:M.take ks.length=M:=ZD (by omega);rw[ml]at lo;have nTD:T≠D:=ZN nDT;have tab3:aP dU T (eZ dB) H':=by obtain⟨ps,t1,t2,t3⟩:=tab2;refine⟨ps,bt _ _ t1 nTD,t2,t3.imp id fun⟨c,z1,z2⟩=>⟨c,z1,bt _ _ z2 fun z=>?_⟩⟩;rw[z,eD2]at z2;exact Cs (Zi z2)
  exact⟨_,rfl,q D H' M kls pe so (fun b ob eb hb=>bt _ _ (s12 _ _ (wD _ _ eb) hb) fun z=>by rw[z,gD]at eb;cases eb) tab3 gD (ZB lo.le lM) lo.lo⟩
abbrev DI:=Int×(Nm×It)
inductive Dfs(M:Ol):List DI->List DI->Nat->Prop
 |nil:Dfs M [] [] 0
 |cons {d:Int} {m:Nm×It} {rest out:List DI} {k:Nat} (h:Dfs M ((grp M (some m.1)).map (fun x=>(d+1,x))++rest) out k):Dfs M ((d,m)::rest) ((d,m)::out) (k+1)
theorem Dfs.le{M:Ol}{st out:List DI}{k:Nat}(h:Dfs M st out k):st.length<=k:=by
 induction h with
 |nil=>exact Zd _
 |cons _ ih =>rw[Zg]at ih;rw[Zr];omega
theorem Dfs.len{M:Ol}{st out:List DI}{k:Nat}(h:Dfs M st out k):out.length=k:=by
 induction h with
 |nil=>rfl
 |cons _ ih=>rw[Zr,ih]
def SkAt(H:Hp)(v:V)(x:DI):Prop:=∃(a:Addr) (nv:V),v=.ref a/\H a=some (.tup [.int x.1,nv])/\NameIs H nv (nk x.2.1)
def RwAt(H:Hp)(v:V)(x:DI):Prop:=∃(a:Addr) (nv:V),v=.ref a/\H a=some (.tup [.int x.1,nv,.str x.2.2.tx,.bl x.2.2.dn,whV x.2.2.wh,.bl x.2.2.fo])/\NameIs H nv (nk x.2.1)
abbrev SksAt(H:Hp)(xs:List DI)(vs:List V):Prop:=Paired (fun x v=>SkAt H v x) xs vs
abbrev RwsAt(H:Hp)(xs:List DI)(vs:List V):Prop:=Paired (fun x v=>RwAt H v x) xs vs
theorem SkAt.ts{H H':Hp}{v:V}{x:DI}(h:SkAt H v x)(s:TS H H'):SkAt H' v x:=by obtain⟨a,nv,h1,h2,h3⟩:=h;exact⟨a,nv,h1,s _ _ h2,h3.ts' s⟩
theorem RwAt.ts{H H':Hp}{v:V}{x:DI}(h:RwAt H v x)(s:TS H H'):RwAt H' v x:=by obtain⟨a,nv,h1,h2,h3⟩:=h;exact⟨a,nv,h1,s _ _ h2,h3.ts' s⟩
theorem SksAt.ts{H H':Hp}{xs:List DI}{vs:List V}(x:SksAt H xs vs)(s:TS H H'):SksAt H' xs vs:=Paired.mapP x fun _ _ z=>z.ts s
theorem RwsAt.ts{H H':Hp}{xs:List DI}{vs:List V}(x:RwsAt H xs vs)(s:TS H H'):RwsAt H' xs vs:=Paired.mapP x fun _ _ z=>z.ts s
theorem dF{α β:Type}{R:α->β->Prop}{a c:List α}{b d:List β}(x:Paired R a b)(y:Paired R c d):Paired R (a++c) (b++d):=by
 induction x with
 |nil=>exact y
 |cons h _ ih=>exact .cons h ih
theorem mK{α β:Type}{R:α->β->Prop}:∀{a:List α} {x:α} {b:List β},Paired R (a++[x]) b->∃(b0:List β) (y:β),b=b0++[y]/\Paired R a b0/\R x y
 | [],x,b,h=>by
  cases h with
  |cons h1 h2 =>cases h2;exact⟨[],_,rfl,.nil,h1⟩
 |z::a,x,b,h=>by
  cases h with
  |cons h1 h2 =>obtain⟨b0,y,rfl,h3,h4⟩:=mK h2;exact⟨_::b0,y,rfl,.cons h1 h3,h4⟩
theorem LowAt.get{H:Hp}{D:Addr}{M:Ol}{kls:List (OK1×Addr)}(x:LowAt P w H D M kls)(u:Option Nm):(∀l,aW kls (upK u)=some l->∃ks,H l=some (.lst ks)/\KsAt H (grp M u) ks)/\(aW kls (upK u)=none->grp M u=[]):=by
 refine⟨fun l hl=>?_,fun hl=>?_⟩
 ·obtain⟨e,he,hk,rfl⟩:=kH hl;obtain⟨u',ks,h1,h2,h3⟩:=x.gr e he;rw[<-qW (h1.symm.trans hk)];exact⟨ks,h2,h3⟩
 ·unfold grp;rw[List.filter_eq_nil_iff];intro y hy z;have:=x.al y hy;rw[Ya z,hl]at this;cases this
theorem mt{n:Nat}{cap:List Nat}{te:TE}{σ:St}{H0:Hp}{Q:VK}{l:Addr}{M:Ol}{ks:List V}{d:Int}(hl:H0 l=some (.lst ks))(hk:KsAt H0 M ks)(hz:M.length<=300)(he:∀(v:V) (H:Hp),Same H0 H->∀R:VK,(∀t,H t=none->R (.ref t) (upd H t (.tup [.int d,v])))->te ((cv n cap σ).set 0 (some v)) H R)(hq:∀(ws:List V) (p:Addr) (H:Hp),Same H0 H->SksAt H (M.map fun x=>(d,x)).reverse ws->H p=none->Q (.ref p) (upd H p (.lst ws))):kX n cap (dg 0) kZ te σ (Itv K l ks) H0 Q:=by
 have lk:=ZI hk;refine dz (N:=ks.length) (fun i ys H=>Same H0 H/\ys.length=i/\SksAt H ((M.map fun x=>(d,x)).reverse.take i) ys) (by omega) (fun _ _ _ p=>p.2.1) ⟨Same.refl _,rfl,.nil⟩ (fun i ys H hi hP=>⟨hi,SqL.of (hP.1 _ _ hl)⟩) (fun ys H hP=>⟨rfl,SqL.of (hP.1 _ _ hl)⟩) ?_ ?_
 ·rintro i ys H x H2 hi ⟨sm,ly,pa⟩ ⟨rfl,hx⟩ R kR;refine he x _ sm _ fun t gt=>kR _ _ ?_;have wt:=ag gt (.tup [.int d,x]);refine⟨sm.trans wt,by rw[Zg,ly];rfl,?_⟩;rw[List.getElem?_reverse (by simpa using hi)]at hx;obtain⟨m,hm,hn⟩:=eX hk _ x hx;have e:(M.map fun x=>(d,x)).reverse[i]?=some (d,m):=by rw[List.getElem?_reverse (by rw[Zu];omega),Zu,ZA,lk,hm];rfl
  rw[YK,e];exact dF (pa.ts (Same.ts wt)) (.cons ⟨t,x,rfl,ad,(hn.ts' (Same.ts sm)).ts' (Same.ts wt)⟩ .nil)
 ·rintro ys p H ⟨sm,ly,pa⟩ gp;refine hq ys p H sm ?_ gp;rw[ZD (by rw[List.length_reverse,Zu];omega)]at pa;exact pa
theorem oy{G:Addr->Prop}{Hc:Hp}{D l0:Addr}{M:Ol}{kls:List (OK1×Addr)}{u:Option Nm}(x:LowAt P w Hc D M kls)(e0:Hc l0=some (.lst []))(h:∀(l:Addr) (ks:List V),Hc l=some (.lst ks)->KsAt Hc (grp M u) ks->G l) :
  (∀l,aW kls (upK u)=some l->G l)/\(aW kls (upK u)=none->G l0):=by
 obtain⟨a,b⟩:=x.get u;refine⟨fun l hl=>?_,fun hl=>?_⟩
 ·obtain⟨ks,h1,h2⟩:=a l hl;exact h l ks h1 h2
 ·exact h l0 [] e0 (by rw[b hl];exact .nil)
abbrev fQ(M:Ol):List DI:=(grp M none).map fun x=>(0,x)
def uO(C T:Addr):Sp:=fun vs H Q _=>∃(p d g:Addr) (ol:Ol),vs=[.ref p]/\OlAt C H p d g ol/\ol.length<=300/\(ol.map (·.1)).Nodup/\aP dU T (eZ dB) H/\(∀M:Ol,M.Perm ol->∃out k,Dfs M (fQ M) out k/\k<=300) /\
 ∀(R:Addr) (H':Hp) (M:Ol) (out:List DI) (k:Nat) (rs:List V),M.Perm ol->M.Pairwise leP->Dfs M (fQ M) out k->SameT T H H'->aP dU T (eZ dB) H'->H R=none->H' R=some (.lst rs)->RwsAt H' out rs->Q (.ref R) H'
theorem Dfs.mem{M:Ol}{st out:List DI}{k:Nat}(h:Dfs M st out k):(∀x∈st,x.2∈M)->∀x∈out,x.2∈M:=by
 induction h with
 |nil=>intro _ x hx;cases hx
 |@cons d m rest out k _ ih =>
  intro hs x hx;rcases Zq.mp hx with rfl|hx
  ·exact hs _ Zo
  ·refine ih (fun y hy=>?_) x hx;rcases ZG.mp hy with hy|hy
   ·obtain⟨z,hz,rfl⟩:=y3.mp hy;exact(Yi.mp hz).1
   ·exact hs y (Zh _ hy)
theorem Cb{a b c d e f:V}:bK [a,b,c,d,e,f] (some 2) none=[c,d,e,f]:=rfl
abbrev fm:Stmt:=bG (top 21) 16
abbrev nR:List Str:=["self","lower","rows","ahead","following","depth","name"]
theorem bq:FnScope nR ["self"] (am fm):=⟨rfl,rfl,rfl,by decide +kernel,rfl,by decide +kernel,by decide +kernel⟩
theorem mW{f C T:Addr}{fd:FuncData}{tk:Tok}(F:Fun K "rows" "Plain.rows" fm f fd)(X_Plain:Txt K C)(M_lower_names:MFn P w K mg base 6 C "lower_names" ["self"] (qP P w C T))(g_TEXT:mg "TEXT" = some (.int 2 tk))(z_reversed:mg "reversed" = none)(z_len:mg "len" = none):FnOk P w K mg base CX0 7 f fd ["self"] (uO C T):=by
 refine F.okQ bq (fun vs H Q E h=>?_) (fun cdv A outer s H vs Q E hr h=>?_)
 ·obtain⟨p,d,g,ol,rfl,_⟩:=h;rfl
 obtain⟨p,d,g,ol,rfl,hO,hl,nd,tab,ex,q⟩:=h;obtain⟨kvs0,S0,R0⟩:=id hO;obtain⟨⟨dx,h1⟩,h2,h3,h4⟩:=id S0;refine⟨_,(b_c (ay (i:=1) bq.nd (fY M_lower_names (hr.mono (by decide)) (q_v 0)))
   (b_c (ay (i:=2) bq.nd (bf aj))
   (b_c (BC (j:=3) bq.nd (own:=["each"]) (⟨rfl,by decide +kernel,by decide +kernel,rfl,trivial⟩:CompOk _ _ [] []) rfl (xg z_reversed (q_a (uC hr.units (q_v 1) bg (bf aj)) aj)) (fun _ _ _ _=>bH (i:=0) (show (["each"]:List Str).Nodup by decide +kernel)) (iN (by decide)) (fun _ _ _ _=>rG) (fun _ _ _ _=>(au (q_a ah (q_a (q_v 0) aj)))))
   (b_c (lY Yo (aw oQ (q_B jR z_len YJ (q_a (q_v 3) aj)) ah) (b_c (ay (i:=4) bq.nd (Bn (q_v 3)))
   (b_c (ay (i:=5) bq.nd (aB ax (q_v 4) ah))
   (b_c (ay (i:=6) bq.nd (aB ax (q_v 4) ah))
   (b_c (cR (nE (q_v 2) (aD uf (au (q_a (q_v 5) (q_a (q_v 6) aj))) (jH kn (di hr.units (cH (q_v 0)) (q_v 6)) (iC (oU g_TEXT)) lQ))))
   (b_1 (cR (wv (q_v 3) (oS (own:=["each"]) (⟨rfl,by decide +kernel,by decide +kernel,rfl,⟨rfl,rfl,trivial⟩⟩:CompOk _ _ [5] ["depth"]) rfl (xg z_reversed (q_a (uC hr.units (q_v 1) (q_v 6) (bf aj)) aj)) (fun _ _ _ _=>bH (i:=0) (show (["each","depth"]:List Str).Nodup by decide +kernel)) (iN (by decide)) (fun _ _ _ _=>rG) (fun _ _ _ _=>(au (q_a (aD eC (q_v 1) ah) (q_a (q_v 0) aj)))))))))))))
   (b_1 (aH (q_v 2))))))),?_⟩
 try rw[cxK]
 rw[zQ,zR];refine⟨_,rfl,p,dx,_,rfl,h1,lF _ _ (by decide +kernel) (by decide +kernel),p,d,g,ol,rfl,hO,hl,nd,tab,fun D H3 M kls pe so s03 tab3 gD lk lo=>?_⟩;obtain⟨out,k,df,k300⟩:=ex M pe;have O3:=hO.sameT s03 tab;obtain⟨kvs,S,R3⟩:=id O3;obtain⟨⟨dx',k1⟩,k2,k3,k4⟩:=id S;have lM:M.length<=300:=by rw[pe.length_eq];exact hl
 refine⟨sz rfl,fun R gR=>?_⟩;have wR:=ag gR (.lst []);have eR:upd H3 R (.lst []) R=some (.lst []):=ad;generalize upd H3 R (.lst [])=H4 at wR eR ⊢;refine⟨_,rfl,D,rfl,⟨kls,wR _ _ lo.od.ob⟩,sz rfl,fun l0 g0=>?_⟩;have w0:=ag g0 (.lst []);have e0:upd H4 l0 (.lst []) l0=some (.lst []):=ad;generalize upd H4 l0 (.lst [])=H5 at w0 e0 ⊢;have lo5:=lo.same (wR.trans w0);refine⟨kls,none,lo5.od,rfl,by omega,oy (u:=none) lo5 e0 fun l ks el hk=>?_⟩;refine⟨l,ks,rfl,SqL.of el,mt (d:=0) el hk (ZB (List.length_filter_le _ _) lM) (fun v Hx sx Rx kx=>⟨_,rfl,sz rfl,fun t gt=>kx t gt⟩) (fun ws Aa H6 s6 pa gA=>?_)⟩;have wA:=ag gA (.lst ws);have eA:upd H6 Aa (.lst ws) Aa=some (.lst ws):=ad;have s36:Same H3 (upd H6 Aa (.lst ws)):=(wR.trans (w0.trans s6)).trans wA;have eR6:upd H6 Aa (.lst ws) R=some (.lst []):=wA _ _ (s6 _ _ (w0 _ _ eR));have pa6:=pa.ts (Same.ts wA);have nRA:R≠Aa:=fun z=>by rw[<-z,s6 _ _ (w0 _ _ eR)]at gA;cases gA
 have g3A:H3 Aa=none:=by
  cases z:H3 Aa with
  |none=>rfl
  |some o=>rw[s6 _ _ (w0 _ _ (wR _ _ z))]at gA;cases gA
 generalize upd H6 Aa (.lst ws)=H7 at eA s36 eR6 pa6 ⊢;refine⟨fun m σ H'=>Same H3 H'/\∃(stk outd rst:List DI) (rs as:List V) (o4 o5 o6:Option V),Dfs M stk rst m/\outd++rst=out/\H' R=some (.lst rs)/\RwsAt H' outd rs/\H' Aa=some (.lst as)/\SksAt H' stk.reverse as/\σ=[some (.ref p),some (.ref D),some (.ref R),some (.ref Aa),o4,o5,o6],⟨k,s36,fQ M,[],out,[],ws,none,none,none,df,rfl,eR6,.nil,eA,pa6,rfl⟩,?_⟩;rintro m σ H' ⟨sm,stk,outd,rst,rs,as,o4,o5,o6,df',eo,eR',ra,eA',sa,rfl⟩;have las:=ZI sa;rw[List.length_reverse]at las;refine⟨_,rfl,Aa,as,rfl,.inl (SqL.of eA'),_,_,rfl,rfl,_,rfl,?_⟩;have lo300:outd.length+m<=300:=by have h1:=ZW List.length eo;rw[Zg,df'.len,df.len]at h1;omega
 cases df' with
 |nil =>have:as.length=0:=las.symm;rw[show(decide ((0:Int)<(as.length:Int)))=false by rw[this];rfl];refine aA ⟨_,rfl,?_⟩;rw[ZQ]at eo;subst eo;refine q R H' M outd k rs pe so df (s03.trans (.of sm)) (aU tab3 sm) (mG s03 gR ?_) eR' ra;obtain⟨ps,t1,_⟩:=tab3;exact⟨_,t1⟩
 |@cons d0 mm rest rst' m' df' =>
  have:0<as.length:=by rw[<-las];exact Nat.succ_pos _
  rw[show(decide ((0:Int)<(as.length:Int)))=true by rw[decide_eq_true];omega];refine bw ?_;rw[List.reverse_cons]at sa;obtain⟨as0,y,rfl,sa0,⟨ya,nv,rfl,ey,hn⟩⟩:=mK sa;obtain⟨nb,rfl,hnb⟩:=id hn;have hmem:mm∈M:=df.mem (fun x hx=>by
   obtain⟨z,hz,rfl⟩:=y3.mp hx;exact (Yi.mp hz).1) (d0,mm) (by rw[<-eo];simp)
  obtain⟨jj,hj⟩:=ZO.mp (pe.mem_iff.mp hmem);obtain⟨iv,e1,ia,uv,pv,rfl,e2,e3,e4⟩:=aT R3 (bO nd hj);refine⟨fun σ' H''=>Same H3 H''/\∃(stk outd rst:List DI) (rs as:List V) (o4 o5 o6:Option V),Dfs M stk rst m'/\outd++rst=out/\H'' R=some (.lst rs)/\RwsAt H'' outd rs/\H'' Aa=some (.lst as)/\SksAt H'' stk.reverse as/\σ'=[some (.ref p),some (.ref D),some (.ref R),some (.ref Aa),o4,o5,o6],fun σ' H'' h=>⟨m',Yt _,h⟩,?_⟩;refine⟨_,rfl,.inl ⟨rfl,_,SqL.of eA'⟩,Aa,_,.ref ya,rfl,rfl,eA',by simp,?_⟩;rw[List.dropLast_concat];have t8:=gv (ks':=as0) eA';have s38:Same H3 (upd H' Aa (.lst as0)):=dq sm g3A;have eA8:upd H' Aa (.lst as0) Aa=some (.lst as0):=ad;have eR8:upd H' Aa (.lst as0) R=some (.lst rs):=by rw[af nRA];exact eR'
  have ey8:=t8 _ _ ey;have hn8:=t8 _ _ hnb;have ra8:=ra.ts t8;have sa8:=SksAt.ts sa0 t8;generalize upd H' Aa (.lst as0)=H8 at s38 eA8 eR8 ey8 hn8 ra8 sa8 ⊢;refine⟨_,rfl,ya,_,_,_,rfl,rfl,SqT.of ey8,at0,?_⟩;refine⟨_,rfl,ya,_,_,_,rfl,rfl,SqT.of ey8,at1,?_⟩;refine⟨_,rfl,.inl ⟨rfl,_,SqL.of eR8⟩,_,rfl,_,rfl,sz rfl,fun t1 g1=>?_⟩;have w1:=ag g1 (.tup [.int d0,.ref nb]);have s1':=s38.trans w1;refine⟨_,rfl,p,C,dx',_,_,rfl,s1' _ _ k1,X_Plain.cl,X_Plain.nH,aZ _ _,_,rfl,d,.ref ia,rfl,e1▸DGet.t (k:=nk mm.1) (s1' _ _ k2) (w1 _ _ hn8),_,rfl,?_⟩;refine⟨ia,_,rfl,s1' _ _ e2,fun t2 H9 s9 e9=>?_⟩;rw[Cb]at e9;refine⟨t1,t2,_,_,rfl,rfl,s9 _ _ ad,e9,sz rfl,fun t3 H10 s10 e10=>?_⟩;have w8:Same H8 H10:=w1.trans (s9.trans s10);have lra:=ZI ra;refine⟨R,rs,.ref t3,rfl,rfl,w8 _ _ eR8,cU (by omega),?_⟩;have t11:=gv (ks':=rs++[.ref t3]) (w8 _ _ eR8);have g3R:H3 R=none:=gR;have s311:Same H3 (upd H10 R (.lst (rs++[.ref t3]))):=dq (s38.trans w8) g3R;have eR11:upd H10 R (.lst (rs++[.ref t3])) R=some (.lst (rs++[.ref t3])):=ad;have eA11:upd H10 R (.lst (rs++[.ref t3])) Aa=some (.lst as0):=by rw[af (ZN nRA)];exact w8 _ _ eA8
  have hn11:=t11 _ _ (w8 _ _ hn8);have ra11:RwsAt (upd H10 R (.lst (rs++[.ref t3]))) (outd++[(d0,mm)]) (rs++[.ref t3]):=dF ((ra8.ts (Same.ts w8)).ts t11) (.cons ⟨t3,.ref nb,rfl,t11 _ _ e10,nb,rfl,hn11⟩ .nil);have sa11:=(sa8.ts (Same.ts w8)).ts t11;generalize upd H10 R (.lst (rs++[.ref t3]))=H11 at s311 eR11 eA11 hn11 ra11 sa11 ⊢;refine⟨_,rfl,.inl ⟨rfl,_,SqL.of eA11⟩,?_⟩;refine⟨_,rfl,D,rfl,⟨kls,s311 _ _ lo.od.ob⟩,_,rfl,sz rfl,fun l1 gl1=>?_⟩;have wl:=ag gl1 (.lst []);have el1:upd H11 l1 (.lst []) l1=some (.lst []):=ad;generalize upd H11 l1 (.lst [])=H12 at wl el1 ⊢;have lo12:=lo.same (s311.trans wl);refine⟨kls,some (nk mm.1,nb),lo12.od,⟨rfl,wl _ _ hn11⟩,by omega,oy (u:=some mm.1) lo12 el1 fun l ks el hk=>?_⟩;refine⟨l,ks,rfl,SqL.of el,mt (d:=d0+1) el hk (ZB (List.length_filter_le _ _) lM) (fun v Hx sx Rx kx=>⟨_,rfl,_,_,rfl,rfl,_,rfl,sz rfl,fun t gt=>kx t gt⟩) (fun ws' pW H13 s13 pa' gW=>?_)⟩;have wW:=ag gW (.lst ws');have w1113:Same H11 (upd H13 pW (.lst ws')):=wl.trans (s13.trans wW);have lw:=ZI pa';have lsa:=ZI sa8;have dl:=df'.le;rw[Zg]at dl;rw[List.length_reverse]at lw lsa;refine⟨Aa,pW,as0,ws',rfl,rfl,w1113 _ _ eA11,ad,cU (by omega),?_⟩;have t14:=gv (ks':=as0++ws') (w1113 _ _ eA11);refine⟨dq (s311.trans w1113) g3A,(grp M (some mm.1)).map (fun x=>(d0+1,x))++rest,outd++[(d0,mm)],rst',rs++[.ref t3],as0++ws',_,_,_,df',by rw[<-eo];simp,by rw[af nRA];exact w1113 _ _ eR11,(ra11.ts (Same.ts w1113)).ts t14,ad,?_,rfl⟩;rw[List.reverse_append];exact dF ((sa11.ts (Same.ts w1113)).ts t14) ((pa'.ts (Same.ts wW)).ts t14)
inductive Chn(ol:Ol):Nat->Option Nm->Prop
 |none:Chn ol 0 none
 |up {k:Nat} {n:Nm} {it:It} (h:look ol n=some it) (c:Chn ol k it.up):Chn ol (k+1) (some n)
theorem Dfs.app{M:Ol}{s1 o1 s2 o2:List DI}{k1 k2:Nat}(h:Dfs M s1 o1 k1)(g:Dfs M s2 o2 k2):Dfs M (s1++s2) (o1++o2) (k1+k2):=by
 induction h with
 |nil=>rw[Nat.zero_add];exact g
 |@cons d m rest out k _ ih =>rw[Nat.add_right_comm];refine .cons ?_;show Dfs M (_++(rest++s2)) (out++o2) _;rw[<-ZF];exact ih
theorem Chn.one{ol:Ol}{u:Option Nm}{a b:Nat}(h:Chn ol a u)(g:Chn ol b u):a=b:=by
 induction h generalizing b with
 |none=>cases g;rfl
 |up h _ ih =>
  cases g with
  |up h' c' =>rw[h]at h';cases h';rw[ih c']
theorem iO{M:Ol}{u:Option Nm}{x:Nm×It}:x∈grp M u↔x∈M/\x.2.up=u:=by unfold grp;rw[Yi];simp
def nW(ol:Ol)(B:Nat):Prop:=∀x∈ol,∃k,k<=B/\Chn ol k (some x.1)
theorem xX{ol M:Ol}{B:Nat}(pe:M.Perm ol)(nd:(ol.map (·.1)).Nodup)(tb:nW ol B):∀(f:Nat) (x:Nm×It) (j:Nat) (d:Int),x∈M->Chn ol j (some x.1)->B<j+f->∃out k,Dfs M [(d,x)] out k:=by
 intro f;induction f with
 |zero =>intro x j d hx ch hB;obtain⟨k,hk,ch'⟩:=tb x (pe.mem_iff.mp hx);have:=ch.one ch';omega
 |succ f ih =>
  intro x j d hx ch hB;have kids:∀(l:Ol),(∀y∈l,y∈grp M (some x.1))->∃out k,Dfs M (l.map fun y=>(d+1,y)) out k:=by
   intro l;induction l with
   |nil=>intro _;exact⟨[],0,.nil⟩
   |cons y l ihl =>intro hl;obtain⟨ym,yu⟩:=iO.mp (hl y Zo);obtain⟨i,hi⟩:=ZO.mp (pe.mem_iff.mp ym);have cy:Chn ol (j+1) (some y.1):=.up (bO nd hi) (by rw[yu];exact ch);obtain⟨o1,k1,h1⟩:=ih y (j+1) (d+1) ym cy (by omega);obtain⟨o2,k2,h2⟩:=ihl fun z hz=>hl z (Zh _ hz);exact⟨_,_,h1.app h2⟩
  obtain⟨out,k,h⟩:=kids (grp M (some x.1)) fun _ z=>z;exact⟨_,_,.cons (rest:=[]) (by rw[ZQ];exact h)⟩
theorem zS{ol M:Ol}{B:Nat}(pe:M.Perm ol)(nd:(ol.map (·.1)).Nodup)(tb:nW ol B):∃out k,Dfs M (fQ M) out k:=by
 have go:∀(l:Ol),(∀y∈l,y∈M)->∃out k,Dfs M (l.map fun y=>((0:Int),y)) out k:=by
  intro l;induction l with
  |nil=>intro _;exact⟨[],0,.nil⟩
  |cons y l ihl =>intro hl;obtain⟨j,_,ch⟩:=tb y (pe.mem_iff.mp (hl y Zo));obtain⟨o1,k1,h1⟩:=xX pe nd tb (B+1) y j 0 (hl y Zo) ch (by omega);obtain⟨o2,k2,h2⟩:=ihl fun z hz=>hl z (Zh _ hz);exact⟨_,_,h1.app h2⟩
 exact go (grp M none) fun y hy=>(iO.mp hy).1
def cnt(n:Nm)(l:List DI):Nat:=l.countP fun x=>decide (x.2.1=n)
theorem xT(n:Nm)(a b:List DI):cnt n (a++b)=cnt n a+cnt n b:=List.countP_append
theorem jw(n:Nm)(x:DI)(l:List DI):cnt n (x::l)=(if x.2.1=n then 1 else 0)+cnt n l:=by unfold cnt;rw[List.countP_cons,Nat.add_comm];simp
def kf(M:Ol)(n:Nm)(u:Option Nm):Nat :=
 match look M n with
 |some it=>if it.up=u then 1 else 0
 |none=>0
theorem lK{l:Ol}{n:Nm}(h:n∉l.map (·.1)):look l n=none:=by
 induction l with
 |nil=>rfl
 |cons y l ih =>rw[Zx,Zq,not_or]at h;unfold look;rw[if_neg (ZN h.1)];exact ih h.2
theorem oi{M:Ol}{d:Int}{n:Nm}{u:Option Nm}(nd:(M.map (·.1)).Nodup):cnt n ((grp M u).map fun x=>(d,x))=kf M n u:=by
 unfold cnt grp kf;rw[List.countP_map];induction M with
 |nil=>rfl
 |cons y l ih =>
  rw[Zx,ZR]at nd;have ih:=ih nd.2;unfold look;by_cases hn:y.1=n
  ·rw[if_pos hn];rw[lK (by rw[<-hn];exact nd.1)]at ih;by_cases hu:y.2.up=u
   ·rw[List.filter_cons_of_pos (by simp[hu]),List.countP_cons,ih];simp[hn,hu]
   ·rw[List.filter_cons_of_neg (by simp[hu]),ih];simp[hu]
  ·rw[if_neg hn,<-ih];by_cases hu:y.2.up=u
   ·rw[List.filter_cons_of_pos (by simp[hu]),List.countP_cons];simp[hn]
   ·rw[List.filter_cons_of_neg (by simp[hu])]
theorem Dfs.cnt{M:Ol}{st out:List DI}{k:Nat}(nd:(M.map (·.1)).Nodup)(n:Nm)(h:Dfs M st out k) :
  K24.cnt n out=K24.cnt n st+(match look M n with|some it=>(match it.up with|some p=>K24.cnt p out|none=>0)|none=>0):=by
 induction h with
 |nil =>
  cases look M n with
  |none=>rfl
  |some it=>cases hu:it.up<;>simp[hu,K24.cnt]
 |@cons d m rest out k _ ih =>
  rw[jw,jw,ih,xT,oi nd];unfold kf;cases hl:look M n with
  |none=>simp
  |some it =>
   cases hu:it.up with
   |none=>simp[hu]
   |some p =>
    dsimp only;rw[hu];dsimp only;rw[jw p];have e:(if(some p:Option Nm)=some m.1 then 1 else 0)=(if m.1=p then 1 else 0:Nat):=by
     by_cases hp:m.1=p
     ·rw[if_pos (by rw[hp]),if_pos hp]
     ·rw[if_neg (fun z=>hp (Zi z).symm),if_neg hp]
    rw[e];omega
theorem xU{M:Ol}{n:Nm}(nd:(M.map (·.1)).Nodup):K24.cnt n (fQ M)=kf M n none:=oi nd
theorem vA{ol M:Ol}{out:List DI}{k:Nat}(nd:(M.map (·.1)).Nodup)(h:Dfs M (fQ M) out k)(lk:∀n,look ol n=look M n):∀{j:Nat} {u:Option Nm},Chn ol j u->∀n,u=some n->K24.cnt n out=1:=by
 intro j u ch;induction ch with
 |none=>intro n z;cases z
 |@up j n' it hl c ih =>
  intro n z;cases z;rw[h.cnt nd n',xU nd];unfold kf;rw[<-lk,hl];dsimp only;cases hu:it.up with
  |none=>simp
  |some p =>dsimp only;rw[ih p hu];simp
theorem fU{l:Ol}{n:Nm}{it:It}(h:look l n=some it):(n,it)∈l:=by
 induction l with
 |nil=>cases h
 |cons y l ih =>
  unfold look at h;by_cases c:y.1=n
  ·rw[if_pos c]at h;cases h;rw[<-c];exact Zo
  ·rw[if_neg c]at h;exact Zh _ (ih h)
theorem tU{M ol:Ol}(pe:M.Perm ol)(nd:(ol.map (·.1)).Nodup)(n:Nm):look ol n=look M n:=by
 have ndM:(M.map (·.1)).Nodup:=(pe.map _).nodup_iff.mpr nd;cases h:look ol n with
 |some it =>obtain⟨i,hi⟩:=ZO.mp (pe.mem_iff.mpr (fU h));exact(bO ndM hi).symm
 |none =>
  cases g:look M n with
  |none=>rfl
  |some it =>obtain⟨i,hi⟩:=ZO.mp (pe.mem_iff.mp (fU g));have e:look ol n=some it:=bO nd hi;rw[h]at e;exact e
theorem tj{M:Ol}{out:List DI}{k:Nat}(nd:(M.map (·.1)).Nodup)(h:Dfs M (fQ M) out k)(h1:∀n it,look M n=some it->K24.cnt n out=1):(out.map fun x=>x.2.1).Perm (M.map (·.1)):=by
 rw[List.perm_iff_count];intro n;have e:(out.map fun x=>x.2.1).count n=K24.cnt n out:=by
  unfold K24.cnt;rw[List.count,List.countP_map];congr 1;funext x;show(x.2.1==n)=decide (x.2.1=n);by_cases z:x.2.1=n
  ·rw[decide_eq_true z,z];exact beq_self_eq_true n
  ·rw[decide_eq_false z];exact Yp.mpr z
 rw[e];cases hl:look M n with
 |some it =>rw[h1 n it hl];have hm:n∈M.map (·.1):=List.mem_map_of_mem (f:=(·.1)) (fU hl);exact(Nat.le_antisymm (List.nodup_iff_count.mp nd n) (List.count_pos_iff.mpr hm)).symm
 |none =>
  have hm:n∉M.map (·.1):=fun z=>by obtain⟨x,hx,rfl⟩:=y3.mp z;obtain⟨i,hi⟩:=ZO.mp hx;rw[bO nd hi]at hl;cases hl
  rw[List.count_eq_zero_of_not_mem hm];unfold K24.cnt;rw[List.countP_eq_zero];intro x hx z;have:=h.mem (fun z hz=>by
   obtain⟨w',hw,rfl⟩:=y3.mp hz;exact (iO.mp hw).1) x hx
  exact hm (y3.mpr ⟨x.2,this,Ya z⟩)
inductive Wk:List Nm->List DI->Prop
 |nil {ab:List Nm}:Wk ab []
 |cons {ab:List Nm} {d:Int} {m:Nm×It} {out:List DI} (h0:0<=d) (h1:d.toNat<=ab.length) (hu:m.2.up=if d=0 then none else ab[d.toNat-1]?) (h:Wk (ab.take d.toNat++[m.1]) out):Wk ab ((d,m)::out)
theorem xY{p q n m:List Int}(h:bn p n=bn q m):p=q/\n=m:=by
 induction p generalizing q with
 |nil =>
  cases q with
  |nil =>rw[bn,bn]at h;exact⟨rfl,(List.cons.inj h).2⟩
  |cons b q =>rw[bn,bn]at h;exact absurd (List.cons.inj h).1 (by decide)
 |cons a p ih =>
  cases q with
  |nil =>rw[bn,bn]at h;exact absurd (List.cons.inj h).1 (by decide)
  |cons b q =>rw[bn,bn]at h;obtain⟨h1,h2⟩:=List.cons.inj (List.cons.inj h).2;obtain⟨h3,h4⟩:=ih h2;exact⟨by rw[h1,h3],h4⟩
theorem qt:∀{a b:List Int},HT.lexLt a b=false->HT.lexLt b a=false->a=b
 | [],[],_,_=>rfl
 | [],_::_,h,_=>by rw[HT.lexLt_nil_cons]at h;cases h
 |_::_,[],_,h=>by rw[HT.lexLt_nil_cons]at h;cases h
 |x::a,y::b,h,g=>by
  rw[HT.lexLt_cons]at h g;by_cases z:x=y
  ·subst z;rw[if_pos rfl]at h g;rw[qt h g]
  ·rw[if_neg z]at h;rw[if_neg (ZN z)]at g;have h:=of_decide_eq_false h;have g:=of_decide_eq_false g;omega
theorem yg{x y:Nm×It}(h:(kyP x).nums=(kyP y).nums):x.1=y.1:=by have h:bn x.2.pl [x.1.1,x.1.2]=bn y.2.pl [y.1.1,y.1.2]:=h;obtain⟨_,h⟩:=xY h;injection h with h1 h2;injection h2 with h2 _;exact Prod.ext h1 h2
theorem Aq{ol:Ol}(nd:(ol.map (·.1)).Nodup){x y:Nm×It}(hx:x∈ol)(hy:y∈ol)(h:x.1=y.1):x=y:=oM nd hx hy h
theorem sD{ol M M':Ol}(nd:(ol.map (·.1)).Nodup)(p:M.Perm ol)(p':M'.Perm ol)(s:M.Pairwise leP)(s':M'.Pairwise leP):M=M':=by refine List.Perm.eq_of_pairwise (le:=leP) (fun a b ha hb h1 h2=>?_) s s' (p.trans p'.symm);exact Aq nd (p.mem_iff.mp ha) (p'.mem_iff.mp hb) (yg (qt h2 h1))
def Fr(it:It):Prop:=it.dn=false/\it.wh=none/\it.fo=false
abbrev AbAt(H:Hp)(ab:List Nm)(vs:List V):Prop:=Paired (fun n v=>NameIs H v (nk n)) ab vs
theorem AbAt.ts{H H':Hp}{ab:List Nm}{vs:List V}(x:AbAt H ab vs)(s:TS H H'):AbAt H' ab vs:=Paired.mapP x fun _ _ z=>z.ts' s
theorem jF{α β:Type}{R:α->β->Prop}:∀{a:List α} {b:List β} {i:Nat} {x:α},Paired R a b->a[i]?=some x->∃y,b[i]?=some y/\R x y
 |_,_,0,_,.cons h _,e=>by cases e;exact⟨_,rfl,h⟩
 |_,_,i+1,_,.cons _ t,e=>jF (i:=i) t e
def nmD(n:Nm):PyData:=.tuple [.int n.1,.int n.2]
def cM(ns:List Nm):PyData:=.list (ns.map nmD)
theorem rP{H:Hp}{v:V}{n:Nm}(h:NameIs H v (nk n)):Dt H (nmD n) v:=(lg (u:=some n) h).1
theorem qu{H:Hp}:∀{ns:List Nm} {ks:List V},AbAt H ns ks->DtAll H (ns.map nmD) ks
 |_,_,.nil=>by simp[DtAll]
 |_,_,.cons h t=>by rw[Zx];simp only[DtAll];exact⟨_,_,rfl,rP h,qu t⟩
theorem lL:∀ns:List Nm,PyData.canLayAll0 (ns.map nmD)=true/\PyData.depthAll (ns.map nmD)<=2
 | []=>⟨rfl,by simp[PyData.depthAll]⟩
 |n::ns=>by obtain⟨h1,h2⟩:=lL ns;rw[Zx];refine⟨by simp[PyData.canLayAll0,h1,nmD,PyData.canLay0],?_⟩;simp only[PyData.depthAll,nmD,PyData.depth];omega
theorem dh{H:Hp}{l:Addr}{ns:List Nm}{ks:List V}(hl:H l=some (.lst ks))(h:AbAt H ns ks):Dt H (cM ns) (.ref l)/\SeqAt.shaped (cM ns)=true/\PyData.eqv (cM ns) (cM ns)=true:=by
 obtain⟨h1,h2⟩:=lL ns;have hc:(cM ns).canLay0=true:=by simpa[cM,PyData.canLay0]using h1
 refine⟨?_,cD hc (by simp only[cM,PyData.depth];omega),SeqAt.eqv_refl _ hc⟩;simp only[cM,Dt];exact⟨l,_,rfl,.inl hl,qu h⟩
theorem qv(ns:List Nm):PyData.eqv (cM ns) (cM [])=decide (ns=[]):=by
 cases ns with
 |nil=>rfl
 |cons n ns=>rfl
theorem gU{H:Hp}{M:Ol}{ks:List V}(h:KsAt H M ks):AbAt H (M.map (·.1)) ks:=by
 induction h with
 |nil=>exact .nil
 |cons a _ ih=>exact .cons a ih
def rwD(x:DI):PyData:=.tuple [.int x.1,nmD x.2.1,.str x.2.2.tx,.bool x.2.2.dn,(match x.2.2.wh with|none=>.none|some i=>.int i),.bool x.2.2.fo]
theorem xI{H:Hp}(o:Option Int):Dt H (match o with|none=>.none|some i=>.int i) (whV o):=by
 cases o with
 |none=>simp only[whV,Dt]
 |some i=>simp only[whV,Dt]
theorem CM{H:Hp}{v:V}{x:DI}(h:RwAt H v x):Dt H (rwD x) v:=by obtain⟨a,nv,rfl,h1,h2⟩:=h;have w:=xI (H:=H) x.2.2.wh;have n:=rP h2;simp only[rwD,Dt,DtAll];exact⟨a,_,rfl,.inl h1,_,_,rfl,rfl,_,_,rfl,n,_,_,rfl,rfl,_,_,rfl,rfl,_,_,rfl,w,_,_,rfl,rfl,rfl⟩
theorem qJ{H:Hp}:∀{out:List DI} {rs:List V},RwsAt H out rs->DtAll H (out.map rwD) rs
 |_,_,.nil=>by simp[DtAll]
 |_,_,.cons h t=>by rw[Zx];simp only[DtAll];exact⟨_,_,rfl,CM h,qJ t⟩
theorem lU:∀out:List DI,(∀x∈out,PyData.strOk x.2.2.tx=true)->PyData.canLayAll0 (out.map rwD)=true/\PyData.depthAll (out.map rwD)<=3
 | [],_=>⟨rfl,by simp[PyData.depthAll]⟩
 |x::out,h=>by
  obtain⟨h1,h2⟩:=lU out fun y hy=>h y (Zh _ hy);have hx:=h x Zo;rw[Zx];refine⟨?_,?_⟩
  ·cases hw:x.2.2.wh<;>simp[PyData.canLayAll0,h1,rwD,nmD,PyData.canLay0,hx,hw]
  ·simp only[PyData.depthAll,rwD,nmD,PyData.depth];cases hw:x.2.2.wh<;>simp only[PyData.depth]<;>omega
theorem By{H:Hp}{l:Addr}{out:List DI}{rs:List V}(hl:H l=some (.lst rs))(h:RwsAt H out rs)(hs:∀x∈out,PyData.strOk x.2.2.tx=true):Dt H (.list (out.map rwD)) (.ref l)/\SeqAt.shaped (.list (out.map rwD))=true/\PyData.eqv (.list (out.map rwD)) (.list (out.map rwD))=true:=by
 obtain⟨h1,h2⟩:=lU out hs;have hc:(PyData.list (out.map rwD)).canLay0=true:=by simpa[PyData.canLay0]using h1
 refine⟨?_,cD hc (by simp only[PyData.depth];omega),SeqAt.eqv_refl _ hc⟩;simp only[Dt];exact⟨l,_,rfl,.inl hl,qJ h⟩
theorem xW{M:Ol}{st o1 o2:List DI}{k1 k2:Nat}(h:Dfs M st o1 k1)(g:Dfs M st o2 k2):o1=o2:=by
 induction h generalizing o2 k2 with
 |nil=>cases g;rfl
 |cons _ ih =>
  cases g with
  |cons g=>rw[ih g]
def jO(ol:Ol)(u:Option Nm):Prop:=∀m,u=some m->(look ol m).isSome=true
theorem Chn.und{ol:Ol}{k:Nat}{u:Option Nm}(h:Chn ol k u)(o:Nm):∃j b,Und ol o j u b:=by
 induction h with
 |none=>exact⟨0,false,.none⟩
 |@up k n it hl _ ih =>
  by_cases c:n=o
  ·subst c;exact⟨0,true,.self⟩
  ·obtain⟨j,b,un⟩:=ih;exact⟨j+1,b,.up c hl un⟩
def Ter(ol:Ol):Prop:=∀n it,look ol n=some it->∃k,Chn ol k (some n)
theorem zj{ol:Ol}(nd:(ol.map (·.1)).Nodup)(t:Ter ol):∃B,nW ol B:=by
 have go:∀l:Ol,(∀x∈l,x∈ol)->∃B,∀x∈l,∃k,k<=B/\Chn ol k (some x.1):=fun l=>by
  induction l with
  |nil=>intro _;exact⟨0,fun x hx=>by cases hx⟩
  |cons y l ih =>
   intro hl;obtain⟨B,hB⟩:=ih fun x hx=>hl x (Zh _ hx);obtain⟨i,hi⟩:=ZO.mp (hl y Zo);obtain⟨k,ck⟩:=t _ _ (bO nd hi);refine⟨B+k,fun x hx=>?_⟩;rcases Zq.mp hx with rfl|hx
   ·exact⟨k,Nat.le_add_left _ _,ck⟩
   ·obtain⟨k',h1,h2⟩:=hB x hx;exact⟨k',ZB h1 (Nat.le_add_right _ _),h2⟩
 exact go ol fun _ z=>z
theorem zl{ol:Ol}{n:Nm}{it:It}(t:Ter ol)(hn:look ol n=none)(uo:jO ol it.up):Ter (dH ol n it):=by
 have lift:∀{k:Nat} {v:Option Nm},Chn ol k v->Chn (dH ol n it) k v:=fun h=>by
  induction h with
  |none=>exact .none
  |@up k m x hl _ ih =>refine .up ?_ ih;rw[cX,if_neg (fun z=>by rw[z,hn]at hl;cases hl)];exact hl
 intro m x hm;rw[cX]at hm;by_cases c:m=n
 ·rw[if_pos c]at hm;cases hm;have hl:look (dH ol n it) m=some it:=by rw[cX,if_pos c]
  cases hu:it.up with
  |none=>exact⟨1,.up hl (by rw[hu];exact .none)⟩
  |some p =>obtain⟨y,hy⟩:=Z4.mp (uo p hu);obtain⟨k,ck⟩:=t p y hy;exact⟨k+1,.up hl (by rw[hu];exact lift ck)⟩
 ·rw[if_neg c]at hm;obtain⟨k,ck⟩:=t m x hm;exact⟨k,lift ck⟩
abbrev dX:Stmt:=bG (top 21) 8
abbrev mT:List Str:=["self"]
theorem ma:FnScope mT ["self"] (am dX):=⟨rfl,rfl,rfl,by decide +kernel,rfl,by decide +kernel,by decide +kernel⟩
theorem lO{f C:Addr}{fd:FuncData}(F:Fun K "names" "Plain.names" dX f fd)(T:Txt K C)(z_list:mg "list" = none):FnOk P w K mg base CX0 1 f fd ["self"] (md C):=by
 refine F.okQ ma (fun vs H Q E h=>?_) (fun cdv A outer s H vs Q E hr h=>?_)
 ·obtain⟨p,d,g,kvs,gvs,rfl,_⟩:=h;rfl
 obtain⟨p,d,g,kvs,gvs,rfl,S,q⟩:=h;obtain⟨⟨dx,h1⟩,h2,h3,h4⟩:=id S;refine⟨_,(b_1 (aH (wq (pR rfl) z_list mj (q_a (cH (q_v 0)) aj)))),?_⟩;exact⟨_,rfl,p,C,dx,_,_,rfl,h1,T.cl,T.nH,aZ _ _,d,kvs,rfl,.inl h2,fun l ks hl hk=>q l ks hl hk⟩
def kW(K:PySem.W.Frag)(T:Addr):Sp:=fun vs H Q _=>∃(a:Addr) (ns:List Int),vs=[.ref a]/\SqL K H a (ns.map V.int)/\ns.length<=63/\H T=some (.tbl #[])/\∀H',Q (.bl true) H'
def itD(it:It):PyData:=.tuple [dY it.up,.tuple (it.pl.map .int),.str it.tx,.bool it.dn,(match it.wh with|none=>.none|some i=>.int i),.bool it.fo]
theorem Cl{H:Hp}{v:V}{it:It}(h:ItAt H v it)(hs:PyData.strOk it.tx=true):Dt H (itD it) v/\SeqAt.shaped (itD it)=true/\PyData.eqv (itD it) (itD it)=true:=by
 obtain⟨a,uv,pv,rfl,h1,h2,pb,rfl,h3⟩:=h;obtain⟨u1,u2,u3⟩:=lg h2;have w:=xI (H:=H) it.wh;have p:=eQ h3;have pc:=PyProof.Rows.canLayAll_ints it.pl;have pd:=PyProof.Rows.depthAll_ints it.pl;have hc:(itD it).canLay0=true:=by unfold itD;cases hw:it.wh<;>simp[PyData.canLay0,PyData.canLayAll0,u2,hs,pc]
 refine⟨?_,cD hc ?_,SeqAt.eqv_refl _ hc⟩
 ·simp only[itD,Dt,DtAll];refine⟨a,_,rfl,.inl h1,_,_,rfl,u1,_,_,rfl,?_,_,_,rfl,rfl,_,_,rfl,rfl,_,_,rfl,w,_,_,rfl,rfl,rfl⟩;simpa only[Dt]using p
 ·unfold itD;simp only[PyData.depth,PyData.depthAll];rw[pd];cases hw:it.wh<;>simp only[PyData.depth]<;>omega
theorem Cz{X:Cx}:cn (CXr X.prog X.w) X E0:=fun _ _ _ _ _ _ _ x=>by obtain⟨_,_,_,_,_,_,_,_,_,_,_,_,_,_,_,_,_,q⟩:=x;exact q.elim
theorem Cd{H:Hp}{m:Addr}{kvs kvs':List (List Key×V)}(h:H m=some (.dT kvs)):TS H (upd H m (.dT kvs')):=fun a zs e=>by rw[af (hJ e h (by intro z;cases z))];exact e
abbrev iE:Stmt:=top 24
abbrev sM:List Str:=["_law_script","_law_k"]
theorem sv:FnScope sM ["_law_script","_law_k"] (am iE):=⟨rfl,rfl,rfl,by decide +kernel,rfl,by decide +kernel,by decide +kernel⟩
theorem rS{f:Addr}{fd:FuncData}(F:Fun K "_law_cell_at" "_law_cell_at" iE f fd)(z_len:mg "len" = none):FnOk P w K mg base CX0 1 f fd ["_law_script","_law_k"] (pk K):=by
 refine F.okQ sv (fun vs H Q E h=>?_) (fun cdv A outer s H vs Q E hr h=>?_)
 ·obtain⟨a,ns,k,rfl,_⟩:=h;rfl
 obtain⟨a,ns,k,rfl,hS,hk,q⟩:=h;refine⟨_,(b_c (aL (aw Av (q_v 1) (q_B jR z_len YJ (q_a (q_v 0) aj))) (b_1 (aH (aB dw (q_v 0) (q_v 1)))) b_0)
   (b_1 (aH ah))),?_⟩
 have hl:((ns.map V.int).length:Int)=(ns.length:Int):=by rw[Zu]
 refine⟨_,rfl,_,rfl,a,_,rfl,.inl hS,_,_,rfl,rfl,_,rfl,bM (fun c=>?_) (fun c=>?_)⟩
 ·refine⟨_,rfl,_,rfl,a,_,_,_,rfl,rfl,hS,vo hk (by omega),q⟩
 ·rw[show dL ns k.toNat=0 from vw hk (by omega)]at q;exact q
def uM:Sp:=fun vs H Q _=>∃(mn:Addr) (mvs:List (List Key×V)) (ol:Ol) (u v:V) (one:Option Nm) (o:Nm) (k:Nat) (b:Bool),vs=[u,v,.ref mn]/\H mn=some (.dT mvs)/\Rows H mvs ol/\UpAt H u one/\NameIs H v (nk o)/\Und ol o k one b/\Q (.bl b) H
abbrev lW:Stmt:=top 26
abbrev xN:List Str:=["_law_one","_law_other","_law_mine"]
theorem pf:FnScope xN ["_law_one","_law_other","_law_mine"] (am lW):=⟨rfl,rfl,rfl,by decide +kernel,rfl,by decide +kernel,by decide +kernel⟩
theorem vU{f:Addr}{fd:FuncData}(F:Fun K "_law_is_in" "_law_is_in" lW f fd):FnOk P w K mg base CX0 1 f fd ["_law_one","_law_other","_law_mine"] uM:=by
 refine F.okQ pf (fun vs H Q E h=>?_) (fun cdv A outer s H vs Q E hr h=>?_)
 ·obtain⟨mn,mvs,ol,u,v,one,o,k,b,rfl,_⟩:=h;rfl
 obtain⟨mn,mvs,ol,u,v,one,o,k,b,rfl,hm,R,hu,hv,un,q⟩:=h;obtain⟨vb,rfl,hvb⟩:=id hv;refine⟨_,(b_c (lY Yo (aw iw (q_v 0) bg) (b_c (aL (aw (Au hr.units) (q_v 0) (q_v 1)) (b_1 (aH cC)) b_0)
   (b_1 (ay (i:=0) pf.nd (aB ax (di hr.units (q_v 2) (q_v 0)) ah)))))
   (b_1 (aH cC))),?_⟩
 try rw[cxK]
 refine⟨fun m σ H'=>H'=H/\∃(u:V) (one:Option Nm),UpAt H u one/\Und ol o m one b/\σ=[some u,some (.ref vb),some (.ref mn)],⟨k,rfl,u,one,hu,un,rfl⟩,?_⟩;rintro m σ H' ⟨rfl,u,one,hu,un,rfl⟩;cases un with
 |none =>obtain rfl:u=.non:=hu;exact⟨_,rfl,rfl,_,rfl,fF rfl q⟩
 |self =>obtain⟨ub,rfl,hub⟩:=id hu;refine⟨_,rfl,rfl,_,rfl,iR (by intro z;cases z) ⟨fun _ _=>False,fun _ _ z=>z.elim,?_⟩⟩;refine⟨_,rfl,_,rfl,ub,vb,[o.1,o.2],[o.1,o.2],rfl,rfl,hub,hvb,_,rfl,?_⟩;rw[decide_eq_true rfl];exact bw q
 |@up m n it _ hn hl un =>
  obtain⟨ub,rfl,hub⟩:=id hu;obtain⟨iv,e1,ia,uv,pv,rfl,e2,e3,e4⟩:=aT R hl;refine⟨_,rfl,rfl,_,rfl,iR (by intro z;cases z) ?_⟩;refine⟨fun σ H2=>H2=H'/\σ=[some uv,some (.ref vb),some (.ref mn)],?_,?_⟩
  ·rintro σ' H2 ⟨rfl,rfl⟩;exact⟨m,Yt m,rfl,uv,it.up,e3,un,rfl⟩
  refine⟨_,rfl,_,rfl,ub,vb,[n.1,n.2],[o.1,o.2],rfl,rfl,hub,hvb,_,rfl,?_⟩;have:¬ ([n.1,n.2]=[o.1,o.2]):=fun z=>hn (by
   injection z with z1 z2;injection z2 with z2 _;exact Prod.ext z1 z2)
  rw[decide_eq_false this];refine aA ?_;refine⟨_,rfl,_,rfl,mn,.ref ia,rfl,e1▸DGet.t (k:=nk n) hm hub,?_⟩;exact⟨ia,_,_,_,rfl,rfl,SqT.of e2,at0,rfl,rfl⟩
def OutAt(H:Hp)(t:Addr):Out->Prop
 |.taken=>H t=some (.tup [.str "taken",.non])
 |.none n=>∃v,H t=some (.tup [.str "none",v])/\NameIs H v (nk n)
 |.beneath=>H t=some (.tup [.str "beneath",.non])
 |.far=>H t=some (.tup [.str "far",.non])
 |.ok=>H t=some (.tup [.str "taken anew",.non])
theorem OutAt.same{H H':Hp}{t:Addr}{o:Out}(x:OutAt H t o)(s:Same H H'):OutAt H' t o:=by
 cases o with
 |none n =>obtain⟨v,h1,h2⟩:=x;exact⟨v,s _ _ h1,h2.same s⟩
 |taken=>exact s _ _ x
 |beneath=>exact s _ _ x
 |far=>exact s _ _ x
 |ok=>exact s _ _ x
def dE:Out->PyData
 |.taken=>.tuple [.str "taken",.none]
 |.none n=>.tuple [.str "none",nmD n]
 |.beneath=>.tuple [.str "beneath",.none]
 |.far=>.tuple [.str "far",.none]
 |.ok=>.tuple [.str "taken anew",.none]
theorem uu{H:Hp}{t:Addr}{o:Out}(x:OutAt H t o):Dt H (dE o) (.ref t)/\SeqAt.shaped (dE o)=true/\PyData.eqv (dE o) (dE o)=true:=by
 have hc:(dE o).canLay0=true:=by
  cases o with
  |none n =>show PyData.canLay0 (.tuple [.str "none",nmD n])=true;simp only[nmD,PyData.canLay0,PyData.canLayAll0];decide +kernel
  |taken=>decide +kernel
  |beneath=>decide +kernel
  |far=>decide +kernel
  |ok=>decide +kernel
 refine⟨?_,cD hc ?_,SeqAt.eqv_refl _ hc⟩
 ·cases o with
  |none n =>obtain⟨v,h1,h2⟩:=x;have h3:=rP h2;simp only[dE,Dt,DtAll];exact⟨t,_,rfl,.inl h1,_,_,rfl,rfl,_,_,rfl,h3,rfl⟩
  |taken=>simp only[dE,Dt,DtAll];exact⟨t,_,rfl,.inl x,_,_,rfl,rfl,_,_,rfl,rfl,rfl⟩
  |beneath=>simp only[dE,Dt,DtAll];exact⟨t,_,rfl,.inl x,_,_,rfl,rfl,_,_,rfl,rfl,rfl⟩
  |far=>simp only[dE,Dt,DtAll];exact⟨t,_,rfl,.inl x,_,_,rfl,rfl,_,_,rfl,rfl,rfl⟩
  |ok=>simp only[dE,Dt,DtAll];exact⟨t,_,rfl,.inl x,_,_,rfl,rfl,_,_,rfl,rfl,rfl⟩
 ·cases o<;>simp[dE,nmD,PyData.depth,PyData.depthAll]
def pC:Sp:=fun vs H Q _=>∃(n:Int) (l:Addr) (ks:List V) (ol:Ol),vs=[.int n,.ref l]/\H l=some (.lst ks)/\KsAt H ol ks/\∀(v:V) (m:Nm) (H':Hp),Same H H'->NameIs H' v (nk m)->Q v H'
abbrev oZ:Stmt:=top 27
abbrev zE:List Str:=["_law_number","_law_names"]
theorem yV:FnScope zE ["_law_number","_law_names"] (am oZ):=⟨rfl,rfl,rfl,by decide +kernel,rfl,by decide +kernel,by decide +kernel⟩
theorem yk{f:Addr}{fd:FuncData}(F:Fun K "_law_name" "_law_name" oZ f fd)(z_len:mg "len" = none):FnOk P w K mg base CX0 1 f fd ["_law_number","_law_names"] pC:=by
 refine F.okQ yV (fun vs H Q E h=>?_) (fun cdv A outer s H vs Q E hr h=>?_)
 ·obtain⟨n,l,ks,ol,rfl,_⟩:=h;rfl
 obtain⟨c,l,ks,ol,rfl,hl,ka,q⟩:=h;refine⟨_,(b_c (aL (t_w (jM (aw bC (aD bQ (q_v 0) ah) ah) (ik (aw (xi hr.units) (q_v 1) (bf aj))))) (b_1 (aH (au (q_a (aD bQ (aD cA (q_v 0) ah) ah) (q_a (aD eC ah (aD bQ (aD cA (q_v 0) ah) (aD eE ah ah))) aj))))) b_0)
   (b_1 (aH (aB dw (q_v 1) (aD bQ (aD cA (q_v 0) ah) (q_B jR z_len YJ (q_a (q_v 1) aj))))))),?_⟩
 try rw[cxK]
 have lks:=ZI ka;refine⟨_,rfl,_,_,rfl,rfl,(by show(0:Int)<3;decide),rfl,_,rfl,bM (fun c1=>?pos) (fun c1=>?neg)⟩
 case' pos =>have sm:=Same.refl H;refine bw ?_
 case' neg =>refine⟨_,rfl,sz rfl,fun e ge=>?_⟩;have sm:=ag ge (.lst []);obtain⟨d1,s1,_⟩:=dh (sm _ _ hl) (gU (ka.ts (Same.ts sm)));obtain⟨d2,s2,_⟩:=dh (ns:=[]) (l:=e) ad .nil;refine⟨_,_,d1,d2,s1,s2,_,rfl,?_⟩;generalize upd H e (.lst [])=H at sm ⊢;rw[qv];refine bM (fun z=>?n1) (fun z=>?n2)
 case n2 =>
  have ne:ol≠[]:=fun y=>z (by rw[y];rfl);have lp:0<ks.length:=by rw[<-lks];exact List.length_pos_iff.mpr ne
  have h0:=YR (c / 3) (show(ks.length:Int)≠0 by omega);have h1:=Yy (c / 3) (show(0:Int)<(ks.length:Int) by omega);obtain⟨j,hj⟩:=Int.eq_ofNat_of_zero_le h0;have hjl:j<ks.length:=by omega
  obtain⟨m,hm',hnm⟩:=eX ka j _ (Zb hjl);refine⟨_,rfl,_,rfl,_,_,rfl,rfl,⟨by decide,by decide⟩,_,rfl,l,_,rfl,.inl (SqL.of (sm _ _ hl)),_,_,rfl,rfl,(by show(0:Int)<(ks.length:Int);omega),l,_,_,_,rfl,rfl,SqL.of (sm _ _ hl),(by rw[hj];exact cE (Zb hjl)),?_⟩;exact q _ m.1 _ sm (hnm.ts' (Same.ts sm))
 case pos|n1 =>refine⟨_,rfl,_,_,rfl,rfl,⟨by decide,by decide⟩,_,_,rfl,rfl,(by show(0:Int)<8;decide),_,rfl,_,_,rfl,rfl,⟨by decide,by decide⟩,_,_,rfl,rfl,⟨by decide,by decide,by decide⟩,_,_,rfl,rfl,(by show(0:Int)<10^9;decide),_,_,rfl,rfl,sz rfl,fun t gt=>?_⟩;exact q _ (_,_) _ (sm.trans (ag gt _)) ⟨t,rfl,ad⟩
def TxB(ol:Ol):Prop:=∀n it,look ol n=some it->it.tx.length<=400
def qL:Sp:=fun vs H Q _=>∃(c:Int) (l mn:Addr) (ks:List V) (mvs:List (List Key×V)) (ol:Ol),vs=[.int c,.ref l,.ref mn]/\H l=some (.lst ks)/\KsAt H ol ks/\H mn=some (.dT mvs)/\Rows H mvs ol/\TxB ol/\∀(st:Addr) (s:Sd) (H':Hp),Same H H'->StAt H' st s->Q (.ref st) H'
abbrev lV:Stmt:=top 28
abbrev xM:List Str:=["_law_cell","_law_names","_law_mine","_law_one","_law_other","_law_way","_law_far"]
theorem dG:FnScope xM ["_law_cell","_law_names","_law_mine"] (am lV):=⟨rfl,rfl,rfl,by decide +kernel,rfl,by decide +kernel,by decide +kernel⟩
theorem vT{f:Addr}{fd:FuncData}(F:Fun K "_law_drawn" "_law_drawn" lV f fd)(F_name:Fn P w K mg base 1 "_law_name" ["_law_number","_law_names"] pC)(z_len:mg "len" = none):FnOk P w K mg base CX0 2 f fd ["_law_cell","_law_names","_law_mine"] qL:=by
 refine F.okQ dG (fun vs H Q E h=>?_) (fun cdv A outer s H vs Q E hr h=>?_)
 ·obtain⟨c,l,mn,ks,mvs,ol,rfl,_⟩:=h;rfl
 obtain⟨c,l,mn,ks,mvs,ol,rfl,hl,ka,hm,R,tb,q⟩:=h;refine⟨_,(b_c (ay (i:=3) dG.nd (cQ F_name (hr.mono (by decide)) (q_a (aD bQ (aD cA (q_v 0) ah) ah) (q_a (q_v 1) aj))))
   (b_c (ay (i:=4) dG.nd (cQ F_name (hr.mono (by decide)) (q_a (aD bQ (aD xm (aD bQ (aD cA (q_v 0) ah) ah) ah) ah) (q_a (q_v 1) aj))))
   (b_c (ay (i:=5) dG.nd (aD bQ (q_v 0) ah))
   (b_c (aL (aw bC (q_v 5) ah) (b_1 (aH (au (q_a aq (q_a (q_v 3) (q_a (q_v 4) (q_a (au (q_a ah aj)) (q_a aq aj)))))))) b_0)
   (b_c (aL (aw bC (q_v 5) ah) (b_1 (aH (au (q_a aq (q_a (q_v 3) (q_a (q_v 4) (q_a (au (q_a ah aj)) aj))))))) b_0)
   (b_c (aL (aw bC (q_v 5) ah) (b_c (ay (i:=6) dG.nd (aB dw (bf (q_a ah (q_a (aD eE ah ah) aj))) (aD bQ (aD cA (q_v 0) ah) ah)))
   (b_c (fu (aL (sG hr.units (q_v 3) (q_v 2)) (b_1 (ay (i:=6) dG.nd (aD eC (q_v 6) (q_B nZ z_len YJ (q_a (aB ax (di hr.units (q_v 2) (q_v 3)) ah) aj))))) b_0))
   (b_1 (aH (au (q_a aq (q_a (q_v 3) (q_a (q_v 6) (q_a (q_v 4) (q_a (au (q_a ah aj)) aj)))))))))) b_0)
   (b_c (aL (aw bC (q_v 5) ah) (b_1 (aH (au (q_a aq (q_a (q_v 3) (q_a (q_v 4) aj)))))) b_0)
   (b_c (aL (aw bC (q_v 5) ah) (b_1 (aH (au (q_a aq (q_a (q_v 3) aj))))) b_0)
   (b_c (aL (aw Av (q_v 5) ah) (b_1 (aH (aB dw (bf (q_a (au (q_a aq (q_a (q_v 3) (q_a aq aj)))) (q_a (au (q_a aq (q_a (q_v 3) (q_a cC aj)))) (q_a (au (q_a aq (q_a (q_v 3) (q_a ah aj)))) (q_a (au (q_a aq (q_a (q_v 3) (q_a cC aj)))) aj))))) (aD xn (q_v 5) ah)))) b_0)
   (b_1 (aH (au (q_a aq (q_a (q_v 3) (q_a bg (q_a (au (q_a ah aj)) aj)))))))))))))))),?_⟩
 try rw[cxK]
 refine⟨_,rfl,_,_,rfl,rfl,⟨by decide,by decide⟩,_,_,rfl,rfl,(by show(0:Int)<9973;decide),_,rfl,_,l,ks,ol,rfl,hl,ka,fun v1 m1 H1 s1 n1=>?_⟩;refine⟨_,rfl,_,_,rfl,rfl,⟨by decide,by decide⟩,_,_,rfl,rfl,(by show(0:Int)<1000003;decide),_,_,rfl,rfl,.inr ⟨by decide,by decide⟩,_,_,rfl,rfl,(by show(0:Int)<9967;decide),_,rfl,_,l,ks,ol,rfl,s1 _ _ hl,ka.ts (Same.ts s1),fun v2 m2 H2 s2 n2=>?_⟩;have s02:=s1.trans s2;have n1:=n1.ts' (Same.ts s2);refine⟨_,rfl,_,_,rfl,rfl,(by show(0:Int)<10;decide),?_⟩;have w0:=YR c (show(10:Int)≠0 by decide);have w1:=Yy c (show(0:Int)<10 by decide);dsimp only;generalize c%10=wy at w0 w1 ⊢;refine⟨_,rfl,rfl,_,rfl,bM (fun _=>?_) (fun c0=>?_)⟩
 ·refine⟨_,rfl,_,rfl,sz rfl,fun t1 g1=>⟨sz rfl,fun t2 g2=>?_⟩⟩;have x1:=ag g1 (.tup [.int 0]);have x2:=ag g2 (.tup [.str "put",v1,v2,.ref t1,.str "new"]);exact q t2 (.put m1 (some m2) [0] "new") _ (s02.trans (x1.trans x2)) ⟨v1,v2,.ref t1,ad,n1.ts' (Same.ts (x1.trans x2)),n2.ts' (Same.ts (x1.trans x2)),t1,rfl,x2 _ _ ad⟩
 refine⟨_,rfl,rfl,_,rfl,bM (fun _=>?_) (fun c1=>?_)⟩
 ·refine⟨_,rfl,_,rfl,sz rfl,fun t1 g1=>⟨sz rfl,fun t2 g2=>?_⟩⟩;have x1:=ag g1 (.tup [.int 0]);have x2:=ag g2 (.tup [.str "move",v1,v2,.ref t1]);exact q t2 (.move m1 (some m2) [0]) _ (s02.trans (x1.trans x2)) ⟨v1,v2,.ref t1,ad,n1.ts' (Same.ts (x1.trans x2)),n2.ts' (Same.ts (x1.trans x2)),t1,rfl,x2 _ _ ad⟩
 refine⟨_,rfl,rfl,_,rfl,bM (fun _=>?_) (fun c2=>?_)⟩
 ·refine⟨_,_,rfl,rfl,⟨by decide,by decide,by decide⟩,sz rfl,fun lx glx=>?_⟩;have b0:=YR (c / 70) (show(2:Int)≠0 by decide);have b1:=Yy (c / 70) (show(0:Int)<2 by decide);have xl:=ag glx (.lst [.int 1,.int (10^(59:Int).toNat)]);obtain⟨z,hz⟩:∃z:Int,atI [V.int 1,V.int (10^(59:Int).toNat)] (c / 70%2)=some (.int z):=by
   rcases(show c / 70%2=0\/c / 70%2=1 by omega)with h|h
   ·rw[h];exact⟨_,at0⟩
   ·rw[h];exact⟨_,at1⟩
  refine⟨_,rfl,_,_,rfl,rfl,⟨by decide,by decide⟩,_,_,rfl,rfl,(by show(0:Int)<2;decide),lx,_,_,_,rfl,rfl,SqL.of ad,hz,?_⟩;have s03:=s02.trans xl;have n1:=n1.ts' (Same.ts xl);have n2:=n2.ts' (Same.ts xl);generalize upd H2 lx (.lst [.int 1,.int (10^(59:Int).toNat)])=H3 at s03 n1 n2 ⊢;refine⟨fun σ' H'=>H'=H3/\∃z':Int,σ'=[some (.int c),some (.ref l),some (.ref mn),some v1,some v2,some (.int wy),some (.int z')],?_,?_⟩
  ·obtain⟨nb,rfl,hnb⟩:=id n1;refine⟨_,rfl,_,rfl,mn,_,rfl,DGet.t (k:=nk m1) (s03 _ _ hm) hnb,_,rfl,?_⟩;cases hv:look ol m1 with
   |none =>rw[dQ R hv];exact aA ⟨rfl,z,rfl⟩
   |some it =>obtain⟨iv,e1,ia,uv,pv,rfl,e2,e3,e4⟩:=aT (R.ts (Same.ts s03)) hv;rw[e1];refine bw ⟨_,rfl,_,rfl,_,rfl,mn,.ref ia,rfl,e1▸DGet.t (k:=nk m1) (s03 _ _ hm) hnb,ia,_,_,_,rfl,rfl,SqT.of e2,at2,it.tx,rfl,(by have:=tb m1 it hv;omega),_,_,rfl,rfl,rfl,_,rfl⟩
  ·rintro σ' H' ⟨rfl,z',rfl⟩;refine⟨_,rfl,_,rfl,_,rfl,sz rfl,fun t1 g1=>⟨sz rfl,fun t2 g2=>?_⟩⟩;have x1:=ag g1 (.tup [.int 0]);have x2:=ag g2 (.tup [.str "part",v1,.int z',v2,.ref t1]);exact q t2 (.part m1 z' m2 [0]) _ (s03.trans (x1.trans x2)) ⟨v1,v2,.ref t1,ad,n1.ts' (Same.ts (x1.trans x2)),n2.ts' (Same.ts (x1.trans x2)),t1,rfl,x2 _ _ ad⟩
 refine⟨_,rfl,rfl,_,rfl,bM (fun _=>?_) (fun c3=>?_)⟩
 ·refine⟨_,rfl,_,rfl,sz rfl,fun t2 g2=>?_⟩;have x2:=ag g2 (.tup [.str "join",v1,v2]);exact q t2 (.join m1 m2) _ (s02.trans x2) ⟨v1,v2,ad,n1.ts' (Same.ts x2),n2.ts' (Same.ts x2)⟩
 refine⟨_,rfl,rfl,_,rfl,bM (fun _=>?_) (fun c4=>?_)⟩
 ·refine⟨_,rfl,sz rfl,fun t2 g2=>?_⟩;have x2:=ag g2 (.tup [.str "gone",v1]);exact q t2 (.gone m1) _ (s02.trans x2) ⟨v1,ad,n1.ts' (Same.ts x2)⟩
 refine⟨_,rfl,_,_,rfl,rfl,_,rfl,bM (fun c5=>?_) (fun c5=>?_)⟩
 ·refine⟨_,rfl,sz rfl,fun t1 g1=>⟨_,rfl,sz rfl,fun t2 g2=>⟨_,rfl,sz rfl,fun t3 g3=>⟨_,rfl,sz rfl,fun t4 g4=>⟨sz rfl,fun lx glx=>?_⟩⟩⟩⟩⟩;have x1:=ag g1 (.tup [.str "write",v1,.str "new"]);have x2:=ag g2 (.tup [.str "mark",v1,.bl true]);have x3:=ag g3 (.tup [.str "due",v1,.int 3]);have x4:=ag g4 (.tup [.str "fold",v1,.bl true]);have xl:=ag glx (.lst [.ref t1,.ref t2,.ref t3,.ref t4]);have xx:=x1.trans (x2.trans (x3.trans (x4.trans xl)));have nn:=n1.ts' (Same.ts xx);have ne:∀{k:Int},¬V.int wy=V.int k->wy≠k:=fun h z=>h (ZW V.int z);have:=ne c0;have:=ne c1;have:=ne c2;have:=ne c3;have:=ne c4;rcases(show wy=5\/wy=6\/wy=7\/wy=8 by omega)with rfl|rfl|rfl|rfl
  ·exact⟨_,rfl,_,_,rfl,rfl,lx,_,_,_,rfl,rfl,SqL.of ad,at0,q t1 (.write m1 "new") _ (s02.trans xx) ⟨v1,(x2.trans (x3.trans (x4.trans xl))) _ _ ad,nn⟩⟩
  ·exact⟨_,rfl,_,_,rfl,rfl,lx,_,_,_,rfl,rfl,SqL.of ad,at1,q t2 (.mark m1 true) _ (s02.trans xx) ⟨v1,(x3.trans (x4.trans xl)) _ _ ad,nn⟩⟩
  ·exact⟨_,rfl,_,_,rfl,rfl,lx,_,_,_,rfl,rfl,SqL.of ad,at2,q t3 (.due m1 (some 3)) _ (s02.trans xx) ⟨v1,(x4.trans xl) _ _ ad,nn⟩⟩
  ·exact⟨_,rfl,_,_,rfl,rfl,lx,_,_,_,rfl,rfl,SqL.of ad,at3,q t4 (.fold m1 true) _ (s02.trans xx) ⟨v1,xl _ _ ad,nn⟩⟩
 ·refine⟨_,rfl,sz rfl,fun t1 g1=>⟨sz rfl,fun t2 g2=>?_⟩⟩;have x1:=ag g1 (.tup [.int 0]);have x2:=ag g2 (.tup [.str "move",v1,.non,.ref t1]);exact q t2 (.move m1 none [0]) _ (s02.trans (x1.trans x2)) ⟨v1,.non,.ref t1,ad,n1.ts' (Same.ts (x1.trans x2)),rfl,t1,rfl,x2 _ _ ad⟩
def Sd.wd:Sd->Str
 |.put _ _ _ _=>"put"
 |.move _ _ _=>"move"
 |.write _ _=>"write"
 |.mark _ _=>"mark"
 |.due _ _=>"due"
 |.fold _ _=>"fold"
 |.part _ _ _ _=>"part"
 |.join _ _=>"join"
 |.gone _=>"gone"
def Sd.nm:Sd->Nm
 |.put n _ _ _=>n
 |.move n _ _=>n
 |.write n _=>n
 |.mark n _=>n
 |.due n _=>n
 |.fold n _=>n
 |.part n _ _ _=>n
 |.join n _=>n
 |.gone n=>n
def rX:Sd->List (Option Nm)
 |.put _ u _ _=>[u]
 |.move n u _=>[some n,u]
 |.join n m=>[some n,some m]
 |s=>[some s.nm]
theorem kK(s:Sd):s.items=(rX s).filterMap id:=by
 cases s with
 |put n u pl tx=>cases u<;>rfl
 |move n u pl=>cases u<;>rfl
 |_=>rfl
theorem yZ{H:Hp}{st:Addr}{s:Sd}(h:StAt H st s):∃(nv:V) (rest:List V),H st=some (.tup (.str s.wd::nv::rest))/\NameIs H nv (nk s.nm):=by
 cases s with
 |put=>obtain⟨nv,uv,pv,h1,h2,_⟩:=h;exact⟨_,_,h1,h2⟩
 |move=>obtain⟨nv,uv,pv,h1,h2,_⟩:=h;exact⟨_,_,h1,h2⟩
 |write=>obtain⟨nv,h1,h2⟩:=h;exact⟨_,_,h1,h2⟩
 |mark=>obtain⟨nv,h1,h2⟩:=h;exact⟨_,_,h1,h2⟩
 |due=>obtain⟨nv,h1,h2⟩:=h;exact⟨_,_,h1,h2⟩
 |fold=>obtain⟨nv,h1,h2⟩:=h;exact⟨_,_,h1,h2⟩
 |part=>obtain⟨nv,mv,pv,h1,h2,_⟩:=h;exact⟨_,_,h1,h2⟩
 |join=>obtain⟨nv,mv,h1,h2,_⟩:=h;exact⟨_,_,h1,h2⟩
 |gone=>obtain⟨nv,h1,h2⟩:=h;exact⟨_,_,h1,h2⟩
theorem jL{a b:Str}(h:V.str a=V.str b):a=b:=by injection h
theorem Ae{s:Sd}(h:s.wd="put"):∃n u pl tx,s=.put n u pl tx:=by cases s<;>first|exact⟨_,_,_,_,rfl⟩|(simp only[Sd.wd]at h;exact absurd h (by decide +kernel))
theorem qk{s:Sd}(h:s.wd="part"):∃n a m pl,s=.part n a m pl:=by cases s<;>first|exact⟨_,_,_,_,rfl⟩|(simp only[Sd.wd]at h;exact absurd h (by decide +kernel))
theorem qj{s:Sd}(h:s.wd="move"):∃n u pl,s=.move n u pl:=by cases s<;>first|exact⟨_,_,_,rfl⟩|(simp only[Sd.wd]at h;exact absurd h (by decide +kernel))
theorem qi{s:Sd}(h:s.wd="join"):∃n m,s=.join n m:=by cases s<;>first|exact⟨_,_,rfl⟩|(simp only[Sd.wd]at h;exact absurd h (by decide +kernel))
def vP:Sd->List Nm
 |.put n _ _ _=>[n]
 |_=>[]
def rW:Sd->List (Option Nm)
 |.put _ u _ _=>[u]
 |s=>[some s.nm]
theorem Ar{s:Sd}(h:s.wd≠"put"):vP s=[]/\rW s=[some s.nm]:=by cases s<;>first|exact⟨rfl,rfl⟩|exact absurd rfl h
theorem yi{s:Sd}(h:s.wd≠"part"):s.news=vP s:=by cases s<;>first|rfl|exact absurd rfl h
theorem Cp{s:Sd}(h:s.wd≠"move")(h2:s.wd≠"join"):rX s=rW s:=by cases s<;>first|rfl|exact absurd rfl h|exact absurd rfl h2
theorem oN(s:Sd):s.news=[]\/∃n,s.news=[n]:=by cases s<;>first|exact .inl rfl|exact .inr ⟨_,rfl⟩
theorem Co{ol:Ol}{s:Sd}(h1:s.wd≠"move")(h2:s.wd≠"join")(h3:s.wd≠"part"):Bd ol s none:=by
 cases s with
 |put=>exact .put
 |move=>exact absurd rfl h1
 |write=>exact .write
 |mark=>exact .mark
 |due=>exact .due
 |fold=>exact .fold
 |part=>exact absurd rfl h3
 |join=>exact absurd rfl h2
 |gone=>exact .gone
abbrev UpsAt(H:Hp)(us:List (Option Nm))(vs:List V):Prop:=Paired (fun u v=>UpAt H v u) us vs
theorem UpsAt.ts{H H':Hp}{us:List (Option Nm)}{vs:List V}(x:UpsAt H us vs)(s:TS H H'):UpsAt H' us vs:=Paired.mapP x fun _ _ z=>z.ts s
theorem mJ{α β:Type}{R:α->β->Prop}:∀{a:List α} {b:List β} {i:Nat} {y:β},Paired R a b->b[i]?=some y->∃x,a[i]?=some x/\R x y
 |_,_,0,_,.cons h _,e=>by cases e;exact⟨_,rfl,h⟩
 |_,_,i+1,_,.cons _ t,e=>mJ (i:=i) t e
def JD(st mn:Addr)(H:Hp)(ns:List Nm)(us:List (Option Nm))(σ:St)(H':Hp):Prop:=Same H H'/\∃(aN aO:Addr) (nvs ovs:List V),H' aN=some (.lst nvs)/\H' aO=some (.lst ovs)/\AbAt H' ns nvs/\UpsAt H' us ovs/\σ=[some (.ref st),some (.ref mn),some (.ref aN),some (.ref aO),none]
def qM:Sp:=fun vs H Q _=>∃(st mn:Addr) (mvs:List (List Key×V)) (ol:Ol) (s:Sd),vs=[.ref st,.ref mn]/\StAt H st s/\H mn=some (.dT mvs)/\Rows H mvs ol/\Ter ol/\TxB ol/\∀(t:Addr) (o:Out) (H':Hp),Same H H'->Due ol s o->OutAt H' t o->Q (.ref t) H'
theorem jX{ol:Ol}:∀{us:List (Option Nm)} {i:Nat} {n:Nm},us[i]?=some (some n)->look ol n=none->(∀(j:Nat) (m:Nm),j<i->us[j]?=some (some m)->(look ol m).isSome=true)->(us.filterMap id).find? (cV ol)=some n
 |u::us,0,n,h,hl,_=>by cases h;show List.find? _ (n::us.filterMap id)=_;rw[YM];unfold cV;rw[hl];rfl
 |u::us,i+1,n,h,hl,pre=>by
  have ih:=jX (us:=us) (i:=i) h hl fun j m hj e=>pre (j+1) m (by omega) e;cases u with
  |none=>rw[List.filterMap_cons_none rfl];exact ih
  |some m =>
   have p0:=pre 0 m (by omega) rfl;show List.find? _ (m::us.filterMap id)=_;rw[List.find?_cons_of_neg]
   ·exact ih
   ·unfold cV;cases c:look ol m with
    |none=>rw[c]at p0;cases p0
    |some y=>intro z;cases z
theorem zJ{H:Hp}{vs:List V}(h:AbAt H [] vs):vs=[]:=by cases h;rfl
theorem zK{H:Hp}{n:Nm}{vs:List V}(h:AbAt H [n] vs):∃v,vs=[v]/\NameIs H v (nk n):=by
 cases h with
 |cons h t =>cases t;exact⟨_,rfl,h⟩
abbrev su:Stmt:=top 29
abbrev B8:List Str:=["_law_step","_law_mine","_law_new","_law_old","_law_name_here"]
theorem dR:FnScope B8 ["_law_step","_law_mine"] (am su):=⟨rfl,rfl,rfl,by decide +kernel,rfl,by decide +kernel,by decide +kernel⟩
theorem Ay{f:Addr}{fd:FuncData}(F:Fun K "_law_due" "_law_due" su f fd)(F_is_in:Fn P w K mg base 1 "_law_is_in" ["_law_one","_law_other","_law_mine"] uM)(z_len:mg "len" = none):FnOk P w K mg base CX0 2 f fd ["_law_step","_law_mine"] qM:=by
 refine F.okQ dR (fun vs H Q E h=>?_) (fun cdv A outer s H vs Q E hr h=>?_)
 ·obtain⟨st,mn,mvs,ol,sd,rfl,_⟩:=h;rfl
 obtain⟨st,mn,mvs,ol,sd,rfl,hs,hm,R,te,tb,q⟩:=h;refine⟨_,(b_c (ay (i:=2) dR.nd (bf aj))
   (b_c (ay (i:=3) dR.nd (bf (q_a (aB ax (q_v 0) ah) aj)))
   (b_c (fu (aL (aw bC (aB ax (q_v 0) ah) aq) (b_c (ay (i:=2) dR.nd (bf (q_a (aB ax (q_v 0) ah) aj)))
   (b_1 (ay (i:=3) dR.nd (bf (q_a (aB ax (q_v 0) ah) aj))))) b_0))
   (b_c (fu (aL (aw bC (aB ax (q_v 0) ah) aq) (b_1 (ay (i:=2) dR.nd (bf (q_a (aB ax (q_v 0) ah) aj)))) b_0))
   (b_c (fu (aL (t_w (jM (aw bC (aB ax (q_v 0) ah) aq) (ik (aw bC (aB ax (q_v 0) ah) aq)))) (b_1 (ay (i:=3) dR.nd (bf (q_a (aB ax (q_v 0) ah) (q_a (aB ax (q_v 0) ah) aj))))) b_0))
   (b_c (aL (t_w (cJ (aw oQ (q_B jR z_len YJ (q_a (q_v 2) aj)) ah) (cc (sG hr.units (aB dw (q_v 2) ah) (q_v 1))))) (b_1 (aH (au (q_a aq (q_a bg aj))))) b_0)
   (b_c (fJ Yo rfl (eV (q_v 3)) (bH (i:=4) dR.nd) (b_1 (aL (t_w (cJ (aw iw (q_v 4) bg) (cc (ic hr.units (q_v 4) (q_v 1))))) (b_1 (aH (au (q_a aq (q_a (q_v 4) aj))))) b_0)))
   (b_c (aL (t_w (cJ (aw bC (aB ax (q_v 0) ah) aq) (cc (ja (cQ F_is_in (hr.mono (by decide)) (q_a (aB ax (q_v 0) ah) (q_a (aB ax (q_v 0) ah) (q_a (q_v 1) aj)))))))) (b_1 (aH (au (q_a aq (q_a bg aj))))) b_0)
   (b_c (aL (t_w (cJ (aw bC (aB ax (q_v 0) ah) aq) (cc (ja (cQ F_is_in (hr.mono (by decide)) (q_a (aB ax (q_v 0) ah) (q_a (aB ax (q_v 0) ah) (q_a (q_v 1) aj)))))))) (b_1 (aH (au (q_a aq (q_a bg aj))))) b_0)
   (b_c (aL (t_w (cJ (aw bC (aB ax (q_v 0) ah) aq) (cc (aw oQ (aB ax (q_v 0) ah) (q_B nZ z_len YJ (q_a (aB ax (di hr.units (q_v 1) (aB ax (q_v 0) ah)) ah) aj)))))) (b_1 (aH (au (q_a aq (q_a bg aj))))) b_0)
   (b_1 (aH (au (q_a aq (q_a bg aj))))))))))))))),?_⟩
 try rw[cxK]
 obtain⟨nv,rest,hst,hnv⟩:=yZ hs;refine⟨sz rfl,fun a0 g0=>?_⟩;have w0:=ag g0 (.lst []);refine(vix rfl (SqT.of (w0 _ _ hst)) at1 ⟨sz rfl,fun a1 g1=>?_⟩);have w1:=ag g1 (.lst [nv]);have s01:=w0.trans w1;have e0:upd (upd H a0 (.lst [])) a1 (.lst [nv]) a0=some (.lst []):=w1 _ _ ad;have e1:upd (upd H a0 (.lst [])) a1 (.lst [nv]) a1=some (.lst [nv]):=ad;generalize upd (upd H a0 (.lst [])) a1 (.lst [nv])=H1 at s01 e0 e1 ⊢;refine⟨JD st mn H (vP sd) (rW sd),?_,?_⟩
 ·refine(vix rfl (SqT.of (s01 _ _ hst)) at0 ⟨rfl,_,rfl,bM (fun c=>?_) (fun c=>?_)⟩)
  ·obtain⟨n,u,pl,tx,rfl⟩:=Ae (jL c);obtain⟨nv',uv,pv,hst',hn,hu,hp⟩:=hs.ts (Same.ts s01);refine(vix rfl (SqT.of hst') at1 ⟨sz rfl,fun a2 g2=>?_⟩);have w2:=ag g2 (.lst [nv']);refine(vix rfl (SqT.of (w2 _ _ hst')) at2 ⟨sz rfl,fun a3 g3=>?_⟩);have w3:=ag g3 (.lst [uv]);have w23:=w2.trans w3;exact⟨s01.trans w23,a2,a3,_,_,w3 _ _ ad,ad,.cons (hn.ts' (Same.ts w23)) .nil,.cons (hu.ts (Same.ts w23)) .nil,rfl⟩
  ·obtain⟨z1,z2⟩:=Ar (s:=sd) fun z=>c (ZW V.str z);rw[z1,z2];exact⟨s01,a0,a1,_,_,e0,e1,.nil,.cons (hnv.ts' (Same.ts s01)) .nil,rfl⟩
 rintro σ' H2 ⟨s02,aN,aO,nvs,ovs,eN,eO,ab,us,rfl⟩;refine⟨JD st mn H sd.news (rW sd),?_,?_⟩
 ·refine(vix rfl (SqT.of (s02 _ _ hst)) at0 ⟨rfl,_,rfl,bM (fun c=>?_) (fun c=>?_)⟩)
  ·obtain⟨n,a,m,pl,rfl⟩:=qk (jL c);obtain⟨nv',mv,pv,hst',hn,hmv,hp⟩:=hs.ts (Same.ts s02);refine(vix rfl (SqT.of hst') at3 ⟨sz rfl,fun a2 g2=>?_⟩);have w2:=ag g2 (.lst [mv]);exact⟨s02.trans w2,a2,aO,_,_,ad,w2 _ _ eO,.cons (hmv.ts' (Same.ts w2)) .nil,us.ts (Same.ts w2),rfl⟩
  ·rw[yi (s:=sd) fun z=>c (ZW V.str z)];exact⟨s02,aN,aO,_,_,eN,eO,ab,us,rfl⟩
 clear ab us eN eO s02 aN aO nvs ovs;rintro σ' H3 ⟨s03,aN,aO,nvs,ovs,eN,eO,ab,us,rfl⟩;refine⟨JD st mn H sd.news (rX sd),?_,?_⟩
 ·refine(vix rfl (SqT.of (s03 _ _ hst)) at0 ⟨rfl,_,rfl,bM (fun c=>bw ?_) (fun c=>?_)⟩)
  ·obtain⟨n,u,pl,rfl⟩:=qj (jL c);obtain⟨nv',uv,pv,hst',hn,hu,hp⟩:=hs.ts (Same.ts s03);refine(vix rfl (SqT.of hst') at1 (vix rfl (SqT.of hst') at2 ⟨sz rfl,fun a2 g2=>?_⟩));have w2:=ag g2 (.lst [nv',uv]);exact⟨s03.trans w2,aN,a2,_,_,w2 _ _ eN,ad,ab.ts (Same.ts w2),.cons (hn.ts' (Same.ts w2)) (.cons (hu.ts (Same.ts w2)) .nil),rfl⟩
  ·refine(vix rfl (SqT.of (s03 _ _ hst)) at0 ⟨rfl,_,rfl,bM (fun c2=>?_) (fun c2=>?_)⟩)
   ·obtain⟨n,m,rfl⟩:=qi (jL c2);obtain⟨nv',mv,hst',hn,hmv⟩:=hs.ts (Same.ts s03);refine(vix rfl (SqT.of hst') at1 (vix rfl (SqT.of hst') at2 ⟨sz rfl,fun a2 g2=>?_⟩));have w2:=ag g2 (.lst [nv',mv]);exact⟨s03.trans w2,aN,a2,_,_,w2 _ _ eN,ad,ab.ts (Same.ts w2),.cons (hn.ts' (Same.ts w2)) (.cons (hmv.ts' (Same.ts w2)) .nil),rfl⟩
   ·rw[Cp (s:=sd) (fun z=>c (ZW V.str z)) fun z=>c2 (ZW V.str z)];exact⟨s03,aN,aO,_,_,eN,eO,ab,us,rfl⟩
 clear ab us eN eO s03 aN aO nvs ovs;rintro σ' H4 ⟨s04,aN,aO,nvs,ovs,eN,eO,ab,us,rfl⟩;have R4:=R.ts (Same.ts s04);have hm4:=s04 _ _ hm;have hs4:=hs.ts (Same.ts s04);refine⟨_,rfl,aN,_,rfl,.inl (SqL.of eN),_,_,rfl,rfl,_,rfl,?_⟩;refine dite (∃n∈sd.news,(look ol n).isSome=true) (fun tk=>?pos) (fun tk=>?neg)
 case pos =>
  obtain⟨n,hn,hl⟩:=tk;rcases oN sd with z|⟨n',z⟩
  ·rw[z]at hn;exact nomatch hn
  rw[z]at hn;obtain rfl:n=n':=by simpa using hn
  rw[z]at ab;cases ab with
  |cons hv tl =>cases tl;obtain⟨nb,rfl,hnb⟩:=id hv;obtain⟨it,hit⟩:=Z4.mp hl;obtain⟨iv,f1,_⟩:=aT R4 hit;refine bw ⟨_,rfl,aN,_,_,_,rfl,rfl,SqL.of eN,at0,_,rfl,mn,_,rfl,DGet.t (k:=nk n) hm4 hnb,_,rfl,?_⟩;rw[f1];refine bw ⟨sz rfl,fun t gt=>?_⟩;exact q t .taken _ (s04.trans (ag gt _)) (.taken n (by rw[z];exact Zo) hl) ad
 case' neg =>
  have nn:∀m∈sd.news,look ol m=none:=fun m hm'=>by
   cases c:look ol m with
   |none=>rfl
   |some it=>exact absurd ⟨m,hm',by rw[c];rfl⟩ tk
  refine(oN sd).elim (fun z=>?m1) (fun zz=>?m2)
 case' m1 =>rw[z]at ab;obtain rfl:=zJ ab;refine aA (aA ?n1)
 case' m2 =>obtain⟨n,z⟩:=zz;rw[z]at ab;obtain⟨v0,rfl,hv⟩:=zK ab;obtain⟨nb,rfl,hnb⟩:=id hv;have hl:=nn n (by rw[z];exact Zo);refine bw ⟨_,rfl,aN,_,_,_,rfl,rfl,SqL.of eN,at0,_,rfl,mn,_,rfl,DGet.t (k:=nk n) hm4 hnb,_,rfl,?_⟩;rw[dQ R4 hl];refine aA ?n2
 case m1|m2 =>
  refine⟨_,rfl,aO,rfl,⟨ovs,SqL.of eO⟩,?_⟩;refine jB (xs:=ovs) (fun i σ H'=>H'=H4/\(∀(j:Nat) (m:Nm),j<i->(rX sd)[j]?=some (some m)->(look ol m).isSome=true)/\∃o4,σ=[some (.ref st),some (.ref mn),some (.ref aN),some (.ref aO),o4]) ⟨rfl,(fun j m hj=>by omega),none,rfl⟩ (fun _ _ _ _ v=>by rw[v.1];exact SqL.of eO) ?_ ?_
  ·rintro i x σ H' hx ⟨rfl,pre,o4,rfl⟩;obtain⟨u,hu,hux⟩:=mJ us hx;refine⟨_,rfl,rfl,_,rfl,?_⟩;cases u with
   |none =>
    obtain rfl:x=.non:=hux;refine fF rfl (aA ⟨rfl,fun j m hj e=>?_,_,rfl⟩);by_cases c2:j=i
    ·rw[c2,hu]at e;cases e
    ·exact pre j m (by omega) e
   |some n =>
    obtain⟨nb,rfl,hnb⟩:=id hux;refine iR (by intro z;cases z) ?_;refine⟨_,rfl,_,rfl,mn,_,rfl,DGet.t (k:=nk n) hm4 hnb,_,rfl,?_⟩;cases hl:look ol n with
    |none =>rw[dQ R4 hl];refine bw ⟨_,rfl,sz rfl,fun t gt=>?_⟩;exact q t (.none n) _ (s04.trans (ag gt _)) (.none n nn (by rw[kK];exact jX hu hl pre)) ⟨_,ad,hux.ts' (Same.ts (ag gt _))⟩
    |some it =>
     obtain⟨iv,f1,_⟩:=aT R4 hl;rw[f1];refine aA ⟨rfl,fun j m hj e=>?_,_,rfl⟩;by_cases c2:j=i
     ·rw[c2,hu]at e;cases e;rw[hl];rfl
     ·exact pre j m (by omega) e
  ·rintro σ H' ⟨rfl,pre,o4,rfl⟩;have ii:∀m∈sd.items,(look ol m).isSome=true:=fun m hm'=>by rw[kK]at hm';obtain⟨u,hu,rfl⟩:=Ym.mp hm';obtain⟨j,hj⟩:=ZO.mp hu;exact pre j m (by rw[<-ZI us];exact(Zt.mp hj).1) hj
   have chn:∀(u:Option Nm),(∀m,u=some m->(look ol m).isSome=true)->∀o,∃j b,Und ol o j u b:=fun u hu o=>by
    cases u with
    |none=>exact⟨0,false,.none⟩
    |some x =>obtain⟨it,hit⟩:=Z4.mp (hu x rfl);obtain⟨j,ch⟩:=te x it hit;exact ch.und o
   refine(vix rfl (SqT.of (s04 _ _ hst)) at0 ⟨rfl,_,rfl,bM (fun c=>?_) (fun c=>aA ?_)⟩)
   ·obtain⟨n,u,pl,rfl⟩:=qj (jL c);obtain⟨nv',uv,pv,hst',hn,hu,hp⟩:=hs4;obtain⟨j,b,un⟩:=chn u (fun m z=>ii m (by simp[Sd.items,z])) n;refine(vix rfl (SqT.of hst') at2 (vix rfl (SqT.of hst') at1 ⟨_,rfl,mn,mvs,ol,uv,nv',u,n,j,b,rfl,hm4,R4,hu,hn,un,_,rfl,?_⟩));cases b with
    |true=>exact bw ⟨sz rfl,fun t gt=>q t .beneath _ (s04.trans (ag gt _)) (.bd (some true) nn ii (.move un)) ad⟩
    |false =>refine aA ?_;refine(vix rfl (SqT.of hst') at0 ⟨rfl,_,rfl,bR (by decide +kernel) (aA ?_)⟩);refine(vix rfl (SqT.of hst') at0 ⟨rfl,_,rfl,bR (by decide +kernel) (aA ?_)⟩);exact⟨sz rfl,fun t gt=>q t .ok _ (s04.trans (ag gt _)) (.bd none nn ii (.move un)) ad⟩
   refine(vix rfl (SqT.of (s04 _ _ hst)) at0 ⟨rfl,_,rfl,bM (fun c2=>?_) (fun c2=>aA ?_)⟩)
   ·obtain⟨n,m,rfl⟩:=qi (jL c2);obtain⟨nv',mv,hst',hn,hmv⟩:=hs4;obtain⟨j,b,un⟩:=chn (some n) (fun m' z=>ii m' (by simp[Sd.items,Zi z])) m;refine(vix rfl (SqT.of hst') at1 (vix rfl (SqT.of hst') at2 ⟨_,rfl,mn,mvs,ol,nv',mv,some n,m,j,b,rfl,hm4,R4,hn,hmv,un,_,rfl,?_⟩));cases b with
    |true=>exact bw ⟨sz rfl,fun t gt=>q t .beneath _ (s04.trans (ag gt _)) (.bd (some true) nn ii (.join un)) ad⟩
    |false =>refine aA ?_;refine(vix rfl (SqT.of hst') at0 ⟨rfl,_,rfl,bR (by decide +kernel) (aA ?_)⟩);exact⟨sz rfl,fun t gt=>q t .ok _ (s04.trans (ag gt _)) (.bd none nn ii (.join un)) ad⟩
   refine(vix rfl (SqT.of (s04 _ _ hst)) at0 ⟨rfl,_,rfl,bM (fun c3=>?_) (fun c3=>aA ?_)⟩)
   ·obtain⟨n,a,m,pl,rfl⟩:=qk (jL c3);obtain⟨nv',mv,pv,hst',hn,hmv,hp⟩:=hs4;obtain⟨it,hit⟩:=Z4.mp (ii n (by simp[Sd.items]));obtain⟨iv,f1,ia,uv0,pv0,rfl,f2,_,_⟩:=aT R4 hit;obtain⟨nb,rfl,hnb⟩:=id hn;have bd:=Bd.part (ol:=ol) (a:=a) (m:=m) (pl:=pl) hit;refine(vix rfl (SqT.of hst') at2 ⟨_,rfl,vix rfl (SqT.of hst') at1 ⟨mn,.ref ia,rfl,f1▸DGet.t (k:=nk n) hm4 hnb,ia,_,_,_,rfl,rfl,SqT.of f2,at2,it.tx,rfl,(by have:=tb n it hit;omega),_,_,rfl,rfl,_,rfl,bM (fun c4=>?_) (fun c4=>?_)⟩⟩)
    ·rw[if_pos (by omega)]at bd;exact⟨sz rfl,fun t gt=>q t .far _ (s04.trans (ag gt _)) (.bd (some false) nn ii bd) ad⟩
    ·rw[if_neg (by omega)]at bd;exact⟨sz rfl,fun t gt=>q t .ok _ (s04.trans (ag gt _)) (.bd none nn ii bd) ad⟩
   exact⟨sz rfl,fun t gt=>q t .ok _ (s04.trans (ag gt _)) (.bd none nn ii (Co (fun z=>c (ZW V.str z)) (fun z=>c2 (ZW V.str z)) fun z=>c3 (ZW V.str z))) ad⟩
structure Kd(K:PySem.W.Frag)(c:Addr)(cs:List Addr)(bs:List Bool):Prop where
 kv:PySem.W.kitOne K (.ref c) (.type "ValueError")=some true
 kd:Paired (fun a b=>PySem.W.kitOne K (.ref c) (.ref a)=some b) cs bs
 ek:ExK K c
def qO(K:PySem.W.Frag)(cs:List Addr):Sp:=fun vs H Q _=>∃(e c:Addr) (dc:Option Addr) (bs:List Bool),vs=[.ref e]/\H e=some (exD e c dc)/\nM H dc/\Kd K c cs bs/\∀l H',Same H H'->H' l=some (.lst (bs.map V.bl))->Q (.ref l) H'
theorem bv{H H':Hp}{dc:Option Addr}(x:nM H dc)(s:Same H H'):nM H' dc:=by
 cases dc with
 |none=>trivial
 |some d =>obtain⟨fs,h⟩:=x;exact⟨fs,s _ _ h⟩
abbrev lX:Stmt:=top 30
abbrev xO:List Str:=["_law_e","_law_some"]
theorem jI:FnScope xO ["_law_e"] (am lX):=⟨rfl,rfl,rfl,by decide +kernel,rfl,by decide +kernel,by decide +kernel⟩
theorem vV{f c0 c1 c2 c3 c4 c5 c6 c7 c8 c9:Addr}{fd:FuncData}(F:Fun K "_law_kinds" "_law_kinds" lX f fd)(g_Taken:mg "Taken" = some (.ref c0))(g_NoItem:mg "NoItem" = some (.ref c1))(g_Beneath:mg "Beneath" = some (.ref c2))(g_Far:mg "Far" = some (.ref c3))(g_NoDeed:mg "NoDeed" = some (.ref c4))(g_Twin:mg "Twin" = some (.ref c5))(g_NoPlace:mg "NoPlace" = some (.ref c6))(g_NoText:mg "NoText" = some (.ref c7))(g_NoQuestion:mg "NoQuestion" = some (.ref c8))(g_NoRow:mg "NoRow" = some (.ref c9))(z_isinstance:mg "isinstance" = none) :
  FnOk P w K mg base CX0 1 f fd ["_law_e"] (qO K [c0,c1,c2,c3,c4,c5,c6,c7,c8,c9]):=by
 refine F.okQ jI (fun vs H Q E h=>?_) (fun cdv A outer s H vs Q E hr h=>?_)
 ·obtain⟨e,c,dc,bs,rfl,_⟩:=h;rfl
 obtain⟨e,c,dc,bs,rfl,he,hd,kd,q⟩:=h;refine⟨_,(b_c (ay (i:=1) jI.nd (bf (q_a (q_B cu z_isinstance aK (q_a (q_v 0) (q_a (fe g_Taken) aj))) (q_a (q_B cu z_isinstance aK (q_a (q_v 0) (q_a (fe g_NoItem) aj))) (q_a (q_B cu z_isinstance aK (q_a (q_v 0) (q_a (fe g_Beneath) aj))) (q_a (q_B cu z_isinstance aK (q_a (q_v 0) (q_a (fe g_Far) aj))) aj))))))
   (b_c (ay (i:=1) jI.nd (aD nC (q_v 1) (bf (q_a (q_B cu z_isinstance aK (q_a (q_v 0) (q_a (fe g_NoDeed) aj))) (q_a (q_B cu z_isinstance aK (q_a (q_v 0) (q_a (fe g_Twin) aj))) (q_a (q_B cu z_isinstance aK (q_a (q_v 0) (q_a (fe g_NoPlace) aj))) (q_a (q_B cu z_isinstance aK (q_a (q_v 0) (q_a (fe g_NoText) aj))) aj)))))))
   (b_1 (aH (aD nC (q_v 1) (bf (q_a (q_B cu z_isinstance aK (q_a (q_v 0) (q_a (fe g_NoQuestion) aj))) (q_a (q_B cu z_isinstance aK (q_a (q_v 0) (q_a (fe g_NoRow) aj))) aj)))))))),?_⟩
 try rw[cxK]
 obtain⟨_,kk,ek⟩:=kd;cases kk with|@cons _ b0 _ _ k0 kk =>
 cases kk with|@cons _ b1 _ _ k1 kk =>
 cases kk with|@cons _ b2 _ _ k2 kk =>
 cases kk with|@cons _ b3 _ _ k3 kk =>
 cases kk with|@cons _ b4 _ _ k4 kk =>
 cases kk with|@cons _ b5 _ _ k5 kk =>
 cases kk with|@cons _ b6 _ _ k6 kk =>
 cases kk with|@cons _ b7 _ _ k7 kk =>
 cases kk with|@cons _ b8 _ _ k8 kk =>
 cases kk with|@cons _ b9 _ _ k9 kk =>
 cases kk;have s0:=Same.refl H;refine⟨_,rfl,_,_,_,_,rfl,(fun v hv=>hv),.inr ⟨e,c,dc,rfl,s0 _ _ he,bv hd s0,ek,k0⟩,_,rfl,_,_,_,_,rfl,(fun v hv=>hv),.inr ⟨e,c,dc,rfl,s0 _ _ he,bv hd s0,ek,k1⟩,_,rfl,_,_,_,_,rfl,(fun v hv=>hv),.inr ⟨e,c,dc,rfl,s0 _ _ he,bv hd s0,ek,k2⟩,_,rfl,_,_,_,_,rfl,(fun v hv=>hv),.inr ⟨e,c,dc,rfl,s0 _ _ he,bv hd s0,ek,k3⟩,sz rfl,fun l1 g1=>?_⟩;have w1:=ag g1 (.lst ([b0,b1,b2,b3].map V.bl));refine⟨_,rfl,_,rfl,_,_,_,_,rfl,(fun v hv=>hv),.inr ⟨e,c,dc,rfl,w1 _ _ he,bv hd w1,ek,k4⟩,_,rfl,_,_,_,_,rfl,(fun v hv=>hv),.inr ⟨e,c,dc,rfl,w1 _ _ he,bv hd w1,ek,k5⟩,_,rfl,_,_,_,_,rfl,(fun v hv=>hv),.inr ⟨e,c,dc,rfl,w1 _ _ he,bv hd w1,ek,k6⟩,_,rfl,_,_,_,_,rfl,(fun v hv=>hv),.inr ⟨e,c,dc,rfl,w1 _ _ he,bv hd w1,ek,k7⟩,sz rfl,fun l2 g2=>?_⟩;have w2:=ag g2 (.lst ([b4,b5,b6,b7].map V.bl));refine⟨l1,l2,_,_,rfl,rfl,w2 _ _ ad,ad,sz rfl,fun l3 g3=>?_⟩;have w3:=ag g3 (.lst ([b0,b1,b2,b3,b4,b5,b6,b7].map V.bl));have w123:=w1.trans (w2.trans w3);refine⟨_,rfl,_,rfl,_,_,_,_,rfl,(fun v hv=>hv),.inr ⟨e,c,dc,rfl,w123 _ _ he,bv hd w123,ek,k8⟩,_,rfl,_,_,_,_,rfl,(fun v hv=>hv),.inr ⟨e,c,dc,rfl,w123 _ _ he,bv hd w123,ek,k9⟩,sz rfl,fun l4 g4=>?_⟩;have w4:=ag g4 (.lst ([b8,b9].map V.bl));refine⟨l3,l4,_,_,rfl,rfl,w4 _ _ ad,ad,sz rfl,fun l5 g5=>?_⟩;exact q l5 _ (w123.trans (w4.trans (ag g5 _))) ad
structure ErsG(K:PySem.W.Frag)(cs:List Addr)(cL cT cN cB cF:Addr)(bT bN bB bF:List Value):Prop where
 eT:ExC K cT bT
 eN:ExC K cN bN
 eB:ExC K cB bB
 eF:ExC K cF bF
 hT:(Value.ref cT::bT).contains (.ref cL)=true
 hN:(Value.ref cN::bN).contains (.ref cL)=true
 hB:(Value.ref cB::bB).contains (.ref cL)=true
 hF:(Value.ref cF::bF).contains (.ref cL)=true
 kT:Kd K cT cs [true,false,false,false,false,false,false,false,false,false]
 kN:Kd K cN cs [false,true,false,false,false,false,false,false,false,false]
 kB:Kd K cB cs [false,false,true,false,false,false,false,false,false,false]
 kF:Kd K cF cs [false,false,false,true,false,false,false,false,false,false]
 dN:PySem.W.hasDictIn K cN=true
 aN:NoAttr K cN "name"
def b2i(b:Bool):Int:=if b then 1 else 0
theorem cZ{H:Hp}:∀bs:List Bool,DtAll H (bs.map PyData.bool) (bs.map V.bl)
 | []=>by simp[DtAll]
 |b::bs=>by rw[Zx,Zx];simp only[DtAll];exact⟨_,_,rfl,by simp only[Dt],cZ bs⟩
theorem cG:∀bs:List Bool,PyData.canLayAll0 (bs.map PyData.bool)=true
 | []=>rfl
 |b::bs=>by rw[Zx];simp[PyData.canLayAll0,PyData.canLay0,cG bs]
def jq(C:Addr):Sp:=fun vs H Q _=>∃(p d g st:Addr) (ol:Ol) (s:Sd) (o:Out),vs=[.ref p,.ref st]/\OlAt C H p d g ol/\ol.length<=300/\StAt H st s/\TxB ol/\Due ol s o/\o≠.ok/\∀(t:Addr) (H':Hp),Same H H'->OutAt H' t o->Q (.ref t) H'
abbrev iG:Stmt:=top 31
abbrev sP:List Str:=["_law_plain","_law_step","_law_wrong","_law_e","_law_some","_law_name_here"]
theorem bX:FnScope sP ["_law_plain","_law_step"] (am iG):=⟨rfl,rfl,rfl,by decide +kernel,rfl,by decide +kernel,by decide +kernel⟩
theorem rU{f C cL cT cN cB cF:Addr}{fd:FuncData}{cs:List Addr}{bL bT bN bB bF:List Value}(F:Fun K "_law_refusal" "_law_refusal" iG f fd)(MX_step:MFnX P w K mg base 4 C "step" ["self","step"] (iZ C cT cN cB cF))(R:ErsG K cs cL cT cN cB cF bT bN bB bF)(xc_LimbError:ExC K cL bL)(g_LimbError:mg "LimbError" = some (.ref cL))(F_kinds:Fn P w K mg base 1 "_law_kinds" ["_law_e"] (qO K cs))(z_isinstance:mg "isinstance" = none)(z_ValueError:mg "ValueError" = none)(z_sum:mg "sum" = none)(z_int:mg "int" = none):FnOk P w K mg base CX0 5 f fd ["_law_plain","_law_step"] (jq C):=by
 refine F.okQ bX (fun vs H Q E h=>?_) (fun cdv A outer s H vs Q E hr h=>?_)
 ·obtain⟨p,d,g,st,ol,sd,o,rfl,_⟩:=h;rfl
 obtain⟨p,d,g,st,ol,sd,o,rfl,O,l3,hs,tb,du,nok,q⟩:=h;obtain⟨kvs,S,_⟩:=id O;obtain⟨⟨dx,h1⟩,_⟩:=id S;refine⟨_,(b_c (ay (i:=2) bX.nd bg)
   (b_c (uJ rfl rfl (qS (uW MX_step (hr.mono (by decide)) (q_v 0) (q_a (q_v 1) aj))) (Cg (i:=3) bX.nd xc_LimbError g_LimbError (fun _=>(b_1 (ay (i:=2) bX.nd (q_v 3))))))
   (b_c (aL (t_w (jM (aw xj (q_v 2) bg) (ik (CV (ja (q_B cu z_isinstance aK (q_a (q_v 2) (q_a (Dh z_ValueError jQ) aj)))))))) (b_1 (aH (au (q_a aq (q_a bg aj))))) b_0)
   (b_c (ay (i:=4) bX.nd (cQ F_kinds (hr.mono (by decide)) (q_a (q_v 2) aj)))
   (b_c (aL (t_w (jM (aw Dg (q_B (zO (K:=K) rfl rfl) z_sum PyProof.Rows.boot_sum (q_a (oS (own:=["_law_one"]) (⟨rfl,by decide +kernel,by decide +kernel,rfl,trivial⟩:CompOk _ _ [] []) rfl (eV (q_v 4)) (fun _ _ _ _=>bH (i:=0) (show (["_law_one"]:List Str).Nodup by decide +kernel)) (iN (by decide)) (fun _ _ _ _=>rG) (fun _ _ _ _=>(wq Ca z_int vq (q_a (q_v 0) aj)))) aj)) ah) (ik (aw (Cq hr) cC (jH tR (q_v 4) (iC ah) lQ))))) (b_1 (aH (au (q_a aq (q_a bg aj))))) b_0)
   (b_c (ay (i:=5) bX.nd bg)
   (b_c (fu (aL (ja (aB dw (q_v 4) ah)) (b_1 (ay (i:=5) bX.nd (Bk (q_v 2)))) b_0))
   (b_1 (aH (au (q_a (aB dw (bf (q_a aq (q_a aq (q_a aq (q_a aq aj))))) (yT hr (q_v 4) cC)) (q_a (q_v 5) aj)))))))))))),?_⟩
 try rw[cxK]
 refine⟨_,rfl,p,dx,_,rfl,h1,cO _ _,_,rfl,p,d,g,st,ol,sd,o,rfl,O,l3,hs,tb,du,fun e H1 s1=>?_,fun n e H1 dd v s1 hd hn=>?_,fun e H1 s1=>?_,fun e H1 s1=>?_,fun e=>absurd e nok⟩
 ·subst e;refine⟨cT,bT,rfl,R.eT,R.hT,fun ea he=>⟨_,rfl,?_⟩⟩;have we:=ag he (exD ea cT none);have ee:upd H1 ea (exD ea cT none) ea=some (exD ea cT none):=ad;have s2:=s1.trans we;generalize upd H1 ea (exD ea cT none)=H2 at ee s2 ⊢;refine⟨_,rfl,rfl,_,rfl,bR (by intro z;cases z) ?_⟩;refine⟨_,rfl,_,_,_,_,rfl,fun v hv=>hv,.inr ⟨ea,cT,none,rfl,ee,trivial,R.kT.ek,R.kT.kv⟩,_,rfl,aA ?_⟩;refine⟨_,rfl,ea,cT,none,_,rfl,ee,trivial,R.kT,fun L H3 s3 eL=>?_⟩;refine⟨_,rfl,L,rfl,⟨_,SqL.of eL⟩,?_⟩;refine dz (N:=10) (fun i ys H'=>H'=H3/\ys.length=i/\ys=(([true,false,false,false,false,false,false,false,false,false].take i).map b2i).map V.int) (by decide) (fun i ys H' z=>z.2.1) ⟨rfl,rfl,rfl⟩ (fun i ys H' hi z=>⟨[true,false,false,false,false,false,false,false,false,false].map V.bl,_,z.1▸SqL.of eL,Zb (show i<10 from hi)⟩) (fun ys H' z=>⟨[true,false,false,false,false,false,false,false,false,false].map V.bl,z.1▸SqL.of eL,Zd _⟩) ?_ ?_
  ·rintro i ys H' x H'' hi ⟨rfl,ly,ey⟩ ⟨rfl,y⟩ A' kA;have hx:=y _ (SqL.of eL);rw[ZA]at hx;obtain⟨b,hb,rfl⟩:=ZC.mp hx;refine⟨_,rfl,.inr ⟨b,rfl,kA _ _ ⟨rfl,by rw[Zg,ly];rfl,?_⟩⟩⟩;rw[YK,hb,ZU,ZU,ey];rfl
  rintro ys l5 H' ⟨rfl,_,rfl⟩ g5;have w5:=ag g5 (.lst ((([true,false,false,false,false,false,false,false,false,false].take 10).map b2i).map V.int));have eL5:=w5 _ _ eL;have s5:=s2.trans (s3.trans w5);refine⟨l5,([true,false,false,false,false,false,false,false,false,false].take 10).map b2i,rfl,SqL.of ad,rfl,_,rfl,fF rfl ?_⟩;generalize upd H' l5 (.lst ((([true,false,false,false,false,false,false,false,false,false].take 10).map b2i).map V.int))=H6 at eL5 s5 ⊢;refine⟨_,rfl,_,rfl,L,_,rfl,SqL.of eL5,fun l6 g6=>?_⟩;have w6:=ag g6 (.lst (bK ([true,false,false,false,false,false,false,false,false,false].map V.bl) (some 4) none));refine⟨l6,[false,false,false,false,false,false].map V.bl,.bool true,[false,false,false,false,false,false].map PyData.bool,rfl,SqL.of ad,(by simp only[Dt]),cZ _,by decide +kernel,cG _,_,rfl,aA ?_⟩;have eL6:=w6 _ _ eL5;have s6:=s5.trans w6;generalize upd H6 l6 (.lst (bK ([true,false,false,false,false,false,false,false,false,false].map V.bl) (some 4) none))=H7 at eL6 s6 ⊢;refine⟨fun σ' H'=>H'=H7/\σ'=[some (.ref p),some (.ref st),some (.ref ea),none,some (.ref L),some .non],?_,?_⟩
  ·exact⟨_,rfl,L,_,_,_,rfl,rfl,SqL.of eL6,at1,_,rfl,aA ⟨rfl,rfl⟩⟩
  rintro σ' H' ⟨rfl,rfl⟩;refine⟨sz rfl,fun l7 g7=>?_⟩;have w7:=ag g7 (.lst [.str "taken",.str "none",.str "beneath",.str "far"]);refine⟨_,rfl,.inl ⟨rfl,_,SqL.of (w7 _ _ eL6)⟩,L,_,.bl true,.bool true,[true,false,false,false,false,false,false,false,false,false].map PyData.bool,0,by decide,rfl,rfl,w7 _ _ eL6,(by simp only[Dt]),cZ _,by decide +kernel,cG _,by decide,rfl,fun i hi=>absurd hi (Nat.not_lt_zero _),?_⟩;refine⟨l7,_,_,_,rfl,rfl,SqL.of ad,at0,_,rfl,sz rfl,fun t gt=>?_⟩;exact q t _ (s6.trans (w7.trans (ag gt _))) ad
 ·subst e;refine⟨cN,bN,rfl,R.eN,R.hN,fun ea he=>⟨_,rfl,?_⟩⟩;have we:=ag he (exD ea cN (some dd));have ee:upd H1 ea (exD ea cN (some dd)) ea=some (exD ea cN (some dd)):=ad;have s2:=s1.trans we;have hd2:=we _ _ hd;have hn2:=hn.same we;generalize upd H1 ea (exD ea cN (some dd))=H2 at ee s2 hd2 hn2 ⊢;refine⟨_,rfl,rfl,_,rfl,bR (by intro z;cases z) ?_⟩;refine⟨_,rfl,_,_,_,_,rfl,fun v hv=>hv,.inr ⟨ea,cN,(some dd),rfl,ee,⟨_,hd2⟩,R.kN.ek,R.kN.kv⟩,_,rfl,aA ?_⟩;refine⟨_,rfl,ea,cN,(some dd),_,rfl,ee,⟨_,hd2⟩,R.kN,fun L H3 s3 eL=>?_⟩;refine⟨_,rfl,L,rfl,⟨_,SqL.of eL⟩,?_⟩;refine dz (N:=10) (fun i ys H'=>H'=H3/\ys.length=i/\ys=(([false,true,false,false,false,false,false,false,false,false].take i).map b2i).map V.int) (by decide) (fun i ys H' z=>z.2.1) ⟨rfl,rfl,rfl⟩ (fun i ys H' hi z=>⟨[false,true,false,false,false,false,false,false,false,false].map V.bl,_,z.1▸SqL.of eL,Zb (show i<10 from hi)⟩) (fun ys H' z=>⟨[false,true,false,false,false,false,false,false,false,false].map V.bl,z.1▸SqL.of eL,Zd _⟩) ?_ ?_
  ·rintro i ys H' x H'' hi ⟨rfl,ly,ey⟩ ⟨rfl,y⟩ A' kA;have hx:=y _ (SqL.of eL);rw[ZA]at hx;obtain⟨b,hb,rfl⟩:=ZC.mp hx;refine⟨_,rfl,.inr ⟨b,rfl,kA _ _ ⟨rfl,by rw[Zg,ly];rfl,?_⟩⟩⟩;rw[YK,hb,ZU,ZU,ey];rfl
  rintro ys l5 H' ⟨rfl,_,rfl⟩ g5;have w5:=ag g5 (.lst ((([false,true,false,false,false,false,false,false,false,false].take 10).map b2i).map V.int));have eL5:=w5 _ _ eL;have s5:=s2.trans (s3.trans w5);have hd5:=(s3.trans w5) _ _ hd2;have hn5:=hn2.same (s3.trans w5);have ee5:=(s3.trans w5) _ _ ee;refine⟨l5,([false,true,false,false,false,false,false,false,false,false].take 10).map b2i,rfl,SqL.of ad,rfl,_,rfl,fF rfl ?_⟩;generalize upd H' l5 (.lst ((([false,true,false,false,false,false,false,false,false,false].take 10).map b2i).map V.int))=H6 at eL5 s5 hd5 hn5 ee5 ⊢;refine⟨_,rfl,_,rfl,L,_,rfl,SqL.of eL5,fun l6 g6=>?_⟩;have w6:=ag g6 (.lst (bK ([false,true,false,false,false,false,false,false,false,false].map V.bl) (some 4) none));refine⟨l6,[false,false,false,false,false,false].map V.bl,.bool true,[false,false,false,false,false,false].map PyData.bool,rfl,SqL.of ad,(by simp only[Dt]),cZ _,by decide +kernel,cG _,_,rfl,aA ?_⟩;have eL6:=w6 _ _ eL5;have s6:=s5.trans w6;have hd6:=w6 _ _ hd5;have hn6:=hn5.same w6;have ee6:=w6 _ _ ee5;generalize upd H6 l6 (.lst (bK ([false,true,false,false,false,false,false,false,false,false].map V.bl) (some 4) none))=H7 at eL6 s6 hd6 hn6 ee6 ⊢;refine⟨fun σ' H'=>H'=H7/\σ'=[some (.ref p),some (.ref st),some (.ref ea),none,some (.ref L),some v],?_,?_⟩
  ·exact⟨_,rfl,L,_,_,_,rfl,rfl,SqL.of eL6,at1,_,rfl,bw ⟨_,rfl,ea,cN,dd,_,v,rfl,ee6,hd6,R.kN.ek,R.dN,R.aN,rfl,rfl,rfl⟩⟩
  rintro σ' H' ⟨rfl,rfl⟩;refine⟨sz rfl,fun l7 g7=>?_⟩;have w7:=ag g7 (.lst [.str "taken",.str "none",.str "beneath",.str "far"]);refine⟨_,rfl,.inl ⟨rfl,_,SqL.of (w7 _ _ eL6)⟩,L,_,.bl true,.bool true,[false,true,false,false,false,false,false,false,false,false].map PyData.bool,1,by decide,rfl,rfl,w7 _ _ eL6,(by simp only[Dt]),cZ _,by decide +kernel,cG _,by decide,rfl,(fun i hi=>by obtain rfl:i=0:=(by omega);rfl),?_⟩;refine⟨l7,_,_,_,rfl,rfl,SqL.of ad,at1,_,rfl,sz rfl,fun t gt=>?_⟩;exact q t _ (s6.trans (w7.trans (ag gt _))) ⟨v,ad,(hn6.same w7).same (ag gt _)⟩
 ·subst e;refine⟨cB,bB,rfl,R.eB,R.hB,fun ea he=>⟨_,rfl,?_⟩⟩;have we:=ag he (exD ea cB none);have ee:upd H1 ea (exD ea cB none) ea=some (exD ea cB none):=ad;have s2:=s1.trans we;generalize upd H1 ea (exD ea cB none)=H2 at ee s2 ⊢;refine⟨_,rfl,rfl,_,rfl,bR (by intro z;cases z) ?_⟩;refine⟨_,rfl,_,_,_,_,rfl,fun v hv=>hv,.inr ⟨ea,cB,none,rfl,ee,trivial,R.kB.ek,R.kB.kv⟩,_,rfl,aA ?_⟩;refine⟨_,rfl,ea,cB,none,_,rfl,ee,trivial,R.kB,fun L H3 s3 eL=>?_⟩;refine⟨_,rfl,L,rfl,⟨_,SqL.of eL⟩,?_⟩;refine dz (N:=10) (fun i ys H'=>H'=H3/\ys.length=i/\ys=(([false,false,true,false,false,false,false,false,false,false].take i).map b2i).map V.int) (by decide) (fun i ys H' z=>z.2.1) ⟨rfl,rfl,rfl⟩ (fun i ys H' hi z=>⟨[false,false,true,false,false,false,false,false,false,false].map V.bl,_,z.1▸SqL.of eL,Zb (show i<10 from hi)⟩) (fun ys H' z=>⟨[false,false,true,false,false,false,false,false,false,false].map V.bl,z.1▸SqL.of eL,Zd _⟩) ?_ ?_
  ·rintro i ys H' x H'' hi ⟨rfl,ly,ey⟩ ⟨rfl,y⟩ A' kA;have hx:=y _ (SqL.of eL);rw[ZA]at hx;obtain⟨b,hb,rfl⟩:=ZC.mp hx;refine⟨_,rfl,.inr ⟨b,rfl,kA _ _ ⟨rfl,by rw[Zg,ly];rfl,?_⟩⟩⟩;rw[YK,hb,ZU,ZU,ey];rfl
  rintro ys l5 H' ⟨rfl,_,rfl⟩ g5;have w5:=ag g5 (.lst ((([false,false,true,false,false,false,false,false,false,false].take 10).map b2i).map V.int));have eL5:=w5 _ _ eL;have s5:=s2.trans (s3.trans w5);refine⟨l5,([false,false,true,false,false,false,false,false,false,false].take 10).map b2i,rfl,SqL.of ad,rfl,_,rfl,fF rfl ?_⟩;generalize upd H' l5 (.lst ((([false,false,true,false,false,false,false,false,false,false].take 10).map b2i).map V.int))=H6 at eL5 s5 ⊢;refine⟨_,rfl,_,rfl,L,_,rfl,SqL.of eL5,fun l6 g6=>?_⟩;have w6:=ag g6 (.lst (bK ([false,false,true,false,false,false,false,false,false,false].map V.bl) (some 4) none));refine⟨l6,[false,false,false,false,false,false].map V.bl,.bool true,[false,false,false,false,false,false].map PyData.bool,rfl,SqL.of ad,(by simp only[Dt]),cZ _,by decide +kernel,cG _,_,rfl,aA ?_⟩;have eL6:=w6 _ _ eL5;have s6:=s5.trans w6;generalize upd H6 l6 (.lst (bK ([false,false,true,false,false,false,false,false,false,false].map V.bl) (some 4) none))=H7 at eL6 s6 ⊢;refine⟨fun σ' H'=>H'=H7/\σ'=[some (.ref p),some (.ref st),some (.ref ea),none,some (.ref L),some .non],?_,?_⟩
  ·exact⟨_,rfl,L,_,_,_,rfl,rfl,SqL.of eL6,at1,_,rfl,aA ⟨rfl,rfl⟩⟩
  rintro σ' H' ⟨rfl,rfl⟩;refine⟨sz rfl,fun l7 g7=>?_⟩;have w7:=ag g7 (.lst [.str "taken",.str "none",.str "beneath",.str "far"]);refine⟨_,rfl,.inl ⟨rfl,_,SqL.of (w7 _ _ eL6)⟩,L,_,.bl true,.bool true,[false,false,true,false,false,false,false,false,false,false].map PyData.bool,2,by decide,rfl,rfl,w7 _ _ eL6,(by simp only[Dt]),cZ _,by decide +kernel,cG _,by decide,rfl,(fun i hi=>by rcases(show i=0\/i=1 by omega)with rfl|rfl<;>rfl),?_⟩;refine⟨l7,_,_,_,rfl,rfl,SqL.of ad,at2,_,rfl,sz rfl,fun t gt=>?_⟩;exact q t _ (s6.trans (w7.trans (ag gt _))) ad
 ·subst e;refine⟨cF,bF,rfl,R.eF,R.hF,fun ea he=>⟨_,rfl,?_⟩⟩;have we:=ag he (exD ea cF none);have ee:upd H1 ea (exD ea cF none) ea=some (exD ea cF none):=ad;have s2:=s1.trans we;generalize upd H1 ea (exD ea cF none)=H2 at ee s2 ⊢;refine⟨_,rfl,rfl,_,rfl,bR (by intro z;cases z) ?_⟩;refine⟨_,rfl,_,_,_,_,rfl,fun v hv=>hv,.inr ⟨ea,cF,none,rfl,ee,trivial,R.kF.ek,R.kF.kv⟩,_,rfl,aA ?_⟩;refine⟨_,rfl,ea,cF,none,_,rfl,ee,trivial,R.kF,fun L H3 s3 eL=>?_⟩;refine⟨_,rfl,L,rfl,⟨_,SqL.of eL⟩,?_⟩;refine dz (N:=10) (fun i ys H'=>H'=H3/\ys.length=i/\ys=(([false,false,false,true,false,false,false,false,false,false].take i).map b2i).map V.int) (by decide) (fun i ys H' z=>z.2.1) ⟨rfl,rfl,rfl⟩ (fun i ys H' hi z=>⟨[false,false,false,true,false,false,false,false,false,false].map V.bl,_,z.1▸SqL.of eL,Zb (show i<10 from hi)⟩) (fun ys H' z=>⟨[false,false,false,true,false,false,false,false,false,false].map V.bl,z.1▸SqL.of eL,Zd _⟩) ?_ ?_
  ·rintro i ys H' x H'' hi ⟨rfl,ly,ey⟩ ⟨rfl,y⟩ A' kA;have hx:=y _ (SqL.of eL);rw[ZA]at hx;obtain⟨b,hb,rfl⟩:=ZC.mp hx;refine⟨_,rfl,.inr ⟨b,rfl,kA _ _ ⟨rfl,by rw[Zg,ly];rfl,?_⟩⟩⟩;rw[YK,hb,ZU,ZU,ey];rfl
  rintro ys l5 H' ⟨rfl,_,rfl⟩ g5;have w5:=ag g5 (.lst ((([false,false,false,true,false,false,false,false,false,false].take 10).map b2i).map V.int));have eL5:=w5 _ _ eL;have s5:=s2.trans (s3.trans w5);refine⟨l5,([false,false,false,true,false,false,false,false,false,false].take 10).map b2i,rfl,SqL.of ad,rfl,_,rfl,fF rfl ?_⟩;generalize upd H' l5 (.lst ((([false,false,false,true,false,false,false,false,false,false].take 10).map b2i).map V.int))=H6 at eL5 s5 ⊢;refine⟨_,rfl,_,rfl,L,_,rfl,SqL.of eL5,fun l6 g6=>?_⟩;have w6:=ag g6 (.lst (bK ([false,false,false,true,false,false,false,false,false,false].map V.bl) (some 4) none));refine⟨l6,[false,false,false,false,false,false].map V.bl,.bool true,[false,false,false,false,false,false].map PyData.bool,rfl,SqL.of ad,(by simp only[Dt]),cZ _,by decide +kernel,cG _,_,rfl,aA ?_⟩;have eL6:=w6 _ _ eL5;have s6:=s5.trans w6;generalize upd H6 l6 (.lst (bK ([false,false,false,true,false,false,false,false,false,false].map V.bl) (some 4) none))=H7 at eL6 s6 ⊢;refine⟨fun σ' H'=>H'=H7/\σ'=[some (.ref p),some (.ref st),some (.ref ea),none,some (.ref L),some .non],?_,?_⟩
  ·exact⟨_,rfl,L,_,_,_,rfl,rfl,SqL.of eL6,at1,_,rfl,aA ⟨rfl,rfl⟩⟩
  rintro σ' H' ⟨rfl,rfl⟩;refine⟨sz rfl,fun l7 g7=>?_⟩;have w7:=ag g7 (.lst [.str "taken",.str "none",.str "beneath",.str "far"]);refine⟨_,rfl,.inl ⟨rfl,_,SqL.of (w7 _ _ eL6)⟩,L,_,.bl true,.bool true,[false,false,false,true,false,false,false,false,false,false].map PyData.bool,3,by decide,rfl,rfl,w7 _ _ eL6,(by simp only[Dt]),cZ _,by decide +kernel,cG _,by decide,rfl,(fun i hi=>by rcases(show i=0\/i=1\/i=2 by omega)with rfl|rfl|rfl<;>rfl),?_⟩;refine⟨l7,_,_,_,rfl,rfl,SqL.of ad,at3,_,rfl,sz rfl,fun t gt=>?_⟩;exact q t _ (s6.trans (w7.trans (ag gt _))) ad
def kP(x:Nm×It):Sd:=.put x.1 x.2.up x.2.pl x.2.tx
abbrev PutsAt(H:Hp)(sts:List Addr)(ol:Ol):Prop:=Paired (fun st x=>StAt H st (kP x)) sts ol
theorem PutsAt.ts{H H':Hp}{sts:List Addr}{ol:Ol}(x:PutsAt H sts ol)(s:TS H H'):PutsAt H' sts ol:=Paired.mapP x fun _ _ z=>z.ts s
structure Gd(ol:Ol):Prop where
 nm:∀(i:Nat) (x:Nm×It),ol[i]?=some x->x.1.2=1+(i:Int)\/x.1.2=1+(i:Int)+1000000000
 up:∀(i:Nat) (x:Nm×It),ol[i]?=some x->jO (ol.take i) x.2.up
 fr:∀x∈ol,Fr x.2
 tx:∀x∈ol,x.2.tx.length<=10
 sk:∀x∈ol,PyData.strOk x.2.tx=true
 le:ol.length<=8
theorem Gd.nil:Gd []:=⟨(fun i x h=>by simp at h),(fun i x h=>by simp at h),(fun x h=>nomatch h),(fun x h=>nomatch h),(fun x h=>nomatch h),by decide⟩
theorem Gd.nd{ol:Ol}(g:Gd ol):(ol.map (·.1)).Nodup:=by rw[List.nodup_iff_pairwise_ne,List.pairwise_map,Yk];intro i j hi hj hij e;have h1:=g.nm i _ (Zb hi);have h2:=g.nm j _ (Zb hj);have le:=g.le;rw[e]at h1;omega
theorem Gd.snoc{ol:Ol}(g:Gd ol){x:Nm×It}(h8:ol.length<8)(h1:x.1.2=1+(ol.length:Int)\/x.1.2=1+(ol.length:Int)+1000000000)(h2:jO ol x.2.up)(h3:Fr x.2)(h4:x.2.tx.length<=10)(h5:PyData.strOk x.2.tx=true):Gd (ol++[x]):=by
 have idx:∀{i:Nat} {y:Nm×It},(ol++[x])[i]?=some y->ol[i]?=some y\/(i=ol.length/\y=x):=fun{i y} h=>by
  by_cases c:i<ol.length
  ·rw[y7 c]at h;exact .inl h
  ·rw[ZL (by omega)]at h;by_cases c2:i=ol.length
   ·rw[c2,YQ]at h;cases h;exact .inr ⟨c2,rfl⟩
   ·rw[List.getElem?_eq_none (by simp;omega)]at h;cases h
 have mem:∀{y:Nm×It},y∈ol++[x]->y∈ol\/y=x:=fun{y} h=>by simpa using h
 refine⟨fun i y h=>?_,fun i y h=>?_,fun y h=>?_,fun y h=>?_,fun y h=>?_,by rw[Zg];exact h8⟩
 ·rcases idx h with h|⟨rfl,rfl⟩
  ·exact g.nm i y h
  ·exact h1
 ·rcases idx h with h|⟨rfl,rfl⟩
  ·have hi:=(Zt.mp h).1;rw[List.take_append_of_le_length (by omega)];exact g.up i y h
  ·rw[List.take_left']
   ·exact h2
   ·rfl
 ·rcases mem h with h|rfl
  ·exact g.fr y h
  ·exact h3
 ·rcases mem h with h|rfl
  ·exact g.tx y h
  ·exact h4
 ·rcases mem h with h|rfl
  ·exact g.sk y h
  ·exact h5
theorem Cm{x:Nm×It}(h:Fr x.2):hM x.2.up x.2.pl x.2.tx=x.2:=by obtain⟨n,u,pl,tx,d,wh,f⟩:=x;obtain⟨h1,h2,h3⟩:=h;dsimp only at h1 h2 h3;subst h1 h2 h3;rfl
theorem lG{ol:Ol}(g:Gd ol){i:Nat}{x:Nm×It}(h:ol[i]?=some x):look (ol.take i) x.1=none:=by
 refine lK fun z=>?_;obtain⟨y,hy,e⟩:=y3.mp z;obtain⟨j,hj⟩:=ZO.mp hy;have lj:j<i:=by have:=(Zt.mp hj).1;rw[ZS]at this;omega
 rw[List.getElem?_take_of_lt lj]at hj;have h1:=g.nm i x h;have h2:=g.nm j y hj;have li:=(Zt.mp h).1;have le:=g.le;rw[e]at h2;omega
theorem jZ{ol:Ol}(g:Gd ol){i:Nat}{x:Nm×It}(h:ol[i]?=some x):dH (ol.take i) x.1 (hM x.2.up x.2.pl x.2.tx)=ol.take (i+1):=by rw[Cm (g.fr x (ZZ h))];unfold dH;rw[lG g h,if_neg (by simp),YK,h];rfl
theorem tI{ol:Ol}(g:Gd ol){i:Nat}{x:Nm×It}(h:ol[i]?=some x):Due (ol.take i) (kP x) .ok:=by
 refine .bd none (fun m hm=>?_) (fun m hm=>?_) .put
 ·obtain rfl:m=x.1:=by simpa[kP,Sd.news]using hm
  exact lG g h
 ·refine g.up i x h m ?_;have hm:m∈x.2.up.toList:=hm;cases c:x.2.up with
  |none=>rw[c]at hm;cases hm
  |some y =>
   rw[c]at hm;have:m=y:=by simpa using hm
   rw[this]
theorem zW{ol:Ol}(g:Gd ol):∀i,i<=ol.length->Ter (ol.take i):=by
 intro i;induction i with
 |zero=>intro _ n it h;cases h
 |succ i ih =>intro hi;have hx:ol[i]?=some ol[i]:=Zb hi;rw[<-jZ g hx];exact zl (ih (by omega)) (lG g hx) (g.up i _ hx)
theorem nz{ol:Ol}(g:Gd ol)(i:Nat):TxB (ol.take i):=fun n it hl=>by have:=g.tx _ (List.mem_of_mem_take (fU hl));exact ZB this (by decide)
theorem xQ:∀j:Fin 8,PyData.strOk (dA "abcdefg" none (some (j.val:Int)))=true/\(dA "abcdefg" none (some (j.val:Int))).length<=10:=by decide +kernel
def mM(K:PySem.W.Frag):Sp:=fun vs H Q _=>∃(a:Addr) (ns:List Int) (m:Nat),vs=[.ref a,.int (m:Int)]/\SqL K H a (ns.map V.int)/\m<=8/\∀(L:Addr) (sts:List Addr) (ol:Ol) (H':Hp),Same H H'->H L=none->H' L=some (.lst (sts.map V.ref))->PutsAt H' sts ol->Gd ol->Q (.ref L) H'
abbrev iH:Stmt:=top 25
abbrev sQ:List Str:=["_law_script","_law_many","_law_names","_law_steps","_law_k","_law_cell","_law_up"]
theorem bY:FnScope sQ ["_law_script","_law_many"] (am iH):=⟨rfl,rfl,rfl,by decide +kernel,rfl,by decide +kernel,by decide +kernel⟩
theorem rV{f:Addr}{fd:FuncData}(F:Fun K "_law_started" "_law_started" iH f fd)(F_cell_at:Fn P w K mg base 1 "_law_cell_at" ["_law_script","_law_k"] (pk K))(z_range:mg "range" = none)(z_len:mg "len" = none):FnOk P w K mg base CX0 2 f fd ["_law_script","_law_many"] (mM K):=by
 refine F.okQ bY (fun vs H Q E h=>?_) (fun cdv A outer s H vs Q E hr h=>?_)
 ·obtain⟨a,ns,m,rfl,_⟩:=h;rfl
 obtain⟨a,ns,m,rfl,hS,m8,q⟩:=h;refine⟨_,(b_c (ay (i:=2) bY.nd (bf aj))
   (b_c (ay (i:=3) bY.nd (bf aj))
   (b_c (fJ Yo rfl (Ac z_range (q_a (q_v 1) aj)) (bH (i:=4) bY.nd) (b_c (ay (i:=5) bY.nd (cQ F_cell_at (hr.mono (by decide)) (q_a (q_v 0) (q_a (aD eC ah (q_v 4)) aj))))
   (b_c (ay (i:=6) bY.nd bg)
   (b_c (fu (aL (t_w (cJ (aw oQ (aD bQ (aD cA (q_v 5) ah) ah) ah) (cc (aw (kJ hr.units) (q_v 2) (bf aj))))) (b_1 (ay (i:=6) bY.nd (aB dw (q_v 2) (aD bQ (aD cA (q_v 5) ah) (q_B jR z_len YJ (q_a (q_v 2) aj)))))) b_0))
   (b_c (cR (nE (q_v 2) (au (q_a (aD bQ (q_v 5) ah) (q_a (aD eC (aD eC ah (q_v 4)) (aD xm (aD bQ (aD cA (q_v 5) ah) ah) (aD eE ah ah))) aj)))))
   (b_1 (cR (nE (q_v 3) (au (q_a aq (q_a (aB dw (q_v 2) (q_v 4)) (q_a (q_v 6) (q_a (au (q_a (aD xn (aD bQ (aD cA (q_v 5) ah) ah) ah) aj)) (q_a (jH Al aq lQ (iC (aD bQ (aD cA (q_v 5) ah) ah))) aj))))))))))))))
   (b_1 (aH (q_v 3)))))),?_⟩
 try rw[cxK]
 refine⟨sz rfl,fun aN gN=>?_⟩;have wN:=ag gN (.lst []);have eN0:upd H aN (.lst []) aN=some (.lst []):=ad;generalize upd H aN (.lst [])=H1 at wN eN0 ⊢;refine⟨sz rfl,fun aS gS=>?_⟩;have wS:=ag gS (.lst []);have eS0:upd H1 aS (.lst []) aS=some (.lst []):=ad;have eN1:=wS _ _ eN0;have hS0:H aS=none:=wN.free gS;have ne:aN≠aS:=fun z=>by rw[z,gS]at eN0;cases eN0
 have s02:=wN.trans wS;generalize upd H1 aS (.lst [])=H2 at wS eS0 eN1 s02 ⊢;refine⟨_,rfl,_,rfl,by omega,by omega,?_⟩;refine tF (lo:=0) (n:=m) (fun i σ H'=>Same H H'/\∃(ol:Ol) (nvs:List V) (sts:List Addr) (o4 o5 o6:Option V),ol.length=i/\Gd ol/\H' aN=some (.lst nvs)/\KsAt H' ol nvs/\H' aS=some (.lst (sts.map V.ref))/\PutsAt H' sts ol/\σ=[some (.ref a),some (.int (m:Int)),some (.ref aN),some (.ref aS),o4,o5,o6]) ⟨s02,[],[],[],none,none,none,rfl,.nil,eN1,.nil,eS0,.nil,rfl⟩ ?_ ?_
 ·rintro i σ H' hi ⟨sm,ol,nvs,sts,o4,o5,o6,lo,gd,eN,ka,eS,pa,rfl⟩;refine⟨_,rfl,_,rfl,_,_,rfl,rfl,a,ns,_,rfl,sm.seq hS,(by show(0:Int)<=1+(0+(i:Int));omega),?_⟩;dsimp only;generalize dL ns (1+(0+(i:Int))).toNat=c;have lk:=ZI ka;have ls:=ZI pa;refine⟨fun σ' H2=>Same H' H2/\∃(uv:V) (u:Option Nm),UpAt H2 uv u/\jO ol u/\σ'=[some (.ref a),some (.int (m:Int)),some (.ref aN),some (.ref aS),some (.int (0+(i:Int))),some (.int c),some uv],?_,?_⟩
  ·have top:UpAt H' .non none/\jO ol none:=⟨rfl,fun m z=>by cases z⟩
   refine⟨_,rfl,_,_,rfl,rfl,⟨by decide,by decide⟩,_,_,rfl,rfl,(by show(0:Int)<3;decide),_,_,rfl,rfl,_,rfl,bM (fun _=>?_) (fun _=>aA ?_)⟩
   ·refine⟨_,rfl,sz rfl,fun e ge=>?_⟩;have we:=ag ge (.lst []);obtain⟨d1,sh1,_⟩:=dh (we _ _ eN) (gU (ka.ts (Same.ts we)));obtain⟨d2,sh2,_⟩:=dh (ns:=[]) (l:=e) ad .nil;refine⟨_,_,d1,d2,sh1,sh2,_,rfl,?_⟩;rw[qv];cases hc:decide (ol.map (·.1)=[])with
    |true=>exact aA ⟨we,.non,none,rfl,top.2,rfl⟩
    |false =>
     have nel:ol≠[]:=fun z=>by rw[z]at hc;cases hc
     have lp:0<nvs.length:=by rw[<-lk];exact List.length_pos_iff.mpr nel
     have h0:=YR (c / 48) (show(nvs.length:Int)≠0 by omega);have h1:=Yy (c / 48) (show(0:Int)<(nvs.length:Int) by omega);obtain⟨j,hj⟩:=Int.eq_ofNat_of_zero_le h0;have hjl:j<nvs.length:=by omega
     obtain⟨x,hx,hnx⟩:=eX ka j _ (Zb hjl);refine bw ⟨_,rfl,_,rfl,_,_,rfl,rfl,⟨by decide,by decide⟩,_,rfl,aN,_,rfl,.inl (SqL.of (we _ _ eN)),_,_,rfl,rfl,(by show(0:Int)<(nvs.length:Int);omega),aN,_,_,_,rfl,rfl,SqL.of (we _ _ eN),(by rw[hj];exact cE (Zb hjl)),?_⟩;refine⟨we,_,some x.1,hnx.ts' (Same.ts we),fun y z=>?_,rfl⟩;cases z;rw[bO gd.nd hx];rfl
   ·exact⟨Same.refl _,.non,none,rfl,top.2,rfl⟩
  rintro σ' H3 ⟨s3,uv,u,hu,uo,rfl⟩;have b0:=YR (c / 8) (show(2:Int)≠0 by decide);have b1:=Yy (c / 8) (show(0:Int)<2 by decide);refine⟨_,rfl,.inl ⟨rfl,_,SqL.of (s3 _ _ eN)⟩,_,rfl,_,_,rfl,rfl,(by show(0:Int)<8;decide),_,rfl,_,_,rfl,rfl,_,rfl,_,_,rfl,rfl,⟨by decide,by decide⟩,_,_,rfl,rfl,(by show(0:Int)<2;decide),_,_,rfl,rfl,⟨by decide,by decide,by decide⟩,_,_,rfl,rfl,.inl ⟨by omega,by omega⟩,_,_,rfl,rfl,sz rfl,fun t1 g1=>?_⟩;dsimp(config:={ proj:=false,iota:=false,eta:=false,zeta:=false }) only;rw[show(10:Int)^(9:Int).toNat=1000000000 by decide]at *;have num:1+(0+(i:Int))+c / 8%2*1000000000=1+(ol.length:Int)\/1+(0+(i:Int))+c / 8%2*1000000000=1+(ol.length:Int)+1000000000:=by rcases(show c / 8%2=0\/c / 8%2=1 by omega)with h|h<;>rw[h]<;>omega
  generalize 1+(0+(i:Int))+c / 8%2*1000000000=nu at num g1 ⊢;generalize c%8=hn at g1 ⊢;have w1:=ag g1 (.tup [.int hn,.int nu]);have e1:upd H3 t1 (.tup [.int hn,.int nu]) t1=some (.tup [.int hn,.int nu]):=ad;have eN3:=w1 _ _ (s3 _ _ eN);have s13:=s3.trans w1;have hu3:=hu.ts (Same.ts w1);generalize upd H3 t1 (.tup [.int hn,.int nu])=H4 at e1 eN3 s13 hu3 ⊢;refine⟨aN,_,_,rfl,rfl,eN3,cU (by omega),?_⟩;have t5:=gv (ks':=nvs++[.ref t1]) eN3;have eN5:upd H4 aN (.lst (nvs++[.ref t1])) aN=some (.lst (nvs++[.ref t1])):=ad;have eS5:upd H4 aN (.lst (nvs++[.ref t1])) aS=some (.lst (sts.map V.ref)):=by rw[af (ZN ne)];exact s13 _ _ eS
  have s05:Same H (upd H4 aN (.lst (nvs++[.ref t1]))):=dq (sm.trans s13) gN;have hu5:=hu3.ts t5;have e15:=t5 _ _ e1;have ka5:=(ka.ts (Same.ts s13)).ts t5;have pa5:=(pa.ts (Same.ts s13)).ts t5;generalize upd H4 aN (.lst (nvs++[.ref t1]))=H5 at eN5 eS5 s05 hu5 e15 ka5 pa5 ⊢;have c0:=YR (c / 11) (show(8:Int)≠0 by decide);have c1:=Yy (c / 11) (show(0:Int)<8 by decide);obtain⟨j,hj⟩:=Int.eq_ofNat_of_zero_le c0;obtain⟨x1,x2⟩:=xQ ⟨j,by omega⟩;have x1:PyData.strOk (dA "abcdefg" none (some (j:Int)))=true:=x1;have x2:(dA "abcdefg" none (some (j:Int))).length<=10:=x2;rw[<-hj]at x1 x2;have hat:atI (nvs++[V.ref t1]) (0+(i:Int))=some (.ref t1):=by rw[Int.zero_add];refine cE ?_;rw[ZL (by omega),show i-nvs.length=0 by omega];rfl
  refine⟨_,rfl,.inl ⟨rfl,_,SqL.of eS5⟩,_,rfl,_,rfl,aN,_,_,_,rfl,rfl,SqL.of eN5,hat,_,rfl,_,rfl,_,_,rfl,rfl,⟨by decide,by decide⟩,_,_,rfl,rfl,(by show(0:Int)<5;decide),_,_,rfl,rfl,sz rfl,fun t2 g2=>?_⟩;refine⟨_,rfl,_,_,rfl,rfl,⟨by decide,by decide⟩,_,_,rfl,rfl,(by show(0:Int)<8;decide),_,rfl,"abcdefg",rfl,by decide +kernel,sz rfl,fun t3 g3=>?_⟩;have v2:=ag g2 (.tup [.int (c / 7%5-2)]);have v3:=ag g3 (.tup [.str "put",.ref t1,uv,.ref t2,.str (dA "abcdefg" none (some (c / 11%8)))]);have v23:=v2.trans v3;have e2:=v3 _ _ (ad (H:=H5) (a:=t2) (o:=.tup [.int (c / 7%5-2)]));have e3:upd (upd H5 t2 (.tup [.int (c / 7%5-2)])) t3 (.tup [.str "put",.ref t1,uv,.ref t2,.str (dA "abcdefg" none (some (c / 11%8)))]) t3=some (.tup [.str "put",.ref t1,uv,.ref t2,.str (dA "abcdefg" none (some (c / 11%8)))]):=ad;have eS6:=v23 _ _ eS5;have s06:=s05.trans v23;generalize upd (upd H5 t2 (.tup [.int (c / 7%5-2)])) t3 (.tup [.str "put",.ref t1,uv,.ref t2,.str (dA "abcdefg" none (some (c / 11%8)))])=H6 at v23 e2 e3 eS6 s06 ⊢;refine⟨aS,_,_,rfl,rfl,eS6,cU (by rw[Zu];omega),?_⟩;have t7:=gv (ks':=sts.map V.ref++[.ref t3]) eS6;have tt:TS H5 (upd H6 aS (.lst (sts.map V.ref++[.ref t3]))):=fun b zs e=>t7 _ _ (v23 _ _ e);refine⟨dq s06 hS0,ol++[((hn,nu),hM u [c / 7%5-2] (dA "abcdefg" none (some (c / 11%8))))],nvs++[.ref t1],sts++[t3],_,_,_,by rw[Zg,lo];rfl,gd.snoc (by omega) num uo ⟨rfl,rfl,rfl⟩ x2 x1,by rw[af ne];exact v23 _ _ eN5,(ka5.ts tt).snoc ⟨t1,rfl,tt _ _ e15⟩,by rw[ad,ZU];rfl,?_,rfl⟩;exact dF (pa5.ts tt) (.cons ⟨.ref t1,uv,.ref t2,t7 _ _ e3,⟨t1,rfl,tt _ _ e15⟩,hu5.ts tt,t2,rfl,t7 _ _ e2⟩ .nil)
 ·rintro σ H' ⟨sm,ol,nvs,sts,o4,o5,o6,lo,gd,eN,ka,eS,pa,rfl⟩;exact⟨_,rfl,q aS sts ol H' sm hS0 eS pa gd⟩
theorem zn{ol:Ol}{B:Nat}(nd:(ol.map (·.1)).Nodup)(tb:nW ol B)(l3:ol.length<=300):∀M:Ol,M.Perm ol->∃out k,Dfs M (fQ M) out k/\k<=300:=fun M pe=>by
 obtain⟨out,k,df⟩:=zS pe nd tb;refine⟨out,k,df,?_⟩;have ndM:(M.map (·.1)).Nodup:=(pe.map _).nodup_iff.mpr nd;have on:∀n it,look M n=some it->K24.cnt n out=1:=fun n it hl=>by obtain⟨j,_,ch⟩:=tb (n,it) (pe.mem_iff.mp (fU hl));exact vA ndM df (tU pe nd) ch n rfl
 have:=(tj ndM df on).length_eq;rw[Zu,Zu,pe.length_eq,df.len]at this;omega
theorem wQ{ol M:Ol}{out:List DI}{k:Nat}(pe:M.Perm ol)(df:Dfs M (fQ M) out k):∀ x∈out,x.2∈ol:=fun x hx=>pe.mem_iff.mp (df.mem (fun z hz=>by
 obtain⟨w',hw,rfl⟩:=y3.mp hz;exact (iO.mp hw).1) x hx)
def re(ol:Ol)(out:List DI):Prop:=∃M k,M.Perm ol/\M.Pairwise leP/\Dfs M (fQ M) out k
theorem yr{ol:Ol}{o1 o2:List DI}(nd:(ol.map (·.1)).Nodup)(h1:re ol o1)(h2:re ol o2):o1=o2:=by obtain⟨M,k,p,s,d⟩:=h1;obtain⟨M',k',p',s',d'⟩:=h2;have:=sD nd p p' s s';subst this;exact xW d d'
abbrev ItsAt(H:Hp)(ol:Ol)(vs:List V):Prop:=Paired (fun x v=>ItAt H v x.2) ol vs
theorem ItsAt.ts{H H':Hp}{ol:Ol}{vs:List V}(x:ItsAt H ol vs)(s:TS H H'):ItsAt H' ol vs:=Paired.mapP x fun _ _ z=>z.ts s
structure AllAt(H:Hp)(t n:Addr)(ol:Ol)(out:List DI):Prop where
 tp:∃i r is rs,H t=some (.tup [.ref n,.ref i,.ref r])/\H i=some (.lst is)/\ItsAt H ol is/\H r=some (.lst rs)/\RwsAt H out rs
 nm:∃ks,H n=some (.lst ks)/\KsAt H ol ks
theorem AllAt.sameT{T:Addr}{H H':Hp}{t n:Addr}{ol:Ol}{out:List DI}{q:Str}{pos:Pos}(x:AllAt H t n ol out)(s:SameT T H H')(tab:aP q T pos H):AllAt H' t n ol out:=by
 have ts:=iX s tab;obtain⟨ps,t1,_⟩:=tab;have kp:∀{b:Addr} {xs:List V},H b=some (.lst xs)->H' b=some (.lst xs):=fun e=>s _ _ e fun z=>by rw[z,t1]at e;cases e
 obtain⟨⟨i,r,is,rs,h1,h2,h3,h4,h5⟩,⟨ks,h6,h7⟩⟩:=x;exact⟨⟨i,r,is,rs,ts _ _ h1,kp h2,h3.ts ts,kp h4,h5.ts ts⟩,⟨ks,kp h6,h7.ts ts⟩⟩
theorem AllAt.same{H H':Hp}{t n:Addr}{ol:Ol}{out:List DI}(x:AllAt H t n ol out)(s:Same H H'):AllAt H' t n ol out:=by obtain⟨⟨i,r,is,rs,h1,h2,h3,h4,h5⟩,⟨ks,h6,h7⟩⟩:=x;exact⟨⟨i,r,is,rs,s _ _ h1,s _ _ h2,h3.ts (Same.ts s),s _ _ h4,h5.ts (Same.ts s)⟩,⟨ks,s _ _ h6,h7.ts (Same.ts s)⟩⟩
def fM(ol:Ol)(out:List DI):PyData:=.tuple [cM (ol.map (·.1)),.list (ol.map fun x=>itD x.2),.list (out.map rwD)]
theorem BV(u:Option Nm):(dY u).depth<=1:=by cases u<;>simp[dY,PyData.depth,PyData.depthAll]
theorem Af{it:It}:(itD it).depth<=3:=by have u:=BV it.up;have pd:=PyProof.Rows.depthAll_ints it.pl;unfold itD;simp only[PyData.depth,PyData.depthAll];rw[pd];cases hw:it.wh<;>simp only[PyData.depth]<;>omega
theorem qm{H:Hp}:∀{ol:Ol} {vs:List V},ItsAt H ol vs->(∀x∈ol,PyData.strOk x.2.tx=true)->DtAll H (ol.map fun x=>itD x.2) vs/\PyData.canLayAll0 (ol.map fun x=>itD x.2)=true/\PyData.depthAll (ol.map fun x=>itD x.2)<=3
 | [],_,.nil,_=>⟨by simp[DtAll],rfl,by simp[PyData.depthAll]⟩
 |x::_,_,.cons h t,sk=>by
  obtain⟨a1,a2,a3⟩:=qm t fun y hy=>sk y (Zh _ hy);obtain⟨d,sh,_⟩:=Cl h (sk _ Zo);have s1:=Yq sh;have s2:=SeqAt.depth_of_shaped sh;rw[Zx];refine⟨?_,?_,?_⟩
  ·simp only[DtAll];exact⟨_,_,rfl,d,a1⟩
  ·simp only[PyData.canLayAll0,Zz];exact⟨s1,a2⟩
  ·have:=Af (it:=x.2);simp only[PyData.depthAll];omega
theorem sS{H:Hp}{t n:Addr}{ol:Ol}{out:List DI}(x:AllAt H t n ol out)(sk:∀x∈ol,PyData.strOk x.2.tx=true)(so:∀x∈out,PyData.strOk x.2.2.tx=true):Dt H (fM ol out) (.ref t)/\SeqAt.shaped (fM ol out)=true/\PyData.eqv (fM ol out) (fM ol out)=true:=by
 obtain⟨⟨i,r,is,rs,h1,h2,h3,h4,h5⟩,⟨ks,h6,h7⟩⟩:=x;obtain⟨n1,n2,_⟩:=dh h6 (gU h7);obtain⟨r1,r2,_⟩:=By h4 h5 so;obtain⟨i1,i2,i3⟩:=qm h3 sk;have n3:=Yq n2;have r3:=Yq r2;have hc:(fM ol out).canLay0=true:=by simp only[fM,PyData.canLay0,PyData.canLayAll0,Zz,Bool.and_true];exact⟨n3,i2,r3⟩
 refine⟨?_,cD hc ?_,SeqAt.eqv_refl _ hc⟩
 ·simp only[fM,Dt,DtAll];exact⟨t,_,rfl,.inl h1,_,_,rfl,n1,_,_,rfl,⟨i,_,rfl,.inl h2,i1⟩,_,_,rfl,r1,rfl⟩
 ·have nd:=(lL (ol.map (·.1))).2;have rd:=(lU out so).2;simp only[fM,cM,PyData.depth,PyData.depthAll];omega
def xA(C T:Addr):Sp:=fun vs H Q _=>∃(p d g:Addr) (ol:Ol) (B:Nat),vs=[.ref p]/\OlAt C H p d g ol/\ol.length<=300/\(ol.map (·.1)).Nodup/\nW ol B/\aP dU T (eZ dB) H /\
 ∀(t n:Addr) (out:List DI) (H':Hp),SameT T H H'->aP dU T (eZ dB) H'->re ol out->AllAt H' t n ol out->Q (.ref t) H'
abbrev ss:Stmt:=top 32
abbrev B7:List Str:=["_law_plain","_law_names"]
theorem uK:FnScope B7 ["_law_plain"] (am ss):=⟨rfl,rfl,rfl,by decide +kernel,rfl,by decide +kernel,by decide +kernel⟩
theorem Ax{f C T:Addr}{fd:FuncData}(F:Fun K "_law_all" "_law_all" ss f fd)(M_names:MFn P w K mg base 1 C "names" ["self"] (md C))(M_item:MFn P w K mg base 1 C "item" ["self","name"] (pA C))(M_rows:MFn P w K mg base 7 C "rows" ["self"] (uO C T)):FnOk P w K mg base CX0 8 f fd ["_law_plain"] (xA C T):=by
 refine F.okQ uK (fun vs H Q E h=>?_) (fun cdv A outer s H vs Q E hr h=>?_)
 ·obtain⟨p,d,g,ol,B,rfl,_⟩:=h;rfl
 obtain⟨p,d,g,ol,B,rfl,O,l3,nd,tb,tab,q⟩:=h;obtain⟨kvs,S,R⟩:=id O;obtain⟨⟨dx,h1⟩,_⟩:=id S;refine⟨_,(b_c (ay (i:=1) uK.nd (fY M_names (hr.mono (by decide)) (q_v 0)))
   (b_1 (aH (au (q_a (q_v 1) (q_a (oS (own:=["_law_name_here"]) (⟨rfl,by decide +kernel,by decide +kernel,rfl,⟨rfl,rfl,trivial⟩⟩:CompOk _ _ [0] ["_law_plain"]) rfl (eV (q_v 1)) (fun _ _ _ _=>bH (i:=0) (show (["_law_name_here","_law_plain"]:List Str).Nodup by decide +kernel)) (iN (by decide)) (fun _ _ _ _=>rG) (fun _ _ _ _=>(iB M_item (hr.mono (by decide)) (q_v 1) (q_a (q_v 0) aj)))) (q_a (fY M_rows (hr.mono (by decide)) (q_v 0)) aj))))))),?_⟩
 try rw[cxK]
 refine⟨_,rfl,p,dx,_,rfl,h1,cO _ _,p,d,g,kvs,[],rfl,S,fun l ks gl kat=>?_⟩;have wl:=ag gl (.lst ks);have el:upd H l (.lst ks) l=some (.lst ks):=ad;have ka:=(nB kat R).ts (Same.ts wl);generalize upd H l (.lst ks)=H1 at wl el ka ⊢;have lk:=ZI ka;refine⟨_,rfl,_,rfl,l,rfl,⟨ks,SqL.of el⟩,?_⟩;refine dz (N:=ks.length) (fun i ys H'=>Same H1 H'/\ys.length=i/\ItsAt H' (ol.take i) ys) (by omega) (fun _ _ _ z=>z.2.1) ⟨Same.refl _,rfl,.nil⟩ (fun i ys H' hi z=>⟨ks,_,SqL.of (z.1 _ _ el),Zb hi⟩) (fun ys H' z=>⟨ks,SqL.of (z.1 _ _ el),Zd _⟩) ?_ ?_
 ·rintro i ys H' x H'' hi ⟨sm,ly,pa⟩ ⟨rfl,y⟩ A' kA;have hx:ks[i]?=some x:=y ks (SqL.of (sm _ _ el));obtain⟨m,hm,hn⟩:=eX ka i x hx;have s0:=wl.trans sm;obtain⟨iv,e1,hi'⟩:=aT (R.ts (Same.ts s0)) (bO nd hm);refine⟨_,rfl,p,dx,_,rfl,s0 _ _ h1,cO _ _,_,rfl,p,d,g,kvs,[],x,iv,nk m.1,rfl,S.same s0,hn.ts' (Same.ts sm),e1,kA _ _ ⟨sm,by rw[Zg,ly];rfl,?_⟩⟩;rw[YK,hm];exact dF pa (.cons hi' .nil)
 rintro ys l2 H2 ⟨sm,ly,pa⟩ g2;rw[ZD (by omega)]at pa;have w2:=ag g2 (.lst ys);have e2:upd H2 l2 (.lst ys) l2=some (.lst ys):=ad;have pa:=ItsAt.ts pa (Same.ts w2);have s3:=wl.trans (sm.trans w2);have el3:=(sm.trans w2) _ _ el;have ka3:=ka.ts (Same.ts (sm.trans w2));generalize upd H2 l2 (.lst ys)=H3 at e2 pa s3 el3 ka3 ⊢;have tab3:=aU tab s3;refine⟨_,rfl,p,dx,_,rfl,s3 _ _ h1,cO _ _,p,d,g,ol,rfl,O.same s3,l3,nd,tab3,zn nd tb l3,fun Rr H4 M out k rs pe so df s4 tab4 gR eR ra=>?_⟩;have ts4:=iX s4 tab3;have kp:∀{b:Addr} {xs:List V},H3 b=some (.lst xs)->H4 b=some (.lst xs):=fun e=>s4 _ _ e fun z=>by obtain⟨ps,t1,_⟩:=tab3;rw[z,t1]at e;cases e
 refine⟨sz rfl,fun t gt=>?_⟩;have wt:=ag gt (.tup [.ref l,.ref l2,.ref Rr]);refine q t l out _ ((SameT.of s3).trans (s4.trans (.of wt))) (aU tab4 wt) ⟨M,k,pe,so,df⟩ ⟨⟨l2,Rr,ys,rs,ad,wt _ _ (kp e2),(pa.ts ts4).ts (Same.ts wt),wt _ _ eR,ra.ts (Same.ts wt)⟩,⟨ks,wt _ _ (kp el3),(ka3.ts ts4).ts (Same.ts wt)⟩⟩
def uN(C:Addr):Sp:=fun vs H Q _=>∃(L:Addr) (sts:List Addr) (ol:Ol) (ext:Option (Addr×Sd×Out)),vs=[.ref L]/\H L=some (.lst ((sts++(ext.map (·.1)).toList).map V.ref))/\PutsAt H sts ol/\Gd ol/\(∀e,ext=some e->StAt H e.1 e.2.1/\Due ol e.2.1 e.2.2/\e.2.2≠.ok)/\∀H',Same H H'->Q (.bl ext.isNone) H'
abbrev iF:Stmt:=top 22
abbrev sO:List Str:=["steps","outline","step"]
theorem hZ:FnScope sO ["steps"] (am iF):=⟨rfl,rfl,rfl,by decide +kernel,rfl,by decide +kernel,by decide +kernel⟩
theorem rT{f C cL cT cN cB cF:Addr}{fd:FuncData}{cs:List Addr}{bL bT bN bB bF:List Value}(F:Fun K "lets_by" "lets_by" iF f fd)(Mk_Plain:MkFn P w K mg base 1 C "Plain" ["self"] (pz C))(MX_step:MFnX P w K mg base 4 C "step" ["self","step"] (iZ C cT cN cB cF))(R:ErsG K cs cL cT cN cB cF bT bN bB bF)(xc_LimbError:ExC K cL bL)(g_LimbError:mg "LimbError" = some (.ref cL)):FnOk P w K mg base CX0 5 f fd ["steps"] (uN C):=by
 refine F.okQ hZ (fun vs H Q E h=>?_) (fun cdv A outer s H vs Q E hr h=>?_)
 ·obtain⟨L,sts,ol,ext,rfl,_⟩:=h;rfl
 obtain⟨L,sts,ol,ext,rfl,hL,pa,gd,he,q⟩:=h;refine⟨_,(b_c (ay (i:=1) hZ.nd (qC Mk_Plain (hr.mono (by decide))))
   (b_c (fJ Yo rfl (eV (q_v 0)) (bH (i:=2) hZ.nd) (b_1 (uJ rfl rfl (qS (uW MX_step (hr.mono (by decide)) (q_v 1) (q_a (q_v 2) aj))) (Db xc_LimbError g_LimbError (fun _=>(b_1 (aH cC))) Ci))))
   (b_1 (aH cC)))),?_⟩
 try rw[cxK]
 intro x dx nx ndx nex;refine⟨x,dx,rfl,ad,fun d g H1 fd0 fg0 S1 kp1=>⟨rfl,?_⟩⟩;have s00:Same H (upd (upd H dx (.own x)) x (.ins C dx [])):=fun b o e=>by rw[af (ai e nx),af (ai e ndx)];exact e
 have hd0:H d=none:=s00.free fd0;have s01:Same H H1:=fun b o e=>kp1 b o (by rw[af (ai e nx),af (ai e ndx)];exact e) (ai e nx);have O1:OlAt C H1 x d g []:=⟨[],S1,.nil⟩
 refine⟨_,rfl,L,rfl,⟨_,SqL.of (s01 _ _ hL)⟩,?_⟩;have lp:=ZI pa;have le:=gd.le;refine jB (xs:=(sts++(ext.map (·.1)).toList).map V.ref) (fun i σ H'=>Same H H'/\i<=ol.length/\OlAt C H' x d g (ol.take i)/\∃o2,σ=[some (.ref L),some (.ref x),o2]) ⟨s01,Z7 _,by rw[List.take_zero];exact O1,none,rfl⟩ (fun _ _ _ _ v=>SqL.of (v.1 _ _ hL)) ?_ ?_
 ·rintro i v σ H' hv ⟨sm,hi,O,o2,rfl⟩;obtain⟨kvs,S,_⟩:=id O;obtain⟨⟨dx2,h1⟩,h2,_⟩:=id S;by_cases c:i<sts.length
  ·rw[ZA,y7 c,Zb c]at hv;cases hv;obtain⟨y,hy,hst⟩:=jF pa (Zb c);refine⟨_,rfl,x,dx2,_,rfl,h1,cO _ _,_,rfl,x,d,g,_,ol.take i,kP y,.ok,rfl,O,by rw[ZS];omega,hst.ts (Same.ts sm),nz gd i,tI gd hy,(fun z=>by cases z),(fun n z=>by cases z),(fun z=>by cases z),(fun z=>by cases z),fun _=>⟨_,_,_,_,rfl,fun H2 b2 O2=>?_⟩⟩;rw[jZ gd hy]at O2;exact⟨fun b o e=>b2 b o (sm b o e) (ai e hd0),by omega,O2,_,rfl⟩
  ·have hi2:i=sts.length:=by have:=(Zt.mp hv).1;rw[Zu,Zg]at this;omega
   rw[ZA,ZL (by omega),hi2,YQ]at hv;cases hx:ext with
   |none=>rw[hx]at hv;cases hv
   |some e =>
    rw[hx]at hv;cases hv;obtain⟨a1,a2,a3⟩:=he e hx;rw[ZD (by omega)]at O;have qf:∀H2,Same H' H2->Q (.bl false) H2:=fun H2 s2=>by have:=q H2 (sm.trans s2);rw[hx]at this;exact this
    have tb:TxB ol:=by have:=nz gd ol.length;rw[ZD (Zd _)]at this;exact this
    refine⟨_,rfl,x,dx2,_,rfl,h1,cO _ _,_,rfl,x,d,g,_,ol,e.2.1,e.2.2,rfl,O,by omega,a1.ts (Same.ts sm),tb,a2,(fun z H2 s2=>⟨cT,bT,rfl,R.eT,?_⟩),(fun n z H2 dd v s2 _ _=>⟨cN,bN,rfl,R.eN,?_⟩),(fun z H2 s2=>⟨cB,bB,rfl,R.eB,?_⟩),(fun z H2 s2=>⟨cF,bF,rfl,R.eF,?_⟩),fun z=>absurd z a3⟩
    ·rw[if_pos R.hT];exact qf _ s2
    ·rw[if_pos R.hN];exact qf _ s2
    ·rw[if_pos R.hB];exact qf _ s2
    ·rw[if_pos R.hF];exact qf _ s2
 ·rintro σ H' ⟨sm,hi,O,o2,rfl⟩;have:=q H' sm;cases hx:ext with
  |none =>rw[hx]at this;exact this
  |some e =>rw[hx,Zu,Zg]at hi;have hi:sts.length+1<=ol.length:=hi;omega
theorem jY{ol:Ol}(g:Gd ol){n:Nm}(h:10^11<=n.2):look ol n=none:=by refine lK fun z=>?_;obtain⟨y,hy,e⟩:=y3.mp z;obtain⟨j,hj⟩:=ZO.mp hy;have h2:=g.nm j y hj;have lj:=(Zt.mp hj).1;have le:=g.le;rw[e]at h2;omega
def K2(d mm:Addr)(H H':Hp):Prop:=∀b o,H b=some o->b≠d->b≠mm->H' b=some o
theorem Cc{ns:List Int}:∃cs:List Int,bK (ns.map V.int) (some 9) (some 39)=cs.map V.int :=
 ⟨(ns.drop (HT.sIx (ns.map V.int).length 0 (some 9))).take (HT.sIx (ns.map V.int).length (ns.map V.int).length (some 39) - HT.sIx (ns.map V.int).length 0 (some 9)),by
  unfold bK;rw[List.map_take,List.map_drop]⟩
structure S24(K:PySem.W.Frag)(C:Addr)(H:Hp)(a x d g mm L t n nl:Addr)(sc:List Int)(sts:List Addr)(ol:Ol)(out:List DI):Prop where
 S:SqL K H a (sc.map V.int)
 O:OlAt C H x d g ol
 m:∃mvs,H mm=some (.dT mvs)/\Rows H mvs ol
 l:H L=some (.lst (sts.map V.ref))/\PutsAt H sts ol
 b:AllAt H t n ol out
 k:∃ks,H nl=some (.lst ks)/\KsAt H ol ks
theorem S24.same{C:Addr}{H H':Hp}{a x d g mm L t n nl:Addr}{sc:List Int}{sts:List Addr}{ol:Ol}{out:List DI}(h:S24 K C H a x d g mm L t n nl sc sts ol out)(s:Same H H'):S24 K C H' a x d g mm L t n nl sc sts ol out:=by obtain⟨h1,h2,⟨mvs,h3,h4⟩,⟨h5,h6⟩,h7,⟨ks,h8,h9⟩⟩:=h;exact⟨s.seq h1,h2.same s,⟨mvs,s _ _ h3,h4.ts (Same.ts s)⟩,⟨s _ _ h5,h6.ts (Same.ts s)⟩,h7.same s,⟨ks,s _ _ h8,h9.ts (Same.ts s)⟩⟩
theorem mO{T a:Addr}{H H':Hp}{xs:List V}{q:Str}{pos:Pos}(h:SqL K H a xs)(s:SameT T H H')(tab:aP q T pos H):SqL K H' a xs:=by
 obtain⟨ps,t1,_⟩:=tab;rcases h with(h|⟨o,h⟩)|h
 ·exact .inl (.inl (s _ _ h fun z=>by rw[z,t1]at h;cases h))
 ·exact .inl (.inr ⟨o,s _ _ h fun z=>by rw[z,t1]at h;cases h⟩)
 ·exact .inr h
theorem S24.sameT{T C:Addr}{H H':Hp}{a x d g mm L t n nl:Addr}{sc:List Int}{sts:List Addr}{ol:Ol}{out:List DI}{q:Str}{pos:Pos}(h:S24 K C H a x d g mm L t n nl sc sts ol out)(s:SameT T H H')(tab:aP q T pos H):S24 K C H' a x d g mm L t n nl sc sts ol out:=by have ts:=iX s tab;obtain⟨ps,t1,_⟩:=id tab;obtain⟨h1,h2,⟨mvs,h3,h4⟩,⟨h5,h6⟩,h7,⟨ks,h8,h9⟩⟩:=h;exact⟨mO h1 s tab,h2.sameT s tab,⟨mvs,s _ _ h3 (fun z=>by rw[z,t1]at h3;cases h3),h4.ts ts⟩,⟨s _ _ h5 (fun z=>by rw[z,t1]at h5;cases h5),h6.ts ts⟩,h7.sameT s tab,⟨ks,s _ _ h8 (fun z=>by rw[z,t1]at h8;cases h8),h9.ts ts⟩⟩
abbrev hW:Stmt:=top 33
abbrev wY:List Str:=["_law_script","_law_many","_law_steps","_law_plain","_law_mine","_law_step","_law_before","_law_names","_law_cell","_law_due_here","_law_late"]
theorem bJ:FnScope wY ["_law_script"] (am hW):=⟨rfl,rfl,rfl,by decide +kernel,rfl,by decide +kernel,by decide +kernel⟩
theorem Az{f C T cT cN cB cF:Addr}{fd:FuncData}(F:Fun K "law" "law" hW f fd)(F_cell_at:Fn P w K mg base 1 "_law_cell_at" ["_law_script","_law_k"] (pk K))(F_started:Fn P w K mg base 2 "_law_started" ["_law_script","_law_many"] (mM K))(F_all:Fn P w K mg base 8 "_law_all" ["_law_plain"] (xA C T))(F_drawn:Fn P w K mg base 2 "_law_drawn" ["_law_cell","_law_names","_law_mine"] qL)(F_due:Fn P w K mg base 2 "_law_due" ["_law_step","_law_mine"] qM)(F_refusal:Fn P w K mg base 5 "_law_refusal" ["_law_plain","_law_step"] (jq C))(F_lets_by:Fn P w K mg base 5 "lets_by" ["steps"] (uN C))(Mk_Plain:MkFn P w K mg base 1 C "Plain" ["self"] (pz C))(MX_step:MFnX P w K mg base 4 C "step" ["self","step"] (iZ C cT cN cB cF))(M_item:MFn P w K mg base 1 C "item" ["self","name"] (pA C))(M_names:MFn P w K mg base 1 C "names" ["self"] (md C))(z_list:mg "list" = none):FnOk P w K mg base CX0 9 f fd ["_law_script"] (kW K T):=by
 refine F.okQ bJ (fun vs H Q E h=>?_) (fun cdv A outer s H vs Q E hr h=>?_)
 ·obtain⟨a,ns,rfl,_⟩:=h;rfl
 obtain⟨a,sc,rfl,hS,hlen,hT,hq⟩:=h;have fH:cn (CXr P w) (cK CX0 P w K mg base wY "law" (am hW) f cdv A outer s H E).nox E0:=Cz;refine⟨_,(b_c (ay (i:=1) bJ.nd (aD bQ (cQ F_cell_at (hr.mono (by decide)) (q_a (q_v 0) (q_a ah aj))) ah))
   (b_c (ay (i:=2) bJ.nd (cQ F_started (hr.mono (by decide)) (q_a (q_v 0) (q_a (q_v 1) aj))))
   (b_c (ay (i:=3) bJ.nd (qC Mk_Plain (hr.mono (by decide))))
   (b_c (ay (i:=4) bJ.nd sq)
   (b_c (fJ Yo rfl (eV (q_v 2)) (bH (i:=5) bJ.nd) (b_c (cR (fZ MX_step fH (hr.mono (by decide)) (q_v 3) (q_a (q_v 5) aj)))
   (b_1 (uI hr.units (q_v 4) (aB ax (q_v 5) ah) (aD uf (jH kn (q_v 5) (iC ah) lQ) (au (q_a cC (q_a bg (q_a cC aj)))))))))
   (b_c (ay (i:=6) bJ.nd (cQ F_all (hr.mono (by decide)) (q_a (q_v 3) aj)))
   (b_c (ay (i:=7) bJ.nd (wq (pR rfl) z_list mj (q_a (q_v 4) aj)))
   (b_c (fJ Yo rfl (eV (jH tR (q_v 0) (iC ah) (iC ah))) (bH (i:=8) bJ.nd) (b_c (ay (i:=5) bJ.nd (cQ F_drawn (hr.mono (by decide)) (q_a (q_v 8) (q_a (q_v 7) (q_a (q_v 4) aj)))))
   (b_c (ay (i:=9) bJ.nd (cQ F_due (hr.mono (by decide)) (q_a (q_v 5) (q_a (q_v 4) aj))))
   (b_c (fu (aL (aw bC (aB ax (q_v 9) ah) aq) (b_c (ay (i:=5) bJ.nd (au (q_a aq (q_a (au (q_a ah (q_a (aD eE ah ah) aj))) (q_a (au (q_a ah (q_a (aD eC (aD eE ah ah) ah) aj))) (q_a (au (q_a ah aj)) (q_a aq aj)))))))
   (b_1 (ay (i:=9) bJ.nd (au (q_a aq (q_a (au (q_a ah (q_a (aD eC (aD eE ah ah) ah) aj))) aj)))))) b_0))
   (b_c (aL (t_w (jM (aw (kJ hr.units) (cQ F_refusal (hr.mono (by decide)) (q_a (q_v 3) (q_a (q_v 5) aj))) (q_v 9)) (ik (aw (kJ hr.units) (cQ F_all (hr.mono (by decide)) (q_a (q_v 3) aj)) (q_v 6))))) (b_1 (aH cC)) b_0)
   (b_1 (aL (t_w (jM (aw ug (cQ F_lets_by (hr.mono (by decide)) (q_a (aD nC (q_v 2) (bf (q_a (q_v 5) aj))) aj)) cC) (ik (aw ug (cQ F_lets_by (hr.mono (by decide)) (q_a (q_v 2) aj)) cC)))) (b_1 (aH cC)) b_0)))))))
   (b_c (ay (i:=10) bJ.nd (au (q_a ah (q_a (aD eC (aD eE ah ah) ah) aj))))
   (b_c (cR (fZ MX_step fH (hr.mono (by decide)) (q_v 3) (q_a (au (q_a aq (q_a (q_v 10) (q_a bg (q_a (au (q_a ah aj)) (q_a aq aj)))))) aj)))
   (b_c (aL (t_w (jM (aw (kJ hr.units) (aB ax (q_v 6) ah) (q_v 7)) (ik (aw (kJ hr.units) (fY M_names (hr.mono (by decide)) (q_v 3)) (aD nC (q_v 7) (bf (q_a (q_v 10) aj))))))) (b_1 (aH cC)) b_0)
   (b_1 (aH (CI (sj xj (fZ MX_step fH (hr.mono (by decide)) (q_v 3) (q_a (au (q_a aq (q_a (au (q_a ah (q_a (aD eE ah ah) aj))) (q_a (q_v 10) (q_a (au (q_a ah aj)) (q_a aq aj)))))) aj)) bg) (CK (sj (xi hr.units) (aB ax (iB M_item (hr.mono (by decide)) (q_v 3) (q_a (au (q_a ah (q_a (aD eE ah ah) aj))) aj)) ah) (q_v 10))))))))))))))))),?_⟩
 try rw[cxK]
 refine⟨_,rfl,a,sc,0,rfl,hS,by decide,_,_,rfl,rfl,(by show(0:Int)<9;decide),?_⟩;have m0:=YR (dL sc (0:Int).toNat) (show(9:Int)≠0 by decide);have m1:=Yy (dL sc (0:Int).toNat) (show(0:Int)<9 by decide);dsimp only;generalize dL sc (0:Int).toNat%9=mz at m0 m1 ⊢;obtain⟨m,rfl⟩:=Int.eq_ofNat_of_zero_le m0;refine⟨_,rfl,_,rfl,a,sc,m,rfl,hS,by omega,fun L sts ol H1 s1 gL eL pa gd=>?_⟩;intro x dx nx ndx nex;refine⟨x,dx,rfl,ad,fun d g H2 fd0 fg0 S1 kp1=>⟨rfl,?_⟩⟩;have s00:Same H1 (upd (upd H1 dx (.own x)) x (.ins C dx [])):=fun b o e=>by rw[af (ai e nx),af (ai e ndx)];exact e
 have hd0:H1 d=none:=s00.free fd0;have s12:Same H1 H2:=fun b o e=>kp1 b o (by rw[af (ai e nx),af (ai e ndx)];exact e) (ai e nx);intro mm gmm;have w3:=ag gmm (.dT []);have emm:upd H2 mm (.dT []) mm=some (.dT []):=ad;have S3:=S1.same w3;have s13:=s12.trans w3;have hmm0:H1 mm=none:=s12.free gmm;have ndm:d≠mm:=fun z=>by have:=S1.dc;rw[z,gmm]at this;cases this
 have ngm:g≠mm:=fun z=>by have:=S1.gc;rw[z,gmm]at this;cases this
 generalize upd H2 mm (.dT [])=H3 at emm S3 s13 w3 ⊢;have ne2:∀{b:Addr} {o:HO},H1 b=some o->b≠d/\b≠mm:=fun e=>⟨ai e hd0,ai e hmm0⟩
 have le:=gd.le;have lp:=ZI pa;refine⟨_,rfl,L,rfl,⟨_,SqL.of (s13 _ _ eL)⟩,?_⟩;refine ir (xs:=sts.map V.ref) (fun i σ H'=>K2 d mm H3 H'/\i<=ol.length/\OlAt C H' x d g (ol.take i)/\(∃mvs,H' mm=some (.dT mvs)/\Rows H' mvs (ol.take i))/\∃o5,σ=[some (.ref a),some (.int (m:Int)),some (.ref L),some (.ref x),some (.ref mm),o5,none,none,none,none,none]) ⟨(fun _ _ z _ _=>z),Z7 _,by rw[List.take_zero];exact⟨[],S3,.nil⟩,⟨[],emm,.nil⟩,none,rfl⟩ (fun i σ H' _ v=>SqL.of (v.1 _ _ (s13 _ _ eL) (ne2 eL).1 (ne2 eL).2)) ?_ ?_
 ·rintro i v σ H' hv ⟨k2,hi,O,⟨mvs,hmm,Rm⟩,o5,rfl⟩ D' kD;have sH:Same H1 H':=fun b o e=>k2 _ _ (s13 _ _ e) (ne2 e).1 (ne2 e).2;rw[ZA]at hv;obtain⟨st,hst,rfl⟩:=ZC.mp hv;obtain⟨y,hy,sy⟩:=jF pa hst;have hil:=(Zt.mp hst).1;obtain⟨kvs,S,_⟩:=id O;obtain⟨⟨dx2,h1⟩,h2,_⟩:=id S;have sy':=sy.ts (Same.ts sH);refine⟨_,rfl,x,dx2,_,rfl,h1,cO _ _,_,rfl,x,d,g,st,ol.take i,kP y,.ok,rfl,O,by rw[ZS];omega,sy',nz gd i,tI gd hy,(fun z=>by cases z),(fun n z=>by cases z),(fun z=>by cases z),(fun z=>by cases z),fun _=>⟨_,_,_,_,rfl,fun H4 b4 O4=>?_⟩⟩;rw[jZ gd hy]at O4;have ts4:TS H' H4:=fun b zs e=>b4 _ _ e fun z=>by rw[z,h2]at e;cases e
  obtain⟨nv,uv,pv,f1,f2,f3,f4⟩:=sy'.ts ts4;obtain⟨nb,rfl,hnb⟩:=id f2;have hmm4:=b4 _ _ hmm (ZN ndm);refine⟨_,rfl,_,rfl,st,_,rfl,f1,fun t1 H5 s5 e5=>?_⟩;refine⟨sz rfl,fun t2 g2=>?_⟩;have w2:=ag g2 (.tup [.bl false,.non,.bl false]);refine⟨t1,t2,_,_,rfl,rfl,w2 _ _ e5,ad,sz rfl,fun t3 H6 s6 e6=>?_⟩;have s46:Same H4 H6:=s5.trans (w2.trans s6);refine⟨_,rfl,vix rfl (SqT.of (s46 _ _ f1)) at1 ⟨mm,_,rfl,DPut.t (k:=nk y.1) (s46 _ _ hmm4) (s46 _ _ hnb) (fK (by have:=oW Rm;rw[ZS]at this;omega)),?_⟩⟩;have t7:=Cd (kvs':=bD mvs (nk y.1) (.ref t3)) (s46 _ _ hmm4);have up7:∀b o,H6 b=some o->b≠mm->upd H6 mm (.dT (bD mvs (nk y.1) (.ref t3))) b=some o:=fun b o e hb=>by rw[af hb];exact e
  have tall:TS H4 (upd H6 mm (.dT (bD mvs (nk y.1) (.ref t3)))):=fun b zs e=>t7 _ _ (s46 _ _ e);obtain⟨kvs',⟨⟨dxx,q1⟩,q2,q3,q4⟩,q5⟩:=O4;have q1:=s46 _ _ q1;have m6:=s46 _ _ hmm4;refine kD _ _ ⟨fun b o e a1 a2=>up7 _ _ (s46 _ _ (b4 _ _ (k2 b o e a1 a2) a1)) a2,by omega,⟨kvs',⟨⟨dxx,up7 _ _ q1 (hJ q1 m6 (by intro z;cases z))⟩,up7 _ _ (s46 _ _ q2) ndm,up7 _ _ (s46 _ _ q3) ngm,q4⟩,q5.ts tall⟩,⟨_,ad,?_⟩,_,rfl⟩;rw[<-jZ gd hy];exact oX ((Rm.ts ts4).ts tall) ⟨t3,uv,pv,rfl,t7 _ _ e6,f3.ts tall,f4.ts tall⟩
 rintro σ H4 ⟨k2,_,O,⟨mvs,hmm,Rm⟩,o5,rfl⟩;rw[Zu,lp,ZD (Zd _)]at O Rm;have s14:Same H1 H4:=fun b o e=>k2 _ _ (s13 _ _ e) (ne2 e).1 (ne2 e).2;have nd:=gd.nd;have te:Ter ol:=by have:=zW gd ol.length (Zd _);rw[ZD (Zd _)]at this;exact this
 have tx:TxB ol:=by have:=nz gd ol.length;rw[ZD (Zd _)]at this;exact this
 obtain⟨B,tb⟩:=zj nd te;have tab0:aP dU T (eZ dB) H4:=⟨#[],s14 _ _ (s1 _ _ hT),trivial,.inl rfl⟩
 refine⟨_,rfl,x,d,g,ol,B,rfl,O,by omega,nd,tb,tab0,fun tt n out H5 s5 tab5 oo al=>?_⟩;have outm:∀y∈out,PyData.strOk y.2.2.tx=true:=fun y hy=>by obtain⟨M,k,pe,_,df⟩:=oo;exact gd.sk _ (wQ pe df y hy)
 have ts5:=iX s5 tab0;have nT5:∀{b:Addr} {o:HO},H4 b=some o->(∀ps,o≠.tbl ps)->H5 b=some o:=fun e ne=>s5 _ _ e fun z=>by obtain⟨ps,t1,_⟩:=tab0;rw[z,t1]at e;exact ne ps (Zi e).symm
 refine⟨_,rfl,mm,mvs,rfl,Rd.of (nT5 hmm (fun ps z=>by cases z)),fun nl ks gl kat=>?_⟩;have wl:=ag gl (.lst ks);have R5:=Rm.ts ts5;have st6:S24 K C (upd H5 nl (.lst ks)) a x d g mm L tt n nl sc sts ol out:=⟨wl.seq (mO (s14.seq (s1.seq hS)) s5 tab0),(O.sameT s5 tab0).same wl,⟨mvs,wl _ _ (nT5 hmm (fun ps z=>by cases z)),R5.ts (Same.ts wl)⟩,⟨wl _ _ (nT5 (s14 _ _ eL) (fun ps z=>by cases z)),(pa.ts (Same.ts s14)).ts (fun b zs e=>wl _ _ (ts5 b zs e))⟩,al.same wl,⟨ks,ad,(nB kat R5).ts (Same.ts wl)⟩⟩
 have tab6:=aU tab5 wl;generalize upd H5 nl (.lst ks)=H6 at st6 tab6 ⊢;refine⟨_,rfl,_,rfl,_,rfl,a,_,rfl,st6.S,fun Lc gLc=>?_⟩;obtain⟨cs,ecs⟩:=Cc (ns:=sc);rw[ecs];have w7:=ag gLc (.lst (cs.map V.int));have eLc:upd H6 Lc (.lst (cs.map V.int)) Lc=some (.lst (cs.map V.int)):=ad;have st7:=st6.same w7;have tab7:=aU tab6 w7;generalize upd H6 Lc (.lst (cs.map V.int))=H7 at eLc st7 tab7 ⊢;refine⟨Lc,rfl,⟨_,SqL.of eLc⟩,?_⟩;refine ir (xs:=cs.map V.int) (fun i σ H'=>H' Lc=some (.lst (cs.map V.int))/\S24 K C H' a x d g mm L tt n nl sc sts ol out/\aP dU T (eZ dB) H'/\∃o5 o8 o9,σ=[some (.ref a),some (.int (m:Int)),some (.ref L),some (.ref x),some (.ref mm),o5,some (.ref tt),some (.ref nl),o8,o9,none]) ⟨eLc,st7,tab7,_,_,_,rfl⟩ (fun i σ H' _ v=>SqL.of v.1) ?_ ?_
 ·rintro i v σ H' hv ⟨eLc',st,tab,o5,o8,o9,rfl⟩ D' kD;rw[ZA]at hv;obtain⟨c,_,rfl⟩:=ZC.mp hv;obtain⟨mvs',hm',R'⟩:=id st.m;obtain⟨ks',hk',ka'⟩:=id st.k;refine⟨_,rfl,_,rfl,_,rfl,c,nl,mm,ks',mvs',ol,rfl,hk',ka',hm',R',tx,fun sA sd Ha sa hsa=>?_⟩;refine⟨_,rfl,_,rfl,sA,mm,mvs',ol,sd,rfl,hsa,sa _ _ hm',R'.ts (Same.ts sa),te,tx,fun tA o Hb sb du oa=>?_⟩;have sab:=sa.trans sb;refine⟨fun σ' Hc=>Same H' Hc/\∃(sA tA:Addr) (sd:Sd) (o:Out),StAt Hc sA sd/\Due ol sd o/\o≠.ok/\OutAt Hc tA o/\σ'=[some (.ref a),some (.int (m:Int)),some (.ref L),some (.ref x),some (.ref mm),some (.ref sA),some (.ref tt),some (.ref nl),some (.int c),some (.ref tA),none],?_,?_⟩
  ·cases o with
   |ok =>
    have oa:Hb tA=some (.tup [.str "taken anew",.non]):=oa;refine(vix rfl (SqT.of oa) at0 ⟨rfl,_,rfl,oB ?_⟩);refine⟨_,_,rfl,rfl,⟨by decide,by decide,by decide⟩,sz rfl,fun t1 g1=>⟨_,_,rfl,rfl,⟨by decide,by decide,by decide⟩,_,_,rfl,rfl,sz rfl,fun t2 g2=>⟨sz rfl,fun t3 g3=>⟨sz rfl,fun t4 g4=>?_⟩⟩⟩⟩;refine⟨_,_,rfl,rfl,⟨by decide,by decide,by decide⟩,_,_,rfl,rfl,sz rfl,fun t5 g5=>⟨sz rfl,fun t6 g6=>?_⟩⟩;have v1:=ag g1 (.tup [.int 7,.int (10^(12:Int).toNat)]);have v2:=ag g2 (.tup [.int 7,.int (10^(12:Int).toNat+1)]);have v3:=ag g3 (.tup [.int 0]);have v4:=ag g4 (.tup [.str "put",.ref t1,.ref t2,.ref t3,.str "new"]);have v5:=ag g5 (.tup [.int 7,.int (10^(12:Int).toNat+1)]);have v6:=ag g6 (.tup [.str "none",.ref t5]);have v56:=v5.trans v6;have l1:look ol ((7,10^(12:Int).toNat):Nm)=none:=jY gd (by show(10:Int)^11<=10^(12:Int).toNat;decide);have l2:look ol ((7,10^(12:Int).toNat+1):Nm)=none:=jY gd (by show(10:Int)^11<=10^(12:Int).toNat+1;decide);refine⟨sab.trans (v1.trans (v2.trans (v3.trans (v4.trans v56)))),t4,t6,.put (7,10^(12:Int).toNat) (some (7,10^(12:Int).toNat+1)) [0] "new",.none (7,10^(12:Int).toNat+1),⟨.ref t1,.ref t2,.ref t3,v56 _ _ ad,⟨t1,rfl,(v2.trans (v3.trans (v4.trans v56))) _ _ ad⟩,⟨t2,rfl,(v3.trans (v4.trans v56)) _ _ ad⟩,t3,rfl,(v4.trans v56) _ _ ad⟩,.none _ (fun y hy=>?_) ?_,(by intro z;cases z),⟨.ref t5,ad,t5,rfl,v6 _ _ ad⟩,rfl⟩
    ·obtain rfl:y=(7,10^(12:Int).toNat):=by simpa[Sd.news]using hy
     exact l1
    ·show List.find? _ [((7,10^(12:Int).toNat+1):Nm)]=_;rw[YM];unfold cV;rw[l2];rfl
   |taken =>have oa':Hb tA=some (.tup [.str "taken",.non]):=oa;refine(vix rfl (SqT.of oa') at0 ⟨rfl,_,rfl,bR (by decide +kernel) ?_⟩);exact⟨sab,sA,tA,sd,_,hsa.ts (Same.ts sb),du,(by intro z;cases z),oa,rfl⟩
   |none y =>obtain⟨v,oa',hv⟩:=id oa;refine(vix rfl (SqT.of oa') at0 ⟨rfl,_,rfl,bR (by decide +kernel) ?_⟩);exact⟨sab,sA,tA,sd,_,hsa.ts (Same.ts sb),du,(by intro z;cases z),oa,rfl⟩
   |beneath =>have oa':Hb tA=some (.tup [.str "beneath",.non]):=oa;refine(vix rfl (SqT.of oa') at0 ⟨rfl,_,rfl,bR (by decide +kernel) ?_⟩);exact⟨sab,sA,tA,sd,_,hsa.ts (Same.ts sb),du,(by intro z;cases z),oa,rfl⟩
   |far =>have oa':Hb tA=some (.tup [.str "far",.non]):=oa;refine(vix rfl (SqT.of oa') at0 ⟨rfl,_,rfl,bR (by decide +kernel) ?_⟩);exact⟨sab,sA,tA,sd,_,hsa.ts (Same.ts sb),du,(by intro z;cases z),oa,rfl⟩
  clear du oa hsa sab sb sa o tA sd sA Ha Hb;rintro σ' Hc ⟨sc',sA,tA,sd,o,hsa,du,nok,oa,rfl⟩;have stc:=st.same sc';have tabc:=aU tab sc';have eLcc:=sc' _ _ eLc';refine⟨_,rfl,_,rfl,x,d,g,sA,ol,sd,o,rfl,stc.O,by omega,hsa,tx,du,nok,fun t2 Hd sd' oa2=>?_⟩;obtain⟨d1,sh1,eq1⟩:=uu oa2;obtain⟨d2,sh2,_⟩:=uu (oa.same sd');refine⟨_,rfl,dE o,dE o,d1,d2,sh1,sh2,_,rfl,?_⟩;rw[eq1];refine aA ?_;have std:=stc.same sd';have tabd:=aU tabc sd';refine⟨_,rfl,x,d,g,ol,B,rfl,std.O,by omega,nd,tb,tabd,fun t3 n3 out3 He se tabe oo3 al3=>?_⟩;obtain rfl:=yr nd oo oo3;have ste:=std.sameT se tabd;obtain⟨e1,sh3,eq3⟩:=sS al3 gd.sk outm;obtain⟨e2,sh4,_⟩:=sS ste.b gd.sk outm;refine⟨_,rfl,fM ol out,fM ol out,e1,e2,sh3,sh4,_,rfl,?_⟩;rw[eq3];refine aA ?_;have tse:=iX se tabd;have hsae:=(hsa.ts (Same.ts sd')).ts tse;have eLce:He Lc=some (.lst (cs.map V.int)):=se _ _ (sd' _ _ eLcc) fun z=>by obtain⟨ps,t1,_⟩:=tabd;have:=sd' _ _ eLcc;rw[z,t1]at this;cases this
  obtain⟨hL',pa'⟩:=id ste.l;refine⟨_,rfl,_,rfl,sz rfl,fun l1 g1=>?_⟩;have v1:=ag g1 (.lst [.ref sA]);refine⟨L,l1,_,_,rfl,rfl,v1 _ _ hL',ad,cU (by rw[Zu];show sts.length+1<=1000;omega),fun l2 g2=>?_⟩;have v2:=ag g2 (.lst (sts.map V.ref++[.ref sA]));have v12:=v1.trans v2;refine⟨l2,sts,ol,some (sA,sd,o),rfl,by rw[ad,ZU];rfl,pa'.ts (Same.ts v12),gd,fun e he=>?_,fun Hf sf=>?_⟩
  ·cases he;exact⟨hsae.ts (Same.ts v12),du,nok⟩
  refine⟨_,_,rfl,rfl,_,rfl,aA ?_⟩;have vf:=v12.trans sf;refine⟨_,rfl,L,sts,ol,none,rfl,by rw[vf _ _ hL'];simp,pa'.ts (Same.ts vf),gd,(fun e he=>by cases he),fun Hg sg=>?_⟩;refine⟨_,_,rfl,rfl,_,rfl,aA ?_⟩;have vg:=vf.trans sg;exact kD _ _ ⟨vg _ _ eLce,ste.same vg,aU tabe vg,_,_,_,rfl⟩
 ·rintro σ H8 ⟨eLc',st,tab,o5,o8,o9,rfl⟩;refine⟨_,_,rfl,rfl,⟨by decide,by decide,by decide⟩,_,_,rfl,rfl,sz rfl,fun tl gl'=>?_⟩;have w1:=ag gl' (.tup [.int 7,.int (10^(12:Int).toNat+1)]);have etl:upd H8 tl (.tup [.int 7,.int (10^(12:Int).toNat+1)]) tl=some (.tup [.int 7,.int (10^(12:Int).toNat+1)]):=ad;have st1:=st.same w1;generalize upd H8 tl (.tup [.int 7,.int (10^(12:Int).toNat+1)])=H9 at etl st1 ⊢;obtain⟨kvs1,P1,R1⟩:=id st1.O;obtain⟨⟨dx1,hx1⟩,_⟩:=id P1;have l2:look ol ((7,10^(12:Int).toNat+1):Nm)=none:=jY gd (by show(10:Int)^11<=10^(12:Int).toNat+1;decide);have l1:look ol ((7,10^(12:Int).toNat):Nm)=none:=jY gd (by show(10:Int)^11<=10^(12:Int).toNat;decide);refine⟨_,rfl,x,dx1,_,rfl,hx1,cO _ _,_,rfl,sz rfl,fun t3 g3=>⟨sz rfl,fun t4 g4=>?_⟩⟩;have v3:=ag g3 (.tup [.int 0]);have v4:=ag g4 (.tup [.str "put",.ref tl,.non,.ref t3,.str ""]);have v34:=v3.trans v4;have hst4:StAt (upd (upd H9 t3 (.tup [.int 0])) t4 (.tup [.str "put",.ref tl,.non,.ref t3,.str ""])) t4 (.put (7,10^(12:Int).toNat+1) none [0] ""):=⟨.ref tl,.non,.ref t3,ad,⟨tl,rfl,v34 _ _ etl⟩,rfl,t3,rfl,v4 _ _ ad⟩
  have st2:=st1.same v34;have etl2:=v34 _ _ etl;generalize upd (upd H9 t3 (.tup [.int 0])) t4 (.tup [.str "put",.ref tl,.non,.ref t3,.str ""])=Ha at hst4 st2 etl2 ⊢;refine⟨x,d,g,t4,ol,.put (7,10^(12:Int).toNat+1) none [0] "",.ok,rfl,st2.O,by omega,hst4,tx,.bd none (fun y hy=>?_) (fun y hy=>by simp[Sd.items]at hy) .put,(fun z=>by cases z),(fun n z=>by cases z),(fun z=>by cases z),(fun z=>by cases z),fun _=>⟨_,_,_,_,rfl,fun Hb bb Ob=>?_⟩⟩
  ·obtain rfl:y=(7,10^(12:Int).toNat+1):=by simpa[Sd.news]using hy
   exact l2
  have dk:∃kv,Ha d=some (.dT kv):=by obtain⟨kv,P',_⟩:=st2.O;exact⟨kv,P'.dc⟩
  obtain⟨kvd,hkd⟩:=dk;have tsb:TS Ha Hb:=fun b zs e=>bb _ _ e fun z=>by rw[z,hkd]at e;cases e
  have kl:∀{b:Addr} {xs:List V},Ha b=some (.lst xs)->Hb b=some (.lst xs):=fun e=>bb _ _ e fun z=>by rw[z,hkd]at e;cases e
  obtain⟨⟨i1,r1,is1,rs1,b1,_⟩,⟨ks1,b6,b7⟩⟩:=id st2.b;obtain⟨ks2,k1,k2'⟩:=id st2.k;obtain⟨d1,sh1,eq1⟩:=dh (kl b6) (gU (b7.ts tsb));obtain⟨d2,sh2,_⟩:=dh (kl k1) (gU (k2'.ts tsb));refine(vix rfl (SqT.of (tsb _ _ b1)) at0 ⟨_,rfl,cM _,cM _,d1,d2,sh1,sh2,_,rfl,?_⟩);rw[eq1];refine aA ?_;obtain⟨kvs2,P2,R2⟩:=id Ob;obtain⟨⟨dx2,hx2⟩,_⟩:=id P2;have es:dH ol ((7,10^(12:Int).toNat+1):Nm) (hM none [0] "")=ol++[((7,10^(12:Int).toNat+1),hM none [0] "")]:=by unfold dH;rw[l2,if_neg (by simp)]
  refine⟨_,rfl,x,dx2,_,rfl,hx2,cO _ _,x,d,g,kvs2,[],rfl,P2,fun l ks3 gl3 kat3=>?_⟩;have wl3:=ag gl3 (.lst ks3);have el3:upd Hb l (.lst ks3) l=some (.lst ks3):=ad;have ka3:=gU ((nB kat3 R2).ts (Same.ts wl3));have kb1:=wl3 _ _ (kl k1);have kb2:=gU ((k2'.ts tsb).ts (Same.ts wl3));have etl3:=wl3 _ _ (tsb _ _ etl2);have O3:=Ob.same wl3;generalize upd Hb l (.lst ks3)=Hc at el3 ka3 kb1 kb2 etl3 O3 ⊢;rw[es,ZU]at ka3;have ka3:AbAt Hc (ol.map (·.1)++[((7,10^(12:Int).toNat+1):Nm)]) ks3:=ka3;refine⟨_,rfl,_,rfl,sz rfl,fun l4 g4=>?_⟩;have v4':=ag g4 (.lst [.ref tl]);have lk2:=ZI k2';refine⟨nl,l4,_,_,rfl,rfl,v4' _ _ kb1,ad,cU (by show ks2.length+1<=1000;omega),fun l5 g5=>?_⟩;have v5:=ag g5 (.lst (ks2++[.ref tl]));have v45:=v4'.trans v5;obtain⟨d3,sh3,eq3⟩:=dh (v45 _ _ el3) (AbAt.ts ka3 (Same.ts v45));obtain⟨d4,sh4,_⟩:=dh (l:=l5) (ns:=ol.map (·.1)++[((7,10^(12:Int).toNat+1):Nm)]) (ks:=ks2++[.ref tl]) (H:=upd (upd Hc l4 (.lst [.ref tl])) l5 (.lst (ks2++[.ref tl]))) ad (dF (AbAt.ts kb2 (Same.ts v45)) (.cons ⟨tl,rfl,v45 _ _ etl3⟩ .nil));refine⟨cM _,cM _,d3,d4,sh3,sh4,_,rfl,?_⟩;rw[eq3];refine aA ?_;have O4:=O3.same v45;have etl4:=v45 _ _ etl3;generalize upd (upd Hc l4 (.lst [.ref tl])) l5 (.lst (ks2++[.ref tl]))=Hd at O4 etl4 ⊢;obtain⟨kvs4,P4,R4⟩:=id O4;obtain⟨⟨dx4,hx4⟩,_⟩:=id P4;refine⟨_,rfl,x,dx4,_,rfl,hx4,cO _ _,_,_,rfl,rfl,⟨by decide,by decide,by decide⟩,sz rfl,fun t5 g5'=>⟨_,rfl,sz rfl,fun t6 g6=>⟨sz rfl,fun t7 g7=>?_⟩⟩⟩;have v5':=ag g5' (.tup [.int 7,.int (10^(12:Int).toNat)]);have v6:=ag g6 (.tup [.int 0]);have v7:=ag g7 (.tup [.str "put",.ref t5,.ref tl,.ref t6,.str "new"]);have v67:=v6.trans v7;have v57:=v5'.trans v67;refine⟨x,d,g,t7,_,.put (7,10^(12:Int).toNat) (some (7,10^(12:Int).toNat+1)) [0] "new",.ok,rfl,O4.same v57,by rw[es,Zg];show ol.length+1<=300;omega,⟨.ref t5,.ref tl,.ref t6,ad,⟨t5,rfl,v67 _ _ ad⟩,⟨tl,rfl,v57 _ _ etl4⟩,t6,rfl,v7 _ _ ad⟩,fun y it hy=>?_,.bd none (fun y hy=>?_) (fun y hy=>?_) .put,(fun z=>by cases z),(fun n z=>by cases z),(fun z=>by cases z),(fun z=>by cases z),fun _=>⟨_,_,_,_,rfl,fun He be Oe=>?_⟩⟩
  ·rw[cX]at hy;by_cases c:y=(7,10^(12:Int).toNat+1)
   ·rw[if_pos c]at hy;cases hy;decide +kernel
   ·rw[if_neg c]at hy;exact tx y it hy
  ·obtain rfl:y=(7,10^(12:Int).toNat):=by simpa[Sd.news]using hy
   rw[cX,if_neg (by intro z;injection z with _ z;exact absurd z (by decide))];exact l1
  ·obtain rfl:y=(7,10^(12:Int).toNat+1):=by simpa[Sd.items]using hy
   rw[cX,if_pos rfl];rfl
  refine⟨rfl,_,rfl,bw ?_⟩;obtain⟨kvs5,P5,R5⟩:=id Oe;obtain⟨⟨dx5,hx5⟩,_⟩:=id P5;obtain⟨iv,f1,ia,uv,pv,rfl,f2,f3,f4⟩:=aT R5 (n:=((7,10^(12:Int).toNat):Nm)) (it:=hM (some (7,10^(12:Int).toNat+1)) [0] "new") (by rw[cX,if_pos rfl]);refine⟨_,rfl,x,dx5,_,rfl,hx5,cO _ _,_,_,rfl,rfl,⟨by decide,by decide,by decide⟩,sz rfl,fun t8 g8=>?_⟩;have v8:=ag g8 (.tup [.int 7,.int (10^(12:Int).toNat)]);refine⟨x,d,g,kvs5,[],.ref t8,.ref ia,nk (7,10^(12:Int).toNat),rfl,P5.same v8,⟨t8,rfl,ad⟩,f1,?_⟩;have etl5:He tl=some (.tup [.int 7,.int (10^(12:Int).toNat+1)]):=be _ _ (v57 _ _ etl4) (hJ (v57 _ _ etl4) (v57 _ _ P4.dc) (by intro z;cases z));obtain⟨u1,u2,u3⟩:=lg (u:=some ((7,10^(12:Int).toNat+1):Nm)) (f3.ts (Same.ts v8));obtain⟨u4,u5,u6⟩:=lg (H:=upd He t8 (.tup [.int 7,.int (10^(12:Int).toNat)])) (v:=.ref tl) (u:=some ((7,10^(12:Int).toNat+1):Nm)) ⟨tl,rfl,v8 _ _ etl5⟩;refine⟨ia,_,_,_,rfl,rfl,SqT.of (v8 _ _ f2),at0,_,rfl,_,_,u1,u4,cD u2 (by omega),cD u5 (by omega),?_⟩;rw[BW,decide_eq_true rfl];exact hq _
end
def ju:Nat->(List Value->Prop)->Prop
 |0,p=>p []
 |n+1,p=>∀a,ju n fun us=>p (a::us)
theorem eK:∀{n:Nat} {p:List Value->Prop},ju n p->∀us:List Value,us.length=n->p us
 |0,_,h,[],_=>h
 |_+1,_,h,a::us,e=>eK (h a) us (Nat.succ.inj e)
section
variable{P:Program}{w:World}{K:PySem.W.Frag}{mg:Str->Option Value}{base h:Heap}{n m x q:Str}{st:Stmt}{C f:Addr}{k:Nat}{ps:List Str}{sp:Sp}{bm:List Value}
structure Bx(P:Program)(w:World)(K:PySem.W.Frag)(mg:Str->Option Value)(base h:Heap):Prop where
 X:K.In h
 G:h.Ns mainGlobals mg
def A1(K:PySem.W.Frag)(n:Str)(st:Stmt)(f:Addr):Prop:=PySem.W.nsIn K mainGlobals n=some (some (.ref f))/\∃fd,Fun K n n st f fd
def A2(K:PySem.W.Frag)(C:Addr)(m q:Str)(st:Stmt)(f:Addr):Prop:=PySem.W.findIn K (.ref C) m=some (some (.ref f))/\PySem.W.isFn K (.ref f)=true/\∃fd,Fun K m q st f fd
def AF(K:PySem.W.Frag):List (Str×Stmt×Addr)->Prop
 | []=>True
 |(n,st,f)::l=>A1 K n st f/\AF K l
def AM(K:PySem.W.Frag):List (Addr×Str×Str×Stmt×Addr)->Prop
 | []=>True
 |(C,m,q,st,f)::l=>A2 K C m q st f/\AM K l
def AN(p:Str->Prop):List Str->Prop
 | []=>True
 |n::l=>p n/\AN p l
theorem anI{p p':Str->Prop}(i:∀{n},p n->p' n):∀{l:List Str},AN p l->AN p' l
 | [],_=>True.intro
 |_::_,h=>⟨i h.1,anI i h.2⟩
theorem gf{l:List (Str×Stmt×Addr)}{oc kV dc pm cd ct:Value}{od an:Option Addr}{sl:Array (Option Value)}(a:PySem.W.nsIn K mainGlobals n=some (some (.ref f)))(b:K.lookup f=some ⟨oc,od,.func (PySem.W.fnOf n n (bE st) (aV st) (am st) .none kV dc pm an cd ct),sl⟩)(c:PySem.W.codeIn K cd n=true)(d:PySem.W.keepIn K (.ref f)=true)(r:AF K l):AF K ((n,st,f)::l):=⟨⟨a,_,tH b c d⟩,r⟩
theorem gm{l:List (Addr×Str×Str×Stmt×Addr)}{oc kV dc pm cd ct:Value}{od an:Option Addr}{sl:Array (Option Value)}(a:PySem.W.findIn K (.ref C) m=some (some (.ref f)))(i:PySem.W.isFn K (.ref f)=true)(b:K.lookup f=some ⟨oc,od,.func (PySem.W.fnOf m q (bE st) (aV st) (am st) .none kV dc pm an cd ct),sl⟩)(c:PySem.W.codeIn K cd q=true)(d:PySem.W.keepIn K (.ref f)=true)(r:AM K l):AM K ((C,m,q,st,f)::l):=⟨⟨a,i,_,tH b c d⟩,r⟩
theorem gn{l:List Str}(a:PySem.W.nsIn K mainGlobals n=some none)(r:AN (fun n=>PySem.W.nsIn K mainGlobals n=some none) l):AN (fun n=>PySem.W.nsIn K mainGlobals n=some none) (n::l):=⟨a,r⟩
theorem mkF(B:Bx P w K mg base h)(A:A1 K n st f)(ok:∀{fd},Fun K n n st f fd->FnOk P w K mg base CX0 k f fd ps sp)(hb:∀(kV doc pm:Value) (an:Option Addr) (cdv ct:Value),ju ps.length fun us=>bindArgs (PySem.W.fnOf n n (bE st) (aV st) (am st) .none kV doc pm an cdv ct) ⟨us,[]⟩=pure (ps.zip us):=by(repeat intro _);rfl):Fn P w K mg base k n ps sp:=by obtain⟨a,fd,F⟩:=A;exact⟨f,fd,ok F,ZV B.X B.G a,F.kp,F.binds fun a b c d e g=>eK (hb a b c d e g)⟩
theorem mkM(B:Bx P w K mg base h)(L:Cls K C)(A:A2 K C m q st f)(ok:∀{fd},Fun K m q st f fd->FnOk P w K mg base CX0 k f fd ps sp)(hb:∀(kV doc pm:Value) (an:Option Addr) (cdv ct:Value),ju ps.length fun us=>bindArgs (PySem.W.fnOf m q (bE st) (aV st) (am st) .none kV doc pm an cdv ct) ⟨us,[]⟩=pure (ps.zip us):=by(repeat intro _);rfl):MFn P w K mg base k C m ps sp:=by obtain⟨a,i,fd,F⟩:=A;exact⟨L,f,fd,ok F,⟨a,i,F.kp⟩,F.binds fun a b c d e g=>eK (hb a b c d e g)⟩
theorem mkX(B:Bx P w K mg base h)(L:Cls K C)(A:A2 K C m q st f)(ok:∀{fd},Fun K m q st f fd->FnOk P w K mg base (CXr P w) k f fd ps sp)(hb:∀(kV doc pm:Value) (an:Option Addr) (cdv ct:Value),ju ps.length fun us=>bindArgs (PySem.W.fnOf m q (bE st) (aV st) (am st) .none kV doc pm an cdv ct) ⟨us,[]⟩=pure (ps.zip us):=by(repeat intro _);rfl):MFnX P w K mg base k C m ps sp:=by obtain⟨a,i,fd,F⟩:=A;exact⟨L,f,fd,ok F,⟨a,i,F.kp⟩,F.binds fun a b c d e g=>eK (hb a b c d e g)⟩
theorem mkC(B:Bx P w K mg base h)(L:Cls K C)(g:mg x=some (.ref C))(mk:PySem.W.makesIn K C=true)(kc:PySem.W.keepIn K (.ref C)=true)(A:A2 K C "__init__" q st f)(ok:∀{fd},Fun K "__init__" q st f fd->FnOk P w K mg base CX0 k f fd ps sp)(hb:∀(kV doc pm:Value) (an:Option Addr) (cdv ct:Value),ju ps.length fun us=>bindArgs (PySem.W.fnOf "__init__" q (bE st) (aV st) (am st) .none kV doc pm an cdv ct) ⟨us,[]⟩=pure (ps.zip us):=by(repeat intro _);rfl):MkFn P w K mg base k C x ps sp:=by obtain⟨a,i,fd,F⟩:=A;exact⟨L,g,f,fd,ok F,⟨mk,a,i,kc⟩,F.binds fun a b c d e g=>eK (hb a b c d e g)⟩
theorem mkE(B:Bx P w K mg base h)(e:ExcAtI K C f bm)(A:A2 K C m q st f)(ok:∀{fd},Fun K m q st f fd->FnOk P w K mg base CX0 k f fd ps sp)(hb:∀(kV doc pm:Value) (an:Option Addr) (cdv ct:Value),ju ps.length fun us=>bindArgs (PySem.W.fnOf m q (bE st) (aV st) (am st) .none kV doc pm an cdv ct) ⟨us,[]⟩=pure (ps.zip us):=by(repeat intro _);rfl):ExI P w K mg base k C bm ps sp:=by obtain⟨a,i,fd,F⟩:=A;exact⟨f,fd,e,ok F,F.binds fun a b c d e g=>eK (hb a b c d e g)⟩
end
theorem zL{l:PySem.W.OpenLaw}{w:World}{K:PySem.W.Frag}{h:Heap}{mg:Str->Option Value}{fa f1 f2 f3 f4 f5 f6 f7 f8 f9 f10 f11 f12 m1 m2 m3 m4 m5 m6 m7 m8 m9 m10 m11 m12:Addr}{C_Plain:Addr}(X:K.In h)(G:h.Ns mainGlobals mg)(hfa:mg "law" = some (.ref fa)){tk_TEXT:Tok}{tk_UP:Tok}{tk_PLACE:Tok}{ad_STEP_PARTS:Addr}{c_NoItem c_LimbError c_Taken c_Beneath c_Far c_NoDeed c_Twin c_NoPlace c_NoText c_NoQuestion c_NoRow c0 T:Addr}(h_Plain:PySem.W.nsIn K mainGlobals "Plain" = some (some (.ref C_Plain)))(pg_Plain:PySem.W.plainGet K C_Plain Str.empty=true)(hd_Plain:PySem.W.hasDictIn K C_Plain=true)(po_Plain:PySem.W.plainOver K C_Plain=true)(sa_Plain:PySem.W.findIn K (.ref C_Plain) "__setattr__" = some (some (.builtin "object.__setattr__")))(mk_Plain:PySem.W.makesIn K C_Plain=true)(kc_Plain:PySem.W.keepIn K (.ref C_Plain)=true)(n_Plain_held:PySem.W.findIn K (.ref C_Plain) "held" = some none)(n_Plain_away:PySem.W.findIn K (.ref C_Plain) "away" = some none)(hc_NoItem:PySem.W.nsIn K mainGlobals "NoItem" = some (some (.ref c_NoItem)))(hc_Taken:PySem.W.nsIn K mainGlobals "Taken" = some (some (.ref c_Taken)))(hc_Beneath:PySem.W.nsIn K mainGlobals "Beneath" = some (some (.ref c_Beneath)))(hc_Far:PySem.W.nsIn K mainGlobals "Far" = some (some (.ref c_Far)))(hc_LimbError:PySem.W.nsIn K mainGlobals "LimbError" = some (some (.ref c_LimbError)))(hc_NoDeed:PySem.W.nsIn K mainGlobals "NoDeed" = some (some (.ref c_NoDeed)))(hc_Twin:PySem.W.nsIn K mainGlobals "Twin" = some (some (.ref c_Twin)))(hc_NoPlace:PySem.W.nsIn K mainGlobals "NoPlace" = some (some (.ref c_NoPlace)))(hc_NoText:PySem.W.nsIn K mainGlobals "NoText" = some (some (.ref c_NoText)))(hc_NoQuestion:PySem.W.nsIn K mainGlobals "NoQuestion" = some (some (.ref c_NoQuestion)))(hc_NoRow:PySem.W.nsIn K mainGlobals "NoRow" = some (some (.ref c_NoRow)))(zF:AF K (("step_parts",fw,f1)::("lets_by",iF,f2)::("_law_cell_at",iE,f3)::("_law_started",iH,f4)::("_law_is_in",lW,f5)::("_law_name",oZ,f6)::("_law_drawn",lV,f7)::("_law_due",su,f8)::("_law_kinds",lX,f9)::("_law_refusal",iG,f10)::("_law_all",ss,f11)::("law",hW,f12)::[]))(zM:AM K ((c_NoItem,"__init__","NoItem.__init__",dW,m1)::(C_Plain,"__init__","Plain.__init__",fi,m2)::(C_Plain,"item","Plain.item",fj,m3)::(C_Plain,"bring_in","Plain.bring_in",cY,m4)::(C_Plain,"check_names","Plain.check_names",ci,m5)::(C_Plain,"at_or_beneath","Plain.at_or_beneath",bS,m6)::(C_Plain,"check_bounds","Plain.check_bounds",bV,m7)::(C_Plain,"step","Plain.step",fq,m8)::(C_Plain,"names","Plain.names",dX,m9)::(C_Plain,"sorted_names","Plain.sorted_names",br,m10)::(C_Plain,"lower_names","Plain.lower_names",cj,m11)::(C_Plain,"rows","Plain.rows",fm,m12)::[]))(zN:AN (fun n=>PySem.W.nsIn K mainGlobals n=some none) ("len"::"list"::"zip"::"range"::"int"::"sorted"::"reversed"::"isinstance"::"sum"::"ValueError"::[]))(h_TEXT:PySem.W.nsIn K mainGlobals "TEXT" = some (some (.int 2 tk_TEXT)))(h_UP:PySem.W.nsIn K mainGlobals "UP" = some (some (.int 0 tk_UP)))(h_PLACE:PySem.W.nsIn K mainGlobals "PLACE" = some (some (.int 1 tk_PLACE)))(h_STEP_PARTS:PySem.W.nsIn K mainGlobals "STEP_PARTS" = some (some (.ref ad_STEP_PARTS)))(t_STEP_PARTS:PyProof.Rows.KTD.tabLook (lc K) (fun b=>K.lookup b) ad_STEP_PARTS ST=true)(ii_NoItem:oj K c_NoItem m1=true)(im_NoItem:∃c d cd sl,K.lookup c_NoItem=some ⟨c,d,.cls cd,sl⟩/\cd.mro=Value.ref c_NoItem::Value.ref c_LimbError::VE)(if_NoItem:∃oI,K.lookup m1=some oI/\oI.cls=.type "function")(xx_LimbError:PySem.W.excIn K c_LimbError [.type "ValueError",.type "Exception",.type "BaseException",.type "object"] "ValueError.__new__" = true)(xm_LimbError:∃c d cd sl,K.lookup c_LimbError=some ⟨c,d,.cls cd,sl⟩/\cd.mro=Value.ref c_LimbError::VE)(xx_Taken:PySem.W.excIn K c_Taken [.type "ValueError",.type "Exception",.type "BaseException",.type "object"] "ValueError.__new__" = true)(xm_Taken:∃c d cd sl,K.lookup c_Taken=some ⟨c,d,.cls cd,sl⟩/\cd.mro=Value.ref c_Taken::(Value.ref c_LimbError::VE))(xx_Beneath:PySem.W.excIn K c_Beneath [.type "ValueError",.type "Exception",.type "BaseException",.type "object"] "ValueError.__new__" = true)(xm_Beneath:∃c d cd sl,K.lookup c_Beneath=some ⟨c,d,.cls cd,sl⟩/\cd.mro=Value.ref c_Beneath::(Value.ref c_LimbError::VE))(xx_Far:PySem.W.excIn K c_Far [.type "ValueError",.type "Exception",.type "BaseException",.type "object"] "ValueError.__new__" = true)(xm_Far:∃c d cd sl,K.lookup c_Far=some ⟨c,d,.cls cd,sl⟩/\cd.mro=Value.ref c_Far::(Value.ref c_LimbError::VE))(aN:PySem.W.findIn K (.ref c_NoItem) "name" = some none)(s1:PySem.W.findIn K (.ref c_NoItem) "__setattr__" = some (some (.builtin "object.__setattr__")))(s2:((PySem.W.clsIn K c_NoItem).any fun cd=>kL cd.mro&&cd.hasDict)=true)(tb1:L2.iI K "Plain" "sorted_names" = some (c0,T))(dN:PySem.W.hasDictIn K c_NoItem=true)(e1Taken:(PySem.W.clsIn K c_Taken).isSome=true)(e2Taken:PySem.W.findIn K (.ref c_Taken) "__getattribute__" = some (some (.builtin "BaseException.__getattribute__")))(e3Taken:PySem.W.findIn K (.ref c_Taken) "__getattr__" = some none)(e4Taken:PySem.W.findIn K (.ref c_Taken) "__class__" = some (some (.builtin "object.__class__")))(e5Taken:PySem.W.mroIn K c_Taken (.type "BaseException")=some true)(e6Taken:PySem.W.mroIn K c_Taken (.type "object")=some true)(vTaken:PySem.W.kitOne K (.ref c_Taken) (.type "ValueError")=some true)(kTaken:Paired (fun a b=>PySem.W.kitOne K (.ref c_Taken) (.ref a)=some b) [c_Taken,c_NoItem,c_Beneath,c_Far,c_NoDeed,c_Twin,c_NoPlace,c_NoText,c_NoQuestion,c_NoRow] [true,false,false,false,false,false,false,false,false,false])(e1NoItem:(PySem.W.clsIn K c_NoItem).isSome=true)(e2NoItem:PySem.W.findIn K (.ref c_NoItem) "__getattribute__" = some (some (.builtin "BaseException.__getattribute__")))(e3NoItem:PySem.W.findIn K (.ref c_NoItem) "__getattr__" = some none)(e4NoItem:PySem.W.findIn K (.ref c_NoItem) "__class__" = some (some (.builtin "object.__class__")))(e5NoItem:PySem.W.mroIn K c_NoItem (.type "BaseException")=some true)(e6NoItem:PySem.W.mroIn K c_NoItem (.type "object")=some true)(vNoItem:PySem.W.kitOne K (.ref c_NoItem) (.type "ValueError")=some true)(kNoItem:Paired (fun a b=>PySem.W.kitOne K (.ref c_NoItem) (.ref a)=some b) [c_Taken,c_NoItem,c_Beneath,c_Far,c_NoDeed,c_Twin,c_NoPlace,c_NoText,c_NoQuestion,c_NoRow] [false,true,false,false,false,false,false,false,false,false])(e1Beneath:(PySem.W.clsIn K c_Beneath).isSome=true)(e2Beneath:PySem.W.findIn K (.ref c_Beneath) "__getattribute__" = some (some (.builtin "BaseException.__getattribute__")))(e3Beneath:PySem.W.findIn K (.ref c_Beneath) "__getattr__" = some none)(e4Beneath:PySem.W.findIn K (.ref c_Beneath) "__class__" = some (some (.builtin "object.__class__")))(e5Beneath:PySem.W.mroIn K c_Beneath (.type "BaseException")=some true)(e6Beneath:PySem.W.mroIn K c_Beneath (.type "object")=some true)(vBeneath:PySem.W.kitOne K (.ref c_Beneath) (.type "ValueError")=some true)(kBeneath:Paired (fun a b=>PySem.W.kitOne K (.ref c_Beneath) (.ref a)=some b) [c_Taken,c_NoItem,c_Beneath,c_Far,c_NoDeed,c_Twin,c_NoPlace,c_NoText,c_NoQuestion,c_NoRow] [false,false,true,false,false,false,false,false,false,false])(e1Far:(PySem.W.clsIn K c_Far).isSome=true)(e2Far:PySem.W.findIn K (.ref c_Far) "__getattribute__" = some (some (.builtin "BaseException.__getattribute__")))(e3Far:PySem.W.findIn K (.ref c_Far) "__getattr__" = some none)(e4Far:PySem.W.findIn K (.ref c_Far) "__class__" = some (some (.builtin "object.__class__")))(e5Far:PySem.W.mroIn K c_Far (.type "BaseException")=some true)(e6Far:PySem.W.mroIn K c_Far (.type "object")=some true)(vFar:PySem.W.kitOne K (.ref c_Far) (.type "ValueError")=some true)(kFar:Paired (fun a b=>PySem.W.kitOne K (.ref c_Far) (.ref a)=some b) [c_Taken,c_NoItem,c_Beneath,c_Far,c_NoDeed,c_Twin,c_NoPlace,c_NoText,c_NoQuestion,c_NoRow] [false,false,false,true,false,false,false,false,false,false])
  :∃fd:FuncData,(∀(s:Shared) (v:Value),BindsTo s fd ⟨[v],[]⟩ [("_law_script",v)])/\∀base:Heap,K.In base->base.Ns mainGlobals mg->Blt base mg->PySem.W.CodeHd base c0 T->FnOk l.prog w K mg base CX0 9 fa fd ["_law_script"] (kW K T):=by
 obtain⟨Af1,Af2,Af3,Af4,Af5,Af6,Af7,Af8,Af9,Af10,Af11,⟨a0,_,F0⟩,_⟩:=zF;obtain⟨Am1,Am2,Am3,Am4,Am5,Am6,Am7,Am8,Am9,Am10,Am11,Am12,_⟩:=zM;obtain⟨z_len,z_list,z_zip,z_range,z_int,z_sorted,z_reversed,z_isinstance,z_sum,z_ValueError,_⟩:=anI (p':=fun n=>mg n=none) (fun z=>PySem.W.mg_none_of X G z) zN;have e:=hfa.symm.trans (ZV X G a0);cases e;obtain⟨oc,od,kV,dc,pm,an,cd,ct,sl,rfl,l0,c0⟩:=id F0.ex;have g_TEXT:=ZV X G h_TEXT;have g_UP:=ZV X G h_UP;have g_PLACE:=ZV X G h_PLACE;have g_STEP_PARTS:=ZV X G h_STEP_PARTS;have g_Plain:=ZV X G h_Plain;have L_Plain:Cls K C_Plain:=⟨pg_Plain,hd_Plain,po_Plain,sa_Plain⟩
 have X_Plain:Txt K C_Plain:=⟨L_Plain,n_Plain_held,n_Plain_away⟩
 have T_STEP_PARTS:Tab K ad_STEP_PARTS ST:=⟨t_STEP_PARTS⟩
 have g_NoItem:=ZV X G hc_NoItem;have xo_NoItem:ExcAtI K c_NoItem m1 (Value.ref c_LimbError::VE):=⟨ii_NoItem,im_NoItem,by rw[YO];rfl,if_NoItem⟩
 have g_Taken:=ZV X G hc_Taken;have g_Beneath:=ZV X G hc_Beneath;have g_Far:=ZV X G hc_Far;have g_LimbError:=ZV X G hc_LimbError;have g_NoDeed:=ZV X G hc_NoDeed;have g_Twin:=ZV X G hc_Twin;have g_NoPlace:=ZV X G hc_NoPlace;have g_NoText:=ZV X G hc_NoText;have g_NoQuestion:=ZV X G hc_NoQuestion;have g_NoRow:=ZV X G hc_NoRow;have xo_LimbError:ExcAt K c_LimbError VE:=⟨xx_LimbError,xm_LimbError,by decide⟩
 have xo_Taken:ExcAt K c_Taken (Value.ref c_LimbError::VE):=⟨xx_Taken,xm_Taken,by rw[YO];rfl⟩
 have xo_Beneath:ExcAt K c_Beneath (Value.ref c_LimbError::VE):=⟨xx_Beneath,xm_Beneath,by rw[YO];rfl⟩
 have xo_Far:ExcAt K c_Far (Value.ref c_LimbError::VE):=⟨xx_Far,xm_Far,by rw[YO];rfl⟩
 have sN:ExS K c_NoItem:=⟨s1,s2,e6NoItem⟩
 have dTaken:Kd K c_Taken _ _:=⟨vTaken,kTaken,⟨e1Taken,e2Taken,e3Taken,e4Taken,e5Taken,e6Taken⟩⟩
 have dNoItem:Kd K c_NoItem _ _:=⟨vNoItem,kNoItem,⟨e1NoItem,e2NoItem,e3NoItem,e4NoItem,e5NoItem,e6NoItem⟩⟩
 have dBeneath:Kd K c_Beneath _ _:=⟨vBeneath,kBeneath,⟨e1Beneath,e2Beneath,e3Beneath,e4Beneath,e5Beneath,e6Beneath⟩⟩
 have dFar:Kd K c_Far _ _:=⟨vFar,kFar,⟨e1Far,e2Far,e3Far,e4Far,e5Far,e6Far⟩⟩
 have er:ErsG K _ c_LimbError c_Taken c_NoItem c_Beneath c_Far _ _ _ _:=⟨fS xo_Taken,qc xo_NoItem,fS xo_Beneath,fS xo_Far,by simp,by simp,by simp,by simp,dTaken,dNoItem,dBeneath,dFar,dN,aN⟩
 refine⟨PySem.W.fnOf "law" "law" (bE hW) (aV hW) (am hW) .none kV dc pm an cd ct,fun s v=>.of_eq rfl,fun base _ _ Bl C=>?_⟩;have B:Bx l.prog w K mg base h:=⟨X,G⟩
 have F_step_parts:=mkF B Af1 fun F=>mX F g_STEP_PARTS T_STEP_PARTS;have xi_NoItem:=mkE B xo_NoItem Am1 fun F=>lN F sN aN;have Mk_Plain:=mkC B L_Plain g_Plain mk_Plain kc_Plain Am2 fun F=>mU F X_Plain;have M_item:=mkM B L_Plain Am3 fun F=>mV F X_Plain;have M_bring_in:=mkM B L_Plain Am4 fun F=>jc F X_Plain;have MX_check_names:=mkX B L_Plain Am5 fun F=>fW F X_Plain F_step_parts z_zip (jA xo_Taken) g_Taken xi_NoItem g_NoItem;have M_at_or_beneath:=mkM B L_Plain Am6 fun F=>fO F X_Plain g_UP;have MX_check_bounds:=mkX B L_Plain Am7 fun F=>fP F X_Plain M_at_or_beneath g_TEXT z_len (jA xo_Beneath) g_Beneath (jA xo_Far) g_Far;have MX_step:=mkX B L_Plain Am8 fun F=>lP F MX_check_names MX_check_bounds M_bring_in;have M_names:=mkM B L_Plain Am9 fun F=>lO F X_Plain z_list;have M_sorted_names:=mkM B L_Plain Am10 fun F=>fX F (tG h_Plain Am10.1 F tb1) C Bl X_Plain g_PLACE z_sorted;have M_lower_names:=mkM B L_Plain Am11 fun F=>hU F X_Plain M_sorted_names g_UP;have M_rows:=mkM B L_Plain Am12 fun F=>mW F X_Plain M_lower_names g_TEXT z_reversed z_len;have F_lets_by:=mkF B Af2 fun F=>rT F Mk_Plain MX_step er (fS xo_LimbError) g_LimbError;have F_cell_at:=mkF B Af3 fun F=>rS F z_len;have F_started:=mkF B Af4 fun F=>rV F F_cell_at z_range z_len;have F_is_in:=mkF B Af5 fun F=>vU F;have F_name:=mkF B Af6 fun F=>yk F z_len;have F_drawn:=mkF B Af7 fun F=>vT F F_name z_len;have F_due:=mkF B Af8 fun F=>Ay F F_is_in z_len;have F_kinds:=mkF B Af9 fun F=>vV F g_Taken g_NoItem g_Beneath g_Far g_NoDeed g_Twin g_NoPlace g_NoText g_NoQuestion g_NoRow z_isinstance;have F_refusal:=mkF B Af10 fun F=>rU F MX_step er (fS xo_LimbError) g_LimbError F_kinds z_isinstance z_ValueError z_sum z_int;have F_all:=mkF B Af11 fun F=>Ax F M_names M_item M_rows;exact Az F0 F_cell_at F_started F_all F_drawn F_due F_refusal F_lets_by Mk_Plain MX_step M_item M_names z_list
theorem Do{l:PySem.W.OpenLaw}{q:Program}{loose:List Str}{XP:(Str->Option Value)->Heap->Prop}{YP:World->Heap->Prop}{d:DefRec}{K:Params->PySem.W.Frag}{c0 T:Addr}(hn:l.most=some 63)(hdf:d.params.defaults=[])(hY:∀ (w:World) (h:Heap),YP w h->(K w.params).In h)(tb:∀ w:World,L2.iI (K w.params) "Plain" "sorted_names" = some (c0,T))(ht:∀ (w:World) (h:Heap),YP w h->PySem.W.CodeHd h c0 T/\h.get? T=some (PySem.W.tabObj #[]))(nt:∀ w:World,PySem.W.noTabs (K w.params)=true)(F:∀ (w:World) (mg:Str->Option Value) (fa:Addr) (h:Heap),(K w.params).In h->h.Ns mainGlobals mg->mg d.name=some (.ref fa) ->
   ∃ fd:FuncData,(∀ (s:Shared) (u:Value),BindsTo s fd ⟨[u],[]⟩ [("_law_script",u)])/\∀ base:Heap,(K w.params).In base->base.Ns mainGlobals mg->Blt base mg->PySem.W.CodeHd base c0 T->FnOk l.prog w (K w.params) mg base CX0 9 fa fd ["_law_script"] (kW (K w.params) T)) :
  PySem.W.WalkO q loose XP YP l.row.toRowW d [] (fun f vs=>PySem.call f vs) :=
 L2.sJ (n:=63) (k:=9) (x:="_law_script") (tabs:=fun _=>[(c0,T)]) (sp:=fun w=>kW (K w.params) T) hn (by decide) hdf ⟨rfl,by decide,by decide⟩ hY (fun w h y t htm=>by rw[Zw.mp htm];exact ht w h y) nt
  (fun w mg fa h k g e=>let⟨fd,b,r⟩:=F w mg fa h k g e;⟨fd,b,fun base k2 g2 bl cs=>r base k2 g2 bl (cs _ (Zw.mpr rfl))⟩) (fun w H a ns hl hT hS=>⟨a,ns,rfl,hS,hl,hT _ (Zw.mpr rfl),fun _=>rfl⟩)
end K24
namespace PySem.W.Fast
def tw16139691935935632747:=()
def tw9004427880421648713:=()
def tw18324707185331244844:=()
def tw14006710399308666509:=()
def tw16302349097320257840:=()
def tw5647208437006736228:=()
def tw13472719842132785501:=()
def tw11783115773658381971:=()
def tw13099532019967765430:=()
def tw4025274910535124294:=()
def tw2751378244542794924:=()
def tw7856386166213786176:=()
def tw3396704523241356684:=()
def tw415836000115628082:=()
def tw2849396242986519791:=()
def tw11335544828666763068:=()
def tw15855301840300956969:=()
def tw1770568003407057647:=()
def tw13920500066832433916:=()
def tw503296964731330280:=()
def tw3597838429838418405:=()
def tw14873553238719047862:=()
def tw2855876923851736955:=()
def tw9712967232040274249:=()
def tw14817267479591560928:=()
def tw3048767703482244369:=()
def tw5107754992928601377:=()
def tw6326965432689291132:=()
def tw16926059487214813855:=()
def tw9385372110428586119:=()
def tw7158244525572684734:=()
def tw3809290060236384593:=()
def tw17255652473347671686:=()
def tw10511973666871148987:=()
def tw15849558999956435555:=()
def tw3937438072813488884:=()
def tw7021470471725144926:=()
def tw7116594617870055061:=()
def tw4677239822548685088:=()
def tw12354390271313611273:=()
def tw6828783769113477336:=()
def tw10069500370068197177:=()
def tw6260911108636194364:=()
def tw10866013918809604213:=()
def tw3554747609408365934:=()
def tw10253894176752159975:=()
def tw10563489992808294489:=()
def tw10397966076390932161:=()
def tw8960501541774103509:=()
def tw18206759111930460308:=()
def tw6004709285605580464:=()
def tw2676920160430050572:=()
def tw15514146255537759039:=()
def tw9055031340986923742:=()
def tw10558199129190063226:=()
def tw17423271299880291602:=()
def tw15356007783310391708:=()
end PySem.W.Fast
open PySem PySem.W PyProof.Rows
set_option maxRecDepth 100000 in
set_option maxHeartbeats 0 in
theorem PySem.Challenge.cw_limb_k24_steps_refused_holds : PySem.Challenge.rw_limb_k24_steps_refused.Holds := by
  w_on; o_law; k_head; (case hw => w_witness2)
  k_fill
  refine' K24.Do (l := PySem.Challenge.rw_limb_k24_steps_refused) rfl rfl (fun w h Y => PySem.W.km_in_of Y) ?tb ?ht ?nt ?F
  case tb => intro w; with_unfolding_all rfl
  case ht => intro w h Y; exact ⟨codeHd_of_K (km_in_of Y) (by kernel_rfl), km_tabs_of Y _ (by k_mem)⟩
  case nt => intro w; kernel_rfl
  case F =>
    intro w mg fa h KX G hmg
    refine' K24.zL KX G hmg ?h_Plain ?pg_Plain ?hd_Plain ?po_Plain ?sa_Plain ?mk_Plain ?kc_Plain ?n_Plain_held ?n_Plain_away ?hc_NoItem ?hc_Taken ?hc_Beneath ?hc_Far ?hc_LimbError ?hc_NoDeed ?hc_Twin ?hc_NoPlace ?hc_NoText ?hc_NoQuestion ?hc_NoRow ?zF ?zM ?zN ?h_TEXT ?h_UP ?h_PLACE ?h_STEP_PARTS ?t_STEP_PARTS ?ii_NoItem ?im_NoItem ?if_NoItem ?xx_LimbError ?xm_LimbError ?xx_Taken ?xm_Taken ?xx_Beneath ?xm_Beneath ?xx_Far ?xm_Far ?aN ?s1 ?s2 ?tb1 ?dN ?e1Taken ?e2Taken ?e3Taken ?e4Taken ?e5Taken ?e6Taken ?vTaken ?kTaken ?e1NoItem ?e2NoItem ?e3NoItem ?e4NoItem ?e5NoItem ?e6NoItem ?vNoItem ?kNoItem ?e1Beneath ?e2Beneath ?e3Beneath ?e4Beneath ?e5Beneath ?e6Beneath ?vBeneath ?kBeneath ?e1Far ?e2Far ?e3Far ?e4Far ?e5Far ?e6Far ?vFar ?kFar
    (case h_Plain => k_is)
    (case pg_Plain => k_is)
    (case hd_Plain => k_is)
    (case po_Plain => k_is)
    (case sa_Plain => k_is)
    (case mk_Plain => k_is)
    (case kc_Plain => k_is)
    (case n_Plain_held => k_is)
    (case n_Plain_away => k_is)
    (case hc_NoItem => k_is)
    (case hc_Taken => k_is)
    (case hc_Beneath => k_is)
    (case hc_Far => k_is)
    (case hc_LimbError => k_is)
    (case hc_NoDeed => k_is)
    (case hc_Twin => k_is)
    (case hc_NoPlace => k_is)
    (case hc_NoText => k_is)
    (case hc_NoQuestion => k_is)
    (case hc_NoRow => k_is)
    (case zF => (repeat refine K24.gf (by k_is) (by k_is) (by k_is) (by k_is) ?_); exact True.intro)
    (case zM => (repeat refine K24.gm (by k_is) (by k_is) (by k_is) (by k_is) (by k_is) ?_); exact True.intro)
    (case zN => (repeat refine K24.gn (by k_is) ?_); exact True.intro)
    (case h_TEXT => k_is)
    (case h_UP => k_is)
    (case h_PLACE => k_is)
    (case h_STEP_PARTS => k_is)
    (case t_STEP_PARTS => rfl)
    (case ii_NoItem => kernel_rfl)
    (case im_NoItem => exact ⟨_, _, _, _, rfl, rfl⟩)
    (case if_NoItem => exact ⟨_, rfl, rfl⟩)
    (case xx_LimbError => k_exc)
    (case xm_LimbError => exact ⟨_, _, _, _, rfl, rfl⟩)
    (case xx_Taken => k_exc)
    (case xm_Taken => exact ⟨_, _, _, _, rfl, rfl⟩)
    (case xx_Beneath => k_exc)
    (case xm_Beneath => exact ⟨_, _, _, _, rfl, rfl⟩)
    (case xx_Far => k_exc)
    (case xm_Far => exact ⟨_, _, _, _, rfl, rfl⟩)
    (case aN => k_is)
    (case s1 => k_is)
    (case s2 => rfl)
    (case tb1 => with_unfolding_all rfl)
    (case dN => rfl)
    (case e1Taken => rfl)
    (case e2Taken => k_is)
    (case e3Taken => k_is)
    (case e4Taken => k_is)
    (case e5Taken => k_is)
    (case e6Taken => k_is)
    (case vTaken => rfl)
    (case kTaken => exact .cons rfl (.cons rfl (.cons rfl (.cons rfl (.cons rfl (.cons rfl (.cons rfl (.cons rfl (.cons rfl (.cons rfl .nil))))))))))
    (case e1NoItem => rfl)
    (case e2NoItem => k_is)
    (case e3NoItem => k_is)
    (case e4NoItem => k_is)
    (case e5NoItem => k_is)
    (case e6NoItem => k_is)
    (case vNoItem => rfl)
    (case kNoItem => exact .cons rfl (.cons rfl (.cons rfl (.cons rfl (.cons rfl (.cons rfl (.cons rfl (.cons rfl (.cons rfl (.cons rfl .nil))))))))))
    (case e1Beneath => rfl)
    (case e2Beneath => k_is)
    (case e3Beneath => k_is)
    (case e4Beneath => k_is)
    (case e5Beneath => k_is)
    (case e6Beneath => k_is)
    (case vBeneath => rfl)
    (case kBeneath => exact .cons rfl (.cons rfl (.cons rfl (.cons rfl (.cons rfl (.cons rfl (.cons rfl (.cons rfl (.cons rfl (.cons rfl .nil))))))))))
    (case e1Far => rfl)
    (case e2Far => k_is)
    (case e3Far => k_is)
    (case e4Far => k_is)
    (case e5Far => k_is)
    (case e6Far => k_is)
    (case vFar => rfl)
    (case kFar => exact .cons rfl (.cons rfl (.cons rfl (.cons rfl (.cons rfl (.cons rfl (.cons rfl (.cons rfl (.cons rfl (.cons rfl .nil))))))))))
