import PyProof.Rows.All
import Wide.All
import OpenK.AllK
import Wide.FinOn
import PyProof.EqAt
import PyProof.EqKinds
import PyProof.TupleCall
import Lean
import PySem.Challenge.RW_limb_k32_rings_give_way
def Za:=@PySem.wpAny_bind
def Zb:=@PySem.Heap.get?_push_of_some
def Zd:=@PySem.wpAny_pure
def Ze:=@Nat.le_refl
def Zf:=@List.getElem?_eq_getElem
def Zg:=@List.getD_eq_getElem?_getD
def Zh:=@List.length_map
def Zi:=@PyProof.Rows.wpS_bind
def Zj:=@List.size_toArray
def Zk:=@PyProof.Rows.wpS_pure
def Zl:=@List.length_cons
def Zm:=@PySem.Heap.lt_size
def Zn:=@List.mem_cons_of_mem
def Zo:=@List.length_append
def Zq:=@List.mem_cons
def Zr:=@PySem.Heap.get?_push_size
def Zs:=@Bool.false_ne_true
def Zt:=@Array.length_toList
def Zu:=@Option.some.inj
def Zv:=@List.mem_cons_self
def Zw:=@List.getElem?_eq_some_iff
def Zx:=@Nat.lt_of_lt_of_le
def Zy:=@List.append_assoc
def Zz:=@List.map_cons
def ZA:=@Nat.ne_of_lt
def ZB:=@Bool.and_eq_true
def ZC:=@Nat.le_trans
def ZD:=@List.mem_append
def ZE:=@List.mem_append_right
def ZF:=@Array.toList_append
def ZG:=@PySem.wpAny_mono
def ZH:=@List.pairwise_append
def ZI:=@List.lookup_cons
def ZJ:=@List.append_nil
def ZK:=@List.mem_singleton
def ZL:=@List.length_take
def ZM:=@List.getElem_mem
def ZN:=@List.take_of_length_le
def ZO:=@PySem.Paired.length
def ZP:=@Nat.zero_le
def ZQ:=@PySem.wpAny_field
def ZR:=@List.take_append_drop
def ZS:=@beq_iff_eq
def ZT:=@PySem.wpAny_callSpecial?_slot
def ZU:=@List.map_append
def ZV:=@PySem.wpAny_holding
def ZW:=@List.getElem?_append_right
def ZX:=@Nat.add_sub_cancel_left
def ZY:=@PySem.wpAny_newObj_type
def ZZ:=@List.length_range
def Z0:=@Nat.lt_or_ge
def Z1:=@List.pairwise_iff_getElem
def Z2:=@List.mem_map
def Z3:=@List.not_mem_nil
def Z4:=@PyProof.Rows.wpS_forRange
def Z5:=@PySem.Heap.SameBut.update
def Z6:=@List.getElem?_map
def Z7:=@PyProof.Rows.slot_tuple_getitem
def Z8:=@Ne.symm
def Z9:=@List.length_drop
def y0:=@PySem.wpAny_call_entry
def y8:=@PySem.Heap.get?_update_other
def y9:=@PyProof.Rows.wpS_mono
def Ya:=@Array.map_append
def Yb:=@List.take_sublist
def Yc:=@PySem.F.slot_dict_keyiterator_next
def Yd:=@List.length_replicate
def Ye:=@List.length_singleton
def Yf:=@PySem.Obj.data_mapFields
def Yg:=@Array.getD_eq_getD_getElem?
def Yh:=@Nat.ne_of_gt
def Yi:=@PySem.W.mg_of
def Yj:=@List.flatten_cons
def Yk:=@PySem.wpAny_dictEntries
def Yl:=@List.drop_sublist
def Ym:=@PySem.PassesOwn.never
def Yn:=@PySem.Heap.get?_update_self
def Yo:=@Option.isSome_iff_exists
def Yp:=@List.getElem_map
def Yq:=@List.sum_cons
def Yr:=@List.mem_range
def Ys:=@Array.size_map
def Yt:=@List.length_set
def Yu:=@PySem.mem_of_lookup
def Yv:=@List.replicate_succ
def Yw:=@Nat.lt_irrefl
def Yx:=@congrArg
def Yy:=@List.take_length
def Yz:=@List.mem_filterMap
def YA:=@Bool.false_eq_true
def YB:=@Int.emod_lt_of_pos
def YC:=@List.getElem?_append_left
def YD:=@PySem.Paired.snoc
def YE:=@List.nodup_cons
def YF:=@PySem.wpAny_rule
def YG:=@PySem.AutoSeq1.wpAny_loadPart'
def YH:=@Int.emod_nonneg
def YI:=@PySem.wpAny_loadPart_at
def YJ:=@List.all_cons
def YK:=@PySem.wpAny_typeNameOfWhole_keyiter
def YL:=@List.getElem?_replicate
def YM:=@List.toList_toArray
def YN:=@List.all_eq_true
def YO:=@PySem.wpAny_setField
def YQ:=@List.drop_of_length_le
def YR:=@PyProof.Rows.callWith_type1
def YS:=@List.contains_cons
def YT:=@List.nil_append
def YU:=@List.any_cons
def YV:=@Bool.eq_false_iff
set_option Elab.async false
set_option linter.all false
set_option maxRecDepth 100000
set_option maxHeartbeats 2000000
local macro_rules | `(tactic| omega) => `(tactic| first | with_reducible first | assumption | exact Nat.le_of_lt (by assumption) | exact Nat.le_refl _ | exact Nat.lt_add_one _ | exact Nat.le_trans (by assumption) (by decide) | exact Nat.lt_of_lt_of_le (by assumption) (by decide) | exact Nat.sub_lt_sub_left (by assumption) (Nat.lt_add_one _) | exact Nat.le_antisymm (by assumption) (Nat.le_of_not_lt (by assumption)) | lia)
namespace L2
open PySem PySem.Spec PyProof.Rows
abbrev Key:=Sum Int Str
def hV:Key->Value->Bool
 |.inl k,v=>Value.isInt k v
 |.inr x,v=>Value.isStrOf x v
def C6(w:World):Key->Int
 |.inl k=>hashInt k
 |.inr x=>hashStr w x
theorem be:∀{k:Key} {v:Value},hV k v=true->(∃i t,k=Sum.inl i/\v=Value.int i t)\/(∃x t,k=Sum.inr x/\v=Value.str x t)
 |.inl i,v,h=>by obtain⟨t,e⟩:=Value.isInt_shape (k:=i) (v:=v) h;exact .inl ⟨i,t,rfl,e⟩
 |.inr x,v,h=>by obtain⟨t,e⟩:=Value.isStrOf_shape (x:=x) (v:=v) h;exact .inr ⟨x,t,rfl,e⟩
theorem sw(i:Int)(t:Tok):hV (.inl i) (.int i t)=true:=by simp[hV,Value.isInt]
theorem sB(x:Str)(t:Tok):hV (.inr x) (.str x t)=true:=by simp[hV,Value.isStrOf]
theorem Ai(a b:Int):decide ((Sum.inl a:Key)=Sum.inl b)=(a==b):=by
 by_cases e:a=b
 ·subst e;simp
 ·have h:¬(Sum.inl a:Key)=Sum.inl b:=fun q=>e (Sum.inl.inj q);rw[decide_eq_false h];exact(beq_eq_false_iff_ne.mpr e).symm
theorem Al(a b:Str):decide ((Sum.inr a:Key)=Sum.inr b)=decide (a=b):=by
 by_cases e:a=b
 ·subst e;simp
 ·have h:¬(Sum.inr a:Key)=Sum.inr b:=fun q=>e (Sum.inr.inj q);rw[decide_eq_false h,decide_eq_false e]
theorem Aj(a:Int)(b:Str):decide ((Sum.inl a:Key)=Sum.inr b)=false:=decide_eq_false (fun q=>nomatch q)
theorem Ak(a:Str)(b:Int):decide ((Sum.inr a:Key)=Sum.inl b)=false:=decide_eq_false (fun q=>nomatch q)
def aZ(prog:Program)(w:World):PySem.KeyKind prog w Key where
 is:=hV
 hash:=C6 w
 inj:=fun v a b ha hb=>by
  rcases be ha with⟨i,t,rfl,rfl⟩|⟨x,t,rfl,rfl⟩
  ·rcases be hb with⟨j,u,rfl,e⟩|⟨y,u,rfl,e⟩
   ·injection e with e1 _;rw[e1]
   ·exact nomatch e
  ·rcases be hb with⟨j,u,rfl,e⟩|⟨y,u,rfl,e⟩
   ·exact nomatch e
   ·injection e with e1 _;rw[e1]
 byValue:=fun k v h=>by rcases be h with⟨i,t,rfl,rfl⟩|⟨x,t,rfl,rfl⟩<;>rfl
 pyHash:=fun hv h=>by
  rcases be hv with⟨i,t,rfl,rfl⟩|⟨x,t,rfl,rfl⟩
  ·exact wpAny_pyHash_int h
  ·exact wpAny_pyHash_str h
 eqBool:=fun hu hv h=>by
  rcases be hu with⟨i,t,rfl,rfl⟩|⟨x,t,rfl,rfl⟩
  ·rcases be hv with⟨j,u,rfl,rfl⟩|⟨y,u,rfl,rfl⟩
   ·rw[Ai]at h;exact wpAny_eqBool_int h
   ·rw[Aj]at h;exact SeqAt.EqAt.int_str i t y u _ _ _ _ h
  ·rcases be hv with⟨j,u,rfl,rfl⟩|⟨y,u,rfl,rfl⟩
   ·rw[Ak]at h;exact SeqAt.EqAt.str_int x t j u _ _ _ _ h
   ·rw[Al]at h;exact wpAny_eqBool_str h
 «strs»:=fun k x t v h=>by
  rcases be h with⟨i,u,rfl,e⟩|⟨y,u,rfl,e⟩
  ·exact nomatch e
  ·injection e with e1 _;subst e1;cases v<;>rfl
theorem oA(prog:Program)(w:World)(i:Int)(t:Tok):(aZ prog w).is (.inl i) (.int i t)=true:=sw i t
theorem oB(prog:Program)(w:World)(x:Str)(t:Tok):(aZ prog w).is (.inr x) (.str x t)=true:=sB x t
open PySem PySem.Spec PyProof.Rows
inductive V where
 |non|bl (b:Bool)|int (i:Int)|str (x:Str)|byt (b:Array UInt8)|flt (b:UInt64)|ref (a:Addr)|ty (n:String)
 deriving DecidableEq
def RelV:V->Value->Prop
 |.non,u=>u=Value.none
 |.bl b,u=>u=Value.bool b
 |.int i,u=>∃t,u=Value.int i t
 |.str x,u=>∃t,u=Value.str x t
 |.byt b,u=>∃t,u=Value.bytes b t
 |.flt b,u=>∃t,u=Value.float b t
 |.ref a,u=>u=Value.ref a
 |.ty n,u=>u=Value.type n
abbrev Vals:List V->List Value->Prop:=Paired RelV
theorem Vals.length{xs:List V}{us:List Value}(r:Vals xs us):xs.length=us.length:=ZO r
theorem Vals.get:∀{xs:List V} {us:List Value} {i:Nat} {x:V},Vals xs us->xs[i]?=some x->∃u,us[i]?=some u/\RelV x u
 |_,_,_,_,.nil,e=>by simp at e
 |_,_,0,_,.cons r _,e=>by simp at e;subst e;exact⟨_,rfl,r⟩
 |_,_,i+1,x,.cons _ t,e=>by obtain⟨u,h1,h2⟩:=Vals.get (i:=i) (x:=x) t (by simpa using e);exact⟨u,by simpa using h1,h2⟩
theorem Vals.set{x:V}{u:Value}(r:RelV x u):∀{xs:List V} {us:List Value} (i:Nat),Vals xs us->Vals (xs.set i x) (us.set i u)
 |_,_,_,.nil=>.nil
 |_,_,0,.cons _ t=>.cons r t
 |_,_,i+1,.cons q t=>.cons q (Vals.set r i t)
theorem Vals.append:∀{xs ys:List V} {us ws:List Value},Vals xs us->Vals ys ws->Vals (xs++ys) (us++ws)
 |_,_,_,_,.nil,s=>s
 |_,_,_,_,.cons r t,s=>.cons r (Vals.append t s)
theorem Vals.take:∀{xs:List V} {us:List Value} (n:Nat),Vals xs us->Vals (xs.take n) (us.take n)
 |_,_,0,_=>.nil
 |_,_,_+1,.nil=>.nil
 |_,_,n+1,.cons r t=>.cons r (Vals.take n t)
theorem Vals.drop:∀{xs:List V} {us:List Value} (n:Nat),Vals xs us->Vals (xs.drop n) (us.drop n)
 |_,_,0,r=>r
 |_,_,_+1,.nil=>.nil
 |_,_,n+1,.cons _ t=>Vals.drop n t
def RelO:Option V->Option Value->Prop
 |some v,some u=>RelV v u
 |none,none=>True
 |_,_=>False
def KV{κ:Type}:List (κ×V)->List (κ×Value)->Prop:=Paired fun(p:κ×V) (q:κ×Value)=>p.1=q.1/\RelV p.2 q.2
def kV:Key->V
 |.inl i=>.int i
 |.inr x=>.str x
inductive HO where
 |lst (xs:List V)
 |tup (xs:List V)
 |dK (kvs:List (Key×V))|dT (kvs:List (List Key×V))
 |set (S:Int->Bool)(n:Nat)
 |ins (C dx:Addr)(fs:List (Str×V))
 |own (x:Addr)
 |xd (fs:List (Str×V))
 |met (f x:Addr)
 |rng (lo hi:Int)
 |frz (o:Obj)(u:HO)
 |tbl (ps:Array Value)
 |ext (φ:Heap->Prop)
abbrev Hp:=Addr->Option HO
def upd(H:Hp)(a:Addr)(o:HO):Hp:=fun b=>if b=a then some o else H b
theorem ad{H:Hp}{a:Addr}{o:HO}:upd H a o a=some o:=by unfold upd;rw[if_pos rfl]
theorem af{H:Hp}{a b:Addr}{o:HO}(h:b≠a):upd H a o b=H b:=by unfold upd;rw[if_neg h]
theorem fU{H:Hp}{a b:Addr}{o u:HO}(h:H a=some o)(h':H b=some u)(d:o≠u):a≠b:=by intro e;subst e;rw[h]at h';exact d (Zu h')
theorem al{H:Hp}{a b:Addr}{o:HO}(h:H a=some o)(h':H b=none):a≠b:=by intro e;subst e;rw[h]at h';cases h'
section
variable(P:Program)(w:World)
def ObjOk(H:Hp)(h:Heap)(a:Addr):HO->Prop
 |.lst xs=>xs.length<=sizeLine/\∃(its:List Value) (n:Nat),Vals xs its/\h.get? a=some { cls:=.type "list",data:=.seq its.toArray n }
 |.tup xs=>xs.length<=sizeLine/\∃its:List Value,Vals xs its/\IsTup h a its.toArray
 |.dK kvs=>kvs.length<=sizeLine/\(a==sysModules)=false/\∃vs,KV kvs vs/\h.DictOf (aZ P w) a vs
 |.dT kvs=>kvs.length<=sizeLine/\(a==sysModules)=false/\∃xs:List (List Key×Addr×Value),
   Paired (fun(p:List Key×V) (q:List Key×Addr×Value)=>p.1=q.1/\H q.2.1=some (.tup (p.1.map kV))/\RelV p.2 q.2.2) kvs xs /\
   ∃o es ep,h.get? a=some o/\o.ExactDict/\o.data=.dict es ep/\es.toList=xs.map (entryOfKey (tupleKind (aZ P w)))/\(xs.map (·.1)).Nodup
 |.set S n=>h.SetOf (intKind P w) a S n
 |.ins C dx fs=>H dx=some (.own a)/\fs.length<=1000/\dx≠a/\h.get? a=some (PySem.W.instObj C dx) /\
   ∃mA,h.Ns1 dx mA/\(∀f,RelO (fs.lookup f) (mA f))/\PySem.Within mA (fs.map (·.1))
 |.own _=>∃o,h.get? a=some o
 |.xd fs=>∃mA,h.Ns1 a mA/\∀f,RelO (fs.lookup f) (mA f)
 |.rng lo hi=>∃t u v,h.get? a=some { cls:=.type "range",data:=.fields #[.int lo t,.int hi u,.int 1 v] }
 |.frz o u=>h.get? a=some o/\ObjOk H h a u
 |.tbl ps=>h.get? a=some { cls:=.none,data:=.fields ps }
 |.met f x=>h.get? a=some (PySem.W.methodObj (.ref f) (.ref x))
 |.ext φ=>φ h/\(∃o,h.get? a=some o)/\∀h1 h2:Heap,φ h1->(∀o,h1.get? a=some o->h2.get? a=some o)->φ h2
def HOk(H:Hp)(h:Heap):Prop:=∀a o,H a=some o->ObjOk P w H h a o
end
section
variable{P:Program}{w:World}{H H':Hp}{h h':Heap}{a:Addr}{o:HO}
theorem ObjOk.lt(x:ObjOk P w H h a o):a<h.objs.size:=by
 cases o with
 |lst xs=>obtain⟨_,_,_,_,e⟩:=x;exact Zm e
 |tup xs=>obtain⟨_,_,_,p⟩:=x;exact p.lt
 |dK kvs=>obtain⟨_,_,_,_,o,_,_,e,_⟩:=x;exact Zm e
 |dT kvs=>obtain⟨_,_,_,_,o,_,_,e,_⟩:=x;exact Zm e
 |set S n=>obtain⟨o,_,_,_,e,_⟩:=x;exact Zm e
 |ins C dx fs=>obtain⟨_,_,_,e,_⟩:=x;exact Zm e
 |own y=>obtain⟨_,e⟩:=x;exact Zm e
 |xd fs=>obtain⟨_,⟨_,_,_,e,_⟩,_⟩:=x;exact Zm e
 |rng lo hi=>obtain⟨_,_,_,e⟩:=x;exact Zm e
 |frz ob u=>obtain⟨e,_⟩:=x;exact Zm e
 |tbl ps=>exact Zm (show h.get? a=some _ from x)
 |met f y=>exact Zm (show h.get? a=some _ from x)
 |ext φ=>obtain⟨_,⟨_,e⟩,_⟩:=x;exact Zm e
theorem Paired.mapP{α β:Type}{F G:α->β->Prop}:∀{l₁:List α} {l₂:List β},Paired F l₁ l₂->(∀a b,F a b->G a b)->Paired G l₁ l₂
 |_,_,.nil,_=>.nil
 |_,_,.cons r t,f=>.cons (f _ _ r) (Paired.mapP t f)
theorem ObjOk.stay(x:ObjOk P w H h a o)(k:∀b u,(b=a\/H b=some (.own a))->h.get? b=some u->h'.get? b=some u)(ho:∀b,H b=some (.own a)->H' b=some (.own a))(ht:∀b xs,H b=some (.tup xs)->H' b=some (.tup xs)):ObjOk P w H' h' a o:=by
 induction o with
 |lst xs=>obtain⟨z,its,n,r,e⟩:=x;exact⟨z,its,n,r,k _ _ (.inl rfl) e⟩
 |tup xs=>obtain⟨z,its,r,ob,e,c⟩:=x;exact⟨z,its,r,ob,k _ _ (.inl rfl) e,c⟩
 |dK kvs=>obtain⟨z,y,vs,r,ob,es,ep,e,c⟩:=x;exact⟨z,y,vs,r,ob,es,ep,k _ _ (.inl rfl) e,c⟩
 |dT kvs =>obtain⟨z,y,xs,r,ob,es,ep,e,c⟩:=x;exact⟨z,y,xs,Paired.mapP r fun p q z=>⟨z.1,ht _ _ z.2.1,z.2.2⟩,ob,es,ep,k _ _ (.inl rfl) e,c⟩
 |set S n=>obtain⟨ob,es,ep,t,e,c⟩:=x;exact⟨ob,es,ep,t,k _ _ (.inl rfl) e,c⟩
 |ins C dx fs =>obtain⟨d,z,ne,e,mA,⟨od,es,ep,e2,c⟩,r⟩:=x;exact⟨ho _ d,z,ne,k _ _ (.inl rfl) e,mA,⟨od,es,ep,k _ _ (.inr d) e2,c⟩,r⟩
 |own y=>obtain⟨ob,e⟩:=x;exact⟨ob,k _ _ (.inl rfl) e⟩
 |xd fs=>obtain⟨mA,⟨od,es,ep,e,c⟩,r⟩:=x;exact⟨mA,⟨od,es,ep,k _ _ (.inl rfl) e,c⟩,r⟩
 |rng lo hi=>obtain⟨t,u,v,e⟩:=x;exact⟨t,u,v,k _ _ (.inl rfl) e⟩
 |frz ob u ih=>obtain⟨e,q⟩:=x;exact⟨k _ _ (.inl rfl) e,ih q⟩
 |tbl ps =>have e:h.get? a=some { cls:=.none,data:=.fields ps }:=x;show h'.get? a=some { cls:=.none,data:=.fields ps };exact k a _ (.inl rfl) e
 |met f y =>have e:h.get? a=some (PySem.W.methodObj (.ref f) (.ref y)):=x;show h'.get? a=some (PySem.W.methodObj (.ref f) (.ref y));exact k a _ (.inl rfl) e
 |ext φ=>obtain⟨p,⟨o,e⟩,st⟩:=x;exact⟨st _ _ p fun o q=>k _ _ (.inl rfl) q,⟨o,k _ _ (.inl rfl) e⟩,st⟩
theorem HOk.lt(x:HOk P w H h)(e:H a=some o):a<h.objs.size:=(x a o e).lt
theorem HOk.fresh(x:HOk P w H h)(e:h.objs.size<=a):H a=none:=by
 cases q:H a with
 |none=>rfl
 |some u=>exact absurd (Zx (x.lt q) e) (Yw _)
theorem HOk.kept(x:HOk P w H h)(k:∀b u,h.get? b=some u->h'.get? b=some u):HOk P w H h':=fun a o e =>
 (x a o e).stay (fun b u _ q=>k b u q) (fun _ q=>q) fun _ _ q=>q
theorem HOk.laid(x:HOk P w H h)(k:∀b u,h.get? b=some u->h'.get? b=some u)(hp:h.objs.size<=a)(new:ObjOk P w (upd H a o) h' a o):HOk P w (upd H a o) h':=fun b u e=>by
 have hn:=x.fresh hp;by_cases hb:b=a
 ·subst hb;rw[ad]at e;cases e;exact new
 ·rw[af hb]at e;exact(x b u e).stay (fun c v _ q=>k c v q) (fun c q=>by rw[af (al q hn)];exact q) fun c xs q=>by rw[af (al q hn)];exact q
end
def Rd(H:Hp)(a:Addr)(u:HO):Prop:=H a=some u\/∃o,H a=some (.frz o u)
theorem Rd.of{H:Hp}{a:Addr}{u:HO}(h:H a=some u):Rd H a u:=.inl h
theorem Rd.ok{P:Program}{w:World}{H:Hp}{h:Heap}{a:Addr}{u:HO}(r:Rd H a u)(x:HOk P w H h):ObjOk P w H h a u:=by
 rcases r with r|⟨o,r⟩
 ·exact x a u r
 ·obtain⟨_,q⟩:=x a _ r;exact q
def Mut:Option HO->Prop
 |some (.lst _)=>True
 |some (.dK _)=>True
 |some (.dT _)=>True
 |some (.set _ _)=>True
 |some (.ins _ _ _)=>True
 |some (.ext _)=>True
 |_=>False
section
variable{P:Program}{w:World}{H:Hp}{h h':Heap}{x e:Addr}{o':HO}
theorem HOk.write(ok:HOk P w H h)(mu:Mut (H x))(he:e=x\/H e=some (.own x))(k:∀b u,b≠e->h.get? b=some u->h'.get? b=some u)(heo:∃u,h'.get? e=some u)(new:ObjOk P w (upd H x o') h' x o'):HOk P w (upd H x o') h':=fun b u q=>by
 have nown:∀c y,H c=some (.own y)->c≠x:=fun c y r z=>by subst z;rw[r]at mu;exact mu
 have ntup:∀c xs,H c=some (.tup xs)->c≠x:=fun c xs r z=>by subst z;rw[r]at mu;exact mu
 by_cases hb:b=x
 ·subst hb;rw[ad]at q;cases q;exact new
 ·rw[af hb]at q;by_cases hbe:b=e
  ·have q':H b=some (.own x):=by
    rcases he with z|z
    ·exact absurd (hbe.trans z) hb
    ·rw[hbe];exact z
   rw[q]at q';cases q';obtain⟨v,hv⟩:=heo;exact⟨v,by rw[hbe];exact hv⟩
  ·refine(ok b u q).stay (fun c v hc r=>k c v ?_ r) (fun c r=>by rw[af (nown c b r)];exact r) fun c xs r=>by rw[af (ntup c xs r)];exact r
   rcases hc with rfl|hc
   ·exact hbe
   ·rintro rfl;rcases he with z|z
    ·exact nown c b hc z
    ·rw[hc]at z;cases z;exact hb rfl
end
structure Un(fs ex:List Addr)(H H':Hp)(h h':Heap):Prop where
 keep:∀b o,h.get? b=some o->H b=none->b∉fs->b∉ex->h'.get? b=some o
 slot:∀b o,h.get? b=some o->H b=none->b∈fs->b∉ex->∃sl,h'.get? b=some { o with slots:=sl }
 free:∀b o,h.get? b=some o->H b=none->b∉ex->H' b=none
 there:∀b o,h.get? b=some o->b∉ex->∃o',h'.get? b=some o'
 tups:∀b xs,H b=some (.tup xs)->H' b=some (.tup xs)
 frzs:∀b o u,H b=some (.frz o u)->H' b=some (.frz o u)
 tbls:∀b ps,H b=some (.tbl ps)->∃more,H' b=some (.tbl (ps++more))
section
variable{fs fs' ex ex':List Addr}{H H1 H2:Hp}{h h1 h2 h':Heap}{a x e:Addr}{o:HO}
theorem Un.any(u:Un fs ex H H1 h h1){b:Addr}{ob:Obj}(q:h.get? b=some ob)(n:H b=none)(hx:b∉ex):∃sl,h1.get? b=some { ob with slots:=sl }:=by
 by_cases hb:b∈fs
 ·exact u.slot b ob q n hb hx
 ·exact⟨ob.slots,u.keep b ob q n hb hx⟩
theorem Un.kept(k:∀b u,h.get? b=some u->h'.get? b=some u):Un fs ex H H h h' :=
 ⟨fun b ob q _ _ _=>k b ob q,fun b ob q _ _ _=>⟨ob.slots,k b ob q⟩,fun _ _ _ n _=>n,fun b ob q _=>⟨ob,k b ob q⟩,fun _ _ q=>q,fun _ _ _ q=>q,fun _ ps q=>⟨#[],by rw[q];simp⟩⟩
theorem Un.refl:Un fs ex H H h h:=Un.kept fun _ _ q=>q
theorem Un.laid(k:∀b u,h.get? b=some u->h'.get? b=some u)(hp:h.objs.size<=a)(hn:H a=none):Un fs ex H (upd H a o) h h' where
 keep:=fun b u q _ _ _=>k b u q
 slot:=fun b u q _ _ _=>⟨u.slots,k b u q⟩
 free:=fun b u q n _=>by rw[af (ZA (Zx (Zm q) hp))];exact n
 there:=fun b u q _=>⟨u,k b u q⟩
 tups:=fun b xs q=>by rw[af (al q hn)];exact q
 frzs:=fun b u xs q=>by rw[af (al q hn)];exact q
 tbls:=fun b ps q=>⟨#[],by rw[af (al q hn),q];simp⟩
theorem Un.write(mu:Mut (H x))(he:e=x\/H e=some (.own x))(k:∀b u,b≠e->h.get? b=some u->h'.get? b=some u)(heo:∃u,h'.get? e=some u):Un fs ex H (upd H x o) h h':=by
 have hx:∀b,H b=none->b≠x:=fun b n z=>by subst z;rw[n]at mu;exact mu
 have hb:∀b,H b=none->b≠e:=fun b n z=>by
  subst z;rcases he with r|r
  ·exact hx b n r
  ·rw[n]at r;cases r
 have hm:∀b u,H b=some u->¬Mut (some u)->b≠x:=fun b u q nm z=>by subst z;rw[q]at mu;exact nm mu
 refine⟨fun b u q n _ _=>k b u (hb b n) q,fun b u q n _ _=>⟨u.slots,k b u (hb b n) q⟩,fun b u q n _=>by rw[af (hx b n)];exact n,fun b u q _=>?_,
  fun b xs q=>by rw[af (hm b _ q fun z=>z)];exact q,fun b u xs q=>by rw[af (hm b _ q fun z=>z)];exact q,fun b ps q=>⟨#[],by rw[af (hm b _ q fun z=>z),q];simp⟩⟩
 by_cases hbe:b=e
 ·subst hbe;exact heo
 ·exact⟨u,k b u hbe q⟩
end
def trk(h:Heap)(H:Hp):List Addr:=(List.range h.objs.size).filter fun a=>(H a).isSome
def fQ(h:Heap)(H:Hp):Heap:=PySem.W.hideAll h (trk h H)
theorem ss(h:Heap)(H:Hp):(fQ h H).objs.size=h.objs.size:=PySem.W.hideAll_size _ _
theorem vd{h:Heap}{H:Hp}{b:Addr}{o:Obj}(e:h.get? b=some o)(n:H b=none):(fQ h H).get? b=some o :=
 PySem.W.hideAll_get _ e fun hm=>by have q:(H b).isSome=true:=(List.mem_filter.mp hm).2;rw[n]at q;simp at q
theorem yd{h:Heap}{H:Hp}{b:Addr}{o:Obj}(e:(fQ h H).get? b=some o):h.get? b=some o/\H b=none:=by
 have e':h.get? b=some o:=PySem.W.of_hideAll (trk h H) e;refine⟨e',?_⟩;cases q:H b with
 |none=>rfl
 |some x =>have hm:b∈trk h H:=List.mem_filter.mpr ⟨Yr.mpr (Zm e'),by simp[q]⟩;have z:(fQ h H).get? b=none:=PySem.W.hideAll_none (trk h H) hm;rw[z]at e;cases e
open PySem PySem.Spec PyProof.Rows
structure Mod(K:PySem.W.Frag)(mg:Str->Option Value)(base:Heap):Prop where
 kin:K.In base
 glob:base.Ns mainGlobals mg
 blt:∃mb,base.Ns builtinsNs mb/\∀x:Str,x≠"__name__"->mb x=bootBuiltins x
 nolimit:base.NoLimit
structure Cx where
 prog:Program
 w:World
 K:PySem.W.Frag
 mg:Str->Option Value
 base:Heap
 A:Around
 N:List Str
 s₀:Shared
 H₀:Hp
 env:Env
 outer:List Env
 stack:List Env
 ex:List Addr
 fn:Str->Bool
 calm:Bool
 pn:List (Addr×Obj)
 xe:Value->Shared->Prop
def frs(l:List Env):List Addr:=l.filterMap (·.frame)
abbrev Cx.fs(X:Cx):List Addr:=frs X.outer
def Vis(sc:Scope)(x:Str):Prop:=sc.names.lookup x=some .local\/sc.names.lookup x=some .cell\/sc.names.lookup x=some .free
def Loc(sc:Scope)(x:Str):Prop:=sc.names.lookup x=some .local\/sc.names.lookup x=some .cell
def CY(env:Env)(h:Heap)(m:Str->Option Value)(x:Str)(u:Value):Prop :=
 (env.kindOf x=some .local/\m x=some u)\/((env.kindOf x=some .cell\/env.kindOf x=some .free)/\∃c,env.cells.lookup x=some c/\h.IsCell c (some u))
structure Cx.Ok(X:Cx):Prop where
 mod:Mod X.K X.mg X.base
 kind:X.env.scope.kind=.function
 glob:X.env.globals=mainGlobals
 blt:X.env.builtins=builtinsNs
 above:X.s₀.heap.objs.size<=X.env.locals
 inj:∀x y c,X.env.cells.lookup x=some c->X.env.cells.lookup y=some c->x=y
 has:∀x,(X.env.kindOf x=some .cell\/X.env.kindOf x=some .free)->∃c,X.env.cells.lookup x=some c
 cab:∀x c,X.fn x=true->X.env.cells.lookup x=some c->X.s₀.heap.objs.size<=c
 hd:X.calm=true->X.A.handled=none
 frames:X.A.frames=some X.stack
 stk:X.stack=X.outer\/(X.stack=X.env::X.outer/\X.env.frame=some X.env.locals)
 exf:∀b∈X.ex,b≠X.env.locals/\∀x c,X.env.cells.lookup x=some c->c≠b
 bs:∀b o,X.base.get? b=some o->X.s₀.heap.get? b=some o/\X.H₀ b=none
 bsz:X.base.objs.size<=X.s₀.heap.objs.size
 noex:∀b o,X.base.get? b=some o->b∉X.ex
 exfs:∀b∈X.ex,b∉X.fs
 funs:X.s₀.heap.FunFrames X.base X.outer
 frf:∀b∈X.fs,X.H₀ b=none
structure Inv(X:Cx)(pins:List (Addr×Obj))(σ:List (Option V))(H:Hp)(s:Shared):Prop where
 ok:X.Ok
 os:s.os=X.s₀.os
 bare:AllBare s.gens
 base:Un X.fs X.ex X.H₀ H X.s₀.heap s.heap
 loc:∃m,s.heap.Ns X.env.locals m/\∀(i:Nat) (x:Str) (v:V),X.N[i]?=some x->σ[i]?=some (some v)->Vis X.env.scope x->∃u,RelV v u/\CY X.env s.heap m x u
 cell:∀x c,X.env.cells.lookup x=some c->∃v,s.heap.IsCell c v
 free:H X.env.locals=none
 freeC:∀x c,X.env.cells.lookup x=some c->H c=none
 pin:∀p∈X.pn++pins,s.heap.get? p.1=some p.2/\H p.1=none/\p.1≠X.env.locals/\p.1∉X.fs/\∀v,p.2.data≠.cell v
 hok:HOk X.prog X.w H s.heap
 len:σ.length=X.N.length
section
variable{X:Cx}{pins:List (Addr×Obj)}{σ:List (Option V)}{H H':Hp}{s:Shared}{h':Heap}
theorem Cx.Ok.nofr(ok:X.Ok){b:Addr}{o:Obj}(e:X.base.get? b=some o):b∉X.fs:=fun hb=>by have:=(ok.funs.mem hb).1;rw[e]at this;cases this
theorem Inv.bs(I:Inv X pins σ H s):∀b o,X.base.get? b=some o->s.heap.get? b=some o/\H b=none:=fun b o e =>
 ⟨I.base.keep b o (I.ok.bs b o e).1 (I.ok.bs b o e).2 (I.ok.nofr e) (I.ok.noex b o e),I.base.free b o (I.ok.bs b o e).1 (I.ok.bs b o e).2 (I.ok.noex b o e)⟩
theorem Inv.bk(I:Inv X pins σ H s):∀b o,X.base.get? b=some o->s.heap.get? b=some o:=fun b o e=>(I.bs b o e).1
theorem Inv.mod(I:Inv X pins σ H s):Mod X.K X.mg X.base:=I.ok.mod
theorem Inv.kIn(I:Inv X pins σ H s):X.K.In s.heap:=I.ok.mod.kin.keeps I.bk
theorem Inv.fr(I:Inv X pins σ H s):∃m,Fr X.base X.env.locals s.heap m :=
 let⟨m,hn,_⟩:=I.loc
 ⟨m,hn,I.bk,ZC I.ok.bsz I.ok.above⟩
theorem Inv.lt(I:Inv X pins σ H s):X.env.locals<s.heap.objs.size:=let⟨_,hn,_⟩:=I.loc;hn.lt
theorem Inv.sz(I:Inv X pins σ H s):X.s₀.heap.objs.size<=s.heap.objs.size:=ZC I.ok.above (Nat.le_of_lt I.lt)
theorem Inv.nofs(I:Inv X pins σ H s){a:Addr}(h:s.heap.objs.size<=a):a∉X.fs:=fun hb=>by obtain⟨_,o,ho,_⟩:=I.ok.funs.mem hb;exact absurd (Zx (Zm ho) (ZC I.sz h)) (Yw _)
theorem Inv.cne(I:Inv X pins σ H s):∀x c,X.env.cells.lookup x=some c->c≠X.env.locals:=fun x c e z=>by obtain⟨v,o,ho,hd⟩:=I.cell x c e;obtain⟨m,⟨o',es,ep,ho',hd',_⟩,_⟩:=I.loc;rw[z,ho']at ho;cases ho;rw[hd']at hd;cases hd
theorem Inv.funs(I:Inv X pins σ H s):s.heap.FunFrames X.base X.outer:=by
 have all:∀(l:List Env),(∀b∈frs l,b∈X.fs)->X.s₀.heap.FunFrames X.base l->s.heap.FunFrames X.base l:=by
  intro l;induction l with
  |nil=>intro _ _;trivial
  |cons env r ih =>intro hs hl;obtain⟨hk,⟨L,o,hf,hn,ho,hd⟩,hr⟩:=hl;have hL:L∈X.fs:=hs L (by unfold frs;rw[List.filterMap_cons,hf];exact Zv);obtain⟨sl,e⟩:=I.base.slot L o ho (I.ok.frf L hL) hL fun z=>I.ok.exfs L z hL;exact⟨hk,⟨L,_,hf,hn,e,hd⟩,ih (fun b hb=>hs b (by unfold frs;rw[List.filterMap_cons,hf];exact Zn _ hb)) hr⟩
 exact all X.outer (fun _ hb=>hb) I.ok.funs
theorem Inv.stack(I:Inv X pins σ H s):s.heap.FunFrames X.base X.stack:=by
 rcases I.ok.stk with e|⟨e,hf⟩
 ·rw[e];exact I.funs
 ·rw[e];obtain⟨m,hn,_⟩:=I.loc;refine .cons (by rw[I.ok.kind];decide) hf hn ?_ I.funs;exact Heap.get?_none_of_le (ZC I.ok.bsz I.ok.above)
theorem Inv.stkSub(I:Inv X pins σ H s):∀b∈frs X.stack,b∈X.env.locals::X.fs:=fun b hb=>by
 rcases I.ok.stk with e|⟨e,hf⟩
 ·rw[e]at hb;exact Zn _ hb
 ·rw[e]at hb;unfold frs at hb;rw[List.filterMap_cons,hf]at hb;exact hb
theorem Inv.stkFree(I:Inv X pins σ H s):∀b∈frs X.stack,H b=none:=fun b hb=>by
 rcases Zq.mp (I.stkSub b hb)with e|hb
 ·rw[e];exact I.free
 ·obtain⟨_,o,ho,_⟩:=I.ok.funs.mem hb;exact I.base.free b o ho (I.ok.frf b hb) fun z=>I.ok.exfs b z hb
theorem Inv.step{g':Array GenState}{t':Nat}{d':Drawn}{ch:List Addr}(I:Inv X pins σ H s)(hch:∀b∈ch,(b∈X.ex\/X.s₀.heap.objs.size<=b)/\b≠X.env.locals/\(∀x c,X.env.cells.lookup x=some c->c≠b)/\∀p∈X.pn++pins,p.1≠b)(keep:∀b o,b≠X.env.locals->b∉X.fs->b∉ch->s.heap.get? b=some o->H b=none->h'.get? b=some o)(slot:∀b o,b≠X.env.locals->b∈X.fs->b∉ch->s.heap.get? b=some o->H b=none->∃sl,h'.get? b=some { o with slots:=sl })(free:∀b o,b∉ch->s.heap.get? b=some o->H b=none->H' b=none)(there:∀b o,b∉ch->s.heap.get? b=some o->∃o',h'.get? b=some o')(tups:∀b xs,H b=some (.tup xs)->H' b=some (.tup xs))(frzs:∀b o u,H b=some (.frz o u)->H' b=some (.frz o u))(tbls:∀b ps,H b=some (.tbl ps)->∃more,H' b=some (.tbl (ps++more)))(ns:∀m,s.heap.Ns X.env.locals m->h'.Ns X.env.locals m)(hok:HOk X.prog X.w H' h')(hg:AllBare g') :
  Inv X pins σ H' { s with heap:=h',gens:=g',drawn:=d',toks:=t' }:=by
 have neL:∀b o,X.s₀.heap.get? b=some o->b≠X.env.locals:=fun b o e=>ZA (Zx (Zm e) I.ok.above);have neC:∀b o,X.s₀.heap.get? b=some o->b∉X.ex->b∉ch:=fun b o e hx hb=>by
  rcases(hch b hb).1 with z|z
  ·exact hx z
  ·exact absurd (Zx (Zm e) z) (Yw _)
 have cellK:∀x c,X.env.cells.lookup x=some c->∀v,s.heap.IsCell c v->h'.IsCell c v:=fun x c e v ⟨o,ho,hd⟩=>by
  have nch:c∉ch:=fun z=>(hch c z).2.2.1 x c e rfl;by_cases hc:c∈X.fs
  ·obtain⟨sl,q⟩:=slot c o (I.cne x c e) hc nch ho (I.freeC x c e);exact⟨_,q,hd⟩
  ·exact⟨o,keep c o (I.cne x c e) hc nch ho (I.freeC x c e),hd⟩
 refine⟨I.ok,I.os,hg,⟨fun b o e n hb hx=>?_,fun b o e n hb hx=>?_,fun b o e n hx=>?_,fun b o e hx=>?_,fun b xs e=>tups b xs (I.base.tups b xs e),fun b o xs e=>frzs b o xs (I.base.frzs b o xs e),fun b ps e=>?_⟩,?_,fun x c e=>?_,?_,fun x c e=>?_,fun p hp=>?_,hok,I.len⟩
 ·exact keep b o (neL b o e) hb (neC b o e hx) (I.base.keep b o e n hb hx) (I.base.free b o e n hx)
 ·obtain⟨sl,e1⟩:=I.base.slot b o e n hb hx;obtain⟨sl',e2⟩:=slot b _ (neL b o e) hb (neC b o e hx) e1 (I.base.free b o e n hx);exact⟨sl',e2⟩
 ·obtain⟨o',e1⟩:=I.base.there b o e hx;exact free b o' (neC b o e hx) e1 (I.base.free b o e n hx)
 ·obtain⟨o',e1⟩:=I.base.there b o e hx;exact there b o' (neC b o e hx) e1
 ·obtain⟨m1,e1⟩:=I.base.tbls b ps e;obtain⟨m2,e2⟩:=tbls b _ e1;exact⟨m1++m2,by rw[e2,Array.append_assoc]⟩
 ·obtain⟨m,hn,hl⟩:=I.loc;refine⟨m,ns m hn,fun i x v e1 e2 e3=>?_⟩;obtain⟨u,r,l⟩:=hl i x v e1 e2 e3;refine⟨u,r,?_⟩;rcases l with l|⟨k,c,e,z⟩
  ·exact .inl l
  ·exact .inr ⟨k,c,e,cellK x c e _ z⟩
 ·obtain⟨v,z⟩:=I.cell x c e;exact⟨v,cellK x c e v z⟩
 ·obtain⟨m,⟨o,_,_,ho,_⟩,_⟩:=I.loc;exact free _ o (fun z=>(hch _ z).2.1 rfl) ho I.free
 ·obtain⟨v,o,ho,hd⟩:=I.cell x c e;exact free c o (fun z=>(hch c z).2.2.1 x c e rfl) ho (I.freeC x c e)
 ·obtain⟨e,n,ne,nf,d⟩:=I.pin p hp;have nch:p.1∉ch:=fun z=>(hch p.1 z).2.2.2 p hp rfl;exact⟨keep p.1 p.2 ne nf nch e n,free p.1 p.2 nch e n,ne,nf,d⟩
theorem Inv.un{t':Nat}(I:Inv X pins σ H s)(u:Un X.fs [] H H' s.heap h')(hok:HOk X.prog X.w H' h'):Inv X pins σ H' { s with heap:=h',toks:=t' }:=by
 obtain⟨m,⟨o,es,ep,ho,r⟩,_⟩:=id I.loc;obtain⟨sl,hL⟩:=u.any ho I.free (by simp);exact I.step (g':=s.gens) (d':=s.drawn) (ch:=[]) (fun _ z=>nomatch z) (fun b o _ hb _ e n=>u.keep b o e n hb (by simp)) (fun b o _ hb _ e n=>u.slot b o e n hb (by simp)) (fun b o _ e n=>u.free b o e n (by simp)) (fun b o _ e=>u.there b o e (by simp)) u.tups u.frzs u.tbls (fun m' hm=>by
  obtain⟨o',es',ep',ho',r'⟩:=hm;rw[ho]at ho';cases ho';exact⟨_,es',ep',hL,r'⟩) hok I.bare
theorem Inv.call{g':Array GenState}{t':Nat}{d':Drawn}{ch:List Addr}(I:Inv X pins σ H s)(u:Un (frs X.stack) ch H H' s.heap h')(hok:HOk X.prog X.w H' h')(hg:AllBare g')(hch:∀b∈ch,(b∈X.ex\/X.s₀.heap.objs.size<=b)/\b≠X.env.locals/\(∀x c,X.env.cells.lookup x=some c->c≠b)/\∀p∈X.pn++pins,p.1≠b) :
  Inv X pins σ H' { s with heap:=h',gens:=g',drawn:=d',toks:=t' }:=by
 obtain⟨m,⟨o,es,ep,ho,r⟩,_⟩:=id I.loc;obtain⟨sl,hL⟩:=u.any ho I.free fun z=>(hch _ z).2.1 rfl;exact I.step (ch:=ch) hch (fun b o hL hb hc e n=>u.keep b o e n (fun z=>(Zq.mp (I.stkSub b z)).elim hL hb) hc) (fun b o _ _ hc e n=>u.any e n hc) (fun b o hc e n=>u.free b o e n hc) (fun b o hc e=>u.there b o e hc) u.tups u.frzs u.tbls (fun m' hm=>by
  obtain⟨o',es',ep',ho',r'⟩:=hm;rw[ho]at ho';cases ho';exact⟨_,es',ep',hL,r'⟩) hok hg
theorem Inv.turned{t':Nat}{it:Addr}(I:Inv X pins σ H s)(k:∀b o,b≠it->s.heap.get? b=some o->h'.get? b=some o)(hn:H it=none)(hL:it≠X.env.locals)(h1:it∈X.ex\/X.s₀.heap.objs.size<=it)(h2:∀x c,X.env.cells.lookup x=some c->c≠it)(h3:∀p∈X.pn++pins,p.1≠it):Inv X pins σ H { s with heap:=h',toks:=t' }:=by
 have nit:∀b u,H b=some u->b≠it:=fun b u e z=>by rw[z,hn]at e;cases e
 refine I.step (g':=s.gens) (d':=s.drawn) (ch:=[it]) (fun b hb=>?_) (fun b o _ _ hc e _=>k b o (fun z=>hc (by simp[z])) e) (fun b o _ _ hc e _=>⟨o.slots,k b o (fun z=>hc (by simp[z])) e⟩) (fun _ _ _ _ n=>n)
  (fun b o hc e=>⟨o,k b o (fun z=>hc (by simp[z])) e⟩) (fun _ _ e=>e) (fun _ _ _ e=>e) (fun b ps e=>⟨#[],by rw[e];simp⟩) (fun m hm=>?_) (fun b u e=>?_) I.bare
 ·have e:b=it:=by simpa using hb
  subst e;exact⟨h1,hL,h2,h3⟩
 ·obtain⟨o,es,ep,ho,r⟩:=hm;exact⟨o,es,ep,k _ o (Z8 hL) ho,r⟩
 ·refine(I.hok b u e).stay (fun c v hc q=>k c v ?_ q) (fun _ q=>q) fun _ _ q=>q;rcases hc with z|z
  ·rw[z];exact nit b u e
  ·exact nit c _ z
theorem Inv.tok(I:Inv X pins σ H s)(t:Nat):Inv X pins σ H { s with toks:=t }:=I.un (h':=s.heap) (t':=t) Un.refl I.hok
theorem Inv.kept{t':Nat}(I:Inv X pins σ H s)(k:∀b u,s.heap.get? b=some u->h'.get? b=some u):Inv X pins σ H { s with heap:=h',toks:=t' }:=I.un (Un.kept k) (I.hok.kept k)
theorem Inv.laid{a:Addr}{o:HO}{t':Nat}(I:Inv X pins σ H s)(k:∀b u,s.heap.get? b=some u->h'.get? b=some u)(hp:s.heap.objs.size<=a)(new:ObjOk X.prog X.w (upd H a o) h' a o) :
  Inv X pins σ (upd H a o) { s with heap:=h',toks:=t' }:=I.un (Un.laid k hp (I.hok.fresh hp)) (I.hok.laid k hp new)
theorem Inv.write{x e:Addr}{o:HO}{t':Nat}(I:Inv X pins σ H s)(mu:Mut (H x))(he:e=x\/H e=some (.own x))(k:∀b u,b≠e->s.heap.get? b=some u->h'.get? b=some u)(heo:∃u,h'.get? e=some u)(new:ObjOk X.prog X.w (upd H x o) h' x o):Inv X pins σ (upd H x o) { s with heap:=h',toks:=t' }:=I.un (Un.write mu he k heo) (I.hok.write mu he k heo new)
theorem Inv.weak{σ':List (Option V)}(I:Inv X pins σ H s)(hl:σ'.length=σ.length)(w:∀(i:Nat) v,σ'[i]?=some (some v)->σ[i]?=some (some v)):Inv X pins σ' H s :=
 ⟨I.ok,I.os,I.bare,I.base,let⟨m,hn,hl'⟩:=I.loc;⟨m,hn,fun i x v e1 e2 e3=>hl' i x v e1 (w i v e2) e3⟩,I.cell,I.free,I.freeC,I.pin,I.hok,hl.trans I.len⟩
theorem Inv.pins_of{pins':List (Addr×Obj)}(I:Inv X pins σ H s)(h:∀p∈pins',s.heap.get? p.1=some p.2/\H p.1=none/\p.1≠X.env.locals/\p.1∉X.fs/\∀v,p.2.data≠.cell v):Inv X pins' σ H s :=
 ⟨I.ok,I.os,I.bare,I.base,I.loc,I.cell,I.free,I.freeC,fun p hp=>(ZD.mp hp).elim (fun z=>I.pin p (List.mem_append_left _ z)) (h p),I.hok,I.len⟩
theorem no{N:List Str}(hN:N.Nodup){i j:Nat}{x:Str}(a:N[i]?=some x)(b:N[j]?=some x):i=j:=by obtain⟨h1,e1⟩:=Zw.mp a;obtain⟨h2,e2⟩:=Zw.mp b;exact(List.getElem_inj hN).mp (e1.trans e2.symm)
theorem lC{M:Model}{A:Around}{E:Value->Shared->Prop}{i:Nat}{x:Str}{v:V}{u:Value}{Q:Unit->Shared->Prop}(I:Inv X pins σ H s)(hN:X.N.Nodup)(hi:X.N[i]?=some x)(hx:Loc X.env.scope x)(r:RelV v u)(h:∀s',Inv X pins (σ.set i (some v)) H s'->(∃a,Heap.SameBut a s.heap s'.heap/\(a=X.env.locals\/X.env.cells.lookup x=some a))->Q () s')(hf:X.fn x=true\/X.env.scope.names.lookup x=some .local:=by first|exact .inl rfl|exact .inr rfl|assumption):wpAny M A (storeName X.env x u) Q E s:=by
 obtain⟨m,hn,hl⟩:=id I.loc;have hcls:(X.env.scope.kind == .class ||(X.env.scope.kind == .module&&X.env.locals != X.env.globals))=false:=by rw[I.ok.kind];rfl
 have hiσ:i<σ.length:=by rw[I.len];exact(Zw.mp hi).1
 have cne:=I.cne;have tracked:∀{a:Addr} {h':Heap},(∃o,s.heap.get? a=some o/\H a=none)->Heap.SameBut a s.heap h'->HOk X.prog X.w H h':=fun{a h'} ha hs b ob e=>by
  obtain⟨_,_,hfree⟩:=ha;refine(I.hok b ob e).stay (fun c w' hc q=>(hs.2 c ?_).trans q) (fun _ q=>q) fun _ _ q=>q;rintro rfl;rcases hc with rfl|hc
  ·rw[hfree]at e;cases e
  ·rw[hfree]at hc;cases hc
 rcases hx with hk|hk
 ·refine wpAny_storeName_local hk hn (fun h' hn' hs=>?_) hcls;obtain⟨oL,_,_,hoL,_⟩:=id hn;refine h _ ⟨I.ok,I.os,I.bare,⟨fun b o e n hb hx=>?_,fun b o e n hb hx=>?_,I.base.free,fun b o e hx=>?_,I.base.tups,I.base.frzs,I.base.tbls⟩,⟨_,hn',fun j y v' e1 e2 e3=>?_⟩,fun y c e=>?_,I.free,I.freeC,fun p hp=>?_,tracked ⟨oL,hoL,I.free⟩ hs,by simpa using I.len⟩ ⟨_,hs,.inl rfl⟩
  ·exact(hs.2 b (ZA (Zx (Zm e) I.ok.above))).trans (I.base.keep b o e n hb hx)
  ·obtain⟨sl,e1⟩:=I.base.slot b o e n hb hx;exact⟨sl,(hs.2 b (ZA (Zx (Zm e) I.ok.above))).trans e1⟩
  ·obtain⟨o',e1⟩:=I.base.there b o e hx;exact⟨o',(hs.2 b (ZA (Zx (Zm e) I.ok.above))).trans e1⟩
  ·by_cases hj:j=i
   ·subst hj;rw[hi]at e1;cases e1;rw[List.getElem?_set_self hiσ]at e2;cases e2;exact⟨u,r,.inl ⟨hk,by simp⟩⟩
   ·rw[List.getElem?_set_ne (Z8 hj)]at e2;obtain⟨u',r',q⟩:=hl j y v' e1 e2 e3;refine⟨u',r',?_⟩;rcases q with⟨k,e⟩|⟨k,c,e,z⟩
    ·refine .inl ⟨k,?_⟩;have:y≠x:=fun e=>hj (no hN e1 (e▸hi));simp[this,e]
    ·exact .inr ⟨k,c,e,z.sameBut hs (cne y c e)⟩
  ·obtain⟨w',z⟩:=I.cell y c e;exact⟨w',z.sameBut hs (cne y c e)⟩
  ·obtain⟨e,n,ne,nf,d⟩:=I.pin p hp;exact⟨(hs.2 p.1 ne).trans e,n,ne,nf,d⟩
 ·have hfn:X.fn x=true:=by
   rcases hf with z|z
   ·exact z
   ·rw[z]at hk;cases hk
  obtain⟨c,hc⟩:=I.ok.has x (.inl hk);obtain⟨w',z⟩:=I.cell x c hc;refine wpAny_storeName_cell I.ok.kind hk hc z (fun h' hc' hs=>?_);obtain⟨oc,hoc,hocd⟩:=id z;refine h { s with heap:=h' } ⟨I.ok,I.os,I.bare,⟨fun b o e n hb hx=>?_,fun b o e n hb hx=>?_,I.base.free,fun b o e hx=>?_,I.base.tups,I.base.frzs,I.base.tbls⟩,⟨m,hn.sameBut hs (Z8 (cne x c hc)),fun j y v' e1 e2 e3=>?_⟩,fun y c' e=>?_,I.free,I.freeC,fun p hp=>?_,tracked ⟨oc,hoc,I.freeC x c hc⟩ hs,by simpa using I.len⟩ ⟨c,hs,.inr hc⟩
  ·exact(hs.2 b (ZA (Zx (Zm e) (I.ok.cab x c hfn hc)))).trans (I.base.keep b o e n hb hx)
  ·obtain⟨sl,e1⟩:=I.base.slot b o e n hb hx;exact⟨sl,(hs.2 b (ZA (Zx (Zm e) (I.ok.cab x c hfn hc)))).trans e1⟩
  ·obtain⟨o',e1⟩:=I.base.there b o e hx;exact⟨o',(hs.2 b (ZA (Zx (Zm e) (I.ok.cab x c hfn hc)))).trans e1⟩
  ·by_cases hj:j=i
   ·subst hj;rw[hi]at e1;cases e1;rw[List.getElem?_set_self hiσ]at e2;cases e2;exact⟨u,r,.inr ⟨.inl hk,c,hc,hc'⟩⟩
   ·rw[List.getElem?_set_ne (Z8 hj)]at e2;obtain⟨u',r',q⟩:=hl j y v' e1 e2 e3;refine⟨u',r',?_⟩;rcases q with q|⟨k,c',e,z'⟩
    ·exact .inl q
    ·refine .inr ⟨k,c',e,z'.sameBut hs ?_⟩;rintro rfl;exact hj (no hN e1 (I.ok.inj _ _ _ e hc▸hi))
  ·by_cases hcc:c'=c
   ·subst hcc;exact⟨_,hc'⟩
   ·obtain⟨w2,z2⟩:=I.cell y c' e;exact⟨w2,z2.sameBut hs hcc⟩
  ·obtain⟨e,n,ne,nf,d⟩:=I.pin p hp;refine⟨(hs.2 p.1 ?_).trans e,n,ne,nf,d⟩;intro q;rw[q,hoc]at e;have q':oc=p.2:=Zu e;exact d w' (by rw[<-q'];exact hocd)
theorem nW{M:Model}{A:Around}{E:Value->Shared->Prop}{i:Nat}{x:Str}{v:V}{u:Value}{Q:Unit->Shared->Prop}(I:Inv X pins σ H s)(hN:X.N.Nodup)(hi:X.N[i]?=some x)(hx:Loc X.env.scope x)(r:RelV v u)(h:∀s',Inv X pins (σ.set i (some v)) H s'->Q () s')(hf:X.fn x=true\/X.env.scope.names.lookup x=some .local:=by first|exact .inl rfl|exact .inr rfl|assumption):wpAny M A (storeName X.env x u) Q E s :=
 lC I hN hi hx r (fun s' I' _=>h s' I') hf
theorem Inv.call'{s':Shared}{ch:List Addr}(I:Inv X pins σ H s)(ho:s'.os=s.os)(u:Un (frs X.stack) ch H H' s.heap s'.heap)(hok:HOk X.prog X.w H' s'.heap)(hg:AllBare s'.gens)(hch:∀b∈ch,(b∈X.ex\/X.s₀.heap.objs.size<=b)/\b≠X.env.locals/\(∀x c,X.env.cells.lookup x=some c->c≠b)/\∀p∈X.pn++pins,p.1≠b):Inv X pins σ H' s':=by obtain⟨h',g',d',t',o'⟩:=s';have e:o'=s.os:=ho;subst e;exact I.call (g':=g') (t':=t') (d':=d') u hok hg hch
end
abbrev XK:=Value->Option Addr->Hp->Prop
abbrev St:=List (Option V)
abbrev VK:=V->Hp->Prop
abbrev TE:=St->Hp->VK->Prop
abbrev TT:=St->Hp->(Bool->Hp->Prop)->Prop
abbrev TA:=St->Hp->(List V->Hp->Prop)->Prop
structure Ends where
 nx:St->Hp->Prop
 rt:VK
 bk:St->Hp->Prop:=fun _ _=>False
 ct:St->Hp->Prop:=fun _ _=>False
abbrev TS:=Ends->St->Hp->Prop
def EP(X:Cx)(pins:List (Addr×Obj))(σ:St)(Q:VK)(u:Value)(s':Shared):Prop:=∃v H',Inv X pins σ H' s'/\RelV v u/\Q v H'
def TP(X:Cx)(pins:List (Addr×Obj))(σ:St)(Q:Bool->Hp->Prop)(b:Bool)(s':Shared):Prop:=∃H',Inv X pins σ H' s'/\Q b H'
def AP(X:Cx)(pins:List (Addr×Obj))(σ:St)(Q:List V->Hp->Prop)(us:List Value)(s':Shared):Prop:=∃vs H',Inv X pins σ H' s'/\Vals vs us/\Q vs H'
def SP(X:Cx)(pins:List (Addr×Obj))(D:Ends)(f:Flow)(s':Shared):Prop :=
 match f with
 |.next=>∃σ' H',Inv X pins σ' H' s'/\D.nx σ' H'
 |.brk=>∃σ' H',Inv X pins σ' H' s'/\D.bk σ' H'
 |.cont=>∃σ' H',Inv X pins σ' H' s'/\D.ct σ' H'
 |.ret u=>∃v σ' H',Inv X pins σ' H' s'/\RelV v u/\D.rt v H'
def PE(X:Cx)(e:Expr)(t:TE):Prop :=
 ∀(pins:List (Addr×Obj)) (s:Shared) (σ:St) (H:Hp) (Q:VK),Inv X pins σ H s->t σ H Q->wpAny (model X.prog X.w) X.A (eval e X.env) (EP X pins σ Q) X.xe s
def PT(X:Cx)(e:Expr)(t:TT):Prop :=
 ∀(pins:List (Addr×Obj)) (s:Shared) (σ:St) (H:Hp) (Q:Bool->Hp->Prop),Inv X pins σ H s->t σ H Q->wpAny (model X.prog X.w) X.A (isTrue e X.env (eval e X.env)) (TP X pins σ Q) X.xe s
def PW(X:Cx)(e:Expr)(t:TT):Prop :=
 ∀(whole:Sem Value) (pins:List (Addr×Obj)) (s:Shared) (σ:St) (H:Hp) (Q:Bool->Hp->Prop),Inv X pins σ H s->t σ H Q->wpAny (model X.prog X.w) X.A (isTrue e X.env whole) (TP X pins σ Q) X.xe s
theorem PW.pt{X:Cx}{e:Expr}{t:TT}(h:PW X e t):PT X e t:=h _
def PA(X:Cx)(es:List Expr)(t:TA):Prop :=
 ∀(pos:Pos) (pins:List (Addr×Obj)) (s:Shared) (σ:St) (H:Hp) (Q:List V->Hp->Prop),Inv X pins σ H s->t σ H Q->wpAny (model X.prog X.w) X.A (spliced (backTo pos (starEach es X.env))) (AP X pins σ Q) X.xe s
def PS(X:Cx)(st:Stmt)(t:TS):Prop :=
 ∀(pins:List (Addr×Obj)) (s:Shared) (σ:St) (H:Hp) (D:Ends),Inv X pins σ H s->t D σ H->wpAny (model X.prog X.w) X.A (exec st X.env) (SP X pins D) X.xe s
def PSs(X:Cx)(st:List Stmt)(t:TS):Prop :=
 ∀(pins:List (Addr×Obj)) (s:Shared) (σ:St) (H:Hp) (D:Ends),Inv X pins σ H s->t D σ H->wpAny (model X.prog X.w) X.A (execs st X.env) (SP X pins D) X.xe s
theorem thn{α:Type}{t:Sem α}{Q Q':α->Shared->Prop}{M:Model}{A:Around}{E:Value->Shared->Prop}{s:Shared}(h:wpAny M A t Q E s)(hQ:∀a s,Q a s->Q' a s):wpAny M A t Q' E s:=ZG h hQ fun _ _ x=>x
open PySem PySem.Spec PyProof.Rows
section
variable{X:Cx}
def rB(i:Nat):TE:=fun σ H Q=>∃v,σ[i]?=some (some v)/\Q v H
def tC(v:V):TE:=fun _ H Q=>Q v H
theorem A9{i:Nat}{x:Str}{pos:Pos}(hN:X.N[i]?=some x)(hv:Vis X.env.scope x)(hd:(x==("__debug__":Str))=false:=by decide)(hcd:(x==("__classdict__":Str))=false:=by decide):PE X (.Name x pos) (rB i):=by
 intro pins s σ H Q I h;obtain⟨v,e,h⟩:=h;obtain⟨m,hn,hl⟩:=I.loc;obtain⟨u,r,l⟩:=hl i x v hN e hv;have fin:EP X pins σ Q u s:=⟨v,H,I,r,h⟩
 rcases l with⟨hk,hm⟩|⟨hk,c,hc,hcell⟩
 ·exact wpAny_Name (wpAny_loadName_local I.ok.kind hk hn hm fin) hd
 ·rcases hk with hk|hk
  ·exact wpAny_Name (wpAny_loadName_cell I.ok.kind hk hc hcell fin) hd
  ·exact wpAny_Name (wpAny_loadName_free I.ok.kind hk hc hcell fin hcd) hd
theorem AV{i j pos}:PE X (.Constant (.int i) j pos) (tC (.int i)):=fun _ _ _ H _ I h=>wpAny_Constant_int ⟨.int i,H,I.tok _,⟨_,rfl⟩,h⟩
theorem Cv{b j pos}:PE X (.Constant (.bool b) j pos) (tC (.bl b)):=fun _ _ _ H _ I h=>Constant_bool ⟨.bl b,H,I,rfl,h⟩
theorem AX{j pos}:PE X (.Constant .none j pos) (tC .non):=fun _ _ _ H _ I h=>Constant_none ⟨.non,H,I,rfl,h⟩
theorem A0{x j pos}:PE X (.Constant (.str x) j pos) (tC (.str x)):=fun _ _ _ H _ I h=>Calls.Constant_str ⟨.str x,H,I.tok _,⟨_,rfl⟩,h⟩
def Gl(X:Cx)(x:Str):Prop:=X.env.kindOf x=some .globalImplicit
theorem dS{E:Value->Shared->Prop}{pins:List (Addr×Obj)}{s:Shared}{σ:St}{H:Hp}{x:Str}{u:Value}{pos:Pos}{Q:Value->Shared->Prop}(I:Inv X pins σ H s)(hg:Gl X x)(hm:X.mg x=some u)(h:Q u s)(hd:(x==("__debug__":Str))=false:=by decide):wpAny (model X.prog X.w) X.A (eval (.Name x pos) X.env) Q E s :=
 Calls.Name_function_global I.ok.kind hg (Calls.loadGlobal_global (by rw[I.ok.glob];exact I.mod.glob.keeps I.bk) hm h) hd
theorem fi{E:Value->Shared->Prop}{pins:List (Addr×Obj)}{s:Shared}{σ:St}{H:Hp}{x:Str}{u:Value}{pos:Pos}{Q:Value->Shared->Prop}(I:Inv X pins σ H s)(hg:Gl X x)(hm:X.mg x=none)(hv:bootBuiltins x=some u)(h:Q u s)(hn:x≠"__name__":=by decide)(hd:(x==("__debug__":Str))=false:=by decide):wpAny (model X.prog X.w) X.A (eval (.Name x pos) X.env) Q E s:=by obtain⟨mb,h1,h2⟩:=I.mod.blt;exact Calls.Name_function_global I.ok.kind hg (Calls.loadGlobal_builtin (by rw[I.ok.glob];exact I.mod.glob.keeps I.bk) hm (by rw[I.ok.blt];exact h1.keeps I.bk) ((h2 x hn).trans hv) h) hd
theorem kB{x:Str}{v:V}{u:Value}{pos:Pos}(hg:Gl X x)(hm:X.mg x=some u)(r:RelV v u)(hd:(x==("__debug__":Str))=false:=by decide):PE X (.Name x pos) (tC v) :=
 fun _ _ _ H _ I h=>dS I hg hm ⟨v,H,I,r,h⟩ hd
variable{a b:Expr}{ta tb:TE}{pos:Pos}
def PC(X:Cx)(op:CmpOp)(a b:Expr)(t:TE):Prop :=
 ∀(pins:List (Addr×Obj)) (s:Shared) (σ:St) (H:Hp) (Q:VK),Inv X pins σ H s->t σ H Q ->
  wpAny (model X.prog X.w) X.A (eval a X.env) (fun v s₁=>wpAny (model X.prog X.w) X.A (eval b X.env) (fun u s₂=>wpAny (model X.prog X.w) X.A (compareOp op v u) (EP X pins σ Q) X.xe s₂) X.xe s₁) X.xe s
def tB(t:TE):TT:=fun σ H Q=>t σ H fun x H1=>∃c,x=.bl c/\Q c H1
theorem AT{op:CmpOp}{t:TE}(h:PC X op a b t)(h1:behindInMarks op b=false:=by first|exact nobehind _ (by decide) (by decide)|rfl):PE X (.Compare a [op] [b] pos) t:=fun pins s σ H Q I hw=>wpAny_Compare1 (h pins s σ H Q I hw) h1
theorem tH{op:CmpOp}{t:TE}(h:PC X op a b t)(h1:behindInMarks op b=false:=by first|exact nobehind _ (by decide) (by decide)|rfl):PT X (.Compare a [op] [b] pos) (tB t):=by intro pins s σ H Q I hw;refine wpAny_isTrue_Compare1 (thn (h pins s σ H _ I hw) fun v s1 h1=>thn h1 fun u s2 h2=>thn h2 fun c s3 hz9=>?_) h1;obtain⟨x,H1,I1,r1,q1⟩:=hz9;obtain⟨d,rfl,q⟩:=q1;cases r1;exact wpAny_truthy_bool ⟨H1,I1,q⟩
theorem Bp{e:Expr}{t:TE}(h:PE X e t)(he:∀whole,isTrue e X.env whole=(do let v ←whole;standAt e.pos;holding [v] (truthy v)):=by intro _;rfl):PT X e (tB t):=by intro pins s σ H Q I hw;refine isTrue_plain (thn (h pins s σ H _ I hw) fun v s1 hz9=>?_) (he _);obtain⟨x,H1,I1,r1,q1⟩:=hz9;obtain⟨d,rfl,q⟩:=q1;cases r1;exact wpAny_truthy_bool ⟨H1,I1,q⟩
variable{tA tB':TT}{rest:List Expr}
def BM(t u:TT):TT:=fun σ H Q=>t σ H fun c H1=>if c=true then u σ H1 Q else Q false H1
def tOr(t u:TT):TT:=fun σ H Q=>t σ H fun c H1=>if c=true then Q true H1 else u σ H1 Q
def BS(t:TT):TT:=fun σ H Q=>t σ H fun c H1=>Q (!c) H1
theorem yM(ha:PT X a tA):PW X (.BoolOp .And [a] pos) tA:=by
 intro wh pins s σ H Q I h;refine isTrue_and (thn (ha pins s σ H Q I h) fun c s1 e=>?_);cases c with
 |true=>exact isTrue_and_nil e
 |false=>exact e
theorem Br(ha:PT X a tA):PW X (.BoolOp .Or [a] pos) tA:=by
 intro wh pins s σ H Q I h;refine isTrue_or (thn (ha pins s σ H Q I h) fun c s1 e=>?_);cases c with
 |false=>exact isTrue_or_nil e
 |true=>exact e
theorem Bq(ha:PT X a tA)(hb:PW X (.BoolOp .And (b::rest) pos) tB'):PW X (.BoolOp .And (a::b::rest) pos) (BM tA tB'):=by
 intro wh pins s σ H Q I h;refine isTrue_and (thn (ha pins s σ H _ I h) fun c s1 ⟨H1,I1,q1⟩=>?_);cases c with
 |true=>exact hb wh pins s1 σ H1 Q I1 q1
 |false=>exact⟨H1,I1,q1⟩
theorem CD(ha:PT X a tA)(hb:PW X (.BoolOp .Or (b::rest) pos) tB'):PW X (.BoolOp .Or (a::b::rest) pos) (tOr tA tB'):=by
 intro wh pins s σ H Q I h;refine isTrue_or (thn (ha pins s σ H _ I h) fun c s1 ⟨H1,I1,q1⟩=>?_);cases c with
 |true=>exact⟨H1,I1,q1⟩
 |false=>exact hb wh pins s1 σ H1 Q I1 q1
theorem Bo(ha:PT X a tA):PT X (.UnaryOp .Not a pos) (BS tA):=by intro pins s σ H Q I h;exact isTrue_not (ha pins s σ H (fun c H1=>Q (!c) H1) I h)
def xq(ta tb:TE):TE:=fun σ H Q=>ta σ H fun x H1=>∃c,x=.bl c/\if c=true then tb σ H1 Q else Q (.bl false) H1
def xy(ta:TE):TE:=fun σ H Q=>ta σ H fun x H1=>∃c,x=.bl c/\Q (.bl (!c)) H1
theorem AZ{op}{t:TE}(h:PE X a t):PE X (.BoolOp op [a] pos) t:=fun pins s σ H Q I hw=>BoolOp_one (h pins s σ H Q I hw)
theorem AR(ha:PE X a ta)(hb:PE X (.BoolOp .And (b::rest) pos) tb):PE X (.BoolOp .And (a::b::rest) pos) (xq ta tb):=by
 intro pins s σ H Q I h;refine BoolOp_and (thn (ha pins s σ H _ I h) fun v s1 hz9=>?_);obtain⟨x,H1,I1,r1,q1⟩:=hz9;obtain⟨c,rfl,q1⟩:=q1;cases r1;refine wpAny_truthy_bool ?_;cases c with
 |true=>exact hb pins s1 σ H1 Q I1 q1
 |false=>exact⟨.bl false,H1,I1,rfl,q1⟩
theorem AY(ha:PE X a ta):PE X (.UnaryOp .Not a pos) (xy ta):=by intro pins s σ H Q I h;refine UnaryOp_ (thn (ha pins s σ H _ I h) fun v s1 hz9=>?_);obtain⟨x,H1,I1,r1,q1⟩:=hz9;obtain⟨c,rfl,q1⟩:=q1;cases r1;exact not_of (wpAny_truthy_bool ⟨.bl (!c),H1,I1,rfl,q1⟩)
def tIf(t:TT)(ta tb:TE):TE:=fun σ H Q=>t σ H fun c H1=>if c=true then ta σ H1 Q else tb σ H1 Q
theorem vF{c:Expr}(hc:PT X c tA)(ha:PE X a ta)(hb:PE X b tb):PE X (.IfExp c a b pos) (tIf tA ta tb):=by
 intro pins s σ H Q I h;refine wpAny_IfExp (thn (hc pins s σ H _ I h) fun d s1 ⟨H1,I1,q1⟩=>?_);cases d with
 |true=>exact ha pins s1 σ H1 Q I1 q1
 |false=>exact hb pins s1 σ H1 Q I1 q1
end
open PySem PySem.Spec PyProof.Rows
def SqL(K:PySem.W.Frag)(H:Hp)(a:Addr)(xs:List V):Prop :=
 Rd H a (.lst xs) \/
  ∃(o:Obj) (its:Array Value) (n:Nat),K.lookup a=some o/\o.cls=.type "list"/\o.dict=none/\o.data=.seq its n/\its.size<=sizeLine/\Vals xs its.toList
def SqT(K:PySem.W.Frag)(H:Hp)(a:Addr)(xs:List V):Prop :=
 Rd H a (.tup xs) \/
  ∃(o:Obj) (its:Array Value) (n:Nat),K.lookup a=some o/\o.cls=.type "tuple"/\o.data=.seq its n/\its.size<=sizeLine/\Vals xs its.toList
def CZ:Value->Option V
 |.none=>some .non
 |.bool b=>some (.bl b)
 |.int i _=>some (.int i)
 |.str x _=>some (.str x)
 |.bytes b _=>some (.byt b)
 |.float b _=>some (.flt b)
 |.ref a=>some (.ref a)
 |.type n=>some (.ty n)
 |_=>none
theorem RelV.abs{x:V}{u:Value}(r:RelV x u):CZ u=some x:=by
 cases x with
 |non=>cases r;rfl
 |bl _=>cases r;rfl
 |int _=>obtain⟨t,rfl⟩:=r;rfl
 |str _=>obtain⟨t,rfl⟩:=r;rfl
 |byt _=>obtain⟨t,rfl⟩:=r;rfl
 |flt _=>obtain⟨t,rfl⟩:=r;rfl
 |ref _=>cases r;rfl
 |ty _=>cases r;rfl
theorem RelV.inj{x y:V}{u:Value}(r:RelV x u)(q:RelV y u):x=y:=Zu (r.abs.symm.trans q.abs)
theorem Vals.inj:∀{xs ys:List V} {us:List Value},Vals xs us->Vals ys us->xs=ys
 |_,_,_,.nil,.nil=>rfl
 |_,_,_,.cons r t,.cons r' t'=>by rw[r.inj r',Vals.inj t t']
section
variable{X:Cx}{pins:List (Addr×Obj)}{σ:St}{H:Hp}{s:Shared}{a:Addr}{xs ys:List V}
theorem SqL.of{K:PySem.W.Frag}(h:H a=some (.lst xs)):SqL K H a xs:=.inl (.inl h)
theorem SqT.of{K:PySem.W.Frag}(h:H a=some (.tup xs)):SqT K H a xs:=.inl (.inl h)
theorem Inv.list(I:Inv X pins σ H s)(h:SqL X.K H a xs):∃its:List Value,Vals xs its/\PlainL s.heap a its.toArray/\xs.length<=sizeLine:=by
 rcases h with h|⟨o,its,n,hk,hc,hd,hs,hz,r⟩
 ·obtain⟨z,its,n,r,e⟩:=h.ok I.hok;exact⟨its,r,⟨_,n,e,rfl,rfl,rfl⟩,z⟩
 ·refine⟨its.toList,r,⟨o,n,I.kIn a o hk,hc,hd,by simpa using hs⟩,?_⟩;have e:=r.length;simp only[Zt]at e;omega
theorem Inv.tuple(I:Inv X pins σ H s)(h:SqT X.K H a xs):∃its:List Value,Vals xs its/\IsTup s.heap a its.toArray/\xs.length<=sizeLine:=by
 rcases h with h|⟨o,its,n,hk,hc,hs,hz,r⟩
 ·obtain⟨z,its,r,p⟩:=h.ok I.hok;exact⟨its,r,p,z⟩
 ·refine⟨its.toList,r,⟨o,I.kIn a o hk,hc,n,by simpa using hs⟩,?_⟩;have e:=r.length;simp only[Zt]at e;omega
theorem Inv.list_inj(I:Inv X pins σ H s)(h:SqL X.K H a xs)(h':SqL X.K H a ys):xs=ys:=by
 obtain⟨its,r,⟨o,n,e,_,_,d⟩,_⟩:=I.list h;obtain⟨its',r',⟨o',n',e',_,_,d'⟩,_⟩:=I.list h';rw[e]at e';cases e';rw[d]at d';injection d' with d1 _;have:its=its':=by simpa using Yx Array.toList d1
 subst this;exact r.inj r'
end
abbrev Cx.wish(X:Cx)(E:Value->Shared->Prop):Cx:={ X with xe:=E }
abbrev Cx.nox(X:Cx):Cx:=X.wish fun _ _=>False
theorem Cx.Ok.wish{X:Cx}(ok:X.Ok)(E:Value->Shared->Prop):(X.wish E).Ok :=
 ⟨ok.mod,ok.kind,ok.glob,ok.blt,ok.above,ok.inj,ok.has,ok.cab,ok.hd,ok.frames,ok.stk,ok.exf,ok.bs,ok.bsz,ok.noex,ok.exfs,ok.funs,ok.frf⟩
theorem Cx.Ok.unwish{X:Cx}{E:Value->Shared->Prop}(ok:(X.wish E).Ok):X.Ok :=
 ⟨ok.mod,ok.kind,ok.glob,ok.blt,ok.above,ok.inj,ok.has,ok.cab,ok.hd,ok.frames,ok.stk,ok.exf,ok.bs,ok.bsz,ok.noex,ok.exfs,ok.funs,ok.frf⟩
section
variable{X:Cx}{pins:List (Addr×Obj)}{σ:St}{H:Hp}{s:Shared}{E:Value->Shared->Prop}
theorem Inv.wish(I:Inv X pins σ H s)(E:Value->Shared->Prop):Inv (X.wish E) pins σ H s:=⟨I.ok.wish E,I.os,I.bare,I.base,I.loc,I.cell,I.free,I.freeC,I.pin,I.hok,I.len⟩
theorem Inv.unwish(I:Inv (X.wish E) pins σ H s):Inv X pins σ H s:=⟨I.ok.unwish,I.os,I.bare,I.base,I.loc,I.cell,I.free,I.freeC,I.pin,I.hok,I.len⟩
theorem SP.unwish{D:Ends}{f:Flow}{s':Shared}(h:SP (X.wish E) pins D f s'):SP X pins D f s':=by
 cases f with
 |next=>obtain⟨σ',H',I,q⟩:=h;exact⟨σ',H',I.unwish,q⟩
 |brk=>obtain⟨σ',H',I,q⟩:=h;exact⟨σ',H',I.unwish,q⟩
 |cont=>obtain⟨σ',H',I,q⟩:=h;exact⟨σ',H',I.unwish,q⟩
 |ret u=>obtain⟨v,σ',H',I,r,q⟩:=h;exact⟨v,σ',H',I.unwish,r,q⟩
theorem PSs.nox{st:List Stmt}{t:TS}(h:PSs X.nox st t):PSs X st t:=fun pins s σ H D I hw =>
 ZG (h pins s σ H D (I.wish _) hw) (fun _ _ q=>q.unwish) fun _ _ z=>False.elim z
end
section
variable{X:Cx}{st:Stmt}{rest:List Stmt}{t u:TS}{e:Expr}{te:TE}{pos:Pos}
def xx:TS:=fun D σ H=>D.nx σ H
def wm(t u:TS):TS:=fun D σ H=>t { D with nx:=u D } σ H
theorem yJ:PSs X [] xx:=fun _ _ σ H _ I h=>wpAny_execs_nil ⟨σ,H,I,h⟩
theorem vO(h1:PS X st t)(h2:PSs X rest u):PSs X (st::rest) (wm t u):=by
 intro pins s σ H D I h;refine wpAny_execs_cons (thn (h1 pins s σ H { D with nx:=u D } I h) fun f s1 q=>?_);cases f with
 |next =>obtain⟨σ',H',I',q⟩:=q;exact h2 pins s1 σ' H' D I' q
 |ret v=>exact q
 |brk=>exact q
 |cont=>exact q
theorem yK(h1:PS X st t):PSs X [st] t:=by
 intro pins s σ H D I h;refine wpAny_execs_cons (thn (h1 pins s σ H D I h) fun f s1 q=>?_);cases f with
 |next=>exact wpAny_execs_nil q
 |ret v=>exact q
 |brk=>exact q
 |cont=>exact q
theorem Inv.quiet{pins:List (Addr×Obj)}{σ:St}{H:Hp}{s:Shared}(I:Inv X pins σ H s):interactive X.env=false:=by simp[interactive,I.ok.kind]
def xu(te:TE):TS:=fun D σ H=>te σ H fun _ H1=>D.nx σ H1
theorem yH(he:PE X e te)(hs:swapsWith e none pos.line X.env=pure false:=by rfl):PS X (.Expr e pos) (xu te):=by intro pins s σ H D I h;exact wpAny_Expr_any (thn (he pins s σ H _ I h) fun v s1 ⟨x,H1,I1,r1,q1⟩=>⟨σ,H1,I1,q1⟩) I.quiet hs
def BT(te:TE):TS:=fun D σ H=>te σ H D.rt
theorem Bm(he:PE X e te):PS X (.Return (some e) pos) (BT te):=by intro pins s σ H D I h;exact wpAny_Return_some (thn (he pins s σ H _ I h) fun v s1 ⟨x,H1,I1,r1,q1⟩=>⟨x,σ,H1,I1,r1,q1⟩)
def BP(c:TT)(t u:TS):TS:=fun D σ H=>c σ H fun b H1=>if b=true then t D σ H1 else u D σ H1
theorem CC{c:Expr}{a b:List Stmt}{tc:TT}(hc:PT X c tc)(ha:PSs X a t)(hb:PSs X b u):PS X (.If c a b pos) (BP tc t u):=by
 intro pins s σ H D I h;refine wpAny_If (thn (hc pins s σ H _ I h) fun d s1 ⟨H1,I1,q1⟩=>?_);cases d with
 |true=>exact ha pins s1 σ H1 D I1 q1
 |false=>exact hb pins s1 σ H1 D I1 q1
end
abbrev TG:=V->St->Hp->(St->Hp->Prop)->Prop
abbrev TGs:=List V->St->Hp->(St->Hp->Prop)->Prop
def PG(X:Cx)(target:Expr)(t:TG):Prop :=
 ∀(pins:List (Addr×Obj)) (s:Shared) (σ:St) (H:Hp) (v:V) (u:Value) (Q:St->Hp->Prop),Inv X pins σ H s->RelV v u->t v σ H Q ->
  wpAny (model X.prog X.w) X.A (assign target X.env u) (fun _ s'=>∃σ' H',Inv X pins σ' H' s'/\Q σ' H') X.xe s
def PGs(X:Cx)(ts:List Expr)(t:TGs):Prop :=
 ∀(pins:List (Addr×Obj)) (s:Shared) (σ:St) (H:Hp) (vs:List V) (us:List Value) (Q:St->Hp->Prop),Inv X pins σ H s->Vals vs us->t vs σ H Q ->
  wpAny (model X.prog X.w) X.A (assignInOrder ((assignEach ts X.env).map (·.2)) us) (fun _ s'=>∃σ' H',Inv X pins σ' H' s'/\Q σ' H') X.xe s
abbrev mC:=V->V->V->Hp->(Hp->Prop)->Prop
def uH(X:Cx)(t:mC):Prop :=
 ∀(pins:List (Addr×Obj)) (s:Shared) (σ:St) (H:Hp) (o i v:V) (ov iv u:Value) (Q:Hp->Prop),Inv X pins σ H s->RelV o ov->RelV i iv->RelV v u->t o i v H Q ->
  wpAny (model X.prog X.w) X.A (setItem ov iv u) (fun _ s'=>∃H',Inv X pins σ H' s'/\Q H') X.xe s
abbrev TIp:=V->V->Hp->VK->Prop
def PIp(X:Cx)(op:Operator)(t:TIp):Prop :=
 ∀(pins:List (Addr×Obj)) (s:Shared) (σ:St) (H:Hp) (x y:V) (v u:Value) (Q:VK),Inv X pins σ H s->RelV x v->RelV y u->t x y H Q ->
  wpAny (model X.prog X.w) X.A (inplaceOp op v u) (EP X pins σ Q) X.xe s
section
variable{X:Cx}{pos:Pos}
def br(i:Nat):TG:=fun v σ H Q=>Q (σ.set i (some v)) H
theorem yw{i:Nat}{x:Str}(hN:X.N.Nodup)(hi:X.N[i]?=some x)(hx:Loc X.env.scope x)(hf:X.fn x=true\/X.env.scope.names.lookup x=some .local:=by first|exact .inl rfl|exact .inr rfl|assumption):PG X (.Name x pos) (br i):=by intro pins s σ H v u Q I r h;exact wpAny_assign_Name (nW I hN hi hx r (fun s' I'=>⟨_,H,I',h⟩) hf)
def iQ:TGs:=fun vs σ H Q=>vs=[]/\Q σ H
def di(t:TG)(u:TGs):TGs:=fun vs σ H Q=>∃v r,vs=v::r/\t v σ H fun σ' H'=>u r σ' H' Q
theorem yx:PGs X [] iQ:=by intro pins s σ H vs us Q I r h;obtain⟨e,h⟩:=h;subst e;cases r;exact assignInOrder_nil ⟨σ,H,I,h⟩
theorem vI{e:Expr}{es:List Expr}{t:TG}{u:TGs}(h1:PG X e t)(h2:PGs X es u)(hs:(assignEach (e::es) X.env).map (·.2)=assign e X.env::(assignEach es X.env).map (·.2):=by rfl):PGs X (e::es) (di t u):=by
 intro pins s σ H vs us Q I r h;obtain⟨v,vr,e1,h⟩:=h;subst e1;cases r with
 |cons r rr =>rw[hs];refine assignInOrder_cons (thn (h1 pins s σ H _ _ _ I r h) fun _ s1 ⟨σ1,H1,I1,q1⟩=>?_);exact h2 pins s1 σ1 H1 _ _ Q I1 rr q1
def iR(K:PySem.W.Frag)(n:Nat)(t:TGs):TG:=fun v σ H Q=>∃a xs,v=.ref a/\SqT K H a xs/\xs.length=n/\t xs σ H Q
theorem Bb{es:List Expr}{k:Nat}{t:TGs}{n:Nat}(hc:X.calm=true)(h:PGs X es t)(hn:(assignEach es X.env).length=n:=by rfl)(hst:(assignEach es X.env).findIdx? (·.1)=none:=by rfl):PG X (.Tuple es k pos) (iR X.K n t):=by intro pins s σ H v u Q I r hw;obtain⟨a,xs,e1,hq,hl,hw⟩:=hw;subst e1;cases r;obtain⟨its,rv,ht,hz⟩:=I.tuple hq;refine assign_Tuple_tuple (I.ok.hd hc) ht (by simp[hn,<-hl,rv.length]) hst fun h' hx=>?_;have I1:Inv X pins σ H { s with heap:=h' }:=I.kept (t':=s.toks) fun b o e=>hx b o (ZA (Zm e)) e;exact h pins _ σ H xs _ Q I1 (by simpa using rv) hw
def zW(to ti:TE)(t:mC):TG:=fun v σ H Q=>to σ H fun o H1=>ti σ H1 fun i H2=>t o i v H2 fun H3=>Q σ H3
theorem Ba{o i:Expr}{to ti:TE}{t:mC}(ho:PE X o to)(hi:PE X i ti)(hs:uH X t)(ha:∀ v,assign (.Subscript o i pos) X.env v=(do
   let ov ←holding [v] (eval o X.env)
   let iv ←holding [v,ov] (eval i X.env)
   standAt pos
   holding [v,ov,iv] (setItem ov iv v)
   release [v,ov,iv] []):=by intro _;rfl):PG X (.Subscript o i pos) (zW to ti t):=by
 intro pins s σ H v u Q I r h;rw[ha];refine Za (ZV (thn (ho pins s σ H _ I h) fun ov s1 hz9=>?_));obtain⟨x,H1,I1,r1,q1⟩:=hz9;refine Za (ZV (thn (hi pins s1 σ H1 _ I1 q1) fun iv s2 hz9=>?_));obtain⟨y,H2,I2,r2,q2⟩:=hz9;refine Za (wpAny_standAt (Za (ZV (thn (hs pins s2 σ H2 x y v ov iv u _ I2 r1 r2 r q2) fun _ s3 ⟨H3,I3,q3⟩=>?_))));exact wpAny_release ⟨σ,H3,I3,q3⟩
def kQ(te:TE)(g:TG):TS:=fun D σ H=>te σ H fun x H1=>g x σ H1 D.nx
theorem Bj{tg e:Expr}{te:TE}{g:TG}(he:PE X e te)(hg:PG X tg g)(hs:swapsWithSole [tg] e pos.line X.env=pure false:=by rfl)(hw:swappedStores [tg] e X.env=pure none:=by rfl)(h1:(assignEach [tg] X.env).map (·.2)=[assign tg X.env]:=by rfl):PS X (.Assign [tg] e pos) (kQ te g):=by intro pins s σ H D I h;refine wpAny_Assign_stores (thn (he pins s σ H _ I h) fun v s1 hz9=>?_) hs hw;obtain⟨x,H1,I1,r1,q1⟩:=hz9;rw[h1];exact thn (hg pins s1 σ H1 x v _ I1 r1 q1) fun _ s2 q=>q
theorem Bn{i:Nat}{x:Str}{e:Expr}{te:TE}{pos':Pos}(hN:X.N.Nodup)(hi:X.N[i]?=some x)(hx:Loc X.env.scope x)(he:PE X e te)(hs:swapsWith e (some (.Name x pos')) pos.line X.env=pure false:=by rfl)(hf:X.fn x=true\/X.env.scope.names.lookup x=some .local:=by first|exact .inl rfl|exact .inr rfl|assumption) :
  PS X (.Assign [.Name x pos'] e pos) (kQ te (br i)):=by
 intro pins s σ H D I h;refine wpAny_Assign_Name (thn (he pins s σ H _ I h) fun v s1 hz9=>?_) hs;obtain⟨y,H1,I1,r1,q1⟩:=hz9;exact nW I1 hN hi hx r1 (fun s2 I2=>⟨_,H1,I2,q1⟩) hf
end
section
variable{X:Cx}{pos:Pos}
def uh(c:TT)(tb:TS):TS:=fun D σ H=>∃W:Nat->St->Hp->Prop,(∃m,W m σ H)/\∀m σ H,W m σ H ->
 c σ H fun b H1=>if b=true then∃N:St->Hp->Prop,(∀σ' H',N σ' H'->∃m',m'<m/\W m' σ' H')/\tb { D with nx:=N,ct:=N,bk:=D.nx } σ H1 else D.nx σ H1
theorem vN{c:Expr}{body:List Stmt}{tc:TT}{tb:TS}(hp:PassesOwn (model X.prog X.w) X.A X.env X.xe)(hc:PT X c tc)(hb:PSs X body tb):PS X (.While c body [] pos) (uh tc tb):=by
 intro pins s σ H D I h;obtain⟨W,⟨m0,w0⟩,turn⟩:=h;refine wpAny_While (codeAny_whileLoop (fun n s'=>∃σ' H',Inv X pins σ' H' s'/\W n σ' H') ?_ m0 ⟨σ,H,I,w0⟩);rintro n s1 ⟨σ1,H1,I1,w1⟩;refine wpAny_passesOwn hp (thn (hc pins s1 σ1 H1 _ I1 (turn n σ1 H1 w1)) fun b s2 ⟨H2,I2,q2⟩=>?_);cases b with
 |true =>
  obtain⟨N,hN,q2⟩:=q2;rw[if_pos rfl];refine wpAny_passesOwn hp (thn (hb pins s2 σ1 H2 _ I2 q2) fun f s3 q3=>?_);cases f with
  |next =>obtain⟨σ3,H3,I3,n3⟩:=q3;obtain⟨m',hm,w3⟩:=hN σ3 H3 n3;exact⟨m',hm,σ3,H3,I3,w3⟩
  |cont =>obtain⟨σ3,H3,I3,n3⟩:=q3;obtain⟨m',hm,w3⟩:=hN σ3 H3 n3;exact⟨m',hm,σ3,H3,I3,w3⟩
  |brk=>exact q3
  |ret v=>exact q3
 |false =>rw[if_neg Zs];exact wpAny_execs_nil ⟨σ1,H2,I2,q2⟩
end
structure It where
 go:Nat->Hp->Prop
 yld:Nat->Hp->V->Hp->Prop
 stop:Nat->Hp->Prop
def aV(X:Cx)(pins:List (Addr×Obj))(H:Hp)(b:Addr):Prop :=
 H b=none/\b≠X.env.locals/\b∉X.fs/\(b∈X.ex\/X.s₀.heap.objs.size<=b)/\(∀x c,X.env.cells.lookup x=some c->c≠b)/\∀p∈X.pn++pins,p.1≠b
theorem Inv.fpOk{X:Cx}{pins:List (Addr×Obj)}{σ:St}{H H':Hp}{s:Shared}{b:Addr}(I:Inv X pins σ H s)(hb:s.heap.objs.size<=b)(hn:H' b=none):aV X pins H' b:=by
 refine⟨hn,Yh (Zx I.lt hb),I.nofs hb,.inr (ZC I.sz hb),fun x c e z=>?_,fun p hp z=>?_⟩
 ·obtain⟨v,q⟩:=I.cell x c e;exact absurd (Zx q.lt (by rw[z];exact hb)) (Yw _)
 ·exact absurd (Zx (Zm (I.pin p hp).1) (by rw[z];exact hb)) (Yw _)
structure Turn(P:Program)(w:World)(K:PySem.W.Frag)(tg:Expr)(J:It)(fp:List Addr)(it:Addr)(tn:Nat->Heap->Prop):Prop where
 mem:it∈fp
 obj:∀i h,tn i h->∀b∈fp,∃o,h.get? b=some o/\∀v,o.data≠.cell v
 keep:∀i h h',tn i h->(∀b∈fp,∀o,h.get? b=some o->h'.get? b=some o)->tn i h'
 item:∀(X:Cx),X.prog=P->X.w=w->X.K=K->X.calm=true->∀(i:Nat) (pins:List (Addr×Obj)) (s:Shared) (σ:St) (H:Hp) (E:Value->Shared->Prop),Inv X pins σ H s->(∀b∈fp,aV X pins H b)->tn i s.heap->J.go i H ->
  wpAny (model P w) X.A (pyNext (.ref it)) (fun r s1=>∃ u,r=some u /\
   wpAny (model P w) X.A (letOwnedTupleGo tg (.ref it) u) (fun _ s2=>∃ x H',Inv X pins σ H' s2/\RelV x u/\J.yld i H x H'/\tn (i+1) s2.heap/\∀ b∈fp,H' b=none) E s1) E s
 done:∀(X:Cx),X.prog=P->X.w=w->X.K=K->X.calm=true->∀(i:Nat) (pins:List (Addr×Obj)) (s:Shared) (σ:St) (H:Hp) (E:Value->Shared->Prop),Inv X pins σ H s->(∀b∈fp,aV X pins H b)->tn i s.heap->J.stop i H ->
  wpAny (model P w) X.A (pyNext (.ref it)) (fun r s1=>r=none/\Inv X pins σ H s1) E s
 self:∀(A:Around) (i:Nat) (s:Shared) (Q:Value->Shared->Prop) (E:Value->Shared->Prop),tn i s.heap->Q (.ref it) s->wpAny (model P w) A (pyIter (.ref it)) Q E s
abbrev TI:=St->Hp->(It->Hp->Prop)->Prop
def PIE(X:Cx)(pins:List (Addr×Obj))(σ:St)(tg:Expr)(R:It->Hp->Prop)(itv:Value)(s2:Shared):Prop :=
 ∃(it:Addr) (fp:List Addr) (tn:Nat->Heap->Prop) (J:It) (H':Hp),itv=.ref it/\Inv X pins σ H' s2/\Turn X.prog X.w X.K tg J fp it tn/\tn 0 s2.heap/\(∀b∈fp,aV X pins H' b)/\R J H'
def PI(X:Cx)(tg iter:Expr)(wi:TI):Prop :=
 ∀(pins:List (Addr×Obj)) (s:Shared) (σ:St) (H:Hp) (R:It->Hp->Prop),Inv X pins σ H s->wi σ H R ->
  wpAny (model X.prog X.w) X.A (eval iter X.env) (fun v s1=>wpAny (model X.prog X.w) X.A (pyIter v) (PIE X pins σ tg R) X.xe s1) X.xe s
theorem qA{M:Model}{A:Around}{E:Value->Shared->Prop}{s:Shared}{tg:Expr}{it:Addr}{u:Value}{o:Obj}{n:String}{vs:Array Value}{Q:Unit->Shared->Prop}(ho:s.heap.get? it=some o)(hc:o.cls=.type n)(hd:o.data=.fields vs)(hn:["enumerate","zip","dict_itemiterator","dict_reverseitemiterator","odict_iterator","itertools.zip_longest","itertools.pairwise"].contains n=false)(hQ:Q () s):wpAny M A (letOwnedTupleGo tg (.ref it) u) Q E s:=by
 unfold letOwnedTupleGo;cases tg<;>first
  |exact Zd hQ
  | (cases u<;>first
    |exact Zd hQ
    | (refine Za (wpAny_load ho ?_)
       rw[hc,hd];show wpAny M A (if(["enumerate","zip","dict_itemiterator","dict_reverseitemiterator","odict_iterator","itertools.zip_longest","itertools.pairwise"].contains n&&vs[0]?==some (rawInt _))=true then _ else _) Q E s;rw[if_neg (by intro h;rw[hn,Bool.false_and]at h;cases h)];exact Zd hQ))
def Itl(K:PySem.W.Frag)(a:Addr):It :=
 ⟨fun i H=>∃xs x,SqL K H a xs/\xs[i]?=some x,fun i H x H'=>H'=H/\∀xs,SqL K H a xs->xs[i]?=some x,fun i H=>∃xs,SqL K H a xs/\xs.length<=i⟩
def Itr(lo:Int)(n:Nat):It:=⟨fun i _=>i<n,fun i H x H'=>H'=H/\x=.int (lo+i),fun i _=>n<=i⟩
theorem uo{P:Program}{w:World}{K:PySem.W.Frag}{tg:Expr}(a it:Addr):Turn P w K tg (Itl K a) [it] it (fun i h=>h.IsListIter it a i) where
 mem:=by simp
 obj:=fun i h st b hb=>by
  have e:b=it:=by simpa using hb
  subst e;obtain⟨o,e,c,d⟩:=st;exact⟨o,e,fun v z=>by rw[d]at z;cases z⟩
 keep:=fun i h h' st k=>st.at fun o e=>k it (by simp) o e
 item:=by intro X hP hw hK hc i pins s σ H E I hf st hg;subst hP hw hK;obtain⟨xs,x,hq,hx⟩:=hg;obtain⟨its,rv,p,hz⟩:=I.list hq;obtain⟨u,hu,ru⟩:=rv.get hx;obtain⟨f0,f1,f2,f3,f4,f5⟩:=hf it (by simp);refine wpAny_pyNext_list_item st p.isList (x:=u) (by simpa using hu) fun h' st' sb=>?_;have I1:Inv X pins σ H { s with heap:=h' }:=I.turned (t':=s.toks) (fun b o hb e=>(sb.2 b hb).trans e) f0 f1 f3 f4 f5;obtain⟨o,e,c,d⟩:=id st';exact⟨u,rfl,qA (s:={ s with heap:=h' }) e c d (by decide) ⟨x,H,I1,ru,⟨rfl,fun ys hy=>by rw[I.list_inj hy hq];exact hx⟩,st',fun b hb=>(hf b hb).1⟩⟩
 done:=by intro X hP hw hK hc i pins s σ H E I hf st hg;subst hP hw hK;obtain⟨xs,hq,hx⟩:=hg;obtain⟨its,rv,p,hz⟩:=I.list hq;obtain⟨f0,f1,f2,f3,f4,f5⟩:=hf it (by simp);have hl:=rv.length;exact wpAny_pyNext_list_end (I.ok.hd hc) st p.isList (by simp;omega) fun h' eb=>⟨rfl,I.turned (t':=s.toks) (fun b o hb e=>eb b o hb e) f0 f1 f3 f4 f5⟩
 self:=fun _ _ _ _ _ st h=>wpAny_pyIter_listiter st h
theorem rC{P:Program}{w:World}{K:PySem.W.Frag}{tg:Expr}(it:Addr)(lo:Int)(n:Nat):Turn P w K tg (Itr lo n) [it] it (fun i h=>IsRangeIter h it (lo+(i:Nat)*1) ((n:Int)-(i:Nat)) 1) where
 mem:=by simp
 obj:=fun i h st b hb=>by
  have e:b=it:=by simpa using hb
  subst e;exact⟨_,st,fun v z=>by
   have z':Data.fields _=Data.cell v:=z;cases z'⟩
 keep:=fun i h h' st k=>k it (by simp) _ st
 item:=by intro X hP hw hK hc i pins s σ H E I hf st hg;subst hP hw hK;obtain⟨f0,f1,f2,f3,f4,f5⟩:=hf it (by simp);have W:=Walks.range (prog:=X.prog) (w:=X.w) (I.ok.hd hc) it lo 1 n;refine W.item i s _ _ hg st fun v h' tk hv st' kk=>?_;obtain⟨t,rfl⟩:=hv;have I1:Inv X pins σ H { s with heap:=h',toks:=tk }:=I.turned (fun b o hb e=>kk b o (by simpa using hb) e) f0 f1 f3 f4 f5;refine⟨_,rfl,qA (s:={ s with heap:=h',toks:=tk }) (n:="range_iterator") st' rfl rfl (by decide) ⟨.int (lo+i),H,I1,⟨t,?_⟩,⟨rfl,rfl⟩,st',fun b hb=>(hf b hb).1⟩⟩;rw[Int.mul_one]
 done:=by intro X hP hw hK hc i pins s σ H E I hf st hg;subst hP hw hK;obtain⟨f0,f1,f2,f3,f4,f5⟩:=hf it (by simp);exact wpAny_pyNext_range_end (I.ok.hd hc) st (by have:n<=i:=hg;omega) fun h' eb=>⟨rfl,I.turned (t':=s.toks) (fun b o hb e=>eb b o hb e) f0 f1 f3 f4 f5⟩
 self:=fun _ _ _ _ _ st h=>wpAny_pyIter_rangeiter st h
open PySem PySem.Spec PyProof.Rows
section
variable{X:Cx}{tg:Expr}
def wO(K:PySem.W.Frag)(tl:TE):TI:=fun σ H R=>tl σ H fun x H1=>∃a,x=.ref a/\(∃xs,SqL K H1 a xs)/\R (Itl K a) H1
theorem yz{l:Expr}{tl:TE}(hl:PE X l tl):PI X tg l (wO X.K tl):=by
 intro pins s σ H R I h;refine thn (hl pins s σ H _ I h) fun v s1 hz9=>?_;obtain⟨x,H1,I1,r1,q1⟩:=hz9;obtain⟨a,e,⟨xs,hq⟩,q⟩:=q1;subst e;cases r1;obtain⟨its,rv,p,hz⟩:=I1.list hq;refine wpAny_pyIter_list p.isList ?_;refine⟨s1.heap.objs.size,[s1.heap.objs.size],_,_,H1,rfl,I1.kept (t':=s1.toks) fun b o e=>Zb _ e,uo a _,⟨_,Zr _ rfl,rfl,rfl⟩,fun b hb=>?_,q⟩;have e:b=s1.heap.objs.size:=by simpa using hb
 subst e;exact I1.fpOk (Ze _) (I1.hok.fresh (Ze _))
theorem vU{pins:List (Addr×Obj)}{σ:St}{H:Hp}{s:Shared}{R:It->Hp->Prop}{E:Value->Shared->Prop}{lo hi:Int}{t u v:Tok}{tk:Nat}(I:Inv X pins σ H s)(h1:-(2^62)<=lo)(h2:lo<2^62)(h3:-(2^62)<=hi)(h4:hi<2^62)(q:R (Itr lo (hi-lo).toNat) H):wpAny (model X.prog X.w) X.A (pyIter (.ref s.heap.objs.size)) (PIE X pins σ tg R) E { s with heap:=s.heap.push { cls:=.type "range",data:=.fields #[.int lo t,.int hi u,.int 1 v] },toks:=tk }:=by
 refine wpAny_pyIter_range (IsRange.new ..) (small_one h1 h2 h3 h4) ?_;have I1:Inv X pins σ H { s with heap:=s.heap.push { cls:=.type "range",data:=.fields #[.int lo t,.int hi u,.int 1 v] },toks:=tk }:=I.kept fun b o e=>Zb _ e;refine⟨(s.heap.push { cls:=.type "range",data:=.fields #[.int lo t,.int hi u,.int 1 v] }).objs.size,[(s.heap.push { cls:=.type "range",data:=.fields #[.int lo t,.int hi u,.int 1 v] }).objs.size],_,_,H,rfl,
  I1.kept (t':=tk) fun b o e=>Zb _ e,rC _ lo (hi - lo).toNat,?_,fun b hb=>?_,q⟩
 ·have e1:lo+((0:Nat):Int)*1=lo:=by simp
  have e2:(((hi-lo).toNat:Nat):Int)-((0:Nat):Int)=Builtin.Range.rangeSize lo hi 1:=by rw[rangeSize_one];split<;>omega
  show IsRangeIter _ _ (lo+((0:Nat):Int)*1) ((((hi-lo).toNat:Nat):Int)-((0:Nat):Int)) 1;rw[e1,e2];exact Zr _ rfl
 ·have e:b=(s.heap.push { cls:=.type "range",data:=.fields #[.int lo t,.int hi u,.int 1 v] }).objs.size:=by simpa using hb
  subst e;exact I1.fpOk (Ze _) (I1.hok.fresh (Ze _))
def wP(ta:TA):TI:=fun σ H R=>ta σ H fun vs H1=>∃j:Int,vs=[.int j]/\-(2^62)<=j/\j<2^62/\R (Itr 0 j.toNat) H1
theorem tm{a:Expr}{ta:TA}{p pos:Pos}(hg:Gl X "range")(hm:X.mg "range" = none)(ha:PA X [a] ta)(hs:starEach [a] X.env=[(false,eval a X.env)]:=by rfl):PI X tg (.Call (.Name "range" p) [a] [] pos) (wP ta):=by
 intro pins s σ H R I h;refine Call_ (fi I hg hm boot_range (YR (thn (ha pos pins s σ H _ I h) fun us s1 hz9=>?_) hs rfl));obtain⟨vs,H1,I1,r1,q1⟩:=hz9;obtain⟨j,e,q1,q2,q⟩:=q1;subst e;cases r1 with
 |cons r rr =>cases rr;obtain⟨t,rfl⟩:=r;exact call_range_1 (vU I1 (by omega) (by omega) q1 q2 (by simpa using q))
def BO(wi:TI)(g:TG)(tb:TS):TS:=fun D σ H=>wi σ H fun J H1=>∃W:Nat->Nat->St->Hp->Prop,(∃m,W 0 m σ H1)/\∀i m σ H,W i m σ H ->
 (J.stop i H/\D.nx σ H)\/(J.go i H/\∃N:St->Hp->Prop,(∀σ' H',N σ' H'->∃m',m'<m/\W (i+1) m' σ' H')/\∀x H',J.yld i H x H'->g x σ H' fun σ2 H2=>tb { D with nx:=N,ct:=N,bk:=D.nx } σ2 H2)
def gI(fp:List Addr)(h:Heap):List (Addr×Obj):=fp.filterMap fun b=>(h.get? b).map fun o=>(b,o)
theorem dM{fp:List Addr}{h:Heap}{b:Addr}{o:Obj}(hb:b∈fp)(e:h.get? b=some o):(b,o)∈gI fp h:=Yz.mpr ⟨b,hb,by rw[e];rfl⟩
theorem sO{fp:List Addr}{h:Heap}{p:Addr×Obj}(hp:p∈gI fp h):p.1∈fp/\h.get? p.1=some p.2:=by
 obtain⟨b,hb,e⟩:=Yz.mp hp;cases q:h.get? b with
 |none=>rw[q]at e;cases e
 |some o =>rw[q]at e;have e':(b,o)=p:=Zu e;subst e';exact⟨hb,q⟩
theorem Inv.pinned{pins:List (Addr×Obj)}{σ:St}{H:Hp}{s:Shared}{fp:List Addr}(I:Inv X pins σ H s)(hf:∀b∈fp,aV X pins H b)(ho:∀b∈fp,∃o,s.heap.get? b=some o/\∀v,o.data≠.cell v):Inv X (pins++gI fp s.heap) σ H s :=
 I.pins_of fun p hp=>(ZD.mp hp).elim (fun z=>I.pin p (ZE _ z)) fun z=>by obtain⟨hb,e⟩:=sO z;obtain⟨f0,f1,f2,_⟩:=hf p.1 hb;obtain⟨o,e',d⟩:=ho p.1 hb;rw[e]at e';cases e';exact⟨e,f0,f1,f2,d⟩
theorem Inv.unpinned{pins pl:List (Addr×Obj)}{σ:St}{H:Hp}{s:Shared}(I:Inv X (pins++pl) σ H s):Inv X pins σ H s:=I.pins_of fun p hp=>I.pin p (ZE _ (List.mem_append_left _ hp))
theorem Bl{iter:Expr}{body:List Stmt}{wi:TI}{g:TG}{tb:TS}{pos:Pos}(hp:PassesOwn (model X.prog X.w) X.A X.env X.xe)(hc:X.calm=true)(hi:PI X tg iter wi)(hg:PG X tg g)(hb:PSs X body tb)(hs:∀x,foldedSetIterable iter X.env x=pure x:=by intro _;rfl):PS X (.For tg iter body [] pos) (BO wi g tb):=by
 intro pins s σ H D I h;refine wpAny_For (thn (hi pins s σ H _ I h) fun v s1 h1=>thn h1 fun itv s2 h2=>?_) hs;obtain⟨it,fp,tn,J,H2,e,I2,T,st2,f2,W,⟨m0,w0⟩,turn⟩:=h2;subst e;have stat:∀{H':Hp},(∀b∈fp,H' b=none)->∀b∈fp,aV X pins H' b:=fun hn b hb=>⟨hn b hb,(f2 b hb).2⟩
 refine codeAny_forLoop_any (fun n s'=>∃i σ' H',Inv X pins σ' H' s'/\tn i s'.heap/\(∀b∈fp,H' b=none)/\W i n σ' H') ?_ m0 ⟨0,σ,H2,I2,st2,fun b hb=>(f2 b hb).1,w0⟩;rintro n s3 ⟨i,σ3,H3,I3,st3,fr3,w3⟩;rcases turn i n σ3 H3 w3 with⟨stop,qn⟩|⟨go,N,hN,step⟩
 ·refine wpAny_passesOwn hp (thn (T.done X rfl rfl rfl hc i pins s3 σ3 H3 X.xe I3 (stat fr3) st3 stop) fun r s4 ⟨hr,I4⟩=>?_);subst hr;exact wpAny_execs_nil ⟨σ3,H3,I4,qn⟩
 ·refine wpAny_passesOwn hp (thn (T.item X rfl rfl rfl hc i pins s3 σ3 H3 X.xe I3 (stat fr3) st3 go) fun r s4 ⟨u,hr,h4⟩=>?_);subst hr;refine wpAny_passesOwn hp (thn h4 fun _ s5 hz9=>?_);obtain⟨x,H5,I5,r5,y5,st5,fr5⟩:=hz9;have I5':=I5.pinned (stat fr5) (T.obj _ _ st5);refine wpAny_passesOwn hp (thn (hg _ s5 σ3 H5 x u _ I5' r5 (step x H5 y5)) fun _ s6 ⟨σ6,H6,I6,q6⟩=>?_);refine wpAny_passesOwn hp (thn (hb _ s6 σ6 H6 _ I6 q6) fun f s7 q7=>?_);have again:∀{σ7:St} {H7:Hp},Inv X (pins++gI fp s5.heap) σ7 H7 s7->N σ7 H7->∃m,m<n/\∃i σ' H',Inv X pins σ' H' s7/\tn i s7.heap/\(∀b∈fp,H' b=none)/\W i m σ' H':=fun{σ7 H7} I7 n7=>by obtain⟨m',hm,w7⟩:=hN σ7 H7 n7;refine⟨m',hm,i+1,σ7,H7,I7.unpinned,T.keep _ _ _ st5 fun b hb o e=>(I7.pin (b,o) (ZE _ (ZE _ (dM hb e)))).1,fun b hb=>?_,w7⟩;obtain⟨o,e,d⟩:=T.obj _ _ st5 b hb;exact(I7.pin (b,o) (ZE _ (ZE _ (dM hb e)))).2.1
  cases f with
  |next=>obtain⟨σ7,H7,I7,n7⟩:=q7;exact again I7 n7
  |cont=>obtain⟨σ7,H7,I7,n7⟩:=q7;exact again I7 n7
  |brk=>obtain⟨σ7,H7,I7,q7⟩:=q7;exact⟨σ7,H7,I7.unpinned,q7⟩
  |ret v=>obtain⟨x7,σ7,H7,I7,r7,q7⟩:=q7;exact⟨x7,σ7,H7,I7.unpinned,r7,q7⟩
end
theorem mO{K:PySem.W.Frag}{a:Addr}{xs:List V}{g:TG}{tb:TS}{D:Ends}{σ:St}{H:Hp}(Pv:Nat->St->Hp->Prop)(h0:Pv 0 σ H)(hl:∀i σ H,i<=xs.length->Pv i σ H->SqL K H a xs)(hs:∀i x σ H,xs[i]?=some x->Pv i σ H->g x σ H fun σ2 H2=>tb { D with nx:=Pv (i+1),ct:=Pv (i+1),bk:=D.nx } σ2 H2)(hd:∀σ H,Pv xs.length σ H->D.nx σ H) :
  ∃W:Nat->Nat->St->Hp->Prop,(∃m,W 0 m σ H)/\∀i m σ H,W i m σ H ->
   ((Itl K a).stop i H/\D.nx σ H)\/((Itl K a).go i H/\∃N:St->Hp->Prop,(∀σ' H',N σ' H'->∃m',m'<m/\W (i+1) m' σ' H')/\∀x H',(Itl K a).yld i H x H'->g x σ H' fun σ2 H2=>tb { D with nx:=N,ct:=N,bk:=D.nx } σ2 H2):=by
 refine⟨fun i m σ H=>m=xs.length-i/\i<=xs.length/\Pv i σ H,⟨xs.length,by simp,ZP _,h0⟩,?_⟩;rintro i m σ H ⟨rfl,hi,p⟩;have q:=hl i σ H hi p;by_cases hlt:i<xs.length
 ·refine .inr ⟨⟨xs,xs[i],q,by simp[hlt]⟩,Pv (i+1),fun σ' H' p'=>⟨xs.length-(i+1),by omega,rfl,hlt,p'⟩,fun x H' y=>?_⟩;obtain⟨e,y⟩:=y;subst e;exact hs i x σ _ (y xs q) p
 ·have e:i=xs.length:=by omega
  subst e;exact .inl ⟨⟨xs,q,Ze _⟩,hd σ H p⟩
theorem sh{lo:Int}{n:Nat}{g:TG}{tb:TS}{D:Ends}{σ:St}{H:Hp}(Pv:Nat->St->Hp->Prop)(h0:Pv 0 σ H)(hs:∀i σ H,i<n->Pv i σ H->g (.int (lo+i)) σ H fun σ2 H2=>tb { D with nx:=Pv (i+1),ct:=Pv (i+1),bk:=D.nx } σ2 H2)(hd:∀σ H,Pv n σ H->D.nx σ H) :
  ∃W:Nat->Nat->St->Hp->Prop,(∃m,W 0 m σ H)/\∀i m σ H,W i m σ H ->
   ((Itr lo n).stop i H/\D.nx σ H)\/((Itr lo n).go i H/\∃N:St->Hp->Prop,(∀σ' H',N σ' H'->∃m',m'<m/\W (i+1) m' σ' H')/\∀x H',(Itr lo n).yld i H x H'->g x σ H' fun σ2 H2=>tb { D with nx:=N,ct:=N,bk:=D.nx } σ2 H2):=by
 refine⟨fun i m σ H=>m=n-i/\i<=n/\Pv i σ H,⟨n,by simp,ZP _,h0⟩,?_⟩;rintro i m σ H ⟨rfl,hi,p⟩;by_cases hlt:i<n
 ·refine .inr ⟨hlt,Pv (i+1),fun σ' H' p'=>⟨n-(i+1),by omega,rfl,hlt,p'⟩,fun x H' y=>?_⟩;obtain⟨e,y⟩:=y;subst e y;exact hs i σ _ hlt p
 ·have e:i=n:=by omega
  subst e;exact .inl ⟨Ze _,hd σ H p⟩
open PySem PySem.Spec PyProof.Rows
abbrev R2:=V->V->Hp->VK->Prop
def OpR(X:Cx)(f:Value->Value->Sem Value)(r:R2):Prop :=
 ∀(pins:List (Addr×Obj)) (s:Shared) (σ:St) (H:Hp) (x y:V) (v u:Value) (Q:VK),Inv X pins σ H s->RelV x v->RelV y u->r x y H Q ->
  wpAny (model X.prog X.w) X.A (f v u) (EP X pins σ Q) X.xe s
def UnR(X:Cx)(f:Value->Sem Value)(r:V->Hp->VK->Prop):Prop :=
 ∀(pins:List (Addr×Obj)) (s:Shared) (σ:St) (H:Hp) (x:V) (v:Value) (Q:VK),Inv X pins σ H s->RelV x v->r x H Q ->
  wpAny (model X.prog X.w) X.A (f v) (EP X pins σ Q) X.xe s
def cE(X:Cx)(f:Value)(r:List V->Hp->VK->Prop):Prop :=
 ∀(pins:List (Addr×Obj)) (s:Shared) (σ:St) (H:Hp) (xs:List V) (us:List Value) (Q:VK),Inv X pins σ H s->Vals xs us->r xs H Q ->
  wpAny (model X.prog X.w) X.A (call f us) (EP X pins σ Q) X.xe s
def tOp(r:R2)(ta tb:TE):TE:=fun σ H Q=>ta σ H fun x H1=>tb σ H1 fun y H2=>r x y H2 Q
def rI(C:Int->Int->Prop)(g:Int->Int->V):R2:=fun x y H Q=>∃i j,x=.int i/\y=.int j/\C i j/\Q (g i j) H
def rI0(g:Int->Int->V):R2:=fun x y H Q=>∃i j,x=.int i/\y=.int j/\Q (g i j) H
section
variable{X:Cx}{a b c:Expr}{ta tb tc:TE}{pos:Pos}
theorem uL(ha:PE X a ta)(hb:PE X b tb){pins:List (Addr×Obj)}{s:Shared}{σ:St}{H:Hp}{R:V->V->Hp->Prop}(I:Inv X pins σ H s)(h:ta σ H fun x H1=>tb σ H1 fun y H2=>R x y H2){Q:Value->Shared->Prop}{f:Value->Value->Sem Value}(hf:∀v u s2 x y H2,Inv X pins σ H2 s2->RelV x v->RelV y u->R x y H2->wpAny (model X.prog X.w) X.A (f v u) Q X.xe s2) :
  wpAny (model X.prog X.w) X.A (eval a X.env) (fun v s₁=>wpAny (model X.prog X.w) X.A (eval b X.env) (fun u s₂=>wpAny (model X.prog X.w) X.A (f v u) Q X.xe s₂) X.xe s₁) X.xe s:=by
 refine thn (ha pins s σ H _ I h) fun v s1 hz9=>?_;obtain⟨x,H1,I1,r1,q1⟩:=hz9;refine thn (hb pins s1 σ H1 _ I1 q1) fun u s2 hz9=>?_;obtain⟨y,H2,I2,r2,q2⟩:=hz9;exact hf v u s2 x y H2 I2 r1 r2 q2
theorem CA{op:Operator}{r:R2}(ho:OpR X (binaryOp op) r)(ha:PE X a ta)(hb:PE X b tb):PE X (.BinOp a op b pos) (tOp r ta tb):=by intro pins s σ H Q I h;exact wpAny_BinOp (uL ha hb I h fun v u s2 x y H2 I2 rx ry q=>ho pins s2 σ H2 x y v u Q I2 rx ry q)
theorem opI{f:Value->Value->Sem Value}{C:Int->Int->Prop}{g:Int->Int->Int}(rule:∀(i j:Int) (t u:Tok) (s:Shared) (Q:Value->Shared->Prop) (E:Value->Shared->Prop),C i j->Q (.int (g i j) s.toks) { s with toks:=s.toks+1 }->wpAny (model X.prog X.w) X.A (f (.int i t) (.int j u)) Q E s) :
  OpR X f (rI C fun i j=>.int (g i j)):=by
 intro pins s σ H x y v u Q I rx ry h;obtain⟨i,j,rfl,rfl,hc,q⟩:=h;obtain⟨t,rfl⟩:=rx;obtain⟨t',rfl⟩:=ry;exact rule i j t t' s _ _ hc ⟨.int (g i j),H,I.tok _,⟨_,rfl⟩,q⟩
theorem AD{f:Value->Value->Sem Value}{g:Int->Int->Int}(rule:∀(i j:Int) (t u:Tok) (s:Shared) (Q:Value->Shared->Prop) (E:Value->Shared->Prop),Q (.int (g i j) s.toks) { s with toks:=s.toks+1 }->wpAny (model X.prog X.w) X.A (f (.int i t) (.int j u)) Q E s) :
  OpR X f (rI0 fun i j=>.int (g i j)):=by
 intro pins s σ H x y v u Q I rx ry h;obtain⟨i,j,rfl,rfl,q⟩:=h;obtain⟨t,rfl⟩:=rx;obtain⟨t',rfl⟩:=ry;exact rule i j t t' s _ _ ⟨.int (g i j),H,I.tok _,⟨_,rfl⟩,q⟩
theorem AC{f:Value->Value->Sem Value}{g:Int->Int->Bool}(rule:∀(i j:Int) (t u:Tok) (s:Shared) (Q:Value->Shared->Prop) (E:Value->Shared->Prop),Q (.bool (g i j)) s->wpAny (model X.prog X.w) X.A (f (.int i t) (.int j u)) Q E s) :
  OpR X f (rI0 fun i j=>.bl (g i j)):=by
 intro pins s σ H x y v u Q I rx ry h;obtain⟨i,j,rfl,rfl,q⟩:=h;obtain⟨t,rfl⟩:=rx;obtain⟨t',rfl⟩:=ry;exact rule i j t t' s _ _ ⟨.bl (g i j),H,I,rfl,q⟩
def zE(i j:Int):Prop:=0<j/\j<1073741824
def CMul(i j:Int):Prop:=(-(2^64)<i/\i<2^64)\/(-(2^64)<j/\j<2^64)
theorem CMul.ok{i j:Int}(h:CMul i j):IntMulOk i j:=by
 rcases h with⟨h1,h2⟩|⟨h1,h2⟩
 ·exact .of_left (intBits_le_64 h1 h2)
 ·exact .of_right (intBits_le_64 h1 h2)
theorem AE:OpR X (binaryOp .Add) (rI0 fun i j=>.int (i+j)):=AD fun _ _ _ _ _ _ _ q=>add_int q
theorem AO:OpR X (binaryOp .Sub) (rI0 fun i j=>.int (i-j)):=AD fun _ _ _ _ _ _ _ q=>sub_int q
theorem AK:OpR X (binaryOp .Mult) (rI CMul fun i j=>.int (i*j)):=opI fun _ _ _ _ _ _ _ hc q=>mul_int q hc.ok
theorem yi:OpR X (binaryOp .FloorDiv) (rI zE fun i j=>.int (i / j)):=opI fun i j _ _ _ _ _ hc q=>by have h1:(0:Int)<j:=hc.1;have h2:j<1073741824:=hc.2;exact floordiv_int (by omega) (by rw[Int.fdiv_eq_ediv_of_nonneg i (by omega)];exact q) (.inl (PyProof.noPylong_small (by omega)))
theorem AJ:OpR X (binaryOp .Mod) (rI (fun _ j=>0<j) fun i j=>.int (i%j)):=opI fun i j _ _ _ _ _ hc q=>by have h1:(0:Int)<j:=hc;exact mod_int' (by omega) (by rw[Int.fmod_eq_emod_of_nonneg i (by omega)];exact q)
end
def Da:V->V->Bool
 |.non,.non=>true|.non,.int _=>true|.int _,.non=>true|.non,.bl _=>true|.bl _,.non=>true|.non,.str _=>true|.str _,.non=>true
 |.int _,.int _=>true|.bl _,.bl _=>true|.str _,.str _=>true|.byt _,.byt _=>true
 |.int _,.str _=>true|.str _,.int _=>true|.bl _,.str _=>true|.str _,.bl _=>true
 |_,_=>false
def rEq:R2:=fun x y H Q=>Da x y=true/\Q (.bl (decide (x=y))) H
theorem xT{i j:Int}:decide (V.int i=V.int j)=(i==j):=by rw[Bool.eq_iff_iff];simp
theorem zS{i j:Bool}:decide (V.bl i=V.bl j)=(i==j):=by rw[Bool.eq_iff_iff];simp
theorem xU{i j:Str}:decide (V.str i=V.str j)=(i==j):=by rw[Bool.eq_iff_iff];simp
theorem xS{i j:Array UInt8}:decide (V.byt i=V.byt j)=(i.toList==j.toList):=by rw[Bool.eq_iff_iff];cases i;cases j;simp
section
variable{X:Cx}{a b c:Expr}{ta tb tc:TE}{pos:Pos}
theorem bq{pins:List (Addr×Obj)}{σ:St}{H:Hp}{s:Shared}{Q:VK}{k k':Bool}(I:Inv X pins σ H s)(q:Q (.bl k) H)(e:k=k'):EP X pins σ Q (.bool k') s:=by subst e;exact⟨.bl k,H,I,rfl,q⟩
theorem Cs:OpR X (compareOp .Eq) rEq:=by
 intro pins s σ H x y v u Q I rx ry h;obtain⟨hs,q⟩:=h;cases x with
 |non =>
  cases rx;cases y with
  |non=>cases ry;exact PySem.EqNone.eq_none_none (bq I q (by simp))
  |bl j=>cases ry;exact PySem.EqNone.eq_none_bool (bq I q (by simp))
  |int j=>obtain⟨t',rfl⟩:=ry;exact PySem.EqNone.eq_none_int (bq I q (by simp))
  |str j=>obtain⟨t',rfl⟩:=ry;exact PySem.EqNone.eq_none_str (bq I q (by simp))
  |_=>exact absurd (show false=true from hs) Zs
 |bl i =>
  cases rx;cases y with
  |non=>cases ry;exact PySem.EqNone.eq_bool_none (bq I q (by simp))
  |bl j=>cases ry;exact eq_bool (bq I q zS)
  |str j=>obtain⟨t',rfl⟩:=ry;exact PySem.EqMixed.eq_bool_str (bq I q (by simp))
  |_=>exact absurd (show false=true from hs) Zs
 |int i =>
  obtain⟨t,rfl⟩:=rx;cases y with
  |non=>cases ry;exact PySem.EqNone.eq_int_none (bq I q (by simp))
  |int j=>obtain⟨t',rfl⟩:=ry;exact eq_int (bq I q xT)
  |str j=>obtain⟨t',rfl⟩:=ry;exact PySem.EqMixed.eq_int_str (bq I q (by simp))
  |_=>exact absurd (show false=true from hs) Zs
 |str i =>
  obtain⟨t,rfl⟩:=rx;cases y with
  |non=>cases ry;exact PySem.EqNone.eq_str_none (bq I q (by simp))
  |bl j=>cases ry;exact PySem.EqMixed.eq_str_bool (bq I q (by simp))
  |int j=>obtain⟨t',rfl⟩:=ry;exact PySem.EqMixed.eq_str_int (bq I q (by simp))
  |str j=>obtain⟨t',rfl⟩:=ry;exact eq_str (bq I q xU)
  |_=>exact absurd (show false=true from hs) Zs
 |byt i =>
  obtain⟨t,rfl⟩:=rx;cases y with
  |byt j=>obtain⟨t',rfl⟩:=ry;exact PySem.W.eq_bytes (bq I q xS)
  |_=>exact absurd (show false=true from hs) Zs
 |_=>cases y<;>exact absurd (show false=true from hs) Zs
theorem Cu:OpR X (compareOp .Lt) (rI0 fun i j=>.bl (decide (i<j))):=AC fun _ _ _ _ _ _ _ q=>lt_int q
theorem Ct:OpR X (compareOp .Gt) (rI0 fun i j=>.bl (decide (j<i))):=AC fun _ _ _ _ _ _ _ q=>gt_int q
theorem yj:OpR X (compareOp .IsNot) (fun x y H Q=>y=.non/\Q (.bl (!decide (x=.non))) H):=by
 intro pins s σ H x y v u Q I rx ry h;obtain⟨rfl,q⟩:=h;cases ry;refine isnot_none_gen (bq I q ?_);cases x<;>first
  |(cases rx;rfl)
  |(obtain⟨t,rfl⟩:=rx;rfl)
theorem sJ(b:Expr){op:CmpOp}(h:op≠.In:=by decide)(h2:op≠.NotIn:=by decide):behindInMarks op b=false:=by
 have e1:(op==CmpOp.In)=false:=by cases op<;>first|rfl|exact absurd rfl h
 have e2:(op==CmpOp.NotIn)=false:=by cases op<;>first|rfl|exact absurd rfl h2
 cases b<;>simp[behindInMarks,e1,e2]
theorem yq{op:CmpOp}{r:R2}(ho:OpR X (compareOp op) r)(ha:PE X a ta)(hb:PE X b tb)(hm:behindInMarks op b=false):PE X (.Compare a [op] [b] pos) (tOp r ta tb):=by intro pins s σ H Q I h;exact wpAny_Compare1 (uL ha hb I h fun v u s2 x y H2 I2 rx ry q=>ho pins s2 σ H2 x y v u Q I2 rx ry q) hm
def xA(t:TE):TT:=fun σ H Q=>t σ H fun x H'=>∃k,x=.bl k/\Q k H'
theorem yL{op:CmpOp}{r:R2}(ho:OpR X (compareOp op) r)(ha:PE X a ta)(hb:PE X b tb)(hm:behindInMarks op b=false):PT X (.Compare a [op] [b] pos) (xA (tOp r ta tb)):=by
 intro pins s σ H Q I h;refine wpAny_isTrue_Compare1 (thn (ha pins s σ H _ I h) fun v s1 ⟨x,H1,I1,r1,q1⟩=>thn (hb pins s1 σ H1 _ I1 q1) fun u s2 ⟨y,H2,I2,r2,q2⟩ =>
  thn (ho pins s2 σ H2 x y v u _ I2 r1 r2 q2) fun c s3 ⟨z,H3,I3,r3,k,e,q3⟩=>?_) hm
 subst e;cases r3;exact wpAny_truthy_bool ⟨H3,I3,q3⟩
theorem jB:(sizeLine:Nat)<2^63:=by rw[sizeLine_eq];decide
theorem cQ{x:V}{us:List Value}(r:Vals [x] us):∃u,us=[u]/\RelV x u:=by
 cases r with
 |cons r1 r2=>cases r2;exact⟨_,rfl,r1⟩
theorem xC{x y:V}{us:List Value}(r:Vals [x,y] us):∃u w',us=[u,w']/\RelV x u/\RelV y w':=by
 cases r with
 |cons r1 r2 =>
  cases r2 with
  |cons r3 r4=>cases r4;exact⟨_,_,rfl,r1,r3⟩
theorem rO(hc:X.calm=true):cE X (.builtin "max") (fun xs H Q=>∃i j,xs=[.int i,.int j]/\Q (.int (if j>i then j else i)) H):=by
 intro pins s σ H xs us Q I r h;obtain⟨i,j,rfl,q⟩:=h;obtain⟨u,w',rfl,⟨t,rfl⟩,⟨t',rfl⟩⟩:=xC r;refine max_two_ints (I.ok.hd hc) fun h' tk k=>⟨_,H,I.kept k,?_,q⟩
 by_cases hj:j>i
 ·rw[if_pos hj,if_pos hj];exact⟨_,rfl⟩
 ·rw[if_neg hj,if_neg hj];exact⟨_,rfl⟩
theorem rM:cE X (.type "int") (fun xs H Q=>(∃i,xs=[.int i]/\Q (.int i) H)\/∃k,xs=[.bl k]/\Q (.int (if k then 1 else 0)) H):=by
 intro pins s σ H xs us Q I r h;rcases h with⟨i,rfl,q⟩|⟨k,rfl,q⟩
 ·obtain⟨u,rfl,t,rfl⟩:=cQ r;exact call_int_int ⟨.int i,H,I,⟨_,rfl⟩,q⟩
 ·obtain⟨u,rfl,r1⟩:=cQ r;cases r1;exact call_int_bool ⟨.int (if k then 1 else 0),H,I.tok _,⟨_,rfl⟩,q⟩
end
open PySem PySem.Spec PyProof.Rows
structure ObjM(h:Heap)(x dx C:Addr)(mA:Str->Option Value):Prop where
 obj:h.get? x=some (PySem.W.instObj C dx)
 ns:h.Ns1 dx mA
 ne:dx≠x
theorem sF{h:Heap}{dx:Addr}{mA:Str->Option Value}(n:h.Ns1 dx mA):∃od,h.get? dx=some od/\∀name,PySem.W.lookIn name od=some (mA name):=by
 obtain⟨o,es,ep,ho,hd,hk,_,hm⟩:=n;refine⟨o,ho,fun name=>?_⟩;have e:=hm name;unfold nsFind findBy at e;rw[<-Array.find?_toList]at e;unfold PySem.W.lookIn;rw[hd];dsimp only;split
 ·rename_i y q;rw[q]at e;exact Yx some e
 ·rename_i q;rw[q]at e;have a:es.toList.any (·.refKey)=false:=by rw[List.any_eq_false];intro y hy;obtain⟨z,t,hkey⟩:=hk y (Array.mem_toList_iff.mp hy);simp[DictEntry.refKey,hkey]
  have a':¬es.toList.any (·.refKey)=true:=by rw[a];exact Zs
  rw[if_neg a'];exact Yx some e
theorem ObjM.look{h:Heap}{x dx C:Addr}{mA:Str->Option Value}(I:ObjM h x dx C mA):∃od,PySem.W.InstAt h x (PySem.W.instObj C dx) C (some od)/\∀name,PySem.W.lookIn name od=some (mA name) :=
 let⟨od,ho,hl⟩:=sF I.ns
 ⟨od,⟨I.obj,rfl,rfl,ho⟩,hl⟩
section
variable{prog:Program}{w:World}{A:Around}{E:Value->Shared->Prop}{s:Shared}{K:PySem.W.Frag}{x dx C f:Addr}{mA:Str->Option Value}{name:Str}{v:Value}
theorem xW{expr:Bool}{Q:Value->Shared->Prop}(X:K.In s.heap)(I:ObjM s.heap x dx C mA)(hg:PySem.W.plainGet K C name=true)(hh:PySem.W.hasDictIn K C=true)(ha:PySem.W.findIn K (.ref C) name=some none)(hv:mA name=some v)(hv':PySem.W.handedIn v=true)(h:Q v { s with toks:=s.toks+1 }) :
  wpAny (model prog w) A (getAttr (.ref x) name expr) Q E s:=by
 obtain⟨od,J,hl⟩:=I.look;exact PySem.W.get_value X J (PySem.W.plainGet_of hg).1 (PySem.W.findObj_own hh ha rfl (by rw[hl,hv])) hv' h
theorem uY{pl:Sem Bool}{Q:Value×List Value->Shared->Prop}(X:K.In s.heap)(I:ObjM s.heap x dx C mA)(hg:PySem.W.plainGet K C name=true)(hf:PySem.W.findIn K (.ref C) name=some (some (.ref f)))(ht:PySem.W.isFn K (.ref f)=true)(hv:mA name=none)(h:Q (.ref f,[.ref x]) s) :
  wpAny (model prog w) A (getMethod (.ref x) name pl) Q E s:=by
 obtain⟨od,J,hl⟩:=I.look;exact PySem.W.method_fn X J (PySem.W.plainGet_of hg).1 (PySem.W.plainGet_of hg).2 hf (ZS.mp ht) (by show(PySem.W.lookIn name od).map (·.isSome)=some false;rw[hl,hv];rfl) h
theorem yT{ns:List Str}{Q:Unit->Shared->Prop}(X:K.In s.heap)(I:ObjM s.heap x dx C mA)(hs:PySem.W.findIn K (.ref C) "__setattr__" = some (some (.builtin "object.__setattr__")))(hp:PySem.W.plainOver K C=true)(ht:PySem.W.takerIn K C name=some none)(hh:PySem.W.hasDictIn K C=true)(hw:PySem.Within mA ns)(hsz:ns.length<=sizeLine)(h:∀h',ObjM h' x dx C (fun y=>if y=name then some v else mA y)->Heap.SameBut dx s.heap h'->Q () { s with heap:=h',toks:=s.toks+2 }) :
  wpAny (model prog w) A (setAttr (.ref x) name v) Q E s:=by
 obtain⟨od,J,hl⟩:=I.look;refine PySem.W.set_plain X J hs (PySem.W.osa_open (s:={ s with toks:=s.toks+1 }) (r:=none) X J hp ht fun b=>?_);obtain⟨cd,hc,hd'⟩:=PySem.W.any_some hh;have hx:s.heap.get? x=some ⟨.ref C,some dx,.plain,#[]⟩:=I.obj;refine Za (Zd (Za (Za (wpAny_loadPart hx (Za (PySem.W.Looks.here (s:={ s with toks:=s.toks+1 }) (PySem.W.looks_clsIn X hc) ?_))))));rw[hd'];refine Zd (a:=some dx) (Za (Zd (Za ?_)));refine wpAny_nsSet1 (s:={ s with toks:=s.toks+1 }) I.ns fun h' hn2 hs2=>?_;obtain⟨oD,esD,epD,hoD,hdD,hcD⟩:=hn2.count (PySem.Within.cons name v hw);refine Za (wpAny_lookBehind hoD (by rw[hdD];exact pastItsLine_dict (ZC hcD (by rw[Zl];omega))) ?_);exact Zd (h _ ⟨(hs2.2 _ (Z8 I.ne)).trans I.obj,hn2,I.ne⟩ hs2)
theorem vq{R:Result->Shared->Prop}{vs:List Value}{kw:List (Str×Value)}(X:K.In s.heap)(hm:PySem.W.makesIn K C=true)(hi:PySem.W.findIn K (.ref C) "__init__" = some (some (.ref f)))(hf:PySem.W.typeIn K (.ref f)=some (.type "function"))(h:codeAny (model prog w) (A.under (.builtin "type.__call__" ⟨.ref C::vs,kw⟩)) (.call (.ref f) ⟨.ref (s.heap.objs.size+1)::vs,kw⟩) (PySem.W.InitBack (s.heap.objs.size+1) R)
   { s with heap:=(s.heap.push PySem.W.emptyDict).push (PySem.W.instObj C s.heap.objs.size) }) :
  codeAny (model prog w) A (.call (.ref C) ⟨vs,kw⟩) R s:=by
 obtain⟨hh,g,d,t,os⟩:=s;exact PySem.W.make_core (PySem.W.makes_of X hm) (PySem.W.looks_findIn X hi) (fun self=>PySem.W.bind_fn X self hf) (.inl rfl) h
end
def bP(f:Str)(v:V):List (Str×V)->List (Str×V)
 | []=>[(f,v)]
 |(g,x)::r=>if g=f then(g,v)::r else(g,x)::bP f v r
theorem bM(f g:Str)(v:V):∀fs:List (Str×V),(bP f v fs).lookup g=if g=f then some v else fs.lookup g
 | []=>by
  show List.lookup g [(f,v)]=_;by_cases h:g=f
  ·have hb:(g==f)=true:=ZS.mpr h;simp only[List.lookup,hb,if_pos h]
  ·have hb:(g==f)=false:=beq_eq_false_iff_ne.mpr h;simp only[List.lookup,hb,if_neg h]
 |(k,x)::r=>by
  have ih:=bM f g v r;rw[show bP f v ((k,x)::r)=(if k=f then(k,v)::r else(k,x)::bP f v r)from rfl];by_cases hk:k=f
  ·rw[if_pos hk];by_cases h:g=k
   ·have hb:(g==k)=true:=ZS.mpr h;simp only[List.lookup,hb,if_pos (h.trans hk)]
   ·have hb:(g==k)=false:=beq_eq_false_iff_ne.mpr h;simp only[List.lookup,hb,if_neg (fun e:g=f=>h (e.trans hk.symm))]
  ·rw[if_neg hk];by_cases h:g=k
   ·have hb:(g==k)=true:=ZS.mpr h;simp only[List.lookup,hb,if_neg (fun e:g=f=>hk (h.symm.trans e))]
   ·have hb:(g==k)=false:=beq_eq_false_iff_ne.mpr h;simp only[List.lookup,hb];exact ih
theorem gH(f:Str)(v:V):∀fs:List (Str×V),f∈(bP f v fs).map (·.1)/\∀g,g∈fs.map (·.1)->g∈(bP f v fs).map (·.1)
 | []=>⟨by simp[bP],fun g h=>by simp at h⟩
 |(k,x)::r=>by
  obtain⟨i1,i2⟩:=gH f v r;rw[show bP f v ((k,x)::r)=(if k=f then(k,v)::r else(k,x)::bP f v r)from rfl];by_cases hk:k=f
  ·rw[if_pos hk];subst hk;exact⟨by simp,fun g h=>by simpa using h⟩
  ·rw[if_neg hk];refine⟨?_,fun g h=>?_⟩
   ·rw[Zz];exact Zn _ i1
   ·rw[Zz]at h ⊢;rcases Zq.mp h with e|e
    ·exact Zq.mpr (.inl e)
    ·exact Zn _ (i2 g e)
theorem iE(f:Str)(v:V):∀fs:List (Str×V),(bP f v fs).length<=fs.length+1
 | []=>by simp[bP]
 |(k,x)::r=>by
  have ih:=iE f v r;rw[show bP f v ((k,x)::r)=(if k=f then(k,v)::r else(k,x)::bP f v r)from rfl];by_cases hk:k=f
  ·rw[if_pos hk,Zl,Zl];omega
  ·rw[if_neg hk,Zl,Zl];omega
theorem RelO.some_of{v:V}{o:Option Value}(r:RelO (some v) o):∃u,o=some u/\RelV v u:=by
 cases o with
 |none=>exact(show False from r).elim
 |some u=>exact⟨u,rfl,r⟩
theorem RelO.none_of{o:Option Value}(r:RelO none o):o=none:=by
 cases o with
 |none=>rfl
 |some u=>exact(show False from r).elim
theorem sr{v:V}{u:Value}(r:RelV v u):PySem.W.handedIn u=true:=by
 cases v with
 |non=>cases(show u=Value.none from r);rfl
 |bl b=>cases(show u=Value.bool b from r);rfl
 |int i=>obtain⟨t,e⟩:=(show∃t,u=Value.int i t from r);cases e;rfl
 |str x=>obtain⟨t,e⟩:=(show∃t,u=Value.str x t from r);cases e;rfl
 |byt b=>obtain⟨t,e⟩:=(show∃t,u=Value.bytes b t from r);cases e;rfl
 |flt b=>obtain⟨t,e⟩:=(show∃t,u=Value.float b t from r);cases e;rfl
 |ref a=>cases(show u=Value.ref a from r);rfl
 |ty n=>cases(show u=Value.type n from r);rfl
section
variable{P:Program}{w:World}{H H':Hp}{h h':Heap}{a C dx:Addr}{fs fs':List (Str×V)}
theorem kj(hok:HOk P w H h)(e:H a=some (.ins C dx fs)):∃mA,ObjM h a dx C mA/\(∀f,RelO (fs.lookup f) (mA f))/\PySem.Within mA (fs.map (·.1))/\fs.length<=1000/\H dx=some (.own a):=by
 obtain⟨d,z,ne,ob,mA,n,r,q⟩:=(show ObjOk P w H h a (.ins C dx fs)from hok a _ e)
 exact⟨mA,⟨ob,n,ne⟩,r,q,z,d⟩
end
structure Cls(K:PySem.W.Frag)(C:Addr):Prop where
 pg:PySem.W.plainGet K C Str.empty=true
 hd:PySem.W.hasDictIn K C=true
 po:PySem.W.plainOver K C=true
 sa:PySem.W.findIn K (.ref C) "__setattr__" = some (some (.builtin "object.__setattr__"))
theorem Cls.get{K:PySem.W.Frag}{C:Addr}(c:Cls K C)(f:Str):PySem.W.plainGet K C f=true:=c.pg
def NoAttr(K:PySem.W.Frag)(C:Addr)(f:Str):Prop:=PySem.W.findIn K (.ref C) f=some none
theorem NoAttr.taker{K:PySem.W.Frag}{C:Addr}{f:Str}(n:NoAttr K C f):PySem.W.takerIn K C f=some none:=by unfold PySem.W.takerIn;rw[show PySem.W.findIn K (.ref C) f=some none from n];rfl
structure Con(K:PySem.W.Frag)(C:Addr)(f:Str)(v:V)(u:Value):Prop where
 at_:PySem.W.findIn K (.ref C) f=some (some u)
 rel:RelV v u
 get:PySem.W.specialIn K u "__get__" = some none
 cp:PySem.W.copiedNames.contains f=false
structure Meth(K:PySem.W.Frag)(C:Addr)(m:Str)(f:Addr):Prop where
 at_:PySem.W.findIn K (.ref C) m=some (some (.ref f))
 fn:PySem.W.isFn K (.ref f)=true
 kp:PySem.W.keepIn K (.ref f)=true
section
variable{X:Cx}{pins:List (Addr×Obj)}{σ:St}{H:Hp}{s:Shared}{a C dx:Addr}{fs:List (Str×V)}{f:Str}{v:V}{A:Around}{E:Value->Shared->Prop}
theorem qz{b:Bool}{Q:Value->Shared->Prop}(I:Inv X pins σ H s)(e:H a=some (.ins C dx fs))(c:Cls X.K C)(n:NoAttr X.K C f)(l:fs.lookup f=some v)(h:∀u s',Inv X pins σ H s'->RelV v u->Q u s'):wpAny (model X.prog X.w) A (getAttr (.ref a) f b) Q E s:=by obtain⟨mA,O,r,_,_,_⟩:=kj I.hok e;obtain⟨u,hu,ru⟩:=RelO.some_of (v:=v) (o:=mA f) (by rw[<-l];exact r f);exact xW I.kIn O (c.get f) c.hd n hu (sr ru) (h u _ (I.tok _) ru)
theorem jt{m:Str}{g:Addr}{pl:Sem Bool}{Q:Value×List Value->Shared->Prop}(I:Inv X pins σ H s)(e:H a=some (.ins C dx fs))(c:Cls X.K C)(k:Meth X.K C m g)(l:fs.lookup m=none)(h:Q (.ref g,[.ref a]) s):wpAny (model X.prog X.w) A (getMethod (.ref a) m pl) Q E s:=by obtain⟨mA,O,r,_,_,_⟩:=kj I.hok e;have hn:mA m=none:=RelO.none_of (by rw[<-l];exact r m);exact uY I.kIn O (c.get m) k.at_ k.fn hn h
theorem rp{y:V}{u:Value}{Q:Unit->Shared->Prop}(I:Inv X pins σ H s)(e:H a=some (.ins C dx fs))(c:Cls X.K C)(n:NoAttr X.K C f)(hl:fs.length<1000)(ry:RelV y u)(h:∀s',Inv X pins σ (upd H a (.ins C dx (bP f y fs))) s'->Q () s'):wpAny (model X.prog X.w) A (setAttr (.ref a) f u) Q E s:=by
 obtain⟨mA,O,r,wi,_,ho⟩:=kj I.hok e;have hz:(fs.map (·.1)).length<=sizeLine:=by rw[Zh,sizeLine_eq];omega
 refine yT I.kIn O c.sa c.po n.taker c.hd wi hz fun h' O' sb=>h _ ?_;have hd:∃o,h'.get? dx=some o:=let⟨o,_,_,e',_⟩:=O'.ns;⟨o,e'⟩
 refine I.write (x:=a) (e:=dx) (by rw[e];exact True.intro) (.inr ho) (fun b q hb z=>(sb.2 b hb).trans z) hd ?_;refine⟨by rw[af O.ne];exact ho,?_,O.ne,O'.obj,_,O'.ns,fun g=>?_,fun g hg=>?_⟩
 ·have:=iE f y fs;omega
 ·show RelO ((bP f y fs).lookup g) (if g=f then some u else mA g);rw[bM];by_cases q:g=f
  ·rw[if_pos q,if_pos q];exact ry
  ·rw[if_neg q,if_neg q];exact r g
 ·by_cases q:g=f
  ·rw[q];exact(gH f y fs).1
  ·refine(gH f y fs).2 g (wi g fun z=>hg ?_);show(if g=f then some u else mA g)=none;rw[if_neg q];exact z
theorem Inv.made(I:Inv X pins σ H s):Inv X pins σ (upd (upd H s.heap.objs.size (.own (s.heap.objs.size+1))) (s.heap.objs.size+1) (.ins C s.heap.objs.size []))
  { s with heap:=(s.heap.push PySem.W.emptyDict).push (PySem.W.instObj C s.heap.objs.size) }:=by
 have e1:(s.heap.push PySem.W.emptyDict).get? s.heap.objs.size=some PySem.W.emptyDict:=Zr s.heap rfl;have e2:((s.heap.push PySem.W.emptyDict).push (PySem.W.instObj C s.heap.objs.size)).get? (s.heap.objs.size+1)=some (PySem.W.instObj C s.heap.objs.size):=by
  have:=Zr (s.heap.push PySem.W.emptyDict) (o:=PySem.W.instObj C s.heap.objs.size) rfl
  rwa [Heap.size_push]at this
 have e3:(s.heap.push PySem.W.emptyDict).Ns s.heap.objs.size (fun _=>none):=⟨PySem.W.emptyDict,#[],_,e1,rfl,(fun e he=>absurd he (by simp)),fun _=>rfl⟩
 have I1:=I.laid (a:=s.heap.objs.size) (o:=.own (s.heap.objs.size+1)) (h':=s.heap.push PySem.W.emptyDict) (t':=s.toks) (fun b u q=>Zb _ q) (Ze _) ⟨_,e1⟩;refine I1.laid (a:=s.heap.objs.size+1) (o:=.ins C s.heap.objs.size []) (t':=s.toks) (fun b u q=>Zb _ q) (Nat.le_of_eq (Heap.size_push _ _)) ?_;have ne:s.heap.objs.size≠s.heap.objs.size+1:=ZA (Nat.lt_succ_self _);refine⟨by rw[af ne,ad],ZP _,ne,e2,fun _=>none,(Heap.Ns1.of_empty e3).at fun o q=>Zb _ q,fun _=>True.intro,fun y hy=>absurd rfl hy⟩
theorem xL{prog:Program}{w:World}{env:Env}{e:Expr}{f:Str}{pos:Pos}{s:Shared}{Q:Value->Shared->Prop}(hb:attributeBase e f env (eval e env)=eval e env)(h:wpAny (model prog w) A (eval e env) (fun o s₁=>wpAny (model prog w) A (getAttr o f true) Q E s₁) E s):wpAny (model prog w) A (eval (.Attribute e f pos) env) Q E s :=
 Attribute_any_ h (by rw[arm_eval_Attribute,hb])
end
def BN(K:PySem.W.Frag)(ta:TE)(f:Str):TE:=fun σ H Q=>ta σ H fun x H1=>∃a C dx fs v,x=.ref a/\H1 a=some (.ins C dx fs)/\Cls K C/\NoAttr K C f/\fs.lookup f=some v/\Q v H1
def BD(K:PySem.W.Frag)(ta tv:TE)(f:Str):TS:=fun D σ H=>tv σ H fun y H1=>ta σ H1 fun x H2=>∃a C dx fs,x=.ref a/\H2 a=some (.ins C dx fs)/\Cls K C/\NoAttr K C f/\fs.length<1000 /\
 D.nx σ (upd H2 a (.ins C dx (bP f y fs)))
section
variable{X:Cx}{o e value:Expr}{f:Str}{pos pos' tpos:Pos}{ta tv:TE}
theorem AU(he:PE X e ta)(hb:attributeBase e f X.env (eval e X.env)=eval e X.env):PE X (.Attribute e f pos) (BN X.K ta f):=by intro pins s σ H Q I h;refine xL hb (thn (he pins s σ H _ I h) fun u s1 hz9=>?_);obtain⟨x,H1,I1,rx,a,C,dx,fs,v,ex,ea,c,n,l,q⟩:=hz9;subst ex;obtain rfl:u=Value.ref a:=rx;exact qz I1 ea c n l fun u' s2 I2 ru=>⟨v,H1,I2,ru,q⟩
theorem Bk(ha:PE X o ta)(hv:PE X value tv)(hs:swapsWith value (some (.Attribute o f pos')) pos.line X.env=pure false):PS X (.Assign [.Attribute o f pos'] value pos) (BD X.K ta tv f):=by intro pins s σ H D I h;refine plainObj_wpAny_Assign_Attribute (thn (hv pins s σ H _ I h) fun u s1 ⟨y,H1,I1,ry,q⟩=>thn (ha pins s1 σ H1 _ I1 q) fun ov s2 hz9=>?_) hs;obtain⟨x,H2,I2,rx,a,C,dx,fs,ex,ea,c,n,l,q2⟩:=hz9;subst ex;obtain rfl:ov=Value.ref a:=rx;exact rp I2 ea c n l ry fun s3 I3=>⟨σ,_,I3,q2⟩
end
section
variable{X:Cx}{pins:List (Addr×Obj)}{σ:St}{H:Hp}{s:Shared}{A:Around}{E:Value->Shared->Prop}{Q:Value->Shared->Prop}{c:Value}{b:Bool}
inductive TyOf(K:PySem.W.Frag)(H:Hp):V->Value->Prop where
 |non:TyOf K H .non (.type "NoneType")
 |bl (x:Bool):TyOf K H (.bl x) (.type "bool")
 |int (i:Int):TyOf K H (.int i) (.type "int")
 |str (x:Str):TyOf K H (.str x) (.type "str")
 |flt (x:UInt64):TyOf K H (.flt x) (.type "float")
 |lst {a:Addr} {xs:List V} (e:H a=some (.lst xs)):TyOf K H (.ref a) (.type "list")
 |frz {a:Addr} {o:Obj} {xs:List V} (e:H a=some (.frz o (.lst xs))):TyOf K H (.ref a) (.type "list")
 |tup {a:Addr} {xs:List V} (e:H a=some (.tup xs)):TyOf K H (.ref a) (.type "tuple")
 |dK {a:Addr} {kvs:List (Key×V)} (e:H a=some (.dK kvs)):TyOf K H (.ref a) (.type "dict")
 |dT {a:Addr} {kvs:List (List Key×V)} (e:H a=some (.dT kvs)):TyOf K H (.ref a) (.type "dict")
 |ins {a C dx:Addr} {fs:List (Str×V)} (e:H a=some (.ins C dx fs)) (cl:Cls K C) (ha:PySem.W.findIn K (.ref C) "__class__" = some (some (.builtin "object.__class__")))
   (hn:PySem.W.specialIn K (.builtin "object.__class__") "__get__" = some (some (.builtin "getset_descriptor.__get__"))) (htk:PySem.W.takesIn K (.builtin "object.__class__")=some true)
   (hm:PySem.W.mroIn K C (.type "object")=some true):TyOf K H (.ref a) (.ref C)
end
open PySem PySem.Spec PyProof.Rows
structure Room(k:Nat)(A:Around):Prop where
 hd:A.handled=none
 dp:A.depth+3*k+5<recursionLimit
 un:A.units+16*k+200<cLine
theorem Room.mono{j k:Nat}{A:Around}(r:Room k A)(h:j<=k):Room j A:=⟨r.hd,by have:=r.dp;omega,by have:=r.un;omega⟩
theorem Room.deeper{k:Nat}{A:Around}(r:Room (k+1) A)(env:Env):Room k (A.deeper env) :=
 ⟨r.hd,by have:=r.dp;show A.depth+1+3*k+5<_;omega,by have:=r.un;show A.units+3+16*k+200<_;omega⟩
theorem Room.in1{k:Nat}{A:Around}(r:Room (k+1) A):Room k A.in1 :=
 ⟨r.hd,by have:=r.dp;show A.depth+3*k+5<_;omega,by have:=r.un;show A.units+1+16*k+200<_;omega⟩
theorem qJ{A:Around}{C:Addr}{us:List Value}{kw:List (Str×Value)}:(A.under (.builtin "type.__call__" ⟨.ref C::us,kw⟩)).depth=A.depth+1:=by
 first|rfl|simp[Around.under,Code.weight,Code.isCreation,Code.isGuard,Code.isCaller,Code.frames,Code.isFrame,guardIds]
theorem qK{A:Around}{C:Addr}{us:List Value}{kw:List (Str×Value)}:(A.under (.builtin "type.__call__" ⟨.ref C::us,kw⟩)).units=A.units+1:=by
 first|rfl|simp[Around.under,Code.cUnits,Code.frames,Code.isFrame]
theorem Room.make{k:Nat}{A:Around}(r:Room (k+1) A)(C:Addr)(us:List Value)(kw:List (Str×Value)):Room k (A.under (.builtin "type.__call__" ⟨.ref C::us,kw⟩)) :=
 ⟨r.hd,by have:=r.dp;rw[qJ];omega,by have:=r.un;rw[qK];omega⟩
theorem Room.depth{k:Nat}{A:Around}(r:Room k A):A.depth<recursionLimit:=by have:=r.dp;omega
theorem Room.units{k:Nat}{A:Around}(r:Room k A):A.units+64<cLine:=by have:=r.un;omega
def jh:TA:=fun _ H Q=>Q [] H
def ip(ta:TE)(tr:TA):TA:=fun σ H Q=>ta σ H fun x H1=>tr σ H1 fun xs H2=>Q (x::xs) H2
section
variable{X:Cx}{e:Expr}{es:List Expr}{te:TE}{t:TA}{pos:Pos}
theorem sV:PA X [] jh:=fun _ _ _ _ H Q I h=>Calls.spliced_nil ⟨[],H,I,.nil,h⟩
theorem yn(ha:PE X e te)(hr:PA X es t)(hs:starEach (e::es) X.env=(false,eval e X.env)::starEach es X.env:=by rfl):PA X (e::es) (ip te t):=by intro pos pins s σ H Q I h;rw[hs];show wpAny _ _ (spliced ((false,eval e X.env)::backTo pos (starEach es X.env))) _ _ s;refine Calls.spliced_cons (thn (ha pins s σ H _ I h) fun u s1 hz9=>?_);obtain⟨x,H1,I1,r1,q1⟩:=hz9;exact thn (hr pos pins s1 σ H1 _ I1 q1) fun us s2 ⟨xs,H2,I2,r2,q2⟩=>⟨x::xs,H2,I2,.cons r1 r2,q2⟩
def BV(t:TA):TE:=fun σ H Q=>t σ H fun xs H1=>xs.length<=sizeLine/\∀p,H1 p=none->Q (.ref p) (upd H1 p (.tup xs))
def BQ(t:TA):TE:=fun σ H Q=>t σ H fun xs H1=>xs.length<=sizeLine/\∀p,H1 p=none->Q (.ref p) (upd H1 p (.lst xs))
theorem A8{x1}(h:PA X es t):PE X (.Tuple es x1 pos) (BV t):=by intro pins s σ H Q I hq;refine wpAny_Tuple_spliced (thn (h pos pins s σ H _ I hq) fun us s1 ⟨xs,H1,I1,r,z,q⟩=>⟨by rw[<-r.length];exact z,?_⟩);have hf:H1 s1.heap.objs.size=none:=I1.hok.fresh (Ze _);refine⟨.ref s1.heap.objs.size,upd H1 s1.heap.objs.size (.tup xs),I1.laid (t':=s1.toks) (fun b u e=>Zb _ e) (Ze _) ?_,rfl,q _ hf⟩;exact⟨z,us,r,⟨_,Zr _ rfl,rfl,_,rfl⟩⟩
theorem AW(h:PA X es t):PE X (.List es pos) (BQ t):=by intro pins s σ H Q I hq;refine wpAny_List_spliced (thn (h pos pins s σ H _ I hq) fun us s1 ⟨xs,H1,I1,r,z,q⟩=>⟨by rw[<-r.length];exact z,?_⟩);have hf:H1 s1.heap.objs.size=none:=I1.hok.fresh (Ze _);refine⟨.ref s1.heap.objs.size,upd H1 s1.heap.objs.size (.lst xs),I1.laid (t':=s1.toks) (fun b u e=>Zb _ e) (Ze _) ?_,rfl,q _ hf⟩;exact⟨z,us,0,r,Zr _ rfl⟩
end
abbrev Sp:=List V->Hp->VK->XK->Prop
abbrev CXT:=List Env->Hp->Shared->XK->Value->Shared->Prop
structure Env0(P:Program)(w:World)(K:PySem.W.Frag)(mg:Str->Option Value)(base:Heap)(A:Around)(outer:List Env)(s:Shared)(H:Hp):Prop where
 frames:A.frames=some outer
 mod:Mod K mg base
 bs:∀b o,base.get? b=some o->s.heap.get? b=some o/\H b=none
 bsz:base.objs.size<=s.heap.objs.size
 funs:s.heap.FunFrames base outer
 frf:∀b∈frs outer,H b=none
 hok:HOk P w H s.heap
 bare:AllBare s.gens
def CE(outer:List Env)(P:Program)(w:World)(H:Hp)(s:Shared)(Q:VK)(u:Value)(s':Shared):Prop :=
 ∃v H',s'.os=s.os/\AllBare s'.gens/\Un (frs outer) [] H H' s.heap s'.heap/\HOk P w H' s'.heap/\RelV v u/\Q v H'
def CR(CX:CXT)(outer:List Env)(P:Program)(w:World)(H:Hp)(s:Shared)(Q:VK)(E:XK)(r:Result)(s':Shared):Prop :=
 match r with
 |.ok (.ret u)=>CE outer P w H s Q u s'
 |.ok _=>False
 |.error e=>CX outer H s E e s'
structure FnOk(P:Program)(w:World)(K:PySem.W.Frag)(mg:Str->Option Value)(base:Heap)(CX:CXT)(k:Nat)(f:Addr)(fd:FuncData)(ps:List Str)(sp:Sp):Prop where
 len:∀vs H Q E,sp vs H Q E->vs.length=ps.length
 run:∀(A:Around) (outer:List Env) (s:Shared) (H:Hp) (args:Args) (us:List Value) (vs:List V) (Q:VK) (E:XK),Room k A->Env0 P w K mg base A outer s H->BindsTo s fd args (ps.zip us)->Vals vs us->sp vs H Q E ->
  codeAny (model P w) A (.call (.ref f) args) (CR CX outer P w H s Q E) s
theorem Env0.make{P:Program}{w:World}{K:PySem.W.Frag}{mg:Str->Option Value}{base:Heap}{A:Around}{outer:List Env}{s:Shared}{H:Hp}(e:Env0 P w K mg base A outer s H)(C:Addr)(us:List Value)(kw:List (Str×Value)) :
  Env0 P w K mg base (A.under (.builtin "type.__call__" ⟨.ref C::us,kw⟩)) outer s H:=⟨by first|exact e.frames|(simpa[Around.under,Code.envs,Code.isFrame,pushEnvs]using e.frames),e.mod,e.bs,e.bsz,e.funs,e.frf,e.hok,e.bare⟩
section
variable{X:Cx}{pins:List (Addr×Obj)}{σ:St}{H:Hp}{s s':Shared}
theorem Inv.env0(I:Inv X pins σ H s):Env0 X.prog X.w X.K X.mg X.base X.A X.stack s H :=
 ⟨I.ok.frames,I.ok.mod,I.bs,ZC I.ok.bsz I.sz,I.stack,I.stkFree,I.hok,I.bare⟩
theorem Inv.after{Q:VK}{u:Value}(I:Inv X pins σ H s)(h:CE X.stack X.prog X.w H s Q u s'):EP X pins σ Q u s':=by obtain⟨v,H',os,bare,un,hok,r,q⟩:=h;obtain⟨hh,g,d,t,os'⟩:=s';obtain rfl:os'=s.os:=os;exact⟨v,H',I.call (h':=hh) (g':=g) (d':=d) (t':=t) (ch:=[]) un hok bare (fun b z=>absurd z (by simp)),r,q⟩
end
def mf(sp:Sp)(dvs:List V)(E:XK)(t:TA):TE:=fun σ H Q=>t σ H fun vs H1=>sp (vs++dvs) H1 Q E
def rA(C:Addr)(m:Str)(sp:Sp)(dvs:List V)(E:XK)(ta:TE)(t:TA):TE:=fun σ H Q=>ta σ H fun x H1=>∃a dx fs,x=.ref a/\H1 a=some (.ins C dx fs)/\fs.lookup m=none /\
 t σ H1 fun vs H2=>sp (x::(vs++dvs)) H2 Q E
def xw(C:Addr)(sp:Sp)(dvs:List V)(E:XK)(t:TA):TE:=fun σ H Q=>t σ H fun vs H1=>∀x dx,H1 x=none->H1 dx=none->dx≠x ->
 sp (.ref x::(vs++dvs)) (upd (upd H1 dx (.own x)) x (.ins C dx [])) (fun v H2=>v=.non/\Q (.ref x) H2) E
def Binds(K:PySem.W.Frag)(fd:FuncData)(ps:List Str)(ds:List Value):Prop :=
 ∀(s:Shared) (us:List Value),K.In s.heap->(us++ds).length=ps.length->BindsTo s fd ⟨us,[]⟩ (ps.zip (us++ds))
theorem Binds.all{K:PySem.W.Frag}{fd:FuncData}{ps:List Str}(h:∀us:List Value,us.length=ps.length->bindArgs fd ⟨us,[]⟩=pure (ps.zip us)):Binds K fd ps []:=fun s us _ hl=>by rw[ZJ]at hl ⊢;exact .of_eq (h us hl)
def cG(CX:CXT)(X:Cx)(E:XK):Prop:=∀(pins:List (Addr×Obj)) (σ:St) (H:Hp) (s:Shared) (e:Value) (s':Shared),Inv X pins σ H s->CX X.stack H s E e s'->X.xe e s'
section
variable{X:Cx}{CX:CXT}{k:Nat}{f C:Addr}{fd:FuncData}{ps:List Str}{sp:Sp}{dvs:List V}{ds:List Value}{E:XK}{x m:Str}{p pos apos:Pos}{e o:Expr}{es:List Expr}{ta:TE}{t:TA}
theorem tM{pins:List (Addr×Obj)}{σ:St}{H:Hp}{s:Shared}{Q:VK}{us:List Value}{vs:List V}(F:FnOk X.prog X.w X.K X.mg X.base CX k f fd ps sp)(hr:Room k X.A)(hb:Binds X.K fd ps ds)(hd:Vals dvs ds)(hx:cG CX X E)(I:Inv X pins σ H s)(r:Vals vs us)(h:sp (vs++dvs) H Q E):wpAny (model X.prog X.w) X.A (call (.ref f) us) (EP X pins σ Q) X.xe s:=by
 have r2:Vals (vs++dvs) (us++ds):=r.append hd;have hl:(us++ds).length=ps.length:=by rw[<-r2.length];exact F.len _ _ _ _ h
 refine wpAny_call (codeAny_mono (F.run X.A X.stack s H ⟨us,[]⟩ (us++ds) (vs++dvs) Q E hr I.env0 (hb s us I.kIn hl) r2 h) fun r s' hq=>?_);cases r with
 |error e=>exact hx pins σ H s e s' I hq
 |ok fl =>
  cases fl with
  |ret u=>exact I.after hq
  |next=>exact False.elim hq
  |brk=>exact False.elim hq
  |cont=>exact False.elim hq
theorem yp(F:FnOk X.prog X.w X.K X.mg X.base CX k f fd ps sp)(hr:Room k X.A)(hg:Gl X x)(hm:X.mg x=some (.ref f))(hk:PySem.W.keepIn X.K (.ref f)=true)(hb:Binds X.K fd ps ds)(hd:Vals dvs ds)(hx:cG CX X E)(ha:PA X (e::es) t)(hdb:(x==("__debug__":Str))=false:=by decide)(he:starEach (e::es) X.env=(false,eval e X.env)::starEach es X.env:=by rfl)(hpl:(backTo pos (starEach es X.env)).any (·.1)=false:=by rfl) :
  PE X (.Call (.Name x p) (e::es) [] pos) (mf sp dvs E t):=by
 intro pins s σ H Q I h;refine wpAny_Call_Name_kw (dS I hg hm ?_ hdb);refine PySem.W.callWith_K (h₀:=X.base) I.ok.mod.kin hk (thn (ha pos pins s σ H _ I h) fun us s1 ⟨vs,H1,I1,r,q⟩=>⟨I1.kIn,?_⟩) he hpl;exact tM F hr hb hd hx I1 r q
theorem pq{pl:Sem Bool}(he:PE X o ta)(c:Cls X.K C)(hm:Meth X.K C m f)(F:FnOk X.prog X.w X.K X.mg X.base CX k f fd ps sp)(hr:Room k X.A)(hb:Binds X.K fd ps ds)(hd:Vals dvs ds)(hx:cG CX X E)(ha:PA X (e::es) t)(hst:starEach (e::es) X.env=(false,eval e X.env)::starEach es X.env:=by rfl)(hpl:(backTo pos (starEach es X.env)).any (·.1)=false:=by rfl)(ht:eval (.Call (.Attribute o m apos) (e::es) [] pos) X.env=(do
   let ov ←eval o X.env
   standAt apos.atName
   let(f,first) ←holding [ov] (getMethod ov m pl)
   callWith pos f first (backTo pos (starEach (e::es) X.env)) (backToKw pos (keywordEach [] X.env))):=by rfl) :
  PE X (.Call (.Attribute o m apos) (e::es) [] pos) (rA C m sp dvs E ta t):=by
 intro pins s σ H Q I h;refine PySem.W.methodCall_KW (pl:=pl) (thn (he pins s σ H _ I h) fun u s1 hz9=>?_) ht;obtain⟨x,H1,I1,rx,a,dx,fs,ex,ea,l,q⟩:=hz9;subst ex;obtain rfl:u=Value.ref a:=rx;refine jt I1 ea c hm l ?_;refine PySem.W.callWith_K (first:=[.ref a]) (h₀:=X.base) I.ok.mod.kin hm.kp (thn (ha pos pins s1 σ H1 _ I1 q) fun us s2 ⟨vs,H2,I2,r,q2⟩=>⟨I2.kIn,?_⟩) hst hpl;exact tM (us:=.ref a::us) (vs:=.ref a::vs) F hr hb hd hx I2 (.cons rfl r) q2
structure Mk(K:PySem.W.Frag)(C f:Addr):Prop where
 makes:PySem.W.makesIn K C=true
 init:PySem.W.findIn K (.ref C) "__init__" = some (some (.ref f))
 fn:PySem.W.isFn K (.ref f)=true
 kp:PySem.W.keepIn K (.ref C)=true
theorem vX{pins:List (Addr×Obj)}{σ:St}{H:Hp}{s:Shared}{Q:VK}{us:List Value}{vs:List V}(M:Mk X.K C f)(F:FnOk X.prog X.w X.K X.mg X.base CX k f fd ps sp)(hr:Room (k+1) X.A)(hb:Binds X.K fd ps ds)(hd:Vals dvs ds)(hx:cG CX X E)(I:Inv X pins σ H s)(r:Vals vs us)(h:∀x dx,H x=none->H dx=none->dx≠x->sp (.ref x::(vs++dvs)) (upd (upd H dx (.own x)) x (.ins C dx [])) (fun v H2=>v=.non/\Q (.ref x) H2) E) :
  wpAny (model X.prog X.w) X.A (call (.ref C) us) (EP X pins σ Q) X.xe s:=by
 have hq:=h (s.heap.objs.size+1) s.heap.objs.size (I.hok.fresh (Nat.le_succ _)) (I.hok.fresh (Ze _)) (ZA (Nat.lt_succ_self _));have I2:=Inv.made (C:=C) I;have r2:Vals (V.ref (s.heap.objs.size+1)::(vs++dvs)) (Value.ref (s.heap.objs.size+1)::(us++ds)):=.cons rfl (r.append hd);have hl:(Value.ref (s.heap.objs.size+1)::us++ds).length=ps.length:=by have e:=r2.length;rw[F.len _ _ _ _ hq]at e;exact e.symm
 refine wpAny_call (vq (f:=f) I.kIn M.makes M.init (ZS.mp M.fn) (codeAny_mono (F.run _ X.stack _ _ ⟨Value.ref (s.heap.objs.size+1)::us,[]⟩ (Value.ref (s.heap.objs.size+1)::(us++ds)) _ _ E (hr.make C us [])
  (I2.env0.make C us []) (hb _ (Value.ref (s.heap.objs.size+1)::us) I2.kIn hl) r2 hq) fun r s' hq'=>?_))
 cases r with
 |error e=>exact hx pins σ _ _ e s' I2 hq'
 |ok fl =>
  cases fl with
  |ret u =>obtain⟨v,H',I3,rv,ev,q3⟩:=I2.after hq';subst ev;exact⟨rv,⟨V.ref (s.heap.objs.size+1),H',I3,rfl,q3⟩⟩
  |next=>exact False.elim hq'
  |brk=>exact False.elim hq'
  |cont=>exact False.elim hq'
theorem vG(M:Mk X.K C f)(F:FnOk X.prog X.w X.K X.mg X.base CX k f fd ps sp)(hr:Room (k+1) X.A)(hg:Gl X x)(hm:X.mg x=some (.ref C))(hb:Binds X.K fd ps ds)(hd:Vals dvs ds)(hx:cG CX X E)(hdb:(x==("__debug__":Str))=false:=by decide):PE X (.Call (.Name x p) [] [] pos) (xw C sp dvs E jh):=by intro pins s σ H Q I h;refine wpAny_Call_Name_kw (dS I hg hm ?_ hdb);exact PySem.W.callWith_K0 I.kIn M.kp (vX (us:=[]) M F hr hb hd hx I .nil h)
end
def PK(X:Cx)(kws:List Keyword)(t:TA):Prop :=
 ∀(pos:Pos) (pins:List (Addr×Obj)) (s:Shared) (σ:St) (H:Hp) (Q:List V->Hp->Prop),Inv X pins σ H s->t σ H Q->wpAny (model X.prog X.w) X.A (evalAll ((backToKw pos (keywordEach kws X.env)).map (·.2))) (AP X pins σ Q) X.xe s
section
variable{X:Cx}{CX:CXT}{k:Nat}{f C:Addr}{fd:FuncData}{ps ks:List Str}{sp:Sp}{E:XK}{x m:Str}{p pos apos kpos:Pos}{e o:Expr}{es:List Expr}{kws:List Keyword}{te ta:TE}{t tk:TA}{nm:Option Str}
theorem Bh:PK X [] jh:=fun _ _ _ _ H Q I h=>wpAny_evalAll_nil ⟨[],H,I,.nil,h⟩
theorem yA(ha:PE X e te)(hr:PK X kws t):PK X (⟨nm,e,kpos⟩::kws) (ip te t):=by intro pos pins s σ H Q I h;show wpAny _ _ (evalAll ((do let v ←eval e X.env;standAt pos;pure v)::(backToKw pos (keywordEach kws X.env)).map (·.2))) _ _ s;refine wpAny_evalAll_cons (Za (thn (ha pins s σ H _ I h) fun u s1 ⟨x,H1,I1,r1,q1⟩=>Za (wpAny_standAt (Zd ?_))));exact thn (hr pos pins s1 σ H1 _ I1 q1) fun us s2 ⟨xs,H2,I2,r2,q2⟩=>⟨x::xs,H2,I2,.cons r1 r2,q2⟩
structure KBinds(K:PySem.W.Frag)(fd:FuncData)(ps ks:List Str)(g:List Value->List Value->List Value)(gV:List V->List V->List V):Prop where
 to:∀(s:Shared) (us ws:List Value),K.In s.heap->(g us ws).length=ps.length->BindsTo s fd ⟨us,ks.zip ws⟩ (ps.zip (g us ws))
 rel:∀{vs:List V} {us:List Value} {zs:List V} {ws:List Value},Vals vs us->Vals zs ws->Vals (gV vs zs) (g us ws)
variable{g:List Value->List Value->List Value}{gV:List V->List V->List V}
end
structure FnScope(N P:List Str)(sc:Scope):Prop where
 kind:sc.kind=.function
 co:sc.isCoroutine=false
 gen:sc.isGenerator=false
 nd:N.Nodup
 pre:N.take P.length=P
 par:∀x∈P,sc.names.lookup x=some .local\/sc.names.lookup x=some .cell
 nofree:∀y∈sc.names,y.2≠.free
theorem kY{kindOf:Str->Option NameKind}{x:Str}:∀{binds:List (Str×Value)} {m:Str->Option Value},(∀v,(x,v)∉binds)->bindL kindOf binds m x=m x
 | [],_,_=>rfl
 |(n,v)::r,m,h=>by
  unfold bindL;rw[kY fun w hw=>h w (Zn _ hw)];split
  ·have:x≠n:=by rintro rfl;exact h v Zv
   simp[this]
  ·rfl
theorem kW{kindOf:Str->Option NameKind}{x:Str}:∀{binds:List (Str×Value)} {m:Str->Option Value},(∀v,(x,v)∉binds)->bindC kindOf binds m x=m x
 | [],_,_=>rfl
 |(n,v)::r,m,h=>by
  unfold bindC;rw[kW fun w hw=>h w (Zn _ hw)];split
  ·rfl
  ·have:x≠n:=by rintro rfl;exact h v Zv
   simp[this]
theorem kX{kindOf:Str->Option NameKind}{x:Str}{v:Value}:∀{P:List Str} {vs:List Value} {i:Nat} {m:Str->Option Value},P.Nodup->P[i]?=some x->vs[i]?=some v->kindOf x=some .local ->
  bindL kindOf (P.zip vs) m x=some v
 | [],_,_,_,_,h,_,_=>by simp at h
 |_::_,[],_,_,_,_,h,_=>by simp at h
 |p::P,w::vs,0,m,nd,h1,h2,hk=>by simp at h1 h2;subst h1;subst h2;show bindL kindOf ((p,w)::P.zip vs) m p=_;unfold bindL;rw[kY fun v hv=>(YE.mp nd).1 (List.of_mem_zip hv).1,if_pos hk];simp
 |p::P,w::vs,i+1,m,nd,h1,h2,hk=>by show bindL kindOf ((p,w)::P.zip vs) m x=_;unfold bindL;exact kX (i:=i) (YE.mp nd).2 (by simpa using h1) (by simpa using h2) hk
theorem kU{kindOf:Str->Option NameKind}{x:Str}{v:Value}:∀{P:List Str} {vs:List Value} {i:Nat} {m:Str->Option Value},P.Nodup->P[i]?=some x->vs[i]?=some v->kindOf x≠some .local ->
  bindC kindOf (P.zip vs) m x=some v
 | [],_,_,_,_,h,_,_=>by simp at h
 |_::_,[],_,_,_,_,h,_=>by simp at h
 |p::P,w::vs,0,m,nd,h1,h2,hk=>by simp at h1 h2;subst h1;subst h2;show bindC kindOf ((p,w)::P.zip vs) m p=_;unfold bindC;rw[kW fun v hv=>(YE.mp nd).1 (List.of_mem_zip hv).1,if_neg hk];simp
 |p::P,w::vs,i+1,m,nd,h1,h2,hk=>by show bindC kindOf ((p,w)::P.zip vs) m x=_;unfold bindC;exact kU (i:=i) (YE.mp nd).2 (by simpa using h1) (by simpa using h2) hk
def start(N:List Str)(vs:List V):St:=vs.map some++List.replicate (N.length-vs.length) none
def dD(CX:CXT)(P:Program)(w:World)(K:PySem.W.Frag)(mg:Str->Option Value)(base:Heap)(N:List Str)(qual:Str)(scope:Scope)(f:Addr)(cd:Value)(A:Around)(outer:List Env)(s:Shared)(H:Hp)(E:XK):Cx where
 prog:=P
 w:=w
 K:=K
 mg:=mg
 base:=base
 A:=A.deeper (envOfC qual scope s.heap.objs.size f cd)
 N:=N
 s₀:=s
 H₀:=H
 env:=envOfC qual scope s.heap.objs.size f cd
 outer:=outer
 stack:=envOfC qual scope s.heap.objs.size f cd::outer
 ex:=[]
 calm:=true
 fn:=fun _=>true
 pn:=[]
 xe:=fun e s'=>wpAny (model P w) (A.deeper (envOfC qual scope s.heap.objs.size f cd)) (leaving (envOfC qual scope s.heap.objs.size f cd) e) (fun _ s''=>CX outer H s E e s'') (fun e' s''=>CX outer H s E e' s'') s'
theorem mG{sc:Scope}{n:Nat}{x:Str}(h:sc.names.lookup x=some .cell):∃c,(cellsFrom n sc.names []).lookup x=some c:=by have q:=PySem.W.cellsFrom_some sc.names n [] (.inl h);exact Yo.mp q
theorem su{CX:CXT}{P:Program}{w:World}{K:PySem.W.Frag}{mg:Str->Option Value}{base:Heap}{N ps:List Str}{qual:Str}{scope:Scope}{f:Addr}{cd:Value}{A:Around}{outer:List Env}{s s1:Shared}{H:Hp}{E:XK}{us:List Value}{vs:List V}(S:FnScope N ps scope)(hd:A.handled=none)(e0:Env0 P w K mg base A outer s H)(hl:vs.length=ps.length)(r:Vals vs us)(x:InCallC s s.heap.objs.size (bindL (envOfC qual scope s.heap.objs.size f cd).kindOf (ps.zip us) fun _=>none) (cellsFrom (s.heap.objs.size+1) scope.names []) (bindC (envOfC qual scope s.heap.objs.size f cd).kindOf (ps.zip us) fun _=>none) s1) :
  Inv (dD CX P w K mg base N qual scope f cd A outer s H E) [] (start N vs) H s1:=by
 have hpl:ps.length<=N.length:=by have:=Yx List.length S.pre;rw[ZL]at this;omega
 obtain⟨h1,tk,rfl,hk⟩:=x.done;have noA:∀b:Addr,b∉(dD CX P w K mg base N qual scope f cd A outer s H E).ex:=fun b z=>absurd (show b∈([]:List Addr)from z) (by simp);refine⟨⟨e0.mod,S.kind,rfl,rfl,Ze _,fun y z c h1 h2=>?_,fun y hy=>?_,fun y c _ h=>?_,fun _=>hd,Around.frames_deeper e0.frames,.inr ⟨rfl,rfl⟩,fun b z=>absurd z (noA b),e0.bs,e0.bsz,fun b _ _=>noA b,fun b z=>absurd z (noA b),e0.funs,e0.frf⟩,
  rfl,e0.bare,Un.kept hk,⟨_,x.toInCall.ns,fun i y v h1 h2 h3=>?_⟩,fun y c h=>⟨_,x.cell y c h⟩,e0.hok.fresh (Ze _),fun y c h=>?_,fun p hp=>absurd (show p∈([]:List (Addr×Obj)) from hp) (by simp),e0.hok.kept hk,?_⟩
 ·exact name_of_addr x.apart (Yu h1) (Yu h2)
 ·have hy:scope.names.lookup y=some .cell\/scope.names.lookup y=some .free:=hy;rcases hy with hy|hy
  ·exact mG hy
  ·exact absurd rfl (S.nofree _ (Yu hy))
 ·exact Nat.le_of_lt (x.above y c (Yu h))
 ·have hi:i<vs.length:=by
   unfold start at h2;by_cases hi:i<vs.length
   ·exact hi
   ·rw[ZW (by simpa using hi)]at h2;rw[YL]at h2;split at h2<;>cases h2
  have ha:vs[i]?=some v:=by
   unfold start at h2;rw[YC (by simpa using hi),Z6]at h2;cases e:vs[i]? with
   |none=>rw[e]at h2;cases h2
   |some a=>rw[e]at h2;cases h2;rfl
  obtain⟨u,hu,rv⟩:=r.get ha;have hp:ps[i]?=some y:=by rw[<-S.pre,List.getElem?_take_of_lt (by omega)];exact h1
  have ndP:ps.Nodup:=by rw[<-S.pre];exact S.nd.sublist (Yb _ _)
  refine⟨u,rv,?_⟩;rcases S.par y (List.mem_of_getElem? hp)with k|k
  ·exact .inl ⟨k,kX ndP hp hu k⟩
  ·obtain⟨c,e⟩:=mG (n:=s.heap.objs.size+1) k;refine .inr ⟨.inl k,c,e,?_⟩;have q:=x.cell y c e;rw[kU ndP hp hu (by show scope.names.lookup y≠_;rw[k];decide)]at q;exact q
 ·exact e0.hok.fresh (Nat.le_of_lt (x.above y c (Yu h)))
 ·unfold start;show _=N.length;rw[Zo,Zh,Yd];omega
theorem wL{CX:CXT}{P:Program}{w:World}{K:PySem.W.Frag}{mg:Str->Option Value}{base:Heap}{k:Nat}{f:Addr}{name qual:Str}{params:Arguments}{body:List Stmt}{scope:Scope}{dV kV doc pm cdv ct oc:Value}{an od:Option Addr}{osl:Array (Option Value)}{N ps:List Str}{sp:Sp}(lk:K.lookup f=some ⟨oc,od,.func (PySem.W.fnOf name qual params body scope dV kV doc pm an cdv ct),osl⟩)(hcd:PySem.W.codeIn K cdv qual=true)(S:FnScope N ps scope)(len:∀ vs H Q E,sp vs H Q E->vs.length=ps.length)(hbody:∀ (A:Around) (outer:List Env) (s:Shared) (H:Hp) (vs:List V) (Q:VK) (E:XK),Room k (A.deeper (envOfC qual scope s.heap.objs.size f cdv))->sp vs H Q E ->
   ∃ t,PSs (dD CX P w K mg base N qual scope f cdv A outer s H E) body t/\t { nx:=fun _ H'=>Q .non H',rt:=Q } (start N vs) H) :
  FnOk P w K mg base CX (k+1) f (PySem.W.fnOf name qual params body scope dV kV doc pm an cdv ct) ps sp:=by
 refine⟨len,fun A outer s H args us vs Q E hr e0 hb r hsp=>?_⟩;have hl:=len _ _ _ _ hsp;have KX:K.In s.heap:=e0.mod.kin.keeps fun b o e=>(e0.bs b o e).1;have lim:s.heap.NoLimit:=e0.mod.nolimit.keeps fun b o e=>(e0.bs b o e).1;have hkind:∀y∈ps.zip us,scope.names.lookup y.1=some .local\/(scope.names.lookup y.1=some .cell/\((cellsFrom (s.heap.objs.size+1) scope.names []).lookup y.1).isSome=true):=fun⟨n,v⟩ hy=>by
  rcases S.par n (List.of_mem_zip hy).1 with q|q
  ·exact .inl q
  ·exact .inr ⟨q,PySem.W.cellsFrom_some _ _ _ (.inl q)⟩
 refine codeAny_call_function hr.depth (KX _ _ lk) rfl S.co S.gen rfl (PySem.W.codeRec_of KX hcd) (hb _ _ _ _ ?_);refine wpAny_newFunctionEnv_cells S.kind hkind fun env he s1 x=>?_;subst he;refine⟨lim.keeps x.toInCall.keep,codeAny_func ?_⟩;obtain⟨t,ht,hq⟩:=hbody A outer s H vs Q E (hr.deeper _) hsp;have I:Inv (dD CX P w K mg base N qual scope f cdv A outer s H E) [] (start N vs) H s1:=su S hr.hd e0 hl r x;refine ZG (ht [] s1 (start N vs) H _ I hq) (fun fl s' hs=>?_) fun e s' hs=>hs;have fin:∀{σ':St} {H':Hp} {v:V} {u:Value},Inv (dD CX P w K mg base N qual scope f cdv A outer s H E) [] σ' H' s'->RelV v u->Q v H'->CE outer P w H s Q u s' :=
  fun{σ' H' v u} J rv q=>⟨v,H',J.os,J.bare,J.base,J.hok,rv,q⟩
 cases fl with
 |ret u =>obtain⟨v,σ',H',J,rv,q⟩:=hs;exact fin J rv q
 |next =>obtain⟨σ',H',J,q⟩:=hs;exact fin (v:=V.non) (u:=Value.none) J rfl q
 |brk =>obtain⟨_,_,_,q⟩:=hs;exact False.elim q
 |cont =>obtain⟨_,_,_,q⟩:=hs;exact False.elim q
open PySem PySem.Spec PyProof.Rows
section
variable{X:Cx}{x:Str}{p pos:Pos}{e:Expr}{es:List Expr}{t:TA}{id T:String}{r:List V->Hp->VK->Prop}
def tCB(r:List V->Hp->VK->Prop)(t:TA):TE:=fun σ H Q=>t σ H fun vs H1=>r vs H1 Q
theorem vD(hc:cE X (.builtin id) r)(hg:Gl X x)(hm:X.mg x=none)(hv:bootBuiltins x=some (.builtin id))(ha:PA X (e::es) t)(hn:x≠"__name__":=by decide)(hdb:(x==("__debug__":Str))=false:=by decide)(he:starEach (e::es) X.env=(false,eval e X.env)::starEach es X.env:=by rfl)(hpl:(backTo pos (starEach es X.env)).any (·.1)=false:=by rfl):PE X (.Call (.Name x p) (e::es) [] pos) (tCB r t):=by intro pins s σ H Q I h;refine wpAny_Call_Name_kw (fi I hg hm hv ?_ hn hdb);exact PyProof.Rows.callWith_builtin1 (thn (ha pos pins s σ H _ I h) fun us s1 ⟨vs,H1,I1,r1,q1⟩=>hc pins s1 σ H1 vs us Q I1 r1 q1) he hpl
theorem tj(hc:cE X (.type T) r)(hg:Gl X x)(hm:X.mg x=none)(hv:bootBuiltins x=some (.type T))(ha:PA X (e::es) t)(hn:x≠"__name__":=by decide)(hdb:(x==("__debug__":Str))=false:=by decide)(he:starEach (e::es) X.env=(false,eval e X.env)::starEach es X.env:=by rfl)(hpl:(backTo pos (starEach es X.env)).any (·.1)=false:=by rfl):PE X (.Call (.Name x p) (e::es) [] pos) (tCB r t):=by intro pins s σ H Q I h;refine wpAny_Call_Name_kw (fi I hg hm hv ?_ hn hdb);exact YR (thn (ha pos pins s σ H _ I h) fun us s1 ⟨vs,H1,I1,r1,q1⟩=>hc pins s1 σ H1 vs us Q I1 r1 q1) he hpl
end
end L2
namespace HT
open PySem PyProof.Rows
def lexLt:List Int->List Int->Bool
 | [],[]=>false
 | [],_::_=>true
 |_::_,[]=>false
 |x::xs,y::ys=>if x=y then lexLt xs ys else decide (x<y)
theorem lexLt_cons(x y:Int)(xs ys:List Int):lexLt (x::xs) (y::ys)=if x=y then lexLt xs ys else decide (x<y):=rfl
theorem lexLt_nil_nil:lexLt [] []=false:=rfl
theorem eqAt_int(A:Around)(s:Shared)(a:Int)(t:Tok)(c:Int)(u:Tok):∃e,SeqAt.EqAt A s (.int a t) (.int c u) e/\(e=true↔a=c) :=
 ⟨(a==c),SeqAt.EqAt.int_int a t c u,by simp⟩
section
variable{prog:Program}{w:World}{A:Around}{E:Value->Shared->Prop}{s:Shared}
theorem cat_tup{t b:Addr}{vs ws:List Value}{Q:Value->Shared->Prop}(ht:IsTup s.heap t vs.toArray)(hb:IsTup s.heap b ws.toArray)(hv:vs≠[])(h1:ws=[]->Q (.ref t) s)(h2:ws≠[]->Q (.ref s.heap.objs.size) { s with heap:=s.heap.push { cls:=.type "tuple",data:=.seq (vs++ws).toArray } })(hsz:vs.length+ws.length<=sizeLine):wpAny (model prog w) A (binaryOp .Add (.ref t) (.ref b)) Q E s:=by
 obtain⟨⟨cls,dd,data,sl⟩,ho,hc,n,hd⟩:=id ht;obtain⟨⟨cls2,dd2,data2,sl2⟩,ho2,hc2,n2,hd2⟩:=id hb;simp only at hc hd hc2 hd2;subst hc hd hc2 hd2;have e:vs.toArray++ws.toArray=(vs++ws).toArray:=by simp
 by_cases hw:ws=[]
 ·exact concat_meets ⟨_,ho,rfl⟩ ⟨_,ho2,rfl⟩ noFill_tuple_add seq_tuple_add PySem.F.slot_tuple_add PySem.F.entry_tuple_add (PySem.F.args_tuple_add_2 _ _)
   (tuple_addW1 t b vs.toArray ws.toArray n n2 dd dd2 sl sl2 (by simpa using hv) (by simp[hw])) ⟨ho,ho2,h1 hw⟩
 ·refine concat_meets ⟨_,ho,rfl⟩ ⟨_,ho2,rfl⟩ noFill_tuple_add seq_tuple_add PySem.F.slot_tuple_add PySem.F.entry_tuple_add (PySem.F.args_tuple_add_2 _ _)
   (tuple_addW2 t b vs.toArray ws.toArray n n2 dd dd2 sl sl2 (by simpa using hv) (by simpa using hw) (by rw[Zj,Zj];exact hsz)) ⟨ho,ho2,?_⟩
  rw[e];exact h2 hw
def sIx(n d:Nat):Option Int->Nat
 |none=>d
 |some v=>if v<0 then(v+(n:Int)).toNat else min v.toNat n
theorem sIx_none(n d:Nat):sIx n d none=d:=rfl
theorem sIx_nat(n d k:Nat):sIx n d (some (k:Int))=min k n:=by show(if(k:Int)<0 then((k:Int)+(n:Int)).toNat else min (k:Int).toNat n)=min k n;rw[if_neg (by omega),Int.toNat_natCast]
theorem BE(n d:Nat)(hd:d<=n)(o:Option Int):sIx n d o<=n:=by
 cases o with
 |none=>exact hd
 |some v =>
  show(if v<0 then(v+(n:Int)).toNat else min v.toNat n)<=n;by_cases hv:v<0
  ·rw[if_pos hv];omega
  ·rw[if_neg hv];exact Nat.min_le_right _ _
theorem oQ(v:Int)(n d:Nat):(if v<0 then max (v+(n:Int)) 0 else min v (n:Int))=((sIx n d (some v):Nat):Int):=by
 show(if v<0 then max (v+(n:Int)) 0 else min v (n:Int))=(((if v<0 then(v+(n:Int)).toNat else min v.toNat n):Nat):Int);by_cases hv:v<0
 ·simp only[if_pos hv];omega
 ·simp only[if_neg hv];omega
theorem qj(lo hi:Option Int)(n:Nat):Builtin.Slice.sliceAdjust lo hi 1 (n:Int)=(((sIx n 0 lo:Nat):Int),((sIx n n hi:Nat):Int)):=by
 have h1:¬((1:Int)<0):=by omega
 unfold Builtin.Slice.sliceAdjust;simp only[h1,if_false];refine Prod.ext ?_ ?_
 ·cases lo with
  |none=>rfl
  |some v=>exact oQ v n 0
 ·cases hi with
  |none=>rfl
  |some v=>exact oQ v n n
theorem qZ(i j:Nat):Builtin.Slice.slicePlaces (i:Int) (j:Int) 1=j-i:=by
 unfold Builtin.Slice.slicePlaces;have h1:(1:Int)>0:=by omega
 simp only[h1,if_true,Int.ediv_one];split<;>omega
theorem jO{v:Value}{o:Option Int}{Q:Option Int->Shared->Prop}(p:IsPart v o)(h:Q o s):wpAny (model prog w) A (Builtin.Slice.slicePartIndex v) Q E s:=by
 cases p with
 |none=>exact slicePart_none h
 |int i t=>exact slicePart_int h
theorem sliceApplied_gen{sl:Addr}{vl vu:Value}{lo hi:Option Int}{n:Nat}{Q:Int×Int×Nat->Shared->Prop}(hs:s.heap.IsSliceOf sl vl vu .none)(pl:IsPart vl lo)(pu:IsPart vu hi)(h:Q (((sIx n 0 lo:Nat):Int),1,sIx n n hi-sIx n 0 lo) s):wpAny (model prog w) A (Builtin.Slice.sliceApplied (.ref sl) (pure (n:Int))) Q E s:=by obtain⟨os,hos,hcs,hds⟩:=id hs;unfold Builtin.Slice.sliceApplied Builtin.Slice.sliceFields;refine Za (Za (ZQ hos hds (x:=vl) rfl (Za (ZQ hos hds (x:=vu) rfl (Za (ZQ hos hds (x:=.none) rfl (Zd ?_)))))));refine Za (slicePart_none ?_);show wpAny _ _ (if((1:Int)==0)=true then _ else _) _ _ s;rw[if_neg (by decide)];refine Za (jO pl (Za (jO pu (Za (Zd ?_)))));show wpAny _ _ (match Builtin.Slice.sliceAdjust lo hi 1 (n:Int)with|(lo,hi)=>pure (lo,(1:Int),Builtin.Slice.slicePlaces lo hi 1)) _ _ s;rw[qj lo hi n];show wpAny _ _ (pure (((sIx n 0 lo:Nat):Int),(1:Int),Builtin.Slice.slicePlaces ((sIx n 0 lo:Nat):Int) ((sIx n n hi:Nat):Int) 1)) _ _ s;rw[qZ];exact Zd h
theorem vJ(xs:Array Value)(i k:Nat):((List.range k).filterMap fun(m:Nat)=>xs[((i:Int)+(m:Int)*1).toNat]?).toArray=((xs.toList.drop i).take k).toArray:=by
 have e:(fun(m:Nat)=>xs[((i:Int)+(m:Int)*1).toNat]?)=fun m=>xs[i+m]?:=by
  funext m;have:((i:Int)+(m:Int)*1).toNat=i+m:=by omega
  rw[this]
 rw[e];have:=pick_run xs i k;rw[List.filterMap_map]at this;have e2:((fun x=>xs[x]?)∘fun x=>i+x)=fun m=>xs[i+m]?:=rfl;rw[e2]at this;rw[this]
theorem getItem_tuple_cut{t sl:Addr}{items:Array Value}{vl vu:Value}{lo hi:Option Int}{Q:Value->Shared->Prop}(ht:IsTup s.heap t items)(hs:s.heap.IsSliceOf sl vl vu .none)(pl:IsPart vl lo)(pu:IsPart vu hi)(hw:¬(sIx items.size 0 lo=0/\sIx items.size items.size hi=items.size))(h:Q (.ref s.heap.objs.size) { s with heap:=s.heap.push { cls:=.type "tuple",data:=.seq ((items.toList.drop (sIx items.size 0 lo)).take (sIx items.size items.size hi-sIx items.size 0 lo)).toArray } })(hsz:items.size<=sizeLine):wpAny (model prog w) A (getItem (.ref t) (.ref sl)) Q E s:=by
 have htake:sizeOk (.seq ((items.toList.drop (sIx items.size 0 lo)).take (sIx items.size items.size hi-sIx items.size 0 lo)).toArray):=by show((items.toList.drop (sIx items.size 0 lo)).take (sIx items.size items.size hi-sIx items.size 0 lo)).toArray.size<=sizeLine;rw[Zj,ZL,Z9,Zt];omega
 have hj:sIx items.size items.size hi<=items.size:=BE _ _ (Ze _) hi;obtain⟨os,hos,hcs,hds⟩:=id hs;have hTs:s.TypeIs (.ref sl) "slice":=⟨os,hos,hcs⟩
 unfold getItem
 try with_reducible refine ZV ?_
 first|refine Za (Zd ?_)|skip
 refine Za (wpAny_sequenceKey ht.typeIs (by decide) ?_);refine Za (ZT (name:=Str.ofString "__getitem__") ht.typeIs Z7
  (y0 Z7 ht.typeIs entry_tuple_getitem ?_ (args_tuple_getitem _ _)))
 show wpAny _ _ (Builtin.Tuple.tupleItemsOf (.ref t) >>= _) _ _ s;refine Za (tupleItemsOf_ ht ?_);refine Za (wpAny_typeOf hTs ?_);rw[if_pos (by decide)];refine Za (sliceApplied_gen hs pl pu ?_);have hno:¬((((sIx items.size 0 lo:Nat):Int)==0&&(1:Int)==1&&(sIx items.size items.size hi-sIx items.size 0 lo)==items.size)=true):=by intro q;rw[ZB,ZB]at q;have q1:((sIx items.size 0 lo:Nat):Int)=0:=eq_of_beq q.1.1;have q2:sIx items.size items.size hi-sIx items.size 0 lo=items.size:=eq_of_beq q.2;exact hw ⟨by omega,by omega⟩
 show wpAny _ _ (if(((sIx items.size 0 lo:Nat):Int)==0&&(1:Int)==1&&(sIx items.size items.size hi-sIx items.size 0 lo)==items.size)=true then _ else _) _ _ s;rw[if_neg hno,vJ]
 first
  |exact Za (m:=Builtin.Tuple.tupleExact _) (ZY (Zd ⟨_,rfl,Zd h⟩) htake)
  |exact Za (m:=Builtin.Tuple.tupleExact _) (ZY (Za (Zd (Zd ⟨_,rfl,Zd h⟩))) htake)
  |exact Za (Za (m:=Builtin.Tuple.tupleExact _) (ZY (Zd (Zd ⟨_,rfl,Zd h⟩)) htake))
  |exact Za (Za (m:=Builtin.Tuple.tupleExact _) (ZY (Zd ⟨_,rfl,Zd h⟩) htake))
end
end HT
namespace L2
open PySem PySem.Spec PyProof.Rows
abbrev TO:=St->Hp->(Option Int->Hp->Prop)->Prop
def PO(X:Cx)(e:Option Expr)(t:TO):Prop :=
 ∀(pins:List (Addr×Obj)) (s:Shared) (σ:St) (H:Hp) (Q:Option Int->Hp->Prop),Inv X pins σ H s->t σ H Q ->
  wpAny (model X.prog X.w) X.A (evalPart e X.env) (fun u s'=>∃o H',Inv X pins σ H' s'/\IsPart u o/\Q o H') X.xe s
def pS:TO:=fun _ H Q=>Q none H
def xz(t:TE):TO:=fun σ H Q=>t σ H fun x H1=>∃i,x=.int i/\Q (some i) H1
theorem dL{ns:List Int}:∀{us:List Value},Vals (ns.map V.int) us->IntsAre us ns:=by
 induction ns with
 |nil=>intro us r;rw[List.map_nil]at r;cases r;exact .nil
 |cons n ns ih =>
  intro us r;rw[Zz]at r;cases r with
  |cons r1 r2 =>obtain⟨t,e⟩:=r1;subst e;exact .cons n t (ih r2)
section
variable{X:Cx}{e:Expr}{te:TE}{lo hi:Option Expr}{tl th:TO}{pos p2:Pos}
theorem yE:PO X none pS:=by intro pins s σ H Q I h;rw[evalPart_none];exact Zd ⟨none,H,I,.none,h⟩
theorem yF(h:PE X e te):PO X (some e) (xz te):=by intro pins s σ H Q I hw;rw[evalPart_some];refine thn (h pins s σ H _ I hw) fun u s1 hz9=>?_;obtain⟨x,H1,I1,r1,q1⟩:=hz9;obtain⟨i,rfl,q⟩:=q1;obtain⟨t,rfl⟩:=r1;exact⟨some i,H1,I1,.int i t,q⟩
def SlR(X:Cx)(r:V->Option Int->Option Int->Hp->VK->Prop):Prop :=
 ∀(pins:List (Addr×Obj)) (s:Shared) (σ:St) (H:Hp) (x:V) (v vl vu:Value) (lo hi:Option Int) (sl:Addr) (Q:VK),Inv X pins σ H s->RelV x v->s.heap.IsSliceOf sl vl vu .none->IsPart vl lo->IsPart vu hi->r x lo hi H Q ->
  ∃T id,typeLookup (.type T) "__getitem__" = pure (some (.builtin id))/\s.TypeIs v T/\wpAny (model X.prog X.w) X.A (getItem v (.ref sl)) (EP X pins σ Q) X.xe s
def tSl(r:V->Option Int->Option Int->Hp->VK->Prop)(te:TE)(tl th:TO):TE:=fun σ H Q=>te σ H fun x H1=>tl σ H1 fun l H2=>th σ H2 fun u H3=>r x l u H3 Q
theorem vH{r:V->Option Int->Option Int->Hp->VK->Prop}(hr:SlR X r)(he:PE X e te)(hl:PO X lo tl)(hu:PO X hi th):PE X (.Subscript e (.Slice lo hi none p2) pos) (tSl r te tl th):=by intro pins s σ H Q I h;refine Subscript_ (thn (he pins s σ H _ I h) fun v s1 hz9=>?_);obtain⟨x,H1,I1,r1,q1⟩:=hz9;refine wpAny_Slice (thn (hl pins s1 σ H1 _ I1 q1) fun vl s2 ⟨l,H2,I2,pl,q2⟩=>thn (hu pins s2 σ H2 _ I2 q2) fun vu s3 hz9=>?_);obtain⟨u,H3,I3,pu,q3⟩:=hz9;rw[evalPart_none];refine Zd ?_;have I4:Inv X pins σ H3 { s3 with heap:=s3.heap.push { cls:=.type "slice",data:=.fields #[vl,vu,.none] } }:=I3.kept (t':=s3.toks) fun b ob q=>Zb _ q;obtain⟨T,id,hT,ht,hg⟩:=hr pins { s3 with heap:=s3.heap.push { cls:=.type "slice",data:=.fields #[vl,vu,.none] } } σ H3 x v vl vu l u s3.heap.objs.size Q I4 r1 (Heap.IsSliceOf.new ..) pl pu q3;show wpAny (model X.prog X.w) X.A (subscriptTail e (.Slice lo hi none p2) v (.ref s3.heap.objs.size)) (EP X pins σ Q) X.xe { s3 with heap:=s3.heap.push { cls:=.type "slice",data:=.fields #[vl,vu,.none] } };exact tail_any (ops:=[.ref s3.heap.objs.size,v]) ht hT hg (by with_unfolding_all rfl)
def bO(xs:List V)(lo hi:Option Int):List V:=(xs.drop (HT.sIx xs.length 0 lo)).take (HT.sIx xs.length xs.length hi-HT.sIx xs.length 0 lo)
theorem iB(xs:List V)(lo hi:Option Int):(bO xs lo hi).length<=xs.length:=by unfold bO;rw[ZL,Z9];omega
def C8(K:PySem.W.Frag):V->Option Int->Option Int->Hp->VK->Prop:=fun x lo hi H Q=>∃a xs,x=.ref a/\SqT K H a xs /\
 ¬(HT.sIx xs.length 0 lo=0/\HT.sIx xs.length xs.length hi=xs.length)/\∀p,H p=none->Q (.ref p) (upd H p (.tup (bO xs lo hi)))
theorem BI:SlR X (C8 X.K):=by
 intro pins s σ H x v vl vu lo hi sl Q I rx hs pl pu h;obtain⟨a,xs,rfl,hx,hw,q⟩:=h;cases rx;obtain⟨its,r,ht,hz⟩:=I.tuple hx;have hlen:its.toArray.size=xs.length:=by rw[Zj];exact r.length.symm
 refine⟨"tuple",_,Z7.lookup,ht.typeIs,?_⟩;refine HT.getItem_tuple_cut ht hs pl pu (by rw[hlen];exact hw) ?_ (by rw[hlen];exact hz);rw[hlen];refine⟨.ref s.heap.objs.size,_,I.laid (t':=s.toks) (o:=.tup (bO xs lo hi)) (fun b ob q=>Zb _ q) (Ze _) ?_,rfl,q _ (I.hok.fresh (Ze _))⟩;exact⟨ZC (iB xs lo hi) hz,_,(r.drop (HT.sIx xs.length 0 lo)).take (HT.sIx xs.length xs.length hi-HT.sIx xs.length 0 lo),IsTup.new _ _⟩
def CG(K:PySem.W.Frag):R2:=fun x y H Q=>∃a b xs ys,x=.ref a/\y=.ref b/\SqT K H a xs/\SqT K H b ys/\xs≠[]/\xs.length+ys.length<=sizeLine /\
 (ys=[]->Q (.ref a) H)/\(ys≠[]->∀p,H p=none->Q (.ref p) (upd H p (.tup (xs++ys))))
theorem Vals.nil_iff{xs:List V}{us:List Value}(r:Vals xs us):us=[]↔xs=[]:=by
 cases r with
 |nil=>simp
 |cons _ _=>simp
theorem yg:OpR X (binaryOp .Add) (CG X.K):=by intro pins s σ H x y v u Q I rx ry h;obtain⟨a,b,xs,ys,rfl,rfl,ha,hb,hx,hz,q1,q2⟩:=h;cases rx;cases ry;obtain⟨its,r1,p1,_⟩:=I.tuple ha;obtain⟨its2,r2,p2,_⟩:=I.tuple hb;refine HT.cat_tup p1 p2 (fun z=>hx (r1.nil_iff.mp z)) (fun z=>⟨.ref a,H,I,rfl,q1 (r2.nil_iff.mp z)⟩) (fun z=>?_) (by rw[<-r1.length,<-r2.length];exact hz);refine⟨.ref s.heap.objs.size,_,I.laid (t':=s.toks) (o:=.tup (xs++ys)) (fun b ob q=>Zb _ q) (Ze _) ?_,rfl,q2 (fun w=>z (r2.nil_iff.mpr w)) _ (I.hok.fresh (Ze _))⟩;exact⟨by rw[Zo];exact hz,_,r1.append r2,IsTup.new _ _⟩
end
open PySem PySem.Spec PyProof.Rows
def ixN(n:Nat)(i:Int):Option Nat:=if 0<=i then(if i<n then some i.toNat else none)else if -(n:Int)<=i then some (i+n).toNat else none
def atI{α:Type}(xs:List α)(i:Int):Option α:=(ixN xs.length i).bind fun j=>xs[j]?
theorem oY{n:Nat}{i:Int}{j:Nat}(h:ixN n i=some j):seqIndex? i n=some j/\j<n/\-(n:Int)<=i/\i<n:=by
 unfold ixN at h;by_cases h0:0<=i
 ·rw[if_pos h0]at h;by_cases h1:i<n
  ·rw[if_pos h1]at h;have e:i.toNat=j:=Zu h;exact⟨by rw[seqIndex_of h0 h1,e],by omega,by omega,h1⟩
  ·rw[if_neg h1]at h;cases h
 ·rw[if_neg h0]at h;by_cases h1:-(n:Int)<=i
  ·rw[if_pos h1]at h;have e:(i+n).toNat=j:=Zu h;exact⟨by rw[seqIndex_neg (by omega) h1,e],by omega,h1,by omega⟩
  ·rw[if_neg h1]at h;cases h
theorem oO{α:Type}{xs:List α}{i:Int}{v:α}(h:atI xs i=some v):∃j,seqIndex? i xs.length=some j/\xs[j]?=some v/\j<xs.length/\-(xs.length:Int)<=i/\i<xs.length:=by
 unfold atI at h;cases e:ixN xs.length i with
 |none=>rw[e]at h;cases h
 |some j =>rw[e]at h;obtain⟨h1,h2,h3,h4⟩:=oY e;exact⟨j,h1,h,h2,h3,h4⟩
theorem cS{α:Type}{xs:List α}{j:Nat}{v:α}(h:xs[j]?=some v):atI xs (j:Int)=some v:=by
 have hj:j<xs.length:=(Zw.mp h).1;have e:ixN xs.length (j:Int)=some j:=by unfold ixN;rw[if_pos (by omega),if_pos (by omega)];simp
 unfold atI;rw[e];exact h
def oM(b:Expr):Prop:=∀o i,subscripted b false o i=operate [o,i] (getItem o i)
def IxR(X:Cx)(r:R2):Prop :=
 ∀(value slice:Expr) (pins:List (Addr×Obj)) (s:Shared) (σ:St) (H:Hp) (x y:V) (v u:Value) (Q:VK),Inv X pins σ H s->RelV x v->RelV y u->r x y H Q ->
  subscripted slice false v u=operate [v,u] (getItem v u)->wpAny (model X.prog X.w) X.A (subscriptTail value slice v u) (EP X pins σ Q) X.xe s
def MtR(X:Cx)(id:String)(r:V->List V->Hp->VK->Prop):Prop :=
 ∀(pins:List (Addr×Obj)) (s:Shared) (σ:St) (H:Hp) (x:V) (xs:List V) (v:Value) (us:List Value) (Q:VK),Inv X pins σ H s->RelV x v->Vals xs us->r x xs H Q ->
  wpAny (model X.prog X.w) X.A (call (.builtin id) (v::us)) (EP X pins σ Q) X.xe s
section
variable{X:Cx}{a b:Expr}{ta tb:TE}{pos:Pos}
theorem Cz{r:R2}(hr:IxR X r)(ha:PE X a ta)(hb:PE X b tb)(hs:oM b):PE X (.Subscript a b pos) (tOp r ta tb):=by intro pins s σ H Q I h;exact Subscript_ (uL ha hb I h fun v u s2 x y H2 I2 rx ry q=>hr a b pins s2 σ H2 x y v u Q I2 rx ry q (hs _ _))
def vT(K:PySem.W.Frag):R2:=fun x y H Q=>∃p xs i v,x=.ref p/\y=.int i/\SqL K H p xs/\atI xs i=some v/\Q v H
def nC(K:PySem.W.Frag):R2:=fun x y H Q=>∃p xs i v,x=.ref p/\y=.int i/\SqT K H p xs/\atI xs i=some v/\Q v H
theorem ya:IxR X (vT X.K):=by
 intro value slice pins s σ H x y v u Q I rx ry h hs;obtain⟨p,xs,i,z,rfl,rfl,hq,he,q⟩:=h;cases rx;obtain⟨t,rfl⟩:=ry;obtain⟨its,r,pl,hz⟩:=I.list hq;obtain⟨j,h1,h2,h3,h4,h5⟩:=oO he;obtain⟨w,ew,rw'⟩:=r.get h2;have hl:=r.length;have hn:=jB;have fin:EP X pins σ Q w s:=⟨z,H,I,rw',q⟩
 by_cases h0:0<=i
 ·have hj:i.toNat=j:=by rw[seqIndex_of h0 h5]at h1;exact Zu h1
  exact item_listR pl.isList h0 (by omega) (by rw[hj];simpa using ew) fin hs
 ·have hj:(i+(its.toArray.size:Int)).toNat=j:=by rw[seqIndex_neg (by omega) h4]at h1;rw[Zj,<-hl];exact Zu h1
  exact subscriptTail_builtinR (x:=w) pl.isList.typeIs slot_list_getitem.lookup
   (wpAny_getItem_list_neg (Q:=fun r s'=>r=w/\EP X pins σ Q r s') pl.isList (by omega) (by rw[Zj]<;>omega) (by omega) (by rw[hj];simpa using ew) ⟨rfl,fin⟩) hs
theorem Ah:IxR X (nC X.K):=by
 intro value slice pins s σ H x y v u Q I rx ry h hs;obtain⟨p,xs,i,z,rfl,rfl,hq,he,q⟩:=h;cases rx;obtain⟨t,rfl⟩:=ry;obtain⟨its,r,pl,hz⟩:=I.tuple hq;obtain⟨j,h1,h2,h3,h4,h5⟩:=oO he;obtain⟨w,ew,rw'⟩:=r.get h2;have hl:=r.length;have hn:=jB;have fin:EP X pins σ Q w s:=⟨z,H,I,rw',q⟩
 exact subscriptTail_builtinR (x:=w) pl.typeIs slot_tuple_getitem.lookup
  (getItem_tuple (j:=j) (Q:=fun r s'=>r=w/\EP X pins σ Q r s') pl (by omega) (by omega) (by rw[Zj,<-hl];exact h1) (by simpa using ew) ⟨rfl,fin⟩) hs
theorem qL(its:List Value)(n j:Nat)(u:Value):Obj.mapSeq (·.setIfInBounds j u) { cls:=.type "list",data:=.seq its.toArray n }={ cls:=.type "list",data:=.seq (its.set j u).toArray n }:=by simp[Obj.mapSeq]
theorem Inv.lst{pins:List (Addr×Obj)}{σ:St}{H:Hp}{s:Shared}{p:Addr}{xs:List V}(I:Inv X pins σ H s)(h:H p=some (.lst xs)) :
  ∃(its:List Value) (n:Nat),Vals xs its/\s.heap.get? p=some { cls:=.type "list",data:=.seq its.toArray n }/\xs.length<=sizeLine:=by
 obtain⟨z,its,n,r,e⟩:=I.hok p _ h;exact⟨its,n,r,e,z⟩
theorem Inv.lstUpd{pins:List (Addr×Obj)}{σ:St}{H:Hp}{s:Shared}{p:Addr}{xs ys:List V}{its its':List Value}{n n':Nat}{f:Obj->Obj}(I:Inv X pins σ H s)(h:H p=some (.lst xs))(ho:s.heap.get? p=some { cls:=.type "list",data:=.seq its.toArray n })(hf:f { cls:=.type "list",data:=.seq its.toArray n }={ cls:=.type "list",data:=.seq its'.toArray n' })(r:Vals ys its')(hz:ys.length<=sizeLine)(t:Nat) :
  Inv X pins σ (upd H p (.lst ys)) { s with heap:=s.heap.update p f,toks:=t }:=by
 have e:(s.heap.update p f).get? p=some { cls:=.type "list",data:=.seq its'.toArray n' }:=by rw[Yn f ho (by rw[hf]<;>rfl),hf]
 refine I.write (x:=p) (e:=p) (by rw[h];trivial) (.inl rfl) (fun b u hb q=>(y8 _ _ (Z8 hb)).trans q) ⟨_,e⟩ ?_;exact⟨hz,its',n',r,e⟩
def xh:V->V->V->Hp->(Hp->Prop)->Prop:=fun o i v H Q=>∃p xs k j,o=.ref p/\i=.int k/\H p=some (.lst xs)/\ixN xs.length k=some j/\Q (upd H p (.lst (xs.set j v)))
theorem wb:uH X xh:=by
 intro pins s σ H o i v ov iv u Q I ro ri rv h;obtain⟨p,xs,k,j,rfl,rfl,hp,hj,q⟩:=h;cases ro;obtain⟨t,rfl⟩:=ri;obtain⟨its,n,r,ho,hz⟩:=I.lst hp;obtain⟨h1,h2,h3,h4⟩:=oY hj;have hl:=r.length;have hn:=jB;have I':Inv X pins σ (upd H p (.lst (xs.set j v))) { s with heap:=s.heap.update p (Obj.mapSeq (·.setIfInBounds j u)) } :=
  I.lstUpd hp ho (qL its n j u) (r.set rv j) (by rw[Yt];exact hz) s.toks
 by_cases h0:0<=k
 ·have hk:k.toNat=j:=by rw[seqIndex_of h0 h4]at h1;exact Zu h1
  exact PySem.W.ki_setAt ho h0 (by omega) (by rw[Zj,<-hl];exact h4) (by rw[hk];exact⟨_,I',q⟩)
 ·have hk:(k+(its.toArray.size:Int)).toNat=j:=by rw[seqIndex_neg (by omega) h3]at h1;rw[Zj,<-hl];exact Zu h1
  exact PySem.W.ki_setBack ho (by omega) (by rw[Zj,<-hl];exact h3) (by omega) (by rw[hk];exact⟨_,I',q⟩)
theorem nO(lo hi:Option Int)(n:Nat):(sliceBounds lo hi none n).1=((HT.sIx n 0 lo:Nat):Int)/\(sliceBounds lo hi none n).2.1=((HT.sIx n n hi:Nat):Int)/\(sliceBounds lo hi none n).2.2=1:=by
 refine⟨?_,?_,rfl⟩
 ·cases lo with
  |none=>simp[sliceBounds,HT.sIx]
  |some i =>
   simp only[sliceBounds,HT.sIx,Option.getD_none,show(1:Int)>0 by decide,if_true];by_cases h:i<0
   ·simp only[h,if_true]<;>omega
   ·simp only[h,if_false]<;>omega
 ·cases hi with
  |none=>simp[sliceBounds,HT.sIx]
  |some i =>
   simp only[sliceBounds,HT.sIx,Option.getD_none,show(1:Int)>0 by decide,if_true];by_cases h:i<0
   ·simp only[h,if_true]<;>omega
   ·simp only[h,if_false]<;>omega
theorem lV(its:List Value)(lo hi:Option Int):slicePick its.toArray lo hi none=((its.drop (HT.sIx its.length 0 lo)).take (HT.sIx its.length its.length hi-HT.sIx its.length 0 lo)).toArray:=by obtain⟨h1,h2,h3⟩:=nO lo hi its.toArray.size;unfold slicePick;rw[h1,h2,h3];simp only[sliceRange_one,pick_run,Zj]<;>rfl
def BB(K:PySem.W.Frag):V->Option Int->Option Int->Hp->VK->Prop:=fun x lo hi H Q=>∃a xs,x=.ref a/\SqL K H a xs/\∀p,H p=none->Q (.ref p) (upd H p (.lst (bO xs lo hi)))
theorem yU:SlR X (BB X.K):=by intro pins s σ H x v vl vu lo hi sl Q I rx hs pl pu h;obtain⟨a,xs,rfl,hx,q⟩:=h;cases rx;obtain⟨its,r,ht,hz⟩:=I.list hx;have hlen:=r.length;refine⟨"list",_,slot_list_getitem.lookup,ht.isList.typeIs,?_⟩;refine wpAny_getItem_list_slice ht.isList hs pl pu .none (by simp) ?_ (by rw[Zj]<;>omega);rw[lV,<-hlen];refine⟨.ref s.heap.objs.size,_,I.laid (t':=s.toks) (o:=.lst (bO xs lo hi)) (fun b ob q=>Zb _ q) (Ze _) ?_,rfl,q _ (I.hok.fresh (Ze _))⟩;exact⟨ZC (iB xs lo hi) hz,_,0,(r.drop (HT.sIx xs.length 0 lo)).take (HT.sIx xs.length xs.length hi-HT.sIx xs.length 0 lo),Zr _ rfl⟩
def eQ:V->Bool
 |.non=>true
 |.bl _=>true
 |.int _=>true
 |.str _=>true
 |_=>false
def eqV:V->V->Bool
 |.non,.non=>true
 |.bl a,.bl b=>a==b
 |.bl a,.int b=>(if a then 1 else 0)==b
 |.int a,.bl b=>a==(if b then 1 else 0)
 |.int a,.int b=>a==b
 |.str a,.str b=>a==b
 |_,_=>false
theorem zU{A:Around}{s:Shared}{y x:V}{u v:Value}(ry:RelV y u)(rx:RelV x v)(fy:eQ y=true)(fx:eQ x=true):SeqAt.EqAt A s u v (eqV y x):=by
 cases y with
 |non =>
  cases ry;cases x with
  |non=>cases rx;exact SeqAt.EqAt.same _
  |bl b=>cases rx;exact SeqAt.EqAt.none_bool b
  |int b=>obtain⟨t,rfl⟩:=rx;exact SeqAt.EqAt.none_int b t
  |str b=>obtain⟨t,rfl⟩:=rx;exact SeqAt.EqAt.none_str b t
  |_=>exact absurd (show false=true from fx) Zs
 |bl a =>
  cases ry;cases x with
  |non=>cases rx;exact SeqAt.EqAt.bool_none a
  |bl b=>cases rx;exact SeqAt.EqAt.bool_bool a b
  |int b=>obtain⟨t,rfl⟩:=rx;exact SeqAt.EqAt.bool_int a b t
  |str b=>obtain⟨t,rfl⟩:=rx;exact SeqAt.EqAt.bool_str a b t
  |_=>exact absurd (show false=true from fx) Zs
 |int a =>
  obtain⟨t',rfl⟩:=ry;cases x with
  |non=>cases rx;exact SeqAt.EqAt.int_none a t'
  |bl b=>cases rx;exact SeqAt.EqAt.int_bool a t' b
  |int b=>obtain⟨t,rfl⟩:=rx;exact SeqAt.EqAt.int_int a t' b t
  |str b=>obtain⟨t,rfl⟩:=rx;exact SeqAt.EqAt.int_str a t' b t
  |_=>exact absurd (show false=true from fx) Zs
 |str a =>
  obtain⟨t',rfl⟩:=ry;cases x with
  |non=>cases rx;exact SeqAt.EqAt.str_none a t'
  |bl b=>cases rx;exact SeqAt.EqAt.str_bool a t' b
  |int b=>obtain⟨t,rfl⟩:=rx;exact SeqAt.EqAt.str_int a t' b t
  |str b=>obtain⟨t,rfl⟩:=rx;exact SeqAt.EqAt.str_str a t' b t
  |_=>exact absurd (show false=true from fx) Zs
 |_=>exact absurd (show false=true from fy) Zs
def eqU(x:V)(u:Value):Bool:=match u with
 |.none=>eqV .non x
 |.bool b=>eqV (.bl b) x
 |.int i _=>eqV (.int i) x
 |.str z _=>eqV (.str z) x
 |_=>false
theorem rW{x y:V}{u:Value}(r:RelV y u)(f:eQ y=true):eqU x u=eqV y x:=by
 cases y with
 |non=>cases r;rfl
 |bl b=>cases r;rfl
 |int i=>obtain⟨t,rfl⟩:=r;rfl
 |str z=>obtain⟨t,rfl⟩:=r;rfl
 |_=>exact absurd (show false=true from f) Zs
theorem jW{x:V}:∀{xs:List V} {us:List Value},Vals xs us->xs.all eQ=true->us.any (eqU x)=xs.any fun y=>eqV y x
 |_,_,.nil,_=>rfl
 |y::xs,u::us,.cons r t,f=>by rw[YJ,ZB]at f;rw[YU,YU,rW r f.1,jW t f.2]
theorem iV{A:Around}{s:Shared}{x:V}{v:Value}(rx:RelV x v)(fx:eQ x=true):∀{xs:List V} {us:List Value},Vals xs us->xs.all eQ=true->∀u∈us,SeqAt.EqAt A s u v (eqU x u)
 |_,_,.nil,_=>fun u hu=>by cases hu
 |y::xs,u::us,.cons r t,f=>fun u' hu=>by
  rw[YJ,ZB]at f;rcases Zq.mp hu with rfl|hu
  ·rw[rW r f.1];exact zU r rx f.1 fx
  ·exact iV rx fx t f.2 u' hu
def inV(x:V)(xs:List V):Bool:=xs.any fun y=>eqV y x
def rIn(K:PySem.W.Frag)(neg:Bool):R2:=fun x y H Q=>∃p xs,y=.ref p/\(SqL K H p xs\/SqT K H p xs)/\eQ x=true/\xs.all eQ=true/\Q (.bl (if neg then !inV x xs else inV x xs)) H
theorem sS:OpR X (compareOp .In) (rIn X.K false):=by
 intro pins s σ H x y v u Q I rx ry h;obtain⟨p,xs,rfl,hq,fx,fs,q⟩:=h;cases ry;rcases hq with hq|hq
 ·obtain⟨its,r,pl,hz⟩:=I.list hq;refine SeqAt.in_listAt (eqU x) pl.isList (fun w hw=>iV rx fx r fs w (by simpa using hw)) ⟨.bl _,H,I,rfl,?_⟩;rw[show its.toArray.any (eqU x)=its.any (eqU x) by simp,jW r fs];exact q
 ·obtain⟨its,r,pl,hz⟩:=I.tuple hq;refine SeqAt.in_tupleAt (eqU x) pl (fun w hw=>iV rx fx r fs w (by simpa using hw)) ⟨.bl _,H,I,rfl,?_⟩;rw[show its.toArray.any (eqU x)=its.any (eqU x) by simp,jW r fs];exact q
theorem mE:cE X (.builtin "len") (fun xs H Q=>∃p ys,xs=[.ref p]/\(SqL X.K H p ys\/SqT X.K H p ys)/\Q (.int ys.length) H):=by
 intro pins s σ H xs us Q I r h;obtain⟨p,ys,rfl,hq,q⟩:=h;obtain⟨u,rfl,rx⟩:=cQ r;cases rx;have hn:=jB;rcases hq with hq|hq
 ·obtain⟨its,r',pl,hz⟩:=I.list hq;have hlen:=r'.length;exact Calls.call_len_list pl.isList (by simp only[Zj]<;>omega) ⟨.int ys.length,H,I.tok _,⟨s.toks+1,by rw[Zj,hlen]⟩,q⟩
 ·obtain⟨its,r',pl,hz⟩:=I.tuple hq;have hlen:=r'.length;exact len_tuple pl (by simp only[Zj]<;>omega) ⟨.int ys.length,H,I.tok _,⟨s.toks+1,by rw[Zj,hlen]⟩,q⟩
theorem mF:cE X (.type "list") (fun xs H Q=>∃p ys,xs=[.ref p]/\(SqL X.K H p ys\/SqT X.K H p ys)/\∀l,H l=none->Q (.ref l) (upd H l (.lst ys))):=by
 intro pins s σ H xs us Q I r h;obtain⟨p,ys,rfl,hq,q⟩:=h;obtain⟨u,rfl,rx⟩:=cQ r;cases rx;have fin:∀(its:List Value),Vals ys its->ys.length<=sizeLine->∀(h':Heap) (c':Nat),(∀b o',s.heap.get? b=some o'->h'.get? b=some o') ->
   h'.get? s.heap.objs.size=some { cls:=.type "list",dict:=none,data:=.seq its.toArray c',slots:=#[] }->EP X pins σ Q (.ref s.heap.objs.size) { s with heap:=h' }:=fun its r' hz h' c' kp e =>
  ⟨.ref s.heap.objs.size,_,I.laid (t':=s.toks) kp (Ze _) (show ObjOk X.prog X.w _ h' _ (.lst ys)from⟨hz,its,c',r',e⟩),rfl,q _ (I.hok.fresh (Ze _))⟩
 rcases hq with hq|hq
 ·obtain⟨its,r',pl,hz⟩:=I.list hq;have hlen:=r'.length;obtain⟨o,ho,hc,n,hd⟩:=pl.isList;exact call_list_seq p (.inl rfl) ho hc hd (fun h' c' kp e=>fin its r' hz h' c' kp e) (by simp only[Zj]<;>omega)
 ·obtain⟨its,r',pl,hz⟩:=I.tuple hq;have hlen:=r'.length;obtain⟨o,ho,hc,n,hd⟩:=pl;exact call_list_seq p (.inr rfl) ho hc hd (fun h' c' kp e=>fin its r' hz h' c' kp e) (by simp only[Zj]<;>omega)
theorem lN:cE X (.type "tuple") (fun xs H Q=>∃p ys,xs=[.ref p]/\((SqL X.K H p ys/\∀l,H l=none->Q (.ref l) (upd H l (.tup ys)))\/(SqT X.K H p ys/\Q (.ref p) H))):=by
 intro pins s σ H xs us Q I r h;obtain⟨p,ys,rfl,h⟩:=h;obtain⟨u,rfl,rx⟩:=cQ r;cases rx;rcases h with⟨hq,q⟩|⟨hq,q⟩
 ·obtain⟨its,r',pl,hz⟩:=I.list hq;have hlen:=r'.length;refine call_tuple_list pl.isList (fun h' kp=>?_) (by simp only[Zj]<;>omega);have I1:Inv X pins σ H { s with heap:=h' }:=I.kept (t':=s.toks) kp;have I2:Inv X pins σ (upd H h'.objs.size (.tup ys)) { s with heap:=h'.push { cls:=.type "tuple",data:=.seq its.toArray } } :=
   I1.laid (t':=s.toks) (fun b o e=>Zb _ e) (Ze _) (show ObjOk X.prog X.w _ _ _ (.tup ys)from⟨hz,its,r',IsTup.new _ _⟩)
  exact⟨.ref h'.objs.size,_,I2,rfl,q _ (I1.hok.fresh (Ze _))⟩
 ·obtain⟨its,r',pl,hz⟩:=I.tuple hq;exact call_tuple_same pl ⟨.ref p,H,I,rfl,q⟩
def tyV(K:PySem.W.Frag)(T:String)(x:V)(H:Hp):Prop:=match x with
 |.str _=>T="str"
 |.int _=>T="int"
 |.ref p=>(T="list"/\∃xs,SqL K H p xs)\/(T="tuple"/\∃o,K.lookup p=some o/\o.cls=.type "tuple"/\o.dict=none) \/
   (T="dict"/\((∃kvs,H p=some (.dK kvs))\/∃kvs,H p=some (.dT kvs)))\/(T="set"/\∃S n,H p=some (.set S n))
 |_=>False
theorem BW{pins:List (Addr×Obj)}{σ:St}{H:Hp}{s:Shared}{T:String}{x:V}{v:Value}(I:Inv X pins σ H s)(r:RelV x v)(ty:tyV X.K T x H) :
  s.TypeIs v T/\∀a,v=.ref a->∃ob,s.heap.get? a=some ob/\ob.dict=none:=by
 cases x with
 |str z =>obtain⟨t,rfl⟩:=r;cases(show T="str" from ty);exact⟨typeIs_str s z t,fun _ e=>nomatch e⟩
 |int i =>obtain⟨t,rfl⟩:=r;cases(show T="int" from ty);exact⟨typeIs_int s i t,fun _ e=>nomatch e⟩
 |ref p =>
  cases r;rcases ty with⟨rfl,xs,hq⟩|⟨rfl,o,hk,hc,hd⟩|⟨rfl,hk⟩|⟨rfl,S,n,hk⟩
  ·obtain⟨its,_,pl,_⟩:=I.list hq;refine⟨pl.isList.typeIs,fun a e=>?_⟩;cases e;obtain⟨o,n,e,c,hd,_⟩:=pl;exact⟨o,e,hd⟩
  ·refine⟨⟨o,I.kIn p o hk,hc⟩,fun a e=>?_⟩;cases e;exact⟨o,I.kIn _ o hk,hd⟩
  ·have z:∃o,s.heap.get? p=some o/\o.ExactDict:=by
    rcases hk with⟨kvs,hk⟩|⟨kvs,hk⟩
    ·obtain⟨_,_,_,_,o,_,_,e,ex,_⟩:=I.hok p _ hk;exact⟨o,e,ex⟩
    ·obtain⟨_,_,_,_,o,_,_,e,ex,_⟩:=I.hok p _ hk;exact⟨o,e,ex⟩
   obtain⟨o,e,ex⟩:=z;refine⟨⟨o,e,ex.1⟩,fun a e2=>?_⟩;cases e2;exact⟨o,e,ex.2.1⟩
  ·obtain⟨o,_,_,_,e,ex,_⟩:=I.hok p _ hk;refine⟨⟨o,e,ex.1⟩,fun a e2=>?_⟩;cases e2;exact⟨o,e,ex.2.1⟩
 |_=>exact False.elim ty
def tBM(K:PySem.W.Frag)(T:String)(r:V->List V->Hp->VK->Prop)(to:TE)(t:TA):TE:=fun σ H Q=>to σ H fun x H1=>tyV K T x H1/\t σ H1 fun xs H2=>r x xs H2 Q
variable{o e:Expr}{es:List Expr}{to:TE}{t:TA}{name:Str}{apos cpos:Pos}{T id:String}{r:V->List V->Hp->VK->Prop}
theorem Cw(pa:PlainAttrs T)(slot:Slot T name id)(hty:typeOf (.builtin id)=pure (.type "method_descriptor"))(hm:MtR X id r)(ho:PE X o to)(ha:PA X (e::es) t)(hbase:attributeBase o name X.env (eval o X.env)=eval o X.env:=by rfl)(hfew:((backTo cpos (starEach (e::es) X.env)).all (fun x=>!x.1)&&(backToKw cpos (keywordEach [] X.env)).all (fun x=>x.1.isSome)
  &&decide ((e::es).length+([]:List Keyword).length+(if ([]:List Keyword).isEmpty then 0 else 1)<30))=true:=by rfl)(hline:(apos.endLine == cpos.line)=true:=by rfl)(hs:starEach (e::es) X.env=(false,eval e X.env)::starEach es X.env:=by rfl)(hplain:(backTo cpos (starEach es X.env)).any (·.1)=false:=by rfl) :
  PE X (.Call (.Attribute o name apos) (e::es) [] cpos) (tBM X.K T r to t):=by
 intro pins s σ H Q I h;refine wpAny_Call_method_late hbase hfew hline rfl (thn (ho pins s σ H _ I h) fun v s1 hz9=>?_);obtain⟨x,H1,I1,r1,ty,q1⟩:=hz9;obtain⟨h1,h2⟩:=BW I1 r1 ty;refine⟨T,id,pa,slot,hty,h1,h2,?_⟩;have hA:=ha cpos pins s1 σ H1 _ I1 q1;rw[hs]at hA ⊢;refine Calls.callWith_builtin (by show(false ||(backTo cpos (starEach es X.env)).any (·.1))=false;rw[hplain]<;>rfl) (Calls.evalArgs_plain ?_);exact thn hA fun us s2 ⟨vs,H2,I2,r2,q2⟩=>hm pins s2 σ H2 x vs v us Q I2 r1 r2 q2
end
open PySem PySem.Spec PyProof.Rows
def MtM(X:Cx)(id:String)(r:V->List V->Hp->VK->Prop):Prop :=
 ∀(pins:List (Addr×Obj)) (s:Shared) (σ:St) (H:Hp) (x:V) (xs:List V) (v:Value) (us:List Value) (Q:VK),Inv X pins σ H s->RelV x v->Vals xs us->r x xs H Q ->
  wpAny (model X.prog X.w) X.A (call (.builtin id) (v::us)) (EP X pins σ Q) X.xe s
theorem Vals.one:∀{x:V} {us:List Value},Vals [x] us->∃u,us=[u]/\RelV x u
 |_,_,.cons r .nil=>⟨_,rfl,r⟩
theorem Vals.rep{xs:List V}{us:List Value}(h:Vals xs us):∀k:Nat,Vals (List.replicate k xs).flatten (List.replicate k us).flatten
 |0=>.nil
 |k+1=>by rw[Yv,Yv,Yj,Yj];exact Vals.append h (Vals.rep h k)
theorem gC(its:List Value):∀(k:Nat) (acc:List Value),
  List.foldl (fun x1 x2=>x1++x2) acc.toArray (List.replicate k its.toArray)=(acc++(List.replicate k its).flatten).toArray
 |0,acc=>by simp
 |k+1,acc=>by
  have e:acc.toArray++its.toArray=(acc++its).toArray:=by simp
  have e2:(acc++its)++(List.replicate k its).flatten=acc++(List.replicate (k+1) its).flatten:=by rw[Yv,Yj,Zy]
  rw[<-e2,<-gC its k (acc++its),<-e,Yv,List.foldl_cons]
section
variable{X:Cx}{pins:List (Addr×Obj)}{σ:St}{H:Hp}{s:Shared}{l b:Addr}{xs ys zs:List V}
theorem Inv.lset{its its':List Value}{n:Nat}{f:Array Value->Array Value}{t':Nat}(I:Inv X pins σ H s)(hH:H l=some (.lst xs))(e:s.heap.get? l=some { cls:=.type "list",data:=.seq its.toArray n })(hf:f its.toArray=its'.toArray)(hv:Vals ys its')(hz:ys.length<=sizeLine) :
  Inv X pins σ (upd H l (.lst ys)) { s with heap:=s.heap.update l (Obj.mapSeq f),toks:=t' }:=by
 have q:=PySem.IsL.update e f;rw[hf]at q;refine I.write (x:=l) (e:=l) (by rw[hH];exact trivial) (.inl rfl) (fun b' u hb hu=>(y8 s.heap (Obj.mapSeq f) (Z8 hb)).trans hu) ⟨_,q⟩ ?_;exact⟨hz,its',_,hv,q⟩
theorem Inv.lnew{its:List Value}{t':Nat}(I:Inv X pins σ H s)(hv:Vals ys its)(hz:ys.length<=sizeLine) :
  Inv X pins σ (upd H s.heap.objs.size (.lst ys)) { s with heap:=s.heap.push { cls:=.type "list",data:=.seq its.toArray },toks:=t' } :=
 I.laid (fun _ _ q=>Zb _ q) (Ze _) ⟨hz,its,0,hv,Zr _ rfl⟩
theorem Inv.fresh(I:Inv X pins σ H s):H s.heap.objs.size=none:=I.hok.fresh (Ze _)
theorem Inv.lstM(I:Inv X pins σ H s)(hH:H l=some (.lst xs)):xs.length<=sizeLine/\∃(its:List Value) (n:Nat),Vals xs its/\xs.length=its.length/\s.heap.get? l=some { cls:=.type "list",data:=.seq its.toArray n }:=by obtain⟨z,its,n,r,e⟩:=I.hok l _ hH;exact⟨z,its,n,r,r.length,e⟩
theorem vt{n:Nat}(h:n<=sizeLine):Builtin.List.listTooLong n=false:=by unfold Builtin.List.listTooLong;exact decide_eq_false (by omega)
end
section
variable{X:Cx}
def pA:V->List V->Hp->VK->Prop:=fun x vs H Q=>∃l xs y,x=.ref l/\vs=[y]/\H l=some (.lst xs)/\xs.length<sizeLine/\Q .non (upd H l (.lst (xs++[y])))
theorem sI:MtM X "list.append" pA:=by intro pins s σ H x vs v us Q I rx rv h;obtain⟨l,xs,y,rfl,rfl,hH,hz,q⟩:=h;cases rx;obtain⟨u,rfl,ru⟩:=rv.one;obtain⟨z,its,n,r,hl,e⟩:=I.lstM hH;refine call_meets F.slot_list_append ⟨_,e,rfl⟩ F.entry_list_append (F.args_list_append_2 _ _) (PySem.list_append l its.toArray n u (by rw[Zj];omega)) ⟨e,?_⟩;refine⟨.non,_,I.lset (its':=its++[u]) hH e (by simp) (r.append (.cons ru .nil)) ?_,rfl,q⟩;rw[Zo,Ye];omega
def Bu:R2:=fun x y H Q=>∃l b xs zs,x=.ref l/\y=.ref b/\H l=some (.lst xs)/\H b=some (.lst zs)/\xs.length+zs.length<=sizeLine/\∀p,H p=none->Q (.ref p) (upd H p (.lst (xs++zs)))
theorem AG:OpR X (binaryOp .Add) Bu:=by
 intro pins s σ H x y v u Q I rx ry h;obtain⟨l,b,xs,zs,rfl,rfl,hH,hB,hz,q⟩:=h;cases rx;cases ry;obtain⟨z,its,n,r,hl,e⟩:=I.lstM hH;obtain⟨z2,its2,n2,r2,hl2,e2⟩:=I.lstM hB;refine PySem.P.add_list e e2 ?_ (by rw[Zj,Zj];omega);have ea:its.toArray++its2.toArray=(its++its2).toArray:=by simp
 rw[ea];exact⟨.ref _,_,I.lnew (t':=s.toks) (r.append r2) (by rw[Zo];omega),rfl,q _ I.fresh⟩
def BA:R2:=fun x y H Q=>∃l k xs,x=.ref l/\y=.int k/\H l=some (.lst xs)/\-(2^63)<=k/\k<2^63/\xs.length*k.toNat<=sizeLine /\
 ∀p,H p=none->Q (.ref p) (upd H p (.lst (List.replicate k.toNat xs).flatten))
theorem kn{α:Type}(xs:List α)(k:Nat):(List.replicate k xs).flatten.length=k*xs.length:=by
 induction k with
 |zero=>simp
 |succ k ih=>rw[Yv,Yj,Zo,ih,Nat.succ_mul,Nat.add_comm]
theorem AL:OpR X (binaryOp .Mult) BA:=by
 intro pins s σ H x y v u Q I rx ry h;obtain⟨l,k,xs,rfl,rfl,hH,h1,h2,hz,q⟩:=h;cases rx;obtain⟨t,rfl⟩:=ry;obtain⟨z,its,n,r,hl,e⟩:=I.lstM hH;have hlen:its.toArray.size*k.toNat<=sizeLine:=by rw[Zj,<-hl];exact hz
 have hcap:¬its.toArray.size*k.toNat>(2^63-1) / 8:=by
  have:(sizeLine:Nat)<=(2^63-1) / 8:=by decide
  omega
 have hfit:¬(!Builtin.List.listFitsIndex k)=true:=by rw[fitsIndex_both h1 h2];exact Zs
 have hlong:¬Builtin.List.listTooLong (its.toArray.size*k.toNat)=true:=by rw[vt hlen];exact Zs
 have hnew:List.foldl (fun x1 x2=>x1++x2) #[] (List.replicate (if its.toArray.isEmpty=true then 0 else k.toNat) its.toArray)=(List.replicate k.toNat its).flatten.toArray:=by
  have f0:∀m:Nat,List.foldl (fun x1 x2=>x1++x2) #[] (List.replicate m its.toArray)=(List.replicate m its).flatten.toArray:=fun m=>by have:=gC its m [];rw[YT]at this;exact this
  rw[f0];cases its with
  |nil=>simp
  |cons a r'=>rw[if_neg (by simp)]
 refine wpAny_binaryOp_repeat_ref (T:="list") (U:="int") (by decide) ⟨_,e,rfl⟩ (fun s'=>typeIs_int s' k t) noFill_list_mul F.fills_int_mul F.slot_int_rmul repeat_list F.slot_int_index.lookup
  (call_meets F.slot_int_rmul (typeIs_int s k t) F.entry_int_rmul (F.args_int_rmul_2 _ _) (int___rmul___int_list k t l its.toArray n)
   ⟨e,rfl,⟨_,e,rfl⟩,call_meets F.slot_list_mul ⟨_,e,rfl⟩ F.entry_list_mul (F.args_list_mul_2 _ _) (AutoListH.list___mul___list_int_3 l its.toArray n k t hfit hcap hlong) ⟨e,?_⟩⟩)
 rw[hnew];exact⟨.ref _,_,I.lnew (t':=s.toks) (r.rep k.toNat) (by rw[kn,Nat.mul_comm];exact hz),rfl,q _ I.fresh⟩
end
open PySem PySem.Spec PyProof.Rows
section
variable{κ:Type}[DecidableEq κ]
def bg(kvs:List (κ×V))(k:κ):Option V:=(kvs.find? fun kv=>decide (kv.1=k)).map (·.2)
def aE(kvs:List (κ×V))(k:κ)(v:V):List (κ×V) :=
 if(kvs.any fun kv=>decide (kv.1=k))=true then kvs.map (fun kv=>if kv.1=k then(kv.1,v)else kv)else kvs++[(k,v)]
theorem gh{p:κ×V}{r:List (κ×V)}{k:κ}(e:p.1=k):bg (p::r) k=some p.2:=by simp[bg,List.find?_cons,e]
theorem eO{p:κ×V}{r:List (κ×V)}{k:κ}(e:¬p.1=k):bg (p::r) k=bg r k:=by simp[bg,List.find?_cons,e]
theorem df(k:κ):∀kvs:List (κ×V),(kvs.any fun kv=>decide (kv.1=k))=(bg kvs k).isSome
 | []=>rfl
 |p::r=>by
  rw[YU];by_cases e:p.1=k
  ·simp only[gh e,decide_eq_true e,Bool.true_or,Option.isSome_some]
  ·rw[eO e,decide_eq_false e,Bool.false_or];exact df k r
theorem iF(kvs:List (κ×V))(k:κ)(v:V):(aE kvs k v).length<=kvs.length+1:=by
 unfold aE;split
 ·rw[Zh];omega
 ·rw[Zo,Zl,List.length_nil];omega
theorem vP{kvs:List (κ×V)}{k:κ}(v:V)(h:bg kvs k=none):aE kvs k v=kvs++[(k,v)]:=by unfold aE;rw[df,h];exact if_neg (by decide)
theorem RelO.isSome_eq{o:Option V}{u:Option Value}(r:RelO o u):o.isSome=u.isSome:=by
 cases o with
 |none=>cases u with
  |none=>rfl
  |some _=>exact(show False from r).elim
 |some _=>cases u with
  |none=>exact(show False from r).elim
  |some _=>rfl
theorem KV.val{kvs:List (κ×V)}{vs:List (κ×Value)}(r:KV kvs vs)(k:κ):RelO (bg kvs k) (valueAt vs k):=by
 unfold KV at r;induction r with
 |nil=>exact True.intro
 |@cons p q ps qs h t ih =>
  obtain⟨h1,h2⟩:=h;by_cases e:p.1=k
  ·have e':q.1=k:=h1.symm.trans e;have b:valueAt (q::qs) k=some q.2:=by simp[valueAt,List.find?_cons,e']
   rw[gh e,b];exact h2
  ·have e':¬q.1=k:=fun z=>e (h1.trans z);have b:valueAt (q::qs) k=valueAt qs k:=by simp[valueAt,List.find?_cons,e']
   rw[eO e,b];exact ih
theorem KV.any{kvs:List (κ×V)}{vs:List (κ×Value)}(r:KV kvs vs)(k:κ):(kvs.any fun kv=>decide (kv.1=k))=vs.any fun kv=>decide (kv.1=k):=by
 unfold KV at r;induction r with
 |nil=>rfl
 |cons h t ih=>rw[YU,YU,ih,h.1]
theorem KV.repl{kvs:List (κ×V)}{vs:List (κ×Value)}(r:KV kvs vs)(k:κ){y:V}{u:Value}(ry:RelV y u) :
  KV (kvs.map fun kv=>if kv.1=k then(kv.1,y)else kv) (vs.map fun kv=>if kv.1=k then(kv.1,u)else kv):=by
 unfold KV at r ⊢;induction r with
 |nil=>exact .nil
 |@cons p q ps qs h t ih =>
  rw[Zz,Zz];refine .cons ?_ ih;obtain⟨h1,h2⟩:=h;by_cases e:p.1=k
  ·rw[if_pos e,if_pos (h1.symm.trans e)];exact⟨h1,ry⟩
  ·rw[if_neg e,if_neg (fun z=>e (h1.trans z))];exact⟨h1,h2⟩
theorem KV.put{kvs:List (κ×V)}{vs:List (κ×Value)}(r:KV kvs vs)(k:κ){y:V}{u:Value}(ry:RelV y u):KV (aE kvs k y) (stored vs k u):=by
 unfold aE stored;rw[r.any k];by_cases e:(vs.any fun kv=>decide (kv.1=k))=true
 ·rw[if_pos e,if_pos e];exact r.repl k ry
 ·rw[if_neg e,if_neg e];exact YD r ⟨rfl,ry⟩
theorem KV.length{kvs:List (κ×V)}{vs:List (κ×Value)}(r:KV kvs vs):kvs.length=vs.length:=ZO r
end
theorem jy{P:Program}{w:World}{k:Key}{u:Value}(r:RelV (kV k) u):(aZ P w).is k u=true:=by
 cases k with
 |inl i=>obtain⟨t,e⟩:=(show∃t,u=Value.int i t from r);subst e;exact oA P w i t
 |inr x=>obtain⟨t,e⟩:=(show∃t,u=Value.str x t from r);subst e;exact oB P w x t
theorem lg{P:Program}{w:World}:∀{ks:List Key} {us:List Value},Vals (ks.map kV) us->ItemsAre (aZ P w) ks us
 | [],_,r=>by rw[List.map_nil]at r;cases r;exact .nil
 |k::ks,_,r=>by
  rw[Zz]at r;cases r with
  |cons h t=>exact .cons (jy h) (lg t)
abbrev KT(H:Hp):List (List Key×V)->List (List Key×Addr×Value)->Prop:=Paired fun p q=>p.1=q.1/\H q.2.1=some (.tup (p.1.map kV))/\RelV p.2 q.2.2
theorem KT.val{H:Hp}{kvs:List (List Key×V)}{xs:List (List Key×Addr×Value)}(r:KT H kvs xs)(k:List Key):RelO (bg kvs k) ((atKey xs k).map (·.2)):=by
 induction r with
 |nil=>exact True.intro
 |@cons p q ps qs h t ih =>
  obtain⟨h1,_,h2⟩:=h;by_cases e:p.1=k
  ·have e':q.1=k:=h1.symm.trans e;have b:atKey (q::qs) k=some q.2:=by simp[atKey,List.find?_cons,e']
   rw[gh e,b];exact h2
  ·have e':¬q.1=k:=fun z=>e (h1.trans z);have b:atKey (q::qs) k=atKey qs k:=by simp[atKey,List.find?_cons,e']
   rw[eO e,b];exact ih
theorem KT.repl{H:Hp}{kvs:List (List Key×V)}{xs:List (List Key×Addr×Value)}(r:KT H kvs xs)(k:List Key){y:V}{u:Value}(ry:RelV y u) :
  KT H (kvs.map fun kv=>if kv.1=k then(kv.1,y)else kv) (xs.map (putAt k u)):=by
 induction r with
 |nil=>exact .nil
 |@cons p q ps qs h t ih =>
  rw[Zz,Zz];refine .cons ?_ ih;obtain⟨h1,h2,h3⟩:=h;unfold putAt;by_cases e:p.1=k
  ·rw[if_pos e,if_pos (h1.symm.trans e)];exact⟨h1,h2,ry⟩
  ·rw[if_neg e,if_neg (fun z=>e (h1.trans z))];exact⟨h1,h2,h3⟩
theorem KT.put{H:Hp}{kvs:List (List Key×V)}{xs:List (List Key×Addr×Value)}(r:KT H kvs xs)(k:List Key){b:Addr}{y:V}{u:Value}(hb:H b=some (.tup (k.map kV)))(ry:RelV y u) :
  KT H (aE kvs k y) (storedH xs k b u):=by
 have e:(kvs.any fun kv=>decide (kv.1=k))=(atKey xs k).isSome:=by rw[df,(r.val k).isSome_eq,Option.isSome_map]
 unfold aE storedH;rw[e];by_cases q:(atKey xs k).isSome=true
 ·rw[if_pos q,if_pos q];exact r.repl k ry
 ·rw[if_neg q,if_neg q];exact YD r ⟨rfl,hb,ry⟩
theorem KT.keeps{H H':Hp}{kvs:List (List Key×V)}{xs:List (List Key×Addr×Value)}(r:KT H kvs xs)(ht:∀b ys,H b=some (.tup ys)->H' b=some (.tup ys)):KT H' kvs xs :=
 Paired.mapP r fun _ _ z=>⟨z.1,ht _ _ z.2.1,z.2.2⟩
section
variable{P:Program}{w:World}{H:Hp}{h:Heap}{a:Addr}
theorem xi{u:HO}(ok:HOk P w H h)(e:Rd H a u):ObjOk P w H h a u:=e.ok ok
theorem jo{kvs:List (Key×V)}(ok:HOk P w H h)(e:Rd H a (.dK kvs)):kvs.length<=sizeLine/\(a==sysModules)=false/\∃vs,KV kvs vs/\h.DictOf (aZ P w) a vs :=
 show ObjOk P w H h a (.dK kvs)from xi ok e
theorem Cf{kvs:List (Key×V)}(ok:HOk P w H h)(e:H a=some (.dK kvs)):kvs.length<=sizeLine/\(a==sysModules)=false/\∃vs,KV kvs vs/\h.DictOf (aZ P w) a vs:=jo ok (.inl e)
theorem gG{ks:List Key}(ok:HOk P w H h)(e:H a=some (.tup (ks.map kV))):(tupleKind (aZ P w)).is h ks a:=by
 obtain⟨_,its,r,o,h1,h2,n,h3⟩:=(show ObjOk P w H h a (.tup (ks.map kV))from ok a _ e)
 exact⟨o,its.toArray,n,h1,h2,h3,by simpa using lg r⟩
theorem eP{kvs:List (List Key×V)}(ok:HOk P w H h)(e:Rd H a (.dT kvs)):kvs.length<=sizeLine/\(a==sysModules)=false /\
  ∃xs,KT H kvs xs/\h.DictOfH (tupleKind (aZ P w)) a xs:=by
 obtain⟨z,y,xs,r,o,es,ep,h1,h2,h3,h4,h5⟩:=(show ObjOk P w H h a (.dT kvs)from xi ok e)
 refine⟨z,y,xs,r,o,es,ep,h1,h2,h3,h4,fun x hx=>?_,h5⟩;have all:∀{l:List (List Key×V)} {m:List (List Key×Addr×Value)},KT H l m->∀x∈m,(tupleKind (aZ P w)).is h x.1 x.2.1:=by
  intro l m q;induction q with
  |nil=>intro x hx;exact nomatch hx
  |@cons p q ps qs hq t ih =>
   intro x hx;rcases Zq.mp hx with e|hx
   ·subst e;exact gG ok (by rw[<-hq.1];exact hq.2.1)
   ·exact ih x hx
 exact all r x hx
theorem Cg{kvs:List (List Key×V)}(ok:HOk P w H h)(e:H a=some (.dT kvs)):kvs.length<=sizeLine/\(a==sysModules)=false /\
  ∃xs,KT H kvs xs/\h.DictOfH (tupleKind (aZ P w)) a xs:=eP ok (.inl e)
end
def DGet(H:Hp)(a:Addr)(y:V)(r:Option V):Prop :=
 (∃kvs k,Rd H a (.dK kvs)/\y=kV k/\r=bg kvs k)\/∃kvs k b,Rd H a (.dT kvs)/\y=.ref b/\H b=some (.tup (k.map kV))/\r=bg kvs k
def DPut(H:Hp)(a:Addr)(y v:V)(H':Hp):Prop :=
 (∃kvs k,H a=some (.dK kvs)/\y=kV k/\kvs.length<sizeLine/\H'=upd H a (.dK (aE kvs k v))) \/
 ∃kvs k b,H a=some (.dT kvs)/\y=.ref b/\H b=some (.tup (k.map kV))/\kvs.length<sizeLine/\H'=upd H a (.dT (aE kvs k v))
theorem DGet.t{H:Hp}{a b:Addr}{kvs:List (List Key×V)}{k:List Key}(e:H a=some (.dT kvs))(eb:H b=some (.tup (k.map kV))):DGet H a (.ref b) (bg kvs k):=.inr ⟨kvs,k,b,.inl e,rfl,eb,rfl⟩
theorem DPut.t{H:Hp}{a b:Addr}{kvs:List (List Key×V)}{k:List Key}{v:V}(e:H a=some (.dT kvs))(eb:H b=some (.tup (k.map kV)))(hl:kvs.length<sizeLine) :
  DPut H a (.ref b) v (upd H a (.dT (aE kvs k v))):=.inr ⟨kvs,k,b,e,rfl,eb,hl,rfl⟩
section
variable{X:Cx}{pins:List (Addr×Obj)}{σ:St}{H:Hp}{s:Shared}{a:Addr}{y v:V}{u r:Value}{o:Option V}{A:Around}{E:Value->Shared->Prop}
theorem Inv.big(I:Inv X pins σ H s):sysModules<s.heap.objs.size:=by have h:mainGlobals<s.heap.objs.size:=(I.mod.glob.keeps I.bk).lt;exact Nat.lt_trans (by decide) h
theorem rT{Q:Value->Shared->Prop}(hu:A.units+1<cLine)(I:Inv X pins σ H s)(g:DGet H a y (some v))(ry:RelV y u)(h:∀w' s',Inv X pins σ H s'->RelV v w'->Q w' s') :
  wpAny (model X.prog X.w) A (getItem (.ref a) u) Q E s:=by
 rcases g with⟨kvs,k,e,ey,l⟩|⟨kvs,k,b,e,ey,eb,l⟩
 ·subst ey;obtain⟨z,hd,vs,rel,dd⟩:=jo I.hok e;obtain⟨w',hw,rw'⟩:=RelO.some_of (v:=v) (o:=valueAt vs k) (by rw[l];exact rel.val k);exact wpAny_getItem_of (jy ry) dd.mapOf hw (h w' _ (I.tok _) rw')
 ·subst ey;cases(show u=Value.ref b from ry);obtain⟨z,hd,xs,rel,dd⟩:=eP I.hok e;obtain⟨w',hw,rw'⟩:=RelO.some_of (v:=v) (o:=(atKey xs k).map (·.2)) (by rw[l];exact rel.val k);obtain⟨p,hp,hp2⟩:=Option.map_eq_some_iff.mp hw;refine wpAny_getItem_heap (tupleKind_room_in1 hu) (gG I.hok eb) dd hp ?_;rw[hp2];exact h w' _ (I.tok _) rw'
theorem C0{Q:Value->Shared->Prop}(hu:A.units+1<cLine)(I:Inv X pins σ H s)(g:DGet H a y o)(ry:RelV y u)(h:∀s',Inv X pins σ H s'->Q (.bool o.isSome) s') :
  wpAny (model X.prog X.w) A (compareOp .In u (.ref a)) Q E s:=by
 rcases g with⟨kvs,k,e,ey,l⟩|⟨kvs,k,b,e,ey,eb,l⟩
 ·subst ey;obtain⟨z,hd,vs,rel,dd⟩:=jo I.hok e;refine wpAny_in_of (jy ry) hd dd.mapOf ?_;rw[<-(rel.val k).isSome_eq,<-l];exact h _ (I.tok _)
 ·subst ey;cases(show u=Value.ref b from ry);obtain⟨z,hd,xs,rel,dd⟩:=eP I.hok e;refine wpAny_in_heap (tupleKind_room_in1 hu) (gG I.hok eb) hd dd ?_;have q:=(rel.val k).isSome_eq;rw[Option.isSome_map]at q;rw[<-q,<-l];exact h _ (I.tok _)
theorem xR{Q:Value->Shared->Prop}(hu:A.units+1<cLine)(I:Inv X pins σ H s)(g:DGet H a y o)(ry:RelV y u)(h:∀s',Inv X pins σ H s'->Q (.bool (!o.isSome)) s') :
  wpAny (model X.prog X.w) A (compareOp .NotIn u (.ref a)) Q E s:=by
 rcases g with⟨kvs,k,e,ey,l⟩|⟨kvs,k,b,e,ey,eb,l⟩
 ·subst ey;obtain⟨z,hd,vs,rel,dd⟩:=jo I.hok e;refine wpAny_notIn_of (jy ry) hd dd.mapOf ?_;rw[<-(rel.val k).isSome_eq,<-l];exact h _ (I.tok _)
 ·subst ey;cases(show u=Value.ref b from ry);obtain⟨z,hd,xs,rel,dd⟩:=eP I.hok e;refine wpAny_notIn_heap (tupleKind_room_in1 hu) (gG I.hok eb) hd dd ?_;have q:=(rel.val k).isSome_eq;rw[Option.isSome_map]at q;rw[<-q,<-l];exact h _ (I.tok _)
theorem oR{h':Heap}{t':Nat}{ob:HO}(I:Inv X pins σ H s)(mu:Mut (H a))(hs:Heap.SameBut a s.heap h')(he:∃q,h'.get? a=some q)(new:ObjOk X.prog X.w (upd H a ob) h' a ob) :
  Inv X pins σ (upd H a ob) { s with heap:=h',toks:=t' } :=
 I.write (x:=a) (e:=a) mu (.inl rfl) (fun b q hb z=>(hs.2 b hb).trans z) he new
theorem zT{P:Program}{w:World}{H':Hp}{h':Heap}{kvs:List (Key×V)}{vs:List (Key×Value)}(z:kvs.length<=sizeLine)(hd:(a==sysModules)=false)(rel:KV kvs vs)(dd:h'.DictOf (aZ P w) a vs) :
  ObjOk P w H' h' a (.dK kvs):=⟨z,hd,vs,rel,dd⟩
theorem rU{H':Hp}{Q:Unit->Shared->Prop}(hu:A.units+1<cLine)(I:Inv X pins σ H s)(g:DPut H a y v H')(ry:RelV y u)(rv:RelV v r)(h:∀s',Inv X pins σ H' s'->Q () s') :
  wpAny (model X.prog X.w) A (setItem (.ref a) u r) Q E s:=by
 rcases g with⟨kvs,k,e,ey,l,eH⟩|⟨kvs,k,b,e,ey,eb,l,eH⟩
 ·subst ey eH;obtain⟨z,hd,vs,rel,dd⟩:=Cf I.hok e;have hz:vs.length<=sizeLine:=by rw[<-rel.length];exact z
  have hl:(aE kvs k v).length<=sizeLine:=by have:=iF kvs k v;omega
  refine wpAny_setItem_pairs (hsz:=hz) (jy ry) dd fun h' dd' hs=>h _ ?_;have he:∃q,h'.get? a=some q:=let⟨q,_,_,hq,_⟩:=dd';⟨q,hq⟩
  exact oR I (by rw[e];exact True.intro) hs he (zT hl hd (rel.put k rv) dd')
 ·subst ey eH;cases(show u=Value.ref b from ry);obtain⟨z,hd,xs,rel,dd⟩:=Cg I.hok e;have hz:xs.length<=sizeLine:=by rw[<-ZO rel];exact z
  have hl:(aE kvs k v).length<=sizeLine:=by have:=iF kvs k v;omega
  refine wpAny_setItem_heap (hsz:=hz) (tupleKind_room_in1 hu) (gG I.hok eb) dd fun h' dd' hs=>h _ ?_;obtain⟨q,es,ep,hq,h2,h3,h4,_,h5⟩:=dd';refine oR I (by rw[e];exact True.intro) hs ⟨q,hq⟩ ⟨hl,hd,_,(rel.put k eb rv).keeps fun c ys ec=>?_,q,es,ep,hq,h2,h3,h4,h5⟩;rw[af (fU ec e (fun z=>nomatch z))];exact ec
end
def uF(i:Expr):Prop:=∀ov iv,subscripted i false ov iv=operate [ov,iv] (getItem ov iv)
theorem yW{prog:Program}{w:World}{A:Around}{E:Value->Shared->Prop}{s:Shared}{env:Env}{value slice:Expr}{pos:Pos}{T id:String}{Q:Value->Shared->Prop}(hl:typeLookup (.type T) "__getitem__" = pure (some (.builtin id)))(hs:uF slice)(h:wpAny (model prog w) A (eval value env) (fun o s₁=>wpAny (model prog w) A (eval slice env) (fun i s₂=>s₂.TypeIs o T/\wpAny (model prog w) A (getItem o i) Q E s₂) E s₁) E s) :
  wpAny (model prog w) A (eval (.Subscript value slice pos) env) Q E s:=by
 refine Subscript_ (ZG h (fun o s₁ h₁=>ZG h₁ (fun i s₂ h₂=>?_) fun _ _ x=>x) fun _ _ x=>x);obtain⟨hT,h₂⟩:=h₂;unfold subscriptTail;refine Za ?_;rw[getitemInPython_of_ne hT.not_modules];refine Za (wpAny_specialOf hT hl ?_);have fin:wpAny (model prog w) A (subscripted slice false o i) (fun r s₃=>wpAny (model prog w) A (letTemporaryGo value o r >>= fun _=>pure r) Q E s₃) E s₂:=by rw[hs o i];exact wpAny_operating (ZG h₂ (fun r s₃ h₃=>Za (wpAny_letTemporaryGo (Zd h₃))) fun _ _ x=>x)
 first
  |exact Zd (Za fin)
  |exact Za (Zd (Za fin))
  |exact Za fin
theorem oq{X:Cx}{pins:List (Addr×Obj)}{σ:St}{H:Hp}{s:Shared}{a:Addr}{y:V}{o:Option V}(I:Inv X pins σ H s)(g:DGet H a y o):s.TypeIs (.ref a) "dict":=by
 rcases g with⟨kvs,k,e,_,_⟩|⟨kvs,k,b,e,_,_,_⟩
 ·obtain⟨_,_,vs,_,dd⟩:=jo I.hok e;exact dd.typeIs
 ·obtain⟨_,_,xs,_,dd⟩:=eP I.hok e;exact dd.typeIs
def xr(td ty:TE):TE:=fun σ H Q=>td σ H fun x H1=>ty σ H1 fun y H2=>∃a v,x=.ref a/\DGet H2 a y (some v)/\Q v H2
def wj(ty td:TE):TE:=fun σ H Q=>ty σ H fun y H1=>td σ H1 fun x H2=>∃a o,x=.ref a/\DGet H2 a y o/\Q (.bl o.isSome) H2
def pR(ty td:TE):TE:=fun σ H Q=>ty σ H fun y H1=>td σ H1 fun x H2=>∃a o,x=.ref a/\DGet H2 a y o/\Q (.bl (!o.isSome)) H2
def xj(td ty tv:TE):TS:=fun D σ H=>tv σ H fun v H1=>td σ H1 fun x H2=>ty σ H2 fun y H3=>∃a H4,x=.ref a/\DPut H3 a y v H4/\D.nx σ H4
section
variable{X:Cx}{o i e value:Expr}{pos pos' tpos:Pos}{td ty tv:TE}
theorem yt(hu:X.A.units+1<cLine)(ho:PE X o td)(hi:PE X i ty)(hs:uF i):PE X (.Subscript o i pos) (xr td ty):=by intro pins s σ H Q I h;refine yW PySem.F.slot_dict_getitem.lookup hs (thn (ho pins s σ H _ I h) fun u s1 ⟨x,H1,I1,rx,q1⟩=>thn (hi pins s1 σ H1 _ I1 q1) fun iv s2 hz9=>?_);obtain⟨y,H2,I2,ry,a,v,ex,g,q2⟩:=hz9;subst ex;obtain rfl:u=Value.ref a:=rx;exact⟨oq I2 g,rT hu I2 g ry fun w' s3 I3 rw'=>⟨v,H2,I3,rw',q2⟩⟩
theorem sW(hu:X.A.units+1<cLine)(hi:PE X i ty)(ho:PE X o td):PC X .In i o (wj ty td):=by intro pins s σ H Q I h;refine thn (hi pins s σ H _ I h) fun iv s1 ⟨y,H1,I1,ry,q1⟩=>thn (ho pins s1 σ H1 _ I1 q1) fun u s2 hz9=>?_;obtain⟨x,H2,I2,rx,a,ov,ex,g,q2⟩:=hz9;subst ex;obtain rfl:u=Value.ref a:=rx;exact C0 hu I2 g ry fun s3 I3=>⟨.bl ov.isSome,H2,I3,rfl,q2⟩
theorem sZ(hu:X.A.units+1<cLine)(hi:PE X i ty)(ho:PE X o td):PC X .NotIn i o (pR ty td):=by intro pins s σ H Q I h;refine thn (hi pins s σ H _ I h) fun iv s1 ⟨y,H1,I1,ry,q1⟩=>thn (ho pins s1 σ H1 _ I1 q1) fun u s2 hz9=>?_;obtain⟨x,H2,I2,rx,a,ov,ex,g,q2⟩:=hz9;subst ex;obtain rfl:u=Value.ref a:=rx;exact xR hu I2 g ry fun s3 I3=>⟨.bl (!ov.isSome),H2,I3,rfl,q2⟩
theorem yG(hu:X.A.units+1<cLine)(ho:PE X o td)(hi:PE X i ty)(hv:PE X value tv)(hs:swapsWith value (some (.Subscript o i pos')) pos.line X.env=pure false) :
  PS X (.Assign [.Subscript o i pos'] value pos) (xj td ty tv):=by
 intro pins s σ H D I h;refine wpAny_Assign_Subscript (thn (hv pins s σ H _ I h) fun r s1 ⟨v,H1,I1,rv,q1⟩=>thn (ho pins s1 σ H1 _ I1 q1) fun u s2 ⟨x,H2,I2,rx,q2⟩=>thn (hi pins s2 σ H2 _ I2 q2) fun iv s3 hz9=>?_) hs;obtain⟨y,H3,I3,ry,a,H4,ex,g,q3⟩:=hz9;subst ex;obtain rfl:u=Value.ref a:=rx;exact rU hu I3 g ry rv fun s4 I4=>⟨σ,H4,I4,q3⟩
end
theorem uU{P:Program}{w:World}{H:Hp}(h:Heap)(hb:sysModules<h.objs.size):ObjOk P w H (h.push { cls:=.type "dict",data:=.dict #[] }) h.objs.size (.dT []) :=
 ⟨ZP _,beq_eq_false_iff_ne.mpr (Z8 (ZA hb)),[],.nil,_,#[],0,Zr _ rfl,⟨rfl,rfl,rfl⟩,rfl,rfl,List.nodup_nil⟩
def ue:TE:=fun _ H Q=>∀p,H p=none->Q (.ref p) (upd H p (.dT []))
section
variable{X:Cx}{pos:Pos}
theorem vE:PE X (.Dict [] [] pos) ue:=fun pins s σ H Q I h =>
 wpAny_Dict_empty ⟨.ref s.heap.objs.size,_,I.laid (a:=s.heap.objs.size) (o:=.dT []) (t':=s.toks) (fun _ _ q=>Zb _ q) (Ze _) (uU s.heap I.big),rfl,h _ (I.hok.fresh (Ze _))⟩
end
def uf:List (TE×TE)->St->Hp->(List (V×V)->Hp->Prop)->Prop
 | [],_,H,Q=>Q [] H
 |(tk,tv)::r,σ,H,Q=>tk σ H fun x H1=>tv σ H1 fun y H2=>uf r σ H2 fun ps H3=>Q ((x,y)::ps) H3
abbrev VV:List (V×V)->List (Value×Value)->Prop:=Paired fun p q=>RelV p.1 q.1/\RelV p.2 q.2
def PPs(X:Cx)(pos:Pos)(keys:List (Option Expr))(values:List Expr)(trs:List (TE×TE)):Prop :=
 ∀(pins:List (Addr×Obj)) (s:Shared) (σ:St) (H:Hp) (Q:List (V×V)->Hp->Prop),Inv X pins σ H s->uf trs σ H Q ->
  wpAny (model X.prog X.w) X.A (evalPairs (pairTrees keys values X.env pos)) (fun vs s'=>∃ps H',Inv X pins σ H' s'/\VV ps vs/\Q ps H') X.xe s
structure M1(X:Cx)(o:Expr)(m:Str)(apos:Pos)(e:Expr)(cpos:Pos):Prop where
 base:attributeBase o m X.env (eval o X.env)=eval o X.env
 few:((backTo cpos (starEach [e] X.env)).all (fun x=>!x.1)&&(backToKw cpos (keywordEach [] X.env)).all (fun x=>x.1.isSome)
 &&decide (([e]:List Expr).length+([]:List Keyword).length+(if ([]:List Keyword).isEmpty then 0 else 1)<30))=true
 line:(apos.endLine==cpos.line)=true
 trees:backTo cpos (starEach [e] X.env)=[(false,eval e X.env)]
structure M2(X:Cx)(o:Expr)(m:Str)(apos:Pos)(e f:Expr)(cpos:Pos):Prop where
 base:attributeBase o m X.env (eval o X.env)=eval o X.env
 few:((backTo cpos (starEach [e,f] X.env)).all (fun x=>!x.1)&&(backToKw cpos (keywordEach [] X.env)).all (fun x=>x.1.isSome)
 &&decide (([e,f]:List Expr).length+([]:List Keyword).length+(if ([]:List Keyword).isEmpty then 0 else 1)<30))=true
 line:(apos.endLine==cpos.line)=true
 trees:backTo cpos (starEach [e,f] X.env)=[(false,eval e X.env),(false,eval f X.env)]
end L2
namespace Att
open PySem PySem.W PySem.Calls PyProof.Rows
theorem jw{P:Params}{h:Heap}:∀(ns:List Int) (vs:List Value),WellAll P h vs (ns.map WData.int)->IntsAre vs ns:=by
 intro ns;induction ns with
 |nil =>intro vs w;rw[List.map_nil]at w;cases w;exact .nil
 |cons n ns ih =>
  intro vs w;rw[Zz]at w;cases w with
  |cons a b =>cases a;exact .cons _ _ (ih _ b)
theorem tP{l:OpenLaw}{n:Nat}(hn:l.most=some n){P:Params}{h:Heap}{args:List WData}{vals:List Value}(hpre:l.row.toRowW.claim.pre args=true)(hwl:WellAll P h vals args) :
  ∃a vs ns,vals=[Value.ref a]/\args=[WData.list (ns.map WData.int)]/\h.get? a=some { cls:=.type "list",data:=.seq vs.toArray }/\IntsAre vs ns/\ns.length<=n:=by
 have hsh:WShape.hasAll [] args [.list .int]=true:=(pre_splitW hpre).1;have hc:l.pre.holds [] { args:=args }=true:=(pre_splitW hpre).2;obtain⟨d,r,rfl,h1,h2⟩:=hasAllW_cons hsh;obtain rfl:=hasAllW_nil h2;obtain⟨xs,rfl,h3⟩:=hasW_list h1;obtain⟨ns,rfl⟩:=items_int h3;have hlen:ns.length<=n:=by
  unfold OpenLaw.pre at hc;have h4:(WTm.not (.lt (.lit (.int (n:Int))) (.len (.arg 0)))).holds [] { args:=[.list (ns.map .int)] }=true:=by have h4:=(holds_andW hc).1;rw[hn]at h4;exact h4
  have h5:=condW_of h4 (w_not (w_lt w_lit (w_len_list (w_arg rfl))));rw[Zh]at h5;refine Nat.le_of_not_lt fun q=>?_;have q':(n:Int)<((ns.length:Nat):Int):=by omega
  first
   |(rw[decide_eq_true q']at h5;exact absurd h5 (by decide))
   |(simp at h5;omega)
 cases hwl with
 |cons w1 w2 =>
  cases w2;cases w1 with
  |list ho hall=>exact⟨_,_,ns,rfl,rfl,ho,jw ns _ hall,hlen⟩
theorem tG(l:OpenLaw)(args:List WData):l.row.toRowW.claim.post args (.bool true) args=true :=
 postW_of (r:=l.row.toRowW) (X:=(true==true))
  (show WShape.has [] (.bool true) .bool=true by first|rfl|decide|simp[WShape.has,WShape.arms,WShape.armsAll])
  (show(WTm.eq .res (.lit (.bool true))).value [] { args:=args,res:=some (.bool true),after:=args }=some (.bool (true==true))from w_eq_bool (w_res rfl) w_lit) rfl
theorem attach_call{l:OpenLaw}{n:Nat}{q:Program}{loose:List Str}{XP:(Str->Option Value)->Heap->Prop}{YP:World->Heap->Prop}{d:DefRec}(hn:l.most=some n)(hdf:d.params.defaults=[])(call:∀ (w:World) (s₀ s₁:Shared) (mg mb:Str->Option Value) (fa:Addr) (o:Obj) (pm cd doc:Value) (a:Addr) (vs:List Value) (ns:List Int),
   Ground q loose [] XP w s₀ mg mb s₁.heap->YP w s₁.heap ->
   s₁.heap.get? fa=some o->o.data=.func (docDef d.name d.params d.body d.scope pm cd doc)->s₁.heap.CodeRec cd d.name->mg d.name=some (.ref fa) ->
   s₁.heap.get? a=some { cls:=.type "list",data:=.seq vs.toArray }->IntsAre vs ns->ns.length<=n->s₁.gens=#[] ->
   codeAny (model l.prog w) callerA (.call (.ref fa) ⟨[.ref a],[]⟩) (fun r s'=>r=.ok (.ret (.bool true))/\OldK s₁.heap s'.heap/\s'.os=s₁.os/\AllBare s'.gens) s₁) :
  WalkO q loose XP YP l.row.toRowW d [] (fun f vs=>PySem.call f vs):=by
 intro w s₀ s₁ mg mb G Y fa o pm cd doc dV kV ho hd hcd hD hmg hg args vals as hpre hlay hrd hwl hlo;obtain rfl:dV=.none:=Dflts.none hD hdf;obtain rfl:kV=.none:=Dflts.noKw hD;obtain⟨a,vs,ns,rfl,rfl,hobj,hints,hlen⟩:=tP hn hpre hwl;refine enter_call (codeAny_mono (call w s₀ s₁ mg mb fa o pm cd doc a vs ns G Y ho (fd_plain hd) hcd hmg hobj hints hlen hg) fun r s' hq=>?_);obtain⟨rfl,h2,h3,h4⟩:=hq;exact⟨.inl ⟨.bool true,.bool true,[],rfl,fun _=>rfl,.bool true,tG l _,fun _=>⟨List.Pairwise.nil,fun _ hm=>(nomatch hm)⟩⟩,h2,h3,h4⟩
end Att
namespace L2
open PySem PySem.Spec PyProof.Rows
theorem lG:∀{vs:List Value} {ns:List Int},IntsAre vs ns->Vals (ns.map V.int) vs
 |_,_,.nil=>.nil
 |_,_,.cons n t h=>.cons ⟨t,rfl⟩ (lG h)
def uG(H:Hp):Prop:=∀b,H b=none\/∃o xs,H b=some (.frz o (.lst xs))
theorem vk{P:Program}{w:World}{K:PySem.W.Frag}{mg mb:Str->Option Value}{CX:CXT}{k:Nat}{fa a:Addr}{fd:FuncData}{x:Str}{sp:Sp}{s₁:Shared}{vs:List Value}{ns:List Int}(KX:K.In s₁.heap)(hns:s₁.heap.Ns mainGlobals mg)(hb:s₁.heap.Ns builtinsNs mb)(hbb:∀x:Str,x≠"__name__"->mb x=bootBuiltins x)(hlim:s₁.heap.NoLimit)(hg:s₁.gens=#[])(ha:s₁.heap.get? a=some { cls:=.type "list",data:=.seq vs.toArray })(hi:IntsAre vs ns)(hl:ns.length<=sizeLine)(hr:Room k callerA)(F:∀base:Heap,K.In base->base.Ns mainGlobals mg->FnOk P w K mg base CX k fa fd [x] sp)(hbind:∀(s:Shared) (u:Value),BindsTo s fd ⟨[u],[]⟩ [(x,u)])(hsp:∀H:Hp,uG H->SqL K H a (ns.map V.int)->sp [.ref a] H (fun v _=>v=.bl true) fun _ _ _=>False)(hCX:∀H e s',CX [] H s₁ (fun _ _ _=>False) e s'->False) :
  codeAny (model P w) callerA (.call (.ref fa) ⟨[.ref a],[]⟩) (fun r s'=>r=.ok (.ret (.bool true))/\OldK s₁.heap s'.heap/\s'.os=s₁.os/\AllBare s'.gens) s₁:=by
 have rv:=lG hi;have lenV:=hi.length;have core:∀H:Hp,uG H->SqL K H a (ns.map V.int)->HOk P w H s₁.heap->(∀b,H b≠none->b=a)->(H a≠none->K.lookup a=none) ->
   codeAny (model P w) callerA (.call (.ref fa) ⟨[.ref a],[]⟩) (fun r s'=>r=.ok (.ret (.bool true))/\OldK s₁.heap s'.heap/\s'.os=s₁.os/\AllBare s'.gens) s₁:=by
  intro H hO hS hok hA hK;have base_of:∀{b:Addr} {o:Obj},s₁.heap.get? b=some o->H b=none->(fQ s₁.heap H).get? b=some o:=fun e n=>vd e n;have noA:∀{b:Addr} {o:Obj} {es:Array DictEntry} {ep:Nat},s₁.heap.get? b=some o->o.data=.dict es ep->H b=none:=fun{b o es ep} e d=>by
   cases q:H b with
   |none=>rfl
   |some u =>have e':b=a:=hA b (by rw[q];simp);subst e';rw[ha]at e;cases e;have d':Data.seq vs.toArray _=Data.dict es ep:=d;cases d'
  have nsK:∀{b:Addr} {m:Str->Option Value},s₁.heap.Ns b m->(fQ s₁.heap H).Ns b m:=fun{b m} ⟨o,es,ep,e,d,r⟩=>⟨o,es,ep,base_of e (noA e d),d,r⟩
  have hKb:K.In (fQ s₁.heap H):=fun b o e=>base_of (KX b o e) (by
   cases q:H b with
   |none=>rfl
   |some u =>
    have e':b=a:=hA b (by rw[q];simp);subst e';rw[hK (by rw[q];simp)]at e;cases e)
  have hM:Mod K mg (fQ s₁.heap H):=⟨hKb,nsK hns,⟨mb,nsK hb,hbb⟩,let⟨mc,h1,h2⟩:=hlim;⟨mc,nsK h1,h2⟩⟩
  have e0:Env0 P w K mg (fQ s₁.heap H) callerA [] s₁ H:=⟨rfl,hM,fun b o e=>yd e,Nat.le_of_eq (ss _ _),trivial,fun b hb=>absurd (show b∈([]:List Addr)from hb) (by simp),hok,.of_eq hg⟩
  refine codeAny_mono ((F _ hKb (nsK hns)).run callerA [] s₁ H ⟨[.ref a],[]⟩ [.ref a] [.ref a] _ _ hr e0 (hbind s₁ (.ref a)) (.cons rfl .nil) (hsp H hO hS)) fun r s' h=>?_;cases r with
  |error e=>exact(hCX H e s' h).elim
  |ok fl =>
   cases fl with
   |next=>exact False.elim h
   |brk=>exact False.elim h
   |cont=>exact False.elim h
   |ret u =>
    obtain⟨v,H',os,bare,un,hok',r',q⟩:=h;have q':v=.bl true:=q;subst q';obtain rfl:u=Value.bool true:=r';refine⟨rfl,OldK.of_keep fun b o e=>?_,os,bare⟩;cases q:H b with
    |none=>exact un.keep b o e q (by intro z;exact absurd (show b∈([]:List Addr)from z) (by simp)) (by simp)
    |some u =>
     rcases hO b with z|⟨ob,xs,z⟩
     ·rw[q]at z;cases z
     ·have z2:=un.frzs b ob _ z;obtain⟨e1,_⟩:=hok b _ z;obtain⟨e2,_⟩:=hok' b _ z2;rw[e]at e1;cases e1;exact e2
 cases hk:K.lookup a with
 |some o =>have e:=KX a o hk;rw[ha]at e;cases e;refine core (fun _=>none) (fun _=>.inl rfl) (.inr ⟨_,vs.toArray,_,hk,rfl,rfl,rfl,by rw[Zj,lenV];exact hl,by simpa using rv⟩) (fun b u z=>by have z':(none:Option HO)=some u:=z;cases z') (fun b z=>absurd rfl z) fun z=>absurd rfl z
 |none =>
  refine core (fun b=>if b=a then some (.frz { cls:=.type "list",data:=.seq vs.toArray } (.lst (ns.map V.int)))else none) (fun b=>?_) (.inl (.inr ⟨{ cls:=.type "list",data:=.seq vs.toArray },if_pos rfl⟩)) (fun b u z=>?_) (fun b z=>?_) fun _=>hk
  ·by_cases hb:b=a
   ·exact .inr ⟨_,_,if_pos hb⟩
   ·exact .inl (if_neg hb)
  ·by_cases hb:b=a
   ·have z':=(if_pos hb).symm.trans z;cases z';subst hb;exact⟨ha,by rw[Zh];exact hl,vs,_,rv,ha⟩
   ·have z':=(if_neg hb).symm.trans z;cases z'
  ·by_cases hb:b=a
   ·exact hb
   ·exact absurd (if_neg hb) z
open PySem PySem.Spec PyProof.Rows
theorem zm{l:PySem.W.OpenLaw}{n k:Nat}{q:Program}{loose:List Str}{XP:(Str->Option Value)->Heap->Prop}{YP:World->Heap->Prop}{d:DefRec}{K:Params->PySem.W.Frag}{CX:World->CXT}{sp:World->Sp}{x:Str}(hn:l.most=some n)(hn2:n<=sizeLine)(hdf:d.params.defaults=[])(hr:Room k callerA)(hY:∀ (w:World) (h:Heap),YP w h->(K w.params).In h)(F:∀ (w:World) (mg:Str->Option Value) (fa:Addr) (h:Heap),(K w.params).In h->h.Ns mainGlobals mg->mg d.name=some (.ref fa) ->
   ∃fd:FuncData,(∀(s:Shared) (u:Value),BindsTo s fd ⟨[u],[]⟩ [(x,u)]) /\
    ∀ base:Heap,(K w.params).In base->base.Ns mainGlobals mg->FnOk l.prog w (K w.params) mg base (CX w) k fa fd [x] (sp w))(hsp:∀ (w:World) (H:Hp) (a:Addr) (ns:List Int),ns.length<=n->uG H->SqL (K w.params) H a (ns.map V.int)->sp w [.ref a] H (fun v _=>v=.bl true) fun _ _ _=>False)(hCX:∀ (w:World) (H:Hp) (s:Shared) (e:Value) (s':Shared),CX w [] H s (fun _ _ _=>False) e s'->False) :
  PySem.W.WalkO q loose XP YP l.row.toRowW d [] (fun f vs=>PySem.call f vs):=by
 refine Att.attach_call hn hdf fun w s₀ s₁ mg mb fa o pm cd doc a vs ns G Y ho hd hcd hmg hobj hints hlen hg=>?_;have KX:=hY w _ Y;obtain⟨fd,hb,hF⟩:=F w mg fa _ KX G.T.g hmg;exact vk KX G.T.g G.T.b G.T.builtins G.T.nolimit hg hobj hints (ZC hlen hn2) hr hF hb (fun H hO hS=>hsp w H a ns hlen hO hS) fun H e s'=>hCX w H s₁ e s'
open PySem PySem.Spec PyProof.Rows
def bD(s:Stmt)(j:Nat):Stmt:=match s with
 |.ClassDef _ _ _ body _ _ _ _ _ _ _=>body.getD j (.Pass ⟨0,0,0,0⟩)
 |_=>.Pass ⟨0,0,0,0⟩
def bv(s:Stmt):Arguments:=match s with
 |.FunctionDef _ a _ _ _ _ _ _ _ _=>a
 |_=>{ posonlyargs:=[],args:=[],vararg:=none,kwonlyargs:=[],kw_defaults:=[],kwarg:=none,defaults:=[] }
def aY(s:Stmt):List Stmt:=match s with
 |.FunctionDef _ _ b _ _ _ _ _ _ _=>b
 |_=>[]
def aj(s:Stmt):Scope:=match s with
 |.FunctionDef _ _ _ _ _ _ sc _ _ _=>sc
 |_=>{ kind:=.function,names:=[],isGenerator:=false,isCoroutine:=false }
abbrev CX0:CXT:=fun _ _ _ _ _ _=>False
abbrev E0:XK:=fun _ _ _=>False
theorem jJ{X:Cx}:cG CX0 X E0:=fun _ _ _ _ _ _ _ h=>h.elim
structure Fun(K:PySem.W.Frag)(x qual:Str)(st:Stmt)(f:Addr)(fd:FuncData):Prop where
 ex:∃(oc:Value) (od:Option Addr) (kV doc pm:Value) (an:Option Addr) (cdv ct:Value) (osl:Array (Option Value)),
  fd=PySem.W.fnOf x qual (bv st) (aY st) (aj st) .none kV doc pm an cdv ct/\K.lookup f=some ⟨oc,od,.func fd,osl⟩/\PySem.W.codeIn K cdv qual=true
 kp:PySem.W.keepIn K (.ref f)=true
section
variable{P:Program}{w:World}{K:PySem.W.Frag}{mg:Str->Option Value}{base:Heap}
theorem Fun.ok{x qual:Str}{st:Stmt}{f:Addr}{fd:FuncData}{N ps:List Str}{k:Nat}{sp:Sp}(F:Fun K x qual st f fd)(S:FnScope N ps (aj st))(len:∀ vs H Q E,sp vs H Q E->vs.length=ps.length)(hbody:∀ (cdv:Value) (A:Around) (outer:List Env) (s:Shared) (H:Hp) (vs:List V) (Q:VK) (E:XK),Room k (A.deeper (envOfC qual (aj st) s.heap.objs.size f cdv))->sp vs H Q E ->
   ∃ t,PSs (dD CX0 P w K mg base N qual (aj st) f cdv A outer s H E).nox (aY st) t/\t { nx:=fun _ H'=>Q .non H',rt:=Q } (start N vs) H):FnOk P w K mg base CX0 (k+1) f fd ps sp:=by
 obtain⟨oc,od,kV,doc,pm,an,cdv,ct,osl,rfl,lk,hcd⟩:=F.ex;refine wL lk hcd S len fun A outer s H vs Q E hr hsp=>?_;obtain⟨t,h,q⟩:=hbody cdv A outer s H vs Q E hr hsp;exact⟨t,h.nox,q⟩
theorem Fun.binds{x qual:Str}{st:Stmt}{f:Addr}{fd:FuncData}{ps:List Str}(F:Fun K x qual st f fd)(h:∀(kV doc pm:Value) (an:Option Addr) (cdv ct:Value) (us:List Value),us.length=ps.length->bindArgs (PySem.W.fnOf x qual (bv st) (aY st) (aj st) .none kV doc pm an cdv ct) ⟨us,[]⟩=pure (ps.zip us)):Binds K fd ps []:=by obtain⟨oc,od,kV,doc,pm,an,cdv,ct,osl,rfl,lk,hcd⟩:=F.ex;exact .all (h kV doc pm an cdv ct)
theorem sj{x qual:Str}{st:Stmt}{f:Addr}{oc:Value}{od an:Option Addr}{osl:Array (Option Value)}{kV doc pm cdv ct:Value}(l:K.lookup f=some ⟨oc,od,.func (PySem.W.fnOf x qual (bv st) (aY st) (aj st) .none kV doc pm an cdv ct),osl⟩)(c:PySem.W.codeIn K cdv qual=true)(k:PySem.W.keepIn K (.ref f)=true):Fun K x qual st f (PySem.W.fnOf x qual (bv st) (aY st) (aj st) .none kV doc pm an cdv ct):=⟨⟨oc,od,kV,doc,pm,an,cdv,ct,osl,rfl,l,c⟩,k⟩
end
theorem aP{n:Nat}(h:n<=1000):n<sizeLine:=Nat.lt_of_le_of_lt h (by decide)
theorem aL{A B:Prop}(h:B):if false=true then A else B:=by rw[if_neg Zs];exact h
theorem bt{A B:Prop}(h:A):if true=true then A else B:=by rw[if_pos rfl];exact h
theorem C4{c A B:Prop}[Decidable c](h1:c->A)(h2:¬c->B):if c then A else B:=by
 by_cases h:c
 ·rw[if_pos h];exact h1 h
 ·rw[if_neg h];exact h2 h
theorem hU{c A B:Prop}[Decidable c](hc:c)(h:B):if(!decide c)=true then A else B:=by rw[decide_eq_true hc];exact aL h
def Same(H H':Hp):Prop:=∀b o,H b=some o->H' b=some o
theorem Same.refl(H:Hp):Same H H:=fun _ _ h=>h
theorem Same.trans{H H1 H2:Hp}(a:Same H H1)(b:Same H1 H2):Same H H2:=fun c o h=>b c o (a c o h)
theorem Same.free{H H':Hp}(e:Same H H'){l:Addr}(h:H' l=Option.none):H l=Option.none:=by
 cases q:H l with
 |none=>rfl
 |some o =>rw[e l o q]at h;cases h
open PySem PySem.Spec PyProof.Rows
section
variable{κ:Type}[DecidableEq κ]
theorem wz{kvs:List (κ×V)}{k:κ}(h:bg kvs k=none):¬k∈kvs.map (·.1):=by intro m;obtain⟨p,hp,e⟩:=Z2.mp m;have q:(kvs.any fun kv=>decide (kv.1=k))=true:=List.any_eq_true.mpr ⟨p,hp,decide_eq_true e⟩;rw[df,h]at q;exact absurd q (by simp)
theorem zl{kvs:List (κ×V)}{k:κ}{v:V}(h:bg kvs k=some v):k∈kvs.map (·.1):=by
 have q:(kvs.any fun kv=>decide (kv.1=k))=true:=by
  rw[df,h]
  all_goals rfl
 obtain⟨p,hp,e⟩:=List.any_eq_true.mp q;exact Z2.mpr ⟨p,hp,of_decide_eq_true e⟩
end
open PySem PySem.Spec PyProof.Rows
theorem fv{env:Env}:∀{names:List (Str×NameKind)} {x:Str} {k:NameKind},
  (names.map fun(n,k)=>if(k==NameKind.free&&env.scope.kind == .function&&env.kindOf n==some .cell)then(n,NameKind.cell)else(n,k)).lookup x=some k ->
  ∃k',names.lookup x=some k'/\(k=k'\/(k'=.free/\k=.cell))
 | [],_,_,h=>by simp at h
 |(n,k0)::r,x,k,h=>by
  have ih:=@fv env r x k;rw[Zz]at h;by_cases hc:(k0==NameKind.free&&env.scope.kind == .function&&env.kindOf n==some .cell)=true
  ·have e:(if(k0==NameKind.free&&env.scope.kind == .function&&env.kindOf n==some .cell)=true then(n,NameKind.cell)else(n,k0))=(n,NameKind.cell):=if_pos hc;simp only[e]at h;cases hx:x==n with
   |true =>
    simp only[ZI,hx]at h ⊢;have hf:k0=.free:=by have:=hc;simp only[ZB,ZS]at this;exact this.1.1
    exact⟨k0,rfl,.inr ⟨hf,(Zu h).symm⟩⟩
   |false =>simp only[ZI,hx]at h ⊢;exact ih h
  ·have e:(if(k0==NameKind.free&&env.scope.kind == .function&&env.kindOf n==some .cell)=true then(n,NameKind.cell)else(n,k0))=(n,k0):=if_neg hc;simp only[e]at h;cases hx:x==n with
   |true =>simp only[ZI,hx]at h ⊢;exact⟨k0,rfl,.inl (Zu h).symm⟩
   |false =>simp only[ZI,hx]at h ⊢;exact ih h
theorem gK{env:Env}:∀{names:List (Str×NameKind)} {x:Str},names.lookup x=some .free ->
  (names.map fun(n,k)=>if(k==NameKind.free&&env.scope.kind == .function&&env.kindOf n==some .cell)then(n,NameKind.cell)else(n,k)).lookup x=some .cell \/
  (names.map fun(n,k)=>if(k==NameKind.free&&env.scope.kind == .function&&env.kindOf n==some .cell)then(n,NameKind.cell)else(n,k)).lookup x=some .free
 | [],_,h=>by simp at h
 |(n,k0)::r,x,h=>by
  have ih:=@gK env r x;rw[Zz];by_cases hc:(k0==NameKind.free&&env.scope.kind == .function&&env.kindOf n==some .cell)=true
  ·have e:(if(k0==NameKind.free&&env.scope.kind == .function&&env.kindOf n==some .cell)=true then(n,NameKind.cell)else(n,k0))=(n,NameKind.cell):=if_pos hc;simp only[e];cases hx:x==n with
   |true =>
    simp only[ZI,hx]at h ⊢
    first|exact .inl rfl|exact .inl trivial
   |false =>simp only[ZI,hx]at h ⊢;exact ih h
  ·have e:(if(k0==NameKind.free&&env.scope.kind == .function&&env.kindOf n==some .cell)=true then(n,NameKind.cell)else(n,k0))=(n,k0):=if_neg hc;simp only[e];cases hx:x==n with
   |true =>simp only[ZI,hx]at h ⊢;exact .inr h
   |false =>simp only[ZI,hx]at h ⊢;exact ih h
def bh(env:Env):List (Str×NameKind)->List (Str×Addr)->List (Str×Addr)
 | [],acc=>acc
 |y::r,acc=>if(y.2==NameKind.free)=true then bh env r ((y.1,(env.cells.lookup y.1).getD 0)::acc)else bh env r acc
theorem jY{env:Env}:∀{names:List (Str×NameKind)} {acc:List (Str×Addr)},(∀y∈names,y.2=.free->∃c,env.cells.lookup y.1=some c) ->
  (forIn names acc fun(x:Str×NameKind) (cs:List (Str×Addr))=>if(x.2==NameKind.free)=true then do let c ←cellOf env x.1;pure (ForInStep.yield ((x.1,c)::cs))else pure (ForInStep.yield cs):Sem (List (Str×Addr)))=pure (bh env names acc)
 | [],_,_=>rfl
 |y::r,acc,h=>by
  rw[List.forIn_cons];by_cases hy:(y.2==NameKind.free)=true
  ·obtain⟨c,hc⟩:=h y Zv (by simpa using hy);have e:cellOf env y.1=pure c:=by unfold cellOf;rw[hc]
   rw[if_pos hy,e,pure_bind,pure_bind];show(forIn r ((y.1,c)::acc) _:Sem (List (Str×Addr)))=_;rw[jY fun z hz=>h z (Zn _ hz)];show _=pure (if(y.2==NameKind.free)=true then bh env r ((y.1,(env.cells.lookup y.1).getD 0)::acc)else bh env r acc);rw[if_pos hy,hc];rfl
  ·rw[if_neg hy,pure_bind];show(forIn r acc _:Sem (List (Str×Addr)))=_;rw[jY fun z hz=>h z (Zn _ hz)];show _=pure (if(y.2==NameKind.free)=true then bh env r ((y.1,(env.cells.lookup y.1).getD 0)::acc)else bh env r acc);rw[if_neg hy]
theorem xQ{scope:Scope}{env:Env}(h:∀y∈scope.names,y.2=.free->∃c,env.cells.lookup y.1=some c):closureFor scope env=pure (bh env scope.names []):=by have q:=jY (env:=env) (names:=scope.names) (acc:=[]) h;unfold closureFor;exact(by first|(simp only[bind_pure];exact q)|(rw[bind_pure];exact q)|exact q)
theorem jZ{env:Env}:∀{names:List (Str×NameKind)} {acc:List (Str×Addr)},(∀y∈names,y.2=.free->∃c,env.cells.lookup y.1=some c)->(∀x c,acc.lookup x=some c->env.cells.lookup x=some c) ->
  ∀x c,(bh env names acc).lookup x=some c->env.cells.lookup x=some c
 | [],_,_,ha=>ha
 |y::r,acc,h,ha=>by
  have hr:∀z∈r,z.2=.free->∃c,env.cells.lookup z.1=some c:=fun z hz=>h z (Zn _ hz);intro x c e;unfold bh at e;by_cases hy:(y.2==NameKind.free)=true
  ·rw[if_pos hy]at e;refine jZ hr (fun x' c' e'=>?_) x c e;obtain⟨d,hd⟩:=h y Zv (by simpa using hy);rw[hd,Option.getD_some]at e';cases hx:x'==y.1 with
   |true =>simp only[ZI,hx]at e';have e1:x'=y.1:=eq_of_beq hx;rw[e1,hd];exact e'
   |false =>simp only[ZI,hx]at e';exact ha x' c' e'
  ·rw[if_neg hy]at e;exact jZ hr ha x c e
theorem iO{env:Env}:∀{names:List (Str×NameKind)} {acc:List (Str×Addr)} {x:Str},(∃c,acc.lookup x=some c)->∃c,(bh env names acc).lookup x=some c
 | [],_,_,h=>h
 |y::r,acc,x,h=>by
  unfold bh;by_cases hy:(y.2==NameKind.free)=true
  ·rw[if_pos hy];refine iO ?_;cases hx:x==y.1 with
   |true=>exact⟨(env.cells.lookup y.1).getD 0,by simp only[ZI,hx]⟩
   |false =>obtain⟨c,e⟩:=h;exact⟨c,by simp only[ZI,hx];exact e⟩
  ·rw[if_neg hy];exact iO h
theorem jX{env:Env}:∀{names:List (Str×NameKind)} {acc:List (Str×Addr)} {x:Str},names.lookup x=some .free->∃c,(bh env names acc).lookup x=some c
 | [],_,_,h=>by simp at h
 |(n,k)::r,acc,x,h=>by
  unfold bh;cases hx:x==n with
  |true =>
   simp only[ZI,hx]at h;have hy:(k==NameKind.free)=true:=by rw[Zu h];rfl
   rw[if_pos hy];exact iO ⟨(env.cells.lookup n).getD 0,by simp only[ZI,hx]⟩
  |false =>
   simp only[ZI,hx]at h;by_cases hy:(k==NameKind.free)=true
   ·rw[if_pos hy];exact jX h
   ·rw[if_neg hy];exact jX h
abbrev aD(X:Cx)(scope:Scope)(N':List Str)(C:Addr)(s0:Shared)(H0:Hp)(ex:List Addr):Cx where
 prog:=X.prog
 w:=X.w
 K:=X.K
 mg:=X.mg
 base:=X.base
 A:=X.A
 N:=N'
 s₀:=s0
 H₀:=H0
 env:=compEnvC scope (bh X.env scope.names []) C X.env
 outer:=X.stack
 stack:=X.stack
 ex:=ex
 fn:=fun _=>false
 calm:=X.calm
 pn:=[]
 xe:=fun _ _=>False
def CapOk(X:Cx)(sc:Scope):List Nat->List Str->Prop
 | [],[]=>True
 |j::js,x::xs=>X.N[j]?=some x/\sc.names.lookup x=some .free/\CapOk X sc js xs
 |_,_=>False
theorem CapOk.get{X:Cx}{sc:Scope}:∀{js:List Nat} {xs:List Str} {i:Nat} {x:Str},CapOk X sc js xs->xs[i]?=some x ->
  ∃j,js[i]?=some j/\X.N[j]?=some x/\sc.names.lookup x=some .free
 | [],[],_,_,_,e=>by simp at e
 |j::js,y::xs,0,x,h,e=>by
  obtain⟨h1,h2,_⟩:=h;have e':y=x:=by simpa using e
  subst e';exact⟨j,rfl,h1,h2⟩
 |j::js,y::xs,i+1,x,h,e=>by obtain⟨_,_,h6⟩:=h;obtain⟨j',q⟩:=CapOk.get (i:=i) (x:=x) h6 (by simpa using e);exact⟨j',by simpa using q.1,q.2⟩
 | [],_::_,_,_,h,_=>h.elim
 |_::_,[],_,_,h,_=>h.elim
theorem CapOk.len{X:Cx}{sc:Scope}:∀{js:List Nat} {xs:List Str},CapOk X sc js xs->js.length=xs.length
 | [],[],_=>rfl
 |j::js,y::xs,h=>by obtain⟨_,_,h6⟩:=h;simp[CapOk.len h6]
 | [],_::_,h=>h.elim
 |_::_,[],h=>h.elim
structure CompOk(X:Cx)(scope:Scope)(cap:List Nat)(capN:List Str):Prop where
 kind:scope.kind=.function
 names:∀x∈scope.names,x.2=.local->scope.names.lookup x.1=some .local
 nocell:∀y∈scope.names,y.2≠.cell
 frees:(scope.names.all fun y=>!(y.2==NameKind.free) ||(X.env.kindOf y.1==some .cell ||X.env.kindOf y.1==some .free))=true
 cap:CapOk X scope cap capN
section
variable{X:Cx}{scope:Scope}{cap:List Nat}{capN:List Str}
theorem CompOk.around(O:CompOk X scope cap capN){y:Str×NameKind}(hy:y∈scope.names)(hf:y.2=.free):X.env.kindOf y.1=some .cell\/X.env.kindOf y.1=some .free:=by have q:=YN.mp O.frees y hy;rw[hf]at q;simpa using q
theorem CompOk.cells(O:CompOk X scope cap capN)(ok:X.Ok):∀y∈scope.names,y.2=.free->∃c,X.env.cells.lookup y.1=some c:=fun y hy hf=>ok.has _ (O.around hy hf)
theorem CompOk.clos(O:CompOk X scope cap capN)(ok:X.Ok):closureFor scope X.env=pure (bh X.env scope.names []):=xQ (O.cells ok)
theorem CompOk.sub(O:CompOk X scope cap capN)(ok:X.Ok):∀x c,(bh X.env scope.names []).lookup x=some c->X.env.cells.lookup x=some c:=jZ (O.cells ok) fun x c e=>by simp at e
theorem CompOk.has(_O:CompOk X scope cap capN){x:Str}(h:scope.names.lookup x=some .free):∃c,(bh X.env scope.names []).lookup x=some c:=jX h
end
def bx(n:Nat)(cap:List Nat)(σ:St):St:=List.replicate n none++cap.map (fun j=>(σ[j]?).join)
theorem qo{n:Nat}{cap:List Nat}{σ:St}:(bx n cap σ).length=n+cap.length:=by unfold bx;rw[Zo,Yd,Zh]
theorem jm{n:Nat}{cap:List Nat}{σ:St}{i:Nat}{v:V}(h:(bx n cap σ)[i]?=some (some v)):n<=i/\∃j,cap[i-n]?=some j/\σ[j]?=some (some v):=by
 unfold bx at h;by_cases hi:i<n
 ·rw[YC (by simpa using hi),YL]at h;rw[if_pos hi]at h;cases h
 ·have hi':n<=i:=Nat.le_of_not_lt hi;rw[ZW (by simpa using hi'),Yd,Z6]at h;refine⟨hi',?_⟩;cases e:cap[i-n]? with
  |none=>rw[e]at h;cases h
  |some j =>
   rw[e]at h;refine⟨j,rfl,?_⟩;have h':(σ[j]?).join=some v:=by simpa using h
   cases q:σ[j]? with
   |none=>rw[q]at h';cases h'
   |some o =>rw[q]at h';have:o=some v:=h';rw[this]
section
variable{X:Cx}{pins:List (Addr×Obj)}{σ:St}{H:Hp}{s:Shared}{scope:Scope}{cap:List Nat}{capN N':List Str}{C:Addr}{ex:List Addr}
theorem rQ(I:Inv X pins σ H s)(O:CompOk X scope cap capN)(hC:s.heap.objs.size<=C)(hex:∀b∈ex,aV X pins H b/\b<s.heap.objs.size):(aD X scope N' C s H ex).Ok where
 mod:=I.ok.mod
 kind:=O.kind
 glob:=I.ok.glob
 blt:=I.ok.blt
 above:=hC
 inj:=fun x y c h1 h2=>I.ok.inj x y c (O.sub I.ok x c h1) (O.sub I.ok y c h2)
 has:=fun x hx=>by
  have hx':(relabel scope X.env).names.lookup x=some .cell\/(relabel scope X.env).names.lookup x=some .free:=hx;have key:∀k,(relabel scope X.env).names.lookup x=some k->(k=.cell\/k=.free)->scope.names.lookup x=some .free:=fun k e hk=>by
   obtain⟨k',e',q⟩:=fv (env:=X.env) e;rcases q with q|⟨q,_⟩
   ·subst q;rcases hk with z|z
    ·subst z;exact absurd rfl (O.nocell _ (Yu e'))
    ·subst z;exact e'
   ·subst q;exact e'
  rcases hx' with e|e
  ·exact O.has (key _ e (.inl rfl))
  ·exact O.has (key _ e (.inr rfl))
 cab:=fun x c h _=>by cases h
 hd:=I.ok.hd
 frames:=I.ok.frames
 stk:=.inl rfl
 exf:=fun b hb=>by obtain⟨⟨f0,f1,f2,f3,f4,f5⟩,lt⟩:=hex b hb;exact⟨ZA (Zx lt hC),fun x c e=>f4 x c (O.sub I.ok x c e)⟩
 bs:=I.bs
 bsz:=ZC I.ok.bsz I.sz
 noex:=fun b o e hb=>by
  obtain⟨⟨f0,f1,f2,f3,f4,f5⟩,lt⟩:=hex b hb;rcases f3 with z|z
  ·exact I.ok.noex b o e z
  ·exact absurd (Zx (Zm e) (ZC I.ok.bsz z)) (Yw _)
 exfs:=fun b hb z=>by
  obtain⟨⟨f0,f1,f2,f3,f4,f5⟩,lt⟩:=hex b hb;rcases Zq.mp (I.stkSub b z)with e|e
  ·exact f1 e
  ·exact f2 e
 funs:=I.stack
 frf:=I.stkFree
theorem sK(I:Inv X pins σ H s){b:Addr}(hb:s.heap.objs.size<=b):b∉frs X.stack:=fun z=>by
 rcases Zq.mp (I.stkSub b z)with e|e
 ·exact absurd (Zx I.lt hb) (by rw[e];exact Yw _)
 ·exact I.nofs hb e
theorem vw(I:Inv X pins σ H s){b:Addr}(hb:s.heap.objs.size<=b):∀x c,X.env.cells.lookup x=some c->c≠b:=fun x c e z=>by obtain⟨v,q⟩:=I.cell x c e;exact absurd (Zx q.lt (by rw[z];exact hb)) (Yw _)
theorem qt{n:Nat}{h1:Heap}{m1:Str->Option Value}{tk:Nat}(I:Inv X pins σ H s)(O:CompOk X scope cap capN)(hN:N'.length=n+capN.length)(hN2:∀i x,n<=i->N'[i]?=some x->capN[i-n]?=some x)(hC:s.heap.objs.size<=C)(hex:∀b∈ex,aV X pins H b/\b<s.heap.objs.size)(hk:∀b o,s.heap.get? b=some o->h1.get? b=some o)(hn:h1.Ns C m1):Inv (aD X scope N' C s H ex) [] (bx n cap σ) H { s with heap:=h1,toks:=tk }:=by
 refine⟨rQ I O hC hex,rfl,I.bare,Un.kept hk,⟨m1,hn,fun i x v e1 e2 e3=>?_⟩,fun x c e=>?_,I.hok.fresh hC,fun x c e=>I.freeC x c (O.sub I.ok x c e),fun p hp=>absurd (show p∈([]:List (Addr×Obj))from hp) (by simp),I.hok.kept hk,?_⟩
 ·obtain⟨hi,j,ej,es⟩:=jm e2;obtain⟨j',q1,q2,qf⟩:=O.cap.get (hN2 i x hi e1);have q3:=O.around (Yu qf) rfl;have q4:=gK (env:=X.env) qf;obtain⟨c,q5⟩:=O.has qf;have q6:=O.sub I.ok x c q5;rw[q1]at ej;cases ej;obtain⟨m0,hn0,hl0⟩:=I.loc;obtain⟨u,r,l⟩:=hl0 _ x v q2 es (by
   rcases q3 with z|z
   ·exact .inr (.inl z)
   ·exact .inr (.inr z))
  refine⟨u,r,.inr ⟨q4,c,q5,?_⟩⟩;rcases l with⟨k,_⟩|⟨_,c',e',z⟩
  ·rcases q3 with z|z
   ·have z':X.env.kindOf x=some .cell:=z;rw[z']at k;cases k
   ·have z':X.env.kindOf x=some .free:=z;rw[z']at k;cases k
  ·rw[q6]at e';cases e';obtain⟨o,ho,hd⟩:=z;exact⟨o,hk _ _ ho,hd⟩
 ·obtain⟨v,o,ho,hd⟩:=I.cell x c (O.sub I.ok x c e);exact⟨v,o,hk _ _ ho,hd⟩
 ·rw[qo,O.cap.len];exact hN.symm
end
def jV(X:Cx)(ifs:List Expr)(t:TT):Prop :=
 ∀(pins:List (Addr×Obj)) (s:Shared) (σ:St) (H:Hp) (Q:Bool->Hp->Prop),Inv X pins σ H s->t σ H Q ->
  wpAny (model X.prog X.w) X.A (forIn ifs true fun c r=>if r=true then do let ok ←isTrue c X.env (eval c X.env);pure (ForInStep.yield ok)else pure (ForInStep.yield r)) (TP X pins σ Q) X.xe s
def iq:TT:=fun _ H Q=>Q true H
theorem vK{X:Cx}:jV X [] iq:=fun _ _ _ H _ I h=>wpAny_tests_nil ⟨H,I,h⟩
theorem vL{X:Cx}{c:Expr}{t:TT}(h:PT X c t):jV X [c] t:=fun pins s σ H Q I hw=>wpAny_tests_one (h pins s σ H Q I hw)
def GK(n:Nat)(g:TG):Prop:=∀x σ H Q,g x σ H Q->g x σ H (fun σ2 H2=>(σ2.length=σ.length/\∀i,n<=i->σ2[i]?=σ[i]?)/\Q σ2 H2)
theorem bL{n i:Nat}(hi:i<n):GK n (br i):=fun x σ H Q h=>⟨⟨Yt,fun j hj=>List.getElem?_set_ne (by omega)⟩,h⟩
def GKs(n:Nat)(g:TGs):Prop:=∀xs σ H Q,g xs σ H Q->g xs σ H (fun σ2 H2=>(σ2.length=σ.length/\∀i,n<=i->σ2[i]?=σ[i]?)/\Q σ2 H2)
theorem oX{n:Nat}:GKs n iQ:=fun xs σ H Q h=>⟨h.1,⟨rfl,fun _ _=>rfl⟩,h.2⟩
def GM(g:TG):Prop:=∀x σ H Q Q',(∀σ2 H2,Q σ2 H2->Q' σ2 H2)->g x σ H Q->g x σ H Q'
def GMs(g:TGs):Prop:=∀xs σ H Q Q',(∀σ2 H2,Q σ2 H2->Q' σ2 H2)->g xs σ H Q->g xs σ H Q'
theorem bw{i:Nat}:GM (br i):=fun _ _ _ _ _ f h=>f _ _ h
theorem dR:GMs iQ:=fun _ _ _ _ _ f h=>⟨h.1,f _ _ h.2⟩
theorem cV{t:TG}{u:TGs}(a:GM t)(b:GMs u):GMs (di t u):=fun xs σ H Q Q' f h=>by obtain⟨v,r,e,h⟩:=h;exact⟨v,r,e,a _ _ _ _ _ (fun σ2 H2 z=>b _ _ _ _ _ f z) h⟩
theorem cU{n:Nat}{t:TG}{u:TGs}(a:GK n t)(m:GM t)(b:GKs n u)(mb:GMs u):GKs n (di t u):=fun xs σ H Q h=>by obtain⟨v,r,e,h⟩:=h;refine⟨v,r,e,m _ _ _ _ _ (fun σ2 H2 z=>?_) (a _ _ _ _ h)⟩;obtain⟨⟨l1,k1⟩,z⟩:=z;refine mb _ _ _ _ _ (fun σ3 H3 w=>?_) (b _ _ _ _ z);obtain⟨⟨l2,k2⟩,w⟩:=w;exact⟨⟨l2.trans l1,fun i hi=>(k2 i hi).trans (k1 i hi)⟩,w⟩
theorem sq{n m:Nat}{K:PySem.W.Frag}{t:TGs}(a:GKs n t):GK n (iR K m t):=fun x σ H Q h=>by obtain⟨b,xs,e,h1,h2,h3⟩:=h;exact⟨b,xs,e,h1,h2,a _ _ _ _ h3⟩
def eJ(n:Nat)(cap:List Nat)(g:TG)(tc:TT)(te:TE)(σ:St)(J:It)(H1:Hp)(Q:VK):Prop :=
 ∃W:Nat->Nat->List V->Hp->Prop,(∃m,W 0 m [] H1)/\∀i m ys H,W i m ys H ->
  (J.stop i H/\∀p,H p=none->Q (.ref p) (upd H p (.lst ys))) \/
  (J.go i H/\ys.length<sizeLine/\∀ x H',J.yld i H x H'->g x (bx n cap σ) H' fun σ2 H2=>tc σ2 H2 fun b H3 =>
   if b=true then te σ2 H3 fun y H4=>∃ m',m'<m/\W (i+1) m' (ys++[y]) H4 else ∃ m',m'<m/\W (i+1) m' ys H3)
def mh(n:Nat)(cap:List Nat)(wi:TI)(g:TG)(tc:TT)(te:TE):TE:=fun σ H Q=>wi σ H fun J H1=>eJ n cap g tc te σ J H1 Q
theorem fH{prog:Program}{w:World}{A:Around}{R:Result->Shared->Prop}{s:Shared}{elt target iter:Expr}{ifs:List Expr}{scope:Scope}{pos:Pos}{it acc:Value}{env:Env}(I:Nat->Shared->Prop)(turn:∀ n s,I n s->wpAny (model prog w) A (pyNext it) (fun r s₁=>match r with
   |none=>R (.ok .next) s₁
   | some v=>wpAny (model prog w) A (letOwnedTupleGo target it v) (fun _ s₁'=>wpAny (model prog w) A (assign target env v) (fun _ s₂ =>
     wpAny (model prog w) A (forIn ifs true fun c r=>if r=true then do let ok ←isTrue c env (eval c env);pure (ForInStep.yield ok) else pure (ForInStep.yield r)) (fun ok s₃ =>
      if ok=true then wpAny (model prog w) A (eval elt env) (fun x s₄ =>
       wpAny (model prog w) A (call (.builtin "list.append") [acc,x]) (fun _ s₅=>∃ m,m<n/\I m s₅) (fun _ _=>False) s₄) (fun _ _=>False) s₃
      else ∃ m,m<n/\I m s₃) (fun _ _=>False) s₂) (fun _ _=>False) s₁') (fun _ _=>False) s₁) (fun _ _=>False) s)(n:Nat)(h:I n s) :
  codeAny (model prog w) A (.compLoop (.ListComp elt [⟨target,iter,ifs,0⟩] scope pos) 0 it acc env) R s:=by
 refine codeAny_loop rfl I (fun n s hI=>?_) n h;show wpAny _ A ((compTurn (.ListComp elt [⟨target,iter,ifs,0⟩] scope pos) 0 it acc env).onRaise (fun x=>do noteFrame x env;theTreesLotGoes x)) _ _ s;refine wpAny_noted (wpAny_noRaise ?_);rw[compTurn_list];refine Za (wpAny_standAt (Za (ZG (turn n s hI) (fun r s₁ h₁=>?_) fun _ _ h'=>h')));cases r with
 |none=>exact Zd h₁
 |some v =>
  refine Za (ZG h₁ (fun _ s₁' h₁'=>?_) fun _ _ h'=>h');refine Za (ZG h₁' (fun _ s₂ h₂=>Za (ZG h₂ (fun ok s₃ h₃=>?_) fun _ _ h'=>h')) fun _ _ h'=>h');cases ok with
  |false=>exact Zd ⟨rfl,h₃⟩
  |true =>exact Za (Za (ZG h₃ (fun x s₄ h₄=>Za (ZG h₄ (fun _ s₅ h₅=>Zd (Zd ⟨rfl,h₅⟩)) fun _ _ h'=>h')) fun _ _ h'=>h'))
theorem ym{own capN:List Str}:∀(i:Nat) (x:Str),own.length<=i->(own++capN)[i]?=some x->capN[i-own.length]?=some x:=fun i x hi e=>by rw[ZW hi]at e;exact e
section
variable{X:Cx}{pins:List (Addr×Obj)}{σ:St}{H2:Hp}{s2:Shared}{scope:Scope}{cap:List Nat}{capN own:List Str}
variable{elt tg iter:Expr}{ifs:List Expr}{pos:Pos}{g:TG}{tc:TT}{te:TE}{Q:VK}
abbrev dE(its:List Value)(nn:Nat):Obj:={ cls:=.type "list",data:=.seq its.toArray nn }
theorem ld{J:It}{fp:List Addr}{it:Addr}{tn:Nat->Heap->Prop}{E:Value->Shared->Prop}{RR:Value->Addr->Result->Shared->Prop}(O:CompOk X scope cap capN)(hc:X.calm=true)(hg:∀C s0 H0 ex,PG (aD X scope (own++capN) C s0 H0 ex) tg g)(gk:GK own.length g)(ht:∀C s0 H0 ex,jV (aD X scope (own++capN) C s0 H0 ex) ifs tc)(he:∀C s0 H0 ex,PE (aD X scope (own++capN) C s0 H0 ex) elt te)(I2:Inv X pins σ H2 s2)(T:Turn X.prog X.w X.K tg J fp it tn)(st2:tn 0 s2.heap)(f2:∀b∈fp,aV X pins H2 b)(hq:eJ own.length cap g tc te σ J H2 Q)(fin:∀(D C:Addr) (s4:Shared) (H4:Hp) (ys:List V),Inv X pins σ (upd H4 D (.lst ys)) s4->(∃m,s4.heap.Ns C m)->aV X pins (upd H4 D (.lst ys)) C->Q (.ref D) (upd H4 D (.lst ys))->RR (.ref D) C (.ok .next) s4) :
  wpAny (model X.prog X.w) X.A (newList []) (fun acc s₃=>wpAny (model X.prog X.w) X.A (newFunctionEnv scope X.env.globals (bh X.env scope.names []) [] X.env.qual none .none (some X.env)) (fun cenv s₄ =>
   codeAny (model X.prog X.w) X.A (.compStart (.ListComp elt [⟨tg,iter,ifs,0⟩] scope pos) 0 (.ref it) acc { cenv with scope:=relabel scope X.env }) (RR acc cenv.locals) s₄) E s₃) E s2:=by
 obtain⟨W,⟨m0,w0⟩,turn⟩:=hq;refine ZY (wpAny_newFunctionEnv O.nocell (by intro y hy;simp at hy) (fun h₁ hns₁ hsb₁=>?_) O.kind);dsimp only at hns₁ hsb₁ ⊢;generalize hHp:s2.heap.push { cls:=.type "list",dict:=none,data:=.seq ([]:List Value).toArray }=Hp2 at hns₁ hsb₁ ⊢;have hC:Hp2.objs.size=s2.heap.objs.size+1:=by rw[<-hHp,Heap.size_push]
 have hDC:s2.heap.objs.size≠Hp2.objs.size:=by rw[hC];exact ZA (Nat.lt_succ_self _)
 have hCle:s2.heap.objs.size<=Hp2.objs.size:=by rw[hC];exact Nat.le_succ _
 have below:∀b,b<s2.heap.objs.size->b≠Hp2.objs.size/\b≠s2.heap.objs.size:=fun b hb=>⟨by rw[hC];exact ZA (Nat.lt_succ_of_lt hb),ZA hb⟩
 have old:∀b o,s2.heap.get? b=some o->h₁.get? b=some o:=fun b o e=>hsb₁.extBut b o (below b (Zm e)).1 (Zb _ (hHp▸Zb _ e));have hacc:h₁.get? s2.heap.objs.size=some (dE [] 0):=hsb₁.extBut _ _ hDC (Zb _ (hHp▸Zr _ rfl));generalize hDe:s2.heap.objs.size=D at *;generalize hCe:Hp2.objs.size=C at *;have hfpl:∀b∈fp,b<s2.heap.objs.size:=fun b hb=>by obtain⟨o,e,_⟩:=T.obj _ _ st2 b hb;exact Zm e
 have hex:∀b∈fp,aV X pins H2 b/\b<s2.heap.objs.size:=fun b hb=>⟨f2 b hb,hfpl b hb⟩
 have hCle':s2.heap.objs.size<=C:=by rw[hDe];exact hCle
 have hDle:s2.heap.objs.size<=D:=by rw[hDe];exact Ze _
 have hDfp:∀b∈fp,D≠b:=fun b hb z=>by have:=hfpl b hb;rw[<-z]at this;exact absurd this (Nat.not_lt.mpr hDle)
 have I0:∀tk,Inv (aD X scope (own++capN) C s2 H2 fp) [] (bx own.length cap σ) H2 { s2 with heap:=h₁,toks:=tk }:=fun tk=>qt I2 O (by simp) ym hCle' hex old hns₁;have Dst:D∉frs X.stack:=sK I2 hDle;have Dcell:∀x c,(aD X scope (own++capN) C s2 H2 fp).env.cells.lookup x=some c->c≠D:=fun x c e=>vw I2 hDle x c (O.sub I2.ok x c e);have pinD:∀{σ':St} {H':Hp} {s':Shared} {its:List Value} {nn:Nat},Inv (aD X scope (own++capN) C s2 H2 fp) [] σ' H' s'->s'.heap.get? D=some (dE its nn)->H' D=none->Inv (aD X scope (own++capN) C s2 H2 fp) [(D,dE its nn)] σ' H' s':=fun{σ' H' s' its nn} I e hn =>
  I.pins_of fun p hp=>by
   have z:p=(D,dE its nn):=by simpa using hp
   subst z;exact⟨e,hn,hDC,Dst,fun v q=>by cases q⟩
 have loop:∀s₃:Shared,s₃={ s2 with heap:=h₁,toks:=s2.toks+([]:List (Str×Value)).length } ->
   codeAny (model X.prog X.w) X.A (.compLoop (.ListComp elt [⟨tg,iter,ifs,0⟩] scope pos) 0 (.ref it) (.ref D) (compEnvC scope (bh X.env scope.names []) C X.env)) (RR (.ref D) C) s₃:=by
  rintro s₃ rfl;refine fH (fun k s'=>∃(i:Nat) (ys:List V) (its:List Value) (nn:Nat) (H':Hp),Inv (aD X scope (own++capN) C s2 H2 fp) [(D,dE its nn)] (bx own.length cap σ) H' s'/\tn i s'.heap/\(∀b∈fp,H' b=none)/\Vals ys its/\ys.length<=sizeLine/\W i k ys H') ?_ m0
   ⟨0,[],[],0,H2,pinD (I0 _) hacc (I2.hok.fresh hDle),T.keep _ _ _ st2 (fun b hb o e=>old b o e),fun b hb=>(f2 b hb).1,.nil,ZP _,w0⟩
  rintro k s3 ⟨i,ys,its,nn,H3,I3,st3,fr3,rv,hz,w3⟩;have oD3:s3.heap.get? D=some (dE its nn):=(I3.pin (D,dE its nn) (by simp)).1;have fpY:∀{H':Hp},(∀b∈fp,H' b=none)->∀b∈fp,aV (aD X scope (own++capN) C s2 H2 fp) [(D,dE its nn)] H' b:=fun{H'} hn b hb=>by
   obtain⟨f0,f1,g2,f3,f4,f5⟩:=f2 b hb;refine⟨hn b hb,ZA (Zx (hfpl b hb) hCle'),fun z=>?_,.inl hb,fun x c e=>f4 x c (O.sub I2.ok x c e),fun p hp=>?_⟩
   ·rcases Zq.mp (I2.stkSub b z)with e|e
    ·exact f1 e
    ·exact g2 e
   ·have z:p=(D,dE its nn):=by simpa[aD]using hp
    subst z;exact hDfp b hb
  rcases turn i k ys H3 w3 with⟨stop,qn⟩|⟨go,hlt,step⟩
  ·refine thn (T.done (aD X scope (own++capN) C s2 H2 fp) rfl rfl rfl hc i _ s3 _ H3 _ I3 (fpY fr3) st3 stop) fun r s4 ⟨hr,I4⟩=>?_;subst hr;obtain⟨oD,nD,_⟩:=I4.pin (D,dE its nn) (by simp);have neD:∀{b:Addr} {u:HO},H3 b=some u->b≠D:=fun{b u} e=>al e nD;have JX:Inv X pins σ (upd H3 D (.lst ys)) s4:=by
    refine I2.call' (ch:=fp) I4.os ⟨I4.base.keep,I4.base.slot,fun b o e nb hx=>?_,I4.base.there,fun b xs e=>?_,fun b o u e=>?_,fun b ps e=>?_⟩ (fun b u e=>?_) I4.bare (fun b hb=>?_)
    ·rw[af (by rw[<-hDe];exact ZA (Zm e))];exact I4.base.free b o e nb hx
    ·have q:=I4.base.tups b xs e;rw[af (neD q)];exact q
    ·have q:=I4.base.frzs b o u e;rw[af (neD q)];exact q
    ·obtain⟨more,q⟩:=I4.base.tbls b ps e;exact⟨more,by rw[af (neD q)];exact q⟩
    ·by_cases hb:b=D
     ·subst hb;rw[ad]at e;cases e;exact⟨hz,its,nn,rv,oD⟩
     ·rw[af hb]at e;exact(I4.hok b u e).stay (fun _ _ _ q=>q) (fun c q=>by rw[af (neD q)];exact q) fun c xs q=>by rw[af (neD q)];exact q
    ·obtain⟨f0,f1,g2,f3,f4,f5⟩:=f2 b hb;exact⟨f3,f1,f4,f5⟩
   obtain⟨m4,hn4,_⟩:=I4.loc;refine fin D C s4 H3 ys JX ⟨m4,hn4⟩ ?_ (qn D nD);refine I2.fpOk (b:=C) hCle' ?_;rw[af (Z8 hDC)];exact I4.free
  ·refine thn (T.item (aD X scope (own++capN) C s2 H2 fp) rfl rfl rfl hc i _ s3 _ H3 _ I3 (fpY fr3) st3 go) fun r s4 ⟨u,hr,h4⟩=>?_;subst hr;refine thn h4 fun _ s5 hz9=>?_;obtain⟨x,H5,I5,r5,y5,st5,fr5⟩:=hz9;have I5':=I5.pinned (fpY fr5) (T.obj _ _ st5);refine thn (hg C s2 H2 fp _ s5 _ H5 x u _ I5' r5 (gk _ _ _ _ (step x H5 y5))) fun _ s6 hz9=>?_;obtain⟨σ6,H6,I6,⟨l6,k6⟩,q6⟩:=hz9;refine thn (ht C s2 H2 fp _ s6 σ6 H6 _ I6 q6) fun ok s7 ⟨H7,I7,q7⟩=>?_;have wk:∀{H8:Hp} {s8:Shared} {pl:List (Addr×Obj)},Inv (aD X scope (own++capN) C s2 H2 fp) pl σ6 H8 s8->Inv (aD X scope (own++capN) C s2 H2 fp) pl (bx own.length cap σ) H8 s8:=fun I=>I.weak l6.symm fun j v e=>by obtain⟨hj,_⟩:=jm e;rw[k6 j hj];exact e
   have tn8:∀{σ8:St} {H8:Hp} {s8:Shared},Inv (aD X scope (own++capN) C s2 H2 fp) ([(D,dE its nn)]++gI fp s5.heap) σ8 H8 s8->(∀b∈fp,∀o,s5.heap.get? b=some o->s8.heap.get? b=some o)/\∀b∈fp,H8 b=none:=fun{σ8 H8 s8} I=>by refine⟨fun b hb o e=>(I.pin (b,o) (ZE _ (ZE _ (dM hb e)))).1,fun b hb=>?_⟩;obtain⟨o,e,d⟩:=T.obj _ _ st5 b hb;exact(I.pin (b,o) (ZE _ (ZE _ (dM hb e)))).2.1
   cases ok with
   |false =>rw[if_neg Zs]at q7 ⊢;obtain⟨m',hm,w7⟩:=q7;obtain⟨t1,t2⟩:=tn8 I7;exact⟨m',hm,i+1,ys,its,nn,H7,wk I7.unpinned,T.keep _ _ _ st5 t1,t2,rv,hz,w7⟩
   |true =>
    rw[if_pos rfl]at q7 ⊢;refine thn (he C s2 H2 fp _ s7 σ6 H7 _ I7 q7) fun y s8 hz9=>?_;obtain⟨yv,H8,I8,r8,m',hm,w8⟩:=hz9;obtain⟨t1,t2⟩:=tn8 I8;obtain⟨oD,nD,_⟩:=I8.pin (D,dE its nn) (by simp);have hil:=rv.length;refine call_meets F.slot_list_append ⟨_,oD,rfl⟩ F.entry_list_append (F.args_list_append_2 _ _) (PySem.list_append D its.toArray nn y (by rw[Zj];omega)) ⟨oD,?_⟩;have q:=PySem.IsL.update oD (fun x_1=>x_1.push y);have hf:its.toArray.push y=(its++[y]).toArray:=by simp
    rw[hf]at q;have keepO:∀b o,b≠D->s8.heap.get? b=some o->(s8.heap.update D (Obj.mapSeq fun x_1=>x_1.push y)).get? b=some o:=fun b o hb e=>(y8 s8.heap (Obj.mapSeq fun x_1=>x_1.push y) (Z8 hb)).trans e;have I9:Inv (aD X scope (own++capN) C s2 H2 fp) [] σ6 H8 { s8 with heap:=s8.heap.update D (Obj.mapSeq fun x_1=>x_1.push y),toks:=s8.toks } :=
     (I8.pins_of (pins':=[]) fun p hp=>absurd hp (by simp)).turned (it:=D) keepO nD hDC (.inr hDle) Dcell (fun p hp=>absurd (show p∈([]:List (Addr×Obj))from hp) (by simp))
    refine⟨m',hm,i+1,ys++[yv],its++[y],_,H8,wk (pinD I9 q nD),T.keep _ _ _ st5 (fun b hb o e=>keepO b o (Z8 (hDfp b hb)) (t1 b hb o e)),t2,rv.append (.cons r8 .nil),?_,w8⟩;rw[Zo,Ye];omega
 exact codeAny_compStart_list (loop _ rfl) (T.self _ 0 _ _ _ (T.keep _ _ _ st2 (fun b hb o e=>old b o e)) (loop _ rfl))
theorem yr{wi:TI}(O:CompOk X scope cap capN)(hc:X.calm=true)(hi:PI X tg iter wi)(hg:∀C s0 H0 ex,PG (aD X scope (own++capN) C s0 H0 ex) tg g)(gk:GK own.length g)(ht:∀C s0 H0 ex,jV (aD X scope (own++capN) C s0 H0 ex) ifs tc)(he:∀C s0 H0 ex,PE (aD X scope (own++capN) C s0 H0 ex) elt te)(hs:∀x,foldedSetIterable iter X.env x=pure x:=by intro _;rfl):PE X (.ListComp elt [⟨tg,iter,ifs,0⟩] scope pos) (mh own.length cap wi g tc te):=by intro pins s σ H Q I h;rw[eval_ListComp];refine wpAny_comprehension_free (use:=none) rfl hs (O.clos I.ok) O.kind O.names (thn (hi pins s σ H _ I h) fun v s1 h1=>thn h1 fun itv s2 h2=>?_);obtain⟨it,fp,tn,J,H2,e,I2,T,st2,f2,hq⟩:=h2;subst e;refine ld (RR:=fun acc C=>compPost (model X.prog X.w) X.A X.xe none (EP X pins σ Q) acc C) O hc hg gk ht he I2 T st2 f2 hq fun D C s4 H4 ys J4 hn4 fC q4=>?_;obtain⟨m,hn⟩:=hn4;obtain⟨f0,f1,g2,f3,f4,f5⟩:=fC;exact⟨m,hn,fun h' sb=>⟨.ref D,_,J4.turned (t':=s4.toks) (fun b o hb e=>(sb.2 b hb).trans e) f0 f1 f3 f4 f5,rfl,q4⟩⟩
theorem yI{wi:TI}{j:Nat}{y:Str}{py spos:Pos}(hN0:X.N.Nodup)(hj:X.N[j]?=some y)(hy:Loc X.env.scope y)(O:CompOk X scope cap capN)(hc:X.calm=true)(hi:PI X tg iter wi)(hg:∀C s0 H0 ex,PG (aD X scope (own++capN) C s0 H0 ex) tg g)(gk:GK own.length g)(ht:∀C s0 H0 ex,jV (aD X scope (own++capN) C s0 H0 ex) ifs tc)(he:∀C s0 H0 ex,PE (aD X scope (own++capN) C s0 H0 ex) elt te)(hsw:swapsWith (.ListComp elt [⟨tg,iter,ifs,0⟩] scope pos) (some (.Name y py)) spos.line X.env=pure true:=by rfl)(hs:∀x,foldedSetIterable iter X.env x=pure x:=by intro _;rfl)(hf:X.fn y=true\/X.env.scope.names.lookup y=some .local:=by first|exact .inl rfl|exact .inr rfl|assumption) :
  PS X (.Assign [.Name y py] (.ListComp elt [⟨tg,iter,ifs,0⟩] scope pos) spos) (kQ (mh own.length cap wi g tc te) (br j)):=by
 intro pins s σ H D0 I h;rw[exec_Assign_Name_used _ _ _ _ hsw];refine Za (wpAny_standAt (Za ?_));show wpAny _ X.A (do let _ ←comprehension (.ListComp elt [⟨tg,iter,ifs,0⟩] scope pos) scope X.env _ (newList []) false (eval iter X.env) (some (assign (.Name y py) X.env))) _ _ s;refine Za (ZG (wpAny_comprehension_free (use:=some (assign (.Name y py) X.env)) (Q:=fun _ s'=>SP X pins D0 .next s') rfl hs (O.clos I.ok) O.kind O.names (thn (hi pins s σ H _ I h) fun v s1 h1=>thn h1 fun itv s2 h2=>?_)) (fun _ s' hq=>Zd (Zd hq)) fun _ _ e=>e);obtain⟨it,fp,tn,J,H2,e,I2,T,st2,f2,hq⟩:=h2;subst e;refine ld (RR:=fun acc C=>compPost (model X.prog X.w) X.A X.xe (some (assign (.Name y py) X.env)) (fun _ s'=>SP X pins D0 .next s') acc C) O hc hg gk ht he I2 T st2 f2 hq fun D C s4 H4 ys J4 hn4 fC q4=>?_;obtain⟨m,hn⟩:=hn4;obtain⟨f0,f1,g2,f3,f4,f5⟩:=fC;show wpAny _ X.A (assign (.Name y py) X.env (.ref D)) _ _ _;refine wpAny_assign_Name (lC J4 hN0 hj hy (v:=.ref D) rfl (fun s5 I5 ⟨a,sba,ha⟩=>?_) hf);have hCa:C≠a:=by
  rcases ha with z|z
  ·rw[z];exact f1
  ·exact Z8 (f4 _ _ z)
 refine⟨m,hn.sameBut sba hCa,fun h' sb=>?_⟩;exact⟨_,_,I5.turned (t':=s5.toks) (fun b o hb e=>(sb.2 b hb).trans e) f0 f1 f3 f4 f5,q4⟩
end
open PySem PySem.Spec PyProof.Rows
structure Fn(P:Program)(w:World)(K:PySem.W.Frag)(mg:Str->Option Value)(base:Heap)(k:Nat)(x:Str)(ps:List Str)(sp:Sp):Prop where
 ex:∃f fd,FnOk P w K mg base CX0 k f fd ps sp/\mg x=some (.ref f)/\PySem.W.keepIn K (.ref f)=true/\Binds K fd ps []
section
variable{X:Cx}{k:Nat}{x:Str}{p pos:Pos}{e:Expr}{es:List Expr}{ps:List Str}{sp:Sp}{t:TA}
theorem Cy(F:Fn X.prog X.w X.K X.mg X.base k x ps sp)(hr:Room k X.A)(ha:PA X (e::es) t)(hg:Gl X x:=by rfl)(hdb:(x==("__debug__":Str))=false:=by decide)(he:starEach (e::es) X.env=(false,eval e X.env)::starEach es X.env:=by rfl)(hpl:(backTo pos (starEach es X.env)).any (·.1)=false:=by rfl) :
  PE X (.Call (.Name x p) (e::es) [] pos) (mf sp [] E0 t):=by
 obtain⟨f,fd,G,m,kp,b⟩:=F.ex;exact yp G hr hg m kp b .nil jJ ha hdb he hpl
end
theorem uN:bootBuiltins "max" = some (.builtin "max"):=by decide +kernel
theorem uM:bootBuiltins "int" = some (.type "int"):=by decide +kernel
theorem qk:bootBuiltins "tuple" = some (.type "tuple"):=by decide +kernel
theorem kZ:bootBuiltins "list" = some (.type "list"):=by decide +kernel
theorem ae{H:Hp}{p:Addr}(h:H p=none)(o:HO):Same H (upd H p o):=fun b u q=>by rw[af (al q h)];exact q
theorem dA{n:Nat}(h:n<=1000):n<=sizeLine:=Nat.le_of_lt (aP h)
theorem sz{n:Nat}(h:Nat.ble n 1000=true):n<=sizeLine:=dA (Nat.le_of_ble_eq_true h)
theorem rS{J:It}{N n:Nat}{cap:List Nat}{te:TE}{σ:St}{H0:Hp}{Q:VK}(x0 f:Nat->V)(hz:N<=1000)(hgo:∀i H,i<N->Same H0 H->J.go i H)(hst:∀H,Same H0 H->J.stop N H)(hy:∀i H x H',i<N->Same H0 H->J.yld i H x H'->H'=H/\x=x0 i)(he:∀i H,i<N->Same H0 H->∀R:VK,(∀H',Same H H'->R (f i) H')->te ((bx n cap σ).set 0 (some (x0 i))) H R)(hq:∀p H,Same H0 H->H p=none->Q (.ref p) (upd H p (.lst ((List.range N).map f)))):eJ n cap (br 0) iq te σ J H0 Q:=by
 refine⟨fun i m ys H=>m=N-i/\i<=N/\Same H0 H/\ys=(List.range i).map f,⟨N,by simp,ZP _,Same.refl _,rfl⟩,?_⟩;rintro i m ys H ⟨rfl,hi,sm,rfl⟩;by_cases hlt:i<N
 ·refine .inr ⟨hgo i H hlt sm,?_,fun x H' y=>?_⟩
  ·rw[Zh,ZZ];exact aP (by omega)
  ·obtain⟨e1,e2⟩:=hy i H x H' hlt sm y;subst e1 e2;refine he i H' hlt sm _ fun H4 sm4=>⟨N-(i+1),by omega,rfl,hlt,sm.trans sm4,?_⟩
   rw[List.range_succ,ZU];rfl
 ·have e:i=N:=by omega
  subst e;exact .inl ⟨hst H sm,fun p hp=>hq p H sm hp⟩
theorem qr{N n:Nat}{lo:Int}{cap:List Nat}{te:TE}{σ:St}{H0:Hp}{Q:VK}(f:Nat->V)(hz:N<=1000)(he:∀i H,i<N->Same H0 H->∀R:VK,(∀H',Same H H'->R (f i) H')->te ((bx n cap σ).set 0 (some (.int (lo+i)))) H R)(hq:∀p H,Same H0 H->H p=none->Q (.ref p) (upd H p (.lst ((List.range N).map f)))):eJ n cap (br 0) iq te σ (Itr lo N) H0 Q :=
 rS (N:=N) (fun i=>.int (lo+i)) f hz (fun _ _ hi _=>hi) (fun _ _=>Ze N) (fun _ _ _ _ _ _ y=>y) he hq
open PySem PySem.Spec PyProof.Rows
def aJ:Expr->Bool
 |.Starred _ _=>false
 |_=>true
theorem aQ{e:Expr}{es:List Expr}{env:Env}(h:aJ e=true):starEach (e::es) env=(false,eval e env)::starEach es env:=by cases e<;>first|rfl|cases h
theorem aW{env:Env}{pos:Pos}:∀{es:List Expr},es.all aJ=true->(backTo pos (starEach es env)).any (·.1)=false
 | [],_=>rfl
 |e::es,h=>by rw[YJ,ZB]at h;rw[aQ h.1];show(false ||(backTo pos (starEach es env)).any (·.1))=false;rw[Bool.false_or];exact aW h.2
section
variable{X:Cx}{x:Str}{p pos:Pos}{e:Expr}{es:List Expr}{te:TE}{t:TA}{id T:String}{r:List V->Hp->VK->Prop}{k:Nat}{ps:List Str}{sp:Sp}
theorem pa(ha:PE X e te)(hr:PA X es t)(hs:aJ e=true:=by rfl):PA X (e::es) (ip te t):=yn ha hr (aQ hs)
theorem pB(hc:cE X (.builtin id) r)(hm:X.mg x=none)(hv:bootBuiltins x=some (.builtin id))(ha:PA X (e::es) t)(hg:Gl X x:=by rfl)(hs:(e::es).all aJ=true:=by rfl)(hn:x≠"__name__":=by decide)(hdb:(x==("__debug__":Str))=false:=by decide) :
  PE X (.Call (.Name x p) (e::es) [] pos) (tCB r t):=by
 rw[YJ,ZB]at hs;exact vD hc hg hm hv ha hn hdb (aQ hs.1) (aW hs.2)
theorem pTy(hc:cE X (.type T) r)(hm:X.mg x=none)(hv:bootBuiltins x=some (.type T))(ha:PA X (e::es) t)(hg:Gl X x:=by rfl)(hs:(e::es).all aJ=true:=by rfl)(hn:x≠"__name__":=by decide)(hdb:(x==("__debug__":Str))=false:=by decide) :
  PE X (.Call (.Name x p) (e::es) [] pos) (tCB r t):=by
 rw[YJ,ZB]at hs;exact tj hc hg hm hv ha hn hdb (aQ hs.1) (aW hs.2)
theorem pfn(F:Fn X.prog X.w X.K X.mg X.base k x ps sp)(hr:Room k X.A)(ha:PA X (e::es) t)(hg:Gl X x:=by rfl)(hs:(e::es).all aJ=true:=by rfl)(hdb:(x==("__debug__":Str))=false:=by decide) :
  PE X (.Call (.Name x p) (e::es) [] pos) (mf sp [] E0 t):=by
 rw[YJ,ZB]at hs;exact Cy F hr ha hg hdb (aQ hs.1) (aW hs.2)
end
open PySem PySem.Spec PyProof.Rows
structure QE(X:Cx)(e:Expr)(t:TE):Prop where
 h:PE X e t
structure QT(X:Cx)(e:Expr)(t:TT):Prop where
 h:PT X e t
structure QW(X:Cx)(e:Expr)(t:TT):Prop where
 h:PW X e t
structure QA(X:Cx)(es:List Expr)(t:TA):Prop where
 h:PA X es t
structure QS(X:Cx)(st:Stmt)(t:TS):Prop where
 h:PS X st t
structure QB(X:Cx)(st:List Stmt)(t:TS):Prop where
 h:PSs X st t
structure QG(X:Cx)(tg:Expr)(g:TG):Prop where
 h:PG X tg g
structure QGs(X:Cx)(ts:List Expr)(g:TGs):Prop where
 h:PGs X ts g
structure QI(X:Cx)(tg iter:Expr)(wi:TI):Prop where
 h:PI X tg iter wi
structure QIf(X:Cx)(ifs:List Expr)(t:TT):Prop where
 h:jV X ifs t
structure QO(X:Cx)(e:Option Expr)(t:TO):Prop where
 h:PO X e t
structure QOp(X:Cx)(f:Value->Value->Sem Value)(r:R2):Prop where
 h:OpR X f r
structure QCall(X:Cx)(f:Value)(r:List V->Hp->VK->Prop):Prop where
 h:cE X f r
structure QIx(X:Cx)(r:R2):Prop where
 h:IxR X r
structure QSl(X:Cx)(r:V->Option Int->Option Int->Hp->VK->Prop):Prop where
 h:SlR X r
structure QSet(X:Cx)(t:mC):Prop where
 h:uH X t
structure QUn(X:Cx)(f:Value->Sem Value)(r:V->Hp->VK->Prop):Prop where
 h:UnR X f r
structure QIp(X:Cx)(op:Operator)(t:TIp):Prop where
 h:PIp X op t
section
variable{X:Cx}{pos p:Pos}{e a b c o:Expr}{es rest:List Expr}{te ta tb tc:TE}{t:TA}{tA tB':TT}{x:Str}
theorem q_v(i:Nat){x:Str}{pos:Pos}(hN:X.N[i]?=some x:=by rfl)(hv:Vis X.env.scope x:=by first|exact Or.inl rfl|exact Or.inr (Or.inl rfl)|exact Or.inr (Or.inr rfl))(hd:(x==("__debug__":Str))=false:=by decide)(hcd:(x==("__classdict__":Str))=false:=by decide):QE X (.Name x pos) (rB i):=⟨A9 hN hv hd hcd⟩
theorem ag{i:Int}{j:Nat}:QE X (.Constant (.int i) j pos) (tC (.int i)):=⟨AV⟩
theorem kC{i:Bool}{j:Nat}:QE X (.Constant (.bool i) j pos) (tC (.bl i)):=⟨Cv⟩
theorem bz{j:Nat}:QE X (.Constant .none j pos) (tC .non):=⟨AX⟩
theorem aw{i:Str}{j:Nat}:QE X (.Constant (.str i) j pos) (tC (.str i)):=⟨A0⟩
theorem Bs{i:Int}{tk:Tok}(hm:X.mg x=some (.int i tk))(hg:Gl X x:=by rfl)(hd:(x==("__debug__":Str))=false:=by decide):QE X (.Name x pos) (tC (.int i)):=⟨kB hg hm ⟨_,rfl⟩ hd⟩
theorem ay{op:Operator}{r:R2}(ho:QOp X (binaryOp op) r)(ha:QE X a ta)(hb:QE X b tb):QE X (.BinOp a op b pos) (tOp r ta tb):=⟨CA ho.h ha.h hb.h⟩
theorem rf{op}(h:QE X a ta):QE X (.BoolOp op [a] pos) ta:=⟨AZ h.h⟩
theorem md(ha:QE X a ta)(hb:QE X (.BoolOp .And (b::rest) pos) tb):QE X (.BoolOp .And (a::b::rest) pos) (xq ta tb):=⟨AR ha.h hb.h⟩
theorem CF(ha:QE X a ta):QE X (.UnaryOp .Not a pos) (xy ta):=⟨AY ha.h⟩
theorem eT{op:CmpOp}{r:R2}(ho:QOp X (compareOp op) r)(ha:QE X a ta)(hb:QE X b tb)(hm:behindInMarks op b=false:=by first|exact sJ _|with_unfolding_all rfl):QE X (.Compare a [op] [b] pos) (tOp r ta tb):=⟨yq ho.h ha.h hb.h hm⟩
theorem vR(hc:QT X c tA)(ha:QE X a ta)(hb:QE X b tb):QE X (.IfExp c a b pos) (tIf tA ta tb):=⟨vF hc.h ha.h hb.h⟩
theorem eV(h:QA X es t):QE X (.List es pos) (BQ t):=⟨AW h.h⟩
theorem aA{x1}(h:QA X es t):QE X (.Tuple es x1 pos) (BV t):=⟨A8 h.h⟩
theorem ao{r:R2}(hr:QIx X r)(ha:QE X a ta)(hb:QE X b tb)(hs:oM b:=by intro _ _;rfl):QE X (.Subscript a b pos) (tOp r ta tb):=⟨Cz hr.h ha.h hb.h hs⟩
theorem dY{r:V->Option Int->Option Int->Hp->VK->Prop}{lo hi:Option Expr}{tl th:TO}{p2:Pos}(hr:QSl X r)(he:QE X e te)(hl:QO X lo tl)(hu:QO X hi th):QE X (.Subscript e (.Slice lo hi none p2) pos) (tSl r te tl th):=⟨vH hr.h he.h hl.h hu.h⟩
theorem fe:QO X none pS:=⟨yE⟩
theorem dF(h:QE X e te):QO X (some e) (xz te):=⟨yF h.h⟩
theorem ah:QA X [] jh:=⟨sV⟩
theorem q_a(ha:QE X e te)(hr:QA X es t)(hs:aJ e=true:=by rfl):QA X (e::es) (ip te t):=⟨pa ha.h hr.h hs⟩
theorem q_B{id:String}{r:List V->Hp->VK->Prop}(hc:QCall X (.builtin id) r)(hm:X.mg x=none)(hv:bootBuiltins x=some (.builtin id))(ha:QA X (e::es) t)(hg:Gl X x:=by rfl)(hs:(e::es).all aJ=true:=by rfl)(hn:x≠"__name__":=by decide)(hdb:(x==("__debug__":Str))=false:=by decide) :
  QE X (.Call (.Name x p) (e::es) [] pos) (tCB r t):=⟨pB hc.h hm hv ha.h hg hs hn hdb⟩
theorem re{T:String}{r:List V->Hp->VK->Prop}(hc:QCall X (.type T) r)(hm:X.mg x=none)(hv:bootBuiltins x=some (.type T))(ha:QA X (e::es) t)(hg:Gl X x:=by rfl)(hs:(e::es).all aJ=true:=by rfl)(hn:x≠"__name__":=by decide)(hdb:(x==("__debug__":Str))=false:=by decide) :
  QE X (.Call (.Name x p) (e::es) [] pos) (tCB r t):=⟨pTy hc.h hm hv ha.h hg hs hn hdb⟩
theorem aU{k:Nat}{ps:List Str}{sp:Sp}(F:Fn X.prog X.w X.K X.mg X.base k x ps sp)(hr:Room k X.A)(ha:QA X (e::es) t)(hg:Gl X x:=by rfl)(hs:(e::es).all aJ=true:=by rfl)(hdb:(x==("__debug__":Str))=false:=by decide) :
  QE X (.Call (.Name x p) (e::es) [] pos) (mf sp [] E0 t):=⟨pfn F hr ha.h hg hs hdb⟩
theorem aI{op:CmpOp}{r:R2}(ho:QOp X (compareOp op) r)(ha:QE X a ta)(hb:QE X b tb)(hm:behindInMarks op b=false:=by first|exact sJ _|with_unfolding_all rfl):QT X (.Compare a [op] [b] pos) (xA (tOp r ta tb)):=⟨yL ho.h ha.h hb.h hm⟩
theorem xB(ha:QT X a tA):QT X (.UnaryOp .Not a pos) (BS tA):=⟨Bo ha.h⟩
theorem cP(h:QE X e te)(he:∀whole,isTrue e X.env whole=(do let v ←whole;standAt e.pos;holding [v] (truthy v)):=by intro _;rfl):QT X e (tB te):=⟨Bp h.h he⟩
theorem dB(ha:QT X a tA):QW X (.BoolOp .And [a] pos) tA:=⟨yM ha.h⟩
theorem CQ(ha:QT X a tA):QW X (.BoolOp .Or [a] pos) tA:=⟨Br ha.h⟩
theorem dk(ha:QT X a tA)(hb:QW X (.BoolOp .And (b::rest) pos) tB'):QW X (.BoolOp .And (a::b::rest) pos) (BM tA tB'):=⟨Bq ha.h hb.h⟩
theorem Dc(ha:QT X a tA)(hb:QW X (.BoolOp .Or (b::rest) pos) tB'):QW X (.BoolOp .Or (a::b::rest) pos) (tOr tA tB'):=⟨CD ha.h hb.h⟩
theorem t_w(h:QW X e tA):QT X e tA:=⟨h.h.pt⟩
end
section
variable{X:Cx}{pos:Pos}{tg iter elt:Expr}{ifs:List Expr}{g:TG}{gs:TGs}{tc:TT}{te:TE}{scope:Scope}{cap:List Nat}{capN own:List Str}{wi:TI}
theorem aM{i:Nat}{x:Str}(hN:X.N.Nodup)(hi:X.N[i]?=some x:=by rfl)(hx:Loc X.env.scope x:=by first|exact Or.inl rfl|exact Or.inr rfl)(hf:X.fn x=true\/X.env.scope.names.lookup x=some .local:=by first|exact .inl rfl|exact .inr rfl):QG X (.Name x pos) (br i):=⟨yw hN hi hx hf⟩
theorem ki:QGs X [] iQ:=⟨yx⟩
theorem cJ{e:Expr}{es:List Expr}(h1:QG X e g)(h2:QGs X es gs)(hs:(assignEach (e::es) X.env).map (·.2)=assign e X.env::(assignEach es X.env).map (·.2):=by rfl):QGs X (e::es) (di g gs):=⟨vI h1.h h2.h hs⟩
theorem jr{es:List Expr}{k n:Nat}(hc:X.calm=true)(h:QGs X es gs)(hn:(assignEach es X.env).length=n:=by rfl)(hst:(assignEach es X.env).findIdx? (·.1)=none:=by rfl):QG X (.Tuple es k pos) (iR X.K n gs):=⟨Bb hc h.h hn hst⟩
theorem wM{o i:Expr}{to ti:TE}{t:mC}(ho:QE X o to)(hi:QE X i ti)(hs:QSet X t)(ha:∀ v,assign (.Subscript o i pos) X.env v=(do
   let ov ←holding [v] (eval o X.env)
   let iv ←holding [v,ov] (eval i X.env)
   standAt pos
   holding [v,ov,iv] (setItem ov iv v)
   release [v,ov,iv] []):=by intro _;rfl):QG X (.Subscript o i pos) (zW to ti t):=⟨Ba ho.h hi.h hs.h ha⟩
theorem dW{l:Expr}(hl:QE X l te):QI X tg l (wO X.K te):=⟨yz hl.h⟩
theorem ju{a:Expr}{ta:TA}{p:Pos}(hm:X.mg "range" = none)(ha:QA X [a] ta)(hg:Gl X "range":=by rfl)(hs:aJ a=true:=by rfl):QI X tg (.Call (.Name "range" p) [a] [] pos) (wP ta):=⟨tm hg hm ha.h (aQ hs)⟩
theorem qG:QIf X [] iq:=⟨vK⟩
theorem Ag{c:Expr}{t:TT}(h:QT X c t):QIf X [c] t:=⟨vL h.h⟩
theorem gJ(O:CompOk X scope cap capN)(hc:X.calm=true)(hi:QI X tg iter wi)(hg:∀C s0 H0 ex,QG (aD X scope (own++capN) C s0 H0 ex) tg g)(gk:GK own.length g)(ht:∀C s0 H0 ex,QIf (aD X scope (own++capN) C s0 H0 ex) ifs tc)(he:∀C s0 H0 ex,QE (aD X scope (own++capN) C s0 H0 ex) elt te)(hs:∀x,foldedSetIterable iter X.env x=pure x:=by intro _;rfl):QE X (.ListComp elt [⟨tg,iter,ifs,0⟩] scope pos) (mh own.length cap wi g tc te) :=
 ⟨yr O hc hi.h (fun C s0 H0 ex=>(hg C s0 H0 ex).h) gk (fun C s0 H0 ex=>(ht C s0 H0 ex).h) (fun C s0 H0 ex=>(he C s0 H0 ex).h) hs⟩
variable{st:Stmt}{rest:List Stmt}{t u:TS}{e c:Expr}
theorem b_0:QB X [] xx:=⟨yJ⟩
theorem b_1(h:QS X st t):QB X [st] t:=⟨yK h.h⟩
theorem b_c(h1:QS X st t)(h2:QB X rest u):QB X (st::rest) (wm t u):=⟨vO h1.h h2.h⟩
theorem aF(h:QE X e te):QS X (.Return (some e) pos) (BT te):=⟨Bm h.h⟩
theorem bH(h:QE X e te)(hs:swapsWith e none pos.line X.env=pure false:=by rfl):QS X (.Expr e pos) (xu te):=⟨yH h.h hs⟩
theorem bf{body els:List Stmt}(hc:QT X c tc)(ht:QB X body t)(hu:QB X els u):QS X (.If c body els pos) (BP tc t u):=⟨CC hc.h ht.h hu.h⟩
theorem au{i:Nat}{x:Str}{pos':Pos}(hN:X.N.Nodup)(he:QE X e te)(hi:X.N[i]?=some x:=by rfl)(hx:Loc X.env.scope x:=by first|exact Or.inl rfl|exact Or.inr rfl)(hs:swapsWith e (some (.Name x pos')) pos.line X.env=pure false:=by rfl)(hf:X.fn x=true\/X.env.scope.names.lookup x=some .local:=by first|exact .inl rfl|exact .inr rfl):QS X (.Assign [.Name x pos'] e pos) (kQ te (br i)):=⟨Bn hN hi hx he.h hs hf⟩
theorem BG{j:Nat}{y:Str}{py spos:Pos}(hN0:X.N.Nodup)(O:CompOk X scope cap capN)(hc:X.calm=true)(hi:QI X tg iter wi)(hg:∀C s0 H0 ex,QG (aD X scope (own++capN) C s0 H0 ex) tg g)(gk:GK own.length g)(ht:∀C s0 H0 ex,QIf (aD X scope (own++capN) C s0 H0 ex) ifs tc)(he:∀C s0 H0 ex,QE (aD X scope (own++capN) C s0 H0 ex) elt te)(hj:X.N[j]?=some y:=by rfl)(hy:Loc X.env.scope y:=by first|exact Or.inl rfl|exact Or.inr rfl)(hsw:swapsWith (.ListComp elt [⟨tg,iter,ifs,0⟩] scope pos) (some (.Name y py)) spos.line X.env=pure true:=by rfl)(hs:∀x,foldedSetIterable iter X.env x=pure x:=by intro _;rfl)(hf:X.fn y=true\/X.env.scope.names.lookup y=some .local:=by first|exact .inl rfl|exact .inr rfl) :
  QS X (.Assign [.Name y py] (.ListComp elt [⟨tg,iter,ifs,0⟩] scope pos) spos) (kQ (mh own.length cap wi g tc te) (br j)) :=
 ⟨yI hN0 hj hy O hc hi.h (fun C s0 H0 ex=>(hg C s0 H0 ex).h) gk (fun C s0 H0 ex=>(ht C s0 H0 ex).h) (fun C s0 H0 ex=>(he C s0 H0 ex).h) hsw hs hf⟩
theorem xl(he:QE X e te)(hg:QG X tg g)(hs:swapsWithSole [tg] e pos.line X.env=pure false:=by rfl)(hw:swappedStores [tg] e X.env=pure none:=by rfl)(h1:(assignEach [tg] X.env).map (·.2)=[assign tg X.env]:=by rfl):QS X (.Assign [tg] e pos) (kQ te g):=⟨Bj he.h hg.h hs hw h1⟩
theorem dO{body:List Stmt}(hp:PassesOwn (model X.prog X.w) X.A X.env X.xe)(hc:X.calm=true)(hi:QI X tg iter wi)(hg:QG X tg g)(hb:QB X body t)(hs:∀x,foldedSetIterable iter X.env x=pure x:=by intro _;rfl):QS X (.For tg iter body [] pos) (BO wi g t):=⟨Bl hp hc hi.h hg.h hb.h hs⟩
theorem kJ{body:List Stmt}(hp:PassesOwn (model X.prog X.w) X.A X.env X.xe)(hc:QT X c tc)(hb:QB X body t):QS X (.While c body [] pos) (uh tc t):=⟨vN hp hc.h hb.h⟩
end
theorem Fun.okQ{P:Program}{w:World}{K:PySem.W.Frag}{mg:Str->Option Value}{base:Heap}{x qual:Str}{st:Stmt}{f:Addr}{fd:FuncData}{N ps:List Str}{k:Nat}{sp:Sp}(F:Fun K x qual st f fd)(S:FnScope N ps (aj st))(len:∀ vs H Q E,sp vs H Q E->vs.length=ps.length)(hbody:∀ (cdv:Value) (A:Around) (outer:List Env) (s:Shared) (H:Hp) (vs:List V) (Q:VK) (E:XK),Room k (A.deeper (envOfC qual (aj st) s.heap.objs.size f cdv))->sp vs H Q E ->
   ∃ t,QB (dD CX0 P w K mg base N qual (aj st) f cdv A outer s H E).nox (aY st) t/\t { nx:=fun _ H'=>Q .non H',rt:=Q } (start N vs) H):FnOk P w K mg base CX0 (k+1) f fd ps sp :=
 F.ok S len fun cdv A outer s H vs Q E hr hsp=>let⟨t,h,q⟩:=hbody cdv A outer s H vs Q E hr hsp;⟨t,h.h,q⟩
section
variable{X:Cx}
theorem cv:QOp X (binaryOp .Add) (rI0 fun i j=>.int (i+j)):=⟨AE⟩
theorem qR:QOp X (binaryOp .Sub) (rI0 fun i j=>.int (i-j)):=⟨AO⟩
theorem ie:QOp X (binaryOp .Mult) (rI CMul fun i j=>.int (i*j)):=⟨AK⟩
theorem fj:QOp X (binaryOp .FloorDiv) (rI zE fun i j=>.int (i / j)):=⟨yi⟩
theorem dj:QOp X (binaryOp .Mod) (rI (fun _ j=>0<j) fun i j=>.int (i%j)):=⟨AJ⟩
theorem Co:QOp X (binaryOp .Add) Bu:=⟨AG⟩
theorem cg:QOp X (compareOp .Eq) rEq:=⟨Cs⟩
theorem Ay:QOp X (compareOp .Lt) (rI0 fun i j=>.bl (decide (i<j))):=⟨Cu⟩
theorem qP:QOp X (compareOp .Gt) (rI0 fun i j=>.bl (decide (j<i))):=⟨Ct⟩
theorem du:QOp X (compareOp .IsNot) (fun x y H Q=>y=.non/\Q (.bl (!decide (x=.non))) H):=⟨yj⟩
theorem bZ:QIx X (vT X.K):=⟨ya⟩
theorem am:QIx X (nC X.K):=⟨Ah⟩
theorem sC:QSl X (BB X.K):=⟨yU⟩
theorem xo:QSet X xh:=⟨wb⟩
theorem wK:QCall X (.builtin "len") (fun xs H Q=>∃p ys,xs=[.ref p]/\(SqL X.K H p ys\/SqT X.K H p ys)/\Q (.int ys.length) H):=⟨mE⟩
theorem Cd(hc:X.calm=true):QCall X (.builtin "max") (fun xs H Q=>∃i j,xs=[.int i,.int j]/\Q (.int (if j>i then j else i)) H):=⟨rO hc⟩
theorem Ce:QCall X (.type "tuple") (fun xs H Q=>∃p ys,xs=[.ref p]/\((SqL X.K H p ys/\∀l,H l=none->Q (.ref l) (upd H l (.tup ys)))\/(SqT X.K H p ys/\Q (.ref p) H))):=⟨lN⟩
theorem rL:QCall X (.type "list") (fun xs H Q=>∃p ys,xs=[.ref p]/\(SqL X.K H p ys\/SqT X.K H p ys)/\∀l,H l=none->Q (.ref l) (upd H l (.lst ys))):=⟨mF⟩
theorem Cc:QCall X (.type "int") (fun xs H Q=>(∃i,xs=[.int i]/\Q (.int i) H)\/∃k,xs=[.bl k]/\Q (.int (if k then 1 else 0)) H):=⟨rM⟩
end
open PySem PySem.Spec PyProof.Rows
mutual
def Dt(H:Hp):PyData->V->Prop
 |.none,v=>v=.non
 |.bool b,v=>v=.bl b
 |.int i,v=>v=.int i
 |.str x,v=>v=.str x
 |.list ds,v=>∃a xs,v=.ref a/\Rd H a (.lst xs)/\DtAll H ds xs
 |.tuple ds,v=>∃a xs,v=.ref a/\Rd H a (.tup xs)/\DtAll H ds xs
 |.dict _,_=>False
def DtAll(H:Hp):List PyData->List V->Prop
 | [],xs=>xs=[]
 |d::ds,xs=>∃y ys,xs=y::ys/\Dt H d y/\DtAll H ds ys
end
section
variable{P:Program}{w:World}{H:Hp}{h:Heap}
mutual
theorem Dt.reads(ok:HOk P w H h):∀(d:PyData) (x:V) (v:Value),Dt H d x->RelV x v->∃as,Reads h v d as
 |.none,x,v,e,r=>by
  have e':x=.non:=by simpa only[Dt]using e
  subst e';cases r;exact⟨_,.none⟩
 |.bool b,x,v,e,r=>by
  have e':x=.bl b:=by simpa only[Dt]using e
  subst e';cases r;exact⟨_,.bool b⟩
 |.int i,x,v,e,r=>by
  have e':x=.int i:=by simpa only[Dt]using e
  subst e';obtain⟨t,rfl⟩:=r;exact⟨_,.int i t⟩
 |.str z,x,v,e,r=>by
  have e':x=.str z:=by simpa only[Dt]using e
  subst e';obtain⟨t,rfl⟩:=r;exact⟨_,.str z t⟩
 |.list ds,x,v,e,r=>by
  have e':∃a xs,x=.ref a/\Rd H a (.lst xs)/\DtAll H ds xs:=by simpa only[Dt]using e
  obtain⟨a,xs,rfl,hr,hd⟩:=e';cases r;obtain⟨_,its,n,rv,eo⟩:=hr.ok ok;obtain⟨as,q⟩:=DtAll.reads ok ds xs its hd rv;exact⟨_,.list eo rfl rfl (by simpa using q)⟩
 |.tuple ds,x,v,e,r=>by
  have e':∃a xs,x=.ref a/\Rd H a (.tup xs)/\DtAll H ds xs:=by simpa only[Dt]using e
  obtain⟨a,xs,rfl,hr,hd⟩:=e';cases r;obtain⟨_,its,rv,o,eo,hc,n,hs⟩:=hr.ok ok;obtain⟨as,q⟩:=DtAll.reads ok ds xs its hd rv;exact⟨_,.tuple eo hc hs (by simpa using q)⟩
 |.dict kvs,x,v,e,r=>by
  have e':False:=by simpa only[Dt]using e
  exact e'.elim
theorem DtAll.reads(ok:HOk P w H h):∀(ds:List PyData) (xs:List V) (vs:List Value),DtAll H ds xs->Vals xs vs->∃as,ReadsAll h vs ds as
 | [],xs,vs,e,r=>by
  have e':xs=[]:=by simpa only[DtAll]using e
  subst e';cases r;exact⟨_,.nil⟩
 |d::ds,xs,vs,e,r=>by
  have e':∃y ys,xs=y::ys/\Dt H d y/\DtAll H ds ys:=by simpa only[DtAll]using e
  obtain⟨y,ys,rfl,h1,h2⟩:=e';cases r with
  |cons r1 r2 =>obtain⟨as,q1⟩:=Dt.reads ok d y _ h1 r1;obtain⟨bs,q2⟩:=DtAll.reads ok ds ys _ h2 r2;exact⟨_,.cons q1 q2⟩
end
end
theorem oS{H:Hp}:∀(ns:List Int),DtAll H (ns.map PyData.int) (ns.map V.int)
 | []=>by simp only[List.map_nil,DtAll]
 |n::ns=>by simp only[Zz,DtAll];exact⟨_,_,rfl,by simp only[Dt],oS ns⟩
section
variable{X:Cx}
def Bv:R2:=fun x y H Q=>∃dx dy,Dt H dx x/\Dt H dy y/\SeqAt.shaped dx=true/\SeqAt.shaped dy=true/\Q (.bl (PyData.eqv dx dy)) H
def Bz:R2:=fun x y H Q=>∃dx dy,Dt H dx x/\Dt H dy y/\SeqAt.shaped dx=true/\SeqAt.shaped dy=true/\Q (.bl (!PyData.eqv dx dy)) H
theorem AH(hu:X.A.units+64<cLine):OpR X (compareOp .Eq) Bv:=by intro pins s σ H x y v u Q I rx ry h;obtain⟨dx,dy,h1,h2,s1,s2,q⟩:=h;obtain⟨as,r1⟩:=Dt.reads I.hok dx x v h1 rx;obtain⟨bs,r2⟩:=Dt.reads I.hok dy y u h2 ry;exact eq_dataH r1 r2 s1 s2 hu ⟨.bl _,H,I,rfl,q⟩
theorem sU(hu:X.A.units+64<cLine):OpR X (compareOp .NotEq) Bz:=by intro pins s σ H x y v u Q I rx ry h;obtain⟨dx,dy,h1,h2,s1,s2,q⟩:=h;obtain⟨as,r1⟩:=Dt.reads I.hok dx x v h1 rx;obtain⟨bs,r2⟩:=Dt.reads I.hok dy y u h2 ry;exact ne_dataH r1 r2 s1 s2 hu ⟨.bl _,H,I,rfl,q⟩
theorem Cp(hu:X.A.units+64<cLine):QOp X (compareOp .Eq) Bv:=⟨AH hu⟩
theorem wR(hu:X.A.units+64<cLine):QOp X (compareOp .NotEq) Bz:=⟨sU hu⟩
end
section
variable{X:Cx}
variable{o e:Expr}{to te:TE}{apos cpos:Pos}
theorem ik(ho:QE X o to)(he:QE X e te)(hs:aJ e=true:=by rfl)(hbase:attributeBase o "append" X.env (eval o X.env)=eval o X.env:=by rfl)(hline:(apos.endLine==cpos.line)=true:=by rfl) :
  QE X (.Call (.Attribute o "append" apos) [e] [] cpos) (tBM X.K "list" pA to (ip te jh)):=by
 have h1:=aQ (es:=[]) (env:=X.env) hs;have h2:starEach ([]:List Expr) X.env=[]:=rfl;refine⟨Cw PySem.F.plainAttrs_list PySem.F.slot_list_append PySem.F.type_list_append sI ho.h (pa he.h sV hs) hbase ?_ hline h1 (by rw[h2];rfl)⟩;rw[h1,h2];rfl
end
open PySem PySem.Spec PyProof.Rows
theorem aX{H H':Hp}{p:Addr}{o:HO}(e:Same H H')(h:H p=none):Same H (upd H' p o):=fun b u q=>by rw[af (al q h)];exact e _ _ q
def ai(ns:List Int)(k:Nat):Int:=(ns[k]?).getD 0
theorem fG{ns:List Int}{k:Int}(h0:0<=k)(h1:k<ns.length):atI (ns.map V.int) k=some (.int (ai ns k.toNat)):=by
 have hk:k.toNat<ns.length:=by omega
 have ek:k=((k.toNat:Nat):Int):=by omega
 have q:atI (ns.map V.int) ((k.toNat:Nat):Int)=some (.int ns[k.toNat]):=cS (by rw[Z6,Zf hk]<;>rfl);rw[<-ek]at q;rw[q];unfold ai;rw[Zf hk];rfl
theorem uP{ns:List Int}{k:Int}(h0:0<=k)(h1:¬k<ns.length):ai ns k.toNat=0:=by unfold ai;rw[List.getElem?_eq_none (by omega)];rfl
open PySem PySem.Spec PyProof.Rows
section
variable{prog:Program}{w:World}{A:Around}
theorem dh(calm:A.handled=none)(it t:Addr)(apart:t≠it)(xs:Array Value) :
  Draws prog w A it [it,t] xs.size (fun i v=>xs[i]?=some v) (fun i h=>h.IsTupleIter it t i/\h.IsTuple t xs) where
 live:=fun _ _ q=>let⟨o,eo,_⟩:=q.1;⟨o,eo⟩
 frame:=fun _ _ _ q kp=>⟨let⟨o,eo,r⟩:=q.1;⟨o,kp it (by simp) o eo,r⟩,let⟨o,eo,r⟩:=q.2;⟨o,kp t (by simp) o eo,r⟩⟩
 item:=fun i s Q E lt q cont=>by
  have ei:xs[i]?=some xs[i]:=by simp[lt]
  obtain⟨o,eo,ec,ed⟩:=id q.1;obtain⟨p,ep,_,np,edp⟩:=id q.2;have ty:=q.1.typeIs;unfold Builtin.SmallTypes.nextOf;refine Za (ZT (name:=Str.ofString "__next__") ty F.slot_tuple_iterator_next (y0 F.slot_tuple_iterator_next ty F.entry_tuple_iterator_next ?_ (F.args_tuple_iterator_next_1 _)));show wpAny _ _ (field (.ref it) 0 >>= _) _ _ s;refine Za (ZQ eo ed (x:=.ref t) rfl ?_);show wpAny _ _ (if(Value.ref t==Value.none)=true then _ else _) _ _ s;rw[if_neg (show¬((Value.ref t==Value.none)=true)from Zs)];show wpAny _ _ (field (.ref it) 1 >>= _) _ _ s;refine Za (ZQ eo ed (x:=.int i 0) rfl ?_);show wpAny _ _ (seqItems? (.ref t) >>= _) _ _ s;refine Za (wpAny_seqItems ep edp ?_);simp only[Int.toNat_natCast,ei];have sb:=Z5 s.heap it (fun ob=>ob.mapFields fun fs=>fs.setIfInBounds 1 (rawInt (i+1)));refine Za (YO eo ed (by simp) (Zd ⟨xs[i],rfl,Zd (cont _ _ s.toks ei ⟨?_,?_⟩ (Z5 ..))⟩))
  ·exact⟨_,Yn _ eo (Obj.isFreed_of_fields (Yf ed _)),(Obj.cls_mapFields ..).trans ec,by rw[Yf ed];simp[rawInt]⟩
  ·exact q.2.extBut (Z5 ..).extBut apart
 done:=fun s Q E q cont=>by
  have ei:xs[xs.size]?=none:=by simp
  obtain⟨o,eo,ec,ed⟩:=id q.1;obtain⟨p,ep,_,np,edp⟩:=id q.2;have ty:=q.1.typeIs;unfold Builtin.SmallTypes.nextOf;refine Za (ZT (name:=Str.ofString "__next__") ty F.slot_tuple_iterator_next (y0 F.slot_tuple_iterator_next ty F.entry_tuple_iterator_next ?_ (F.args_tuple_iterator_next_1 _)));show wpAny _ _ (field (.ref it) 0 >>= _) _ _ s;refine Za (ZQ eo ed (x:=.ref t) rfl ?_);show wpAny _ _ (if(Value.ref t==Value.none)=true then _ else _) _ _ s;rw[if_neg (show¬((Value.ref t==Value.none)=true)from Zs)];show wpAny _ _ (field (.ref it) 1 >>= _) _ _ s;refine Za (ZQ eo ed (x:=.int xs.size 0) rfl ?_);show wpAny _ _ (seqItems? (.ref t) >>= _) _ _ s;refine Za (wpAny_seqItems ep edp ?_);simp only[Int.toNat_natCast,ei];refine Za (YF (Za (YO eo ed (by simp) ?_)));show wpAny _ _ (newExc (.type "StopIteration") [] >>= _) _ _ _;refine Za ?_;simp only[newExc,newTuple];refine Za (ZY ?_ (by size_fits));refine Za (m:=firstArgMember _ _) (wpAny_of_eq (a:=Value.none) (by first|rfl|(simp only[firstArgMember];rfl)) (ZY ?_ (by size_fits)));simp only[raiseNew];refine Za (wpAny_handled ?_)
  first|rw[show A.in1.handled=none from calm]|rw[calm]
  exact Za (Zd (wpAny_throw (cont _ _ (((Z5 ..).extBut.push _).push _) ⟨_,Zr _ rfl,rfl⟩)))
end
structure ZAp(z u v i j:Addr)(f g:List Addr):Prop where
 uz:u≠z
 vz:v≠z
 uv:u≠v
 ui:u≠i
 uj:u≠j
 vi:v≠i
 vj:v≠j
 iz:i≠z
 jz:j≠z
 ij:i≠j
 zf:z∉f
 zg:z∉g
 vf:v∉f
 vg:v∉g
 jf:j∉f
 ig:i∉g
section
variable{prog:Program}{w:World}{A:Around}{E:Value->Shared->Prop}{s:Shared}{z u v i j:Addr}{f g:List Addr}{n m k:Nat}{P1 P2:Nat->Value->Prop}{S1 S2:Nat->Heap->Prop}{a b:Value}
def qi(z v i j:Addr)(h h':Heap):Prop:=∀c o,c≠z->c≠v->c≠i->c≠j->h.get? c=some o->h'.get? c=some o
theorem bV{c:Addr}{f:List Addr}{d:Addr}(hc:c∈f)(hd:d∉f):c≠d:=fun e=>hd (e▸hc)
theorem wG(d1:Draws prog w A i f n P1 S1)(d2:Draws prog w A j g m P2 S2)(ap:ZAp z u v i j f g)(hz:IsZip s.heap z u v .none)(hu:IsPair s.heap u (.ref i) (.ref j))(hv:IsPair s.heap v a b)(h1:S1 k s.heap)(h2:S2 k s.heap)(l1:k<n)(l2:k<m){Q:Value->Shared->Prop}(cont:∀h' tk x y,P1 k x->P2 k y->IsZip h' z u v (rawInt s.heap.objs.size)->IsPair h' v x y->S1 (k+1) h'->S2 (k+1) h'->IsPair h' s.heap.objs.size x y->qi z v i j s.heap h'->Q (.ref s.heap.objs.size) { s with heap:=h',toks:=tk }) :
  wpAny (model prog w) A (Builtin.«zip.__next__» ⟨[.ref z],[]⟩) (fun fin s'=>∃r,fin=.done (.ret r)/\Q r s') E s:=by
 show wpAny _ _ (field (.ref z) 2 >>= _) _ _ _;refine Za (ZQ hz rfl (x:=.bool false) rfl ?_);show wpAny _ _ (field (.ref z) 3 >>= _) _ _ _;refine Za (ZQ hz rfl (x:=.ref u) rfl (Za (wpAny_seqItems hu rfl ?_)));show wpAny _ _ (Builtin.SmallTypes.ownedTupleIsFree (.ref z) >>= _) _ _ _;refine Za ?_;unfold Builtin.SmallTypes.ownedTupleIsFree;refine Za (ZQ hz rfl (x:=.none) rfl (Zd ?_));simp only[if_true];refine Za (YF (Za (ZQ hz rfl (x:=.ref v) rfl ?_)));refine Za (wpAny_setField_rec hz (by simp) fun q1 z1 b1=>?_)
 replace z1:IsZip q1 z u v .ellipsis:=z1
 refine Za ?_;simp only[List.zipIdx_cons,List.zipIdx_nil,List.forIn_cons,List.forIn_nil];refine Za (Za (wpAny_onRaise ?_));show wpAny _ _ (Builtin.SmallTypes.nextOf (.ref i) >>= _) _ _ _;refine Za (d1.item k { s with heap:=q1 } _ _ l1 (d1.frame _ _ _ h1 fun c hc o e=>b1.extBut c o (bV hc ap.zf) e) fun x q2 t2 px s2 b2=>Zd ?_);have v2:IsPair q2 v a b:=b2.extBut _ _ ap.vi (b1.extBut _ _ ap.vz hv);refine Za (wpAny_seqItems v2 rfl (Za (wpAny_updateSeq_pair v2 fun q3 w3 b3=>?_)))
 replace w3:IsPair q3 v x b:=w3
 refine Za (wpAny_letGo (Zd ?_));refine Za (Za (wpAny_onRaise ?_));show wpAny _ _ (Builtin.SmallTypes.nextOf (.ref j) >>= _) _ _ _;refine Za (d2.item k { s with heap:=q3,toks:=t2 } _ _ l2 (d2.frame _ _ _ h2 fun c hc o e=>b3.extBut c o (bV hc ap.vg) (b2.extBut c o (bV hc ap.ig) (b1.extBut c o (bV hc ap.zg) e))) fun y q4 t4 py s4 b4=>Zd ?_);have v4:IsPair q4 v x b:=b4.extBut _ _ ap.vj w3;refine Za (wpAny_seqItems v4 rfl (Za (wpAny_updateSeq_pair v4 fun q5 w5 b5=>?_)))
 replace w5:IsPair q5 v x y:=w5
 refine Za (wpAny_letGo (Zd (Zd (Za (wpAny_seqItems w5 rfl (Za (wpAny_newTuple ?_)))))));have sz:q5.objs.size=s.heap.objs.size:=by rw[b5.1,b4.1,b3.1,b2.1,b1.1]
 have z5:IsZip q5 z u v .ellipsis:=b5.extBut _ _ ap.vz.symm (b4.extBut _ _ ap.jz.symm (b3.extBut _ _ ap.vz.symm (b2.extBut _ _ ap.iz.symm z1)));have k5:qi z v i j s.heap q5:=fun c o c1 c2 c3 c4 e=>b5.extBut _ _ c2 (b4.extBut _ _ c4 (b3.extBut _ _ c2 (b2.extBut _ _ c3 (b1.extBut _ _ c1 e))));have s5:S1 (k+1) q5:=d1.frame _ _ _ s2 fun c hc o e=>b5.extBut c o (bV hc ap.vf) (b4.extBut c o (bV hc ap.jf) (b3.extBut c o (bV hc ap.vf) e));have r5:S2 (k+1) q5:=d2.frame _ _ _ s4 fun c hc o e=>b5.extBut c o (bV hc ap.vg) e;have zlt:z<q5.objs.size:=Zm z5;show wpAny _ _ (Builtin.SmallTypes.ownedTupleHandOut (.ref z) (.ref q5.objs.size) >>= _) _ _ _;refine Za ?_;unfold Builtin.SmallTypes.ownedTupleHandOut;refine Za (wpAny_setField_rec (show IsZip (q5.push { cls:=.type "tuple",data:=.seq #[x,y] }) z u v .ellipsis from Zb _ z5) (by simp) fun q7 z7 b7=>?_)
 replace z7:IsZip q7 z u v (rawInt q5.objs.size):=z7
 refine wpAny_setField_rec z7 (by simp) fun q8 z8 b8=>?_
 replace z8:IsZip q8 z u v (rawInt q5.objs.size):=z8
 have up:∀c o,c≠z->q5.get? c=some o->q8.get? c=some o:=fun c o c1 e=>b8.extBut _ _ c1 (b7.extBut _ _ c1 (Zb _ e));have p8:IsPair q8 q5.objs.size x y:=b8.extBut _ _ (Yh zlt) (b7.extBut _ _ (Yh zlt) (Zr _ rfl));rw[sz]at z8 p8;refine Zd ⟨_,rfl,?_⟩;show Q (.ref q5.objs.size) _;rw[sz];exact cont q8 _ x y px py z8 (up _ _ ap.vz w5) (d1.frame _ _ _ s5 fun c hc o e=>up c o (bV hc ap.zf) e) (d2.frame _ _ _ r5 fun c hc o e=>up c o (bV hc ap.zg) e) p8 fun c o c1 c2 c3 c4 e=>up c o c1 (k5 c o c1 c2 c3 c4 e)
theorem zA(d1:Draws prog w A i f n P1 S1)(d2:Draws prog w A j g m P2 S2)(ap:ZAp z u v i j f g)(hz:IsZip s.heap z u v .none)(hu:IsPair s.heap u (.ref i) (.ref j))(hv:IsPair s.heap v a b)(h1:S1 n s.heap){Q:Fin->Shared->Prop}(cont:∀h' e,qi z v i j s.heap h'->(∃o,h'.get? e=some o/\o.cls=.type "StopIteration")->E (.ref e) { s with heap:=h' }):wpAny (model prog w) A (Builtin.«zip.__next__» ⟨[.ref z],[]⟩) Q E s:=by
 show wpAny _ _ (field (.ref z) 2 >>= _) _ _ _;refine Za (ZQ hz rfl (x:=.bool false) rfl ?_);show wpAny _ _ (field (.ref z) 3 >>= _) _ _ _;refine Za (ZQ hz rfl (x:=.ref u) rfl (Za (wpAny_seqItems hu rfl ?_)));show wpAny _ _ (Builtin.SmallTypes.ownedTupleIsFree (.ref z) >>= _) _ _ _;refine Za ?_;unfold Builtin.SmallTypes.ownedTupleIsFree;refine Za (ZQ hz rfl (x:=.none) rfl (Zd ?_));simp only[if_true];refine Za (YF (Za (ZQ hz rfl (x:=.ref v) rfl ?_)));refine Za (wpAny_setField_rec hz (by simp) fun q1 z1 b1=>?_)
 replace z1:IsZip q1 z u v .ellipsis:=z1
 refine Za ?_;simp only[List.zipIdx_cons,List.zipIdx_nil,List.forIn_cons,List.forIn_nil];refine Za (Za (wpAny_onRaise ?_));show wpAny _ _ (Builtin.SmallTypes.nextOf (.ref i) >>= _) _ _ _;refine Za (d1.done { s with heap:=q1 } _ _ (d1.frame _ _ _ h1 fun c hc o e=>b1.extBut c o (bV hc ap.zf) e) fun q2 e b2 he=>?_);obtain⟨oe,hoe,hce⟩:=he;have z2:IsZip q2 z u v .ellipsis:=b2 _ _ ap.iz.symm z1;have ez:e≠z:=fun x=>by subst x;rw[z2]at hoe;cases hoe;simp at hce
 exact wpAny_setField_rec z2 (by simp) fun q3 _ b3=>cont q3 e (fun c o c1 _ c3 _ x=>b3.extBut _ _ c1 (b2 _ _ c3 (b1.extBut _ _ c1 x))) ⟨oe,b3.extBut _ _ ez hoe,hce⟩
end
section
variable{X:Cx}{pins:List (Addr×Obj)}{σ:St}{H:Hp}{s:Shared}{h':Heap}{ch:List Addr}{t':Nat}
theorem Inv.turnH{H':Hp}(I:Inv X pins σ H s)(hch:∀b∈ch,aV X pins H b)(kp:∀b o,b∉ch->s.heap.get? b=some o->h'.get? b=some o)(up:∀b u,H b=some u->H' b=some u)(dn:∀b o,s.heap.get? b=some o->H b=none->H' b=none)(hok:HOk X.prog X.w H' h') :
  Inv X pins σ H' { s with heap:=h',toks:=t' }:=by
 refine I.step (g':=s.gens) (d':=s.drawn) (ch:=ch) (fun b hb=>?_) (fun b o _ _ hc e _=>kp b o hc e) (fun b o _ _ hc e _=>⟨o.slots,kp b o hc e⟩) (fun b o _ e n=>dn b o e n) (fun b o hc e=>⟨o,kp b o hc e⟩) (fun b xs e=>up _ _ e) (fun b o u e=>up _ _ e) (fun b ps e=>⟨#[],by rw[up _ _ e];simp⟩) (fun m hm=>?_) hok I.bare
 ·obtain⟨f0,f1,f2,f3,f4,f5⟩:=hch b hb;exact⟨f3,f1,f4,f5⟩
 ·obtain⟨o,es,ep,ho,r⟩:=hm;exact⟨o,es,ep,kp _ o (fun z=>(hch _ z).2.1 rfl) ho,r⟩
theorem mS(I:Inv X pins σ H s)(hch:∀b∈ch,aV X pins H b)(kp:∀b o,b∉ch->s.heap.get? b=some o->h'.get? b=some o):HOk X.prog X.w H h':=fun b u e=>by
 have nin:∀{c:Addr} {q:HO},H c=some q->c∉ch:=fun{c q} e z=>by rw[(hch c z).1]at e;cases e
 refine(I.hok b u e).stay (fun c v hc q=>kp c v ?_ q) (fun _ q=>q) fun _ _ q=>q;rcases hc with z|z
 ·rw[z];exact nin e
 ·exact nin z
theorem Inv.turnM(I:Inv X pins σ H s)(hch:∀b∈ch,aV X pins H b)(kp:∀b o,b∉ch->s.heap.get? b=some o->h'.get? b=some o):Inv X pins σ H { s with heap:=h',toks:=t' } :=
 I.turnH hch kp (fun _ _ e=>e) (fun _ _ _ n=>n) (mS I hch kp)
theorem Inv.turnT{xs:List V}{its:List Value}(I:Inv X pins σ H s)(hch:∀b∈ch,aV X pins H b)(kp:∀b o,b∉ch->s.heap.get? b=some o->h'.get? b=some o)(hp:IsTup h' s.heap.objs.size its.toArray)(rv:Vals xs its)(hz:xs.length<=sizeLine) :
  Inv X pins σ (upd H s.heap.objs.size (.tup xs)) { s with heap:=h',toks:=t' }:=by
 have fr:=I.hok.fresh (Ze s.heap.objs.size);have ne:∀{b:Addr} {u:HO},H b=some u->b≠s.heap.objs.size:=fun{b u} e=>al e fr;have hk:=mS I hch kp;refine I.turnH hch kp (fun b u e=>by rw[af (ne e)];exact e) (fun b o e n=>by rw[af (ZA (Zm e))];exact n) fun b u e=>?_;by_cases hb:b=s.heap.objs.size
 ·subst hb;rw[ad]at e;cases e;exact⟨hz,its,rv,hp⟩
 ·rw[af hb]at e;exact(hk b u e).stay (fun _ _ _ q=>q) (fun c q=>by rw[af (ne q)];exact q) fun c ys q=>by rw[af (ne q)];exact q
end
def Itz(K:PySem.W.Frag)(a b:Addr)(xs ys:List V):It :=
 ⟨fun i H=>i<xs.length/\SqT K H a xs/\SqT K H b ys,fun i H x H'=>∃T p q,H T=none/\xs[i]?=some p/\ys[i]?=some q/\x=.ref T/\H'=upd H T (.tup [p,q]),fun i H=>i=xs.length/\SqT K H a xs/\SqT K H b ys⟩
abbrev zTn(z u v i1 i2 a b:Addr):Nat->Heap->Prop:=fun i h=>IsZip h z u v .none/\IsPair h u (.ref i1) (.ref i2)/\(∃p q,IsPair h v p q)/\h.IsTupleIter i1 a i/\h.IsTupleIter i2 b i
theorem wv{P:Program}{w:World}{K:PySem.W.Frag}{elts:List Expr}{kt:Nat}{tp:Pos}{z u v i1 i2 a b:Addr}{xs ys:List V}(hl:xs.length=ys.length)(D:[z,u,v,i1,i2].Nodup)(ha:∀c∈[z,u,v,i1,i2],c≠a/\c≠b) :
  Turn P w K (.Tuple elts kt tp) (Itz K a b xs ys) [z,u,v,i1,i2] z (zTn z u v i1 i2 a b):=by
 have nd:(z≠u/\z≠v/\z≠i1/\z≠i2)/\(u≠v/\u≠i1/\u≠i2)/\(v≠i1/\v≠i2)/\i1≠i2:=by simpa using D
 obtain⟨⟨zu,zv,z1,z2⟩,⟨uv,u1,u2⟩,⟨v1,v2⟩,i12⟩:=nd;have az:=ha z (by simp);have av:=ha v (by simp);have a1:=ha i1 (by simp);have a2:=ha i2 (by simp);have ap:ZAp z u v i1 i2 [i1,a] [i2,b]:=⟨zu.symm,zv.symm,uv,u1,u2,v1,v2,z1.symm,z2.symm,i12,by simp[z1,az.1],by simp[z2,az.2],by simp[v1,av.1],by simp[v2,av.2],by simp[i12.symm,a2.1],by simp[i12,a1.2]⟩
 refine⟨by simp,fun i h st c hc=>?_,fun i h h' st k=>?_,?_,?_,fun A i s Q E st h=>wpAny_pyIter_zip st.1 h⟩
 ·obtain⟨e1,e2,⟨p,q,e3⟩,⟨o4,e4,_,d4⟩,⟨o5,e5,_,d5⟩⟩:=st;simp only[Zq,Z3,or_false]at hc;rcases hc with rfl|rfl|rfl|rfl|rfl
  ·exact⟨_,e1,fun v z=>nomatch z⟩
  ·exact⟨_,e2,fun v z=>nomatch z⟩
  ·exact⟨_,e3,fun v z=>nomatch z⟩
  ·exact⟨_,e4,fun v z=>by rw[d4]at z;cases z⟩
  ·exact⟨_,e5,fun v z=>by rw[d5]at z;cases z⟩
 ·obtain⟨e1,e2,⟨p,q,e3⟩,⟨o4,e4,r4⟩,⟨o5,e5,r5⟩⟩:=st;exact⟨k z (by simp) _ e1,k u (by simp) _ e2,⟨p,q,k v (by simp) _ e3⟩,⟨o4,k i1 (by simp) _ e4,r4⟩,⟨o5,k i2 (by simp) _ e5,r5⟩⟩
 ·intro X hP hw hK hc i pins s σ H E I hf st hg;subst hP hw hK;obtain⟨e1,e2,⟨p,q,e3⟩,e4,e5⟩:=st;obtain⟨hi,hx,hy⟩:=hg;obtain⟨its,rx,px,zx⟩:=I.tuple hx;obtain⟨jts,ry,py,zy⟩:=I.tuple hy;have lx:i<its.toArray.size:=by rw[Zj,<-rx.length];exact hi
  have ly:i<jts.toArray.size:=by rw[Zj,<-ry.length,<-hl];exact hi
  have hh:=I.ok.hd hc;have hT:s.TypeIs (.ref z) "zip":=⟨_,e1,rfl⟩
  unfold pyNext;refine Za (wpAny_attempt (ZT (name:=Str.ofString "__next__") hT F.slot_zip_next (y0 F.slot_zip_next hT F.entry_zip_next
   (wG (dh (A:=X.A.in1) hh i1 a a1.1.symm its.toArray) (dh (A:=X.A.in1) hh i2 b a2.2.symm jts.toArray) ap e1 e2 e3 ⟨e4,px⟩ ⟨e5,py⟩ lx ly fun h' tk x y qx qy zz vv s1 s2 pp kp=>Zd ?_) (F.args_zip_next_1 _))))
  refine⟨_,rfl,wpAny_letOwnedTupleGo_zip (s:={ s with heap:=h',toks:=tk }) zz fun h2 z2' sb=>?_⟩;obtain⟨xv,ex⟩:∃xv,xs[i]?=some xv:=⟨xs[i],by simp[hi]⟩
  obtain⟨yv,ey⟩:∃yv,ys[i]?=some yv:=⟨ys[i]'(by omega),by simp[show i<ys.length by omega]⟩
  obtain⟨x',gx,rxv⟩:=rx.get ex;obtain⟨y',gy,ryv⟩:=ry.get ey;have qx':its[i]?=some x:=by simpa using qx
  have qy':jts[i]?=some y:=by simpa using qy
  rw[gx]at qx';rw[gy]at qy';cases qx';cases qy';have ltz:z<s.heap.objs.size:=Zm e1;have kp2:∀c o,c∉[z,u,v,i1,i2]->s.heap.get? c=some o->h2.get? c=some o:=fun c o hc e=>by simp only[Zq,Z3,or_false,not_or]at hc;exact sb.extBut c o hc.1 (kp c o hc.1 hc.2.2.1 hc.2.2.2.1 hc.2.2.2.2 e)
  have tT:IsTup h2 s.heap.objs.size [x,y].toArray:=⟨_,sb.extBut _ _ (Yh ltz) pp,rfl,_,rfl⟩
  refine⟨.ref s.heap.objs.size,upd H s.heap.objs.size (.tup [xv,yv]),I.turnT (t':=tk) hf kp2 tT (.cons rxv (.cons ryv .nil)) (sz rfl),rfl,⟨_,xv,yv,I.hok.fresh (Ze _),ex,ey,rfl,rfl⟩,?_,fun c hc=>?_⟩
  ·exact⟨z2',sb.extBut _ _ zu.symm (kp _ _ zu.symm uv u1 u2 e2),⟨_,_,sb.extBut _ _ zv.symm vv⟩,s1.1.extBut sb.extBut z1.symm,s2.1.extBut sb.extBut z2.symm⟩
  ·rw[af]
   ·exact(hf c hc).1
   ·obtain⟨o,eo,_⟩:∃o,s.heap.get? c=some o/\True:=by
     simp only[Zq,Z3,or_false]at hc;rcases hc with rfl|rfl|rfl|rfl|rfl
     ·exact⟨_,e1,trivial⟩
     ·exact⟨_,e2,trivial⟩
     ·exact⟨_,e3,trivial⟩
     ·obtain⟨o,eo,_⟩:=e4;exact⟨o,eo,trivial⟩
     ·obtain⟨o,eo,_⟩:=e5;exact⟨o,eo,trivial⟩
    exact ZA (Zm eo)
 ·intro X hP hw hK hc i pins s σ H E I hf st hg;subst hP hw hK;obtain⟨e1,e2,⟨p,q,e3⟩,e4,e5⟩:=st;obtain⟨rfl,hx,hy⟩:=hg;obtain⟨its,rx,px,zx⟩:=I.tuple hx;obtain⟨jts,ry,py,zy⟩:=I.tuple hy;have lx:its.toArray.size=xs.length:=by rw[Zj,<-rx.length]
  have hh:=I.ok.hd hc;have hT:s.TypeIs (.ref z) "zip":=⟨_,e1,rfl⟩
  unfold pyNext;refine Za (wpAny_attempt (ZT (name:=Str.ofString "__next__") hT F.slot_zip_next (y0 F.slot_zip_next hT F.entry_zip_next
   (zA (dh (A:=X.A.in1) hh i1 a a1.1.symm its.toArray) (dh (A:=X.A.in1) hh i2 b a2.2.symm jts.toArray) ap e1 e2 e3 ⟨by rw[lx];exact e4,px⟩ fun h' e kp he=>?_) (F.args_zip_next_1 _))))
  obtain⟨o,ho,hco⟩:=he;refine Za (wpAny_isInstance (T:="StopIteration") (b:=true) ⟨o,ho,hco⟩ isSubtype_stop (Zd ⟨rfl,?_⟩));exact I.turnM (t':=s.toks) hf fun c ob hc e=>by simp only[Zq,Z3,or_false,not_or]at hc;exact kp c ob hc.1 hc.2.2.1 hc.2.2.2.1 hc.2.2.2.2 e
theorem qM(l1 l2:Addr)(xs ys:Array Value) :
  Meets (Builtin.«zip.__new__» ⟨[.type "zip",.ref l1,.ref l2],[]⟩) (fun _ R s=>s.heap.IsTuple l1 xs/\s.heap.IsTuple l2 ys /\
   R (.ok (.ret (.ref ((((s.heap.push { cls:=.type "tuple_iterator",data:=.fields #[.ref l1,.int 0 0] }).push { cls:=.type "tuple_iterator",data:=.fields #[.ref l2,.int 0 0] }).push { cls:=.type "tuple",data:=.seq #[.ref s.heap.objs.size,.ref (s.heap.push { cls:=.type "tuple_iterator",data:=.fields #[.ref l1,.int 0 0] }).objs.size] }).push { cls:=.type "tuple",data:=.seq #[.none,.none] }).objs.size)))
    { s with heap:=((((s.heap.push { cls:=.type "tuple_iterator",data:=.fields #[.ref l1,.int 0 0] }).push { cls:=.type "tuple_iterator",data:=.fields #[.ref l2,.int 0 0] }).push { cls:=.type "tuple",data:=.seq #[.ref s.heap.objs.size,.ref (s.heap.push { cls:=.type "tuple_iterator",data:=.fields #[.ref l1,.int 0 0] }).objs.size] }).push { cls:=.type "tuple",data:=.seq #[.none,.none] }).push { cls:=.type "zip",data:=.fields #[.none,.bool false,.bool false,.ref ((s.heap.push { cls:=.type "tuple_iterator",data:=.fields #[.ref l1,.int 0 0] }).push { cls:=.type "tuple_iterator",data:=.fields #[.ref l2,.int 0 0] }).objs.size,.ref (((s.heap.push { cls:=.type "tuple_iterator",data:=.fields #[.ref l1,.int 0 0] }).push { cls:=.type "tuple_iterator",data:=.fields #[.ref l2,.int 0 0] }).push { cls:=.type "tuple",data:=.seq #[.ref s.heap.objs.size,.ref (s.heap.push { cls:=.type "tuple_iterator",data:=.fields #[.ref l1,.int 0 0] }).objs.size] }).objs.size] } }) :=
 .of_wp fun prog w A R s h=>by
  obtain⟨hp,g,d,tk,os⟩:=s;obtain⟨t1,t2,h⟩:=h;have hsub:=sub_zip;have T1:Heap.IsTuple (Shared.heap ⟨hp,g,d,tk,os⟩) l1 xs:=t1;have T2:Heap.IsTuple (Shared.heap ⟨hp.push { cls:=.type "tuple_iterator",data:=.fields #[.ref l1,.int 0 0] },g,d,tk,os⟩) l2 ys:=Heap.IsTuple.push t2 _
  wp_walk using wpAny_pyIter_tuple T1,wpAny_pyIter_tuple T2
  exact⟨_,rfl,h⟩
theorem Aw(n:Nat):[n+4,n+2,n+3,n,n+1].Nodup:=by simp
def Ac(K:PySem.W.Frag)(ta:TA):TI:=fun σ H R=>ta σ H fun vs H1=>∃a b xs ys,vs=[.ref a,.ref b]/\SqT K H1 a xs/\SqT K H1 b ys/\xs.length=ys.length/\R (Itz K a b xs ys) H1
section
variable{X:Cx}
theorem Be{e1 e2:Expr}{ta:TA}{p pos tp:Pos}{elts:List Expr}{kt:Nat}(hg:Gl X "zip")(hm:X.mg "zip" = none)(ha:PA X [e1,e2] ta)(n1:aJ e1=true)(n2:aJ e2=true):PI X (.Tuple elts kt tp) (.Call (.Name "zip" p) [e1,e2] [] pos) (Ac X.K ta):=by
 intro pins s σ H R I h;refine Call_ (fi I hg hm boot_zip (YR (thn (ha pos pins s σ H _ I h) fun us s1 hz9=>?_) (aQ n1) (aW (by simp[n2]))));obtain⟨vs,H1,I1,r1,q1⟩:=hz9;obtain⟨a,b,xs,ys,e,hx,hy,hl,q⟩:=q1;subst e;obtain⟨ua,ub,rfl,ra,rb⟩:=xC r1;cases ra;cases rb;obtain⟨its,rx,px,zx⟩:=I1.tuple hx;obtain⟨jts,ry,py,zy⟩:=I1.tuple hy;refine callType_new F.called_zip (by decide) (F.typeCall_zip_2 _ _) (F.newCall_zip_2 _ _) (fun obj=>F.args_object_init_3 obj _ _) F.entry_zip_new (qM a b its.toArray jts.toArray) ⟨px,py,?_⟩;generalize ea:({ cls:=.type "tuple_iterator",data:=.fields #[.ref a,.int 0 0] }:Obj)=oa;generalize eb:({ cls:=.type "tuple_iterator",data:=.fields #[.ref b,.int 0 0] }:Obj)=ob;have z1:(s1.heap.push oa).objs.size=s1.heap.objs.size+1:=Heap.size_push ..;have z2:((s1.heap.push oa).push ob).objs.size=s1.heap.objs.size+2:=by rw[Heap.size_push,z1]
 rw[z2,z1];generalize eu:({ cls:=.type "tuple",data:=.seq #[.ref s1.heap.objs.size,.ref (s1.heap.objs.size+1)] }:Obj)=ou;have z3:(((s1.heap.push oa).push ob).push ou).objs.size=s1.heap.objs.size+3:=by rw[Heap.size_push,z2]
 generalize ev:({ cls:=.type "tuple",data:=.seq #[.none,.none] }:Obj)=ov;have z4:((((s1.heap.push oa).push ob).push ou).push ov).objs.size=s1.heap.objs.size+4:=by rw[Heap.size_push,z3]
 rw[z4,z3];generalize ez:({ cls:=.type "zip",data:=.fields #[.none,.bool false,.bool false,.ref (s1.heap.objs.size+2),.ref (s1.heap.objs.size+3)] }:Obj)=oz;have g5:(((((s1.heap.push oa).push ob).push ou).push ov).push oz).get? (s1.heap.objs.size+4)=some oz:=by rw[<-z4];exact Zr _ (by rw[<-ez];rfl)
 have g4:(((((s1.heap.push oa).push ob).push ou).push ov).push oz).get? (s1.heap.objs.size+3)=some ov:=by rw[<-z3];exact Zb _ (Zr _ (by rw[<-ev];rfl))
 have g3:(((((s1.heap.push oa).push ob).push ou).push ov).push oz).get? (s1.heap.objs.size+2)=some ou:=by rw[<-z2];exact Zb _ (Zb _ (Zr _ (by rw[<-eu];rfl)))
 have g2:(((((s1.heap.push oa).push ob).push ou).push ov).push oz).get? (s1.heap.objs.size+1)=some ob:=by rw[<-z1];exact Zb _ (Zb _ (Zb _ (Zr _ (by rw[<-eb];rfl))))
 have g1:(((((s1.heap.push oa).push ob).push ou).push ov).push oz).get? s1.heap.objs.size=some oa:=Zb _ (Zb _ (Zb _ (Zb _ (Zr _ (by rw[<-ea];rfl)))));have kp:∀c o,s1.heap.get? c=some o->(((((s1.heap.push oa).push ob).push ou).push ov).push oz).get? c=some o:=fun c o e=>Zb _ (Zb _ (Zb _ (Zb _ (Zb _ e))));generalize((((s1.heap.push oa).push ob).push ou).push ov).push oz=hN at g1 g2 g3 g4 g5 kp ⊢;have I2:Inv X pins σ H1 { s1 with heap:=hN }:=I1.kept (t':=s1.toks) kp;have la:a<s1.heap.objs.size:=px.lt;have lb:b<s1.heap.objs.size:=py.lt;subst ea eb eu ev ez;have base:∀c∈[s1.heap.objs.size+4,s1.heap.objs.size+2,s1.heap.objs.size+3,s1.heap.objs.size,s1.heap.objs.size+1],s1.heap.objs.size<=c:=fun c hc=>by simp only[Zq,Z3,or_false]at hc;omega
 refine⟨⟨_,g5,rfl⟩,?_⟩;show wpAny (model X.prog X.w) X.A (pyIter (.ref (s1.heap.objs.size+4))) (PIE X pins σ (.Tuple elts kt tp) R) X.xe { s1 with heap:=hN };refine wpAny_pyIter_zip g5 ?_;refine⟨s1.heap.objs.size+4,[s1.heap.objs.size+4,s1.heap.objs.size+2,s1.heap.objs.size+3,s1.heap.objs.size,s1.heap.objs.size+1],zTn (s1.heap.objs.size+4) (s1.heap.objs.size+2) (s1.heap.objs.size+3) s1.heap.objs.size (s1.heap.objs.size+1) a b,_,H1,rfl,I2,
  wv hl ?_ (fun c hc=>⟨Yh (Zx la (base c hc)),Yh (Zx lb (base c hc))⟩),⟨g5,g3,⟨_,_,g4⟩,⟨_,g1,rfl,rfl⟩,⟨_,g2,rfl,rfl⟩⟩,fun c hc=>?_,q⟩
 ·exact Aw s1.heap.objs.size
 ·exact I1.fpOk (base c hc) (I1.hok.fresh (base c hc))
theorem wQ{e1 e2:Expr}{ta:TA}{p pos tp:Pos}{elts:List Expr}{kt:Nat}(hm:X.mg "zip" = none)(ha:QA X [e1,e2] ta)(hg:Gl X "zip":=by rfl)(n1:aJ e1=true:=by rfl)(n2:aJ e2=true:=by rfl):QI X (.Tuple elts kt tp) (.Call (.Name "zip" p) [e1,e2] [] pos) (Ac X.K ta):=⟨Be hg hm ha.h n1 n2⟩
end
open PySem PySem.Spec PyProof.Rows
def wZ:R2:=fun x y H Q=>∃a b xs ys,x=.ref a/\y=.ref b/\H a=some (.tup xs)/\H b=some (.tup ys)/\xs.length+ys.length<=sizeLine/\∀p H',Same H H'->H' p=some (.tup (xs++ys))->Q (.ref p) H'
section
variable{X:Cx}
theorem yf:OpR X (binaryOp .Add) wZ:=by
 intro pins s σ H x y v u Q I rx ry h;obtain⟨a,b,xs,ys,rfl,rfl,ha,hb,hz,q⟩:=h;by_cases hx:xs=[]
 ·cases rx;cases ry;obtain⟨its,r1,p1,_⟩:=I.tuple (SqT.of (K:=X.K) ha);obtain⟨its2,r2,p2,_⟩:=I.tuple (SqT.of (K:=X.K) hb);obtain⟨⟨cls,dd,data,sl⟩,ho,hc,n,hd⟩:=id p1;obtain⟨⟨cls2,dd2,data2,sl2⟩,ho2,hc2,n2,hd2⟩:=id p2;simp only at hc hd hc2 hd2;subst hc hd hc2 hd2;have e:its=[]:=r1.nil_iff.mpr hx;subst e;refine PySem.concat_meets ⟨_,ho,rfl⟩ ⟨_,ho2,rfl⟩ noFill_tuple_add seq_tuple_add PySem.F.slot_tuple_add PySem.F.entry_tuple_add (PySem.F.args_tuple_add_2 _ _)
   (tuple_addW0 a b _ its2.toArray n n2 dd dd2 sl sl2 (by simp)) ⟨ho,ho2,⟨.ref b,H,I,rfl,q b H (Same.refl H) ?_⟩⟩
  rw[hx];exact hb
 ·exact yg pins s σ H _ _ v u Q I rx ry ⟨a,b,xs,ys,rfl,rfl,SqT.of ha,SqT.of hb,hx,hz,fun e=>q a H (Same.refl H) (by rw[e,ZJ];exact ha),fun _ p hp=>q p _ (ae hp _) ad⟩
theorem dr:QOp X (binaryOp .Add) wZ:=⟨yf⟩
theorem iW:fillsNumberSlot (.type "tuple") "mul" = pure false :=
 PySem.fillsNumberSlot_seq (id:="tuple.__mul__") (r:=some (.builtin "tuple.__rmul__")) F.slot_tuple_mul.lookup (by decide +kernel) F.slot_tuple_rmul.lookup (by decide +kernel)
theorem nG:seqRepeat? (.type "tuple")=pure (some (.builtin "tuple.__mul__")):=by unfold seqRepeat?;rw[PySem.seqSlot_of (T:="tuple") (name:="__mul__") (id:="tuple.__mul__") F.slot_tuple_mul.lookup (by decide +kernel),PySem.seqSlot_of (T:="tuple") (name:="__rmul__") (id:="tuple.__rmul__") F.slot_tuple_rmul.lookup (by decide +kernel)];rfl
theorem kl(a:Int)(t:Tok)(l:Addr)(items:Array Value)(n:Nat)(dd:Option Addr)(sl:Array (Option Value)) :
  Meets (Builtin.«int.__rmul__» ⟨[.int a t,.ref l],[]⟩) (fun _ R s=>s.heap.get? l=some { cls:=.type "tuple",dict:=dd,data:=.seq items n,slots:=sl }/\R (.ok (.ret Value.notImplemented)) s) :=
 .of_wp fun prog w A R s h=>by obtain⟨hp,g,d,tk,os⟩:=s;obtain⟨hl,h⟩:=h;wp_walk using YG hl;exact⟨_,rfl,h⟩
theorem lW(l:Addr)(items:Array Value)(n:Nat)(dd:Option Addr)(sl:Array (Option Value))(u:Tok) :
  Meets (Builtin.«tuple.__mul__» ⟨[.ref l,.int 1 u],[]⟩) (fun _ R s=>s.heap.get? l=some { cls:=.type "tuple",dict:=dd,data:=.seq items n,slots:=sl }/\R (.ok (.ret (.ref l))) s) :=
 .of_wp fun prog w A R s h=>by obtain⟨hp,g,d,tk,os⟩:=s;obtain⟨hl,h⟩:=h;have f1:=AutoSeq1.idx_int;wp_walk using YG hl;exact⟨_,rfl,h⟩
theorem kT(l:Addr)(items:Array Value)(n:Nat)(dd:Option Addr)(sl:Array (Option Value))(k:Int)(u:Tok)(c1:¬(k < -(2^63) ||k>=2^63)=true)(c2:¬(items.isEmpty ||k==1)=true)(c3:¬(decide (k<=0) ||items.isEmpty)=true)(c4:¬items.size*k>(2^63-1) / 8)(c5:¬Builtin.Tuple.tupleTooMany (items.size*k)=true)(c6:(List.foldl (fun x1 x2=>x1++x2) #[] (List.replicate k.toNat items)).size<=sizeLine) :
  Meets (Builtin.«tuple.__mul__» ⟨[.ref l,.int k u],[]⟩) (fun _ R s=>s.heap.get? l=some { cls:=.type "tuple",dict:=dd,data:=.seq items n,slots:=sl } /\
   R (.ok (.ret (.ref s.heap.objs.size))) { s with heap:=s.heap.push { cls:=.type "tuple",data:=.seq (List.foldl (fun x1 x2=>x1++x2) #[] (List.replicate k.toNat items)) } }) :=
 .of_wp fun prog w A R s h=>by obtain⟨hp,g,d,tk,os⟩:=s;obtain⟨hl,h⟩:=h;have f1:=AutoSeq1.idx_int;wp_walk using YG hl;rw[if_neg c1];wp_walk using YG hl;rw[if_neg c4];wp_walk using YG hl;exact⟨_,rfl,h⟩
def xg:R2:=fun x y H Q=>∃a k xs,x=.ref a/\y=.int k/\H a=some (.tup xs)/\1<=k/\k<=1000/\xs≠[]/\xs.length*k.toNat<=sizeLine/\∀p H',Same H H'->H' p=some (.tup (List.replicate k.toNat xs).flatten)->Q (.ref p) H'
theorem yk:OpR X (binaryOp .Mult) xg:=by
 intro pins s σ H x y v u Q I rx ry h;obtain⟨a,k,xs,rfl,rfl,ha,k1,k2,hx,hz,q⟩:=h;cases rx;obtain⟨t,rfl⟩:=ry;obtain⟨its,r1,p1,_⟩:=I.tuple (SqT.of (K:=X.K) ha);obtain⟨⟨cls,dd,data,sl⟩,ho,hc,n,hd⟩:=id p1;simp only at hc hd;subst hc hd;have hne:its≠[]:=fun z=>hx (r1.nil_iff.mp z);refine wpAny_binaryOp_repeat_ref (T:="tuple") (U:="int") (by decide) ⟨_,ho,rfl⟩ (fun s'=>typeIs_int s' k t) iW F.fills_int_mul F.slot_int_rmul nG F.slot_int_index.lookup
  (call_meets F.slot_int_rmul (typeIs_int s k t) F.entry_int_rmul (F.args_int_rmul_2 _ _) (kl k t a its.toArray n dd sl) ⟨ho,rfl,⟨_,ho,rfl⟩,?_⟩)
 by_cases hk:k=1
 ·subst hk;refine call_meets F.slot_tuple_mul ⟨_,ho,rfl⟩ F.entry_tuple_mul (F.args_tuple_mul_2 _ _) (lW a its.toArray n dd sl t) ⟨ho,⟨.ref a,H,I,rfl,q a H (Same.refl H) ?_⟩⟩;have e:(List.replicate (1:Int).toNat xs).flatten=xs:=by simp
  rw[e];exact ha
 ·have hl:its.length=xs.length:=r1.length.symm;have hnew:List.foldl (fun x1 x2=>x1++x2) #[] (List.replicate k.toNat its.toArray)=(List.replicate k.toNat its).flatten.toArray:=by have:=gC its k.toNat [];rw[YT]at this;exact this
  have hlen:(List.replicate k.toNat its).flatten.length<=sizeLine:=by rw[kn,hl,Nat.mul_comm];exact hz
  have hzk:((its.toArray.size:Int)*k)<=(sizeLine:Int):=by
   have e:((its.toArray.size:Int)*k)=((xs.length*k.toNat:Nat):Int):=by rw[Zj,hl,Int.natCast_mul];congr 1;omega
   rw[e];exact Int.ofNat_le.mpr hz
  have hcap:(sizeLine:Int)<=(2^63-1) / 8:=by decide
  have hemp:its.toArray.isEmpty=false:=by
   cases its with
   |nil=>exact absurd rfl hne
   |cons _ _=>rfl
  refine call_meets F.slot_tuple_mul ⟨_,ho,rfl⟩ F.entry_tuple_mul (F.args_tuple_mul_2 _ _) (kT a its.toArray n dd sl k t ?_ ?_ ?_ (by omega) ?_ (by rw[hnew,Zj];exact hlen)) ⟨ho,?_⟩
  ·simp only[Bool.or_eq_true,decide_eq_true_eq,not_or];omega
  ·simp[hemp,hk]
  ·have h1:¬k<=0:=by omega
   simp[hemp,h1]
  ·unfold Builtin.Tuple.tupleTooMany;simp only[decide_eq_true_eq];omega
  ·rw[hnew];refine⟨.ref s.heap.objs.size,_,I.laid (t':=s.toks) (o:=.tup (List.replicate k.toNat xs).flatten) (fun b ob q=>Zb _ q) (Ze _) ?_,rfl,q _ _ (ae (I.hok.fresh (Ze _)) _) ad⟩;exact⟨by rw[kn,Nat.mul_comm];exact hz,_,r1.rep k.toNat,IsTup.new _ _⟩
theorem ve{ns:List Int}{i:Nat}{x:V}(h:(ns.map V.int)[i]?=some x):x=.int (ai ns i)/\i<ns.length:=by
 rw[Z6]at h;unfold ai;cases e:ns[i]? with
 |none=>rw[e]at h;cases h
 |some z =>rw[e]at h;cases h;exact⟨rfl,(Zw.mp e).1⟩
theorem tN{n d:Nat}{h:Int}(h0:0<=h):HT.sIx n d (some h)=min h.toNat n:=by have e:=HT.sIx_nat n d h.toNat;rw[show((h.toNat:Nat):Int)=h by omega]at e;exact e
variable{K:PySem.W.Frag}(hK:X.K=K)
include hK
theorem iu:QIx X (vT K):=by subst hK;exact bZ
theorem sk{es:List Expr}{k n:Nat}{gs:TGs}{pos:Pos}(hc:X.calm=true)(h:QGs X es gs)(hn:(assignEach es X.env).length=n:=by rfl)(hst:(assignEach es X.env).findIdx? (·.1)=none:=by rfl):QG X (.Tuple es k pos) (iR K n gs):=by subst hK;exact jr hc h hn hst
omit hK
theorem Az:QOp X (binaryOp .Mult) xg:=⟨yk⟩
end
open PySem PySem.Spec PyProof.Rows PySem.W
section
variable{X:Cx}
theorem yR{st:Stmt}:QS X st (fun _ _ _=>False):=⟨fun _ _ _ _ _ _ h=>h.elim⟩
variable{o e d:Expr}{to te td:TE}{apos cpos:Pos}
theorem gq{prog:Program}{w:World}{A:Around}{E:Value->Shared->Prop}{s:Shared}{t sl:Addr}{items:Array Value}{vl vu:Value}{lo hi:Option Int}{Q:Value->Shared->Prop}(ht:IsTup s.heap t items)(hs:s.heap.IsSliceOf sl vl vu .none)(pl:IsPart vl lo)(pu:IsPart vu hi)(hw:HT.sIx items.size 0 lo=0/\HT.sIx items.size items.size hi=items.size)(h:Q (.ref t) s):wpAny (model prog w) A (getItem (.ref t) (.ref sl)) Q E s:=by
 obtain⟨os,hos,hcs,hds⟩:=id hs;have hTs:s.TypeIs (.ref sl) "slice":=⟨os,hos,hcs⟩
 unfold getItem
 try with_reducible refine ZV ?_
 first|refine Za (Zd ?_)|skip
 refine Za (wpAny_sequenceKey ht.typeIs (by decide) ?_);refine Za (ZT (name:=Str.ofString "__getitem__") ht.typeIs Z7
  (y0 Z7 ht.typeIs entry_tuple_getitem ?_ (args_tuple_getitem _ _)))
 show wpAny _ _ (Builtin.Tuple.tupleItemsOf (.ref t) >>= _) _ _ s;refine Za (tupleItemsOf_ ht ?_);refine Za (wpAny_typeOf hTs ?_);rw[if_pos (by decide)];refine Za (HT.sliceApplied_gen hs pl pu ?_);show wpAny _ _ (if(((HT.sIx items.size 0 lo:Nat):Int)==0&&(1:Int)==1&&(HT.sIx items.size items.size hi-HT.sIx items.size 0 lo)==items.size)=true then _ else _) _ _ s;rw[if_pos (by rw[hw.1,hw.2];simp)];refine Za (m:=Builtin.Tuple.tupleIsExact _) ?_;unfold Builtin.Tuple.tupleIsExact;refine Za (wpAny_typeOf ht.typeIs (Zd ?_));rw[if_pos (by decide)];exact Za (YF (Zd ⟨_,rfl,Zd h⟩))
def C7:V->Option Int->Option Int->Hp->VK->Prop:=fun x lo hi H Q=>∃a xs,x=.ref a/\H a=some (.tup xs)/\∀p H',Same H H'->H' p=some (.tup (bO xs lo hi))->Q (.ref p) H'
theorem cK:QSl X C7:=by
 refine⟨?_⟩;intro pins s σ H x v vl vu lo hi sl Q I rx hs pl pu h;obtain⟨a,xs,rfl,hx,q⟩:=h;by_cases hw:HT.sIx xs.length 0 lo=0/\HT.sIx xs.length xs.length hi=xs.length
 ·cases rx;obtain⟨its,r,ht,hz⟩:=I.tuple (SqT.of (K:=X.K) hx);have hlen:its.toArray.size=xs.length:=by rw[Zj];exact r.length.symm
  refine⟨"tuple",_,Z7.lookup,ht.typeIs,gq ht hs pl pu (by rw[hlen];exact hw) ⟨.ref a,H,I,rfl,q a H (Same.refl H) ?_⟩⟩;unfold bO;rw[hw.1,hw.2,List.drop_zero,Nat.sub_zero,Yy];exact hx
 ·exact BI pins s σ H _ v vl vu lo hi sl Q I rx hs pl pu ⟨a,xs,rfl,SqT.of hx,hw,fun p hp=>q p _ (ae hp _) ad⟩
end
section
variable{prog:Program}{w:World}{A:Around}{s:Shared}{fin:Bool}{Q:Bool->Shared->Prop}
theorem oy(ns:List Int):∀(ms:List Int) (vs ws:List Value) (i:Nat),IntsAre vs ns->IntsAre ws ms->fin=decide (ns.length<ms.length)->Q (HT.lexLt ns ms) s->KatLex prog w A true fin Q (vs.zip ws) i s:=by
 induction ns with
 |nil =>
  intro ms vs ws i a b hf q;subst hf;cases a;cases b with
  |nil=>exact kat_nil q
  |cons _ _ _=>exact kat_nil (by rw[decide_eq_true (by simp)];exact q)
 |cons x ns ih =>
  intro ms vs ws i a b hf q;cases a with
  |cons _ t h1 =>
  cases b with
  |nil =>subst hf;exact kat_nil q
  |cons y u h2 =>
  obtain⟨e,he,iff⟩:=HT.eqAt_int A s x t y u;rw[HT.lexLt_cons]at q;refine kat_cons (he _ _ _ _ (kat_go (fun et=>?_) (fun ef=>?_)))
  ·rw[if_pos (iff.mp et)]at q;exact kat_yes (ih _ _ _ (i+1) h1 h2 (by rw[hf];simp) q)
  ·have hne:x≠y:=fun z=>by rw[iff.mpr z]at ef;cases ef
   rw[if_neg hne]at q;refine kat_no ?_;cases i with
   |zero=>exact oneLt_int q
   |succ i=>exact kat_one _ _ (PyProof.Rows.lt_int q)
end
section
variable{X:Cx}{pins:List (Addr×Obj)}{σ:St}{H:Hp}{s:Shared}{h':Heap}
theorem dX{P:Program}{w:World}{H:Hp}{h:Heap}{a:Addr}{o:HO}(x:ObjOk P w H h a o):∃ob,h.get? a=some ob:=by
 cases o with
 |lst xs =>obtain⟨_,_,_,_,e⟩:=x;exact⟨_,e⟩
 |tup xs =>obtain⟨_,_,_,ob,e,_⟩:=x;exact⟨ob,e⟩
 |dK kvs =>obtain⟨_,_,_,_,ob,_,_,e,_⟩:=x;exact⟨ob,e⟩
 |dT kvs =>obtain⟨_,_,_,_,ob,_,_,e,_⟩:=x;exact⟨ob,e⟩
 |set S n =>obtain⟨ob,_,_,_,e,_⟩:=x;exact⟨ob,e⟩
 |ins C dx fs =>obtain⟨_,_,_,e,_⟩:=x;exact⟨_,e⟩
 |own y=>exact x
 |xd fs =>obtain⟨_,⟨ob,_,_,e,_⟩,_⟩:=x;exact⟨ob,e⟩
 |rng lo hi =>obtain⟨_,_,_,e⟩:=x;exact⟨_,e⟩
 |frz ob u=>exact⟨ob,x.1⟩
 |tbl ps=>exact⟨_,x⟩
 |met f y=>exact⟨_,x⟩
 |ext φ=>exact x.2.1
theorem none_of(I:Inv X pins σ H s){a:Addr}(hg:s.heap.get? a=none):H a=none:=by
 cases q:H a with
 |none=>rfl
 |some u =>obtain⟨ob,e⟩:=dX (I.hok a u q);rw[hg]at e;cases e
def nI(base h:Heap)(L:Addr):List (Addr×Obj):=(List.range h.objs.size).filterMap fun b=>if b=L\/(base.get? b).isSome=true then none else(h.get? b).map fun o=>(b,o)
theorem iJ(base h:Heap)(L:Addr):News base L h (nI base h L):=fun p hp=>by
 obtain⟨b,_,e⟩:=Yz.mp hp;by_cases c:b=L\/(base.get? b).isSome=true
 ·rw[if_pos c]at e;cases e
 ·rw[if_neg c]at e;cases q:h.get? b with
  |none=>rw[q]at e;cases e
  |some o =>
   rw[q]at e;cases e;refine⟨q,fun z=>c (.inl z),?_⟩;cases z:base.get? b with
   |none=>rfl
   |some u=>exact absurd (.inr (by rw[z];rfl)) c
theorem dN{base h:Heap}{L b:Addr}{o:Obj}(e:h.get? b=some o)(hL:b≠L)(hb:base.get? b=none):(b,o)∈nI base h L:=by refine Yz.mpr ⟨b,Yr.mpr (Zm e),?_⟩;rw[if_neg (by rintro(z|z);exact hL z;rw[hb]at z;cases z),e];rfl
end
theorem iK(ns:List Int):SeqAt.shaped (.tuple (ns.map .int))=true:=by
 unfold SeqAt.shaped;rw[ZB];refine⟨?_,?_⟩
 ·simp only[PyData.canLay0];exact PyProof.Rows.canLayAll_ints ns
 ·refine decide_eq_true ?_;simp only[PyData.depth];rw[PyProof.Rows.depthAll_ints ns];decide
theorem iC:∀(ns ms:List Int),PyData.eqvAll (ns.map .int) (ms.map .int)=decide (ns=ms)
 | [],[]=>by simp[PyData.eqvAll]
 | [],_::_=>by simp[PyData.eqvAll]
 |_::_,[]=>by simp[PyData.eqvAll]
 |x::ns,y::ms=>by simp only[Zz,PyData.eqvAll,PyData.eqv];rw[iC ns ms,Bool.eq_iff_iff];simp
theorem mJ(ns ms:List Int):PyData.eqv (.tuple (ns.map .int)) (.tuple (ms.map .int))=decide (ns=ms):=by simp only[PyData.eqv];exact iC ns ms
theorem mI{H:Hp}{a:Addr}{ns:List Int}(h:H a=some (.tup (ns.map V.int))):Dt H (.tuple (ns.map .int)) (.ref a):=by simp only[Dt];exact⟨a,_,rfl,Rd.of h,oS ns⟩
section
variable{X:Cx}
theorem sL(hu:X.A.units+64<cLine):QOp X (compareOp .NotEq) (fun x y H Q=>∃(a b:Addr) (ns ms:List Int),x=.ref a/\y=.ref b/\H a=some (.tup (ns.map V.int))/\H b=some (.tup (ms.map V.int))/\Q (.bl (!decide (ns=ms))) H):=by refine⟨?_⟩;intro pins s σ H x y v u Q I rx ry h;obtain⟨a,b,ns,ms,rfl,rfl,ha,hb,q⟩:=h;exact sU hu pins s σ H _ _ v u Q I rx ry ⟨_,_,mI ha,mI hb,iK ns,iK ms,by rw[mJ];exact q⟩
end
theorem eS{x:V}{A B:Prop}(h:x≠.non)(hA:A):if(!decide (x=.non))=true then A else B:=by rw[decide_eq_false h];exact bt hA
theorem Cm{c A B:Prop}[Decidable c](h:c)(hA:A):if decide c=true then A else B:=by rw[decide_eq_true h];exact bt hA
theorem km{c A B:Prop}[Decidable c](h1:c->A)(h2:¬c->B):if decide c=true then A else B:=by
 by_cases h:c
 ·exact Cm h (h1 h)
 ·rw[decide_eq_false h];exact aL (h2 h)
open PySem PySem.Spec PyProof.Rows
structure CompOk1(X:Cx)(scope:Scope)(cx:Str)(cap:List Nat)(capN:List Str):Prop where
 kind:scope.kind=.function
 names:∀x∈scope.names,x.2=.local->scope.names.lookup x.1=some .local
 onecell:∀y∈scope.names,y.2=.cell->y.1=cx
 own:scope.names.lookup cx=some .cell
 cf:∀(n:Nat) (acc:List (Str×Addr)),cellsFrom n scope.names acc=(cx,n)::acc
 pc:∀h:Heap,pushCells h scope.names=h.push { cls:=.type "cell",data:=.cell none }
 frees:(scope.names.all fun y=>!(y.2==NameKind.free) ||(X.env.kindOf y.1==some .cell ||X.env.kindOf y.1==some .free))=true
 cap:CapOk X scope cap capN
theorem jv:∀{vs:List Value} {ns:List Int},IntsAre vs ns->∃xs:List (Int×Tok),vs=xs.map (fun p=>.int p.1 p.2)/\ns=xs.map (·.1)
 |_,_,.nil=>⟨[],rfl,rfl⟩
 |_,_,.cons n t h=>by obtain⟨xs,e1,e2⟩:=jv h;exact⟨(n,t)::xs,by rw[e1];rfl,by rw[e2];rfl⟩
open PySem PySem.Spec PyProof.Rows PySem.W
def bR(h:Heap)(e:Addr)(dc:Option Addr):Prop:=∃o,h.get? e=some o/\o.dict=dc
theorem kd(f:Array Value->Array Value)(o:Obj):(Obj.mapFields f o).dict=o.dict:=by unfold Obj.mapFields;split<;>rfl
section
variable{M:Model}{A:Around}{E:Value->Shared->Prop}{s:Shared}{base:Heap}{env:Env}{outer l:List Env}{L e:Addr}
theorem iG{oe:Obj}{vs:Array Value}{hd0 a0:Value}{nx:Bool}{Q:Unit->Shared->Prop}(fr:A.frames=some (env::outer))(ff:s.heap.FunFrames base (env::outer))(ef:env.frame=some L)(he:s.heap.get? e=some oe)(kb:base.StaysIn s.heap)(en:base.get? e=none)(dt:oe.data=.fields vs)(sz:1<vs.size)(v0:vs[0]?=some a0)(k:∀h',Heap.NotedW base (env::outer) e oe.cls a0 (rawInt L) s.heap h'->bR h' e oe.dict->Q () { s with heap:=h' }) :
  wpAny M A (do let a ←frameOf env;let pl ←entryPlaceOf L nx;let b ←EntryCells.newEntry hd0 a .none (rawInt L) .none pl;setField (.ref e) 1 b) Q E s:=by
 have nf:e∉(env::outer).filterMap (·.frame):=fun hm=>by obtain⟨_,o,ho,hn⟩:=ff.mem hm;cases Zu (he.symm.trans ho);exact hn vs dt
 refine Za (wpAny_frameOf_fun fr ff ef fun h1 k1=>Za (wpAny_entryPlaceOf fun pl hpl=>?_));unfold EntryCells.newEntry newFields;refine Za (ZY ?_ (hpl.sizeOk5 _ _ _ _ _));have t3:([hd0,.ref L,.none,rawInt L,.none]++(if pl.isEmpty then List.replicate 6 Value.none else pl)).toArray[3]?=some (rawInt L):=by simp
 generalize([hd0,.ref L,.none,rawInt L,.none]++(if pl.isEmpty then List.replicate 6 Value.none else pl)).toArray=ts at t3 ⊢;have g1:h1.get? e=some oe:=(k1.2.1 e nf).trans he;have st1:base.StaysIn h1:=fun b o hb=>(k1.2.1 b fun hm=>nomatch(hb.symm.trans (ff.mem hm).1)).trans (kb b o hb);have gp:(h1.push { cls:=.type "traceback",data:=.fields ts }).get? e=some oe:=Zb _ g1;have ne:h1.objs.size≠e:=Yh (Zm g1);have dm:=Yf dt (·.setIfInBounds 1 (Value.ref h1.objs.size));have self:=Yn (Obj.mapFields (·.setIfInBounds 1 (Value.ref h1.objs.size))) gp (Obj.isFreed_of_fields dm);have atT:=(y8 (h1.push { cls:=.type "traceback",data:=.fields ts }) (Obj.mapFields (·.setIfInBounds 1 (Value.ref h1.objs.size))) (Z8 ne)).trans (Zr h1 rfl);have oth:∀b o,b≠e->h1.get? b=some o->((h1.push { cls:=.type "traceback",data:=.fields ts }).update e (Obj.mapFields (·.setIfInBounds 1 (Value.ref h1.objs.size)))).get? b=some o:=fun b o n q=>(y8 _ _ (Z8 n)).trans (Zb _ q);have nrec:∀b o,s.heap.get? b=some o->(∀ws,o.data≠.fields ws)->b≠e:=fun b o q hn z=>by subst z;cases Zu (he.symm.trans q);exact hn vs dt
 refine YO gp dt sz (k _ ⟨fun b o q=>oth b o (fun z=>nomatch((z▸q).symm.trans en)) (st1 b o q),ff.of_keeps fun b o q hn=>?_,?_,fun b o q hn=>?_⟩ ⟨_,self,kd _ _⟩)
 ·obtain⟨sl,hs⟩:=k1.2.2 b o q;exact⟨_,oth b _ (nrec b o q hn) hs,rfl⟩
 ·exact⟨_,_,h1.objs.size,_,ts,self,⟨Obj.cls_mapFields _ _,by rw[Array.getElem?_setIfInBounds_ne (by decide)];exact v0⟩,dm,by simp[sz],st1.fresh,ne,atT,rfl,t3⟩
 ·obtain⟨sl,hs⟩:=k1.2.2 b o q;exact⟨sl,oth b _ (nrec b o q hn) hs⟩
theorem fO{cls a0 fl:Value}{dc:Option Addr}{Q:Unit->Shared->Prop}(kb:base.StaysIn s.heap)(ff:s.heap.FunFrames base l)(tr:s.heap.TracedAtW base e cls a0 fl)(dd:bR s.heap e dc)(k:∀h',base.StaysIn h'->h'.FunFrames base l->h'.TracedW base e cls a0->s.heap.UpToSlots h'->bR h' e dc->Q () { s with heap:=h' }):wpAny M A (setFlight (.ref e) none) Q E s:=by
 obtain⟨oe,vs,T,oT,ts,he,hc,dt,v1,nT,ne,hT,dT,t3⟩:=tr;have z3:3<ts.size:=(Array.getElem?_eq_some_iff.mp t3).1;have oth:∀b,b≠T->(s.heap.update T (Obj.mapFields (·.setIfInBounds 3 ((none:Option Addr).elim Value.none fun f=>rawInt f)))).get? b=s.heap.get? b:=fun b n=>y8 _ _ (Z8 n);have nrec:∀b o,s.heap.get? b=some o->(∀ws,o.data≠.fields ws)->b≠T:=fun b o q hn z=>by subst z;cases Zu (hT.symm.trans q);exact hn ts dT
 unfold setFlight;refine Za (ZQ he dt v1 ?_);rw[if_pos (by simp:(Value.ref T != Value.none)=true)];refine YO hT dT z3 (k _ (fun b o q=>(oth b fun z=>nomatch((z▸q).symm.trans nT)).trans (kb b o q)) (ff.of_keeps fun b o q hn=>⟨o,(oth b (nrec b o q hn)).trans q,rfl⟩) ?_ (fun b o q hn=>⟨o.slots,(oth b (nrec b o q hn)).trans q⟩) ?_)
 ·exact⟨oe,vs,T,_,_,(oth e (Z8 ne)).trans he,hc,dt,v1,nT,ne,Yn _ hT (Obj.isFreed_of_fields (Yf dT _)),Yf dT _,by simp[z3]⟩
 ·obtain⟨o,q,d⟩:=dd;exact⟨o,(oth e (Z8 ne)).trans q,d⟩
theorem jD{cls a0:Value}{dc:Option Addr}{Q:Unit->Shared->Prop}(fr:A.frames=some (env::outer))(ef:env.frame=some L)(fl:Heap.FlyingW base (env::outer) e cls a0 s.heap)(dd:bR s.heap e dc)(k:∀h',Heap.HeldW base (env::outer) e cls a0 L h'->s.heap.UpToSlots h'->bR h' e dc->Q () { s with heap:=h' }):wpAny M A (noteFrame (.ref e) env) Q E s:=by
 obtain⟨f1,f2,f3,oe,vs,T,oT,ts,he,hc,dt,v1,nT,ne,hT,dT,t3⟩:=fl;obtain⟨o2,q2,d2⟩:=dd;cases Zu (he.symm.trans q2);have z3:3<ts.size:=(Array.getElem?_eq_some_iff.mp t3).1;unfold noteFrame;simp only[ef];refine Za (ZQ he dt v1 ?_);rw[if_pos (by simp:(Value.ref T != Value.none)=true)];refine Za (ZQ hT dT t3 ?_);rw[if_neg (by simp[rawInt]:¬(Value.none==rawInt L)=true)];refine Za (YO hT dT z3 ?_);have oth:∀b,b≠T->(s.heap.update T (Obj.mapFields (·.setIfInBounds 3 Value.none))).get? b=s.heap.get? b:=fun b n=>y8 _ _ (Z8 n);have nrec:∀b o,s.heap.get? b=some o->(∀ws,o.data≠.fields ws)->b≠T:=fun b o q hn z=>by subst z;cases Zu (hT.symm.trans q);exact hn ts dT
 have sz:1<vs.size:=(Array.getElem?_eq_some_iff.mp v1).1;refine iG (s:={ s with heap:=s.heap.update T (Obj.mapFields (·.setIfInBounds 3 Value.none)) }) fr (f3.of_keeps fun b o q hn=>⟨o,(oth b (nrec b o q hn)).trans q,rfl⟩) ef ((oth e (Z8 ne)).trans he) (fun b o q=>(oth b fun z=>nomatch((z▸q).symm.trans nT)).trans (f1 b o q)) f2 dt sz hc.2 fun h' nt dd=>?_;obtain⟨n1,n2,n3,n4⟩:=nt;rw[hc.1]at n3;rw[d2]at dd;exact k h' ⟨n1,f2,n2,n3⟩ (fun b o q hn=>n4 b o ((oth b (nrec b o q hn)).trans q) hn) dd
end
open PySem PySem.Spec PyProof.Rows PySem.W
section
variable{X:Cx}
theorem zL:QCall X (.builtin "len") (fun xs H Q=>∃x:Str,xs=[.str x]/\x.length<=1000/\Q (.int (x.length:Int)) H):=by refine⟨?_⟩;intro pins s σ H xs us Q I r h;obtain⟨x,rfl,hz,q⟩:=h;obtain⟨u,rfl,rx⟩:=cQ r;obtain⟨t,rfl⟩:=rx;exact PyProof.Rows.len_str (by omega) ⟨.int x.length,H,I.tok _,⟨_,rfl⟩,q⟩
end
theorem iS{v:V}{A B:Prop}(hA:A):if decide (v=v)=true then A else B:=by rw[decide_eq_true rfl];exact bt hA
theorem bU{v u:V}{A B:Prop}(h:v≠u)(hB:B):if decide (v=u)=true then A else B:=by rw[decide_eq_false h];exact aL hB
theorem mM{P:Program}{w:World}{K:PySem.W.Frag}{mg:Str->Option Value}{base:Heap}{k:Nat}{f:Addr}{fd:FuncData}{ps:List Str}:FnOk P w K mg base CX0 k f fd ps (fun _ _ _ _=>False):=⟨fun _ _ _ _ h=>h.elim,fun _ _ _ _ _ _ _ _ _ _ _ _ _ h=>h.elim⟩
inductive TV where
 |flat (v:V)
 |tup (xs:List V)
def mj:V->Value->Bool
 |.non,.none=>true
 |.bl b,.bool c=>b==c
 |.int i,.int j _=>i==j
 |.str x,.str y _=>x==y
 |_,_=>false
theorem lF:∀{v:V} {u:Value},mj v u=true->RelV v u:=by
 intro v u h;unfold mj at h;split at h
 ·exact rfl
 ·obtain rfl:=ZS.mp h;exact rfl
 ·obtain rfl:=ZS.mp h;exact⟨_,rfl⟩
 ·obtain rfl:=ZS.mp h;exact⟨_,rfl⟩
 ·cases h
def oj:List V->List Value->Bool
 | [],[]=>true
 |v::vs,u::us=>mj v u&&oj vs us
 |_,_=>false
theorem iL:∀{vs:List V} {us:List Value},oj vs us=true->Vals vs us
 | [],[],_=>.nil
 |_::_,_::_,h=>by have h:=(ZB _ _).mp h;exact .cons (lF h.1) (iL h.2)
 | [],_::_,h=>nomatch h
 |_::_,[],h=>nomatch h
def gU(K:PySem.W.Frag):TV->Value->Bool
 |.flat v,u=>mj v u
 | .tup xs,.ref a=>(match K.lookup a with
  |some o=>o.cls == .type "tuple"&&(match o.data with|.seq its _=>decide (its.size<=1000)&&oj xs its.toList|_=>false)
  | none=>false)
 |_,_=>false
def zI(K:PySem.W.Frag):TV->Value->Prop
 |.flat v,u=>RelV v u
 |.tup xs,u=>∃a,u=.ref a/\∀H,SqT K H a xs
theorem CN{K:PySem.W.Frag}(d:TV)(u:Value)(h:gU K d u=true):zI K d u:=by
 unfold gU at h;split at h
 ·exact lF h
 ·rename_i xs a;split at h
  ·rename_i o ho;obtain⟨e1,e2⟩:=(ZB _ _).mp h;split at e2
   ·rename_i its n hd;obtain⟨e3,e4⟩:=(ZB _ _).mp e2;exact⟨a,rfl,fun H=>.inr ⟨o,its,n,ho,ZS.mp e1,hd,dA (of_decide_eq_true e3),iL e4⟩⟩
   ·cases e2
  ·cases h
 ·cases h
structure Tab(K:PySem.W.Frag)(a:Addr)(D:List (Str×TV)):Prop where
 look:KTD.tabLook (gU K) (fun b=>K.lookup b) a D=true
theorem Tab.at{K:PySem.W.Frag}{a:Addr}{D:List (Str×TV)}(T:Tab K a D){h:Heap}(X:K.In h):KTD.TabOf (zI K) h a D:=KTD.tab_of_look CN (fun b o e=>X b o e) T.look
section
variable{prog:Program}{w:World}{A:Around}{E:Value->Shared->Prop}{s:Shared}{d:Addr}{o:Obj}{es:Array DictEntry}{ep:Nat}{x:Str}{tx:Tok}
theorem ze{Q:Option Value->Shared->Prop}(ho:s.heap.get? d=some o)(hd:o.data=.dict es ep)(hall:(es.all fun e=>isExactStrKey e.key)=true)(h:Q ((es.toList.find? fun e=>e.key.isStr x).map (·.val)) { s with toks:=s.toks+1 }) :
  wpAny (model prog w) A (dictGet d (.str x tx)) Q E s:=by
 unfold dictGet;(try with_reducible (refine ZV ?_))
 refine Za (wpAny_pyHash_str (Za (KTD.kt_dictFind_strs (s:={ s with toks:=s.toks+1 }) ho hd hall ?_)));have hq:Q (findBy (fun y v=>v.isStr y) es x) { s with toks:=s.toks+1 }:=by
  have hf:findBy (fun y v=>v.isStr y) es x=(es.toList.find? fun e=>e.key.isStr x).map (·.val):=by obtain⟨l⟩:=es;simp[findBy]
  rw[hf];exact h
 rw[findBy_of_findIdx?]at hq;cases hi:es.findIdx? fun e=>e.key.isStr x<;>rw[hi]at hq
 ·exact Zd hq
 ·exact Za (Yk (s:={ s with toks:=s.toks+1 }) ho hd (Zd hq))
theorem wo{Q:Value->Shared->Prop}{v:Value}(ex:o.ExactDict)(ho:s.heap.get? d=some o)(hd:o.data=.dict es ep)(hall:(es.all fun e=>isExactStrKey e.key)=true)(hv:(es.toList.find? fun e=>e.key.isStr x).map (·.val)=some v)(h:Q v { s with toks:=s.toks+1 }):wpAny (model prog w) A (getItem (.ref d) (.str x tx)) Q E s:=by
 have T:s.TypeIs (.ref d) "dict":=⟨o,ho,ex.1⟩
 unfold getItem;(try with_reducible (refine ZV ?_))
 refine Za (wpAny_sequenceKey T (by decide) (Za (ZT (name:=Str.ofString "__getitem__") T slot_dict_getitem (y0 slot_dict_getitem T entry_dict_getitem ?_ (args_dict_getitem _ _)))));show wpAny _ _ (dictGet d (.str x tx) >>= _) _ _ _;refine Za (ze ho hd hall ?_);rw[hv];exact Zd ⟨v,rfl,Zd h⟩
end
section
variable{X:Cx}
def By(K:PySem.W.Frag):R2:=fun x y H Q=>∃a k D d,x=.ref a/\y=.str k/\Tab K a D/\KTD.datumAt k D=some d/\(match d with|.flat v=>Q v H|.tup xs=>∀t,(∀H',SqT K H' t xs)->Q (.ref t) H)
theorem xD:QIx X (By X.K):=by
 refine⟨?_⟩;intro value slice pins s σ H x y v u Q I rx ry h hs;obtain⟨a,k,D,d,rfl,rfl,T,hk,q⟩:=h;obtain⟨t,rfl⟩:=ry;cases rx;obtain⟨sy,o,es,ep,ho,ex,hd,hr⟩:=T.at I.kIn;obtain⟨v,hv,ok⟩:=hr.find_some hk;have fin:EP X pins σ Q v { s with toks:=s.toks+1 }:=by
  cases d with
  |flat z=>exact⟨z,H,I.tok _,ok,q⟩
  |tup xs =>obtain⟨t,rfl,e⟩:=ok;exact⟨.ref t,H,I.tok _,rfl,q t e⟩
 exact subscriptTail_builtinR (x:=v) (⟨o,ho,ex.1⟩:s.TypeIs (.ref a) "dict") slot_dict_getitem.lookup (wo (Q:=fun r s'=>r=v/\EP X pins σ Q r s') ex ho hd (by obtain⟨l⟩:=es;simpa using hr.exact) hv ⟨rfl,fin⟩) hs
theorem Bt{x:Str}{a:Addr}{pos:Pos}(hm:X.mg x=some (.ref a))(hg:Gl X x:=by rfl)(hd:(x==("__debug__":Str))=false:=by decide):QE X (.Name x pos) (tC (.ref a)):=⟨kB hg hm rfl hd⟩
end
open PySem PySem.Spec PyProof.Rows PySem.W
def CXr(P:Program)(w:World):CXT:=fun outer H s E e s' =>
 ∃(ea t:Addr) (C:Value) (vs:List Value) (B:Heap) (H':Hp) (dc:Option Addr),e=.ref ea/\s'.os=s.os/\AllBare s'.gens/\Un (frs outer) [] H H' s.heap s'.heap/\HOk P w H' s'.heap /\
  Heap.FlyingW B outer ea C (.ref t) s'.heap/\s'.heap.TupAt t vs/\B.get? t=none/\(∀b o,b∉frs outer->((∃u,H' b=some u)\/∃o0,s.heap.get? b=some o0)->s'.heap.get? b=some o->B.get? b=some o)/\bR s'.heap ea dc/\E C dc H'
structure ExCls(K:PySem.W.Frag)(C:Addr):Prop where
 cls:∀h,K.In h->∃nm q N bs bm hdct sn sub ab col dd k0 k1 k2 k3 k5 mN,h.get? C=some (excClassObj nm q C N bs bm hdct sn sub ab col dd k0 k1 k2 k3 k5 "ValueError.__new__")/\h.Ns N mN/\mN "__init__" = none/\bm.contains (.type "BaseException")=true /\
  OwnTail h [.type "ValueError",.type "Exception",.type "BaseException",.type "object"] bm
def rK(X:Cx)(EC:Value->Hp->Prop):Prop:=∀(pins:List (Addr×Obj)) (σ:St) (H1:Hp) (s1:Shared) (h2:Heap) (e:Addr) (C:Value) (vs:List Value),Inv X pins σ H1 s1->Heap.MadeExcOf s1.heap h2 e C vs->EC C H1->X.xe (.ref e) { s1 with heap:=h2 }
section
variable{X:Cx}{EC:Value->Hp->Prop}{C:Addr}{x:Str}{np cpos pos:Pos}{e:Expr}{es:List Expr}{ta:TA}
theorem io(hR:rK X EC)(hc:X.calm=true)(cl:ExCls X.K C)(hm:X.mg x=some (.ref C))(ha:QA X (e::es) ta)(hg:Gl X x:=by rfl)(hs:(e::es).all aJ=true:=by rfl)(hdb:(x==("__debug__":Str))=false:=by decide) :
  QS X (.Raise (some (.Call (.Name x np) (e::es) [] cpos)) none pos) (fun _ σ H=>ta σ H fun vs H1=>vs.length<=sizeLine/\EC (.ref C) H1):=by
 refine⟨?_⟩;intro pins s σ H D I h;obtain⟨nm,q,N,bs,bm,hdct,sn,sub,ab,col,dd,k0,k1,k2,k3,k5,mN,hC,hN,hni,hb,T⟩:=cl.cls X.base I.ok.mod.kin;have hs1:aJ e=true:=by have:=YN.mp hs e (by simp);exact this
 have he:=aQ (es:=es) (env:=X.env) hs1;have hpl:(backTo cpos (starEach es X.env)).any (·.1)=false:=aW (by
  rw[YN];intro y hy;exact YN.mp hs y (Zn _ hy))
 refine wpAny_Raise_call_subT (nm:=nm) (q:=q) (C:=C) (N:=N) (bs:=bs) (hdct:=hdct) (sn:=sn) (sub:=sub) (ab:=ab) (col:=col) (dd:=dd) (k0:=k0) (k1:=k1) (k2:=k2) (k3:=k3) (k5:=k5) PySem.F.excBase_ValueError hb (I.ok.hd hc) ?_ hni (dS I hg hm ⟨rfl,?_⟩ hdb)
 ·rw[he];show(false ||(backTo cpos (starEach es X.env)).any (·.1))=false;rw[hpl];rfl
 ·have hA:=ha.h cpos pins s σ H _ I h;rw[he]at hA ⊢;refine Calls.evalArgs_plain (thn hA fun us s1 ⟨vs,H1,I1,r1,hz,hE⟩=>⟨rfl,by rw[<-r1.length];exact hz,I1.bk _ _ hC,hN.keeps I1.bk,T.keeps I1.bk,fun h' ea hm=>hR pins σ H1 s1 h' ea _ _ I1 hm hE⟩)
end
open PySem PySem.Spec PyProof.Rows PySem.W
theorem Fun.okX{P:Program}{w:World}{K:PySem.W.Frag}{mg:Str->Option Value}{base:Heap}{x qual:Str}{st:Stmt}{f:Addr}{fd:FuncData}{N ps:List Str}{k:Nat}{sp:Sp}(F:Fun K x qual st f fd)(S:FnScope N ps (aj st))(len:∀ vs H Q E,sp vs H Q E->vs.length=ps.length)(hb:∀ (cdv:Value) (A:Around) (outer:List Env) (s:Shared) (H:Hp) (vs:List V) (Q:VK) (E:XK),Room k (A.deeper (envOfC qual (aj st) s.heap.objs.size f cdv))->sp vs H Q E ->
   ∃ t,QB (dD (CXr P w) P w K mg base N qual (aj st) f cdv A outer s H E) (aY st) t/\t { nx:=fun _ H'=>Q .non H',rt:=Q } (start N vs) H):FnOk P w K mg base (CXr P w) (k+1) f fd ps sp:=by
 obtain⟨oc,od,kV,doc,pm,an,cdv,ct,osl,rfl,lk,hcd⟩:=F.ex;exact wL lk hcd S len fun A outer s H vs Q E hr hsp=>let⟨t,h,q⟩:=hb cdv A outer s H vs Q E hr hsp;⟨t,h.h,q⟩
structure FnX(P:Program)(w:World)(K:PySem.W.Frag)(mg:Str->Option Value)(base:Heap)(k:Nat)(x:Str)(ps:List Str)(sp:Sp):Prop where
 ex:∃f fd,FnOk P w K mg base (CXr P w) k f fd ps sp/\mg x=some (.ref f)/\PySem.W.keepIn K (.ref f)=true/\Binds K fd ps []
def XP(X:Cx)(pins:List (Addr×Obj))(σ:St)(E:XK)(e:Value)(s':Shared):Prop:=∃s0 H0,Inv X pins σ H0 s0/\CXr X.prog X.w X.stack H0 s0 E e s'
abbrev TX:=St->Hp->VK->XK->Prop
structure QX(X:Cx)(e:Expr)(t:TX):Prop where
 h:∀(pins:List (Addr×Obj)) (s:Shared) (σ:St) (H:Hp) (Q:VK) (E:XK),Inv X pins σ H s->t σ H Q E->wpAny (model X.prog X.w) X.A (eval e X.env) (EP X pins σ Q) (XP X pins σ E) s
abbrev TSX:=Ends->St->Hp->XK->Prop
structure QSX(X:Cx)(st:Stmt)(t:TSX):Prop where
 h:∀(pins:List (Addr×Obj)) (s:Shared) (σ:St) (H:Hp) (D:Ends) (E:XK),Inv X pins σ H s->t D σ H E->wpAny (model X.prog X.w) X.A (exec st X.env) (SP X pins D) (XP X pins σ E) s
section
variable{X:Cx}{e:Expr}{tx:TX}{pos pos':Pos}{x:Str}
theorem yY(he:QX X e tx)(hs:swapsWith e none pos.line X.env=pure false:=by rfl):QSX X (.Expr e pos) (fun D σ H E=>tx σ H (fun _ H1=>D.nx σ H1) E):=by refine⟨?_⟩;intro pins s σ H D E I h;exact wpAny_Expr_any (thn (he.h pins s σ H _ E I h) fun v s1 ⟨y,H1,I1,r1,q1⟩=>⟨σ,H1,I1,q1⟩) I.quiet hs
end
structure Fl(X:Cx)(H0 H':Hp)(s0 s':Shared)(B:Heap):Prop where
 os:s'.os=s0.os
 bare:AllBare s'.gens
 un:Un (frs X.stack) [] H0 H' s0.heap s'.heap
 hok:HOk X.prog X.w H' s'.heap
 kb:∀b o,b∉frs X.stack->((∃u,H' b=some u)\/∃o0,s0.heap.get? b=some o0)->s'.heap.get? b=some o->B.get? b=some o
section
variable{X:Cx}{pins:List (Addr×Obj)}{σ:St}{H0 H':Hp}{s0 s':Shared}{B h':Heap}
theorem Fl.inv(F:Fl X H0 H' s0 s' B)(I:Inv X pins σ H0 s0):Inv X pins σ H' s':=I.call' F.os F.un F.hok F.bare fun _ z=>nomatch z
theorem Fl.nf(F:Fl X H0 H' s0 s' B)(I:Inv X pins σ H0 s0){b:Addr}{u:HO}(h:H' b=some u):b∉frs X.stack:=fun hm=>by have:=(F.inv I).stkFree b hm;rw[h]at this;cases this
theorem Fl.move{tk:Nat}(F:Fl X H0 H' s0 s' B)(I:Inv X pins σ H0 s0)(st:B.StaysIn h')(up:s'.heap.UpToSlots h'):Fl X H0 H' s0 { s' with heap:=h',toks:=tk } B:=by
 have kp:∀b o,b∉frs X.stack->((∃u,H' b=some u)\/∃o0,s0.heap.get? b=some o0)->s'.heap.get? b=some o->h'.get? b=some o:=fun b o h1 h2 h3=>st b o (F.kb b o h1 h2 h3);have sl:∀b o,b∈frs X.stack->s'.heap.get? b=some o->∃sl,h'.get? b=some { o with slots:=sl }:=fun b o hm q=>by obtain⟨_,o',ho',hd⟩:=(F.inv I).stack.mem hm;have e:s'.heap.get? b=some o':=ho';rw[q]at e;cases e;exact up b o q hd
 refine⟨F.os,F.bare,⟨fun b o q n hb hx=>kp b o hb (.inr ⟨o,q⟩) (F.un.keep b o q n hb hx),fun b o q n hb hx=>?_,F.un.free,fun b o q hx=>?_,F.un.tups,F.un.frzs,F.un.tbls⟩,fun b u q=>?_,fun b o hb ho q=>?_⟩
 ·obtain⟨s1,e1⟩:=F.un.slot b o q n hb hx;obtain⟨s2,e2⟩:=sl b _ hb e1;exact⟨s2,e2⟩
 ·obtain⟨o',e1⟩:=F.un.there b o q hx;by_cases hb:b∈frs X.stack
  ·obtain⟨s2,e2⟩:=sl b o' hb e1;exact⟨_,e2⟩
  ·exact⟨o',kp b o' hb (.inr ⟨o,q⟩) e1⟩
 ·refine(F.hok b u q).stay (fun c v hc z=>kp c v ?_ ?_ z) (fun _ z=>z) fun _ _ z=>z
  ·rcases hc with z'|z'
   ·rw[z'];exact F.nf I q
   ·exact F.nf I z'
  ·rcases hc with z'|z'
   ·rw[z'];exact .inl ⟨u,q⟩
   ·exact .inl ⟨_,z'⟩
 ·obtain⟨o1,q1⟩:∃o1,s'.heap.get? b=some o1:=by
   rcases ho with⟨u,z⟩|⟨o0,z⟩
   ·exact dX (F.hok b u z)
   ·exact F.un.there b o0 z (by simp)
  have q2:=kp b o1 hb ho q1;have q':h'.get? b=some o:=q;rw[q']at q2;cases q2;exact F.kb b o hb ho q1
end
structure ExC(K:PySem.W.Frag)(C:Addr)(bm:List Value):Prop where
 cls:∀h,K.In h->∃nm q N bs hdct sn sub ab col dd k0 k1 k2 k3 k5 ni,h.get? C=some (excClassObj nm q C N bs bm hdct sn sub ab col dd k0 k1 k2 k3 k5 ni)
 exc:bm.contains (.type "BaseException")=true
theorem ow{M:Model}{A:Around}{E:Value->Shared->Prop}{s:Shared}{e C T:Addr}{oe:Obj}{bmC bmT:List Value}{K:PySem.W.Frag}{Q:Bool->Shared->Prop}(hC:ExC K C bmC)(hT:ExC K T bmT)(hk:K.In s.heap)(he:s.heap.get? e=some oe)(hcls:oe.cls=.ref C)(hq:Q ((Value.ref C::bmC).contains (.ref T)) s):wpAny M A (excMatches (.ref e) (.ref T)) Q E s:=by
 obtain⟨nm,q,N,bs,hdct,sn,sub,ab,col,dd,k0,k1,k2,k3,k5,ni,oC⟩:=hC.cls _ hk;obtain⟨nm',q',N',bs',hdct',sn',sub',ab',col',dd',k0',k1',k2',k3',k5',ni',oT⟩:=hT.cls _ hk;obtain⟨hp,g,d,tk,os⟩:=s;have hcB:(Value.ref T::bmT).contains (.type "BaseException")=true:=by rw[YS,hT.exc,Bool.or_true]
 have f:=tc_notTuple;unfold excMatches;generalize hr:(Value.ref C::bmC).contains (Value.ref T)=r at hq
 repeat(first|(with_reducible refine YI he ?_;rw[hcls])|with_reducible refine YI oT ?_|(with_reducible refine wpAny_isSubtype_exc oT ?_;rw[hcB])|(with_reducible refine wpAny_isSubtype_exc oC ?_;rw[hr])|wp_step)
 cases r<;>(first|exact hq|(wp_walk;exact hq))
def Cx.exc(X:Cx)(e:Value):Cx:={ X with A:=X.A.mark (some e),calm:=false,xe:=fun _ _=>False }
section
variable{X:Cx}{pins:List (Addr×Obj)}{σ:St}{H:Hp}{s:Shared}{e:Value}
theorem Inv.exc(I:Inv X pins σ H s)(e:Value):Inv (X.exc e) pins σ H s :=
 ⟨⟨I.ok.mod,I.ok.kind,I.ok.glob,I.ok.blt,I.ok.above,I.ok.inj,I.ok.has,I.ok.cab,fun z=>(nomatch z),I.ok.frames,I.ok.stk,I.ok.exf,I.ok.bs,I.ok.bsz,I.ok.noex,I.ok.exfs,I.ok.funs,I.ok.frf⟩,I.os,I.bare,I.base,I.loc,I.cell,I.free,I.freeC,I.pin,I.hok,I.len⟩
theorem Inv.unexc(ok:X.Ok)(I:Inv (X.exc e) pins σ H s):Inv X pins σ H s:=⟨ok,I.os,I.bare,I.base,I.loc,I.cell,I.free,I.freeC,I.pin,I.hok,I.len⟩
end
abbrev TH:=Ends->St->Value->Option Addr->Hp->Prop
structure QH(X:Cx)(hs:List ExceptHandler)(th:TH):Prop where
 h:∀(pins:List (Addr×Obj)) (s0:Shared) (H0:Hp) (σ:St) (D:Ends) (ea t:Addr) (C:Value) (B:Heap) (H':Hp) (dc:Option Addr) (s':Shared),Inv X pins σ H0 s0->Fl X H0 H' s0 s' B->Heap.FlyingW B X.stack ea C (.ref t) s'.heap->bR s'.heap ea dc->th D σ C dc H' ->
  wpAny (model X.prog X.w) X.A (handleBy (.ref ea) X.env hs) (SP X pins D) X.xe s'
section
variable{X:Cx}
def Db(tb:TSX)(th:TH):TS:=fun D σ H=>tb D σ H fun C dc H1=>th D σ C dc H1
theorem BH{st:Stmt}{tb:TSX}{th:TH}{h0:ExceptHandler}{hs:List ExceptHandler}{pos:Pos}(hst:X.stack=X.env::X.outer)(hfr:X.env.frame=some X.env.locals)(hb:QSX X st tb)(hh:QH X (h0::hs) th) :
  QS X (.Try [st] (h0::hs) [] [] pos) (Db tb th):=by
 refine⟨?_⟩;intro pins s σ H D I h;refine wpAny_Try_except (wpAny_execs_cons (ZG (hb.h pins s σ H D _ I h) (fun f s1 q=>?_) (fun e s1 x=>?_)))
 ·cases f with
  |next=>exact wpAny_execs_nil (wpAny_execs_nil q)
  |brk=>exact q
  |cont=>exact q
  |ret v=>exact q
 ·obtain⟨s0,H0,I0,ea,t,C,vs,B,H',dc,rfl,os,bare,un,hok,fly,tup,hBt,kb,dd,q⟩:=x;have F:Fl X H0 H' s0 s1 B:=⟨os,bare,un,hok,kb⟩
  have fr:X.A.frames=some (X.env::X.outer):=by rw[<-hst];exact I.ok.frames
  rw[hst]at fly;refine jD fr hfr fly dd fun h4 held up4 dd4=>?_;obtain⟨f1,f2,f3,f4⟩:=held;refine fO f1 f3 f4 dd4 fun h5 k1 k2 k3 up5 dd5=>?_;have F5:=(F.move (tk:=s1.toks) I0 k1 (up4.trans up5))
  rw[<-hst]at k2;exact hh.h pins s0 H0 σ D ea t C B H' dc _ I0 F5 ⟨k1,f2,k2,k3⟩ dd5 q
end
open PySem PySem.Spec PyProof.Rows PySem.W
abbrev VE:List Value:=[.type "ValueError",.type "Exception",.type "BaseException",.type "object"]
structure ExcAt(K:PySem.W.Frag)(C:Addr)(bm:List Value):Prop where
 isIn:excIn K C VE "ValueError.__new__" = true
 mro:∃c d cd sl,K.lookup C=some ⟨c,d,.cls cd,sl⟩/\cd.mro=Value.ref C::bm
 exc:bm.contains (.type "BaseException")=true
theorem lf{K:PySem.W.Frag}{C:Addr}{bm:List Value}(q:ExcAt K C bm){h:Heap}(X:K.In h) :
  ∃nm qn N bs hdct sn sub ab col dd k0 k1 k2 k3 k5 mN,h.get? C=some (excClassObj nm qn C N bs bm hdct sn sub ab col dd k0 k1 k2 k3 k5 "ValueError.__new__")/\h.Ns N mN/\mN "__init__" = none/\OwnTail h VE bm:=by
 have q1:=q.isIn;obtain⟨c9,d9,cd9,sl9,l9,m9⟩:=q.mro;unfold excIn at q1;split at q1
 ·rename_i dd cd sl ho;split at q1
  ·rename_i C' bm' k0 k1 k2 k3 n k5 hm hs;have q2:cd.mro=Value.ref C::bm:=by have z:=ho.symm.trans l9;cases z;exact m9
   rw[hm]at q2;injection q2 with z1 z2;injection z1 with z1;cases z1;cases z2;simp only[ZB,ZS,Bool.not_eq_true']at q1;obtain⟨⟨⟨⟨⟨_,rfl⟩,nd⟩,ht⟩,ok⟩,ni⟩:=q1;have es:sl=#[k0,k1,k2,k3,some (.builtin "ValueError.__new__"),k5]:=by obtain⟨l⟩:=sl;simp only at hs;rw[hs]
   cases es;obtain⟨nm,bs,mro,ns,qn,hd,sn,sub,ab,col,del⟩:=cd;dsimp only at hm nd ok ni;cases hm;cases nd;exact⟨nm,qn,ns,bs,hd,sn,sub,ab,col,dd,k0,k1,k2,k3,k5,_,X _ _ ho,.of_isNs (isNs_of_in X ok),nsMap_none_of_in X ok ni,tail_of_in X ht⟩
  ·cases q1
 ·cases q1
theorem mK{K:PySem.W.Frag}{C:Addr}{bm:List Value}(q:ExcAt K C bm):ExC K C bm where
 cls:=fun h X=>by obtain⟨nm,qn,N,bs,hdct,sn,sub,ab,col,dd,k0,k1,k2,k3,k5,mN,e,_⟩:=lf q X;exact⟨nm,qn,N,bs,hdct,sn,sub,ab,col,dd,k0,k1,k2,k3,k5,_,e⟩
 exc:=q.exc
theorem iP{K:PySem.W.Frag}{C:Addr}{bm:List Value}(q:ExcAt K C bm):ExCls K C where
 cls:=fun h X=>by obtain⟨nm,qn,N,bs,hdct,sn,sub,ab,col,dd,k0,k1,k2,k3,k5,mN,e,e2,e3,e4⟩:=lf q X;exact⟨nm,qn,N,bs,bm,hdct,sn,sub,ab,col,dd,k0,k1,k2,k3,k5,mN,e,e2,e3,(mK q).exc,e4⟩
structure ExK(K:PySem.W.Frag)(c:Addr):Prop where
 hc:(clsIn K c).isSome=true
 hga:findIn K (.ref c) "__getattribute__" = some (some (.builtin "BaseException.__getattribute__"))
 hgh:findIn K (.ref c) "__getattr__" = some none
 ha:findIn K (.ref c) "__class__" = some (some (.builtin "object.__class__"))
 hb:mroIn K c (.type "BaseException")=some true
 hm:mroIn K c (.type "object")=some true
open PySem PySem.Spec PyProof.Rows PySem.W
theorem oV{K:PySem.W.Frag}{a b:Addr}{xs ys:List V}{i j:Nat}{tb:TS}{D:Ends}{σ:St}{H:Hp}(Pv:Nat->St->Hp->Prop)(h0:Pv 0 σ H)(ha:∀i σ H,i<=xs.length->Pv i σ H->SqT K H a xs)(hb:∀i σ H,i<=xs.length->Pv i σ H->SqT K H b ys)(hl:xs.length=ys.length)(hs:∀k x y σ H,xs[k]?=some x->ys[k]?=some y->Pv k σ H->∀T,H T=none->tb { D with nx:=Pv (k+1),ct:=Pv (k+1),bk:=D.nx } ((σ.set i (some x)).set j (some y)) (upd H T (.tup [x,y])))(hd:∀σ H,Pv xs.length σ H->D.nx σ H) :
  ∃W:Nat->Nat->St->Hp->Prop,(∃m,W 0 m σ H)/\∀k m σ H,W k m σ H ->
   ((Itz K a b xs ys).stop k H/\D.nx σ H)\/((Itz K a b xs ys).go k H/\∃N:St->Hp->Prop,(∀σ' H',N σ' H'->∃m',m'<m/\W (k+1) m' σ' H')/\∀x H',(Itz K a b xs ys).yld k H x H'->iR K 2 (di (br i) (di (br j) iQ)) x σ H' fun σ2 H2=>tb { D with nx:=N,ct:=N,bk:=D.nx } σ2 H2):=by
 refine⟨fun k m σ H=>m=xs.length-k/\k<=xs.length/\Pv k σ H,⟨xs.length,by simp,ZP _,h0⟩,?_⟩;rintro k m σ H ⟨rfl,hk,pv⟩;by_cases hlt:k<xs.length
 ·refine .inr ⟨⟨hlt,ha k σ H hk pv,hb k σ H hk pv⟩,Pv (k+1),fun σ' H' z=>⟨xs.length-(k+1),by omega,rfl,hlt,z⟩,fun x H' y=>?_⟩;obtain⟨T,p,q,hT,hx,hy,rfl,rfl⟩:=y;exact⟨T,[p,q],rfl,SqT.of ad,rfl,p,[q],rfl,q,[],rfl,rfl,hs k p q σ H hx hy pv T hT⟩
 ·have e:k=xs.length:=by omega
  subst e;exact .inl ⟨⟨rfl,ha _ σ H hk pv,hb _ σ H hk pv⟩,hd σ H pv⟩
theorem mH{J:It}{N n:Nat}{cap:List Nat}{g:TG}{te:TE}{σ:St}{H0:Hp}{Q:VK}(Pv:Nat->List V->Hp->Prop)(hz:N<=1000)(hn:∀i ys H,Pv i ys H->ys.length=i)(h0:Pv 0 [] H0)(hgo:∀i ys H,i<N->Pv i ys H->J.go i H)(hst:∀ys H,Pv N ys H->J.stop N H)(ht:∀i ys H x H',i<N->Pv i ys H->J.yld i H x H'->∀A:VK,(∀v H4,Pv (i+1) (ys++[v]) H4->A v H4)->g x (bx n cap σ) H' fun σ2 H2=>te σ2 H2 A)(hq:∀ys p H,Pv N ys H->H p=none->Q (.ref p) (upd H p (.lst ys))):eJ n cap g iq te σ J H0 Q:=by
 refine⟨fun i m ys H=>m=N-i/\i<=N/\Pv i ys H,⟨N,by simp,ZP _,h0⟩,?_⟩;rintro i m ys H ⟨rfl,hi,pv⟩;by_cases hlt:i<N
 ·refine .inr ⟨hgo i ys H hlt pv,by rw[hn i ys H pv];exact aP (by omega),fun x H' y=>?_⟩;have k:=ht i ys H x H' hlt pv y (fun v H4=>∃m',m'<N-i/\m'=N-(i+1)/\i+1<=N/\Pv (i+1) (ys++[v]) H4) (fun v H4 z=>⟨N-(i+1),by omega,rfl,hlt,z⟩);unfold iq;simpa using k
 ·have e:i=N:=by omega
  subst e;exact .inl ⟨hst ys H pv,fun p hp=>hq ys p H pv hp⟩
open PySem PySem.Spec PyProof.Rows PySem.W
open PySem PySem.Spec PyProof.Rows PySem.W
open PySem PySem.Spec PyProof.Rows PySem.W
def POk(n:Nat)(p:Array Nat):Prop:=p.Perm (List.range n).toArray
theorem POk.lt{n:Nat}{p:Array Nat}(h:POk n p)(hn:0<n)(k:Nat):p.getD k 0<n:=by
 rw[Yg];cases e:p[k]? with
 |none=>exact hn
 |some x =>have hm:x∈p:=Array.mem_of_getElem? e;have:=(h.mem_iff).mp hm;simpa using this
theorem POk.rev{n:Nat}{p:Array Nat}(h:POk n p)(i j:Nat):POk n (kas_rev p i j):=(mirror_perm p i j _).trans h
theorem POk.bub{n:Nat}{p:Array Nat}(h:POk n p)(i j:Nat):POk n (bubble p i j):=(bubble_perm p i j).trans h
section
variable{X:Cx}
theorem zP{K:PySem.W.Frag}(hK:X.K=K)(hc:X.calm=true):QCall X (.builtin "sum") (fun xs H Q=>∃(p:Addr) (ns:List Int),xs=[.ref p]/\SqT K H p (ns.map V.int)/\Q (.int ns.sum) H):=by
 subst hK;refine⟨?_⟩;intro pins s σ H xs us Q I r h;obtain⟨p,ns,rfl,hS,q⟩:=h;obtain⟨u,rfl,ru⟩:=cQ r;cases ru;obtain⟨its,rv,pl,hz⟩:=I.tuple hS;obtain⟨ys,e1,e2⟩:=jv (dL rv);have hl:s.heap.IsTuple p (intItems ys.toArray):=by obtain⟨o,ho,hc',n,hd⟩:=pl;rw[e1]at hd;exact⟨o,ho,hc',n,by simpa[intItems]using hd⟩
 refine ktm_sumG (I.ok.hd hc) hl fun h' tk t' hk=>⟨.int ns.sum,H,I.kept (t':=tk) hk,⟨t',?_⟩,q⟩
 have e:preSum (numAt ys.toArray) ys.toArray.size=ns.sum:=by rw[preSum_eq,ZN (by simp),e2]
 rw[e]
theorem Cr:QOp X (binaryOp .Mult) BA:=⟨AL⟩
theorem qQ{K:PySem.W.Frag}(hK:X.K=K):QOp X (compareOp .In) (rIn K false):=by subst hK;exact⟨sS⟩
end
open PySem PySem.Spec PyProof.Rows PySem.W
def KW{α:Type}(lt:Nat->Nat->Bool)(Q:α->Prop):KasT α->Prop
 |.ret a=>Q a
 |.ask i j k=>KW lt Q (k (lt i j))
theorem KW.bind{α β:Type}{lt:Nat->Nat->Bool}{Q:β->Prop}{f:α->KasT β}:∀{t:KasT α},KW lt (fun a=>KW lt Q (f a)) t->KW lt Q (t.bind f)
 |.ret _,h=>h
 |.ask i j k,h=>KW.bind (t:=k (lt i j)) h
theorem KW.mono{α:Type}{lt:Nat->Nat->Bool}{Q R:α->Prop}(k:∀a,Q a->R a):∀{t:KasT α},KW lt Q t->KW lt R t
 |.ret _,h=>k _ h
 |.ask i j c,h=>KW.mono k (t:=c (lt i j)) h
structure LtOk(lt:Nat->Nat->Bool):Prop where
 as:∀{a b},lt a b=true->lt b a=false
 tr:∀{a b c},lt b a=false->lt c b=false->lt c a=false
def gA(p:Array Nat)(k:Nat):Nat:=p.getD k 0
def Lx(lt:Nat->Nat->Bool)(a b:Nat):Prop:=lt b a=false/\(lt a b=true\/a<b)
section
variable{lt:Nat->Nat->Bool}(O:LtOk lt)
include O
theorem LtOk.lt_le{a b c:Nat}(h:lt a b=true)(h2:lt c b=false):lt a c=true:=by
 cases e:lt a c with
 |true=>rfl
 |false=>rw[O.tr h2 e]at h;cases h
theorem LtOk.le_lt{a b c:Nat}(h:lt b a=false)(h2:lt b c=true):lt a c=true:=by
 cases e:lt a c with
 |true=>rfl
 |false=>rw[O.tr e h]at h2;cases h2
theorem Lx.trans{a b c:Nat}(h:Lx lt a b)(k:Lx lt b c):Lx lt a c:=by
 refine⟨O.tr h.1 k.1,?_⟩;rcases h.2 with x|x
 ·exact .inl (O.lt_le x k.1)
 ·rcases k.2 with y|y
  ·exact .inl (O.le_lt h.1 y)
  ·exact .inr (Nat.lt_trans x y)
theorem Lx.of_lt{a b:Nat}(h:lt a b=true):Lx lt a b:=⟨O.as h,.inl h⟩
end
structure Fx(N:Nat)(p:Array Nat)(m:Nat):Prop where
 sz:p.size=N
 hi:∀k,m<=k->k<N->gA p k=k
 lo:∀i,i<m->gA p i<m
def LS(lt:Nat->Nat->Bool)(p:Array Nat)(m:Nat):Prop:=∀i j,i<j->j<m->Lx lt (gA p i) (gA p j)
def AS(lt:Nat->Nat->Bool)(p:Array Nat)(m:Nat):Prop:=∀i j,i<j->j<m->Lx lt (gA p j) (gA p i)
theorem Fx.succ{N:Nat}{p:Array Nat}{m:Nat}(h:Fx N p m)(hm:m<N):Fx N p (m+1):=⟨h.sz,fun k h1 h2=>h.hi k (by omega) h2,fun i hi=>by
 rcases Z0 i m with h1|h1
 ·have:=h.lo i h1;omega
 ·have e:i=m:=by omega
  subst e;rw[h.hi i (Ze _) hm];omega⟩
theorem bK{p:Array Nat}{i j k:Nat}(hj:j<=p.size):gA (kas_rev p i j) k=if i<=k/\k<j then gA p (i+j-1-k)else gA p k:=by
 unfold gA kas_rev;rw[Yg,getElem?_mirror_all hj];split
 ·rw[Yg]
 ·rw[Yg]
theorem fP(p:Array Nat)(k:Nat):gA p k=(p[k]?).getD 0:=by unfold gA;rw[Yg]
theorem zV{p:Array Nat}{k d i:Nat}(hk:k<p.size)(hd:d<=k):gA (bubble p k d) i=if i=k-d then gA p k else if k-d<i/\i<=k then gA p (i-1)else gA p i:=by
 rw[fP,getElem?_bubble hk d hd];split
 ·rw[fP]
 ·split
  ·rw[fP]
  ·rw[fP]
theorem Fx.rev{N:Nat}{p:Array Nat}{m i j:Nat}(h:Fx N p m)(hj:j<=m)(hm:m<=N):Fx N (kas_rev p i j) m:=by
 have hs:j<=p.size:=by rw[h.sz];omega
 refine⟨by rw[kas_rev_size];exact h.sz,fun k h1 h2=>?_,fun k hk=>?_⟩
 ·rw[bK hs,if_neg (by omega)];exact h.hi k h1 h2
 ·rw[bK hs];split
  ·exact h.lo _ (by omega)
  ·exact h.lo _ hk
section
variable{lt:Nat->Nat->Bool}(O:LtOk lt){N:Nat}
include O
theorem LS.step{p:Array Nat}{n:Nat}(h:LS lt p n)(hx:Lx lt (gA p (n-1)) (gA p n))(h1:1<=n):LS lt p (n+1):=fun i j hij hj=>by
 rcases Z0 j n with h2|h2
 ·exact h i j hij h2
 ·have e:j=n:=by omega
  subst e;rcases Z0 i (j-1)with h3|h3
  ·exact(h i (j-1) h3 (by omega)).trans O hx
  ·have e:i=j-1:=by omega
   subst e;exact hx
theorem mV{p:Array Nat}:∀(f n:Nat),1<=n->n+f<=N->Fx N p n->LS lt p n->KW lt (fun m=>n<=m/\m<=n+f/\Fx N p m/\LS lt p m/\(m<n+f->lt (gA p m) (gA p (m-1))=true)) (kas_asc p f n)
 |0,n,_,_,hf,hs=>⟨Ze _,Ze _,hf,hs,fun h=>absurd h (by omega)⟩
 |f+1,n,h1,hN,hf,hs=>by
  show KW lt _ (if lt (gA p n) (gA p (n-1))=true then .ret n else kas_asc p f (n+1));by_cases c:lt (gA p n) (gA p (n-1))=true
  ·rw[if_pos c];exact⟨Ze _,by omega,hf,hs,fun _=>c⟩
  ·rw[if_neg c];have c':=YV.mpr c;have hx:Lx lt (gA p (n-1)) (gA p n):=⟨c',.inr (by rw[hf.hi n (Ze _) (by omega)];exact hf.lo _ (by omega))⟩
   refine KW.mono (fun m hm=>?_) (mV f (n+1) (by omega) (by omega) (hf.succ (by omega)) (hs.step O hx h1));exact⟨by omega,by omega,hm.2.2.1,hm.2.2.2.1,fun z=>hm.2.2.2.2 (by omega)⟩
theorem AS.rev{p:Array Nat}{n:Nat}(h:AS lt p n)(hn:n<=p.size):LS lt (kas_rev p 0 n) n:=fun i j hij hj=>by rw[bK hn,bK hn,if_pos (by omega),if_pos (by omega)];exact h _ _ (by omega) (by omega)
theorem pk{p:Array Nat}{n:Nat}(h1:1<=n)(hN:n<=N)(hf:Fx N p n)(ha:AS lt p n):KW lt (fun r=>r.1<=N/\1<=r.1/\Fx N r.2 r.1/\LS lt r.2 r.1) (kas_tail3 n N p):=by refine KW.bind (KW.mono (fun m hm=>?_) (mV O (N:=N) (N-n) n h1 (by omega) (hf.rev (Ze _) hN) (ha.rev O (by rw[hf.sz];exact hN))));exact⟨by omega,by omega,hm.2.2.1,hm.2.2.2.1⟩
structure Dn(lt:Nat->Nat->Bool)(p:Array Nat)(n q:Nat):Prop where
 hq:q+1<=n
 up:∀i j,i<j->j<n-(q+1)->Lx lt (gA p j) (gA p i)
 cr:∀i j,i<n-(q+1)->n-(q+1)<=j->j<n->lt (gA p j) (gA p i)=true
 eq:∀i j,n-(q+1)<=i->i<j->j<n->lt (gA p i) (gA p j)=false/\lt (gA p j) (gA p i)=false/\gA p i<gA p j
theorem Dn.rev{p:Array Nat}{n q:Nat}(h:Dn lt p n q)(hn:n<=p.size):AS lt (kas_rev p (n-(q+1)) n) n:=fun i j hij hj=>by
 have hq:=h.hq;rw[bK hn,bK hn];by_cases c1:n-(q+1)<=i
 ·rw[if_pos (by omega),if_pos (by omega)];obtain⟨e1,e2,e3⟩:=h.eq (n-(q+1)+n-1-j) (n-(q+1)+n-1-i) (by omega) (by omega) (by omega);exact⟨e2,.inr e3⟩
 ·rw[if_neg (show¬(n-(q+1)<=i/\i<n) by omega)];by_cases c2:n-(q+1)<=j
  ·rw[if_pos (by omega)];exact Lx.of_lt O (h.cr _ _ (by omega) (by omega) (by omega))
  ·rw[if_neg (by omega)];exact h.up _ _ hij (by omega)
theorem Dn.zero{p:Array Nat}{n:Nat}(h:Dn lt p n 0):AS lt p n:=fun i j hij hj=>by
 rcases Z0 j (n-1)with c|c
 ·exact h.up i j hij c
 ·exact Lx.of_lt O (h.cr i j (by omega) (by omega) hj)
theorem Dn.start{p:Array Nat}{n:Nat}(h:AS lt p n)(h1:1<=n)(hl:lt (gA p n) (gA p (n-1))=true):Dn lt p (n+1) 0:=by
 refine⟨by omega,fun i j hij hj=>h i j hij (by omega),fun i j hi h2 h3=>?_,fun i j h2 h3 h4=>absurd h3 (by omega)⟩;have e:j=n:=by omega
 subst e;rcases Z0 i (j-1)with h3|h3
 ·exact O.lt_le hl (h i (j-1) h3 (by omega)).1
 ·have e:i=j-1:=by omega
  subst e;exact hl
theorem hW:∀(f:Nat) {p:Array Nat} {n q:Nat},n+f<=N->Fx N p n->Dn lt p n q->KW lt (fun r=>n<=r.2.1/\r.2.1<=n+f/\Fx N r.1 r.2.1/\Dn lt r.1 r.2.1 r.2.2) (kas_desc f p n q)
 |0,_,n,_,_,hf,hd=>⟨Ze _,Ze _,hf,hd⟩
 |f+1,p,n,q,hN,hf,hd=>by
  have hs:n<=p.size:=by rw[hf.sz];omega
  have hq:=hd.hq;show KW lt _ (if lt (gA p n) (gA p (n-1))=true then(if q>0 then kas_desc f (kas_rev p (n-(q+1)) n) (n+1) 0 else kas_desc f p (n+1) 0)else KasT.ask (gA p (n-1)) (gA p n) fun d=>if d=true then .ret (p,n,q)else kas_desc f p (n+1) (q+1));by_cases c:lt (gA p n) (gA p (n-1))=true
  ·rw[if_pos c];have wk:∀{r:Array Nat×Nat×Nat},(n+1<=r.2.1/\r.2.1<=n+1+f/\Fx N r.1 r.2.1/\Dn lt r.1 r.2.1 r.2.2)->n<=r.2.1/\r.2.1<=n+(f+1)/\Fx N r.1 r.2.1/\Dn lt r.1 r.2.1 r.2.2:=fun h=>⟨by omega,by omega,h.2.2.1,h.2.2.2⟩
   by_cases cq:q>0
   ·rw[if_pos cq];have fr:=hf.rev (i:=n-(q+1)) (Ze n) (by omega);have e1:gA (kas_rev p (n-(q+1)) n) n=gA p n:=by rw[bK hs,if_neg (by omega)]
    have e2:gA (kas_rev p (n-(q+1)) n) (n-1)=gA p (n-(q+1)):=by rw[bK hs,if_pos (by omega)];congr 1;omega
    have l2:lt (gA p n) (gA p (n-(q+1)))=true:=O.lt_le c (hd.eq (n-(q+1)) (n-1) (Ze _) (by omega) (by omega)).1;refine KW.mono (fun r h=>wk h) (hW f (by omega) (fr.succ (by omega)) (Dn.start O (hd.rev O hs) (by omega) (by rw[e1,e2];exact l2)))
   ·rw[if_neg cq];have e:q=0:=by omega
    subst e;exact KW.mono (fun r h=>wk h) (hW f (by omega) (hf.succ (by omega)) (Dn.start O (hd.zero O) (by omega) c))
  ·rw[if_neg c];have c':=YV.mpr c;show KW lt _ (if lt (gA p (n-1)) (gA p n)=true then _ else _);by_cases d:lt (gA p (n-1)) (gA p n)=true
   ·rw[if_pos d];exact⟨Ze _,Nat.le_add_right _ _,hf,hd⟩
   ·rw[if_neg d];have d':=YV.mpr d;have gn:gA p n=n:=hf.hi n (Ze _) (by omega);have same:∀i,n-(q+1)<=i->i<n->lt (gA p i) (gA p n)=false/\lt (gA p n) (gA p i)=false:=fun i h1 h2=>by
     rcases Z0 i (n-1)with h3|h3
     ·obtain⟨a1,a2,_⟩:=hd.eq i (n-1) h1 h3 (by omega);exact⟨O.tr d' a1,O.tr a2 c'⟩
     ·have e:i=n-1:=by omega
      subst e;exact⟨d',c'⟩
    refine KW.mono (fun r h=>⟨by omega,by omega,h.2.2.1,h.2.2.2⟩) (hW f (n:=n+1) (q:=q+1) (by omega) (hf.succ (by omega)) ⟨by omega,fun i j hij hj=>hd.up i j hij (by omega),fun i j hi h2 h3=>?_,fun i j h1 h2 h3=>?_⟩)
    ·rcases Z0 j n with h4|h4
     ·exact hd.cr i j (by omega) (by omega) h4
     ·have e:j=n:=by omega
      subst e;exact O.le_lt d' (hd.cr i (j-1) (by omega) (by omega) (by omega))
    ·rcases Z0 j n with h4|h4
     ·exact hd.eq i j (by omega) h2 h4
     ·have e:j=n:=by omega
      subst e;obtain⟨a1,a2⟩:=same i (by omega) h2;exact⟨a1,a2,by rw[gn];exact hf.lo _ h2⟩
theorem iD{p:Array Nat}{n:Nat}(h1:1<=n)(hN:n<N)(hf:Fx N p n)(ha:AS lt p n)(hl:lt (gA p n) (gA p (n-1))=true):KW lt (fun r=>r.1<=N/\1<=r.1/\Fx N r.2 r.1/\LS lt r.2 r.1) (kas_descPart n N p):=by
 refine KW.bind (KW.mono (fun r hr=>?_) (hW O (N:=N) (N-(n+1)) (by omega) (hf.succ hN) (Dn.start O ha h1 hl)));obtain⟨r1,r2,r3,r4⟩:=hr;show KW lt _ (if r.2.2>0 then _ else _);by_cases c:r.2.2>0
 ·rw[if_pos c];exact pk O (by omega) (by omega) (r3.rev (Ze _) (by omega)) (r4.rev O (by rw[r3.sz];omega))
 ·rw[if_neg c];have e:r.2.2=0:=by omega
  rw[e]at r4;exact pk O (by omega) (by omega) r3 (r4.zero O)
theorem vh{p:Array Nat}(hN:1<=N)(hf:Fx N p 1):KW lt (fun r=>r.1<=N/\1<=r.1/\Fx N r.2 r.1/\LS lt r.2 r.1) (kas_count N p):=by
 refine KW.bind (KW.mono (fun n hn=>?_) (mV O (N:=N) (N-1) 1 (Ze _) (by omega) hf (fun i j h1 h2=>absurd h1 (by omega))));obtain⟨n1,n2,nf,ns,nl⟩:=hn;show KW lt _ (if(n==N)=true then KasT.ret (n,p)else if n>1 then KasT.ask (gA p 0) (gA p (n-1)) (fun c=>if c=true then .ret (n,p)else kas_descPart n N (kas_rev p 0 n))else kas_descPart n N p);by_cases c:(n==N)=true
 ·rw[if_pos c];exact⟨by omega,n1,nf,ns⟩
 ·rw[if_neg c];have nN:n<N:=by have:n≠N:=fun z=>c (ZS.mpr z);omega
  have hl:=nl (by omega);by_cases c2:n>1
  ·rw[if_pos c2];show KW lt _ (if lt (gA p 0) (gA p (n-1))=true then _ else _);by_cases c3:lt (gA p 0) (gA p (n-1))=true
   ·rw[if_pos c3];exact⟨by omega,n1,nf,ns⟩
   ·rw[if_neg c3];have c3':=YV.mpr c3;have hs:n<=p.size:=by rw[nf.sz];omega
    have le0:∀i,i<n->lt (gA p i) (gA p 0)=false:=fun i hi=>by
     rcases Nat.eq_zero_or_pos i with z|z
     ·subst z;cases e:lt (gA p 0) (gA p 0)with
      |false=>rfl
      |true=>rw[O.as e]at e;cases e
     ·exact(ns 0 i z hi).1
    have leN:∀i,i<n->lt (gA p (n-1)) (gA p i)=false:=fun i hi=>by
     rcases Z0 i (n-1)with z|z
     ·exact(ns i (n-1) z (by omega)).1
     ·have e:i=n-1:=by omega
      subst e;cases e:lt (gA p (n-1)) (gA p (n-1))with
      |false=>rfl
      |true=>rw[O.as e]at e;cases e
    have all:∀i j,i<n->j<n->lt (gA p i) (gA p j)=false:=fun i j hi hj=>O.tr (leN j hj) (O.tr c3' (le0 i hi));refine iD O n1 nN (nf.rev (Ze _) (by omega)) (fun i j hij hj=>?_) ?_
    ·rw[bK hs,bK hs,if_pos (by omega),if_pos (by omega)];have z:=ns (0+n-1-j) (0+n-1-i) (by omega) (by omega);refine⟨all _ _ (by omega) (by omega),?_⟩;rcases z.2 with y|y
     ·rw[all _ _ (by omega) (by omega)]at y;cases y
     ·exact .inr y
    ·rw[bK hs,bK hs,if_neg (by omega),if_pos (by omega)];exact O.lt_le hl (all _ _ (by omega) (by omega))
  ·rw[if_neg c2];have e:n=1:=by omega
   subst e;exact iD O n1 nN nf (fun i j h1 h2=>absurd h1 (by omega)) hl
theorem iT{p:Array Nat}{k:Nat}(hs:LS lt p k):∀(f l r:Nat),r-l<=f->r<=k->(∀i,i<l->i<k->lt (gA p k) (gA p i)=false)->(∀i,r<=i->i<k->lt (gA p k) (gA p i)=true)->l<=r ->
  KW lt (fun m=>m<=k/\(∀i,i<m->lt (gA p k) (gA p i)=false)/\∀i,m<=i->i<k->lt (gA p k) (gA p i)=true) (kas_place p k f l r)
 |0,l,r,h1,h2,h3,h4,h5=>⟨by omega,fun i hi=>h3 i hi (by omega),fun i hi=>h4 i (by omega)⟩
 |f+1,l,r,h1,h2,h3,h4,h5=>by
  show KW lt _ (if l>=r then KasT.ret l else KasT.ask (gA p k) (gA p ((l+r) / 2)) fun c=>if c=true then kas_place p k f l ((l+r) / 2)else kas_place p k f ((l+r) / 2+1) r);by_cases c:l>=r
  ·rw[if_pos c];exact⟨by omega,fun i hi=>h3 i hi (by omega),fun i hi=>h4 i (by omega)⟩
  ·rw[if_neg c];show KW lt _ (if lt (gA p k) (gA p ((l+r) / 2))=true then _ else _);by_cases d:lt (gA p k) (gA p ((l+r) / 2))=true
   ·rw[if_pos d];refine iT hs f l ((l+r) / 2) (by omega) (by omega) h3 (fun i hi hk=>?_) (by omega);rcases Nat.eq_or_lt_of_le hi with e|e
    ·rw[<-e];exact d
    ·exact O.lt_le d (hs _ _ e hk).1
   ·rw[if_neg d];have d':=YV.mpr d;refine iT hs f ((l+r) / 2+1) r (by omega) h2 (fun i hi hk=>?_) h4 (by omega);rcases Z0 i ((l+r) / 2)with e|e
    ·exact O.tr (hs _ _ e (by omega)).1 d'
    ·have e:i=(l+r) / 2:=by omega
     rw[e];exact d'
end
open PySem PySem.Spec PyProof.Rows PySem.W
def Ite(K:PySem.W.Frag)(a:Addr)(xs:List V):It :=
 ⟨fun i H=>i<xs.length/\SqL K H a xs,fun i H x H'=>∃T p,H T=none/\xs[i]?=some p/\x=.ref T/\H'=upd H T (.tup [.int i,p]),fun i H=>i=xs.length/\SqL K H a xs⟩
abbrev eTn(e it a:Addr):Nat->Heap->Prop:=fun i h=>(∃old,IsEnum h e it i old)/\h.IsListIter it a i
theorem um{P:Program}{w:World}{K:PySem.W.Frag}{elts:List Expr}{kt:Nat}{tp:Pos}{e it a:Addr}{xs:List V}(ne:e≠it)(ha:e≠a/\it≠a) :
  Turn P w K (.Tuple elts kt tp) (Ite K a xs) [e,it] e (eTn e it a):=by
 refine⟨by simp,fun i h st c hc=>?_,fun i h h' st k=>?_,?_,?_,fun A i s Q E st h=>?_⟩
 ·obtain⟨⟨old,e1⟩,⟨o4,e4,_,d4⟩⟩:=st;simp only[Zq,Z3,or_false]at hc;rcases hc with rfl|rfl
  ·exact⟨_,e1,fun v z=>nomatch z⟩
  ·exact⟨_,e4,fun v z=>by rw[d4]at z;cases z⟩
 ·obtain⟨⟨old,e1⟩,⟨o4,e4,r4⟩⟩:=st;exact⟨⟨old,k e (by simp) _ e1⟩,⟨o4,k it (by simp) _ e4,r4⟩⟩
 ·intro X hP hw hK hc i pins s σ H E I hf st hg;subst hP hw hK;obtain⟨⟨old,e1⟩,e4⟩:=st;obtain⟨hi,hx⟩:=hg;obtain⟨its,rx,px,zx⟩:=I.list hx;have lx:i<its.toArray.size:=by rw[Zj,<-rx.length];exact hi
  have hh:=I.ok.hd hc;refine wpAny_pyNext_enum_itemD (Draws.list (A:=X.A.in1) hh it a ha.2.symm its.toArray) e1 ⟨e4,px.isList⟩ lx ne (by simp[ne,ha.1]) fun x h' tk qx ho hs' hT hsz hk=>?_;refine⟨_,rfl,wpAny_letOwnedTupleGo_enum (s:={ s with heap:=h',toks:=tk+1 }) ho fun h2 he2 sb=>?_⟩;obtain⟨xv,ex⟩:∃xv,xs[i]?=some xv:=⟨xs[i],by simp[hi]⟩
  obtain⟨x',gx,rxv⟩:=rx.get ex;have qx':its[i]?=some x:=by simpa using qx
  rw[gx]at qx';cases qx';have lte:e<s.heap.objs.size:=Zm e1;have kp2:∀c o,c∉[e,it]->s.heap.get? c=some o->h2.get? c=some o:=fun c o hc q=>by simp only[Zq,Z3,or_false,not_or]at hc;exact sb.extBut c o hc.1 (hk c o hc.1 hc.2 q)
  have tT:IsTup h2 s.heap.objs.size [.int i tk,x].toArray:=⟨_,sb.extBut _ _ (Yh lte) hT,rfl,_,rfl⟩
  refine⟨.ref s.heap.objs.size,upd H s.heap.objs.size (.tup [.int i,xv]),I.turnT (t':=tk+1) hf kp2 tT (.cons ⟨tk,rfl⟩ (.cons rxv .nil)) (sz rfl),rfl,⟨_,xv,I.hok.fresh (Ze _),ex,rfl,rfl⟩,?_,fun c hc=>?_⟩
  ·exact⟨⟨_,by simpa using he2⟩,hs'.1.extBut sb.extBut ne.symm⟩
  ·rw[af]
   ·exact(hf c hc).1
   ·obtain⟨o,eo⟩:∃o,s.heap.get? c=some o:=by
     simp only[Zq,Z3,or_false]at hc;rcases hc with rfl|rfl
     ·exact⟨_,e1⟩
     ·obtain⟨o,eo,_⟩:=e4;exact⟨o,eo⟩
    exact ZA (Zm eo)
 ·intro X hP hw hK hc i pins s σ H E I hf st hg;subst hP hw hK;obtain⟨⟨old,e1⟩,e4⟩:=st;obtain⟨rfl,hx⟩:=hg;obtain⟨its,rx,px,zx⟩:=I.list hx;have lx:its.toArray.size=xs.length:=by rw[Zj,<-rx.length]
  have hh:=I.ok.hd hc;refine wpAny_pyNext_enum_endD (Draws.list (A:=X.A.in1) hh it a ha.2.symm its.toArray) e1 ⟨by rw[lx];exact e4,px.isList⟩ fun h' kp=>⟨rfl,?_⟩
  exact I.turnM (t':=s.toks) hf fun c ob hc q=>by simp only[Zq,Z3,or_false,not_or]at hc;exact kp c ob hc.2 q
 ·obtain⟨⟨old,e1⟩,_⟩:=st;exact wpAny_pyIter_enum e1 h
def wN(K:PySem.W.Frag)(ta:TA):TI:=fun σ H R=>ta σ H fun vs H1=>∃a xs,vs=[.ref a]/\H1 a=some (.lst xs)/\R (Ite K a xs) H1
section
variable{X:Cx}
theorem yy{e1:Expr}{ta:TA}{p pos tp:Pos}{elts:List Expr}{kt:Nat}(hg:Gl X "enumerate")(hm:X.mg "enumerate" = none)(ha:PA X [e1] ta)(n1:aJ e1=true):PI X (.Tuple elts kt tp) (.Call (.Name "enumerate" p) [e1] [] pos) (wN X.K ta):=by
 intro pins s σ H R I h;refine Call_ (fi I hg hm boot_enumerate (YR (thn (ha pos pins s σ H _ I h) fun us s1 hz9=>?_) (aQ n1) (aW (by simp))));obtain⟨vs,H1,I1,r1,q1⟩:=hz9;obtain⟨a,xs,e,hx,q⟩:=q1;subst e;obtain⟨ua,rfl,ra⟩:=cQ r1;cases ra;obtain⟨z,its,n,rx,hl',eo⟩:=I1.lstM hx;have la:a<s1.heap.objs.size:=Zm eo;refine call_enumerate_1 eo fun h' he hl hz hk=>wpAny_pyIter_enum he ?_;refine⟨s1.heap.objs.size+1,[s1.heap.objs.size+1,s1.heap.objs.size],eTn (s1.heap.objs.size+1) s1.heap.objs.size a,_,H1,rfl,I1.kept (t':=s1.toks) hk,um (Nat.succ_ne_self _) ⟨Yh (Nat.lt_succ_of_lt la),Yh la⟩,⟨⟨_,he⟩,hl⟩,fun c hc=>?_,q⟩;have hc':s1.heap.objs.size<=c:=by
  simp only[Zq,Z3,or_false]at hc;rcases hc with rfl|rfl
  ·exact Nat.le_succ _
  ·exact Ze _
 exact I1.fpOk hc' (I1.hok.fresh hc')
theorem Ad{e1:Expr}{ta:TA}{p pos tp:Pos}{elts:List Expr}{kt:Nat}(hm:X.mg "enumerate" = none)(ha:QA X [e1] ta)(hg:Gl X "enumerate":=by rfl)(n1:aJ e1=true:=by rfl):QI X (.Tuple elts kt tp) (.Call (.Name "enumerate" p) [e1] [] pos) (wN X.K ta):=⟨yy hg hm ha.h n1⟩
end
theorem uW{K:PySem.W.Frag}{a:Addr}{xs:List V}{i j:Nat}{tb:TS}{D:Ends}{σ:St}{H:Hp}(Pv:Nat->St->Hp->Prop)(h0:Pv 0 σ H)(ha:∀i σ H,i<=xs.length->Pv i σ H->SqL K H a xs)(hs:∀k x σ H,xs[k]?=some x->Pv k σ H->∀T,H T=none->tb { D with nx:=Pv (k+1),ct:=Pv (k+1),bk:=D.nx } ((σ.set i (some (.int k))).set j (some x)) (upd H T (.tup [.int k,x])))(hd:∀σ H,Pv xs.length σ H->D.nx σ H) :
  ∃W:Nat->Nat->St->Hp->Prop,(∃m,W 0 m σ H)/\∀k m σ H,W k m σ H ->
   ((Ite K a xs).stop k H/\D.nx σ H)\/((Ite K a xs).go k H/\∃N:St->Hp->Prop,(∀σ' H',N σ' H'->∃m',m'<m/\W (k+1) m' σ' H')/\∀x H',(Ite K a xs).yld k H x H'->iR K 2 (di (br i) (di (br j) iQ)) x σ H' fun σ2 H2=>tb { D with nx:=N,ct:=N,bk:=D.nx } σ2 H2):=by
 refine⟨fun k m σ H=>m=xs.length-k/\k<=xs.length/\Pv k σ H,⟨xs.length,by simp,ZP _,h0⟩,?_⟩;rintro k m σ H ⟨rfl,hk,pv⟩;by_cases hlt:k<xs.length
 ·refine .inr ⟨⟨hlt,ha k σ H hk pv⟩,Pv (k+1),fun σ' H' z=>⟨xs.length-(k+1),by omega,rfl,hlt,z⟩,fun x H' y=>?_⟩;obtain⟨T,p,hT,hx,rfl,rfl⟩:=y;exact⟨T,[.int k,p],rfl,SqT.of ad,rfl,.int k,[p],rfl,p,[],rfl,rfl,hs k p σ H hx pv T hT⟩
 ·have e:k=xs.length:=by omega
  subst e;exact .inl ⟨⟨rfl,ha _ σ H hk pv⟩,hd σ H pv⟩
open PySem PySem.Spec PyProof.Rows PySem.W
section
variable{X:Cx}{pins:List (Addr×Obj)}{σ:St}{H:Hp}{s:Shared}{h':Heap}
theorem Inv.movedF{ch:List Addr}{t':Nat}(I:Inv X pins σ H s)(hch:∀b∈ch,aV X pins H b)(k:∀b u,b≠X.env.locals->b∉ch->s.heap.get? b=some u->h'.get? b=some u)(hn:∃m,s.heap.Ns X.env.locals m/\h'.Ns X.env.locals m):Inv X pins σ H { s with heap:=h',toks:=t' }:=by
 have neL:∀{b:Addr} {u:HO},H b=some u->b≠X.env.locals:=fun{b u} e=>al e I.free;have neC:∀{b:Addr} {u:HO},H b=some u->b∉ch:=fun{b u} e z=>by have:=(hch b z).1;rw[e]at this;cases this
 refine I.step (g':=s.gens) (d':=s.drawn) (ch:=ch) (fun b hb=>⟨(hch b hb).2.2.2.1,(hch b hb).2.1,(hch b hb).2.2.2.2.1,(hch b hb).2.2.2.2.2⟩) (fun b o hL _ hc e _=>k b o hL hc e) (fun b o hL _ hc e _=>⟨o.slots,k b o hL hc e⟩) (fun b o _ e n=>n) (fun b o hc e=>?_)
  (fun b xs e=>e) (fun b o u e=>e) (fun b ps e=>⟨#[],by rw[e];simp⟩) (fun m' hm'=>?_) (fun b u e=>?_) I.bare
 ·by_cases hL:b=X.env.locals
  ·obtain⟨m,_,o',_,_,e',_⟩:=hn;exact⟨o',by rw[hL];exact e'⟩
  ·exact⟨o,k b o hL hc e⟩
 ·obtain⟨m,h1,h2⟩:=hn;rw[hm'.eq_nsMap,<-h1.eq_nsMap];exact h2
 ·refine(I.hok b u e).stay (fun c v hc q=>k c v ?_ ?_ q) (fun c q=>q) fun c ys q=>q
  ·rcases hc with z|z
   ·rw[z];exact neL e
   ·exact neL z
  ·rcases hc with z|z
   ·rw[z];exact neC e
   ·exact neC z
theorem Inv.tookF{ch:List Addr}{a:Addr}{o:HO}{t':Nat}(I:Inv X pins σ H s)(ha:a∈ch)(hch:∀b∈ch,aV X pins H b)(k:∀b u,b≠X.env.locals->b∉ch->s.heap.get? b=some u->h'.get? b=some u)(hn:∃m,s.heap.Ns X.env.locals m/\h'.Ns X.env.locals m)(new:ObjOk X.prog X.w (upd H a o) h' a o):Inv X pins σ (upd H a o) { s with heap:=h',toks:=t' }:=by
 have fr:=(hch a ha).1;have ne:∀{b:Addr} {u:HO},H b=some u->b≠a:=fun{b u} e=>al e fr;have neL:∀{b:Addr} {u:HO},H b=some u->b≠X.env.locals:=fun{b u} e=>al e I.free;have neC:∀{b:Addr} {u:HO},H b=some u->b∉ch:=fun{b u} e z=>by have:=(hch b z).1;rw[e]at this;cases this
 refine I.step (g':=s.gens) (d':=s.drawn) (ch:=ch) (fun b hb=>⟨(hch b hb).2.2.2.1,(hch b hb).2.1,(hch b hb).2.2.2.2.1,(hch b hb).2.2.2.2.2⟩) (fun b o hL _ hc e _=>k b o hL hc e) (fun b o hL _ hc e _=>⟨o.slots,k b o hL hc e⟩) (fun b o hc e n=>by rw[af (fun z:b=a=>hc (by rw[z];exact ha))];exact n) (fun b o hc e=>?_)
  (fun b xs e=>by rw[af (ne e)];exact e) (fun b o u e=>by rw[af (ne e)];exact e) (fun b ps e=>⟨#[],by rw[af (ne e),e];simp⟩) (fun m' hm'=>?_) (fun b u e=>?_) I.bare
 ·by_cases hL:b=X.env.locals
  ·obtain⟨m,_,o',_,_,e',_⟩:=hn;exact⟨o',by rw[hL];exact e'⟩
  ·exact⟨o,k b o hL hc e⟩
 ·obtain⟨m,h1,h2⟩:=hn;rw[hm'.eq_nsMap,<-h1.eq_nsMap];exact h2
 ·by_cases hb:b=a
  ·subst hb;rw[ad]at e;cases e;exact new
  ·rw[af hb]at e;refine(I.hok b u e).stay (fun c v hc q=>k c v ?_ ?_ q) (fun c q=>by rw[af (ne q)];exact q) fun c ys q=>by rw[af (ne q)];exact q
   ·rcases hc with z|z
    ·rw[z];exact neL e
    ·exact neL z
   ·rcases hc with z|z
    ·rw[z];exact neC e
    ·exact neC z
def dU(base h:Heap)(L kS:Addr):List (Addr×Obj):=(nI base h L).filter fun p=>decide (p.1≠kS)
theorem eh{base h:Heap}{L kS:Addr}{o:Obj}(e:h.get? kS=some o)(hL:kS≠L)(hb:base.get? kS=none):News base L h ((kS,o)::dU base h L kS):=fun p hp=>by
 rcases Zq.mp hp with rfl|hp
 ·exact⟨e,hL,hb⟩
 ·exact iJ base h L p (List.mem_filter.mp hp).1
theorem fX{base h:Heap}{L kS:Addr}:∀p∈dU base h L kS,p.1≠kS:=fun p hp=>of_decide_eq_true (List.mem_filter.mp hp).2
theorem dZ{base h h2:Heap}{L kS:Addr}{o':Obj}{m:Str->Option Value}(hbk:∀b o,base.get? b=some o->h.get? b=some o)(F:Fr base L h2 m)(N:News base L h2 ((kS,o')::dU base h L kS)):∀b u,b≠L->b∉[kS]->h.get? b=some u->h2.get? b=some u:=fun b u hL hk e=>by
 cases q:base.get? b with
 |none=>exact(N (b,u) (.tail _ (List.mem_filter.mpr ⟨dN e hL q,decide_eq_true (fun z=>hk (ZK.mpr z))⟩))).1
 |some o =>have e':=hbk b o q;rw[e]at e';cases e';exact F.keep b u q
structure SK(X:Cx)(pins:List (Addr×Obj))(σ:St)(H1:Hp)(m:Str->Option Value)(kS D:Addr)(e1:Nat)(ks:List (List Int))(as:List Addr)(e:Nat)(H:Hp)(s:Shared):Prop where
 I:Inv X pins σ H s
 sm:Same H1 H
 fk:aV X pins H kS
 fd:aV X pins H D
 bk:X.base.get? kS=none
 bd:X.base.get? D=none
 hk:s.heap.get? kS=some (seqObj "list" (List.toArray (as.map Value.ref)) e)
 hd:s.heap.get? D=some (seqObj "list" #[] e1)
 ns:s.heap.Ns X.env.locals m
 keys:∀(i:Nat) (a:Addr) (k:List Int),as[i]?=some a->ks[i]?=some k->H a=some (.tup (k.map V.int))
end
open PySem PySem.Spec PyProof.Rows PySem.W
theorem sD:∀{a b:List Int},HT.lexLt a b=true->HT.lexLt b a=false
 | [],[],h=>by cases h
 | [],_::_,_=>rfl
 |_::_,[],h=>by cases h
 |x::a,y::b,h=>by
  rw[HT.lexLt_cons]at h ⊢;by_cases e:x=y
  ·subst e;rw[if_pos rfl]at h ⊢;exact sD h
  ·rw[if_neg e]at h;rw[if_neg (fun z=>e z.symm)];have:=of_decide_eq_true h;exact decide_eq_false (by omega)
theorem sE:∀{a b c:List Int},HT.lexLt b a=false->HT.lexLt c b=false->HT.lexLt c a=false
 | [],[],[],_,_=>rfl
 | [],[],_::_,_,_=>rfl
 | [],_::_,[],_,h=>by cases h
 | [],_::_,_::_,_,_=>rfl
 |_::_,[],_,h,_=>by cases h
 |_::_,_::_,[],_,h=>by cases h
 |x::a,y::b,z::c,h,k=>by
  rw[HT.lexLt_cons]at h k ⊢;by_cases e:y=x
  ·subst e;rw[if_pos rfl]at h;by_cases e2:z=y
   ·rw[if_pos e2]at k ⊢;exact sE h k
   ·rw[if_neg e2]at k ⊢;exact k
  ·rw[if_neg e]at h;have h':=of_decide_eq_false h;by_cases e2:z=y
   ·rw[if_neg (by omega)];exact decide_eq_false (by omega)
   ·rw[if_neg e2]at k;have k':=of_decide_eq_false k;rw[if_neg (by omega)];exact decide_eq_false (by omega)
theorem Ao(ks:List (List Int)):LtOk (fun i j=>HT.lexLt (ks.getD i []) (ks.getD j [])):=⟨sD,sE⟩
section
variable{X:Cx}{pins:List (Addr×Obj)}{σ:St}{H:Hp}{s:Shared}
def wX(X:Cx)(l:List Addr):Cx:={ X with ex:=l++X.ex }
structure ExOk(X:Cx)(b:Addr):Prop where
 old:b∈X.ex\/X.s₀.heap.get? b=none
 loc:b≠X.env.locals
 cel:∀x c,X.env.cells.lookup x=some c->c≠b
 bas:X.base.get? b=none
 fs:b∉X.fs
theorem Inv.widen{l:List Addr}(I:Inv X pins σ H s)(hl:∀b∈l,ExOk X b):Inv (wX X l) pins σ H s:=by
 have ok:(wX X l).Ok:=by
  have o:=I.ok;refine⟨o.mod,o.kind,o.glob,o.blt,o.above,o.inj,o.has,o.cab,o.hd,o.frames,o.stk,fun b hb=>?_,o.bs,o.bsz,fun b ob hb z=>?_,fun b hb=>?_,o.funs,o.frf⟩
  ·rcases ZD.mp hb with h|h
   ·exact⟨(hl b h).loc,(hl b h).cel⟩
   ·exact o.exf b h
  ·rcases ZD.mp z with h|h
   ·have hb':X.base.get? b=some ob:=hb;rw[(hl b h).bas]at hb';cases hb'
   ·exact o.noex b ob hb h
  ·rcases ZD.mp hb with h|h
   ·exact(hl b h).fs
   ·exact o.exfs b h
 have ne:∀{b:Addr},b∉l++X.ex->b∉X.ex:=fun h z=>h (ZE _ z);have u:=I.base;exact⟨ok,I.os,I.bare,⟨fun b o e n hb hx=>u.keep b o e n hb (ne hx),fun b o e n hb hx=>u.slot b o e n hb (ne hx),fun b o e n hx=>u.free b o e n (ne hx),fun b o e hx=>u.there b o e (ne hx),u.tups,u.frzs,u.tbls⟩,I.loc,I.cell,I.free,I.freeC,I.pin,I.hok,I.len⟩
theorem Inv.narrow{l:List Addr}(I:Inv (wX X l) pins σ H s)(ok:X.Ok)(hl:∀b∈l,b∈X.ex\/X.s₀.heap.get? b=none):Inv X pins σ H s:=by
 have ne:∀{b:Addr} {o:Obj},X.s₀.heap.get? b=some o->b∉X.ex->b∉l++X.ex:=fun{b o} e h z=>by
  rcases ZD.mp z with z|z
  ·rcases hl b z with y|y
   ·exact h y
   ·rw[y]at e;cases e
  ·exact h z
 have u:=I.base;exact⟨ok,I.os,I.bare,⟨fun b o e n hb hx=>u.keep b o e n hb (ne e hx),fun b o e n hb hx=>u.slot b o e n hb (ne e hx),fun b o e n hx=>u.free b o e n (ne e hx),fun b o e hx=>u.there b o e (ne e hx),u.tups,u.frzs,u.tbls⟩,I.loc,I.cell,I.free,I.freeC,I.pin,I.hok,I.len⟩
theorem Inv.exOk(I:Inv X pins σ H s){b:Addr}(hb:s.heap.get? b=none)(hL:b≠X.env.locals)(h0:X.base.get? b=none):ExOk X b:=by
 have old:b∈X.ex\/X.s₀.heap.get? b=none:=by
  by_cases hx:b∈X.ex
  ·exact .inl hx
  ·cases e:X.s₀.heap.get? b with
   |none=>exact .inr rfl
   |some o =>obtain⟨o',e'⟩:=I.base.there b o e hx;rw[hb]at e';cases e'
 refine⟨old,hL,fun x c e z=>?_,h0,fun z=>?_⟩
 ·obtain⟨v,o,ho,_⟩:=I.cell x c e;rw[z,hb]at ho;cases ho
 ·obtain⟨_,o,ho,_⟩:=I.ok.funs.mem z;rcases old with y|y
  ·exact I.ok.exfs b y z
  ·rw[y]at ho;cases ho
theorem Inv.fpW{l:List Addr}(I:Inv X pins σ H s){b:Addr}(hm:b∈l)(x:ExOk X b)(hb:s.heap.get? b=none):aV (wX X l) pins H b:=by refine⟨none_of I hb,x.loc,x.fs,.inl (List.mem_append_left _ hm),x.cel,fun p hp z=>?_⟩;have:=(I.pin p hp).1;rw[z,hb]at this;cases this
end
open PySem PySem.Spec PyProof.Rows PySem.W
section
variable{X:Cx}{o i value:Expr}{pos pos':Pos}{td ty tv:TE}
theorem jL:QE X (.Dict [] [] pos) ue:=⟨vE⟩
theorem fu(hu:X.A.units+64<cLine)(ho:QE X o td)(hi:QE X i ty)(hs:uF i:=by intro _ _;rfl):QE X (.Subscript o i pos) (xr td ty):=⟨yt (by omega) ho.h hi.h hs⟩
theorem wY(hu:X.A.units+64<cLine)(hi:QE X i ty)(ho:QE X o td)(hm:behindInMarks .In o=false:=by with_unfolding_all rfl):QE X (.Compare i [.In] [o] pos) (wj ty td):=⟨AT (sW (by omega) hi.h ho.h) hm⟩
theorem CM(hu:X.A.units+64<cLine)(hi:QE X i ty)(ho:QE X o td)(hm:behindInMarks .In o=false:=by with_unfolding_all rfl):QT X (.Compare i [.In] [o] pos) (tB (wj ty td)):=⟨tH (sW (by omega) hi.h ho.h) hm⟩
theorem wn(hu:X.A.units+64<cLine)(hi:QE X i ty)(ho:QE X o td)(hm:behindInMarks .NotIn o=false:=by with_unfolding_all rfl):QT X (.Compare i [.NotIn] [o] pos) (tB (pR ty td)):=⟨tH (sZ (by omega) hi.h ho.h) hm⟩
theorem fw(hu:X.A.units+64<cLine)(ho:QE X o td)(hi:QE X i ty)(hv:QE X value tv)(hs:swapsWith value (some (.Subscript o i pos')) pos.line X.env=pure false:=by rfl):QS X (.Assign [.Subscript o i pos'] value pos) (xj td ty tv):=⟨yG (by omega) ho.h hi.h hv.h hs⟩
end
open PySem PySem.Spec PyProof.Rows PySem.W
open PySem PySem.Spec PyProof.Rows PySem.W
open PySem PySem.Spec PyProof.Rows PySem.W
open Classical in
noncomputable def gB(h:Heap)(dx:PyData)(u:Value):Bool:=decide (∃d as,Reads h u d as/\PyData.canLay0 d=true/\PyData.eqv d dx=true)
open Classical in
theorem ke{h:Heap}{dx d:PyData}{u:Value}{as:List Addr}(r:Reads h u d as)(hl:d.canLay0=true):gB h dx u=PyData.eqv d dx:=by
 unfold gB;cases e:PyData.eqv d dx with
 |true=>exact decide_eq_true ⟨d,as,r,hl,e⟩
 |false =>refine decide_eq_false ?_;rintro⟨d',as',r',l',e'⟩;rw[SeqAt.Reads.unique d d' u as as' hl r r',e']at e;cases e
section
variable{P:Program}{w:World}{H:Hp}{h:Heap}
theorem fK(ok:HOk P w H h):∀{ds:List PyData} {xs:List V} {us:List Value},DtAll H ds xs->Vals xs us->PyData.canLayAll0 ds=true->∀dx:PyData,us.any (gB h dx)=ds.any (fun d=>PyData.eqv d dx)/\us.countP (gB h dx)=ds.countP (fun d=>PyData.eqv d dx)/\∀u∈us,∃d as,d∈ds/\Reads h u d as/\d.canLay0=true
 | [],xs,us,hd,r,_,dx=>by
  have e:xs=[]:=by simpa only[DtAll]using hd
  subst e;cases r;exact⟨rfl,rfl,fun u hu=>nomatch hu⟩
 |d::ds,xs,us,hd,r,hl,dx=>by
  have e:∃y ys,xs=y::ys/\Dt H d y/\DtAll H ds ys:=by simpa only[DtAll]using hd
  obtain⟨y,ys,rfl,h1,h2⟩:=e;cases r with
  |cons r1 r2 =>
   have hl':d.canLay0=true/\PyData.canLayAll0 ds=true:=by simpa[PyData.canLayAll0]using hl
   obtain⟨as,q1⟩:=Dt.reads ok d y _ h1 r1;obtain⟨i1,i2,i3⟩:=fK ok h2 r2 hl'.2 dx;refine⟨by rw[YU,YU,ke q1 hl'.1,i1],by rw[List.countP_cons,List.countP_cons,ke q1 hl'.1,i2],fun u hu=>?_⟩;rcases Zq.mp hu with rfl|hu
   ·exact⟨d,as,by simp,q1,hl'.1⟩
   ·obtain⟨d',as',m,z⟩:=i3 u hu;exact⟨d',as',by simp[m],z⟩
end
section
variable{X:Cx}
def Bw(K:PySem.W.Frag)(neg:Bool):R2:=fun x y H Q=>∃(p:Addr) (xs:List V) (dx:PyData) (ds:List PyData),y=.ref p/\SqL K H p xs/\Dt H dx x/\DtAll H ds xs/\SeqAt.shaped dx=true/\PyData.canLayAll0 ds=true/\Q (.bl (if neg then !(ds.any fun d=>PyData.eqv d dx)else ds.any fun d=>PyData.eqv d dx)) H
theorem rV{pins:List (Addr×Obj)}{σ:St}{H:Hp}{s:Shared}{A:Around}{dx:PyData}{x:V}{v:Value}{ds:List PyData}{xs:List V}{us:List Value}(I:Inv X pins σ H s)(hu:A.units+64<cLine)(h1:Dt H dx x)(rx:RelV x v)(h2:DtAll H ds xs)(r:Vals xs us)(s1:SeqAt.shaped dx=true)(s2:PyData.canLayAll0 ds=true):∀u∈us,SeqAt.EqAt A s u v (gB s.heap dx u):=fun u hu'=>by obtain⟨_,_,z⟩:=fK I.hok h2 r s2 dx;obtain⟨d,as,_,q1,q2⟩:=z u hu';obtain⟨bs,q3⟩:=Dt.reads I.hok dx x v h1 rx;rw[ke q1 q2];refine SeqAt.eqAt_reads d dx A s u v as bs q1 q3 q2 (SeqAt.canLay_of_shaped s1) ?_;have d1:=SeqAt.depth_of_shaped s1;have d2:min d.depth dx.depth<=dx.depth:=Nat.min_le_right _ _;omega
theorem AI(hu:X.A.in1.units+64<cLine):OpR X (compareOp .In) (Bw X.K false):=by intro pins s σ H x y v u Q I rx ry h;obtain⟨p,xs,dx,ds,rfl,hq,h1,h2,s1,s2,q⟩:=h;cases ry;obtain⟨its,r,pl,hz⟩:=I.list hq;refine SeqAt.in_listAt (gB s.heap dx) pl.isList (fun w hw=>rV I hu h1 rx h2 r s1 s2 w (by simpa using hw)) ⟨.bl _,H,I,rfl,?_⟩;rw[show its.toArray.any (gB s.heap dx)=its.any (gB s.heap dx) by simp,(fK I.hok h2 r s2 dx).1];exact q
theorem Cq{k:Nat}(hr:Room k X.A):QOp X (compareOp .In) (Bw X.K false):=⟨AI (by have:=hr.un;show X.A.units+_+64<_;omega)⟩
end
open PySem PySem.Spec PyProof.Rows PySem.W
section
variable{X:Cx}
structure QPs(X:Cx)(pos:Pos)(keys:List (Option Expr))(values:List Expr)(trs:List (TE×TE)):Prop where
 h:PPs X pos keys values trs
end
open PySem PySem.Spec PyProof.Rows PySem.W
open PySem PySem.Spec PyProof.Rows PySem.W
structure MFn(P:Program)(w:World)(K:PySem.W.Frag)(mg:Str->Option Value)(base:Heap)(k:Nat)(C:Addr)(m:Str)(ps:List Str)(sp:Sp):Prop where
 cl:Cls K C
 ex:∃f fd,FnOk P w K mg base CX0 k f fd ps sp/\Meth K C m f/\Binds K fd ps []
structure MkFn(P:Program)(w:World)(K:PySem.W.Frag)(mg:Str->Option Value)(base:Heap)(k:Nat)(C:Addr)(x:Str)(ps:List Str)(sp:Sp):Prop where
 cl:Cls K C
 mgC:mg x=some (.ref C)
 ex:∃f fd,FnOk P w K mg base CX0 k f fd ps sp/\Mk K C f/\Binds K fd ps []
section
variable{X:Cx}{k:Nat}{C:Addr}{m x f:Str}{p pos pos' apos:Pos}{o e value:Expr}{es:List Expr}{ps:List Str}{sp:Sp}{t:TA}{ta tv:TE}
theorem eU(he:QE X e ta)(hb:attributeBase e f X.env (eval e X.env)=eval e X.env:=by rfl):QE X (.Attribute e f pos) (BN X.K ta f):=⟨AU he.h hb⟩
theorem xm(ha:QE X o ta)(hv:QE X value tv)(hs:swapsWith value (some (.Attribute o f pos')) pos.line X.env=pure false:=by rfl):QS X (.Assign [.Attribute o f pos'] value pos) (BD X.K ta tv f):=⟨Bk ha.h hv.h hs⟩
theorem dw{pl:Sem Bool}(F:MFn X.prog X.w X.K X.mg X.base k C m ps sp)(hr:Room k X.A)(he:QE X o ta)(ha:QA X (e::es) t)(hs:(e::es).all aJ=true:=by rfl)(ht:eval (.Call (.Attribute o m apos) (e::es) [] pos) X.env=(do
   let ov ←eval o X.env
   standAt apos.atName
   let(f,first) ←holding [ov] (getMethod ov m pl)
   callWith pos f first (backTo pos (starEach (e::es) X.env)) (backToKw pos (keywordEach [] X.env))):=by rfl) :
  QE X (.Call (.Attribute o m apos) (e::es) [] pos) (rA C m sp [] E0 ta t):=by
 obtain⟨f,fd,G,hm,b⟩:=F.ex;rw[YJ,ZB]at hs;exact⟨pq (pl:=pl) he.h F.cl hm G hr b .nil jJ ha.h (aQ hs.1) (aW hs.2) ht⟩
theorem yN(F:MkFn X.prog X.w X.K X.mg X.base k C x ps sp)(hr:Room (k+1) X.A)(hg:Gl X x:=by rfl)(hdb:(x==("__debug__":Str))=false:=by decide):QE X (.Call (.Name x p) [] [] pos) (xw C sp [] E0 jh):=by obtain⟨f,fd,G,hm,b⟩:=F.ex;exact⟨vG hm G hr hg F.mgC b .nil jJ hdb⟩
end
def DRaw(h:Heap)(d:Addr)(es:Array DictEntry)(ep:Nat):Prop:=∃o,h.get? d=some o/\o.ExactDict/\o.data=.dict es ep
theorem DRaw.type{s:Shared}{d:Addr}{es:Array DictEntry}{ep:Nat}(x:DRaw s.heap d es ep):s.TypeIs (.ref d) "dict":=let⟨o,ho,hc,_⟩:=x;⟨o,ho,hc.1⟩
section
variable{prog:Program}{w:World}{A:Around}{E:Value->Shared->Prop}{s:Shared}{d it:Addr}{es:Array DictEntry}{ep i:Nat}
theorem vW{Q:Value->Shared->Prop}(hd:(d==sysModules)=false)(hm:DRaw s.heap d es ep)(hQ:Q (.ref s.heap.objs.size) { s with heap:=s.heap.push { cls:=.type "dict_keyiterator",data:=.fields #[.ref d,.int 0 0,.int es.size 0,.int ep 0] } }) :
  wpAny (model prog w) A (pyIter (.ref d)) Q E s:=by
 obtain⟨o,ho,hc,hdat⟩:=id hm;refine wpAny_pyIter_slot hm.type PySem.F.slot_dict_iter (y0 PySem.F.slot_dict_iter hm.type PySem.F.entry_dict_iter ?_ (PySem.F.args_dict_iter_1 _));unfold Builtin.«dict.__iter__»;refine Za ?_;unfold Builtin.Dict.dictSlotNone;refine Za (wpAny_notOrdered_dict hm.type ?_);show wpAny _ _ (pure (Value.ref d)) _ _ s;refine Zd ?_;show wpAny _ _ (Builtin.Dict.showsAll d >>= _) _ _ s;unfold Builtin.Dict.showsAll;rw[if_neg (by rw[hd];exact Zs)];refine Za (Zd ?_);refine Za (Yk ho hdat ?_);refine Za (wpAny_dictEpoch ho hdat ?_);refine Za (ZY (Zd ⟨_,rfl,"dict_keyiterator",_,⟨_,Zr _ rfl,rfl⟩,Yc.lookup,?_⟩));simpa[rawInt]using hQ
theorem vV{Q:Option Value->Shared->Prop}(hit:s.heap.IsKeyIter it d i es.size ep)(hm:DRaw s.heap d es ep)(hx:i<es.size)(hQ:∀h',h'.IsKeyIter it d (i+1) es.size ep->Heap.SameBut it s.heap h'->Q (some es[i].key) { s with heap:=h' }):wpAny (model prog w) A (pyNext (.ref it)) Q E s:=by
 obtain⟨o,ho,hc,hd⟩:=id hit;obtain⟨od,hod,hcd,hdd⟩:=id hm;unfold pyNext;refine Za (wpAny_attempt (ZT (name:=Str.ofString "__next__") hit.typeIs Yc
  (y0 Yc hit.typeIs PySem.F.entry_dict_keyiterator_next ?_ (PySem.F.args_dict_keyiterator_next_1 _))))
 refine Za (Zd ?_);refine Za ?_;refine Za ?_
 first|refine Za (YK hit.typeIs (Zd ?_))|refine Za (wpAny_typeNameOf_keyiter hit.typeIs (Zd ?_))
 refine Za (wpAny_fieldsOf ho hd ?_);have hown:Builtin.Dict_items.ownsTuple "dict_keyiterator" = false:=by decide
 simp only[hown,YA,if_false];show wpAny _ _ (if(Value.ref d==Value.none)=true then _ else _) _ _ s;rw[if_neg (show¬((Value.ref d==Value.none)=true)from Zs)];refine Za (Zd ?_);refine Za (Yk hod hdd ?_);rw[if_neg (by simp)];refine Za (Zd ?_);refine Za (wpAny_dictEpoch hod hdd ?_);rw[if_neg (by simp)];refine Zd ?_;simp only[show¬((i:Int)<0)from by omega,if_false,Int.toNat_natCast,Array.getElem?_eq_getElem hx];refine Za ?_
 first|refine Za (YK hit.typeIs (Zd ?_))|refine Za (wpAny_typeNameOf_keyiter hit.typeIs (Zd ?_))
 refine Za (wpAny_isOneOf_keyiter hit.typeIs ?_);show wpAny _ _ (setField (.ref it) 1 (rawInt ((i:Int)+1)) >>= _) _ _ s;refine Za (YO ho hd (by simp) ?_);have hit':(s.heap.update it (Obj.mapFields (·.setIfInBounds 1 (rawInt ((i:Int)+1))))).IsKeyIter it d (i+1) es.size ep :=
  ⟨_,Yn _ ho (Obj.isFreed_of_fields (Yf hd _)),(Obj.cls_mapFields ..).trans hc,by rw[Yf hd];simp[rawInt]⟩
 refine Za (ZV ?_);refine Za (wpAny_isOneOf_keyiter (s:={ s with heap:=s.heap.update it (Obj.mapFields (·.setIfInBounds 1 (rawInt ((i:Int)+1)))) }) hit'.typeIs ?_);show wpAny _ _ (pure es[i].key) _ _ _;exact Zd (Zd ⟨_,rfl,Zd (hQ _ hit' (Z5 ..))⟩)
theorem yO{Q:Option Value->Shared->Prop}(hh:A.handled=none)(hit:s.heap.IsKeyIter it d es.size es.size ep)(hm:DRaw s.heap d es ep)(hQ:∀h',Heap.ExtBut it s.heap h'->Q none { s with heap:=h' }) :
  wpAny (model prog w) A (pyNext (.ref it)) Q E s:=by
 obtain⟨o,ho,hc,hd⟩:=id hit;obtain⟨od,hod,hcd,hdd⟩:=id hm;unfold pyNext;refine Za (wpAny_attempt (ZT (name:=Str.ofString "__next__") hit.typeIs Yc
  (y0 Yc hit.typeIs PySem.F.entry_dict_keyiterator_next ?_ (PySem.F.args_dict_keyiterator_next_1 _))))
 refine Za (Zd ?_);refine Za ?_;refine Za ?_
 first|refine Za (YK hit.typeIs (Zd ?_))|refine Za (wpAny_typeNameOf_keyiter hit.typeIs (Zd ?_))
 refine Za (wpAny_fieldsOf ho hd ?_);have hown:Builtin.Dict_items.ownsTuple "dict_keyiterator" = false:=by decide
 simp only[hown,YA,if_false];show wpAny _ _ (if(Value.ref d==Value.none)=true then _ else _) _ _ s;rw[if_neg (show¬((Value.ref d==Value.none)=true)from Zs)];refine Za (Zd ?_);refine Za (Yk hod hdd ?_);rw[if_neg (by simp)];refine Za (Zd ?_);refine Za (wpAny_dictEpoch hod hdd ?_);rw[if_neg (by simp)];refine Zd ?_;simp only[show¬((es.size:Int)<0)from by omega,if_false,Int.toNat_natCast,Array.getElem?_eq_none (Ze _)];refine Za ?_
 first|refine Za (YK hit.typeIs (Zd ?_))|refine Za (wpAny_typeNameOf_keyiter hit.typeIs (Zd ?_))
 show wpAny _ _ (setField (.ref it) 0 .none >>= _) _ _ s;refine Za (YO ho hd (by simp) ?_);show wpAny _ _ (newExc (.type "StopIteration") [] >>= _) _ _ _;refine Za ?_;simp only[newExc,newTuple];refine Za (ZY ?_ (by size_fits));refine Za (m:=firstArgMember _ _) (wpAny_of_eq (a:=Value.none) (by first|rfl|(simp only[firstArgMember];rfl)) ?_);refine ZY ?_ (by size_fits);simp only[raiseNew];refine Za (wpAny_handled ?_);rw[show A.in1.handled=none from hh];refine Za (Zd (wpAny_throw ?_));refine Za (wpAny_isInstance (T:="StopIteration") (b:=true) ⟨_,Zr _ rfl,rfl⟩ isSubtype_stop ?_);exact Zd (hQ _ (((Z5 ..).extBut.push _).push _))
end
def CJ(t:TS):TS:=fun D σ H=>∃Pv:St->Hp->Prop,t { D with nx:=Pv } σ H/\∀σ' H',Pv σ' H'->D.nx σ' H'
theorem fz{X:Cx}{st:Stmt}{t:TS}(h:QS X st t):QS X st (CJ t):=⟨fun pins s σ H D I ⟨Pv,h1,h2⟩=>thn (h.h pins s σ H _ I h1) fun fl s' q=>by
 cases fl with
 |next =>obtain⟨σ',H',I',q'⟩:=q;exact⟨σ',H',I',h2 _ _ q'⟩
 | _=>exact q⟩
open PySem PySem.Spec PyProof.Rows PySem.W
open PySem PySem.Spec PyProof.Rows PySem.W
section
variable{prog:Program}{w:World}{A:Around}{E:Value->Shared->Prop}{h:Heap}{g:Array GenState}{d:Drawn}{t:Nat}{os:OsState}
variable{nm q:Str}{C N:Addr}{bs bm bmB:List Value}{hdct:Bool}{sn:List Str}{sub:List Value}{ab:Bool}{col:Option Bool}{dd:Option Addr}{k0 k1 k2 k3 k5:Option Value}{B newId initId:String}
theorem jQ(F:ExcBaseFacts B newId initId bmB)(T:OwnTail h bmB bm){mN:Str->Option Value}{rest:List Value}{fI:Addr}{oI:Obj}{Q:PySem.Fin->Shared->Prop}(hC:h.get? C=some (excClassObj nm q C N bs bm hdct sn sub ab col dd k0 k1 k2 k3 k5 newId))(hn:h.Ns N mN)(hi:mN "__init__" = some (.ref fI))(hfI:h.get? fI=some oI)(hfc:oI.cls=.type "function")(hq:∀h' e,Heap.MadeExcOf h h' e (.ref C) rest->wpAny (model prog w) A (call (.ref fI) (.ref e::rest)) (fun r s'=>r=.none/\Q (.done (.ret (.ref e))) s') E ⟨h',g,d,t,os⟩)(hrest:rest.length<=sizeLine) :
  wpAny (model prog w) A (Builtin.«type.__call__» ⟨.ref C::rest,[]⟩) Q E ⟨h,g,d,t,os⟩:=by
 repeat(first|with_reducible refine YI hC ?_|with_reducible refine wpAny_madeBy_exc hC ?_|wp_step)
 refine codeAny_call_builtin_code (Code.quiet_builtin _ F.quiet) (wpAny_check_new_subT F T hC ?_);refine codeAny_exc_new_subT F T hC ?_ hrest;show wpAny _ _ _ _ _ _;have kp:∀b o,h.get? b=some o->((h.push { cls:=.type "tuple",data:=.seq rest.toArray }).push { cls:=.ref C,data:=.fields #[.ref h.objs.size,.none,.none,.none,.bool false,.none] }).get? b=some o :=
  fun b o e=>Zb _ (Zb _ e)
 have hn₁:((h.push { cls:=.type "tuple",data:=.seq rest.toArray }).push { cls:=.ref C,data:=.fields #[.ref h.objs.size,.none,.none,.none,.bool false,.none] }).Ns N mN:=hn.keeps kp;have hget:((h.push { cls:=.type "tuple",data:=.seq rest.toArray }).push { cls:=.ref C,data:=.fields #[.ref h.objs.size,.none,.none,.none,.bool false,.none] }).get? (h.objs.size+1) =
   some { cls:=.ref C,data:=.fields #[.ref h.objs.size,.none,.none,.none,.bool false,.none] }:=by heap_get
 have hcC:(Value.ref C::bm).contains (.ref C)=true:=by simp
 unfold isInstance
 repeat(first|with_reducible refine YI hget ?_|(with_reducible refine wpAny_isSubtype_exc (kp _ _ hC) ?_;rw[hcC])|wp_step)
 show wpAny _ _ (typeLookup (.ref C) _) _ _ _;refine wpAny_typeLookup_tail (kp _ _ hC) hn₁ (T.keeps kp) F.mroIs F.init.lookup ?_;rw[hi];refine ZV (Za ?_);unfold bindSpecial;refine Za (wpAny_typeOf (T:="function") ⟨_,kp _ _ hfI,hfc⟩ ?_);rw[if_pos (by decide)];refine Zd (Za (ZG (hq _ (h.objs.size+1) ⟨kp,Heap.get?_none_of_le (Nat.le_succ _),h.objs.size,hget,Heap.get?_none_of_le (Ze _),?_⟩) (fun r s' hr=>?_) fun _ _ x=>x))
 ·exact Zb _ (Heap.get?_push_at rfl rfl)
 ·obtain⟨rfl,hQ⟩:=hr
  wp_walk
  exact hQ
theorem qm(F:ExcBaseFacts B newId initId bmB)(T:OwnTail h bmB bm){mN:Str->Option Value}{rest:List Value}{fI:Addr}{oI:Obj}{Q:Value->Shared->Prop}(hC:h.get? C=some (excClassObj nm q C N bs bm hdct sn sub ab col dd k0 k1 k2 k3 k5 newId))(hn:h.Ns N mN)(hi:mN "__init__" = some (.ref fI))(hfI:h.get? fI=some oI)(hfc:oI.cls=.type "function")(hq:∀h' e,Heap.MadeExcOf h h' e (.ref C) rest->wpAny (model prog w) (A.under (.builtin "type.__call__" ⟨.ref C::rest,[]⟩)) (call (.ref fI) (.ref e::rest)) (fun r s'=>r=.none/\Q (.ref e) s') E ⟨h',g,d,t,os⟩)(hrest:rest.length<=sizeLine) :
  wpAny (model prog w) A (call (.ref C) rest) Q E ⟨h,g,d,t,os⟩:=by
 have f1:=tc_lookup;have f2:=tc_bind (.ref C);have hT:(⟨h,g,d,t,os⟩:Shared).TypeIs (.ref C) "type":=⟨_,hC,rfl⟩
 refine wpAny_call (codeAny_of_tree ?_);show wpAny _ _ (callAny (.ref C) _) _ _ _
 repeat(any_goals(first|assumption|with_reducible refine YI hC ?_|wp_step))
 refine⟨rfl,?_⟩;exact codeAny_call_builtin_at (Code.quiet_builtin _ (by decide +kernel)) entry_typeCall (wpAny_check_type_call_sub hC (jQ F T hC hn hi hfI hfc (fun h' e hm=>hq h' e hm) hrest))
end
section
variable{M:Model}{A:Around}{E:Value->Shared->Prop}{env:Env}{K:PySem.W.Frag}
theorem tI{C:Addr}{bm:List Value}{s:Shared}{x:Sem Value}{Q:Flow->Shared->Prop}(hC:ExC K C bm)(hh:A.handled=none)(h:wpAny M A x (fun v s₁=>∃e oe,v=.ref e/\K.In s₁.heap/\s₁.heap.get? e=some oe/\oe.cls=.ref C/\(∃t,oe.data=.fields #[.ref t,.none,.none,.none,.bool false,.none])/\E (.ref e) s₁) E s):wpAny M A (raiseStmt env (some x) none) Q E s:=by
 have hcB:(Value.ref C::bm).contains (.type "BaseException")=true:=by rw[YS,hC.exc,Bool.or_true]
 unfold raiseStmt;refine Za (ZG h (fun v s₁ h₁=>?_) fun _ _ x=>x);obtain⟨e,oe,rfl,hk,he,hcl,⟨vs,hd⟩,hE⟩:=h₁;obtain⟨nm,q,N,bs,hdct,sn,sub,ab,col,dd,k0,k1,k2,k3,k5,ni,oC⟩:=hC.cls _ hk;obtain⟨hp,g,d,tk,os⟩:=s₁;obtain⟨oc,od,odt,osl⟩:=oe;cases hcl;cases hd
 repeat(first|with_reducible refine YI he ?_|with_reducible refine YI oC ?_|(with_reducible refine wpAny_isSubtype_exc oC ?_;rw[hcB])|wp_step)
 exact wpAny_raiseNew_none hh hE
end
open PySem PySem.Spec PyProof.Rows PySem.W PySem.Builtin PySem.Builtin.ObjectAttr
theorem tJ(self:Value):refuseLoop self "__setattr__" VE=pure ():=by kernel_rfl
def jI:List Value->Bool
 |.ref _::r=>jI r
 |l=>l==VE
theorem iI(self:Value):∀{l:List Value},jI l=true->refuseLoop self "__setattr__" l=pure ()
 |.ref c::r,e=>by rw[refuseLoop_ref];exact iI self e
 | [],e=>nomatch e
 |.type n::r,e=>by rw[show(Value.type n::r)=VE from ZS.mp e];exact tJ self
 |.none::r,e=>by have:=(ZS (α:=List Value)).mp e;cases this
 |.bool b::r,e=>by have:=(ZS (α:=List Value)).mp e;cases this
 |.int b t::r,e=>by have:=(ZS (α:=List Value)).mp e;cases this
 |.str b t::r,e=>by have:=(ZS (α:=List Value)).mp e;cases this
 |.bytes b t::r,e=>by have:=(ZS (α:=List Value)).mp e;cases this
 |.float b t::r,e=>by have:=(ZS (α:=List Value)).mp e;cases this
 |.builtin b::r,e=>by have:=(ZS (α:=List Value)).mp e;cases this
 |.ellipsis::r,e=>by have:=(ZS (α:=List Value)).mp e;cases this
 |.notImplemented::r,e=>by have:=(ZS (α:=List Value)).mp e;cases this
structure ExS(K:PySem.W.Frag)(c:Addr):Prop where
 sa:findIn K (.ref c) "__setattr__" = some (some (.builtin "object.__setattr__"))
 ov:((clsIn K c).any fun cd=>jI cd.mro&&cd.hasDict)=true
 ob:mroIn K c (.type "object")=some true
section
variable{prog:Program}{w:World}{K:PySem.W.Frag}{A:Around}{R:Result->Shared->Prop}{s:Shared}{x C:Addr}
theorem yl{ox:Obj}{od:Option Obj}{name:Str}{tk:Tok}{v:Value}(X:K.In s.heap)(I:InstAt s.heap x ox C od)(S:ExS K C)(hn:findIn K (.ref C) name=some none)(h:wpAny (model prog w) A.in1 (storeInOwnDict (.ref x) (.ref C) (.str name tk) name v false)
   (fun fin s'=>match fin with|.done f=>R (.ok f) s'|.again c'=>c'.quiet=true/\codeAny (model prog w) A c' R s') (fun e s'=>R (.error e) s') s) :
  codeAny (model prog w) A (.call (.builtin "object.__setattr__") ⟨[.ref x,.str name tk,v],[]⟩) R s:=by
 have SF:=PySem.F.store_object;obtain⟨cd,hc,ho⟩:=any_some S.ov;rw[ZB]at ho;have sub:Looks (model prog w) s.heap (isInstance (.ref x) (.type "object")) true:=I.type.andThen (looks_mroIn X S.ob);refine codeAny_call_builtin SF.slot.plain SF.entry (@check_slot (model prog w) _ _ s "object.__setattr__" "object" "__setattr__" (.ref x) [.str name tk,v] [] _ SF.kind SF.split sub (SF.args (.ref x) (.str name tk) v) ?_);have hm:Looks (model prog w) s.heap (mroOf (.ref C)) cd.mro:=(looks_clsIn X hc).andThen .now;rw[osa_eq,refuse_eq];refine Za (Za (I.type.here (Za (hm.here ?_))));rw[iI _ ho.1];refine Zd (Za (I.type.here (Za ((looks_findIn X hn).here (Za (Looks.now.here ?_))))));exact h
end
def exN(ea c t:Addr)(dc:Option Addr):HO:=.ext fun h=>h.get? ea=some { cls:=.ref c,dict:=dc,data:=.fields #[.ref t,.none,.none,.none,.bool false,.none] }
theorem rX{P:Program}{w:World}{H:Hp}{h:Heap}{ea c t:Addr}{dc:Option Addr}(e:h.get? ea=some { cls:=.ref c,dict:=dc,data:=.fields #[.ref t,.none,.none,.none,.bool false,.none] }):ObjOk P w H h ea (exN ea c t dc) :=
 ⟨e,⟨_,e⟩,fun _ _ p k=>k _ p⟩
section
variable{X:Cx}{pins:List (Addr×Obj)}{σ:St}{H:Hp}{s:Shared}{a c t:Addr}{f:Str}{y:V}{u:Value}{A:Around}{E:Value->Shared->Prop}
theorem yS{Q:Unit->Shared->Prop}(I:Inv X pins σ H s)(e:H a=some (exN a c t none))(S:ExS X.K c)(n:NoAttr X.K c f)(ry:RelV y u)(h:∀d s',H d=none->Inv X pins σ (upd (upd H d (.xd [(f,y)])) a (exN a c t (some d))) s'->Q () s'):wpAny (model X.prog X.w) A (setAttr (.ref a) f u) Q E s:=by
 have hx:s.heap.get? a=some { cls:=.ref c,dict:=none,data:=.fields #[.ref t,.none,.none,.none,.bool false,.none] }:=(show ObjOk X.prog X.w H s.heap a (exN a c t none)from I.hok a _ e).1;have J:InstAt s.heap a { cls:=.ref c,dict:=none,data:=.fields #[.ref t,.none,.none,.none,.bool false,.none] } c none:=⟨hx,rfl,rfl,True.intro⟩
 obtain⟨cd,hc,ho⟩:=any_some S.ov;rw[ZB]at ho;refine PySem.W.set_plain I.kIn J S.sa (yl (s:={ s with toks:=s.toks+1 }) I.kIn J S n ?_);refine Za (Zd (Za (Za (wpAny_loadPart hx (Za (PySem.W.Looks.here (s:={ s with toks:=s.toks+1 }) (PySem.W.looks_clsIn I.kIn hc) ?_))))));rw[ho.2];have hxs:a≠s.heap.objs.size:=ZA (Zm hx);have hx1:(s.heap.push { cls:=.type "dict",data:=.dict #[] }).get? a=some { cls:=.ref c,dict:=none,data:=.fields #[.ref t,.none,.none,.none,.bool false,.none] }:=Zb _ hx;show wpAny _ _ (alloc { cls:=.type "dict",data:=.dict #[] } >>= fun d=>update a (fun o=>{ cls:=o.cls,dict:=some d,data:=o.data,slots:=o.slots }) >>= fun _=>dictMade (.ref c) a d) _ _ _;refine Za (wpAny_alloc' ?_);refine Za (wpAny_update' hx1 ?_);refine Zd ?_;have hgd:((s.heap.push { cls:=.type "dict",data:=.dict #[] }).update a fun o=>{ cls:=o.cls,dict:=some s.heap.objs.size,data:=o.data,slots:=o.slots }).get? s.heap.objs.size=some { cls:=.type "dict",data:=.dict #[] } :=
  (Heap.get?_update_ne _ _ _ _ hxs.symm).trans (Heap.get?_push_at rfl rfl)
 have hnd:((s.heap.push { cls:=.type "dict",data:=.dict #[] }).update a fun o=>{ cls:=o.cls,dict:=some s.heap.objs.size,data:=o.data,slots:=o.slots }).Ns s.heap.objs.size (fun _=>none) :=
  ⟨_,#[],_,hgd,rfl,fun e he=>absurd he (by simp),fun _=>rfl⟩
 refine Za (Zd (Za (wpAny_nsSet1 (Heap.Ns1.of_empty hnd) fun h' hn' hs=>?_)));obtain⟨oD,esD,epD,hoD,hdD,hcD⟩:=hn'.count (Within.cons f u Within.nil);refine Za (wpAny_lookBehind hoD (by rw[hdD];exact pastItsLine_dict (ZC hcD (by rw[Zl,List.length_nil,sizeLine_eq];omega))) ?_);have hx':h'.get? a=some { cls:=.ref c,dict:=some s.heap.objs.size,data:=.fields #[.ref t,.none,.none,.none,.bool false,.none] }:=(hs.2 a hxs).trans (Yn _ hx1 rfl);have kp:∀b o,b≠a->s.heap.get? b=some o->h'.get? b=some o:=fun b o hb q=>(hs.2 b (ZA (Zm q))).trans ((Heap.get?_update_ne _ _ _ _ hb).trans (Zb _ q));have hd0:H s.heap.objs.size=none:=I.hok.fresh (Ze _);have nd:∀b o,s.heap.get? b=some o->b≠s.heap.objs.size:=fun b o q=>ZA (Zm q);have ne1:∀b v,H b=some v->v≠exN a c t none->b≠a:=fun b v q hv z=>by rw[z,e]at q;exact hv (Zu q).symm
 have ne2:∀b v,H b=some v->b≠s.heap.objs.size:=fun b v q=>al q hd0;have un:Un X.fs [] H (upd (upd H s.heap.objs.size (.xd [(f,y)])) a (exN a c t (some s.heap.objs.size))) s.heap h':=by
  refine⟨fun b o q m _ _=>kp b o (fun z=>by rw[z,e]at m;cases m) q,fun b o q m _ _=>⟨o.slots,kp b o (fun z=>by rw[z,e]at m;cases m) q⟩,fun b o q m _=>?_,fun b o q _=>?_,fun b xs q=>?_,fun b o v q=>?_,fun b ps q=>⟨#[],?_⟩⟩
  ·rw[af (fun z=>by rw[z,e]at m;cases m),af (nd b o q)];exact m
  ·by_cases hb:b=a
   ·exact⟨_,hb▸hx'⟩
   ·exact⟨o,kp b o hb q⟩
  ·rw[af (ne1 _ _ q (by intro z;cases z)),af (ne2 _ _ q)];exact q
  ·rw[af (ne1 _ _ q (by intro z;cases z)),af (ne2 _ _ q)];exact q
  ·rw[af (ne1 _ _ q (by intro z;cases z)),af (ne2 _ _ q),q];simp
 have hok:HOk X.prog X.w (upd (upd H s.heap.objs.size (.xd [(f,y)])) a (exN a c t (some s.heap.objs.size))) h':=fun b v q=>by
  by_cases hb:b=a
  ·subst hb;rw[ad]at q;cases q;exact rX hx'
  ·rw[af hb]at q;by_cases hbd:b=s.heap.objs.size
   ·subst hbd;rw[ad]at q;cases q;refine⟨_,hn',fun g=>?_⟩;by_cases hg:g=f
    ·subst hg;rw[if_pos rfl];show RelO ([(g,y)].lookup g) (some u);rw[ZI,show(g==g)=true by simp];exact ry
    ·rw[if_neg hg];show RelO ([(f,y)].lookup g) none;rw[ZI,show(g==f)=false by simpa using hg];exact True.intro
   ·rw[af hbd]at q;refine(I.hok b v q).stay (fun b' v' hb' q'=>kp b' v' ?_ q') (fun b' q'=>?_) fun b' xs q'=>?_
    ·rcases hb' with rfl|z
     ·exact hb
     ·exact ne1 _ _ z (by intro z;cases z)
    ·rw[af (ne1 _ _ q' (by intro z;cases z)),af (ne2 _ _ q')];exact q'
    ·rw[af (ne1 _ _ q' (by intro z;cases z)),af (ne2 _ _ q')];exact q'
 exact Zd (h _ _ hd0 (I.un un hok))
end
def CH(K:PySem.W.Frag)(ta tv:TE)(f:Str):TS:=fun D σ H=>tv σ H fun y H1=>ta σ H1 fun x H2=>∃a c t,x=.ref a/\H2 a=some (exN a c t none)/\ExS K c/\NoAttr K c f/\∀d,H2 d=none ->
 D.nx σ (upd (upd H2 d (.xd [(f,y)])) a (exN a c t (some d)))
theorem BF{X:Cx}{o value:Expr}{f:Str}{pos pos':Pos}{ta tv:TE}(ha:QE X o ta)(hv:QE X value tv)(hs:swapsWith value (some (.Attribute o f pos')) pos.line X.env=pure false:=by rfl):QS X (.Assign [.Attribute o f pos'] value pos) (CH X.K ta tv f):=by refine⟨?_⟩;intro pins s σ H D I h;refine plainObj_wpAny_Assign_Attribute (thn (hv.h pins s σ H _ I h) fun u s1 ⟨y,H1,I1,ry,q⟩=>thn (ha.h pins s1 σ H1 _ I1 q) fun ov s2 hz9=>?_) hs;obtain⟨x,H2,I2,rx,a,c,t,ex,ea,S,n,q2⟩:=hz9;subst ex;obtain rfl:ov=Value.ref a:=rx;exact yS I2 ea S n ry fun d s3 hd I3=>⟨σ,_,I3,q2 d hd⟩
open PySem PySem.Spec PyProof.Rows PySem.W
def del(H:Hp)(a:Addr):Hp:=fun b=>if b=a then none else H b
theorem uT{H:Hp}{a:Addr}:del H a a=none:=by unfold del;rw[if_pos rfl]
theorem cH{H:Hp}{a b:Addr}(h:b≠a):del H a b=H b:=by unfold del;rw[if_neg h]
theorem sM{H:Hp}{a b:Addr}{u:HO}(h:del H a b=some u):b≠a/\H b=some u:=by
 by_cases c:b=a
 ·rw[c,uT]at h;cases h
 ·rw[cH c]at h;exact⟨c,h⟩
open PySem PySem.Spec PyProof.Rows PySem.W
def mL(K:PySem.W.Frag)(C fI:Addr):Bool:=match K.lookup C with
 | some ⟨.type "type",_,.cls cd,sl⟩=>(match cd.mro,sl.toList with
  |.ref C'::bm,[_,_,_,_,some (.builtin n),_]=>C'==C&&n=="ValueError.__new__"&&!cd.hasDel&&tailIn K VE bm&&nsOkIn K cd.ns&&nsIn K cd.ns "__init__" == some (some (.ref fI))
  | _,_=>false)
 |_=>false
theorem qO{K:PySem.W.Frag}{h:Heap}{N:Addr}{m:Str->Option Value}{n:Str}{v:Value}(X:K.In h)(G:h.Ns N m)(e:nsIn K N n=some (some v)):m n=some v:=by
 obtain⟨o,es,ep,ho,hd,_,hf⟩:=G;unfold nsIn at e;split at e
 ·rename_i c d es' n' sl q;have:=X _ _ q;rw[ho]at this;cases this;cases hd;split at e
  ·rename_i en he;cases e;rw[<-hf];unfold nsFind findBy;rw[<-Array.find?_toList,he];rfl
  ·split at e<;>cases e
 ·cases e
structure ExcAtI(K:PySem.W.Frag)(C fI:Addr)(bm:List Value):Prop where
 isIn:mL K C fI=true
 mro:∃c d cd sl,K.lookup C=some ⟨c,d,.cls cd,sl⟩/\cd.mro=Value.ref C::bm
 exc:bm.contains (.type "BaseException")=true
 fn:∃oI,K.lookup fI=some oI/\oI.cls=.type "function"
theorem jq{K:PySem.W.Frag}{C fI:Addr}{bm:List Value}(q:ExcAtI K C fI bm){h:Heap}(X:K.In h) :
  ∃nm qn N bs hdct sn sub ab col dd k0 k1 k2 k3 k5 mN,h.get? C=some (excClassObj nm qn C N bs bm hdct sn sub ab col dd k0 k1 k2 k3 k5 "ValueError.__new__")/\h.Ns N mN/\mN "__init__" = some (.ref fI)/\OwnTail h VE bm:=by
 have q1:=q.isIn;obtain⟨c9,d9,cd9,sl9,l9,m9⟩:=q.mro;unfold mL at q1;split at q1
 ·rename_i dd cd sl ho;split at q1
  ·rename_i C' bm' k0 k1 k2 k3 n k5 hm hs;have q2:cd.mro=Value.ref C::bm:=by have z:=ho.symm.trans l9;cases z;exact m9
   rw[hm]at q2;injection q2 with z1 z2;injection z1 with z1;cases z1;cases z2;simp only[ZB,ZS,Bool.not_eq_true']at q1;obtain⟨⟨⟨⟨⟨_,rfl⟩,nd⟩,ht⟩,ok⟩,ni⟩:=q1;have es:sl=#[k0,k1,k2,k3,some (.builtin "ValueError.__new__"),k5]:=by obtain⟨l⟩:=sl;simp only at hs;rw[hs]
   cases es;obtain⟨nm,bs,mro,ns,qn,hd,sn,sub,ab,col,del⟩:=cd;dsimp only at hm nd ok ni;cases hm;cases nd;have G:h.Ns ns _:=.of_isNs (isNs_of_in X ok);exact⟨nm,qn,ns,bs,hd,sn,sub,ab,col,dd,k0,k1,k2,k3,k5,_,X _ _ ho,G,qO X G ni,tail_of_in X ht⟩
  ·cases q1
 ·cases q1
theorem oU{K:PySem.W.Frag}{C fI:Addr}{bm:List Value}(q:ExcAtI K C fI bm):ExC K C bm where
 cls:=fun h X=>by obtain⟨nm,qn,N,bs,hdct,sn,sub,ab,col,dd,k0,k1,k2,k3,k5,mN,e,_⟩:=jq q X;exact⟨nm,qn,N,bs,hdct,sn,sub,ab,col,dd,k0,k1,k2,k3,k5,_,e⟩
 exc:=q.exc
structure ExI(P:Program)(w:World)(K:PySem.W.Frag)(mg:Str->Option Value)(base:Heap)(k:Nat)(C:Addr)(bm:List Value)(ps:List Str)(sp:Sp):Prop where
 ex:∃fI fd,ExcAtI K C fI bm/\FnOk P w K mg base CX0 k fI fd ps sp/\Binds K fd ps []
section
variable{X:Cx}{pins:List (Addr×Obj)}{σ:St}{H:Hp}{s:Shared}
theorem Inv.excMade{h':Heap}{e c t:Addr}(I:Inv X pins σ H s)(kp:∀b o,s.heap.get? b=some o->h'.get? b=some o)(hn:s.heap.get? e=none)(he:h'.get? e=some { cls:=.ref c,data:=.fields #[.ref t,.none,.none,.none,.bool false,.none] }) :
  H e=none/\Inv X pins σ (upd H e (exN e c t none)) { s with heap:=h' }:=by
 have h0:H e=none:=by
  cases q:H e with
  |none=>rfl
  |some u =>obtain⟨o,z⟩:=dX (I.hok e u q);rw[hn]at z;cases z
 have nb:∀b o,s.heap.get? b=some o->b≠e:=fun b o q z=>by rw[z,hn]at q;cases q
 refine⟨h0,I.un (t':=s.toks) ⟨fun b o q _ _ _=>kp b o q,fun b o q _ _ _=>⟨o.slots,kp b o q⟩,fun b o q m _=>by rw[af (nb b o q)];exact m,fun b o q _=>⟨o,kp b o q⟩,fun b xs q=>by rw[af (al q h0)];exact q,fun b o v q=>by rw[af (al q h0)];exact q,fun b ps q=>⟨#[],by rw[af (al q h0),q];simp⟩⟩ fun b u q=>?_⟩;by_cases hb:b=e
 ·subst hb;rw[ad]at q;cases q;exact rX he
 ·rw[af hb]at q;exact(I.hok b u q).stay (fun b' v _ q'=>kp b' v q') (fun b' z=>by rw[af (al z h0)];exact z) fun b' xs z=>by rw[af (al z h0)];exact z
end
section
variable{X:Cx}{EC:Value->Option Addr->Hp->Prop}{C:Addr}{bm:List Value}{k:Nat}{ps:List Str}{sp:Sp}{x:Str}{np cpos pos:Pos}{e:Expr}{es:List Expr}{ta:TA}
def yZ(sp:Sp)(C:Addr)(EC:Value->Option Addr->Hp->Prop)(ta:TA):TS:=fun _ σ H=>ta σ H fun vs H1=>vs.length<=sizeLine/\∀ea t,H1 ea=none->H1 t=none->t≠ea ->
 sp (.ref ea::vs) (upd H1 ea (exN ea C t none)) (fun v H2=>v=.non/\∃dc,H2 ea=some (exN ea C t dc)/\EC (.ref C) dc (del H2 ea)) E0
end
open PySem PySem.Spec PyProof.Rows PySem.W
structure MFnX(P:Program)(w:World)(K:PySem.W.Frag)(mg:Str->Option Value)(base:Heap)(k:Nat)(C:Addr)(m:Str)(ps:List Str)(sp:Sp):Prop where
 cl:Cls K C
 ex:∃f fd,FnOk P w K mg base (CXr P w) k f fd ps sp/\Meth K C m f/\Binds K fd ps []
section
variable{X:Cx}{k:Nat}{C:Addr}{m x:Str}{p pos apos:Pos}{o e:Expr}{es:List Expr}{ps:List Str}{sp:Sp}{t:TA}{ta:TE}{E:XK}
theorem kD{pl:Sem Bool}(F:MFnX X.prog X.w X.K X.mg X.base k C m ps sp)(hx:cG (CXr X.prog X.w) X E)(hr:Room k X.A)(he:QE X o ta)(ha:QA X (e::es) t)(hs:(e::es).all aJ=true:=by rfl)(ht:eval (.Call (.Attribute o m apos) (e::es) [] pos) X.env=(do
   let ov ←eval o X.env
   standAt apos.atName
   let(f,first) ←holding [ov] (getMethod ov m pl)
   callWith pos f first (backTo pos (starEach (e::es) X.env)) (backToKw pos (keywordEach [] X.env))):=by rfl) :
  QE X (.Call (.Attribute o m apos) (e::es) [] pos) (rA C m sp [] E ta t):=by
 obtain⟨f,fd,G,hm,b⟩:=F.ex;rw[YJ,ZB]at hs;exact⟨pq (pl:=pl) he.h F.cl hm G hr b .nil hx ha.h (aQ hs.1) (aW hs.2) ht⟩
def BR(C:Addr)(m:Str)(sp:Sp)(ta:TE)(t:TA):TX:=fun σ H Q E=>ta σ H fun x H1=>∃a dx fs,x=.ref a/\H1 a=some (.ins C dx fs)/\fs.lookup m=none/\t σ H1 fun vs H2=>sp (x::vs) H2 Q E
theorem BY{pl:Sem Bool}(F:MFnX X.prog X.w X.K X.mg X.base k C m ps sp)(hr:Room k X.A)(he:QE X.nox o ta)(ha:QA X.nox (e::es) t)(hs:(e::es).all aJ=true:=by rfl)(ht:eval (.Call (.Attribute o m apos) (e::es) [] pos) X.env=(do
   let ov ←eval o X.env
   standAt apos.atName
   let(f,first) ←holding [ov] (getMethod ov m pl)
   callWith pos f first (backTo pos (starEach (e::es) X.env)) (backToKw pos (keywordEach [] X.env))):=by rfl) :
  QX X (.Call (.Attribute o m apos) (e::es) [] pos) (BR C m sp ta t):=by
 refine⟨?_⟩;intro pins s σ H Q E I h;obtain⟨f,fd,G,hm,b⟩:=F.ex;rw[YJ,ZB]at hs;refine PySem.W.methodCall_KW (pl:=pl) (ZG (he.h pins s σ H _ (I.wish _) h) (fun u s1 hz9=>?_) fun _ _ z=>False.elim z) ht;obtain⟨y,H1,I1,rx,a,dx,fs,ex,ea,l,q⟩:=hz9;subst ex;obtain rfl:u=Value.ref a:=rx;have I1':=I1.unwish;refine jt I1' ea F.cl hm l ?_;refine PySem.W.callWith_K (first:=[.ref a]) (h₀:=X.base) I.ok.mod.kin hm.kp (ZG (ha.h pos pins s1 σ H1 _ I1 q) (fun us s2 ⟨vs,H2,I2,r,q2⟩=>⟨I2.kIn,?_⟩) fun _ _ z=>False.elim z) (aQ hs.1) (aW hs.2);have I3:=I2.unwish;have hb:=b s2 (.ref a::us) I3.kIn (by rw[ZJ,<-G.len _ _ _ _ q2,Zl,Zl,r.length]);rw[ZJ]at hb;refine wpAny_call (codeAny_mono (G.run X.A X.stack s2 H2 ⟨.ref a::us,[]⟩ (.ref a::us) (.ref a::vs) Q E hr I3.env0 hb (.cons rfl r) q2) fun r s' hq=>?_);cases r with
 |error e=>exact⟨s2,H2,I3,hq⟩
 |ok fl =>
  cases fl with
  |ret u=>exact I3.after hq
  |next=>exact False.elim hq
  |brk=>exact False.elim hq
  |cont=>exact False.elim hq
end
section
variable{X:Cx}
theorem Ci:QH X [] (fun _ _ _ _ _=>False):=⟨fun _ _ _ _ _ _ _ _ _ _ _ _ _ _ _ _ h=>h.elim⟩
def CL(K:PySem.W.Frag)(Ch:Addr)(ts:TS)(th:TH):TH:=fun D σ C dc H'=>∃c bm,C=.ref c/\ExC K c bm/\if(Value.ref c::bm).contains (.ref Ch)=true then ts D σ H' else th D σ C dc H'
theorem uZ{x:Str}{Ch:Addr}{bmh:List Value}{b0:Stmt}{suite:List Stmt}{ts:TS}{np pos:Pos}{rest:List ExceptHandler}{th:TH}(cl:ExC X.K Ch bmh)(hm:X.mg x=some (.ref Ch))(hs:∀e,QB (X.exc e) (b0::suite) ts)(hrest:QH X rest th)(hg:Gl X x:=by rfl)(hdb:(x==("__debug__":Str))=false:=by decide):QH X (.ExceptHandler (some (.Name x np)) none (b0::suite) pos::rest) (CL X.K Ch ts th):=by
 refine⟨?_⟩;rintro pins s0 H0 σ D ea t C B H' dc s' I0 F fly hd ⟨c,bm,rfl,ec,q⟩;have I:=F.inv I0;refine wpAny_handleBy_cons (codeAny_handlers_test ?_) (by intro z;cases z);refine dS (X:=X.exc (.ref ea)) (I.exc _) hg hm ?_ hdb;obtain⟨oe,he,hcl⟩:=fly.there;refine ow ec cl I.kIn he hcl ?_;cases hc:(Value.ref c::bm).contains (.ref Ch)with
 |true =>
  rw[hc,if_pos rfl]at q;refine codeAny_handlers_suite ?_;obtain⟨f1,f2,f3,f4⟩:=fly;refine fO f1 f3 f4.at hd fun h6 k1 k2 k3 up6 hd6=>?_;have F6:=F.move (tk:=s'.toks) I0 k1 up6;refine ZG ((hs (.ref ea)).h pins _ _ _ _ ((F6.inv I0).exc _) q) (fun f s8 sp=>?_) (fun _ _ z=>False.elim z);cases f with
  |next =>obtain⟨σ2,H2,I8,q8⟩:=sp;exact⟨_,H2,I8.unexc I0.ok,q8⟩
  |brk =>obtain⟨σ2,H2,I8,q8⟩:=sp;exact⟨_,H2,I8.unexc I0.ok,q8⟩
  |cont =>obtain⟨σ2,H2,I8,q8⟩:=sp;exact⟨_,H2,I8.unexc I0.ok,q8⟩
  |ret u =>obtain⟨v,σ2,H2,I8,r8,q8⟩:=sp;exact⟨v,_,H2,I8.unexc I0.ok,r8,q8⟩
 |false =>rw[hc,if_neg Zs]at q;exact hrest.h pins s0 H0 σ D ea t _ B H' dc _ I0 F fly hd q
end
open PySem PySem.Spec PyProof.Rows PySem.W
open PySem PySem.Spec PyProof.Rows PySem.W
def xJ(X:Cx)(B:Heap)(ea:Addr)(C:Value)(t:Addr)(h:Heap):Prop :=
 (B.StaysIn h/\B.get? ea=none/\h.FunFrames B X.stack/\∃oe,h.get? ea=some oe/\oe.cls=C/\oe.data=.fields #[.ref t,.none,.none,.none,.bool false,.none]) \/
 Heap.FlyingW B X.stack ea C (.ref t) h\/Heap.HeldW B X.stack ea C (.ref t) X.env.locals h
def pZ(X:Cx)(E:XK)(ea:Addr)(s':Shared):Prop:=∃(pins:List (Addr×Obj)) (σ:St) (H0 H':Hp) (s0:Shared) (B:Heap) (t:Addr) (C:Value) (vs:List Value) (dc:Option Addr),
 Inv X pins σ H0 s0/\Fl X H0 H' s0 s' B/\xJ X B ea C t s'.heap/\s'.heap.TupAt t vs/\B.get? t=none/\bR s'.heap ea dc/\E C dc H'
section
variable{M:Model}{A:Around}{E:Value->Shared->Prop}{s:Shared}{base:Heap}{l:List Env}{L e:Addr}
theorem rY{cls a0 fl:Value}{dc:Option Addr}{Q:Unit->Shared->Prop}(kb:base.StaysIn s.heap)(ff:s.heap.FunFrames base l)(tr:s.heap.TracedAtW base e cls a0 fl)(dd:bR s.heap e dc)(k:∀h',base.StaysIn h'->h'.FunFrames base l->h'.TracedAtW base e cls a0 (rawInt L)->s.heap.UpToSlots h'->bR h' e dc->Q () { s with heap:=h' }):wpAny M A (setFlight (.ref e) (some L)) Q E s:=by
 obtain⟨oe,vs,T,oT,ts,he,hc,dt,v1,nT,ne,hT,dT,t3⟩:=tr;have z3:3<ts.size:=(Array.getElem?_eq_some_iff.mp t3).1;have oth:∀b,b≠T->(s.heap.update T (Obj.mapFields (·.setIfInBounds 3 ((some L:Option Addr).elim Value.none fun f=>rawInt f)))).get? b=s.heap.get? b:=fun b n=>y8 _ _ (Z8 n);have nrec:∀b o,s.heap.get? b=some o->(∀ws,o.data≠.fields ws)->b≠T:=fun b o q hn z=>by subst z;cases Zu (hT.symm.trans q);exact hn ts dT
 unfold setFlight;refine Za (ZQ he dt v1 ?_);rw[if_pos (by simp:(Value.ref T != Value.none)=true)];refine YO hT dT z3 (k _ (fun b o q=>(oth b fun z=>nomatch((z▸q).symm.trans nT)).trans (kb b o q)) (ff.of_keeps fun b o q hn=>⟨o,(oth b (nrec b o q hn)).trans q,rfl⟩) ?_ (fun b o q hn=>⟨o.slots,(oth b (nrec b o q hn)).trans q⟩) ?_)
 ·exact⟨oe,vs,T,_,_,(oth e (Z8 ne)).trans he,hc,dt,v1,nT,ne,Yn _ hT (Obj.isFreed_of_fields (Yf dT _)),Yf dT _,by simp[z3]⟩
 ·obtain⟨o,q,d⟩:=dd;exact⟨o,(oth e (Z8 ne)).trans q,d⟩
end
section
variable{X:Cx}{E:XK}{ea:Addr}{s':Shared}{EE:Value->Shared->Prop}
theorem jk{Q:Unit->Shared->Prop}(hst:X.stack=X.env::X.outer)(hfr:X.env.frame=some X.env.locals)(x:pZ X E ea s')(k:∀ h',(∃ (pins:List (Addr×Obj)) (σ:St) (H0 H':Hp) (s0:Shared) (B:Heap) (t:Addr) (C:Value) (vs:List Value) (dc:Option Addr),
   Inv X pins σ H0 s0/\Fl X H0 H' s0 { s' with heap:=h' } B/\Heap.HeldW B X.stack ea C (.ref t) X.env.locals h'/\h'.TupAt t vs/\B.get? t=none/\bR h' ea dc/\E C dc H')->Q () { s' with heap:=h' }) :
  wpAny (model X.prog X.w) X.A (noteFrame (.ref ea) X.env) Q EE s':=by
 obtain⟨pins,σ,H0,H',s0,B,t,C,vs,dc,I0,F,st,tup,hBt,dd,q⟩:=x;have fr:X.A.frames=some (X.env::X.outer):=by rw[<-hst];exact I0.ok.frames
 rcases st with⟨f1,f2,f3,oe,he,rfl,hd⟩|fly|held
 ·unfold noteFrame;simp only[hfr];refine Za (ZQ he hd (show _=some Value.none from rfl) ?_);rw[if_neg (by decide)];rw[hst]at f3;refine iG (a0:=.ref t) fr f3 hfr he f1 f2 hd (by simp) rfl fun h1 nt dd1=>?_;obtain⟨n1,n2,n3,n4⟩:=nt;rw[<-hst]at n2;obtain⟨o9,q9,d9⟩:=dd;cases Zu (he.symm.trans q9);rw[d9]at dd1;exact k h1 ⟨pins,σ,H0,H',s0,B,t,_,vs,dc,I0,F.move (tk:=s'.toks) I0 n1 n4,⟨n1,f2,n2,n3⟩,tup.of_slots n4,hBt,dd1,q⟩
 ·rw[hst]at fly;refine jD fr hfr fly dd fun h1 held up dd1=>?_;rw[<-hst]at held;exact k h1 ⟨pins,σ,H0,H',s0,B,t,C,vs,dc,I0,F.move (tk:=s'.toks) I0 held.1 up,held,tup.of_slots up,hBt,dd1,q⟩
 ·exact wpAny_noteFrame_againW hfr held.2.2.2 (k s'.heap ⟨pins,σ,H0,H',s0,B,t,C,vs,dc,I0,F,held,tup,hBt,dd,q⟩)
def Mid(X:Cx)(E:XK):Value->Shared->Prop:=fun e s'=>∃ea,e=.ref ea/\pZ X E ea s'
theorem jK(hst:X.stack=X.env::X.outer)(hfr:X.env.frame=some X.env.locals):PassesOwn (model X.prog X.w) X.A X.env (Mid X E):=by rintro e s' ⟨ea,rfl,x⟩;refine jk hst hfr x ?_;rintro h1 ⟨pins,σ,H0,H',s0,B,t,C,vs,dc,I0,F,held,tup,hBt,dd,q⟩;obtain⟨f1,f2,f3,f4⟩:=held;obtain⟨oe,us,T,oT,ts,he,hc,dt,v1,nT,ne,hT,dT,t3⟩:=id f4;unfold cameBackBy;refine Za (ZQ he dt v1 ?_);rw[if_neg (by simp)];rw[hfr];refine rY (s:={ s' with heap:=h1 }) f1 f3 f4 dd fun h2 k1 k2 k3 up dd2=>?_;exact⟨ea,rfl,pins,σ,H0,H',s0,B,t,C,vs,dc,I0,F.move (tk:=s'.toks) I0 k1 up,.inr (.inr ⟨k1,f2,k2,k3⟩),tup.of_slots up,hBt,dd2,q⟩
end
def dP(X:Cx)(E:XK):Prop:=∀ea s',pZ X E ea s'->X.xe (.ref ea) s'
theorem iH{X:Cx}{E:XK}:dP (X.wish (Mid X E)) E:=by rintro ea s' ⟨pins,σ,H0,H',s0,B,t,C,vs,dc,I0,F,st,r⟩;exact⟨ea,rfl,pins,σ,H0,H',s0,B,t,C,vs,dc,I0.unwish,⟨F.os,F.bare,F.un,F.hok,F.kb⟩,st,r⟩
section
variable{P:Program}{w:World}{K:PySem.W.Frag}{mg:Str->Option Value}{base:Heap}{N:List Str}{qual:Str}{scope:Scope}{f:Addr}{cd:Value}{A:Around}{outer:List Env}{s:Shared}{H:Hp}{E:XK}
theorem bI:dP (dD (CXr P w) P w K mg base N qual scope f cd A outer s H E) E:=by
 intro ea s' x;show wpAny (model P w) (A.deeper (envOfC qual scope s.heap.objs.size f cd)) (leaving (envOfC qual scope s.heap.objs.size f cd) (.ref ea)) _ _ _;unfold leaving;refine Za (jk (X:=dD (CXr P w) P w K mg base N qual scope f cd A outer s H E) rfl rfl x ?_);rintro h1 ⟨pins,σ,H0,H',s0,B,t,C,vs,dc,I,F,held,tup,hBt,dd,q⟩;obtain⟨f1,f2,f3,f4⟩:=held;refine fO (s:={ s' with heap:=h1 }) f1 f3 f4 dd fun h2 k1 k2 k3 up dd2=>?_;have F2:=F.move (tk:=s'.toks) I k1 up;have I2:=F2.inv I;have hL:∀b o,s.heap.get? b=some o->b≠s.heap.objs.size:=fun b o q=>ZA (Zm q);have nfr:∀b,b∉frs outer->b≠s.heap.objs.size->b∉frs (envOfC qual scope s.heap.objs.size f cd::outer):=fun b h1 h2 hm=>by
  rcases Zq.mp (I.stkSub b hm)with z|z
  ·exact h2 z
  ·exact h1 z
 obtain⟨_,_,k2'⟩:=k2;refine⟨ea,t,C,vs,B,H',dc,rfl,I2.os,F2.bare,⟨fun b o q n hb _=>?_,fun b o q n hb _=>?_,fun b o q n _=>?_,fun b o q _=>?_,I2.base.tups,I2.base.frzs,I2.base.tbls⟩,F2.hok,⟨k1,f2,k2',k3⟩,tup.of_slots up,hBt,fun b o hb ho q=>?_,dd2,q⟩
 ·exact I2.base.keep b o q n hb (by intro z;cases z)
 ·exact I2.base.slot b o q n hb (by intro z;cases z)
 ·exact I2.base.free b o q n (by intro z;cases z)
 ·exact I2.base.there b o q (by intro z;cases z)
 ·refine F2.kb b o ?_ ?_ q
  ·rcases ho with⟨u,z⟩|⟨o0,z⟩
   ·exact F2.nf I z
   ·exact nfr b hb (hL b o0 z)
  ·rcases ho with⟨u,z⟩|⟨o0,z⟩
   ·exact .inl ⟨u,z⟩
   ·exact .inr (I.base.there b o0 z (by intro z;cases z))
end
section
variable{X:Cx}{E:XK}
theorem wS(hR:dP X E):cG (CXr X.prog X.w) X E:=fun pins σ H s e s' I x=>by obtain⟨ea,t,C,vs,B,H',dc,rfl,os,bare,un,hok,fly,tup,hBt,kb,dd,q⟩:=x;exact hR ea s' ⟨pins,σ,H,H',s,B,t,C,vs,dc,I,⟨os,bare,un,hok,kb⟩,.inr (.inl fly),tup,hBt,dd,q⟩
theorem cL(hR:dP X E):rK X (fun C H1=>E C none H1):=fun pins σ H1 s1 h2 e C vs I hx hE=>by
 obtain⟨t,he,tn,tt⟩:=hx.there;have fr0:∀b,b∈frs X.stack->∃o,s1.heap.get? b=some o:=fun b hm=>by obtain⟨_,o',ho',_⟩:=I.stack.mem hm;exact⟨o',ho'⟩
 have hid:∀b o,s1.heap.get? b=some o->b∉frs X.stack->(hideAll s1.heap (frs X.stack)).get? b=some o:=fun b o q hb=>hideAll_get _ q hb;have none_of:∀b,s1.heap.get? b=none->(hideAll s1.heap (frs X.stack)).get? b=none:=fun b hb=>by
  cases q:(hideAll s1.heap (frs X.stack)).get? b with
  |none=>rfl
  |some o=>exact nomatch hb.symm.trans (of_hideAll _ q)
 have tr:∀b u,H1 b=some u->b∉frs X.stack:=fun b u q hm=>by have:=I.stkFree b hm;rw[q]at this;cases this
 have F:Fl X H1 H1 s1 { s1 with heap:=h2 } (hideAll s1.heap (frs X.stack)):=⟨rfl,I.bare,Un.kept hx.keeps,I.hok.kept hx.keeps,fun b o hb ho q=>by
  obtain⟨o1,q1⟩:∃o1,s1.heap.get? b=some o1:=by
   rcases ho with⟨u,z⟩|⟨o0,z⟩
   ·exact dX (I.hok b u z)
   ·exact⟨o0,z⟩
  have q2:=hx.keeps _ _ q1;have q':h2.get? b=some o:=q;rw[q']at q2;cases q2;exact hid b o q1 hb⟩
 have ff:h2.FunFrames (hideAll s1.heap (frs X.stack)) X.stack:=(funFrames_hide I.stack fun env he b hb=>Yz.mpr ⟨env,he,hb⟩).of_keeps fun b o q _=>⟨o,hx.keeps b o q,rfl⟩
 exact hR e _ ⟨pins,σ,H1,H1,s1,_,t,C,vs,none,I,F,.inl ⟨fun b o q=>hx.keeps b o (of_hideAll _ q),none_of e hx.new,ff,_,he,rfl,rfl⟩,⟨_,_,tt,rfl,rfl⟩,none_of t tn,⟨_,he,rfl⟩,hE⟩
end
section
variable{X:Cx}{E:XK}{st:Stmt}{t:TS}
theorem xn(hR:dP X E)(h:QS (X.wish (Mid X E)) st t):QS X st t:=⟨fun pins s σ H D I q=>ZG (h.h pins s σ H D (I.wish _) q) (fun _ _ z=>z.unwish) fun _ _ ⟨ea,e,x⟩=>by rw[e];exact hR ea _ x⟩
end
section
variable{X:Cx}{E:XK}{C:Addr}{bm:List Value}{k:Nat}{ps:List Str}{sp:Sp}{x:Str}{np cpos pos:Pos}{e:Expr}{es:List Expr}{ta:TA}
theorem vY(hR:dP X E)(hc:X.calm=true)(F:ExI X.prog X.w X.K X.mg X.base k C bm ps sp)(hr:Room (k+1) X.A)(hm:X.mg x=some (.ref C))(ha:QA X (e::es) ta)(hg:Gl X x:=by rfl)(hs:(e::es).all aJ=true:=by rfl)(hdb:(x==("__debug__":Str))=false:=by decide) :
  QS X (.Raise (some (.Call (.Name x np) (e::es) [] cpos)) none pos) (yZ sp C E ta):=by
 refine⟨?_⟩;intro pins s σ H D I h;obtain⟨fI,fd,xc,G,hb⟩:=F.ex;have hs1:aJ e=true:=YN.mp hs e (by simp);have he:=aQ (es:=es) (env:=X.env) hs1;have hpl:(backTo cpos (starEach es X.env)).any (·.1)=false:=aW (by
  rw[YN];intro y hy;exact YN.mp hs y (Zn _ hy))
 have hpl':(backTo cpos (starEach (e::es) X.env)).any (·.1)=false:=by rw[he];show(false ||(backTo cpos (starEach es X.env)).any (·.1))=false;rw[hpl];rfl
 rw[arm_exec_Raise];refine Za (wpAny_standAt (tI (K:=X.K) (oU xc) (I.ok.hd hc) (Za (ZG (wpAny_Call_ofName (dS I hg hm ?_ hdb)) (fun v s₃ h₃=>Za (wpAny_standAt (Zd h₃))) fun _ _ x=>x))));unfold callWith;have hA:=ha.h cpos pins s σ H _ I h;rw[he]at hA ⊢;refine Za (ZV (Calls.evalArgs_plain (thn hA fun us s1 ⟨vs,H1,I1,r1,hz,hE⟩=>Za (wpAny_standAt ?_))));obtain⟨nm,q,N,bs,hdct,sn,sub,ab,col,dd,k0,k1,k2,k3,k5,mN,oC,hN,hi,T⟩:=jq xc I1.kIn;obtain⟨oI,lI,cI⟩:=xc.fn;obtain⟨hp,g,d,tk,os⟩:=s1;rw[<-he];simp only[hpl'];refine Za (wpAny_keeperOf_exc oC ?_);refine Za (qm PySem.F.excBase_ValueError T oC hN hi (I1.kIn _ _ lI) cI (fun h' ea mx=>?_) (show us.length<=sizeLine by rw[<-r1.length];exact hz));obtain⟨t,ht,tn,tt⟩:=mx.there;obtain⟨hea0,I2⟩:=I1.excMade mx.keeps mx.new ht;have nt:t≠ea:=fun z=>by rw[z,ht]at tt;cases tt
 have ht0:H1 t=none:=by
  cases q:H1 t with
  |none=>rfl
  |some u =>obtain⟨o,z⟩:=dX (I1.hok t u q);exact nomatch tn.symm.trans z
 have hq:=hE ea t hea0 ht0 nt;have hl:(Value.ref ea::us).length=ps.length:=by rw[<-G.len _ _ _ _ hq,Zl,Zl,r1.length]
 refine wpAny_call (codeAny_mono (G.run _ X.stack _ _ ⟨Value.ref ea::us,[]⟩ (Value.ref ea::us) (V.ref ea::vs) _ _ (hr.make C us []) (I2.env0.make C us []) (by have:=hb _ (Value.ref ea::us) I2.kIn (by rw[ZJ];exact hl);rw[ZJ]at this;exact this) (.cons rfl r1) hq) fun r s' hq'=>?_);cases r with
 |error e'=>exact False.elim hq'
 |ok fl =>
  cases fl with
  |next=>exact False.elim hq'
  |brk=>exact False.elim hq'
  |cont=>exact False.elim hq'
  |ret u =>
   obtain⟨v,H',os',bare,un,hok,r,rfl,dc,hd,hE'⟩:=hq';obtain rfl:u=Value.none:=r;have I3:Inv X pins σ H' s':=I2.call' os' un hok bare fun _ z=>nomatch z;have notin:∀b,hp.get? b=none->b∉frs X.stack:=fun b hb hm=>by obtain⟨_,o',ho',_⟩:=I1.stack.mem hm;exact nomatch hb.symm.trans ho'
   have hx:s'.heap.get? ea=some { cls:=.ref C,dict:=dc,data:=.fields #[.ref t,.none,.none,.none,.bool false,.none] }:=(show ObjOk X.prog X.w H' s'.heap ea (exN ea C t dc)from I3.hok ea _ hd).1;have ut:upd H1 ea (exN ea C t none) t=none:=by rw[af nt];exact ht0
   have tt':=un.keep t _ tt ut (notin t tn) (by intro z;cases z);refine⟨rfl,Za (ZV (wpAny_point (Zd ⟨ea,_,rfl,I3.kIn,hx,rfl,⟨t,rfl⟩,?_⟩)))⟩;have hy:s'.heap.get? ea=some { cls:=.ref C,dict:=dc,data:=.fields #[.ref t,.none,.none,.none,.bool false,.none] }:=hx;have ne:∀b v,H' b=some v->v≠exN ea C t dc->b≠ea:=fun b v q hv z=>by rw[z,hd]at q;exact hv (Zu q).symm
   have ft:=un.free t _ tt ut (by intro z;cases z);have tr2:∀b v,H' b=some v->b≠t:=fun b v q z=>by rw[z,ft]at q;cases q
   have tfr:∀b v,H' b=some v->b∉frs X.stack:=fun b v q hm=>by have:=I3.stkFree b hm;rw[q]at this;cases this
   have oe:∀b o,hp.get? b=some o->b≠ea:=fun b o q z=>by rw[z]at q;exact nomatch mx.new.symm.trans q
   have ot:∀b o,hp.get? b=some o->b≠t:=fun b o q z=>by rw[z]at q;exact nomatch tn.symm.trans q
   have un1:Un (frs X.stack) [] H1 (del H' ea) hp s'.heap:=by
    refine⟨fun b o q n hb hx'=>un.keep b o (mx.keeps b o q) (by rw[af (oe b o q)];exact n) hb hx',fun b o q n hb hx'=>un.slot b o (mx.keeps b o q) (by rw[af (oe b o q)];exact n) hb hx',fun b o q n hx'=>?_,fun b o q hx'=>un.there b o (mx.keeps b o q) hx',fun b xs q=>?_,fun b o v q=>?_,fun b ps' q=>?_⟩
    ·rw[cH (oe b o q)];exact un.free b o (mx.keeps b o q) (by rw[af (oe b o q)];exact n) hx'
    ·have:=un.tups b xs (by rw[af (al q hea0)];exact q);rw[cH (ne _ _ this (by intro z;cases z))];exact this
    ·have:=un.frzs b o v (by rw[af (al q hea0)];exact q);rw[cH (ne _ _ this (by intro z;cases z))];exact this
    ·obtain⟨more,this⟩:=un.tbls b ps' (by rw[af (al q hea0)];exact q);exact⟨more,by rw[cH (ne _ _ this (by intro z;cases z))];exact this⟩
   have hok1:HOk X.prog X.w (del H' ea) s'.heap:=fun b v q=>by obtain⟨hb,q⟩:=sM q;exact(I3.hok b v q).stay (fun _ _ _ z=>z) (fun b' z=>by rw[cH (ne _ _ z (by intro z;cases z))];exact z) fun b' xs z=>by rw[cH (ne _ _ z (by intro z;cases z))];exact z
   have hid:∀b o,s'.heap.get? b=some o->b≠ea->b≠t->b∉frs X.stack->(hideAll s'.heap (ea::t::frs X.stack)).get? b=some o:=fun b o q h1 h2 h3 =>
    hideAll_get _ q fun hm=>by
     rcases Zq.mp hm with z|hm
     ·exact h1 z
     rcases Zq.mp hm with z|hm
     ·exact h2 z
     ·exact h3 hm
   have Fx:Fl X H1 (del H' ea) ⟨hp,g,d,tk,os⟩ s' (hideAll s'.heap (ea::t::frs X.stack)):=⟨os',bare,un1,hok1,fun b o hb ho q=>by
    rcases ho with⟨v,z⟩|⟨o0,z⟩
    ·obtain⟨hb',z⟩:=sM z;exact hid b o q hb' (tr2 _ _ z) hb
    ·exact hid b o q (oe b o0 z) (ot b o0 z) hb⟩
   exact hR ea s' ⟨pins,σ,H1,del H' ea,_,_,t,.ref C,us,dc,I1,Fx,.inl ⟨fun b o q=>of_hideAll _ q,hideAll_none _ Zv,
    funFrames_hide I3.stack fun env he b hb=>Zn _ (Zn _ (Yz.mpr ⟨env,he,hb⟩)),_,hy,rfl,rfl⟩,⟨_,_,tt',rfl,rfl⟩,hideAll_none _ (Zn _ Zv),⟨_,hy,rfl⟩,hE'⟩
end
open PySem PySem.Spec PyProof.Rows PySem.W
open PySem PySem.Spec PyProof.Rows PySem.W
def C3(a:Addr)(o:Obj):HO:=.ext fun h=>h.get? a=some o
structure LamOk(P:Program)(w:World)(K:PySem.W.Frag)(mg:Str->Option Value)(base:Heap)(k:Nat)(qual:Str)(body:Expr)(scope:Scope)(x:Str)(sp:Sp):Prop where
 ex:∃N:List Str,FnScope N [x] scope/\(∀vs H Q E,sp vs H Q E->vs.length=1)/\∀(f c':Addr) (A:Around) (outer:List Env) (s:Shared) (H:Hp) (vs:List V) (Q:VK) (E:XK),Room k (A.deeper (envOfC qual scope s.heap.objs.size f (.ref c')))->sp vs H Q E ->
  ∃t,QE (dD CX0 P w K mg base N qual scope f (.ref c') A outer s H E) body t/\t (start N vs) H Q
open PySem PySem.Spec PyProof.Rows PySem.W
open PySem PySem.Spec PyProof.Rows PySem.W
inductive SKey where
 |i (n:Int)|s (t:Str)|bi (b:Bool)(n:Int)
def SKey.at(H:Hp):SKey->V->Prop
 |.i n,v=>v=.int n
 |.s t,v=>v=.str t
 |.bi b n,v=>∃a,v=.ref a/\H a=some (.tup [.bl b,.int n])
section
variable{X:Cx}{pins:List (Addr×Obj)}{σ:St}{H:Hp}{s:Shared}{h':Heap}
def qg(X:Cx)(pins:List (Addr×Obj))(σ:St)(f:Addr)(sp:Sp):Prop:=∀(s:Shared) (H:Hp) (u:Value) (v:V) (Q:VK),Inv X pins σ H s->RelV v u->sp [v] H Q E0->codeAny (model X.prog X.w) X.A.in1.in1 (.call (.ref f) ⟨[u],[]⟩) (CR CX0 X.stack X.prog X.w H s Q E0) s
theorem yP{k:Nat}{f:Addr}{fd:FuncData}{x:Str}{sp:Sp}(F:FnOk X.prog X.w X.K X.mg X.base CX0 k f fd [x] sp)(hb:∀(s:Shared) (u:Value),X.K.In s.heap->BindsTo s fd ⟨[u],[]⟩ [(x,u)])(hr:Room k X.A.in1.in1):∀l,qg (wX X l) pins σ f sp:=fun l s H u v Q I ru hs=>by
 have env:Env0 X.prog X.w X.K X.mg X.base X.A.in1.in1 X.stack s H:=by have e0:=I.env0;exact⟨e0.frames,e0.mod,e0.bs,e0.bsz,e0.funs,e0.frf,e0.hok,e0.bare⟩
 exact F.run X.A.in1.in1 X.stack s H ⟨[u],[]⟩ [u] [v] Q E0 hr env (hb s u I.kIn) (.cons ru .nil) hs
structure SG(X:Cx)(pins:List (Addr×Obj))(σ:St)(H1:Hp)(m:Str->Option Value)(kS D:Addr)(e1:Nat)(ks:List SKey)(as:List V)(us:List Value)(e:Nat)(H:Hp)(s:Shared):Prop where
 I:Inv X pins σ H s
 sm:Same H1 H
 fk:aV X pins H kS
 fd:aV X pins H D
 bk:X.base.get? kS=none
 bd:X.base.get? D=none
 hk:s.heap.get? kS=some (seqObj "list" (List.toArray us) e)
 hd:s.heap.get? D=some (seqObj "list" #[] e1)
 ns:s.heap.Ns X.env.locals m
 vals:Vals as us
 keys:∀(i:Nat) (a:V) (k:SKey),as[i]?=some a->ks[i]?=some k->k.at H a
theorem oh(b:Bool){xs:List V}{us:List Value}(h:Vals xs us):Vals (katRev b xs) (katRev b us):=by
 cases b with
 |false=>exact h
 |true =>
  show Vals xs.reverse us.reverse;induction h with
  |nil=>exact .nil
  |cons r _ ih =>rw[List.reverse_cons,List.reverse_cons];exact ih.append (.cons r .nil)
theorem yb(n m:Int):HT.lexLt [n] [m]=decide (n<m):=by
 rw[HT.lexLt_cons,HT.lexLt_nil_nil];by_cases z:n=m
 ·rw[if_pos z,decide_eq_false (by omega)]
 ·rw[if_neg z]
end
open PySem PySem.Spec PyProof.Rows PySem.W
structure LamScope(x y:Str)(sc:Scope):Prop where
 kind:sc.kind=.function
 co:sc.isCoroutine=false
 gen:sc.isGenerator=false
 lx:sc.names.lookup x=some .local
 ly:sc.names.lookup y=some .free
 nc:∀z∈sc.names,z.2≠.cell
 nf:∀z∈sc.names,z.2=.free->z.1=y
 ne:x≠y
def cxX(CX:CXT)(P:Program)(w:World)(K:PySem.W.Frag)(mg:Str->Option Value)(base:Heap)(N:List Str)(qual:Str)(scope:Scope)(f:Addr)(cd:Value)(cl:List (Str×Addr))(A:Around)(outer:List Env)(s:Shared)(H:Hp)(E:XK):Cx where
 prog:=P
 w:=w
 K:=K
 mg:=mg
 base:=base
 A:=A.deeper (envX qual scope s.heap.objs.size f cd cl)
 N:=N
 s₀:=s
 H₀:=H
 env:=envX qual scope s.heap.objs.size f cd cl
 outer:=outer
 stack:=envX qual scope s.heap.objs.size f cd cl::outer
 ex:=[]
 calm:=true
 fn:=fun _=>false
 pn:=[]
 xe:=fun e s'=>wpAny (model P w) (A.deeper (envX qual scope s.heap.objs.size f cd cl)) (leaving (envX qual scope s.heap.objs.size f cd cl) e) (fun _ s''=>CX outer H s E e s'') (fun e' s''=>CX outer H s E e' s'') s'
open PySem PySem.Spec PyProof.Rows PySem.W
section
variable{X:Cx}{c P:Addr}{params:Arguments}{body:Expr}{scope:Scope}{pos:Pos}{cl:List (Str×Addr)}
structure LamOkX(P:Program)(w:World)(K:PySem.W.Frag)(mg:Str->Option Value)(base:Heap)(k:Nat)(qual:Str)(body:Expr)(scope:Scope)(x y:Str)(sp:V->Sp):Prop where
 sc:LamScope x y scope
 ex:∀(f c' c:Addr) (kv:V) (A:Around) (outer:List Env) (s:Shared) (H:Hp) (v:V) (Q:VK),Room k (A.deeper (envX qual scope s.heap.objs.size f (.ref c') [(y,c)]))->sp kv [v] H Q E0 ->
  ∃t,QE (cxX CX0 P w K mg base [x,y] qual scope f (.ref c') [(y,c)] A outer s H E0) body t/\t [some v,some kv] H Q
end
open PySem PySem.Spec PyProof.Rows PySem.W
open PySem PyProof.Rows PySem.W
def dg:Bool->Keyed->Array Keyed->Nat->Nat->Nat->StateT SortSt Sem (Option Nat):=sortPriv%PySem.Builtin.gallop
def zLo:Array Keyed->Array Keyed->StateT SortSt Sem (Array Keyed):=sortPriv%PySem.Builtin.mergeLo
def zHi:Array Keyed->Array Keyed->StateT SortSt Sem (Array Keyed):=sortPriv%PySem.Builtin.mergeHi
def gZ:Nat->StateT SortSt Sem Unit:=sortPriv%PySem.Builtin.setMinGallop
def gW(le:Bool)(ky:Keyed)(ar:Array Keyed)(ba i:Nat):StateT SortSt Sem (Option Bool):=do
 let it ←elem' ar (ba+i)
 if le then lt' it ky else do
  let o ←lt' ky it
  pure (o.map (!·))
theorem zr(le:Bool)(ky:Keyed)(ar:Array Keyed)(ba n at0:Nat):dg le ky ar ba n at0=(do
 let mut las:=0;let mut ofs:=1;let mut lo:=0;let mut hi:=0
 let some rig ←gW le ky ar ba at0|return none
 if rig then
  for _ in[0:n]do
   if ofs>=n-at0 then break
   let some mo ←gW le ky ar ba (at0+ofs)|return none
   if !mo then break
   las:=ofs;ofs:=2*ofs+1
  lo:=at0+las+1;hi:=at0+min ofs (n-at0)
 else
  for _ in[0:n]do
   if ofs>=at0+1 then break
   let some fo ←gW le ky ar ba (at0-ofs)|return none
   if fo then break
   las:=ofs;ofs:=2*ofs+1
  lo:=at0+1-min ofs (at0+1);hi:=at0-las
 for _ in[0:n]do
  if lo>=hi then break
  let some mo ←gW le ky ar ba (lo+(hi-lo) / 2)|return none
  if mo then lo:=lo+(hi-lo) / 2+1 else hi:=lo+(hi-lo) / 2
 return some hi):=rfl
theorem B3(a b:Array Keyed):zLo a b=(do
 liftM (rule "list.sort.merge-lo");let e0 ←elem' b 0;let mut out:Array Keyed:=#[e0];let mut ia:=0;let mut ib:=1
 if ib==b.size then return out++a.extract ia a.size++b.extract ib b.size
 if ia+1==a.size then return out++b.extract ib b.size++a.extract ia a.size
 let mut mg:=gallopOf (←get)
 for _ in[0:a.size+b.size]do
  let mut ac:=0;let mut bc:=0
  for _ in[0:a.size+b.size]do
   let y ←elem' b ib;let x ←elem' a ia
   let some won ←lt' y x|return out++a.extract ia a.size++b.extract ib b.size
   if won then
    let y ←elem' b ib;out:=out.push y;ib:=ib+1;bc:=bc+1;ac:=0
    if ib==b.size then return out++a.extract ia a.size++b.extract ib b.size
    if bc>=mg then break
   else
    let x ←elem' a ia;out:=out.push x;ia:=ia+1;ac:=ac+1;bc:=0
    if ia+1==a.size then return out++b.extract ib b.size++a.extract ia a.size
    if ac>=mg then break
  liftM (rule "list.sort.gallop");mg:=mg+1
  for _ in[0:a.size+b.size]do
   if mg>1 then mg:=mg-1
   gZ mg;let y ←elem' b ib
   let some k ←dg false y a ia (a.size-ia) 0|return out++a.extract ia a.size++b.extract ib b.size
   ac:=k
   if k>0 then
    out:=out++a.extract ia (ia+k);ia:=ia+k
    if ia+1==a.size then return out++b.extract ib b.size++a.extract ia a.size
    if ia==a.size then return out++a.extract ia a.size++b.extract ib b.size
   let y ←elem' b ib;out:=out.push y;ib:=ib+1
   if ib==b.size then return out++a.extract ia a.size++b.extract ib b.size
   let x ←elem' a ia
   let some k ←dg true x b ib (b.size-ib) 0|return out++a.extract ia a.size++b.extract ib b.size
   bc:=k
   if k>0 then
    out:=out++b.extract ib (ib+k);ib:=ib+k
    if ib==b.size then return out++a.extract ia a.size++b.extract ib b.size
   let x ←elem' a ia;out:=out.push x;ia:=ia+1
   if ia+1==a.size then return out++b.extract ib b.size++a.extract ia a.size
   if ac<7&&bc<7 then break
  mg:=mg+1;gZ mg
 unsupported "internal:list.sort.merge-bound"):=rfl
theorem B0(a b:Array Keyed):zHi a b=(do
 liftM (rule "list.sort.merge-hi");let mut na:=a.size-1;let mut nb:=b.size;let e0 ←elem' a na;let mut out:Array Keyed:=#[e0]
 if na==0 then return a.extract 0 na++b.extract 0 nb++out.reverse
 if nb==1 then return b.extract 0 nb++a.extract 0 na++out.reverse
 let mut mg:=gallopOf (←get)
 for _ in[0:a.size+b.size]do
  let mut ac:=0;let mut bc:=0
  for _ in[0:a.size+b.size]do
   let y ←elem' b (nb-1);let x ←elem' a (na-1)
   let some won ←lt' y x|return a.extract 0 na++b.extract 0 nb++out.reverse
   if won then
    na:=na-1;let x ←elem' a na;out:=out.push x;ac:=ac+1;bc:=0
    if na==0 then return a.extract 0 na++b.extract 0 nb++out.reverse
    if ac>=mg then break
   else
    nb:=nb-1;let y ←elem' b nb;out:=out.push y;bc:=bc+1;ac:=0
    if nb==1 then return b.extract 0 nb++a.extract 0 na++out.reverse
    if bc>=mg then break
  liftM (rule "list.sort.gallop");mg:=mg+1
  for _ in[0:a.size+b.size]do
   if mg>1 then mg:=mg-1
   gZ mg;let y ←elem' b (nb-1)
   let some k ←dg false y a 0 na (na-1)|return a.extract 0 na++b.extract 0 nb++out.reverse
   ac:=na-k
   if na-k>0 then
    out:=out++(a.extract k na).reverse;na:=k
    if na==0 then return a.extract 0 na++b.extract 0 nb++out.reverse
   nb:=nb-1;let y ←elem' b nb;out:=out.push y
   if nb==1 then return b.extract 0 nb++a.extract 0 na++out.reverse
   let x ←elem' a (na-1)
   let some k ←dg true x b 0 nb (nb-1)|return a.extract 0 na++b.extract 0 nb++out.reverse
   bc:=nb-k
   if nb-k>0 then
    out:=out++(b.extract k nb).reverse;nb:=k
    if nb==1 then return b.extract 0 nb++a.extract 0 na++out.reverse
    if nb==0 then return a.extract 0 na++b.extract 0 nb++out.reverse
   na:=na-1;let x ←elem' a na;out:=out.push x
   if na==0 then return a.extract 0 na++b.extract 0 nb++out.reverse
   if ac<7&&bc<7 then break
  mg:=mg+1;gZ mg
 unsupported "internal:list.sort.merge-bound"):=rfl
def ji(ar:Array Keyed)(at0:Nat)(xs:Array Keyed):Array Keyed:=xs.toList.zipIdx.foldl (fun a (p,j)=>a.setIfInBounds (at0+j) p) ar
theorem BZ(i:Nat):mergeAt' i=(do
 let st ←get
 let(some (sa,na,pw),some (sb,nb,_)):=((pendingOf st)[i]?,(pendingOf st)[i+1]?)|unsupported "internal:list.sort.pending"
 set (setPending st (((pendingOf st).setIfInBounds i (sa,na+nb,pw)).eraseIdxIfInBounds (i+1)))
 let y ←elem' (arrOf st) sb
 let some k ←dg false y (arrOf st) sa na 0|return false
 if na-k==0 then return true
 let x ←elem' (arrOf st) (sa+k+(na-k)-1)
 let some nc ←dg true x (arrOf st) sb nb (nb-1)|return false
 if nc==0 then return true
 let mer ←if na-k<=nc then zLo ((arrOf st).extract (sa+k) sb) ((arrOf st).extract sb (sb+nc))else zHi ((arrOf st).extract (sa+k) sb) ((arrOf st).extract sb (sb+nc))
 modify fun st=>setArr st (ji (arrOf st) (sa+k) mer)
 return (failedOf (←get)).isNone):=rfl
open PySem PyProof.Rows PySem.W
section
variable{prog:Program}{w:World}{A:Around}{E:Value->Shared->Prop}{s:Shared}{κ:SortKind}{it:Array Keyed}{lt:Nat->Nat->Bool}{N:Nat}{st:SortSt}
def Zc(prog:Program)(w:World)(A:Around)(s:Shared)(κ:SortKind)(it:Array Keyed)(lt:Nat->Nat->Bool)(N:Nat):Prop :=
 ∀i j (C:Bool->Shared->Prop),i<N->j<N->C (lt i j) s->kas_cmp prog w A κ it i j C s
theorem oo(Z:Zc prog w A s κ it lt N){i j:Nat}{Q:Option Bool->SortSt->Prop}(hk:kindOf st=κ)(hi:i<N)(hj:j<N)(h:Q (some (lt i j)) st):wpS (model prog w) A E s (lt' (kas_item it i) (kas_item it j)) Q st:=by rw[lt'_eq];refine Zi (wpS_get ?_);rw[hk];refine Zi (wpS_lift (wpAny_attempt (ZG (Z i j (fun c s'=>c=lt i j/\s'=s) hi hj ⟨rfl,rfl⟩) (fun c s' hc=>?_) fun _ _ hF=>hF.elim)));obtain⟨rfl,rfl⟩:=hc;exact⟨rfl,Zk h⟩
theorem B4{q:Array Nat}{i:Nat}(hi:i<q.size):elem' (q.map (kas_item it)) i=pure (kas_item it (gA q i)):=by
 rw[elem'_eq];have e:(q.map (kas_item it))[i]?=some (kas_item it (gA q i)):=by
  rw[Array.getElem?_map];have e1:gA q i=q[i]:=by unfold gA;simp[Array.getD,hi]
  rw[e1];simp[hi]
 rw[e]
def zB(lt:Nat->Nat->Bool)(le:Bool)(k x:Nat):Bool:=if le=true then lt x k else !lt k x
theorem CS(Z:Zc prog w A s κ it lt N){le:Bool}{k ba i:Nat}{q:Array Nat}{Q:Option Bool->SortSt->Prop}(hk:kindOf st=κ)(hK:k<N)(hi:ba+i<q.size)(hq:gA q (ba+i)<N)(h:Q (some (zB lt le k (gA q (ba+i)))) st) :
  wpS (model prog w) A E s (gW le (kas_item it k) (q.map (kas_item it)) ba i) Q st:=by
 unfold gW;rw[B4 hi];refine Zi (Zk ?_);cases le with
 |true =>simp only[if_true];exact oo Z hk hq hK h
 |false =>simp only[YA,if_false];exact Zi (oo Z hk hK hq (Zk h))
theorem B5{le:Bool}{ky:Keyed}{ar:Array Keyed}{ba n at0:Nat}{B:Nat->Bool}{Q:Option Nat->SortSt->Prop}(hb:∀i (Q:Option Bool->SortSt->Prop),i<n->Q (some (B i)) st->wpS (model prog w) A E s (gW le ky ar ba i) Q st)(h0:at0<n)(mono:∀i j,i<=j->j<n->B j=true->B i=true)(h:∀m,m<=n->(∀i,i<m->B i=true)->(∀i,m<=i->i<n->B i=false)->Q (some m) st):wpS (model prog w) A E s (dg le ky ar ba n at0) Q st:=by
 have fin:∀ lo hi,lo<=hi->hi<=n->(∀ i,i<lo->B i=true)->(∀ i,hi<=i->i<n->B i=false)->wpS (model prog w) A E s (do
   let mut lo:=lo;let mut hi:=hi
   for _ in[0:n]do
    if lo>=hi then break
    let some mo ←gW le ky ar ba (lo+(hi-lo) / 2)|return none
    if mo then lo:=lo+(hi-lo) / 2+1 else hi:=lo+(hi-lo) / 2
   return some hi) Q st:=fun lo hi h1 h2 h3 h4=>by
  refine Zi (y9 (Z4 (I:=fun x c st'=>st'=st/\∃ lo hi,c=(none,lo,hi)/\lo<=hi/\hi<=n/\hi - lo<=n - x/\(∀ i,i<lo->B i=true)/\(∀ i,hi<=i->i<n->B i=false))
   (Q:=fun c st'=>st'=st/\∃ hi,c=(none,hi,hi)/\hi<=n/\(∀ i,i<hi->B i=true)/\(∀ i,hi<=i->i<n->B i=false)) ?step ?fin ⟨rfl,lo,hi,rfl,h1,h2,by omega,h3,h4⟩) ?post)
  case fin =>
   rintro c st' ⟨rfl,lo,hi,rfl,g1,g2,g3,g4,g5⟩;have e:lo=hi:=by omega
   subst e;exact⟨rfl,lo,rfl,g2,g4,g5⟩
  case post =>rintro c st' ⟨rfl,hi,rfl,g2,g4,g5⟩;exact Zk (h hi g2 g4 g5)
  case step =>
   rintro x c st' _ hx ⟨rfl,lo,hi,rfl,g1,g2,g3,g4,g5⟩;dsimp only;by_cases hge:lo>=hi
   ·rw[if_pos hge];have e:lo=hi:=by omega
    subst e;exact Zk ⟨rfl,lo,rfl,g2,g4,g5⟩
   ·rw[if_neg hge];refine Zi (hb _ _ (by omega) ?_);dsimp only;cases e:B (lo+(hi-lo) / 2)with
    |true =>rw[if_pos rfl];exact Zk ⟨rfl,_,_,rfl,by omega,g2,by omega,fun i hi'=>mono i (lo+(hi-lo) / 2) (by omega) (by omega) e,g5⟩
    |false =>
     rw[if_neg (by simp)];refine Zk ⟨rfl,_,_,rfl,by omega,by omega,by omega,g4,fun i hi1 hi2=>?_⟩;cases e':B i with
     |false=>rfl
     |true=>rw[mono _ i hi1 hi2 e']at e;cases e
 rw[zr];refine Zi (hb at0 _ h0 ?_);dsimp only;cases e:B at0 with
 |true =>
  simp only[if_true];refine Zi (y9 (Z4 (I:=fun x c st'=>st'=st/\∃ las ofs,c=(none,las,ofs)/\las<ofs/\x+1<=ofs/\las<n - at0/\B (at0+las)=true)
   (Q:=fun c st'=>st'=st/\∃ las ofs,c=(none,las,ofs)/\las<ofs/\las<n - at0/\B (at0+las)=true/\(ofs>=n - at0\/B (at0+ofs)=false)) ?step ?fin ⟨rfl,0,1,rfl,by omega,by omega,by omega,e⟩) ?post)
  case fin =>rintro c st' ⟨rfl,las,ofs,rfl,g1,g2,g3,g4⟩;exact⟨rfl,las,ofs,rfl,g1,g3,g4,.inl (by omega)⟩
  case post =>
   rintro c st' ⟨rfl,las,ofs,rfl,g1,g2,g3,g4⟩;refine fin (at0+las+1) (at0+min ofs (n-at0)) (by omega) (by omega) (fun i hi'=>mono i (at0+las) (by omega) (by omega) g3) fun i hi1 hi2=>?_;rcases g4 with g4|g4
   ·omega
   ·cases e':B i with
    |false=>rfl
    |true=>rw[mono _ i (by omega) hi2 e']at g4;cases g4
  case step =>
   rintro x c st' _ hx ⟨rfl,las,ofs,rfl,g1,g2,g3,g4⟩;dsimp only;by_cases hge:ofs>=n-at0
   ·rw[if_pos hge];exact Zk ⟨rfl,las,ofs,rfl,g1,g3,g4,.inl hge⟩
   ·rw[if_neg hge];refine Zi (hb _ _ (by omega) ?_);dsimp only;cases e:B (at0+ofs)with
    |true =>rw[if_neg (by simp)];exact Zk ⟨rfl,ofs,_,rfl,by omega,by omega,by omega,e⟩
    |false =>rw[if_pos (by simp)];exact Zk ⟨rfl,las,ofs,rfl,g1,g3,g4,.inr e⟩
 |false =>
  simp only[YA,if_false];refine Zi (y9 (Z4 (I:=fun x c st'=>st'=st/\∃ las ofs,c=(none,las,ofs)/\las<ofs/\x+1<=ofs/\las<=at0/\B (at0 - las)=false)
   (Q:=fun c st'=>st'=st/\∃ las ofs,c=(none,las,ofs)/\las<ofs/\las<=at0/\B (at0 - las)=false/\(ofs>=at0+1\/B (at0 - ofs)=true)) ?step ?fin ⟨rfl,0,1,rfl,by omega,by omega,by omega,e⟩) ?post)
  case fin =>rintro c st' ⟨rfl,las,ofs,rfl,g1,g2,g3,g4⟩;exact⟨rfl,las,ofs,rfl,g1,g3,g4,.inl (by omega)⟩
  case post =>
   rintro c st' ⟨rfl,las,ofs,rfl,g1,g2,g3,g4⟩;refine fin (at0+1-min ofs (at0+1)) (at0-las) (by omega) (by omega) (fun i hi'=>?_) fun i hi1 hi2=>?_
   ·rcases g4 with g4|g4
    ·omega
    ·exact mono i (at0-ofs) (by omega) (by omega) g4
   ·cases e':B i with
    |false=>rfl
    |true=>rw[mono _ i hi1 hi2 e']at g3;cases g3
  case step =>
   rintro x c st' _ hx ⟨rfl,las,ofs,rfl,g1,g2,g3,g4⟩;dsimp only;by_cases hge:ofs>=at0+1
   ·rw[if_pos hge];exact Zk ⟨rfl,las,ofs,rfl,g1,g3,g4,.inl hge⟩
   ·rw[if_neg hge];refine Zi (hb _ _ (by omega) ?_);dsimp only;cases e:B (at0-ofs)with
    |true =>rw[if_pos rfl];exact Zk ⟨rfl,las,ofs,rfl,g1,g3,g4,.inr e⟩
    |false =>rw[if_neg (by simp)];exact Zk ⟨rfl,ofs,_,rfl,by omega,by omega,by omega,e⟩
theorem iw(Z:Zc prog w A s κ it lt N){le:Bool}{k ba n at0:Nat}{q:Array Nat}{Q:Option Nat->SortSt->Prop}(hk:kindOf st=κ)(hK:k<N)(hz:ba+n<=q.size)(hq:∀i,ba<=i->i<ba+n->gA q i<N)(h0:at0<n)(mono:∀i j,i<=j->j<n->zB lt le k (gA q (ba+j))=true->zB lt le k (gA q (ba+i))=true)(h:∀m,m<=n->(∀i,i<m->zB lt le k (gA q (ba+i))=true)->(∀i,m<=i->i<n->zB lt le k (gA q (ba+i))=false)->Q (some m) st):wpS (model prog w) A E s (dg le (kas_item it k) (q.map (kas_item it)) ba n at0) Q st :=
 B5 (B:=fun i=>zB lt le k (gA q (ba+i))) (fun i _ hi hQ=>CS Z hk hK (by omega) (hq _ (by omega) (by omega)) hQ) h0 mono h
end
open PySem PyProof.Rows PySem.W
section
variable{lt:Nat->Nat->Bool}
theorem aB(p:Array Nat)(k:Nat):gA p k=p.toList.getD k 0:=by unfold gA;rw[Yg,Zg,Array.getElem?_toList]
theorem hZ{l:List Nat}{i x:Nat}(h:x∈l.drop i):∃j,i<=j/\j<l.length/\l.getD j 0=x:=by obtain⟨n,hn,e⟩:=List.mem_iff_getElem.mp h;rw[Z9]at hn;refine⟨i+n,by omega,by omega,?_⟩;rw[List.getElem_drop]at e;rw[Zg,Zf (by omega)];exact e
theorem ic{l:List Nat}{i x:Nat}(h:x∈l.take i):∃j,j<i/\j<l.length/\l.getD j 0=x:=by obtain⟨n,hn,e⟩:=List.mem_iff_getElem.mp h;rw[ZL]at hn;refine⟨n,by omega,by omega,?_⟩;rw[List.getElem_take]at e;rw[Zg,Zf (by omega)];exact e
theorem sG{l:List Nat}{i k x:Nat}(h:x∈(l.drop i).take k):∃j,i<=j/\j<i+k/\j<l.length/\l.getD j 0=x:=by obtain⟨j,h1,h2,e⟩:=ic h;rw[Z9]at h2;refine⟨i+j,by omega,by omega,by omega,?_⟩;rw[<-e,Zg,Zg,List.getElem?_drop]
def Mg(lt:Nat->Nat->Bool)(T o A B:List Nat):Prop:=∀r:List Nat,r.Perm (A++B)->r.Pairwise (Lx lt)->(o++r).Pairwise (Lx lt)/\(o++r).Perm T
def Mh(lt:Nat->Nat->Bool)(T o A B:List Nat):Prop:=∀r:List Nat,r.Perm (A++B)->r.Pairwise (Lx lt)->(r++o).Pairwise (Lx lt)/\(r++o).Perm T
theorem Mg.step{T o A B c A' B':List Nat}(h:Mg lt T o A B)(hp:(c++(A'++B')).Perm (A++B))(hc:c.Pairwise (Lx lt))(hx:∀x∈c,∀y∈A'++B',Lx lt x y):Mg lt T (o++c) A' B':=fun r hr hs=>by rw[Zy];exact h (c++r) ((hr.append_left c).trans hp) (ZH.mpr ⟨hc,hs,fun x hx' y hy=>hx x hx' y (hr.mem_iff.mp hy)⟩)
theorem Mh.step{T o A B c A' B':List Nat}(h:Mh lt T o A B)(hp:((A'++B')++c).Perm (A++B))(hc:c.Pairwise (Lx lt))(hx:∀y∈A'++B',∀x∈c,Lx lt y x):Mh lt T (c++o) A' B':=fun r hr hs=>by rw[<-Zy];exact h (r++c) ((hr.append_right c).trans hp) (ZH.mpr ⟨hs,hc,fun y hy x hx'=>hx y (hr.mem_iff.mp hy) x hx'⟩)
structure MF(lt:Nat->Nat->Bool)(N:Nat)(a b:Array Nat):Prop where
 sa:∀i j,i<j->j<a.size->Lx lt (gA a i) (gA a j)
 sb:∀i j,i<j->j<b.size->Lx lt (gA b i) (gA b j)
 cr:∀i j,i<a.size->j<b.size->lt (gA b j) (gA a i)=false->Lx lt (gA a i) (gA b j)
 na:∀i,i<a.size->gA a i<N
 nb:∀i,i<b.size->gA b i<N
 a0:0<a.size
 b0:0<b.size
 fst:lt (gA b 0) (gA a 0)=true
 lst:∀j,j<b.size->lt (gA b j) (gA a (a.size-1))=true
theorem cw{p:Array Nat}(h:∀i j,i<j->j<p.size->Lx lt (gA p i) (gA p j)):p.toList.Pairwise (Lx lt):=by rw[Z1];intro i j hi hj hij;have:=h i j hij (by simpa using hj);rw[aB,aB,Zg,Zg,Zf hi,Zf hj]at this;exact this
theorem qS{p:Array Nat}(h:p.toList.Pairwise (Lx lt)):∀i j,i<j->j<p.size->Lx lt (gA p i) (gA p j):=fun i j hij hj=>by
 rw[Z1]at h;have hj':j<p.toList.length:=by simpa using hj
 have:=h i j (by omega) hj' hij;rw[aB,aB,Zg,Zg,Zf (show i<p.toList.length by omega),Zf hj'];exact this
variable{N:Nat}{a b:Array Nat}{f:Nat->Keyed}
theorem MF.leA(h:MF lt N a b)(O:LtOk lt){i j:Nat}(hij:i<=j)(hj:j<a.size){x:Nat}(hx:lt x (gA a i)=true):lt x (gA a j)=true:=by
 rcases Z0 i j with h1|h1
 ·exact O.lt_le hx (h.sa i j h1 hj).1
 ·have e:i=j:=by omega
  rw[<-e];exact hx
theorem MF.leB(h:MF lt N a b)(O:LtOk lt){i j:Nat}(hij:i<=j)(hj:j<b.size){x:Nat}(hx:lt (gA b j) x=true):lt (gA b i) x=true:=by
 rcases Z0 i j with h1|h1
 ·exact O.le_lt (h.sb i j h1 hj).1 hx
 ·have e:i=j:=by omega
  rw[e];exact hx
def Gd(lt:Nat->Nat->Bool)(f:Nat->Keyed)(a b:Array Nat)(r:Array Keyed):Prop:=∃q:Array Nat,r=q.map f/\q.toList.Pairwise (Lx lt)/\q.toList.Perm (a.toList++b.toList)
def LoM(lt:Nat->Nat->Bool)(f:Nat->Keyed)(a b:Array Nat)(out:Array Keyed)(ia ib:Nat):Prop:=∃o:Array Nat,out=o.map f/\Mg lt (a.toList++b.toList) o.toList (a.toList.drop ia) (b.toList.drop ib)
def HiM(lt:Nat->Nat->Bool)(f:Nat->Keyed)(a b:Array Nat)(out:Array Keyed)(na nb:Nat):Prop:=∃o:Array Nat,out=o.map f/\Mh lt (a.toList++b.toList) o.toList.reverse (a.toList.take na) (b.toList.take nb)
theorem bo(p:Array Nat)(i j:Nat):(p.map f).extract i j=(p.extract i j).map f:=by apply Array.toList_inj.mp;simp
theorem fM(p:Array Nat)(i k:Nat):(p.extract i (i+k)).toList=(p.toList.drop i).take k:=by rw[Array.toList_extract,List.extract_eq_take_drop,ZX]
theorem fL(p:Array Nat)(i:Nat):(p.extract i p.size).toList=p.toList.drop i:=by rw[Array.toList_extract,List.extract_eq_take_drop];exact ZN (by simp)
theorem fN(p:Array Nat)(i:Nat):(p.extract 0 i).toList=p.toList.take i:=by rw[Array.toList_extract,List.extract_eq_take_drop,List.drop_zero,Nat.sub_zero]
theorem LoM.chunkA(M:MF lt N a b)(O:LtOk lt){out:Array Keyed}{ia ib:Nat}(h:LoM lt f a b out ia ib)(k:Nat)(hk:ia+k<=a.size)(hb:ib<b.size)(hw:∀i,i<k->lt (gA b ib) (gA a (ia+i))=false):LoM lt f a b (out++(a.map f).extract ia (ia+k)) (ia+k) ib:=by
 obtain⟨o,rfl,h⟩:=h;refine⟨o++a.extract ia (ia+k),by rw[bo,Ya],?_⟩;rw[ZF,fM];have e:a.toList.drop ia=(a.toList.drop ia).take k++a.toList.drop (ia+k):=by rw[<-List.drop_drop,ZR]
 have pa:(a.toList.drop ia).Pairwise (Lx lt):=(cw M.sa).sublist (Yl _ _);refine h.step ?_ (pa.sublist (Yb _ _)) fun x hx y hy=>?_
 ·rw[<-Zy,<-e]
 ·rcases ZD.mp hy with hy|hy
  ·rw[e]at pa;exact(ZH.mp pa).2.2 x hx y hy
  ·obtain⟨i,h1,h2,h3,rfl⟩:=sG hx;obtain⟨j,g1,g2,rfl⟩:=hZ hy;have h3':i<a.size:=by simpa using h3
   have g2':j<b.size:=by simpa using g2
   rw[<-aB,<-aB];have w:=hw (i-ia) (by omega);rw[show ia+(i-ia)=i by omega]at w;refine M.cr i j h3' g2' ?_;cases e':lt (gA b j) (gA a i)with
   |false=>rfl
   |true=>rw[M.leB O g1 g2' e']at w;cases w
theorem LoM.chunkB(M:MF lt N a b)(O:LtOk lt){out:Array Keyed}{ia ib:Nat}(h:LoM lt f a b out ia ib)(k:Nat)(hk:ib+k<=b.size)(hb:ia<a.size)(hw:∀i,i<k->lt (gA b (ib+i)) (gA a ia)=true):LoM lt f a b (out++(b.map f).extract ib (ib+k)) ia (ib+k):=by
 obtain⟨o,rfl,h⟩:=h;refine⟨o++b.extract ib (ib+k),by rw[bo,Ya],?_⟩;rw[ZF,fM];have e:b.toList.drop ib=(b.toList.drop ib).take k++b.toList.drop (ib+k):=by rw[<-List.drop_drop,ZR]
 have pb:(b.toList.drop ib).Pairwise (Lx lt):=(cw M.sb).sublist (Yl _ _);refine h.step ?_ (pb.sublist (Yb _ _)) fun x hx y hy=>?_
 ·refine(List.perm_append_comm_assoc _ _ _).trans ?_;rw[<-e]
 ·rcases ZD.mp hy with hy|hy
  ·obtain⟨i,h1,h2,h3,rfl⟩:=sG hx;obtain⟨j,g1,g2,rfl⟩:=hZ hy;have g2':j<a.size:=by simpa using g2
   rw[<-aB,<-aB];have w:=hw (i-ib) (by omega);rw[show ib+(i-ib)=i by omega]at w;exact Lx.of_lt O (M.leA O g1 g2' w)
  ·rw[e]at pb;exact(ZH.mp pb).2.2 x hx y hy
theorem iX{out:Array Keyed}{p:Array Nat}{i:Nat}(hi:i<p.size):out.push (f (gA p i))=out++(p.map f).extract i (i+1):=by
 apply Array.toList_inj.mp;rw[Array.toList_push,ZF,bo,Array.toList_map,fM];have hi':i<p.toList.length:=by simpa using hi
 have e:(p.toList.drop i).take 1=[gA p i]:=by rw[List.drop_eq_getElem_cons hi',aB,Zg,Zf hi'];rfl
 rw[e];rfl
theorem LoM.pushA(M:MF lt N a b)(O:LtOk lt){out:Array Keyed}{ia ib:Nat}(h:LoM lt f a b out ia ib)(ha:ia<a.size)(hb:ib<b.size)(hw:lt (gA b ib) (gA a ia)=false):LoM lt f a b (out.push (f (gA a ia))) (ia+1) ib:=by rw[iX ha];refine h.chunkA M O 1 (by omega) hb fun i hi=>?_;rw[show ia+i=ia by omega];exact hw
theorem LoM.pushB(M:MF lt N a b)(O:LtOk lt){out:Array Keyed}{ia ib:Nat}(h:LoM lt f a b out ia ib)(ha:ia<a.size)(hb:ib<b.size)(hw:lt (gA b ib) (gA a ia)=true):LoM lt f a b (out.push (f (gA b ib))) ia (ib+1):=by rw[iX hb];refine h.chunkB M O 1 (by omega) ha fun i hi=>?_;rw[show ib+i=ib by omega];exact hw
theorem LoM.done(M:MF lt N a b){out:Array Keyed}{ia ib:Nat}(h:LoM lt f a b out ia ib)(he:ia=a.size\/ib=b.size):Gd lt f a b (out++(a.map f).extract ia a.size++(b.map f).extract ib b.size):=by
 obtain⟨o,rfl,h⟩:=h;have pa:(a.toList.drop ia).Pairwise (Lx lt):=(cw M.sa).sublist (Yl _ _);have pb:(b.toList.drop ib).Pairwise (Lx lt):=(cw M.sb).sublist (Yl _ _);refine⟨o++a.extract ia a.size++b.extract ib b.size,by rw[bo,bo,Ya,Ya],?_⟩;rw[ZF,ZF,fL,fL,Zy];refine h _ (List.Perm.refl _) ?_;rcases he with rfl|rfl
 ·rw[YQ (by simp),YT];exact pb
 ·rw[YQ (l:=b.toList) (by simp),ZJ];exact pa
theorem LoM.last(M:MF lt N a b)(O:LtOk lt){out:Array Keyed}{ia ib:Nat}(h:LoM lt f a b out ia ib)(he:ia+1=a.size):Gd lt f a b (out++(b.map f).extract ib b.size++(a.map f).extract ia a.size):=by
 obtain⟨o,rfl,h⟩:=h;have pa:(a.toList.drop ia).Pairwise (Lx lt):=(cw M.sa).sublist (Yl _ _);have pb:(b.toList.drop ib).Pairwise (Lx lt):=(cw M.sb).sublist (Yl _ _);refine⟨o++b.extract ib b.size++a.extract ia a.size,by rw[bo,bo,Ya,Ya],?_⟩;rw[ZF,ZF,fL,fL,Zy];refine h _ List.perm_append_comm (ZH.mpr ⟨pb,pa,fun x hx y hy=>?_⟩);obtain⟨i,h1,h3,rfl⟩:=hZ hx;obtain⟨j,g1,g2,rfl⟩:=hZ hy;have g2':j<a.size:=by simpa using g2
 rw[<-aB,<-aB];have w:=M.lst i (by simpa using h3);rw[show j=a.size-1 by omega];exact Lx.of_lt O w
theorem LoM.start(M:MF lt N a b)(O:LtOk lt):LoM lt f a b #[f (gA b 0)] 0 1:=by
 have h:LoM lt f a b #[] 0 0:=⟨#[],by simp,fun r hr hs=>⟨hs,hr⟩⟩
 exact h.pushB M O M.a0 M.b0 M.fst
theorem pD{out:Array Keyed}(p:Array Nat)(i j:Nat)(o:Array Nat)(e:out=o.map f):out++((p.map f).extract i j).reverse=(o++(p.extract i j).reverse).map f:=by rw[e,bo,Ya,Array.map_reverse]
theorem kg(p:Array Nat)(i j:Nat):(p.extract i j).toList=(p.toList.take j).drop i:=by rw[Array.toList_extract,List.extract_eq_take_drop,List.drop_take]
theorem sH{l:List Nat}{i j x:Nat}(h:x∈(l.take j).drop i):∃k,i<=k/\k<j/\k<l.length/\l.getD k 0=x:=by obtain⟨k,h1,h2,e⟩:=hZ h;rw[ZL]at h2;refine⟨k,h1,by omega,by omega,?_⟩;rw[<-e,Zg,Zg,List.getElem?_take,if_pos (by omega)]
theorem HiM.chunkA(M:MF lt N a b)(O:LtOk lt){out:Array Keyed}{na nb:Nat}(h:HiM lt f a b out na nb)(k:Nat)(hk:k<=na)(ha:na<=a.size)(hb1:0<nb)(hb:nb<=b.size)(hw:∀i,k<=i->i<na->lt (gA b (nb-1)) (gA a i)=true):HiM lt f a b (out++((a.map f).extract k na).reverse) k nb:=by
 obtain⟨o,e0,h⟩:=h;refine⟨o++(a.extract k na).reverse,pD a k na o e0,?_⟩;rw[ZF,Array.toList_reverse,List.reverse_append,List.reverse_reverse,kg];have e:a.toList.take na=a.toList.take k++(a.toList.take na).drop k:=by have:=ZR k (a.toList.take na);rw[List.take_take,Nat.min_eq_left hk]at this;exact this.symm
 have pa:(a.toList.take na).Pairwise (Lx lt):=(cw M.sa).sublist (Yb _ _);refine h.step ?_ (pa.sublist (Yl _ _)) fun y hy x hx=>?_
 ·rw[Zy];refine(List.perm_append_comm.append_left _).trans ?_;rw[<-Zy,<-e]
 ·rcases ZD.mp hy with hy|hy
  ·rw[e]at pa;exact(ZH.mp pa).2.2 y hy x hx
  ·obtain⟨i,h1,h2,h3,rfl⟩:=sH hx;obtain⟨j,g1,g2,rfl⟩:=ic hy;rw[<-aB,<-aB];exact Lx.of_lt O (M.leB O (show j<=nb-1 by omega) (by omega) (hw i h1 h2))
theorem HiM.chunkB(M:MF lt N a b)(O:LtOk lt){out:Array Keyed}{na nb:Nat}(h:HiM lt f a b out na nb)(k:Nat)(hk:k<=nb)(ha:na<=a.size)(ha1:0<na)(hb:nb<=b.size)(hw:∀i,k<=i->i<nb->lt (gA b i) (gA a (na-1))=false):HiM lt f a b (out++((b.map f).extract k nb).reverse) na k:=by
 obtain⟨o,e0,h⟩:=h;refine⟨o++(b.extract k nb).reverse,pD b k nb o e0,?_⟩;rw[ZF,Array.toList_reverse,List.reverse_append,List.reverse_reverse,kg];have e:b.toList.take nb=b.toList.take k++(b.toList.take nb).drop k:=by have:=ZR k (b.toList.take nb);rw[List.take_take,Nat.min_eq_left hk]at this;exact this.symm
 have pb:(b.toList.take nb).Pairwise (Lx lt):=(cw M.sb).sublist (Yb _ _);refine h.step ?_ (pb.sublist (Yl _ _)) fun y hy x hx=>?_
 ·rw[Zy,<-e]
 ·rcases ZD.mp hy with hy|hy
  ·obtain⟨i,h1,h2,h3,rfl⟩:=sH hx;obtain⟨j,g1,g2,rfl⟩:=ic hy;have h3':i<b.size:=by simpa using h3
   have g2':j<a.size:=by simpa using g2
   rw[<-aB,<-aB];have w:=hw i h1 h2;refine M.cr j i g2' h3' ?_;cases e':lt (gA b i) (gA a j)with
   |false=>rfl
   |true=>rw[M.leA O (show j<=na-1 by omega) (by omega) e']at w;cases w
  ·rw[e]at pb;exact(ZH.mp pb).2.2 y hy x hx
theorem nB{out:Array Keyed}{p:Array Nat}{i:Nat}(hi:i<p.size):out.push (f (gA p i))=out++((p.map f).extract i (i+1)).reverse:=by
 have e:=iX (f:=f) (out:=#[]) hi;have e2:(p.map f).extract i (i+1)=#[f (gA p i)]:=by rw[<-Array.empty_append (xs:=(p.map f).extract i (i+1)),<-e];rfl
 rw[e2];rfl
theorem HiM.pushA(M:MF lt N a b)(O:LtOk lt){out:Array Keyed}{na nb:Nat}(h:HiM lt f a b out na nb)(ha1:0<na)(ha:na<=a.size)(hb1:0<nb)(hb:nb<=b.size)(hw:lt (gA b (nb-1)) (gA a (na-1))=true):HiM lt f a b (out.push (f (gA a (na-1)))) (na-1) nb:=by rw[nB (show na-1<a.size by omega),Nat.sub_add_cancel ha1];refine h.chunkA M O (na-1) (by omega) ha hb1 hb fun i h1 h2=>?_;rw[show i=na-1 by omega];exact hw
theorem HiM.pushB(M:MF lt N a b)(O:LtOk lt){out:Array Keyed}{na nb:Nat}(h:HiM lt f a b out na nb)(ha1:0<na)(ha:na<=a.size)(hb1:0<nb)(hb:nb<=b.size)(hw:lt (gA b (nb-1)) (gA a (na-1))=false):HiM lt f a b (out.push (f (gA b (nb-1)))) na (nb-1):=by rw[nB (show nb-1<b.size by omega),Nat.sub_add_cancel hb1];refine h.chunkB M O (nb-1) (by omega) ha ha1 hb fun i h1 h2=>?_;rw[show i=nb-1 by omega];exact hw
theorem HiM.done(M:MF lt N a b){out:Array Keyed}{na nb:Nat}(h:HiM lt f a b out na nb)(he:na=0\/nb=0):Gd lt f a b ((a.map f).extract 0 na++(b.map f).extract 0 nb++out.reverse):=by
 obtain⟨o,rfl,h⟩:=h;have pa:(a.toList.take na).Pairwise (Lx lt):=(cw M.sa).sublist (Yb _ _);have pb:(b.toList.take nb).Pairwise (Lx lt):=(cw M.sb).sublist (Yb _ _);refine⟨a.extract 0 na++b.extract 0 nb++o.reverse,by rw[bo,bo,Ya,Ya,Array.map_reverse],?_⟩;rw[ZF,ZF,fN,fN,Array.toList_reverse];refine h _ (List.Perm.refl _) ?_;rcases he with rfl|rfl
 ·exact pb
 ·rw[List.take_zero,ZJ];exact pa
theorem HiM.first(M:MF lt N a b)(O:LtOk lt){out:Array Keyed}{na nb:Nat}(h:HiM lt f a b out na nb)(he:nb=1):Gd lt f a b ((b.map f).extract 0 nb++(a.map f).extract 0 na++out.reverse):=by
 obtain⟨o,rfl,h⟩:=h;have pa:(a.toList.take na).Pairwise (Lx lt):=(cw M.sa).sublist (Yb _ _);have pb:(b.toList.take nb).Pairwise (Lx lt):=(cw M.sb).sublist (Yb _ _);refine⟨b.extract 0 nb++a.extract 0 na++o.reverse,by rw[bo,bo,Ya,Ya,Array.map_reverse],?_⟩;rw[ZF,ZF,fN,fN,Array.toList_reverse];refine h _ List.perm_append_comm (ZH.mpr ⟨pb,pa,fun x hx y hy=>?_⟩);obtain⟨i,h1,h3,rfl⟩:=ic hx;obtain⟨j,g1,g2,rfl⟩:=ic hy;have g2':j<a.size:=by simpa using g2
 rw[<-aB,<-aB,show i=0 by omega];exact Lx.of_lt O (M.leA O (ZP _) g2' M.fst)
theorem HiM.start(M:MF lt N a b)(O:LtOk lt):HiM lt f a b #[f (gA a (a.size-1))] (a.size-1) b.size:=by
 have h:HiM lt f a b #[] a.size b.size:=⟨#[],by simp,fun r hr hs=>by
  rw[ZN (by simp),ZN (by simp)]at hr;have e:(#[]:Array Nat).toList.reverse=[]:=rfl;rw[e,ZJ];exact⟨hs,hr⟩⟩
 exact h.pushA M O M.a0 (Ze _) M.b0 (Ze _) (M.lst _ (by have:=M.b0;omega))
end
open PySem PyProof.Rows PySem.W
abbrev LoC:=Option (Array Keyed)×Array Keyed×Nat×Nat×Nat×Nat×Nat
def fR(a b out:Array Keyed)(ia ib:Nat):Array Keyed:=out++a.extract ia a.size++b.extract ib b.size
def jC(a b out:Array Keyed)(ia ib:Nat):Array Keyed:=out++b.extract ib b.size++a.extract ia a.size
def qI(a b out:Array Keyed)(ia ib mg ac bc:Nat):StateT SortSt Sem (ForInStep LoC):=do
 let x ←elem' a ia
 if(ia+1+1==a.size)=true then pure (.done (some (jC a b (out.push x) (ia+1) ib),out.push x,ia+1,ib,mg,ac,bc))
 else if(decide (ac<7)&&decide (bc<7))=true then pure (.done (none,out.push x,ia+1,ib,mg,ac,bc))else pure (.yield (none,out.push x,ia+1,ib,mg,ac,bc))
def qH(a b out:Array Keyed)(ia ib mg ac bc:Nat):StateT SortSt Sem (ForInStep LoC):=do
 let y ←elem' b ib
 if(ib+1==b.size)=true then pure (.done (some (fR a b (out.push y) ia (ib+1)),out.push y,ia,ib+1,mg,ac,bc))
 else do
  let x ←elem' a ia
  let some k ←dg true x b (ib+1) (b.size-(ib+1)) 0|pure (.done (some (fR a b (out.push y) ia (ib+1)),out.push y,ia,ib+1,mg,ac,bc))
  if k>0 then
   if(ib+1+k==b.size)=true then pure (.done (some (fR a b (out.push y++b.extract (ib+1) (ib+1+k)) ia (ib+1+k)),out.push y++b.extract (ib+1) (ib+1+k),ia,ib+1+k,mg,ac,k))
   else qI a b (out.push y++b.extract (ib+1) (ib+1+k)) ia (ib+1+k) mg ac k
  else qI a b (out.push y) ia (ib+1) mg ac k
def Aq(a b out:Array Keyed)(ia ib mg ac bc:Nat):StateT SortSt Sem (ForInStep LoC):=do
 gZ mg
 let y ←elem' b ib
 let some k ←dg false y a ia (a.size-ia) 0|pure (.done (some (fR a b out ia ib),out,ia,ib,mg,ac,bc))
 if k>0 then
  if(ia+k+1==a.size)=true then pure (.done (some (jC a b (out++a.extract ia (ia+k)) (ia+k) ib),out++a.extract ia (ia+k),ia+k,ib,mg,k,bc))
  else if(ia+k==a.size)=true then pure (.done (some (fR a b (out++a.extract ia (ia+k)) (ia+k) ib),out++a.extract ia (ia+k),ia+k,ib,mg,k,bc))
  else qH a b (out++a.extract ia (ia+k)) (ia+k) ib mg k bc
 else qH a b out ia ib mg k bc
section
variable{prog:Program}{w:World}{A:Around}{E:Value->Shared->Prop}{s:Shared}{κ:SortKind}{it:Array Keyed}{lt:Nat->Nat->Bool}{N:Nat}{st:SortSt}{a b:Array Nat}
def jc(st:SortSt)(g:Nat):SortSt:=SortSt.mk' (kindOf st) (arrOf st) (pendingOf st) g (failedOf st)
def SG'(st st':SortSt):Prop:=∃g,st'=jc st g
theorem SG'.refl:SG' st st:=⟨gallopOf st,rfl⟩
theorem SG'.set{st':SortSt}(h:SG' st st')(g:Nat):SG' st (jc st' g):=by obtain⟨g',rfl⟩:=h;exact⟨g,rfl⟩
theorem SG'.kind{st':SortSt}(h:SG' st st')(hk:kindOf st=κ):kindOf st'=κ:=by obtain⟨g',rfl⟩:=h;exact hk
theorem mq{g:Nat}{Q:Unit->SortSt->Prop}(h:Q () (jc st g)):wpS (model prog w) A E s (gZ g) Q st:=by have e:gZ g=modify fun st=>jc st g:=rfl;rw[e];exact wpS_modify h
theorem aS{q:Array Nat}{i:Nat}{Q:Keyed->SortSt->Prop}(hi:i<q.size)(h:Q (kas_item it (gA q i)) st):wpS (model prog w) A E s (elem' (q.map (kas_item it)) i) Q st:=by rw[B4 hi];exact Zk h
theorem ax{α:Type}{c:Prop}[Decidable c]{x y:StateT SortSt Sem α}{Q:α->SortSt->Prop}(h1:c->wpS (model prog w) A E s x Q st)(h2:¬c->wpS (model prog w) A E s y Q st):wpS (model prog w) A E s (if c then x else y) Q st:=by
 split
 ·exact h1 ‹_›
 ·exact h2 ‹_›
def LoI(lt:Nat->Nat->Bool)(f:Nat->Keyed)(a b:Array Nat)(n:Nat)(c:LoC):Prop:=∃out ia ib mg ac bc,c=(none,out,ia,ib,mg,ac,bc)/\LoM lt f a b out ia ib/\ia+1<a.size/\ib<b.size/\n<=ia+ib
def LoQ(lt:Nat->Nat->Bool)(f:Nat->Keyed)(a b:Array Nat)(st:SortSt)(n:Nat)(r:ForInStep LoC)(st':SortSt):Prop:=SG' st st'/\match r with
 |.done c=>(∃r d,c=(some r,d)/\Gd lt f a b r)\/LoI lt f a b n c
 |.yield c=>LoI lt f a b n c
theorem uB(O:LtOk lt)(M:MF lt N a b){out:Array Keyed}{ia ib mg ac bc n:Nat}{st0:SortSt}(g:SG' st0 st)(l:LoM lt (kas_item it) a b out ia ib)(h1:ia+1<a.size)(h2:ib<b.size)(hn:n<=ia+ib)(hw:lt (gA b ib) (gA a ia)=false) :
  wpS (model prog w) A E s (qI (a.map (kas_item it)) (b.map (kas_item it)) out ia ib mg ac bc) (LoQ lt (kas_item it) a b st0 n) st:=by
 unfold qI jC;rw[Ys,Ys];refine Zi (aS (by omega) ?_);have l3:=l.pushA M O (by omega) h2 hw;refine ax (fun e=>?_) fun e=>ax (fun _=>?_) fun _=>?_
 ·exact Zk ⟨g,.inl ⟨_,_,rfl,l3.last M O (by simpa using e)⟩⟩
 ·have e':ia+1+1≠a.size:=by simpa using e
  exact Zk ⟨g,.inr ⟨_,_,_,_,_,_,rfl,l3,by omega,h2,by omega⟩⟩
 ·have e':ia+1+1≠a.size:=by simpa using e
  exact Zk ⟨g,⟨_,_,_,_,_,_,rfl,l3,by omega,h2,by omega⟩⟩
theorem uA(Z:Zc prog w A s κ it lt N)(O:LtOk lt)(M:MF lt N a b){out:Array Keyed}{ia ib mg ac bc n:Nat}{st0:SortSt}(hk:kindOf st0=κ)(g:SG' st0 st)(l:LoM lt (kas_item it) a b out ia ib)(h1:ia+1<a.size)(h2:ib<b.size)(hn:n<=ia+ib)(hw:lt (gA b ib) (gA a ia)=true) :
  wpS (model prog w) A E s (qH (a.map (kas_item it)) (b.map (kas_item it)) out ia ib mg ac bc) (LoQ lt (kas_item it) a b st0 n) st:=by
 unfold qH fR;rw[Ys,Ys];refine Zi (aS h2 ?_);have l3:=l.pushB M O (by omega) h2 hw;refine ax (fun e=>?_) fun e=>?_
 ·exact Zk ⟨g,.inl ⟨_,_,rfl,l3.done M (.inr (by simpa using e))⟩⟩
 have e':ib+1≠b.size:=by simpa using e
 refine Zi (aS (by omega) (Zi (iw Z (g.kind hk) (M.na _ (by omega)) (by omega) (fun i _ _=>M.nb i (by omega)) (by omega) (fun i j h3 h4 h5=>?_) fun k hk1 hk2 hk3=>?_)))
 ·exact M.leB O (by omega) (by omega) h5
 refine ax (fun hp=>ax (fun e=>?_) fun e=>?_) fun hp=>?_
 ·have l4:=l3.chunkB M O k (by omega) (by omega) hk2;exact Zk ⟨g,.inl ⟨_,_,rfl,l4.done M (.inr (by simpa using e))⟩⟩
 ·have l4:=l3.chunkB M O k (by omega) (by omega) hk2;have e2:ib+1+k≠b.size:=by simpa using e
  exact uB O M g l4 h1 (by omega) (by omega) (hk3 k (Ze _) (by omega))
 ·have e3:k=0:=by omega
  subst e3;exact uB O M g l3 h1 (by omega) (by omega) (hk3 0 (Ze _) (by omega))
theorem uy(Z:Zc prog w A s κ it lt N)(O:LtOk lt)(M:MF lt N a b){out:Array Keyed}{ia ib mg ac bc n:Nat}{st0:SortSt}(hk:kindOf st0=κ)(g:SG' st0 st)(l:LoM lt (kas_item it) a b out ia ib)(h1:ia+1<a.size)(h2:ib<b.size)(hn:n<=ia+ib) :
  wpS (model prog w) A E s (Aq (a.map (kas_item it)) (b.map (kas_item it)) out ia ib mg ac bc) (LoQ lt (kas_item it) a b st0 n) st:=by
 unfold Aq fR jC;rw[Ys,Ys];have tf:∀{x y:Nat},zB lt false x y=true->lt x y=false:=fun{x y} z=>by have z':(!lt x y)=true:=z;simpa using z'
 have ft:∀{x y:Nat},zB lt false x y=false->lt x y=true:=fun{x y} z=>by have z':(!lt x y)=false:=z;simpa using z'
 refine Zi (mq (Zi (aS h2 (Zi (iw Z ((g.set _).kind hk) (M.nb _ h2) (by omega) (fun i _ _=>M.na i (by omega)) (by omega) (fun i j h3 h4 h5=>?_) fun k hk1 hk2 hk3=>?_)))))
 ·have z:=tf h5;show(!lt (gA b ib) (gA a (ia+i)))=true;cases e:lt (gA b ib) (gA a (ia+i))with
  |false=>rfl
  |true=>rw[M.leA O (show ia+i<=ia+j by omega) (by omega) e]at z;cases z
 refine ax (fun hp=>ax (fun e=>?_) fun e=>ax (fun e2=>?_) fun e2=>?_) fun hp=>?_
 ·have l4:=l.chunkA M O k (by omega) h2 fun i hi=>tf (hk2 i hi);exact Zk ⟨g.set _,.inl ⟨_,_,rfl,l4.last M O (by simpa using e)⟩⟩
 ·have l4:=l.chunkA M O k (by omega) h2 fun i hi=>tf (hk2 i hi);exact Zk ⟨g.set _,.inl ⟨_,_,rfl,l4.done M (.inl (by simpa using e2))⟩⟩
 ·have l4:=l.chunkA M O k (by omega) h2 fun i hi=>tf (hk2 i hi);have e':ia+k+1≠a.size:=by simpa using e
  have e2':ia+k≠a.size:=by simpa using e2
  exact uA Z O M hk (g.set _) l4 (by omega) h2 (by omega) (ft (hk3 k (Ze _) (by omega)))
 ·have e3:k=0:=by omega
  subst e3;exact uA Z O M hk (g.set _) l (by omega) h2 (by omega) (ft (hk3 0 (Ze _) (by omega)))
theorem Dh(Z:Zc prog w A s κ it lt N)(O:LtOk lt)(M:MF lt N a b){Q:Array Keyed->SortSt->Prop}(hk:kindOf st=κ)(h:∀r st',Gd lt (kas_item it) a b r->SG' st st'->Q r st'):wpS (model prog w) A E s (zLo (a.map (kas_item it)) (b.map (kas_item it))) Q st:=by
 have a0:=M.a0;have b0:=M.b0;have za:(a.map (kas_item it)).size=a.size:=Ys ..;have zb:(b.map (kas_item it)).size=b.size:=Ys ..;rw[B3];refine Zi (wpS_lift (YF ⟨rfl,?_⟩));refine Zi (aS b0 ?_);have l0:=LoM.start (f:=kas_item it) M O;have dn:∀{out ia ib},LoM lt (kas_item it) a b out ia ib->ia=a.size\/ib=b.size->Gd lt (kas_item it) a b (out++(a.map (kas_item it)).extract ia (a.map (kas_item it)).size++(b.map (kas_item it)).extract ib (b.map (kas_item it)).size):=fun h e=>by rw[za,zb];exact h.done M e
 have ls:∀{out ia ib},LoM lt (kas_item it) a b out ia ib->ia+1=a.size->Gd lt (kas_item it) a b (out++(b.map (kas_item it)).extract ib (b.map (kas_item it)).size++(a.map (kas_item it)).extract ia (a.map (kas_item it)).size):=fun h e=>by rw[za,zb];exact h.last M O e
 have hit:∀{α:Type} {c:Prop} [Decidable c] {x y:StateT SortSt Sem α} {Q:α->SortSt->Prop} {st:SortSt},(c->wpS (model prog w) A E s x Q st)->(¬c->wpS (model prog w) A E s y Q st)->wpS (model prog w) A E s (if c then x else y) Q st:=fun h1 h2=>by
  split
  ·exact h1 ‹_›
  ·exact h2 ‹_›
 refine hit (fun e1=>?_) fun e1=>hit (fun e2=>?_) fun e2=>?_
 ·exact Zk (h _ _ (dn l0 (.inr (by rw[<-zb];simpa using e1))) .refl)
 ·exact Zk (h _ _ (ls l0 (by rw[<-za];simpa using e2)) .refl)
 have e1':1≠b.size:=by rw[<-zb];simpa using e1
 have e2':1≠a.size:=by rw[<-za];simpa using e2
 refine Zi (wpS_get ?_);have J:∀{γ:Type} {m:StateT SortSt Sem γ} {Q R:γ->SortSt->Prop} {st:SortSt},wpS (model prog w) A E s m R st->(∀c st,R c st->Q c st)->wpS (model prog w) A E s m Q st:=fun h k=>y9 h k;refine Zi (y9 (Z4 (I:=fun x c st'=>SG' st st'/\∃ out ia ib mg,c=(none,out,ia,ib,mg)/\LoM lt (kas_item it) a b out ia ib/\ia+1<a.size/\ib<b.size/\x+1<=ia+ib)
  (Q:=fun c st'=>SG' st st'/\∃ r d,c=(some r,d)/\Gd lt (kas_item it) a b r) ?step ?fin ⟨.refl,_,0,1,_,rfl,l0,by omega,by omega,by omega⟩) ?post)
 case fin =>rintro c st' ⟨_,out,ia,ib,mg,rfl,_,h1,h2,h3⟩;rw[za,zb]at h3;omega
 case post =>rintro c st' ⟨g,r,d,rfl,hr⟩;exact Zk (h r st' hr g)
 case step =>
  rintro x c st1 _ hx ⟨g,out,ia,ib,mg,rfl,l1,h1,h2,h3⟩;refine Zi (y9 (Z4 (I:=fun y c st'=>st'=st1/\∃ out ia' ib' ac bc,c=(none,out,ia',ib',ac,bc)/\LoM lt (kas_item it) a b out ia' ib'/\ia'+1<a.size/\ib'<b.size/\ia+ib+y<=ia'+ib')
   (Q:=fun c st'=>st'=st1/\((∃ r d,c=(some r,d)/\Gd lt (kas_item it) a b r)\/∃ out ia' ib' ac bc,c=(none,out,ia',ib',ac,bc)/\LoM lt (kas_item it) a b out ia' ib'/\ia'+1<a.size/\ib'<b.size/\ia+ib+1<=ia'+ib')) ?step1 ?fin1 ⟨rfl,_,ia,ib,_,_,rfl,l1,h1,h2,by omega⟩) ?post1)
  case fin1 =>rintro c st' ⟨rfl,out,ia',ib',ac,bc,rfl,l2,g1,g2,g3⟩;exact⟨rfl,.inr ⟨out,ia',ib',ac,bc,rfl,l2,g1,g2,by rw[za,zb]at g3;omega⟩⟩
  case step1 =>
   rintro y c st' _ hy ⟨rfl,out,ia',ib',ac,bc,rfl,l2,g1,g2,g3⟩;dsimp only;refine Zi (aS g2 (Zi (aS (show ia'<a.size by omega) (Zi (oo Z (g.kind hk) (M.nb _ g2) (M.na _ (by omega)) ?_)))));cases ew:lt (gA b ib') (gA a ia')with
   |true =>
    refine hit (fun _=>?_) (fun z=>absurd rfl z);refine Zi (aS g2 ?_);have l3:=l2.pushB M O (by omega) g2 ew;refine hit (fun e=>?_) fun e=>hit (fun _=>?_) fun _=>?_
    ·exact Zk ⟨rfl,.inl ⟨_,_,rfl,dn l3 (.inr (by rw[<-zb];simpa using e))⟩⟩
    ·exact Zk ⟨rfl,.inr ⟨_,_,_,_,_,rfl,l3,g1,by have:ib'+1≠b.size:=(by rw[<-zb];simpa using e);omega,by omega⟩⟩
    ·exact Zk ⟨rfl,_,_,_,_,_,rfl,l3,g1,by have:ib'+1≠b.size:=(by rw[<-zb];simpa using e);omega,by omega⟩
   |false =>
    refine hit (fun z=>absurd z (by simp)) fun _=>?_;refine Zi (aS (show ia'<a.size by omega) ?_);have l3:=l2.pushA M O (by omega) g2 ew;refine hit (fun e=>?_) fun e=>hit (fun _=>?_) fun _=>?_
    ·exact Zk ⟨rfl,.inl ⟨_,_,rfl,ls l3 (by rw[<-za];simpa using e)⟩⟩
    ·exact Zk ⟨rfl,.inr ⟨_,_,_,_,_,rfl,l3,by have:ia'+1+1≠a.size:=(by rw[<-za];simpa using e);omega,g2,by omega⟩⟩
    ·exact Zk ⟨rfl,_,_,_,_,_,rfl,l3,by have:ia'+1+1≠a.size:=(by rw[<-za];simpa using e);omega,g2,by omega⟩
  case post1 =>
   rintro c st' ⟨rfl,⟨r,d,rfl,hr⟩|⟨out,ia',ib',ac,bc,rfl,l2,g1,g2,g3⟩⟩
   ·exact Zk ⟨g,r,_,rfl,hr⟩
   refine Zi (wpS_lift (YF ⟨rfl,?_⟩));refine Zi (y9 (Z4 (I:=fun y c st'=>SG' st st'/\∃ out ia1 ib1 mg ac bc,c=(none,out,ia1,ib1,mg,ac,bc)/\LoM lt (kas_item it) a b out ia1 ib1/\ia1+1<a.size/\ib1<b.size/\ia'+ib'<=ia1+ib1)
    (Q:=fun c st'=>SG' st st'/\((∃ r d,c=(some r,d)/\Gd lt (kas_item it) a b r)\/∃ out ia1 ib1 mg ac bc,c=(none,out,ia1,ib1,mg,ac,bc)/\LoM lt (kas_item it) a b out ia1 ib1/\ia1+1<a.size/\ib1<b.size/\ia'+ib'<=ia1+ib1)) ?step2 ?fin2 ⟨g,_,_,_,_,_,_,rfl,l2,g1,g2,Ze _⟩) ?post2)
   case fin2 =>rintro c st2 ⟨gg,hh⟩;exact⟨gg,.inr hh⟩
   case post2 =>
    rintro c st2 ⟨gg,⟨r,d,rfl,hr⟩|⟨out,ia1,ib1,mg,ac,bc,rfl,l3,k1,k2,k3⟩⟩
    ·exact Zk ⟨gg,r,_,rfl,hr⟩
    ·exact Zi (mq (Zk ⟨gg.set _,out,ia1,ib1,_,rfl,l3,k1,k2,by omega⟩))
   case step2 =>
    rintro y c st2 _ hy ⟨gg,out,ia1,ib1,mg,ac,bc,rfl,l3,k1,k2,k3⟩;dsimp only;refine ax (fun _=>?_) fun _=>?_
    ·exact y9 (uy (n:=ia'+ib') (mg:=mg-1) (ac:=ac) (bc:=bc) Z O M hk gg l3 k1 k2 k3) fun r st3 hr=>by
      cases r with
      |done c=>exact hr
      |yield c=>exact hr
    ·exact y9 (uy (n:=ia'+ib') (mg:=mg) (ac:=ac) (bc:=bc) Z O M hk gg l3 k1 k2 k3) fun r st3 hr=>by
      cases r with
      |done c=>exact hr
      |yield c=>exact hr
end
open PySem PyProof.Rows PySem.W
def eR(a b out:Array Keyed)(na nb:Nat):Array Keyed:=a.extract 0 na++b.extract 0 nb++out.reverse
def qC(a b out:Array Keyed)(na nb:Nat):Array Keyed:=b.extract 0 nb++a.extract 0 na++out.reverse
abbrev HiC:=Option (Array Keyed)×Nat×Nat×Array Keyed×Nat×Nat×Nat
def qE(a b:Array Keyed)(na nb:Nat)(out:Array Keyed)(mg ac bc:Nat):StateT SortSt Sem (ForInStep HiC):=do
 let x ←elem' a (na-1)
 if(na-1==0)=true then pure (.done (some (eR a b (out.push x) (na-1) nb),na-1,nb,out.push x,mg,ac,bc))
 else if(decide (ac<7)&&decide (bc<7))=true then pure (.done (none,na-1,nb,out.push x,mg,ac,bc))else pure (.yield (none,na-1,nb,out.push x,mg,ac,bc))
def qD(a b:Array Keyed)(na nb:Nat)(out:Array Keyed)(mg ac bc:Nat):StateT SortSt Sem (ForInStep HiC):=do
 let y ←elem' b (nb-1)
 if(nb-1==1)=true then pure (.done (some (qC a b (out.push y) na (nb-1)),na,nb-1,out.push y,mg,ac,bc))
 else do
  let x ←elem' a (na-1)
  let some k ←dg true x b 0 (nb-1) (nb-1-1)|pure (.done (some (eR a b (out.push y) na (nb-1)),na,nb-1,out.push y,mg,ac,bc))
  if nb-1-k>0 then
   if(k==1)=true then pure (.done (some (qC a b (out.push y++(b.extract k (nb-1)).reverse) na k),na,k,out.push y++(b.extract k (nb-1)).reverse,mg,ac,nb-1-k))
   else if(k==0)=true then pure (.done (some (eR a b (out.push y++(b.extract k (nb-1)).reverse) na k),na,k,out.push y++(b.extract k (nb-1)).reverse,mg,ac,nb-1-k))
   else qE a b na k (out.push y++(b.extract k (nb-1)).reverse) mg ac (nb-1-k)
  else qE a b na (nb-1) (out.push y) mg ac (nb-1-k)
def Aa(a b:Array Keyed)(na nb:Nat)(out:Array Keyed)(mg ac bc:Nat):StateT SortSt Sem (ForInStep HiC):=do
 gZ mg
 let y ←elem' b (nb-1)
 let some k ←dg false y a 0 na (na-1)|pure (.done (some (eR a b out na nb),na,nb,out,mg,ac,bc))
 if na-k>0 then
  if(k==0)=true then pure (.done (some (eR a b (out++(a.extract k na).reverse) k nb),k,nb,out++(a.extract k na).reverse,mg,na-k,bc))
  else qD a b k nb (out++(a.extract k na).reverse) mg (na-k) bc
 else qD a b na nb out mg (na-k) bc
section
variable{prog:Program}{w:World}{A:Around}{E:Value->Shared->Prop}{s:Shared}{κ:SortKind}{it:Array Keyed}{lt:Nat->Nat->Bool}{N:Nat}{st:SortSt}{a b:Array Nat}
def HiI(lt:Nat->Nat->Bool)(f:Nat->Keyed)(a b:Array Nat)(n:Nat)(c:HiC):Prop:=∃na nb out mg ac bc,c=(none,na,nb,out,mg,ac,bc)/\HiM lt f a b out na nb/\1<=na/\na<=a.size/\2<=nb/\nb<=b.size/\na+nb<=n
def HiQ(lt:Nat->Nat->Bool)(f:Nat->Keyed)(a b:Array Nat)(st:SortSt)(n:Nat)(r:ForInStep HiC)(st':SortSt):Prop:=SG' st st'/\match r with
 |.done c=>(∃r d,c=(some r,d)/\Gd lt f a b r)\/HiI lt f a b n c
 |.yield c=>HiI lt f a b n c
theorem ux(O:LtOk lt)(M:MF lt N a b){out:Array Keyed}{na nb mg ac bc n:Nat}{st0:SortSt}(g:SG' st0 st)(l:HiM lt (kas_item it) a b out na nb)(h1:1<=na)(h1':na<=a.size)(h2:2<=nb)(h2':nb<=b.size)(hn:na+nb<=n)(hw:lt (gA b (nb-1)) (gA a (na-1))=true) :
  wpS (model prog w) A E s (qE (a.map (kas_item it)) (b.map (kas_item it)) na nb out mg ac bc) (HiQ lt (kas_item it) a b st0 n) st:=by
 unfold qE eR;refine Zi (aS (by omega) ?_);have l3:=l.pushA M O (by omega) h1' (by omega) h2' hw;refine ax (fun e=>?_) fun e=>ax (fun _=>?_) fun _=>?_
 ·exact Zk ⟨g,.inl ⟨_,_,rfl,l3.done M (.inl (by simpa using e))⟩⟩
 ·have e':na-1≠0:=by simpa using e
  exact Zk ⟨g,.inr ⟨_,_,_,_,_,_,rfl,l3,by omega,by omega,h2,h2',by omega⟩⟩
 ·have e':na-1≠0:=by simpa using e
  exact Zk ⟨g,⟨_,_,_,_,_,_,rfl,l3,by omega,by omega,h2,h2',by omega⟩⟩
theorem uu(Z:Zc prog w A s κ it lt N)(O:LtOk lt)(M:MF lt N a b){out:Array Keyed}{na nb mg ac bc n:Nat}{st0:SortSt}(hk:kindOf st0=κ)(g:SG' st0 st)(l:HiM lt (kas_item it) a b out na nb)(h1:1<=na)(h1':na<=a.size)(h2:2<=nb)(h2':nb<=b.size)(hn:na+nb<=n)(hw:lt (gA b (nb-1)) (gA a (na-1))=false) :
  wpS (model prog w) A E s (qD (a.map (kas_item it)) (b.map (kas_item it)) na nb out mg ac bc) (HiQ lt (kas_item it) a b st0 n) st:=by
 unfold qD eR qC;refine Zi (aS (by omega) ?_);have l3:=l.pushB M O (by omega) h1' (by omega) h2' hw;refine ax (fun e=>?_) fun e=>?_
 ·exact Zk ⟨g,.inl ⟨_,_,rfl,l3.first M O (by simpa using e)⟩⟩
 have e':nb-1≠1:=by simpa using e
 have z0:∀i,0+i=i:=fun i=>by omega
 refine Zi (aS (by omega) (Zi (iw Z (g.kind hk) (M.na _ (by omega)) (by omega) (fun i _ _=>M.nb i (by omega)) (by omega) (fun i j h3 h4 h5=>?_) fun k hk1 hk2 hk3=>?_)))
 ·rw[z0]at h5 ⊢;exact M.leB O (by omega) (by omega) h5
 have hk3':∀i,k<=i->i<nb-1->lt (gA b i) (gA a (na-1))=false:=fun i x y=>by have:=hk3 i x y;rw[z0]at this;exact this
 have hk2':∀i,i<k->lt (gA b i) (gA a (na-1))=true:=fun i x=>by have:=hk2 i x;rw[z0]at this;exact this
 refine ax (fun hp=>ax (fun e=>?_) fun e=>ax (fun e2=>?_) fun e2=>?_) fun hp=>?_
 ·have l4:=l3.chunkB M O k (by omega) h1' (by omega) (by omega) hk3';exact Zk ⟨g,.inl ⟨_,_,rfl,l4.first M O (by simpa using e)⟩⟩
 ·have l4:=l3.chunkB M O k (by omega) h1' (by omega) (by omega) hk3';exact Zk ⟨g,.inl ⟨_,_,rfl,l4.done M (.inr (by simpa using e2))⟩⟩
 ·have l4:=l3.chunkB M O k (by omega) h1' (by omega) (by omega) hk3';have q1:k≠1:=by simpa using e
  have q2:k≠0:=by simpa using e2
  exact ux O M g l4 h1 h1' (by omega) (by omega) (by omega) (hk2' (k-1) (by omega))
 ·have e3:k=nb-1:=by omega
  exact ux O M g l3 h1 h1' (by omega) (by omega) (by omega) (hk2' (nb-1-1) (by omega))
theorem ur(Z:Zc prog w A s κ it lt N)(O:LtOk lt)(M:MF lt N a b){out:Array Keyed}{na nb mg ac bc n:Nat}{st0:SortSt}(hk:kindOf st0=κ)(g:SG' st0 st)(l:HiM lt (kas_item it) a b out na nb)(h1:1<=na)(h1':na<=a.size)(h2:2<=nb)(h2':nb<=b.size)(hn:na+nb<=n) :
  wpS (model prog w) A E s (Aa (a.map (kas_item it)) (b.map (kas_item it)) na nb out mg ac bc) (HiQ lt (kas_item it) a b st0 n) st:=by
 unfold Aa eR;have z0:∀i,0+i=i:=fun i=>by omega
 have tf:∀{x y:Nat},zB lt false x y=true->lt x y=false:=fun{x y} z=>by have z':(!lt x y)=true:=z;simpa using z'
 have ft:∀{x y:Nat},zB lt false x y=false->lt x y=true:=fun{x y} z=>by have z':(!lt x y)=false:=z;simpa using z'
 refine Zi (mq (Zi (aS (by omega) (Zi (iw Z ((g.set _).kind hk) (M.nb _ (by omega)) (by omega) (fun i _ _=>M.na i (by omega)) (by omega) (fun i j h3 h4 h5=>?_) fun k hk1 hk2 hk3=>?_)))))
 ·rw[z0]at h5 ⊢;have z:=tf h5;show(!lt (gA b (nb-1)) (gA a i))=true;cases e:lt (gA b (nb-1)) (gA a i)with
  |false=>rfl
  |true=>rw[M.leA O h3 (by omega) e]at z;cases z
 have hk3':∀i,k<=i->i<na->lt (gA b (nb-1)) (gA a i)=true:=fun i x y=>by have:=ft (hk3 i x y);rw[z0]at this;exact this
 have hk2':∀i,i<k->lt (gA b (nb-1)) (gA a i)=false:=fun i x=>by have:=tf (hk2 i x);rw[z0]at this;exact this
 refine ax (fun hp=>ax (fun e=>?_) fun e=>?_) fun hp=>?_
 ·have l4:=l.chunkA M O k (by omega) h1' (by omega) h2' hk3';exact Zk ⟨g.set _,.inl ⟨_,_,rfl,l4.done M (.inl (by simpa using e))⟩⟩
 ·have l4:=l.chunkA M O k (by omega) h1' (by omega) h2' hk3';have q1:k≠0:=by simpa using e
  exact uu Z O M hk (g.set _) l4 (by omega) (by omega) h2 h2' (by omega) (hk2' (k-1) (by omega))
 ·have e3:k=na:=by omega
  exact uu Z O M hk (g.set _) l h1 h1' h2 h2' hn (hk2' (na-1) (by omega))
theorem Dg(Z:Zc prog w A s κ it lt N)(O:LtOk lt)(M:MF lt N a b){Q:Array Keyed->SortSt->Prop}(hk:kindOf st=κ)(h:∀r st',Gd lt (kas_item it) a b r->SG' st st'->Q r st'):wpS (model prog w) A E s (zHi (a.map (kas_item it)) (b.map (kas_item it))) Q st:=by
 have a0:=M.a0;have b0:=M.b0;have za:(a.map (kas_item it)).size=a.size:=Ys ..;have zb:(b.map (kas_item it)).size=b.size:=Ys ..;rw[B0];refine Zi (wpS_lift (YF ⟨rfl,?_⟩));rw[za,zb];refine Zi (aS (by omega) ?_);have l0:=HiM.start (f:=kas_item it) M O;refine ax (fun e1=>?_) fun e1=>ax (fun e2=>?_) fun e2=>?_
 ·exact Zk (h _ _ (l0.done M (.inl (by simpa using e1))) .refl)
 ·exact Zk (h _ _ (l0.first M O (by simpa using e2)) .refl)
 have e1':a.size-1≠0:=by simpa using e1
 have e2':b.size≠1:=by simpa using e2
 refine Zi (wpS_get ?_);refine Zi (y9 (Z4 (I:=fun x c st'=>SG' st st'/\∃ na nb out mg,c=(none,na,nb,out,mg)/\HiM lt (kas_item it) a b out na nb/\1<=na/\na<=a.size/\2<=nb/\nb<=b.size/\na+nb+x<=a.size+b.size)
  (Q:=fun c st'=>SG' st st'/\∃ r d,c=(some r,d)/\Gd lt (kas_item it) a b r) ?step ?fin ⟨.refl,_,_,_,_,rfl,l0,by omega,by omega,by omega,by omega,by omega⟩) ?post)
 case fin =>rintro c st' ⟨_,na,nb,out,mg,rfl,_,h1,h1',h2,h2',h3⟩;omega
 case post =>rintro c st' ⟨g,r,d,rfl,hr⟩;exact Zk (h r st' hr g)
 case step =>
  rintro x c st1 _ hx ⟨g,na,nb,out,mg,rfl,l1,h1,h1',h2,h2',h3⟩;refine Zi (y9 (Z4 (I:=fun y c st'=>st'=st1/\∃ na' nb' out ac bc,c=(none,na',nb',out,ac,bc)/\HiM lt (kas_item it) a b out na' nb'/\1<=na'/\na'<=a.size/\2<=nb'/\nb'<=b.size/\na'+nb'+y<=na+nb)
   (Q:=fun c st'=>st'=st1/\((∃ r d,c=(some r,d)/\Gd lt (kas_item it) a b r)\/∃ na' nb' out ac bc,c=(none,na',nb',out,ac,bc)/\HiM lt (kas_item it) a b out na' nb'/\1<=na'/\na'<=a.size/\2<=nb'/\nb'<=b.size/\na'+nb'+1<=na+nb)) ?step1 ?fin1 ⟨rfl,na,nb,out,0,0,rfl,l1,h1,h1',h2,h2',by omega⟩) ?post1)
  case fin1 =>rintro c st' ⟨rfl,na',nb',out,ac,bc,rfl,l2,g1,g1',g2,g2',g3⟩;exact⟨rfl,.inr ⟨na',nb',out,ac,bc,rfl,l2,g1,g1',g2,g2',by omega⟩⟩
  case step1 =>
   rintro y c st' _ hy ⟨rfl,na',nb',out,ac,bc,rfl,l2,g1,g1',g2,g2',g3⟩;dsimp only;refine Zi (aS (by omega) (Zi (aS (by omega) (Zi (oo Z (g.kind hk) (M.nb _ (by omega)) (M.na _ (by omega)) ?_)))));cases ew:lt (gA b (nb'-1)) (gA a (na'-1))with
   |true =>
    refine ax (fun _=>?_) (fun z=>absurd rfl z);refine Zi (aS (by omega) ?_);have l3:=l2.pushA M O (by omega) g1' (by omega) g2' ew;refine ax (fun e=>?_) fun e=>ax (fun _=>?_) fun _=>?_
    ·exact Zk ⟨rfl,.inl ⟨_,_,rfl,l3.done M (.inl (by simpa using e))⟩⟩
    ·have e':na'-1≠0:=by simpa using e
     exact Zk ⟨rfl,.inr ⟨_,_,_,_,_,rfl,l3,by omega,by omega,g2,g2',by omega⟩⟩
    ·have e':na'-1≠0:=by simpa using e
     exact Zk ⟨rfl,_,_,_,_,_,rfl,l3,by omega,by omega,g2,g2',by omega⟩
   |false =>
    refine ax (fun z=>absurd z (by simp)) fun _=>?_;refine Zi (aS (by omega) ?_);have l3:=l2.pushB M O (by omega) g1' (by omega) g2' ew;refine ax (fun e=>?_) fun e=>ax (fun _=>?_) fun _=>?_
    ·exact Zk ⟨rfl,.inl ⟨_,_,rfl,l3.first M O (by simpa using e)⟩⟩
    ·have e':nb'-1≠1:=by simpa using e
     exact Zk ⟨rfl,.inr ⟨_,_,_,_,_,rfl,l3,g1,g1',by omega,by omega,by omega⟩⟩
    ·have e':nb'-1≠1:=by simpa using e
     exact Zk ⟨rfl,_,_,_,_,_,rfl,l3,g1,g1',by omega,by omega,by omega⟩
  case post1 =>
   rintro c st' ⟨rfl,⟨r,d,rfl,hr⟩|⟨na',nb',out,ac,bc,rfl,l2,g1,g1',g2,g2',g3⟩⟩
   ·exact Zk ⟨g,r,_,rfl,hr⟩
   refine Zi (wpS_lift (YF ⟨rfl,?_⟩));refine Zi (y9 (Z4 (I:=fun y c st'=>SG' st st'/\HiI lt (kas_item it) a b (na'+nb') c)
    (Q:=fun c st'=>SG' st st'/\((∃ r d,c=(some r,d)/\Gd lt (kas_item it) a b r)\/HiI lt (kas_item it) a b (na'+nb') c)) ?step2 ?fin2 ⟨g,_,_,_,_,_,_,rfl,l2,g1,g1',g2,g2',Ze _⟩) ?post2)
   case fin2 =>rintro c st2 ⟨gg,hh⟩;exact⟨gg,.inr hh⟩
   case post2 =>
    rintro c st2 ⟨gg,⟨r,d,rfl,hr⟩|⟨na1,nb1,out,mg,ac,bc,rfl,l3,k1,k1',k2,k2',k3⟩⟩
    ·exact Zk ⟨gg,r,_,rfl,hr⟩
    ·exact Zi (mq (Zk ⟨gg.set _,na1,nb1,out,_,rfl,l3,k1,k1',k2,k2',by omega⟩))
   case step2 =>
    rintro y c st2 _ hy ⟨gg,na1,nb1,out,mg,ac,bc,rfl,l3,k1,k1',k2,k2',k3⟩;dsimp only;refine ax (fun _=>?_) fun _=>?_
    ·exact y9 (ur (n:=na'+nb') (mg:=mg-1) (ac:=ac) (bc:=bc) Z O M hk gg l3 k1 k1' k2 k2' k3) fun r st3 hr=>by
      cases r with
      |done c=>exact hr
      |yield c=>exact hr
    ·exact y9 (ur (n:=na'+nb') (mg:=mg) (ac:=ac) (bc:=bc) Z O M hk gg l3 k1 k1' k2 k2' k3) fun r st3 hr=>by
      cases r with
      |done c=>exact hr
      |yield c=>exact hr
end
open PySem PyProof.Rows PySem.W
theorem pW(at0:Nat):∀(l:List Keyed) (n:Nat) (ar:Array Keyed),at0+n+l.length<=ar.size->((l.zipIdx n).foldl (fun a (p,j)=>a.setIfInBounds (at0+j) p) ar).toList=ar.toList.take (at0+n)++(l++ar.toList.drop (at0+n+l.length))
 | [],n,ar,_=>by rw[YT,List.length_nil,Nat.add_zero,ZR];rfl
 |x::l,n,ar,h=>by
  rw[Zl]at h;rw[List.zipIdx_cons,List.foldl_cons];have hs:(ar.setIfInBounds (at0+n) x).size=ar.size:=Array.size_setIfInBounds;have ih:=pW at0 l (n+1) (ar.setIfInBounds (at0+n) x) (by omega);rw[ih,Array.toList_setIfInBounds];have hl:at0+n<ar.toList.length:=by rw[Zt];omega
  have e1:(ar.toList.set (at0+n) x).take (at0+(n+1))=ar.toList.take (at0+n)++[x]:=by rw[show at0+(n+1)=at0+n+1 by omega,List.take_add_one,List.take_set_of_le (Ze _)];rw[List.getElem?_set_self hl];rfl
  have e2:(ar.toList.set (at0+n) x).drop (at0+(n+1)+l.length)=ar.toList.drop (at0+n+(x::l).length):=by rw[List.drop_set_of_lt (by omega),Zl];congr 1;omega
  rw[e1,e2,Zy];rfl
theorem zt{f:Nat->Keyed}{p q:Array Nat}{at0:Nat}(h:at0+q.size<=p.size):∃p':Array Nat,ji (p.map f) at0 (q.map f)=p'.map f/\p'.toList=p.toList.take at0++(q.toList++p.toList.drop (at0+q.size)):=by refine⟨(p.toList.take at0++(q.toList++p.toList.drop (at0+q.size))).toArray,?_,by simp⟩;apply Array.toList_inj.mp;have e:=pW at0 (q.map f).toList 0 (p.map f) (by simpa using h);unfold ji;rw[e];simp
section
variable{prog:Program}{w:World}{A:Around}{E:Value->Shared->Prop}{s:Shared}{κ:SortKind}{it:Array Keyed}{lt:Nat->Nat->Bool}{N:Nat}{st:SortSt}{a b:Array Nat}
theorem oW{l:List Nat}(h:l.Pairwise (Lx lt)){i j:Nat}(hij:i<j)(hj:j<l.length):Lx lt (l.getD i 0) (l.getD j 0):=by rw[Z1]at h;have:=h i j (by omega) hj hij;rw[Zg,Zg,Zf (show i<l.length by omega),Zf hj];exact this
theorem bT{l:List Nat}{i:Nat}(h:i<l.length):l.getD i 0∈l:=by rw[Zg,Zf h];exact ZM h
theorem mZ{l:List Nat}{x:Nat}(h:x∈l):∃i,i<l.length/\l.getD i 0=x:=by obtain⟨i,hi,e⟩:=List.mem_iff_getElem.mp h;refine⟨i,hi,?_⟩;rw[Zg,Zf hi];exact e
theorem mP(O:LtOk lt){l:List Nat}(h:l.Pairwise (Lx lt)){i j:Nat}(hij:i<=j)(hj:j<l.length){x:Nat}(hx:lt x (l.getD i 0)=true):lt x (l.getD j 0)=true:=by
 rcases Z0 i j with h1|h1
 ·exact O.lt_le hx (oW h h1 hj).1
 ·have e:i=j:=by omega
  rw[<-e];exact hx
theorem mQ(O:LtOk lt){l:List Nat}(h:l.Pairwise (Lx lt)){i j:Nat}(hij:i<=j)(hj:j<l.length){x:Nat}(hx:lt (l.getD j 0) x=true):lt (l.getD i 0) x=true:=by
 rcases Z0 i j with h1|h1
 ·exact O.le_lt (oW h h1 hj).1 hx
 ·have e:i=j:=by omega
  rw[e];exact hx
theorem Df(Z:Zc prog w A s κ it lt N)(O:LtOk lt){p:Array Nat}{pre X Y post:List Nat}{i pw pw2:Nat}{Q:Bool->SortSt->Prop}(hk:kindOf st=κ)(hf:failedOf st=none)(ha:arrOf st=p.map (kas_item it))(hp:p.toList=pre++(X++(Y++post)))(hX:X.Pairwise (Lx lt))(hY:Y.Pairwise (Lx lt))(hX0:0<X.length)(hY0:0<Y.length)(hXY:∀ x∈X,∀ y∈Y,x<y)(hN:∀ x∈p.toList,x<N)(h1:(pendingOf st)[i]? = some (pre.length,X.length,pw))(h2:(pendingOf st)[i+1]? = some (pre.length+X.length,Y.length,pw2))(h:∀ (st':SortSt) (p':Array Nat) (W:List Nat),kindOf st'=κ->failedOf st'=none->arrOf st'=p'.map (kas_item it)->p'.toList=pre++(W++post)->W.Pairwise (Lx lt)->W.Perm (X++Y) ->
   pendingOf st'=((pendingOf st).setIfInBounds i (pre.length,X.length+Y.length,pw)).eraseIdxIfInBounds (i+1)->Q true st'):wpS (model prog w) A E s (mergeAt' i) Q st:=by
 have psz:p.size=pre.length+(X.length+(Y.length+post.length)):=by rw[<-Zt,hp];simp
 have gX:∀i,i<X.length->gA p (pre.length+i)=X.getD i 0:=fun i hi=>by rw[aB,hp,Zg,Zg,ZW (by omega),ZX,YC hi]
 have gY:∀i,i<Y.length->gA p (pre.length+X.length+i)=Y.getD i 0:=fun i hi=>by rw[aB,hp,Zg,Zg,ZW (by omega),show pre.length+X.length+i-pre.length=X.length+i by omega,ZW (by omega),ZX,YC hi]
 have nX:∀x∈X,x<N:=fun x hx=>hN x (by rw[hp];simp[hx]);have nY:∀x∈Y,x<N:=fun x hx=>hN x (by rw[hp];simp[hx]);have tf:∀{x y:Nat},zB lt false x y=true->lt x y=false:=fun{x y} z=>by have z':(!lt x y)=true:=z;simpa using z'
 have ft:∀{x y:Nat},zB lt false x y=false->lt x y=true:=fun{x y} z=>by have z':(!lt x y)=false:=z;simpa using z'
 rw[BZ];refine Zi (wpS_get ?_);rw[h1,h2];have hset:∀{st2:SortSt} {Q:PUnit->SortSt->Prop},Q ⟨⟩ st2->wpS (model prog w) A E s (set st2:StateT SortSt Sem PUnit) Q st:=fun{st2 Q} hq=>by have e:(set st2:StateT SortSt Sem PUnit)=modify fun _=>st2:=rfl;rw[e];exact wpS_modify hq
 refine Zi (hset ?_);rw[ha];refine Zi (aS (by omega) ?_);have eY:gA p (pre.length+X.length)=Y.getD 0 0:=gY 0 hY0;rw[eY];refine Zi (iw Z hk (nY _ (bT hY0)) (by omega) (fun i h3 h4=>?_) hX0 (fun i j h3 h4 h5=>?_) fun k hk1 hk2 hk3=>?_)
 ·obtain⟨d,rfl⟩:∃d,i=pre.length+d:=⟨i-pre.length,by omega⟩
  rw[gX d (by omega)];exact nX _ (bT (by omega))
 ·rw[gX _ (by omega)]at h5 ⊢;have z:=tf h5;show(!lt (Y.getD 0 0) (X.getD i 0))=true;cases e:lt (Y.getD 0 0) (X.getD i 0)with
  |false=>rfl
  |true=>rw[mP O hX h3 h4 e]at z;cases z
 have k2:∀i,i<k->lt (Y.getD 0 0) (X.getD i 0)=false:=fun i hi=>by have:=tf (hk2 i hi);rw[gX i (by omega)]at this;exact this
 have k3:∀i,k<=i->i<X.length->lt (Y.getD 0 0) (X.getD i 0)=true:=fun i hi hi2=>by have:=ft (hk3 i hi hi2);rw[gX i (by omega)]at this;exact this
 have low:∀x∈X.take k,∀y∈Y,Lx lt x y:=fun x hx y hy=>by
  have hm:=List.mem_of_mem_take hx;obtain⟨i,i1,i2,rfl⟩:=ic hx;obtain⟨j,j1,rfl⟩:=mZ hy;refine⟨?_,.inr (hXY _ hm _ hy)⟩;cases e:lt (Y.getD j 0) (X.getD i 0)with
  |false=>rfl
  |true=>rw[<-k2 i i1];exact(mQ O hY (ZP j) j1 e).symm
 refine ax (fun e0=>?_) fun e0=>?_
 ·have e0':X.length-k=0:=by simpa using e0
  refine Zk (h _ p (X++Y) hk hf ha (by rw[hp,Zy]) (ZH.mpr ⟨hX,hY,fun x hx y hy=>?_⟩) (List.Perm.refl _) rfl);exact low x (by rw[ZN (by omega)];exact hx) y hy
 have e0':X.length-k≠0:=by simpa using e0
 refine Zi (aS (by omega) ?_);have eXl:gA p (pre.length+k+(X.length-k)-1)=X.getD (X.length-1) 0:=by rw[show pre.length+k+(X.length-k)-1=pre.length+(X.length-1) by omega];exact gX _ (by omega)
 rw[eXl];refine Zi (iw Z hk (nX _ (bT (by omega))) (by omega) (fun i h3 h4=>?_) (by omega) (fun i j h3 h4 h5=>?_) fun c hc1 hc2 hc3=>?_)
 ·obtain⟨d,rfl⟩:∃d,i=pre.length+X.length+d:=⟨i-(pre.length+X.length),by omega⟩
  rw[gY d (by omega)];exact nY _ (bT (by omega))
 ·rw[gY _ (by omega)]at h5 ⊢;exact mQ O hY h3 h4 h5
 have c2:∀i,i<c->lt (Y.getD i 0) (X.getD (X.length-1) 0)=true:=fun i hi=>by have:=hc2 i hi;rw[gY i (by omega)]at this;exact this
 have c3:∀i,c<=i->i<Y.length->lt (Y.getD i 0) (X.getD (X.length-1) 0)=false:=fun i hi hi2=>by have:=hc3 i hi hi2;rw[gY i (by omega)]at this;exact this
 refine ax (fun e1=>?_) fun e1=>?_
 ·have e1':c=0:=by simpa using e1
  have z1:=c3 0 (by omega) hY0;rw[k3 (X.length-1) (by omega) (by omega)]at z1;cases z1
 have e1':c≠0:=by simpa using e1
 have la:(p.extract (pre.length+k) (pre.length+X.length)).toList=X.drop k:=by rw[kg,hp,List.take_append,ZN (by omega),ZX,List.take_left,List.drop_append,YQ (by omega),YT,ZX]
 have lb:(p.extract (pre.length+X.length) (pre.length+X.length+c)).toList=Y.take c:=by rw[fM,hp,<-Zy,List.drop_append,YQ (by simp),YT,Zo,Nat.sub_self,List.drop_zero,List.take_append,show c-Y.length=0 by omega,List.take_zero,ZJ]
 have sza:(p.extract (pre.length+k) (pre.length+X.length)).size=X.length-k:=by rw[<-Zt,la,Z9]
 have szb:(p.extract (pre.length+X.length) (pre.length+X.length+c)).size=c:=by rw[<-Zt,lb,ZL];omega
 have ga:∀i,gA (p.extract (pre.length+k) (pre.length+X.length)) i=X.getD (k+i) 0:=fun i=>by rw[aB,la,Zg,Zg,List.getElem?_drop]
 have gb:∀i,i<c->gA (p.extract (pre.length+X.length) (pre.length+X.length+c)) i=Y.getD i 0:=fun i hi=>by rw[aB,lb,Zg,Zg,List.getElem?_take,if_pos hi]
 have M:MF lt N (p.extract (pre.length+k) (pre.length+X.length)) (p.extract (pre.length+X.length) (pre.length+X.length+c)):=by
  refine⟨qS (by rw[la];exact hX.sublist (Yl _ _)),qS (by rw[lb];exact hY.sublist (Yb _ _)),fun i j hi hj e=>?_,fun i hi=>?_,fun i hi=>?_,by omega,by omega,?_,fun j hj=>?_⟩
  ·rw[ga,gb j (by omega)]at e ⊢;exact⟨e,.inr (hXY _ (bT (by omega)) _ (bT (by omega)))⟩
  ·rw[ga];exact nX _ (bT (by omega))
  ·rw[gb i (by omega)];exact nY _ (bT (by omega))
  ·rw[ga,gb 0 (by omega)];exact k3 _ (by omega) (by omega)
  ·rw[ga,gb j (by omega),sza,show k+(X.length-k-1)=X.length-1 by omega];exact c2 j (by omega)
 have fin:∀(r:Array Keyed) (st2 st3:SortSt),Gd lt (kas_item it) (p.extract (pre.length+k) (pre.length+X.length)) (p.extract (pre.length+X.length) (pre.length+X.length+c)) r->kindOf st2=κ->failedOf st2=none->arrOf st2=p.map (kas_item it)->pendingOf st2=((pendingOf st).setIfInBounds i (pre.length,X.length+Y.length,pw)).eraseIdxIfInBounds (i+1)->SG' st2 st3 ->
   wpS (model prog w) A E s (do
    modify fun st=>setArr st (ji (arrOf st) (pre.length+k) r)
    return (failedOf (←get)).isNone) Q st3:=fun r st2 st3 ⟨q,eq,qs,qp⟩ j1 j2 j3 j4 ⟨g,eg⟩=>by
  subst eg;subst eq;rw[la,lb]at qp;have ql:q.size=X.length-k+c:=by have:=qp.length_eq;rw[Zo,Z9,ZL,Zt]at this;omega
  obtain⟨p',ep,lp⟩:=zt (f:=kas_item it) (p:=p) (q:=q) (at0:=pre.length+k) (by omega);have lp':p'.toList=pre++((X.take k++(q.toList++Y.drop c))++post):=by rw[lp,hp,List.take_append,ZN (by omega),ZX,List.take_append,show k-X.length=0 by omega,List.take_zero,ZJ];rw[Zy,Zy,Zy];congr 2;congr 1;rw[ql,show pre.length+k+(X.length-k+c)=pre.length+X.length+c by omega,<-Zy,List.drop_append,YQ (by simp),YT,Zo,ZX,List.drop_append,show c-Y.length=0 by omega,List.drop_zero]
  refine Zi (wpS_modify (Zi (wpS_get ?_)));have hcr:∀x∈X,∀y∈Y.drop c,Lx lt x y:=fun x hx y hy=>by
   have hm:=List.mem_of_mem_drop hy;obtain⟨j,d1,d2,rfl⟩:=hZ hy;obtain⟨i,i1,rfl⟩:=mZ hx;refine⟨?_,.inr (hXY _ hx _ hm)⟩;cases e:lt (Y.getD j 0) (X.getD i 0)with
   |false=>rfl
   |true=>rw[<-c3 j d1 d2];exact(mP O hX (show i<=X.length-1 by omega) (by omega) e).symm
  have sX:=ZH.mp (show(X.take k++X.drop k).Pairwise (Lx lt) by rw[ZR];exact hX);have sY:=ZH.mp (show(Y.take c++Y.drop c).Pairwise (Lx lt) by rw[ZR];exact hY);have pwW:(X.take k++(q.toList++Y.drop c)).Pairwise (Lx lt):=by
   refine ZH.mpr ⟨sX.1,ZH.mpr ⟨qs,sY.2.1,fun x hx y hy=>?_⟩,fun x hx y hy=>?_⟩
   ·rcases ZD.mp (qp.mem_iff.mp hx)with hx|hx
    ·exact hcr x (List.mem_of_mem_drop hx) y hy
    ·exact sY.2.2 x hx y hy
   ·rcases ZD.mp hy with hy|hy
    ·rcases ZD.mp (qp.mem_iff.mp hy)with hy|hy
     ·exact sX.2.2 x hx y hy
     ·exact low x hx y (List.mem_of_mem_take hy)
    ·exact low x hx y (List.mem_of_mem_drop hy)
  have pmW:(X.take k++(q.toList++Y.drop c)).Perm (X++Y):=by refine((qp.append_right (Y.drop c)).append_left (X.take k)).trans ?_;rw[Zy,ZR,<-Zy,ZR]
  have ea:ji (arrOf (jc st2 g)) (pre.length+k) (q.map (kas_item it))=p'.map (kas_item it):=by show ji (arrOf st2) (pre.length+k) (q.map (kas_item it))=_;rw[j3];exact ep
  have eF:(failedOf (setArr (jc st2 g) (ji (arrOf (jc st2 g)) (pre.length+k) (q.map (kas_item it))))).isNone=true:=by show(failedOf st2).isNone=true;rw[j2];rfl
  rw[eF];exact Zk (h _ p' _ j1 j2 ea lp' pwW pmW j4)
 rw[bo,bo];refine ax (fun _=>?_) fun _=>?_
 ·exact Zi (Dh Z O M hk fun r st3 hr g=>fin r (setPending st (((pendingOf st).setIfInBounds i (pre.length,X.length+Y.length,pw)).eraseIdxIfInBounds (i+1))) st3 hr hk hf ha rfl g)
 ·exact Zi (Dg Z O M hk fun r st3 hr g=>fin r (setPending st (((pendingOf st).setIfInBounds i (pre.length,X.length+Y.length,pw)).eraseIdxIfInBounds (i+1))) st3 hr hk hf ha rfl g)
end
open PySem PyProof.Rows PySem.W
theorem KW.unbind{α β:Type}{lt:Nat->Nat->Bool}{Q:β->Prop}{f:α->KasT β}:∀{t:KasT α},KW lt Q (t.bind f)->KW lt (fun a=>KW lt Q (f a)) t
 |.ret _,h=>h
 |.ask i j k,h=>KW.unbind (t:=k (lt i j)) h
def pj(pre u:Array Nat):Array Nat:=pre++u.map (pre.size+·)
theorem ii(pre u:Array Nat):(pj pre u).size=pre.size+u.size:=by simp[pj]
theorem dv(pre u:Array Nat)(k:Nat):(pj pre u)[k]?=if k<pre.size then pre[k]? else(u[k-pre.size]?).map (pre.size+·):=by
 unfold pj;rw[Array.getElem?_append];split
 ·rfl
 ·rw[Array.getElem?_map]
theorem wV{pre u:Array Nat}{k:Nat}(hk:k<u.size):gA (pj pre u) (pre.size+k)=pre.size+gA u k:=by rw[fP,fP,dv,if_neg (by omega),ZX];simp[hk]
theorem Bg{pre u:Array Nat}{i j:Nat}(hj:j<=u.size):kas_rev (pj pre u) (pre.size+i) (pre.size+j)=pj pre (kas_rev u i j):=by
 apply Array.ext_getElem?;intro k;unfold kas_rev;rw[getElem?_mirror_all (by rw[ii];omega),dv,dv,dv,getElem?_mirror_all hj];by_cases h0:k<pre.size
 ·rw[if_neg (by omega),if_pos h0,if_pos h0]
 ·rw[if_neg h0,if_neg h0];by_cases h1:i<=k-pre.size/\k-pre.size<j
  ·rw[if_pos (by omega),if_neg (by omega),if_pos h1];congr 2;omega
  ·rw[if_neg (by omega),if_neg h1]
theorem Bf{pre u:Array Nat}{k d:Nat}(hk:k<u.size)(hd:d<=k):bubble (pj pre u) (pre.size+k) d=pj pre (bubble u k d):=by
 apply Array.ext_getElem?;intro i;rw[getElem?_bubble (by rw[ii];omega) d (by omega),dv,dv,dv,dv,getElem?_bubble hk d hd];by_cases h0:i<pre.size
 ·rw[if_neg (by omega),if_neg (by omega),if_pos h0,if_pos h0]
 ·rw[if_neg h0,if_neg h0];by_cases h1:i-pre.size=k-d
  ·rw[if_pos (by omega),if_pos h1,if_neg (by omega),ZX]
  ·rw[if_neg (by omega),if_neg h1];by_cases h2:k-d<i-pre.size/\i-pre.size<=k
   ·rw[if_pos (by omega),if_pos h2,if_neg (by omega)];congr 2;omega
   ·rw[if_neg (by omega),if_neg h2]
section
variable{prog:Program}{w:World}{A:Around}{E:Value->Shared->Prop}{s:Shared}{κ:SortKind}{it:Array Keyed}{lt:Nat->Nat->Bool}{N:Nat}{st:SortSt}{pre u:Array Nat}
def stQ(it:Array Keyed)(st:SortSt)(q:Array Nat):SortSt:=setArr st (q.map (kas_item it))
structure Zp(prog:Program)(w:World)(A:Around)(s:Shared)(κ:SortKind)(it:Array Keyed)(lt:Nat->Nat->Bool)(N:Nat)(st:SortSt)(pre:Array Nat)(n:Nat):Prop where
 Z:Zc prog w A s κ it lt N
 hk:kindOf st=κ
 hN:pre.size+n=N
 n0:0<n
def ltS(lt:Nat->Nat->Bool)(lo:Nat):Nat->Nat->Bool:=fun i j=>lt (lo+i) (lo+j)
theorem jS{n:Nat}(P:Zp prog w A s κ it lt N st pre n)(hu:POk n u){i j:Nat}(hi:i<n)(hj:j<n){Q:Option Bool->SortSt->Prop}(h:Q (some (ltS lt pre.size (gA u i) (gA u j))) (stQ it st (pj pre u))):wpS (model prog w) A E s (ltAt' (pre.size+i) (pre.size+j)) Q (stQ it st (pj pre u)):=by
 have hz:u.size=n:=by have:=hu.size_eq;simpa using this
 have hN:=P.hN;rw[ltAt'_eq];refine Zi (wpS_get ?_);have ea:arrOf (stQ it st (pj pre u))=(pj pre u).map (kas_item it):=rfl;rw[ea];refine Zi (aS (by rw[ii];omega) (Zi (aS (by rw[ii];omega) ?_)));rw[wV (by omega),wV (by omega)];have b1:=hu.lt P.n0 i;have b2:=hu.lt P.n0 j;exact oo P.Z P.hk (by unfold gA;omega) (by unfold gA;omega) h
theorem mm{n:Nat}(hu:POk n u){i j:Nat}(hj:j<=n){Q:Unit->SortSt->Prop}(h:Q () (stQ it st (pj pre (kas_rev u i j)))):wpS (model prog w) A E s (reverseSlice' (pre.size+i) (pre.size+j)) Q (stQ it st (pj pre u)):=by
 have hz:u.size=n:=by have:=hu.size_eq;simpa using this
 rw[reverseSlice'_eq];refine wpS_modify ?_;have e1:mirror ((pj pre u).map (kas_item it)) (pre.size+i) (pre.size+j) ((pre.size+j-(pre.size+i)) / 2)=(kas_rev (pj pre u) (pre.size+i) (pre.size+j)).map (kas_item it):=kas_swaps_map (kas_item it) (fun k=>pre.size+i+k) (fun k=>pre.size+j-1-k) _ (pj pre u);have e2:setArr (stQ it st (pj pre u)) (mirror (arrOf (stQ it st (pj pre u))) (pre.size+i) (pre.size+j) ((pre.size+j-(pre.size+i)) / 2))=stQ it st (pj pre (kas_rev u i j)):=by show setArr st (mirror ((pj pre u).map (kas_item it)) (pre.size+i) (pre.size+j) ((pre.size+j-(pre.size+i)) / 2))=setArr st ((pj pre (kas_rev u i j)).map (kas_item it));rw[e1,Bg (by omega)]
 rw[e2];exact h
theorem CV{n:Nat}(hu:POk n u){k l:Nat}(hk:k<n){Q:Unit->SortSt->Prop}(h:Q () (stQ it st (pj pre (bubble u k (k-l))))):wpS (model prog w) A E s (moveDown' (pre.size+k) (pre.size+l)) Q (stQ it st (pj pre u)):=by
 have hz:u.size=n:=by have:=hu.size_eq;simpa using this
 rw[moveDown'_eq];refine wpS_modify ?_;have e1:bubble ((pj pre u).map (kas_item it)) (pre.size+k) (pre.size+k-(pre.size+l))=(bubble (pj pre u) (pre.size+k) (pre.size+k-(pre.size+l))).map (kas_item it):=kas_swaps_map (kas_item it) (fun i=>pre.size+k-i) (fun i=>pre.size+k-i-1) _ (pj pre u);have e2:setArr (stQ it st (pj pre u)) (bubble (arrOf (stQ it st (pj pre u))) (pre.size+k) (pre.size+k-(pre.size+l)))=stQ it st (pj pre (bubble u k (k-l))):=by show setArr st (bubble ((pj pre u).map (kas_item it)) (pre.size+k) (pre.size+k-(pre.size+l)))=setArr st ((pj pre (bubble u k (k-l))).map (kas_item it));rw[e1,show pre.size+k-(pre.size+l)=k-l by omega,Bf (by omega) (by omega)]
 rw[e2];exact h
def lY(lo m nr:Nat):StateT SortSt Sem (Option Nat):=do
 reverseSlice' lo (lo+m)
 let mut m:=m
 for _ in[m:nr]do
  let some sm ←ltAt' (lo+m) (lo+m-1)|return none
  if sm then break
  m:=m+1
 return some m
def wJ(lo m nr:Nat):StateT SortSt Sem (Option Nat):=do
 liftM (rule "list.sort.descending-run");let mut m:=m+1;let mut qe:=0
 for _ in[m:nr]do
  let some sm ←ltAt' (lo+m) (lo+m-1)|return none
  if sm then
   if qe>0 then reverseSlice' (lo+m-(qe+1)) (lo+m)
   qe:=0
  else
   let some la ←ltAt' (lo+m-1) (lo+m)|return none
   if la then break
   qe:=qe+1
  m:=m+1
 if qe>0 then do
  reverseSlice' (lo+m-(qe+1)) (lo+m)
  lY lo m nr
 else lY lo m nr
theorem xE{n:Nat}(P:Zp prog w A s κ it lt N st pre n)(hu:POk n u){m0:Nat}(h0:1<=m0)(hm:m0<=n){R:Nat->Prop}(hr:KW (ltS lt pre.size) R (kas_asc u (n - m0) m0)){f:Nat->Option (Option Nat)×Nat->StateT SortSt Sem (ForInStep (Option (Option Nat)×Nat))}(ef:∀ i m,f i (none,m)=(do
   let r ←ltAt' (pre.size+m) (pre.size+m-1)
   match r with
   |some sm=>if sm=true then pure (ForInStep.done (none,m))else pure (ForInStep.yield (none,m+1))
   | _=>pure (ForInStep.done (some none,m)))){Q:Option (Option Nat)×Nat->SortSt->Prop}(h:∀ m,m0<=m->m<=n->R m->Q (none,m) (stQ it st (pj pre u))) :
  wpS (model prog w) A E s (forIn [m0:n] ((none,m0):Option (Option Nat)×Nat) f) Q (stQ it st (pj pre u)):=by
 refine Z4 (I:=fun i c st'=>c=(none,i)/\st'=stQ it st (pj pre u)/\i<=n/\KW (ltS lt pre.size) R (kas_asc u (n-i) i)) ?_ ?_ ⟨rfl,rfl,hm,hr⟩
 ·rintro i c st' hi1 hi2 ⟨rfl,rfl,hi3,hkw⟩;rw[ef];rw[show n-i=(n-(i+1))+1 by omega]at hkw;have hkw':KW (ltS lt pre.size) R (if ltS lt pre.size (gA u i) (gA u (i-1))=true then .ret i else kas_asc u (n-(i+1)) (i+1)):=hkw;rw[show pre.size+i-1=pre.size+(i-1) by omega];refine Zi (jS P hu hi2 (by omega) ?_);refine ax (fun e=>?_) fun e=>?_
  ·rw[if_pos e]at hkw';exact Zk (h i hi1 hi3 hkw')
  ·rw[if_neg e]at hkw';exact Zk ⟨rfl,rfl,by omega,hkw'⟩
 ·rintro c st' ⟨rfl,rfl,hi3,hkw⟩;rw[Nat.max_eq_right hm]at hkw ⊢;rw[Nat.sub_self]at hkw;exact h n hm (Ze _) hkw
theorem uC{n:Nat}(P:Zp prog w A s κ it lt N st pre n)(hu:POk n u){m0:Nat}(h0:1<=m0)(hm:m0<=n){G:Nat×Array Nat->Prop}{Q:Option Nat->SortSt->Prop}(hr:KW (ltS lt pre.size) G (kas_tail3 m0 n u))(h:∀m u',POk n u'->1<=m->m<=n->G (m,u')->Q (some m) (stQ it st (pj pre u'))) :
  wpS (model prog w) A E s (lY pre.size m0 n) Q (stQ it st (pj pre u)):=by
 unfold lY;have hr':=KW.unbind hr;have z:=mm (prog:=prog) (w:=w) (A:=A) (E:=E) (s:=s) (it:=it) (st:=st) (pre:=pre) (i:=0) (j:=m0) hu hm (Q:=fun _ st'=>st'=stQ it st (pj pre (kas_rev u 0 m0))) rfl;rw[Nat.add_zero]at z;refine Zi (y9 z fun _ st' e=>?_);subst e;refine Zi (xE P (hu.rev 0 m0) h0 hm hr' (fun i m=>rfl) fun m h1 h2 h3=>?_);exact Zk (h m _ (hu.rev 0 m0) (by omega) h2 h3)
end
open PySem PyProof.Rows PySem.W
section
variable{lt:Nat->Nat->Bool}(O:LtOk lt){N:Nat}
include O
theorem pf:∀(f:Nat) {p:Array Nat} {k:Nat},k+f<=N->1<=k->Fx N p k->LS lt p k->KW lt (fun p=>Fx N p (k+f)/\LS lt p (k+f)) (kas_bin f p k)
 |0,p,k,e,_,hf,hs=>⟨hf,hs⟩
 |f+1,p,k,e,h1,hf,hs=>by
  refine KW.bind (KW.mono (fun m hm=>?_) (iT O hs k 0 k (by omega) (Ze _) (fun i hi=>absurd hi (by omega)) (fun i h2 h3=>absurd h2 (by omega)) (ZP _)));obtain⟨m1,m2,m3⟩:=hm;have hk:k<p.size:=by rw[hf.sz];omega
  have gk:gA p k=k:=hf.hi k (Ze _) (by omega);have ekm:k-(k-m)=m:=by omega
  have gb:∀i,gA (bubble p k (k-m)) i=if i=m then gA p k else if m<i/\i<=k then gA p (i-1)else gA p i:=fun i=>by rw[zV hk (by omega),ekm]
  rw[show k+(f+1)=k+1+f by omega];refine pf f (by omega) (by omega) ⟨by rw[bubble_size];exact hf.sz,fun i h2 h3=>?_,fun i hi=>?_⟩ (fun i j hij hj=>?_)
  ·rw[gb,if_neg (by omega),if_neg (by omega)];exact hf.hi i (by omega) h3
  ·rw[gb];split
   ·rw[gk];omega
   ·split
    ·have:=hf.lo (i-1) (by omega);omega
    ·have:=hf.lo i (by omega);omega
  ·have lk:∀i,i<m->Lx lt (gA p i) (gA p k):=fun i hi=>⟨m2 i hi,.inr (by rw[gk];exact hf.lo i (by omega))⟩
   have gt:∀i,m<=i->i<k->Lx lt (gA p k) (gA p i):=fun i h2 h3=>Lx.of_lt O (m3 i h2 h3);rw[gb,gb];by_cases a1:i=m
   ·rw[if_pos a1,if_neg (by omega),if_pos (by omega)];exact gt _ (by omega) (by omega)
   ·rw[if_neg a1];by_cases a2:m<i/\i<=k
    ·rw[if_pos a2,if_neg (by omega),if_pos (by omega)];exact hs _ _ (by omega) (by omega)
    ·rw[if_neg a2];by_cases b1:j=m
     ·rw[if_pos b1];exact lk i (by omega)
     ·rw[if_neg b1];by_cases b2:m<j/\j<=k
      ·rw[if_pos b2];exact hs _ _ (by omega) (by omega)
      ·rw[if_neg b2];exact hs _ _ hij (by omega)
end
section
variable{prog:Program}{w:World}{A:Around}{E:Value->Shared->Prop}{s:Shared}{κ:SortKind}{it:Array Keyed}{lt:Nat->Nat->Bool}{N:Nat}{st:SortSt}{pre u:Array Nat}
theorem uq{n:Nat}(P:Zp prog w A s κ it lt N st pre n)(hu:POk n u){m0:Nat}(h0:1<=m0)(hm:m0+1<=n){G:Nat×Array Nat->Prop}{Q:Option Nat->SortSt->Prop}(hr:KW (ltS lt pre.size) G (kas_descPart m0 n u))(h:∀m u',POk n u'->1<=m->m<=n->G (m,u')->Q (some m) (stQ it st (pj pre u'))) :
  wpS (model prog w) A E s (wJ pre.size m0 n) Q (stQ it st (pj pre u)):=by
 unfold wJ;have hr':=KW.unbind hr;refine Zi (wpS_lift (YF ⟨rfl,?_⟩));refine Zi (y9 (Z4 (I:=fun i c st'=>∃ u' q,c=(none,i,q)/\st'=stQ it st (pj pre u')/\POk n u'/\i<=n/\q+1<=i/\KW (ltS lt pre.size) (fun r=>KW (ltS lt pre.size) G (if r.2.2>0 then kas_tail3 r.2.1 n (kas_rev r.1 (r.2.1 - (r.2.2+1)) r.2.1) else kas_tail3 r.2.1 n r.1)) (kas_desc (n - i) u' i q))
  (Q:=fun c st'=>∃ u' m q,c=(none,m,q)/\st'=stQ it st (pj pre u')/\POk n u'/\1<=m/\m<=n/\q+1<=m/\KW (ltS lt pre.size) G (if q>0 then kas_tail3 m n (kas_rev u' (m - (q+1)) m) else kas_tail3 m n u')) ?step ?fin ⟨u,0,rfl,rfl,hu,hm,by omega,hr'⟩) ?post)
 case fin =>rintro c st' ⟨u',q,rfl,rfl,hu',h1,h2,h3⟩;rw[Nat.max_eq_right hm]at h1 h2 h3 ⊢;rw[Nat.sub_self]at h3;exact⟨u',n,q,rfl,rfl,hu',by omega,Ze _,h2,h3⟩
 case post =>
  rintro c st' ⟨u',m,q,rfl,rfl,hu',h1,h2,h3,h4⟩;dsimp only;refine ax (fun hq=>?_) fun hq=>?_
  ·rw[if_pos hq]at h4;rw[show pre.size+m-(q+1)=pre.size+(m-(q+1)) by omega];exact Zi (mm hu' h2 (uC P (hu'.rev _ _) h1 h2 h4 h))
  ·rw[if_neg hq]at h4;exact uC P hu' h1 h2 h4 h
 case step =>
  rintro i c st' hi1 hi2 ⟨u',q,rfl,rfl,hu',h1,h2,h3⟩;dsimp only;rw[show n-i=(n-(i+1))+1 by omega]at h3;generalize hR:(fun r:Array Nat×Nat×Nat=>KW (ltS lt pre.size) G (if r.2.2>0 then kas_tail3 r.2.1 n (kas_rev r.1 (r.2.1-(r.2.2+1)) r.2.1)else kas_tail3 r.2.1 n r.1))=R at h3 ⊢;have h3':KW (ltS lt pre.size) R (if ltS lt pre.size (gA u' i) (gA u' (i - 1))=true then (if q>0 then kas_desc (n - (i+1)) (kas_rev u' (i - (q+1)) i) (i+1) 0 else kas_desc (n - (i+1)) u' (i+1) 0)
   else KasT.ask (gA u' (i - 1)) (gA u' i) fun d=>if d=true then .ret (u',i,q) else kas_desc (n - (i+1)) u' (i+1) (q+1)):=h3
  rw[show pre.size+i-1=pre.size+(i-1) by omega];refine Zi (jS P hu' hi2 (by omega) ?_);refine ax (fun e=>?_) fun e=>?_
  ·rw[if_pos e]at h3';refine ax (fun hq=>?_) fun hq=>?_
   ·rw[if_pos hq]at h3';rw[show pre.size+i-(q+1)=pre.size+(i-(q+1)) by omega];exact Zi (mm hu' h1 (Zk ⟨_,0,rfl,rfl,hu'.rev _ _,by omega,by omega,h3'⟩))
   ·rw[if_neg hq]at h3';exact Zk ⟨_,0,rfl,rfl,hu',by omega,by omega,h3'⟩
  ·rw[if_neg e]at h3';have h3'':KW (ltS lt pre.size) R (if ltS lt pre.size (gA u' (i-1)) (gA u' i)=true then .ret (u',i,q)else kas_desc (n-(i+1)) u' (i+1) (q+1)):=h3';refine Zi (jS P hu' (by omega) hi2 ?_);refine ax (fun e2=>?_) fun e2=>?_
   ·rw[if_pos e2]at h3'';have h5:R (u',i,q):=h3'';rw[<-hR]at h5;exact Zk ⟨u',i,q,rfl,rfl,hu',by omega,h1,h2,h5⟩
   ·rw[if_neg e2]at h3'';exact Zk ⟨_,q+1,rfl,rfl,hu',by omega,by omega,h3''⟩
theorem zw{n:Nat}(P:Zp prog w A s κ it lt N st pre n)(hu:POk n u){G:Nat×Array Nat->Prop}{Q:Option Nat->SortSt->Prop}(hr:KW (ltS lt pre.size) G (kas_count n u))(h:∀m u',POk n u'->1<=m->m<=n->G (m,u')->Q (some m) (stQ it st (pj pre u'))) :
  wpS (model prog w) A E s (countRun' pre.size n) Q (stQ it st (pj pre u)):=by
 have n0:=P.n0;have hr':=KW.unbind hr;rw[countRun'_eq];refine Zi (xE P hu (Ze 1) n0 hr' (fun i m=>rfl) fun m h1 h2 h3=>?_);dsimp only;refine ax (fun e=>?_) fun e=>?_
 ·rw[if_pos e]at h3;exact Zk (h m u hu h1 h2 h3)
 ·rw[if_neg e]at h3;have hlt:m+1<=n:=by
   have:m≠n:=by simpa using e
   omega
  refine ax (fun e2=>?_) fun e2=>?_
  ·rw[if_pos e2]at h3;have h3':KW (ltS lt pre.size) G (if ltS lt pre.size (gA u 0) (gA u (m-1))=true then .ret (m,u)else kas_descPart m n (kas_rev u 0 m)):=h3;have z:=jS (E:=E) P hu (i:=0) (j:=m-1) n0 (by omega) (Q:=fun r st'=>r=some (ltS lt pre.size (gA u 0) (gA u (m-1)))/\st'=stQ it st (pj pre u)) ⟨rfl,rfl⟩;rw[Nat.add_zero]at z;rw[show pre.size+m-1=pre.size+(m-1) by omega];refine Zi (y9 z fun r st' hz=>?_);obtain⟨rfl,rfl⟩:=hz;refine ax (fun e3=>?_) fun e3=>?_
   ·rw[if_pos e3]at h3';exact Zk (h m u hu h1 h2 h3')
   ·rw[if_neg e3]at h3';have z:=mm (prog:=prog) (w:=w) (A:=A) (E:=E) (s:=s) (it:=it) (st:=st) (pre:=pre) (i:=0) (j:=m) hu h2 (Q:=fun _ st'=>st'=stQ it st (pj pre (kas_rev u 0 m))) rfl;rw[Nat.add_zero]at z;refine Zi (y9 z fun _ st' ez=>?_);subst ez;exact uq P (hu.rev 0 m) h1 hlt h3' h
  ·rw[if_neg e2]at h3;exact uq P hu h1 hlt h3 h
theorem CT{n nf ok:Nat}(P:Zp prog w A s κ it lt N st pre n)(hu:POk n u)(hn:nf<=n){G:Array Nat->Prop}{Q:Bool->SortSt->Prop}(hr:KW (ltS lt pre.size) G (kas_bin (nf-max ok 1) u (max ok 1)))(h:∀u',POk n u'->G u'->Q true (stQ it st (pj pre u'))) :
  wpS (model prog w) A E s (binarySort' pre.size nf ok) Q (stQ it st (pj pre u)):=by
 rw[binarySort'_eq];refine Zi (y9 (Z4 (I:=fun k c st'=>∃ u',c=(none,())/\st'=stQ it st (pj pre u')/\POk n u'/\KW (ltS lt pre.size) G (kas_bin (nf - k) u' k))
  (Q:=fun c st'=>∃ u',c=(none,())/\st'=stQ it st (pj pre u')/\POk n u'/\G u') ?step ?fin ⟨u,rfl,rfl,hu,hr⟩) ?post)
 case fin =>rintro c st' ⟨u',rfl,rfl,hu',h1⟩;rw[show nf-max (max ok 1) nf=0 by omega]at h1;exact⟨u',rfl,rfl,hu',h1⟩
 case post =>rintro c st' ⟨u',rfl,rfl,hu',h1⟩;exact Zk (h u' hu' h1)
 case step =>
  rintro k c st' hk1 hk2 ⟨u',rfl,rfl,hu',h1⟩;dsimp only;rw[show nf-k=(nf-(k+1))+1 by omega]at h1;have h1':=KW.unbind (show KW (ltS lt pre.size) G ((kas_place u' k k 0 k).bind fun l=>kas_bin (nf-(k+1)) (bubble u' k (k-l)) (k+1))from h1);generalize hR:(fun l:Nat=>KW (ltS lt pre.size) G (kas_bin (nf-(k+1)) (bubble u' k (k-l)) (k+1)))=R at h1';refine Zi (y9 (Z4 (I:=fun x c st'=>∃ l r,c=(none,l,r)/\st'=stQ it st (pj pre u')/\r<=k/\KW (ltS lt pre.size) R (kas_place u' k (k - x) l r))
   (Q:=fun c st'=>∃ l r,c=(none,l,r)/\st'=stQ it st (pj pre u')/\R l) ?istep ?ifin ⟨0,k,rfl,rfl,Ze _,h1'⟩) ?ipost)
  case ifin =>rintro c st' ⟨l,r,rfl,rfl,g1,g2⟩;rw[show k-max 0 k=0 by omega]at g2;exact⟨l,r,rfl,rfl,g2⟩
  case ipost =>rintro c st' ⟨l,r,rfl,rfl,g2⟩;rw[<-hR]at g2;exact Zi (CV hu' (by omega) (Zk ⟨_,rfl,rfl,hu'.bub _ _,g2⟩))
  case istep =>
   rintro x c st' _ hx ⟨l,r,rfl,rfl,g1,g2⟩;dsimp only;rw[show k-x=(k-(x+1))+1 by omega]at g2;have g2':KW (ltS lt pre.size) R (if l>=r then KasT.ret l else KasT.ask (gA u' k) (gA u' ((l+r) / 2)) fun c=>if c=true then kas_place u' k (k-(x+1)) l ((l+r) / 2)else kas_place u' k (k-(x+1)) ((l+r) / 2+1) r):=g2;refine ax (fun e=>?_) fun e=>?_
   ·rw[if_pos e]at g2';exact Zk ⟨l,r,rfl,rfl,g2'⟩
   ·rw[if_neg e]at g2';have g3:KW (ltS lt pre.size) R (if ltS lt pre.size (gA u' k) (gA u' ((l+r) / 2))=true then kas_place u' k (k-(x+1)) l ((l+r) / 2)else kas_place u' k (k-(x+1)) ((l+r) / 2+1) r):=g2';refine Zi (jS P hu' (by omega) (by omega) ?_);refine ax (fun e2=>?_) fun e2=>?_
    ·rw[if_pos e2]at g3;exact Zk ⟨l,(l+r) / 2,rfl,rfl,by omega,g3⟩
    ·rw[if_neg e2]at g3;exact Zk ⟨(l+r) / 2+1,r,rfl,rfl,by omega,g3⟩
end
open PySem PyProof.Rows PySem.W
section
variable{lt:Nat->Nat->Bool}
def RunsL(lt:Nat->Nat->Bool):Nat->List (List Nat)->List (Nat×Nat×Nat)->Prop
 |_,[],[]=>True
 |b,r::rs,t::ts=>t.1=b/\t.2.1=r.length/\0<r.length/\r.Pairwise (Lx lt)/\r.Perm (List.range' b r.length)/\RunsL lt (b+r.length) rs ts
 |_,_,_=>False
theorem RunsL.len:∀{b:Nat} {rs:List (List Nat)} {ts:List (Nat×Nat×Nat)},RunsL lt b rs ts->rs.length=ts.length/\rs.length<=rs.flatten.length
 |_,[],[],_=>⟨rfl,Ze _⟩
 |_,r::rs,t::ts,⟨_,_,h,_,_,k⟩=>by have:=RunsL.len k;rw[Zl,Zl,Yj,Zo];omega
theorem RunsL.snoc{r:List Nat}{x:Nat}(h0:0<r.length)(h1:r.Pairwise (Lx lt)):∀{b:Nat} {rs:List (List Nat)} {ts:List (Nat×Nat×Nat)},RunsL lt b rs ts->r.Perm (List.range' (b+rs.flatten.length) r.length)->RunsL lt b (rs++[r]) (ts++[(b+rs.flatten.length,r.length,x)])
 |_,[],[],_,hp=>⟨rfl,rfl,h0,h1,hp,trivial⟩
 |b,q::rs,t::ts,⟨e1,e2,e3,e4,e5,k⟩,hp=>by rw[Yj,Zo,<-Nat.add_assoc]at hp;have ih:=RunsL.snoc (x:=x) h0 h1 k hp;rw[Yj,Zo,<-Nat.add_assoc];exact⟨e1,e2,e3,e4,e5,ih⟩
theorem RunsL.pow{g:Nat×Nat×Nat->Nat×Nat×Nat}(hg:∀t,(g t).1=t.1/\(g t).2.1=t.2.1):∀(i:Nat) {b:Nat} {rs:List (List Nat)} {ts:List (Nat×Nat×Nat)},RunsL lt b rs ts->RunsL lt b rs (ts.modify i g)
 |_,_,[],[],_=>by rw[List.modify_nil];trivial
 |0,_,r::rs,t::ts,⟨e1,e2,e3,e4,e5,k⟩=>by rw[List.modify_zero_cons];exact⟨(hg t).1.trans e1,(hg t).2.trans e2,e3,e4,e5,k⟩
 |i+1,_,r::rs,t::ts,⟨e1,e2,e3,e4,e5,k⟩=>by rw[List.modify_succ_cons];exact⟨e1,e2,e3,e4,e5,RunsL.pow hg i k⟩
theorem RunsL.two:∀(i:Nat) {b:Nat} {rs:List (List Nat)} {ts:List (Nat×Nat×Nat)},RunsL lt b rs ts->i+1<ts.length->∃rs1 X Y rs2 pw pw2,rs=rs1++X::Y::rs2/\0<X.length/\0<Y.length/\X.Pairwise (Lx lt)/\Y.Pairwise (Lx lt)/\(∀x∈X,∀y∈Y,x<y) /\
  ts[i]?=some (b+rs1.flatten.length,X.length,pw)/\ts[i+1]?=some (b+rs1.flatten.length+X.length,Y.length,pw2) /\
  ∀W:List Nat,W.Pairwise (Lx lt)->W.Perm (X++Y)->RunsL lt b (rs1++W::rs2) ((ts.set i (b+rs1.flatten.length,X.length+Y.length,pw)).eraseIdx (i+1))
 |_,_,[],[],_,h=>absurd h (by simp)
 |0,b,X::[],t::[],_,h=>absurd h (by simp)
 |0,b,X::[],t::t2::ts,⟨_,_,_,_,_,k⟩,h=>k.elim
 |0,b,X::Y::rs,t::[],⟨_,_,_,_,_,k⟩,h=>k.elim
 |0,b,X::Y::rs,t::t2::ts,⟨e1,e2,e3,e4,e5,f1,f2,f3,f4,f5,k⟩,h=>by
  refine⟨[],X,Y,rs,t.2.2,t2.2.2,rfl,e3,f3,e4,f4,fun x hx y hy=>?_,?_,?_,fun W hw hp=>?_⟩
  ·have a1:=e5.mem_iff.mp hx;have a2:=f5.mem_iff.mp hy;rw[List.mem_range'_1]at a1 a2;omega
  ·show some t=some (b,X.length,t.2.2);rw[<-e1,<-e2]
  ·show some t2=some (b+X.length,Y.length,t2.2.2);rw[<-f1,<-f2]
  ·have hl:W.length=X.length+Y.length:=by rw[hp.length_eq,Zo]
   refine⟨rfl,hl.symm,by omega,hw,?_,?_⟩
   ·refine hp.trans ((e5.append f5).trans ?_);have:=List.range'_append (s:=b) (m:=X.length) (n:=Y.length) (step:=1);rw[Nat.one_mul]at this;rw[this,hl]
   ·rw[hl,<-Nat.add_assoc];exact k
 |i+1,b,r::rs,t::ts,⟨e1,e2,e3,e4,e5,k⟩,h=>by
  obtain⟨rs1,X,Y,rs2,pw,pw2,rfl,g1,g2,g3,g4,g5,g6,g7,g8⟩:=RunsL.two i k (by simpa using h);have el:b+(r::rs1).flatten.length=b+r.length+rs1.flatten.length:=by rw[Yj,Zo,Nat.add_assoc]
  refine⟨r::rs1,X,Y,rs2,pw,pw2,rfl,g1,g2,g3,g4,g5,?_,?_,fun W hw hp=>?_⟩
  ·rw[List.getElem?_cons_succ,el];exact g6
  ·rw[List.getElem?_cons_succ,el];exact g7
  ·rw[el,List.set_cons_succ,List.eraseIdx_cons_succ];exact⟨e1,e2,e3,e4,e5,g8 W hw hp⟩
variable{prog:Program}{w:World}{A:Around}{E:Value->Shared->Prop}{s:Shared}{κ:SortKind}{it:Array Keyed}{N:Nat}{st:SortSt}
structure RI(κ:SortKind)(it:Array Keyed)(lt:Nat->Nat->Bool)(N lo:Nat)(T:List Nat)(p:Array Nat)(rs:List (List Nat))(st:SortSt):Prop where
 hk:kindOf st=κ
 hf:failedOf st=none
 ha:arrOf st=p.map (kas_item it)
 hp:p.toList=rs.flatten++T
 pm:p.toList.Perm (List.range N)
 rl:RunsL lt 0 rs (pendingOf st).toList
 hl:rs.flatten.length=lo
theorem xF(Z:Zc prog w A s κ it lt N)(O:LtOk lt){lo i:Nat}{T:List Nat}{p:Array Nat}{rs:List (List Nat)}(R:RI κ it lt N lo T p rs st)(hi:i+1<(pendingOf st).size){Q:Bool->SortSt->Prop}(h:∀st' p' rs',RI κ it lt N lo T p' rs' st'->(pendingOf st').size+1=(pendingOf st).size->Q true st'):wpS (model prog w) A E s (mergeAt' i) Q st:=by
 obtain⟨rs1,X,Y,rs2,pw,pw2,e0,g1,g2,g3,g4,g5,g6,g7,g8⟩:=R.rl.two i (by rw[Zt];exact hi);rw[Nat.zero_add]at g6 g7 g8;rw[Array.getElem?_toList]at g6 g7;refine Df Z O (pre:=rs1.flatten) (X:=X) (Y:=Y) (post:=rs2.flatten++T) R.hk R.hf R.ha ?_ g3 g4 g1 g2 g5 (fun x hx=>Yr.mp (R.pm.mem_iff.mp hx)) g6 g7 fun st' p' W j1 j2 j3 j4 j5 j6 j7=>?_
 ·rw[R.hp,e0];simp
 ·refine h st' p' (rs1++W::rs2) ⟨j1,j2,j3,?_,?_,?_,?_⟩ ?_
  ·rw[j4];simp
  ·refine List.Perm.trans ?_ R.pm;rw[j4,R.hp,e0];have:(rs1.flatten++(W++(rs2.flatten++T))).Perm (rs1.flatten++((X++Y)++(rs2.flatten++T))):=(j6.append_right _).append_left _;refine this.trans (List.Perm.of_eq ?_);simp
  ·rw[j7];have:=g8 W j5 j6;rw[Array.eraseIdxIfInBounds,dif_pos (by rw[Array.size_setIfInBounds];exact hi),Array.toList_eraseIdx,Array.toList_setIfInBounds];exact this
  ·rw[<-R.hl,e0];have:=j6.length_eq;rw[Zo]at this;simp;omega
  ·rw[j7,Array.eraseIdxIfInBounds,dif_pos (by rw[Array.size_setIfInBounds];exact hi),Array.size_eraseIdx,Array.size_setIfInBounds];omega
theorem Ar(O:LtOk lt)(lo:Nat):LtOk (ltS lt lo):=⟨fun h=>O.as h,fun h k=>O.tr h k⟩
theorem uX{n:Nat}(hn:1<=n):Fx n (List.toArray (List.range n)) 1:=by
 have g:∀k,k<n->gA (List.toArray (List.range n)) k=k:=fun k hk=>by rw[fP];simp[hk]
 refine⟨by simp,fun k _ hk=>g k hk,fun i hi=>?_⟩;have e:i=0:=by omega
 subst e;rw[g 0 (by omega)];decide
theorem BC{n m lo:Nat}{u pre:Array Nat}(hpre:pre.size=lo)(hu:POk n u)(F:Fx n u m)(S:LS (ltS lt lo) u m)(hm:m<=n):∃r:List Nat,r.length=m/\r.Pairwise (Lx lt)/\r.Perm (List.range' lo m)/\(pj pre u).toList=pre.toList++(r++List.range' (lo+m) (n-m)):=by
 have hz:u.toList.length=n:=by rw[Zt];exact F.sz
 have ed:u.toList.drop m=List.range' m (n-m):=by
  apply List.ext_getElem
  ·rw[Z9,List.length_range',hz]
  ·intro i h1 h2;rw[Z9,hz]at h1;rw[List.getElem_drop,List.getElem_range'];have:=F.hi (m+i) (by omega) (by omega);rw[aB,Zg,Zf (by omega)]at this;rw[Nat.one_mul];exact this
 have ep:u.toList.Perm (List.range n):=by have:=Array.perm_iff_toList_perm.mp hu;simpa using this
 have er:List.range n=List.range m++List.range' m (n-m):=by rw[List.range_eq_range',List.range_eq_range'];have:=List.range'_append (s:=0) (m:=m) (n:=n-m) (step:=1);rw[Nat.one_mul,Nat.zero_add]at this;rw[this];congr 1;omega
 have pt:(u.toList.take m).Perm (List.range m):=by have e:=ZR m u.toList;rw[ed]at e;rw[<-e,er]at ep;exact(List.perm_append_right_iff _).mp ep
 refine⟨(u.toList.take m).map (lo+·),by rw[Zh,ZL];omega,?_,?_,?_⟩
 ·rw[List.pairwise_map];have hS:(u.toList.take m).Pairwise (Lx (ltS lt lo)):=by rw[Z1];intro i j hi hj hij;rw[ZL]at hi hj;have:=S i j hij (by omega);rw[aB,aB,Zg,Zg,Zf (by omega),Zf (by omega)]at this;rw[List.getElem_take,List.getElem_take];exact this
  refine hS.imp fun{a b} hab=>⟨hab.1,?_⟩
  rcases hab.2 with x|x
  ·exact .inl x
  ·exact .inr (by omega)
 ·rw[List.range'_eq_map_range];exact pt.map _
 ·unfold pj;rw[ZF,Array.toList_map,hpre];congr 1;have e:=ZR m u.toList;rw[ed]at e
  conv=>lhs;rw[<-e]
  rw[ZU];congr 1;rw[List.range'_eq_map_range,List.range'_eq_map_range,List.map_map];apply List.map_congr_left;intro x _;show lo+(m+x)=lo+m+x;omega
end
open PySem PyProof.Rows PySem.W
section
variable{lt:Nat->Nat->Bool}{prog:Program}{w:World}{A:Around}{E:Value->Shared->Prop}{s:Shared}{κ:SortKind}{it:Array Keyed}{N:Nat}{st:SortSt}
theorem B6(Z:Zc prog w A s κ it lt N)(O:LtOk lt){lo mr:Nat}{p:Array Nat}{rs:List (List Nat)}(R:RI κ it lt N lo (List.range' lo (N - lo)) p rs st)(hlo:lo<N){β:Type}{g:Nat->StateT SortSt Sem β}{Q:β->SortSt->Prop}(h:∀ (m:Nat) (r:List Nat) (p':Array Nat) (st':SortSt),1<=m->lo+m<=N->r.length=m->r.Pairwise (Lx lt)->r.Perm (List.range' lo m)->RI κ it lt N lo (r++List.range' (lo+m) (N - (lo+m))) p' rs st'->pendingOf st'=pendingOf st->wpS (model prog w) A E s (g m) Q st'){bad:StateT SortSt Sem β}{k:Option Nat->StateT SortSt Sem β}(hk:∀ m,k (some m)=(if m<mr then do
    liftM (rule "list.sort.binary-insertion")
    let ok ←binarySort' lo (min (N-lo) mr) m
    if(!ok)=true then bad else g (min (N-lo) mr)
   else g m)):wpS (model prog w) A E s (countRun' lo (N - lo) >>= k) Q st:=by
 have hl:=R.hl;have O':LtOk (ltS lt (List.toArray rs.flatten).size):=Ar O _;have n0:1<=N-lo:=by omega
 have hz:(List.toArray rs.flatten).size=lo:=by rw[Zj];exact hl
 have pu:POk (N-lo) (List.toArray (List.range (N-lo))):=Array.Perm.refl _;have P:Zp prog w A s κ it lt N st (List.toArray rs.flatten) (N-lo):=⟨Z,R.hk,by omega,by omega⟩
 have ep:p=pj (List.toArray rs.flatten) (List.toArray (List.range (N-lo))):=by apply Array.toList_inj.mp;rw[R.hp];unfold pj;rw[ZF,Array.toList_map,YM,YM,hz,List.range'_eq_map_range]
 have est:st=stQ it st (pj (List.toArray rs.flatten) (List.toArray (List.range (N-lo)))):=by unfold stQ;rw[<-ep,<-R.ha]
 have fin:∀(m:Nat) (u':Array Nat),POk (N-lo) u'->1<=m->m<=N-lo->Fx (N-lo) u' m->LS (ltS lt (List.toArray rs.flatten).size) u' m->wpS (model prog w) A E s (g m) Q (stQ it st (pj (List.toArray rs.flatten) u')):=fun m u' hu h1 h2 h3 h4=>by
  rw[hz]at h4;obtain⟨r,r1,r2,r3,r4⟩:=BC hz hu h3 h4 h2;refine h m r (pj (List.toArray rs.flatten) u') _ h1 (by omega) r1 r2 r3 ⟨R.hk,R.hf,rfl,?_,?_,R.rl,hl⟩ rfl
  ·rw[r4,YM,show N-(lo+m)=N-lo-m by omega]
  ·refine List.Perm.trans ?_ R.pm;rw[r4,R.hp,YM];refine List.Perm.append_left _ ?_;refine(r3.append_right _).trans (List.Perm.of_eq ?_);have:=List.range'_append (s:=lo) (m:=m) (n:=N-lo-m) (step:=1);rw[Nat.one_mul]at this;rw[this];congr 1;omega
 have kc:=vh O' (N:=N-lo) (p:=List.toArray (List.range (N-lo))) n0 (uX n0);rw[est];have zc:=zw (E:=E) (Q:=fun r st'=>wpS (model prog w) A E s (k r) Q st') P pu kc fun m u' hu h1 h2 hG=>by
  obtain⟨g1,g2,g3,g4⟩:=hG;rw[hk];refine ax (fun c=>?_) fun c=>?_
  ·refine Zi (wpS_lift (YF ⟨rfl,?_⟩));have em:max m 1=m:=by omega
   have kb:=pf O' (N:=N-lo) (min (N-lo) mr-max m 1) (p:=u') (k:=max m 1) (by omega) (by omega) (by rw[em];exact g3) (by rw[em];exact g4);have zb:=CT (E:=E) (nf:=min (N-lo) mr) (ok:=m) (Q:=fun r st'=>wpS (model prog w) A E s (if(!r)=true then bad else g (min (N-lo) mr)) Q st') P hu (by omega) kb fun u2 hu2 hG2=>by
    rw[if_neg (by simp)];have e2:max m 1+(min (N-lo) mr-max m 1)=min (N-lo) mr:=by omega
    rw[e2]at hG2;exact fin _ u2 hu2 (by omega) (by omega) hG2.1 hG2.2
   rw[hz]at zb;exact Zi zb
  ·exact fin m u' hu h1 h2 g3 g4
 rw[hz]at zc;exact Zi zc
def ng(N pw:Nat):StateT SortSt Sem (Option Unit×Unit):=forIn [0:N] ((none,()):Option Unit×Unit) fun _ _=>do
 let st ←get
 match(if(pendingOf st).size>1 then(pendingOf st)[(pendingOf st).size-2]? else none)with
 |some (_,_,old)=>if old<=pw then pure (.done (none,()))else do
  let ok ←mergeAt' ((pendingOf st).size-2)
  if(!ok)=true then pure (.done (some (),()))else pure (.yield (none,()))
 |_=>pure (.done (none,()))
def nq(N lo n:Nat):StateT SortSt Sem (ForInStep (Option Unit×Nat)):=do
 let st ←get
 match(pendingOf st).back? with
 |some (s1,n1,_)=>do
  let c ←ng N (power' N (2*s1+n1) (2*s1+n1+n1+n) N)
  match c.1 with
  |some r=>pure (.done (some r,lo))
  |none=>do
   modify fun st=>setPending st ((pendingOf st).modify ((pendingOf st).size-1) fun t=>(t.1,t.2.1,power' N (2*s1+n1) (2*s1+n1+n1+n) N))
   modify fun st=>setPending st ((pendingOf st).push (lo,n,0))
   pure (.yield (none,lo+n))
 |_=>do
  modify fun st=>setPending st ((pendingOf st).push (lo,n,0))
  pure (.yield (none,lo+n))
theorem CU(Z:Zc prog w A s κ it lt N)(O:LtOk lt){lo pw:Nat}{T:List Nat}{p:Array Nat}{rs:List (List Nat)}(R:RI κ it lt N lo T p rs st){Q:Option Unit×Unit->SortSt->Prop}(h:∀st' p' rs',RI κ it lt N lo T p' rs' st'->Q (none,()) st'):wpS (model prog w) A E s (ng N pw) Q st:=by
 unfold ng;refine Z4 (I:=fun _ c st'=>c=(none,())/\∃p' rs',RI κ it lt N lo T p' rs' st') ?_ ?_ ⟨rfl,p,rs,R⟩
 ·rintro x c st' _ _ ⟨rfl,p',rs',R'⟩;refine Zi (wpS_get ?_);by_cases hs:(pendingOf st').size>1
  ·rw[if_pos hs];have e:(pendingOf st')[(pendingOf st').size-2]?=some ((pendingOf st')[(pendingOf st').size-2]'(by omega)):=Array.getElem?_eq_getElem (by omega);rw[e];refine ax (fun _=>Zk (h st' p' rs' R')) fun _=>?_;refine Zi (xF Z O R' (by omega) fun st2 p2 rs2 R2 _=>?_);refine ax (fun z=>absurd z (by simp)) fun _=>Zk ⟨rfl,p2,rs2,R2⟩
  ·rw[if_neg hs];exact Zk (h st' p' rs' R')
 ·rintro c st' ⟨rfl,p',rs',R'⟩;exact h st' p' rs' R'
theorem RI.push{lo m:Nat}{r:List Nat}{p:Array Nat}{rs:List (List Nat)}{T:List Nat}(R:RI κ it lt N lo (r++T) p rs st)(h1:1<=m)(hr:r.length=m)(hw:r.Pairwise (Lx lt))(hp:r.Perm (List.range' lo m)):RI κ it lt N (lo+m) T p (rs++[r]) (setPending st ((pendingOf st).push (lo,m,0))):=by
 have hl:=R.hl;refine⟨R.hk,R.hf,R.ha,?_,R.pm,?_,?_⟩
 ·rw[R.hp];simp
 ·show RunsL lt 0 (rs++[r]) ((pendingOf st).push (lo,m,0)).toList;rw[Array.toList_push];have:=R.rl.snoc (r:=r) (x:=0) (by omega) hw (by rw[Nat.zero_add,hl,hr];exact hp);rw[Nat.zero_add,hl,hr]at this;exact this
 ·simp;rw[<-List.length_flatten,hl,hr]
theorem CW(Z:Zc prog w A s κ it lt N)(O:LtOk lt){lo m:Nat}{r:List Nat}{p:Array Nat}{rs:List (List Nat)}{T:List Nat}(R:RI κ it lt N lo (r++T) p rs st)(h1:1<=m)(hr:r.length=m)(hw:r.Pairwise (Lx lt))(hp:r.Perm (List.range' lo m)){Q:ForInStep (Option Unit×Nat)->SortSt->Prop}(h:∀st' p' rs',RI κ it lt N (lo+m) T p' rs' st'->Q (.yield (none,lo+m)) st'):wpS (model prog w) A E s (nq N lo m) Q st:=by
 unfold nq;refine Zi (wpS_get ?_);cases hb:(pendingOf st).back? with
 |none=>exact Zi (wpS_modify (Zk (h _ _ _ (R.push h1 hr hw hp))))
 |some t =>obtain⟨s1,n1,o1⟩:=t;refine Zi (CU Z O R fun st' p' rs' R'=>?_);refine Zi (wpS_modify (Zi (wpS_modify (Zk (h _ p' (rs'++[r]) (RI.push (st:=setPending st' ((pendingOf st').modify ((pendingOf st').size-1) fun t=>(t.1,t.2.1,power' N (2*s1+n1) (2*s1+n1+n1+m) N))) ⟨R'.hk,R'.hf,R'.ha,R'.hp,R'.pm,?_,R'.hl⟩ h1 hr hw hp))))));show RunsL lt 0 rs' ((pendingOf st').modify ((pendingOf st').size-1) _).toList;rw[Array.toList_modify];exact R'.rl.pow (g:=fun t=>(t.1,t.2.1,power' N (2*s1+n1) (2*s1+n1+n1+m) N)) (fun t=>⟨rfl,rfl⟩) _
theorem B7(Z:Zc prog w A s κ it lt N)(O:LtOk lt)(h1:1<=N){Q:Unit->SortSt->Prop}(h:∀(p:Array Nat) (st':SortSt),POk N p->LS lt p N->p.size=N->arrOf st'=p.map (kas_item it)->failedOf st'=none->Q () st') :
  wpS (model prog w) A E s sortRuns' Q (SortSt.mk' κ ((List.toArray (List.range N)).map (kas_item it)) #[] 7 none):=by
 rw[sortRuns'_eq];refine Zi (wpS_get ?_);have esz:(arrOf (SortSt.mk' κ ((List.toArray (List.range N)).map (kas_item it)) #[] 7 none)).size=N:=by show((List.toArray (List.range N)).map (kas_item it)).size=N;simp
 rw[esz];have R0:RI κ it lt N 0 (List.range' 0 (N-0)) (List.toArray (List.range N)) [] (SortSt.mk' κ ((List.toArray (List.range N)).map (kas_item it)) #[] 7 none):=by refine⟨rfl,rfl,rfl,?_,List.Perm.refl _,trivial,rfl⟩;rw[YM,List.range_eq_range',Nat.sub_zero];rfl
 refine Zi (y9 (Z4 (I:=fun x c st'=>∃ lo p rs,c=(none,lo)/\RI κ it lt N lo (List.range' lo (N - lo)) p rs st'/\lo<=N/\x<=lo)
  (Q:=fun c st'=>c=(none,N)/\∃ p rs,RI κ it lt N N [] p rs st') ?step ?fin ⟨0,_,_,rfl,R0,by omega,Ze _⟩) ?post)
 case fin =>
  rintro c st' ⟨lo,p,rs,rfl,R,h2,h3⟩;have e:lo=N:=by omega
  subst e;refine⟨rfl,p,rs,?_⟩;rw[Nat.sub_self]at R;exact R
 case step =>
  rintro x c st' _ hx ⟨lo,p,rs,rfl,R,h2,h3⟩;dsimp -zeta only;refine ax (fun hge=>?_) fun hge=>?_
  ·have e:lo=N:=by omega
   subst e;rw[Nat.sub_self]at R;exact Zk ⟨rfl,p,rs,R⟩
  refine B6 Z O R (by omega) (g:=nq N lo) (mr:=minRun' N N 0) (bad:=pure (ForInStep.done (some (),lo))) (fun m r p' st2 m1 m2 r1 r2 r3 R2 _=>?_) (fun m=>by kernel_rfl);exact CW Z O R2 m1 r1 r2 r3 fun st3 p3 rs3 R3=>⟨lo+m,p3,rs3,rfl,R3,m2,by omega⟩
 case post =>
  rintro c st' ⟨rfl,p,rs,R⟩;dsimp only;have hle:∀{c:Prop} [Decidable c] (x:Nat),(if c then x-1 else x)<=x:=fun x=>by split<;>omega
  have hsz:(pendingOf st').size<=N:=by obtain⟨q1,q2⟩:=R.rl.len;have q3:(pendingOf st').toList.length=(pendingOf st').size:=Zt;have q4:=R.hl;omega
  refine Zi (y9 (Z4 (I:=fun x c st'=>c=(none,())/\(∃ p rs,RI κ it lt N N [] p rs st')/\((pendingOf st').size+x<=N\/(pendingOf st').size<=1))
   (Q:=fun c st'=>c=(none,())/\(∃ p rs,RI κ it lt N N [] p rs st')/\(pendingOf st').size<=1) ?step2 ?fin2 ⟨rfl,⟨p,rs,R⟩,.inl hsz⟩) ?post2)
  case fin2 =>rintro c st2 ⟨rfl,hR,h2⟩;exact⟨rfl,hR,by omega⟩
  case step2 =>
   rintro x c st2 _ hx ⟨rfl,⟨p2,rs2,R2⟩,h2⟩;refine Zi (wpS_get ?_);refine ax (fun hge=>Zk ⟨rfl,⟨p2,rs2,R2⟩,hge⟩) fun hge=>?_;refine Zi (xF Z O R2 ?_ fun st3 p3 rs3 R3 e3=>?_)
   ·exact Nat.lt_of_le_of_lt (Nat.add_le_add_right (hle _) 1) (by omega)
   ·refine ax (fun z=>absurd z (by simp)) fun _=>Zk ⟨rfl,⟨p3,rs3,R3⟩,by omega⟩
  case post2 =>
   rintro c st2 ⟨rfl,⟨p2,rs2,R2⟩,h2⟩;have ln:=R2.rl.len;rw[Zt]at ln;have hl:=R2.hl;have hp:=R2.hp;have rl:=R2.rl
   match rs2,hl,hp,rl,ln with
   | [],hl,_,_,_=>exact absurd hl (by simp;omega)
   |r::r2::rs3,_,_,_,ln=>exact absurd ln.1 (by simp;omega)
   | [r],hl,hp,rl,_ =>
    rw[ZJ,List.flatten_singleton]at hp
    match hpl:(pendingOf st2).toList,rl with
    | [],rl=>exact rl.elim
    |t::ts,⟨_,_,_,pw,_,_⟩ =>
     have hz:p2.size=N:=by rw[<-Zt,R2.pm.length_eq,ZZ]
     refine Zk (h p2 st2 (Array.perm_iff_toList_perm.mpr (by simpa using R2.pm)) (fun i j hij hj=>qS (by rw[hp];exact pw) i j hij (by omega)) hz R2.ha R2.hf)
end
open PySem PySem.Spec PyProof.Rows PySem.W
theorem cO{n:Nat}(h:n<=4096):n<=sizeLine:=by rw[sizeLine_eq];omega
section
variable{prog:Program}{w:World}{A:Around}{E:Value->Shared->Prop}{s:Shared}{h₀:Heap}{L a kS:Addr}{m:Str->Option Value}{news:List (Addr×Obj)}{vs ks:List Value}
theorem ka{Q:List Value->Shared->Prop}{r:Addr}{lo hi:Int}{t u v:Tok}{n:Nat}(hh:A.handled=none)(hr:IsRange s.heap r lo hi 1 t u v)(hsmall:Builtin.Range.small lo hi 1=true)(hn:Builtin.Range.rangeSize lo hi 1=n)(hlen:n<=2^24)(h:∀h' tk acc,(∀b o,s.heap.get? b=some o->h'.get? b=some o)->ItemsOf (fun i v=>∃t,v=.int (lo+i*1) t) acc n->Q acc.toList { s with heap:=h',toks:=tk }):wpAny (model prog w) A (collect (.ref r)) Q E s:=by
 unfold collect;refine Za (wpAny_runValue (codeAny_builtin F.entry_proto_collect ?_));rw[Around.under_plainId F.plain_proto_collect _];show wpAny _ A.in1 (newList [] >>= fun q=>again (.builtin "list.__iadd__" ⟨[q,.ref r],[]⟩)) _ _ s;refine Za (ZY (Zd ⟨plainId_quiet F.plain_list_iadd _,codeAny_builtin F.entry_list_iadd ?_⟩));rw[Around.under_plainId F.plain_list_iadd _];show wpAny _ A.in1 (Builtin.List.listExtendWith (.ref s.heap.objs.size) (.ref r) (.ref s.heap.objs.size)) _ _ _;refine wpAny_extend_range (A:=A) (R:=fun r s'=>match r with
  | .ok (.ret v)=>wpAny (model prog w) A (match v with
   |.ref a=>do
    let o ←load a
    match o.data with
    |.seq xs _=>pure xs.toList
    |_=>unsupported "internal:collect"
   | _=>unsupported "internal:collect") Q E s'
  |.ok _=>False
  | .error e=>E e s') (s:={ s with heap:=s.heap.push { cls:=.type "list",data:=.seq ([]:List Value).toArray } }) hh (Zb _ hr) hsmall hn hlen s.heap.objs.size _ 0 (Zr _ rfl) fun h' tk acc c hk hS hacc=>?_
 show wpAny _ A (load s.heap.objs.size >>= _) _ _ _;refine Za (wpAny_load hS (Zd ?_));exact h h' tk acc (fun b o e=>hk b o (ZA (Zm e)) (Zb _ e)) hacc
def ZGo(prog:Program)(w:World)(A:Around)(b:Bool)(ks vs:List Value)(F:List Value->Shared->Prop)(κ:SortKind)(s:Shared):Prop :=
 ∃lt:Nat->Nat->Bool,LtOk lt/\(∀i j (C:Bool->Shared->Prop),i<vs.length->j<vs.length->C (lt i j) s->kas_ask prog w A κ (katRev b ks) i j C s) /\
  ∀p:Array Nat,POk vs.length p->LS lt p vs.length->F (katRev b (p.toList.map fun i=>(katRev b vs).getD i Value.none)) s
def qh(prog:Program)(w:World)(A:Around)(b:Bool)(ks vs:List Value)(F:List Value->Shared->Prop)(s:Shared):Prop :=
 (2<=vs.length->wpAny (model prog w) A (keyKind' (List.toArray ks)) (ZGo prog w A b ks vs F) (fun _ _=>False) s)/\(vs.length<2->F (katRev b ((List.range vs.length).map fun i=>(katRev b vs).getD i Value.none)) s)
theorem pY{b:Bool}{st:SortSt}{e e1:Nat}{out:List Value}{P:PySem.Fin->Shared->Prop}(ho:(arrOf st).map (·.2)=List.toArray out)(hz:out.length<=4096)(hq:ks.length<=4096)(hf:failedOf st=none)(h:KatFin h₀ L m kS a ks e e1 (katRev b out) (fun s'=>P (.done (.ret .none)) s') s):wpAny (model prog w) A (ksk_tail a b e1 (.ref kS) st) P E s:=by
 obtain⟨nw,g,Fq,Nq,Uq,kq⟩:=h;obtain⟨l1,l2,e0,hg,x1,x2⟩:=Uq.split;rw[e0]at Nq;have ak:=Nq (kS,seqObj "list" (List.toArray ks) e) (ZE _ (.head _));have s1:=Z5 s.heap kS (Obj.mapSeq fun _=>(#[]:Array Value));obtain⟨ck,hck⟩:∃z,(s.heap.update kS (Obj.mapSeq fun _=>(#[]:Array Value))).get? kS=some (seqObj "list" #[] z):=⟨_,get?_update_seq ak.1 fun _=>#[]⟩
 have K2:=kq _ ck (kas_fr Fq s1 ak.2.1 ak.2.2) (by rw[hg];exact news_set Nq x1 x2 s1 hck);obtain⟨nw2,g2,F2,N2,U2,k2⟩:=K2;obtain⟨m1,m2,e2,hg2,y1,y2⟩:=U2.split;rw[e2]at N2;have aa:=N2 (a,seqObj "list" #[] e1) (ZE _ (.head _));have s2:=Z5 (s.heap.update kS (Obj.mapSeq fun _=>(#[]:Array Value))) a (Obj.mapSeq fun _=>List.toArray (katRev b out));have hsz:(List.toArray (katRev b out)).size=out.length:=by rw[Zj,kat_len]
 obtain⟨c2,hc2⟩:∃z,((s.heap.update kS (Obj.mapSeq fun _=>(#[]:Array Value))).update a (Obj.mapSeq fun _=>List.toArray (katRev b out))).get? a=some (seqObj "list" (List.toArray (katRev b out)) z):=⟨_,get?_update_seq aa.1 fun _=>List.toArray (katRev b out)⟩
 unfold ksk_tail;dsimp only;rw[ho,kat_outs];refine Za (listUpdate_at ak.1 rfl (Za (wpAny_letGo (Za (seqEpoch_at aa.1 rfl (Za (listUpdate_at aa.1 rfl ?_ (ZP _) (ZC (Nat.le_of_eq hsz) (Nat.le_succ_of_le (cO hz))))))))) (by rw[Zj];exact cO hq) (ZP _));rw[hf];simp only[bne_self_eq_false,YA,if_false];refine Zd (k2 _ c2 (kas_fr F2 s2 aa.2.1 aa.2.2) ?_);rw[hg2];exact news_set N2 y1 y2 s2 hc2
theorem B8{b:Bool}{e e1:Nat}{P:PySem.Fin->Shared->Prop}(hl:ks.length=vs.length)(hz:vs.length<=4096)(h:qh prog w A b ks vs (fun out=>KatFin h₀ L m kS a ks e e1 out (fun s3=>P (.done (.ret .none)) s3)) s) :
  wpAny (model prog w) A (ksk_end a b vs.toArray e1 (.ref kS) (List.toArray ks)) P E s:=by
 have lr:(katRev b ks).length=(katRev b vs).length:=by rw[kat_len,kat_len,hl]
 have lv:(katRev b vs).length=vs.length:=kat_len b vs;have step:∀t:Sem PySem.Fin,wpAny (model prog w) A t P E s->wpAny (model prog w) A (if b=true then(do let _ ←rule "list.sort.reverse";t)else t) P E s:=by
  intro t ht;split
  ·exact Za (YF ht)
  ·exact ht
 unfold ksk_end;dsimp only;refine step _ ?_;have er:∀κ,SortSt.mk' κ ((List.toArray (katRev b ks)).zip (List.toArray (katRev b vs))) #[] 7 none=SortSt.mk' κ ((List.toArray (List.range vs.length)).map (kas_item ((List.toArray (katRev b ks)).zip (List.toArray (katRev b vs))))) #[] 7 none:=fun κ=>by have e:=kas_range ((List.toArray (katRev b ks)).zip (List.toArray (katRev b vs)));rw[show((List.toArray (katRev b ks)).zip (List.toArray (katRev b vs))).size=vs.length by simp[lr,lv]]at e;rw[e]
 rw[kat_pairs b hl];by_cases n2:vs.toArray.size<2
 ·rw[if_pos n2,if_pos n2];have n2':vs.length<2:=by simpa using n2
  refine Za (Zd ?_);rw[er,StateT.run_pure];refine Za (Zd ?_);dsimp only;exact pY (kat_snds lr (p:=List.toArray (List.range vs.length)) rfl) (by simpa using hz) (by omega) rfl (h.2 n2')
 rw[if_neg n2,if_neg n2];have n3:2<=vs.length:=by rw[Zj]at n2;omega
 refine Za (ZG (h.1 n3) (fun κ s0 hg=>?_) fun _ _ x=>x.elim);obtain⟨lt,O,ask,fin⟩:=hg;have Z:Zc prog w A s0 κ ((List.toArray (katRev b ks)).zip (List.toArray (katRev b vs))) lt vs.length:=fun i j C hi hj hC=>by have:=ask i j C hi hj hC;rw[kat_ask_eq lr]at this;exact this
 rw[er];refine Za (ZG (B7 (E:=E) (Q:=fun _ st'=>∃p:Array Nat,POk vs.length p/\LS lt p vs.length/\p.size=vs.length/\arrOf st'=p.map (kas_item ((List.toArray (katRev b ks)).zip (List.toArray (katRev b vs))))/\failedOf st'=none) Z O (by omega) fun p st' a1 a2 a3 a4 a5=>⟨p,a1,a2,a3,a4,a5⟩) ?_ fun _ _ x=>x);rintro⟨⟨⟩,st'⟩ s' ⟨rfl,p,a1,a2,a3,a4,a5⟩;dsimp only;exact pY (kat_snds lr a4) (by rw[Zh,Zt,a3];exact hz) (by omega) a5 (fin p a1 a2)
theorem pX{f:Value}{Fin:List Value->Nat->Shared->Prop}{n:Nat}{body:Value->PUnit->Sem (ForInStep PUnit)}(hn:n<=4096)(hb:∀ x ks e (s:Shared) (C:Value->Nat->Shared->Prop),List.length ks<4096->wpAny (model prog w) A (call f [x]) (KatBack h₀ L m kS ks e C) (fun _ _=>False) s ->
   wpAny (model prog w) A (body x ⟨⟩) (fun r s'=>r=.yield ⟨⟩/\∃ k c,s'.heap.get? kS=some (seqObj "list" (List.toArray (ks++[k])) c)/\C k c s') E s):∀ (r qs:List Value) (e:Nat) (s:Shared),qs.length+r.length=n ->
   s.heap.get? kS=some (seqObj "list" (List.toArray qs) e)->KatKeys prog w A h₀ L m kS f Fin r qs e s ->
   wpAny (model prog w) A (forIn r PUnit.unit body) (fun _ s'=>∃qs e,s'.heap.get? kS=some (seqObj "list" (List.toArray qs) e)/\qs.length=n/\Fin qs e s') E s
 | [],qs,e,s,hl,hq,h=>by rw[List.forIn_nil];exact Zd ⟨qs,e,hq,by simpa using hl,h⟩
 |x::r,qs,e,s,hl,hq,h=>by rw[Zl]at hl;rw[List.forIn_cons];refine Za (ZG (hb x qs e s (fun k c s'=>KatKeys prog w A h₀ L m kS f Fin r (qs++[k]) c s') (by omega) h) (fun z s' hz=>?_) fun _ _ x=>x);obtain⟨rfl,k,c,hk',h2⟩:=hz;exact pX hn hb r (qs++[k]) c s' (by rw[Zo,Ye];omega) hk' h2
theorem zD{b:Bool}{f:Value}{e1:Nat}{P:PySem.Fin->Shared->Prop}(hq:s.heap.get? kS=some (seqObj "list" #[] 0))(hz:vs.length<=4096)(h:KatKeys prog w A h₀ L m kS f (fun ks e s'=>qh prog w A b ks vs (fun out=>KatFin h₀ L m kS a ks e e1 out (fun s3=>P (.done (.ret .none)) s3)) s') vs [] 0 s) :
  wpAny (model prog w) A (ksk_rest a f b vs.toArray e1 (.ref kS)) P E s:=by
 unfold ksk_rest;refine Za (YF ?_);rw[<-Array.forIn_toList];refine Za (ZG (pX hz (fun x qs e s' C hzz hx=>?_) vs [] 0 s (by simp) hq h) (fun _ s' hd=>?_) fun _ _ x=>x)
 ·refine Za (wpAny_attempt (ZG hx (fun k s2 hkk=>?_) fun _ _ hF=>hF.elim));obtain⟨nw,g,Fq,Nq,Uq,cq⟩:=hkk;obtain⟨l1,l2,e0,hg,x1,x2⟩:=Uq.split;rw[e0]at Nq;have ak:=Nq (kS,seqObj "list" (List.toArray qs) e) (ZE _ (.head _));have s1:=Z5 s2.heap kS (Obj.mapSeq (·.push k));have ea:(List.toArray qs).push k=List.toArray (qs++[k]):=by simp
  obtain⟨c2,hc2⟩:∃z,(s2.heap.update kS (Obj.mapSeq (·.push k))).get? kS=some (seqObj "list" (List.toArray (qs++[k])) z):=⟨_,by rw[<-ea];exact get?_update_seq ak.1 (·.push k)⟩
  dsimp only;refine Za (listUpdate_at ak.1 rfl (Zd ⟨rfl,k,c2,hc2,cq _ c2 (kas_fr Fq s1 ak.2.1 ak.2.2) (by rw[hg];exact news_set Nq x1 x2 s1 hc2)⟩) (by rw[Zj];exact cO (by omega)) (ZC (Nat.le_of_eq (Array.size_push ..)) (by rw[Zj];exact Nat.le_succ_of_le (cO (by omega)))))
 ·obtain⟨qs,e,hq',hl,fin⟩:=hd;exact Za (listItems_at hq' rfl (B8 hl hz fin))
theorem wH{b:Bool}{f:Value}{n:Nat}{P:PySem.Fin->Shared->Prop}(F:Fr h₀ L s.heap m)(N:News h₀ L s.heap news)(ho:s.heap.get? a=some (seqObj "list" vs.toArray n))(haL:a≠L)(ha0:h₀.get? a=none)(hna:∀ p∈news,p.1≠a)(hz:vs.length<=4096)(h:∀ kS e1 h',Fr h₀ L h' m->News h₀ L h' ((kS,seqObj "list" #[] 0)::(a,seqObj "list" #[] e1)::news)->a<kS->(∀ q∈news,q.1<kS) ->
   KatKeys prog w A h₀ L m kS f (fun ks e s'=>qh prog w A b ks vs (fun out=>KatFin h₀ L m kS a ks e e1 out (fun s3=>P (.done (.ret .none)) s3)) s') vs [] 0 { s with heap:=h' }) :
  wpAny (model prog w) A (ksk_tree a f b) P E s:=by
 have la:a<s.heap.objs.size:=Zm ho;have s1:=Z5 s.heap a (Obj.mapSeq fun _=>(#[]:Array Value));have F1:=kas_fr F s1 haL ha0;have N1:=kas_news N s1 hna;obtain⟨e1,ho1⟩:∃z,(s.heap.update a (Obj.mapSeq fun _=>(#[]:Array Value))).get? a=some (seqObj "list" #[] z):=⟨_,get?_update_seq ho fun _=>#[]⟩
 have zk:((s.heap.update a (Obj.mapSeq fun _=>(#[]:Array Value))).push (seqObj "tuple" vs.toArray 0)).objs.size=s.heap.objs.size+1:=by rw[size_push',Heap.size_update]
 have lk:L<((s.heap.update a (Obj.mapSeq fun _=>(#[]:Array Value))).push (seqObj "tuple" vs.toArray 0)).objs.size:=(F1.push _).ns.lt;unfold ksk_tree;refine Za (listItems_at ho rfl (Za (listUpdate_at ho rfl (Za (seqEpoch_at ho1 rfl (Za (wpAny_newTuple (Za (wpAny_newList (ZV ?_) (ZP _))) (cO hz))))) (by rw[Zj];exact cO hz) (ZP _))));refine zD (s:={ s with heap:=((s.heap.update a (Obj.mapSeq fun _=>(#[]:Array Value))).push (seqObj "tuple" vs.toArray 0)).push (seqObj "list" #[] 0) }) (kS:=((s.heap.update a (Obj.mapSeq fun _=>(#[]:Array Value))).push (seqObj "tuple" vs.toArray 0)).objs.size)
  (Zr _ rfl) hz (h _ e1 _ ((F1.push _).push _) (fun p hp=>?_) (by rw[zk];exact Nat.lt_succ_of_lt la) fun q hq=>by rw[zk];exact Nat.lt_succ_of_lt (Zm (N q hq).1))
 rcases Zq.mp hp with rfl|hp
 ·exact⟨Zr _ rfl,Yh lk,Heap.get?_none_of_le (ZC F.above (Nat.le_of_lt lk))⟩
 ·rcases Zq.mp hp with rfl|hp
  ·exact⟨Zb _ (Zb _ ho1),haL,ha0⟩
  ·exact⟨Zb _ (Zb _ (N1 p hp).1),(N1 p hp).2⟩
theorem zC{b:Bool}{f:Value}{kw:List (Str×Value)}{Q:Value->Shared->Prop}(F:Fr h₀ L s.heap m)(N:News h₀ L s.heap news)(hz:vs.length<=4096)(ha2:∀ x,argsOk "list.sort" ⟨[.ref x],kw⟩)(ht:∀ x,Builtin.«list.sort» ⟨[.ref x],kw⟩=ksk_tree x f b)(h:∀ D kS e1 h',Fr h₀ L h' m->News h₀ L h' ((kS,seqObj "list" #[] 0)::(D,seqObj "list" #[] e1)::news)->D<kS->(∀ q∈news,q.1<D) ->
   KatKeys prog w A.in1 h₀ L m kS f (fun ks e s'=>qh prog w A.in1 b ks vs (fun out=>KatFin h₀ L m kS D ks e e1 out (fun s4=>Q (.ref D) s4)) s') vs [] 0 { s with heap:=h' }) :
  wpAny (model prog w) A (do let l ←newList vs;let _ ←holding [l] (call (.builtin "list.sort") [l] kw);ret l) (fun fin s'=>∃v,fin=.done (.ret v)/\Q v s') E s:=by
 have hL:L<s.heap.objs.size:=F.ns.lt;have hoL:(s.heap.push (seqObj "list" vs.toArray 0)).get? s.heap.objs.size=some (seqObj "list" vs.toArray 0):=Zr _ rfl;refine Za (wpAny_newList ?_ (cO hz));refine Za (ZV (wpAny_call_entry_kw slot_list_sort ⟨_,hoL,rfl⟩ entry_list_sort ?body (ha2 _)))
 case body =>
  show wpAny (model prog w) A.in1 (Builtin.«list.sort» ⟨[.ref s.heap.objs.size],kw⟩) _ _ _;rw[ht];refine wH (s:={ s with heap:=s.heap.push (seqObj "list" vs.toArray 0) }) (F.kept fun b o q=>Zb _ q) (N.grown fun b o q=>Zb _ q) hoL (Yh hL) (Heap.get?_none_of_le (ZC F.above (Nat.le_of_lt hL))) (fun p hp=>ZA (Zm (N p hp).1)) hz fun kS e1 h' F' N' l0 l1=>?_;refine kat_keys_mono (h _ kS e1 h' F' N' l0 fun q hq=>Zm (N q hq).1) fun ks e s' _ hd=>⟨fun n2=>ZG (hd.1 n2) (fun κ s2 hk=>?_) fun _ _ x=>x,fun n2=>(hd.2 n2).mono fun s4 hq=>⟨_,rfl,Zd ⟨_,rfl,hq⟩⟩⟩
  obtain⟨lt,O,ask,fin⟩:=hk;exact⟨lt,O,ask,fun p a1 a2=>(fin p a1 a2).mono fun s4 hq=>⟨_,rfl,Zd ⟨_,rfl,hq⟩⟩⟩
end
open PySem PySem.Spec PyProof.Rows PySem.W
inductive ZKey where
 |i (n:Int)|t (ns:List Int)
def ZKey.nums:ZKey->List Int
 |.i n=>[n]
 |.t ns=>ns
def ZKey.at(H:Hp):ZKey->V->Prop
 |.i n,v=>v=.int n
 |.t ns,v=>∃a,v=.ref a/\H a=some (.tup (ns.map V.int))
theorem ZKey.at.same{H H':Hp}(sm:Same H H'):∀{k:ZKey} {v:V},k.at H v->k.at H' v
 |.i _,_,h=>h
 |.t _,_,⟨a,e,h⟩=>⟨a,e,sm _ _ h⟩
def rD(ks:List ZKey):Prop:=(∀k∈ks,∃n,k=.i n)\/∀k∈ks,∃ns,k=.t ns/\ns≠[]
section
variable{X:Cx}{pins:List (Addr×Obj)}{σ:St}{H:Hp}{s:Shared}{h':Heap}
def uI(X:Cx)(s:Shared)(l:Addr)(xs:List V):Prop:=∀Q:List Value->Shared->Prop,(∀h' tk its,(∀b o,s.heap.get? b=some o->h'.get? b=some o)->Vals xs its->Q its { s with heap:=h',toks:=tk })->wpAny (model X.prog X.w) X.A.in1 (collect (.ref l)) Q X.xe s
theorem tY{l:Addr}{xs:List V}(I:Inv X pins σ H s)(hH:H l=some (.lst xs))(hz:xs.length<=4096):uI X s l xs:=fun Q h=>by obtain⟨z,its,n,rv,hlen,e⟩:=I.lstM hH;have li:its.length=xs.length:=hlen.symm;refine collect_list ⟨_,e,rfl,n,rfl⟩ (h _ s.toks its (fun b o g=>?_) rv) (cO (by omega));rw[Heap.get?_update_ne _ _ _ _ (ZA (Zm g))];exact Zb _ g
structure SGZ(X:Cx)(pins:List (Addr×Obj))(σ:St)(H1:Hp)(m:Str->Option Value)(kS D:Addr)(e1:Nat)(ks:List ZKey)(as:List V)(us:List Value)(e:Nat)(H:Hp)(s:Shared):Prop where
 I:Inv X pins σ H s
 sm:Same H1 H
 fk:aV X pins H kS
 fd:aV X pins H D
 bk:X.base.get? kS=none
 bd:X.base.get? D=none
 hk:s.heap.get? kS=some (seqObj "list" (List.toArray us) e)
 hd:s.heap.get? D=some (seqObj "list" #[] e1)
 ns:s.heap.Ns X.env.locals m
 vals:Vals as us
 keys:∀(i:Nat) (a:V) (k:ZKey),as[i]?=some a->ks[i]?=some k->k.at H a
theorem SGZ.fr{H1:Hp}{m:Str->Option Value}{kS D:Addr}{e1:Nat}{ks:List ZKey}{as:List V}{us:List Value}{e:Nat}(S:SGZ X pins σ H1 m kS D e1 ks as us e H s):Fr X.base X.env.locals s.heap m:=⟨S.ns,S.I.bk,ZC S.I.ok.bsz S.I.ok.above⟩
theorem jP{H1:Hp}{m:Str->Option Value}{kS D:Addr}{e1:Nat}{ks:List ZKey}{xs:List V}{its:List Value}{f:Addr}{sp:Sp}{Fin:List Value->Nat->Shared->Prop}(hne:kS≠D)(rv:Vals xs its)(hl:ks.length=xs.length)(F:qg X pins σ f sp)(spec:∀(i:Nat) (v:V) (key:ZKey) (H':Hp),xs[i]?=some v->ks[i]?=some key->Same H1 H'->∀R:VK,(∀kv H'',Same H' H''->key.at H'' kv->R kv H'')->sp [v] H' R E0)(fin:∀(as:List V) (us:List Value) (e:Nat) (H:Hp) (s:Shared),SGZ X pins σ H1 m kS D e1 ks as us e H s->as.length=xs.length->Fin us e s) :
  ∀(r:List Value) (as:List V) (us:List Value) (e:Nat) (H:Hp) (s:Shared),SGZ X pins σ H1 m kS D e1 ks as us e H s->its=its.take as.length++r->as.length+r.length=xs.length ->
   KatKeys X.prog X.w X.A.in1.in1 X.base X.env.locals m kS (.ref f) Fin r us e s
 | [],as,us,e,H,s,S,_,hlen=>KatKeys.nil (fin as us e H s S (by simpa using hlen))
 |u::r,as,us,e,H,s,S,hits,hlen=>by
  have hi:as.length<xs.length:=by rw[Zl]at hlen;omega
  have hx:xs[as.length]?=some xs[as.length]:=Zf hi;obtain⟨u',gu,ru⟩:=rv.get hx;have hlt:as.length<its.length:=by rw[<-rv.length];exact hi
  have gu':its[as.length]?=some u:=by rw[hits,ZW (by rw[ZL];omega),ZL,Nat.min_eq_left (by omega),Nat.sub_self];rfl
  rw[gu']at gu;cases gu;have hkey:ks[as.length]?=some (ks[as.length]'(by omega)):=Zf (by omega);generalize ks[as.length]'(by omega)=key at hkey;refine KatKeys.cons (wpAny_call (codeAny_mono (F s H u xs[as.length] (fun v H''=>Same H H''/\key.at H'' v) S.I ru (spec _ _ _ H hx hkey S.sm _ fun kv H'' s' q=>⟨s',q⟩)) fun res s' hq=>?_));cases res with
  |error e=>exact hq
  |ok fl =>
   cases fl with
   |next=>exact False.elim hq
   |brk=>exact False.elim hq
   |cont=>exact False.elim hq
   |ret uv =>
    obtain⟨v,H'',os,bare,un,hok,rvv,sm,ea⟩:=hq;obtain⟨hh,g,d,t,os'⟩:=s';obtain rfl:os'=s.os:=os;have I2:Inv X pins σ H'' { s with heap:=hh,gens:=g,drawn:=d,toks:=t }:=S.I.call (h':=hh) (g':=g) (d':=d) (t':=t) (ch:=[]) un hok bare (fun b z=>absurd z (by simp));have nstk:∀{b:Addr},aV X pins H b->b∉frs X.stack:=fun{b} fo z=>(Zq.mp (S.I.stkSub b z)).elim fo.2.1 fo.2.2.1;have hk2:hh.get? kS=some (seqObj "list" (List.toArray us) e):=un.keep kS _ S.hk S.fk.1 (nstk S.fk) (by simp);have hd2:hh.get? D=some (seqObj "list" #[] e1):=un.keep D _ S.hd S.fd.1 (nstk S.fd) (by simp);have ns2:hh.Ns X.env.locals m:=by obtain⟨o,es,ep,ho,rr⟩:=id S.ns;obtain⟨sl,hL⟩:=un.any ho S.I.free (by simp);exact⟨_,es,ep,hL,rr⟩
    have fk2:aV X pins H'' kS:=⟨un.free kS _ S.hk S.fk.1 (by simp),S.fk.2⟩
    have fd2:aV X pins H'' D:=⟨un.free D _ S.hd S.fd.1 (by simp),S.fd.2⟩
    have hkL:kS≠X.env.locals:=S.fk.2.1;refine KatBack.intro (news:=(kS,seqObj "list" (List.toArray us) e)::dU X.base hh X.env.locals kS) ⟨ns2,I2.bk,ZC S.I.ok.bsz S.I.ok.above⟩ (eh hk2 hkL S.bk) (.head fX) fun h3 c F3 N3=>?_;have mv:=dZ (fun b o q=>I2.bk b o q) F3 N3;have I3:Inv X pins σ H'' { s with heap:=h3,gens:=g,drawn:=d,toks:=t }:=Inv.movedF (ch:=[kS]) (t':=t) I2 (fun b hb=>by rw[ZK.mp hb];exact fk2) mv ⟨m,ns2,F3.ns⟩;refine jP hne rv hl F spec fin r (as++[v]) (us++[uv]) c H'' _ ⟨I3,S.sm.trans sm,fk2,fd2,S.bk,S.bd,(N3 _ (.head _)).1,mv D _ S.fd.2.1 (fun z=>hne (ZK.mp z).symm) hd2,F3.ns,S.vals.append (.cons rvv .nil),fun i b key' h1 h2=>?_⟩ ?_ ?_
    ·by_cases hi2:i<as.length
     ·rw[YC hi2]at h1;exact(S.keys i b key' h1 h2).same sm
     ·have hi3:=(Zw.mp h1).1;rw[Zo,Ye]at hi3;have e3:i=as.length:=by omega
      subst e3;rw[ZW (Ze _),Nat.sub_self]at h1;cases h1;rw[hkey]at h2;cases h2;exact ea
    ·rw[Zo,Ye,List.take_add_one,gu',Option.toList_some,Zy];exact hits
    ·rw[Zo,Ye,<-hlen,Zl];omega
theorem oJ{b:Bool}{kw:List (Str×Value)}{ks:List ZKey}{xs:List V}{f l:Addr}{sp:Sp}{Q:VK}(I:Inv X pins σ H s)(src:uI X s l xs)(hz:xs.length<=4096)(hl:ks.length=xs.length)(hne:rD ks)(hs1:argsOk "sorted" ⟨[.ref l],kw⟩)(hs2:∀x,argsOk "list.sort" ⟨[.ref x],kw⟩)(hs3:∀x,Builtin.«list.sort» ⟨[.ref x],kw⟩=ksk_tree x (.ref f) b)(F:∀l,qg (wX X l) pins σ f sp)(spec:∀(i:Nat) (v:V) (key:ZKey) (H':Hp),xs[i]?=some v->ks[i]?=some key->Same H H'->∀R:VK,(∀kv H'',Same H' H''->key.at H'' kv->R kv H'')->sp [v] H' R E0)(q:∀(p:Array Nat) (H2:Hp) (D:Addr),POk xs.length p->LS (fun i j=>HT.lexLt ((katRev b (ks.map ZKey.nums)).getD i []) ((katRev b (ks.map ZKey.nums)).getD j [])) p xs.length->Same H H2->H2 D=none->Q (.ref D) (upd H2 D (.lst (katRev b (p.toList.map fun i=>(katRev b xs).getD i .non))))) :
  wpAny (model X.prog X.w) X.A (call (.builtin "sorted") [.ref l] kw) (EP X pins σ Q) X.xe s:=by
 refine call_function_entry_kw kind_sorted plain_sorted entry_sorted hs1 ?_;unfold Builtin.«sorted»;refine Za (m:=checkCount "sorted" 1 1 _) (Zd (Za (src _ fun h0 tk its kp rv=>?_)));have I0:Inv X pins σ H { s with heap:=h0,toks:=tk }:=I.kept (t':=tk) kp;obtain⟨m,F0⟩:=I0.fr;have li:its.length=xs.length:=rv.length.symm;refine zC (vs:=its) (b:=b) F0 (iJ X.base h0 X.env.locals) (by omega) hs2 hs3 fun D kS e1 h1 F1 N1 hDk hD=>?_;have nD:=N1 (D,seqObj "list" #[] e1) (.tail _ (.head _));have nK:=N1 (kS,seqObj "list" #[] 0) (.head _);have hds:h0.get? D=none:=by
  cases g:h0.get? D with
  |none=>rfl
  |some o=>exact absurd (hD (D,o) (dN g nD.2.1 nD.2.2)) (Yw _)
 have hks:h0.get? kS=none:=by
  cases g:h0.get? kS with
  |none=>rfl
  |some o=>exact absurd (Nat.lt_trans hDk (hD (kS,o) (dN g nK.2.1 nK.2.2))) (Yw _)
 have xk:=I0.exOk hks nK.2.1 nK.2.2;have xd:=I0.exOk hds nD.2.1 nD.2.2;have hlx:∀b∈[kS,D],ExOk X b:=fun b' hb=>by
  simp only[Zq,Z3,or_false]at hb;rcases hb with rfl|rfl
  ·exact xk
  ·exact xd
 have fpk:=I0.fpW (l:=[kS,D]) (by simp) xk hks;have fpd:=I0.fpW (l:=[kS,D]) (by simp) xd hds;have mv0:∀b u,b≠X.env.locals->b∉([]:List Addr)->h0.get? b=some u->h1.get? b=some u:=fun b u hL _ g=>by
  cases qb:X.base.get? b with
  |none=>exact(N1 (b,u) (.tail _ (.tail _ (dN g hL qb)))).1
  |some o =>have e':=I0.bk b o qb;rw[g]at e';cases e';exact F1.keep b u qb
 have I1:Inv X pins σ H { s with heap:=h1,toks:=tk }:=Inv.movedF (ch:=[]) (s:={ s with heap:=h0,toks:=tk }) (t':=tk) I0 (fun b hb=>absurd hb (by simp)) mv0 ⟨m,F0.ns,F1.ns⟩;have I2:=I1.widen hlx;have hkd:kS≠D:=Yh hDk;refine jP (X:=wX X [kS,D]) (H1:=H) (D:=D) (e1:=e1) (ks:=ks) (xs:=xs) (its:=its) hkd rv hl (F _) spec (fun as us e2 H' s' S la=>?_) its [] [] 0 H { s with heap:=h1,toks:=tk } ⟨I2,Same.refl H,fpk,fpd,nK.2.2,nD.2.2,nK.1,nD.1,F1.ns,.nil,fun i a k h=>by simp at h⟩ (by simp) (by simpa using li);have hN:its.length=xs.length:=li;have lu:us.length=xs.length:=by rw[<-S.vals.length,la]
 have rvR:Vals (katRev b xs) (katRev b its):=oh b rv;have lR:(katRev b xs).length=xs.length:=kat_len b xs;have gk:∀i,i<xs.length->∃(v:V) (u:Value) (k:ZKey),RelV v u/\(katRev b us).getD i Value.none=u/\k∈ks/\(katRev b (ks.map ZKey.nums)).getD i []=k.nums/\k.at H' v:=fun i hi=>by
  obtain⟨j,hj,e1⟩:∃j,j<xs.length/\∀{α:Type} (l:List α),l.length=xs.length->(katRev b l)[i]?=l[j]?:=by
   cases b with
   |false=>exact⟨i,hi,fun l _=>rfl⟩
   | true=>exact⟨xs.length - 1 - i,by omega,fun l hl'=>by
     show l.reverse[i]?=_;rw[List.getElem?_reverse (by omega),hl']⟩
  have h1:as[j]?=some (as[j]'(by omega)):=Zf (by omega);have h2:ks[j]?=some (ks[j]'(by omega)):=Zf (by omega);obtain⟨u,gu,ru⟩:=S.vals.get h1;refine⟨_,u,_,ru,?_,ZM (show j<ks.length by omega),?_,S.keys j _ _ h1 h2⟩
  ·rw[Zg,e1 us lu,gu];rfl
  ·rw[Zg,e1 (ks.map ZKey.nums) (by rw[Zh,hl]),Z6,h2];rfl
 have fin:∀p:Array Nat,POk xs.length p->p.size=xs.length/\LS (fun i j=>HT.lexLt ((katRev b (ks.map ZKey.nums)).getD i []) ((katRev b (ks.map ZKey.nums)).getD j [])) p xs.length ->
   KatFin X.base X.env.locals m kS D us e2 e1 (katRev b (p.toList.map fun i=>(katRev b its).getD i Value.none)) (fun s4=>EP X pins σ Q (.ref D) s4) s':=fun p hp hs=>by
  refine KatFin.intro (news:=(kS,seqObj "list" (List.toArray us) e2)::dU X.base s'.heap X.env.locals kS) S.fr (eh S.hk S.fk.2.1 S.bk) (.head fX) fun h3 c F3 N3=>?_;have mv3:=dZ (fun b' o qb=>S.I.bk b' o qb) F3 N3;have hd3:h3.get? D=some (seqObj "list" #[] e1):=mv3 D _ S.fd.2.1 (fun zz=>hkd (ZK.mp zz).symm) S.hd;refine KasFin.intro (news:=(D,seqObj "list" #[] e1)::dU X.base h3 X.env.locals D) (s:={ s' with heap:=h3 }) F3 (eh hd3 S.fd.2.1 S.bd) (.head fX) fun h4 c4 F4 N4=>?_;have mv4:=dZ (fun b' o qb=>F3.keep b' o qb) F4 N4;have hch:∀b∈[kS,D],aV (wX X [kS,D]) pins H' b:=fun b' hb=>by
   simp only[Zq,Z3,or_false]at hb;rcases hb with rfl|rfl
   ·exact S.fk
   ·exact S.fd
  have mv:∀b u,b≠X.env.locals->b∉[kS,D]->s'.heap.get? b=some u->h4.get? b=some u:=fun b' u hL hx g=>mv4 b' u hL (fun zz=>hx (by rw[ZK.mp zz];simp)) (mv3 b' u hL (fun zz=>hx (by rw[ZK.mp zz];simp)) g);have pl:∀i∈p.toList,i<xs.length:=fun i hi=>by have:=(hp.mem_iff).mp (Array.mem_toList_iff.mp hi);simpa using this
  have vals:∀(w:List Nat),(∀i∈w,i<xs.length)->Vals (w.map fun i=>(katRev b xs).getD i .non) (w.map fun i=>(katRev b its).getD i Value.none):=fun w=>by
   induction w with
   |nil=>intro _;exact .nil
   |cons i w ih =>intro hw;have hi:=hw i Zv;have hx:(katRev b xs)[i]?=some ((katRev b xs)[i]'(by omega)):=Zf (by omega);obtain⟨u,gu,ru⟩:=rvR.get hx;refine .cons ?_ (ih fun j hj=>hw j (Zn _ hj));show RelV ((katRev b xs).getD i V.non) ((katRev b its).getD i Value.none);rw[Zg,Zg,hx,gu];exact ru
  have lp:p.toList.length=xs.length:=by have:=hs.1;simpa using this
  have new:ObjOk X.prog X.w (upd H' D (.lst (katRev b (p.toList.map fun i=>(katRev b xs).getD i .non)))) h4 D (.lst (katRev b (p.toList.map fun i=>(katRev b xs).getD i .non))):=⟨by rw[kat_len,Zh,lp];exact cO (by omega),_,c4,oh b (vals _ pl),(N4 _ (.head _)).1⟩
  have I4:=Inv.tookF (X:=wX X [kS,D]) (ch:=[kS,D]) (a:=D) (o:=.lst (katRev b (p.toList.map fun i=>(katRev b xs).getD i .non))) (t':=s'.toks) S.I (by simp) hch mv ⟨m,S.ns,F4.ns⟩ new;exact⟨.ref D,_,I4.narrow I.ok (fun b' hb=>(hlx b' hb).old),rfl,q p H' D hp hs.2 S.sm S.fd.1⟩
 have go:∀κ:SortKind,(∀(i j:Nat) (C:Bool->Shared->Prop),i<xs.length->j<xs.length->C (HT.lexLt ((katRev b (ks.map ZKey.nums)).getD i []) ((katRev b (ks.map ZKey.nums)).getD j [])) s'->kas_ask X.prog X.w X.A.in1.in1 κ (katRev b us) i j C s') ->
   ZGo X.prog X.w X.A.in1.in1 b us its (fun out=>KatFin X.base X.env.locals m kS D us e2 e1 out (fun s4=>EP X pins σ Q (.ref D) s4)) κ s':=fun κ hask=>by
  refine⟨_,Ao (katRev b (ks.map ZKey.nums)),?_,?_⟩
  ·rw[hN];exact hask
  ·rw[hN];exact fun p hp hs=>fin p hp ⟨by have:=hp.size_eq;simpa using this,hs⟩
 refine⟨fun n2=>?_,fun n2=>?_⟩
 rotate_left
 ·have:=fin (List.toArray (List.range its.length)) (by rw[hN];exact Array.Perm.refl _) ⟨by simpa using hN,fun i j h1 h2=>by omega⟩;rw[YM]at this;exact this
 rcases hne with hI|hB
 ·refine kas_kind (T:=.type "int") (by omega) (fun u hu=>?_) rfl rfl (go _ fun i j C hi hj hC=>?_)
  ·obtain⟨j,hj,rfl⟩:=List.getElem_of_mem hu;have h1:as[j]?=some (as[j]'(by omega)):=Zf (by omega);have h2:ks[j]?=some (ks[j]'(by omega)):=Zf (by omega);obtain⟨u,gu,ru⟩:=S.vals.get h1;have ky:=S.keys j _ _ h1 h2;obtain⟨n',en⟩:=hI _ (ZM (show j<ks.length by omega));rw[en]at ky;rw[show as[j]'(by omega)=V.int n' from ky]at ru;obtain⟨t,rfl⟩:=ru;rw[Zf hj]at gu;rw[Zu gu];exact .now
  ·obtain⟨v,u,k1,ru,eu,m1,en,at1⟩:=gk i hi;obtain⟨v2,u2,k2,ru2,eu2,m2,en2,at2⟩:=gk j hj;obtain⟨n1,rfl⟩:=hI _ m1;obtain⟨n2,rfl⟩:=hI _ m2;rw[show v=V.int n1 from at1]at ru;rw[show v2=V.int n2 from at2]at ru2;obtain⟨t,rfl⟩:=ru;obtain⟨t2,rfl⟩:=ru2;unfold kas_ask;rw[eu,eu2];rw[en,en2]at hC;refine kat_lt_int ?_;have e1':HT.lexLt (ZKey.i n1).nums (ZKey.i n2).nums=decide (n1<n2):=yb n1 n2;rw[e1']at hC;exact hC
 ·have tups:∀(vs:List V) (ws:List Value) (n:Nat),Vals vs ws->n+vs.length=ks.length->(∀(i:Nat) (v:V) (k:ZKey),vs[i]?=some v->ks[n+i]?=some k->k.at H' v)->∃fs:List Value,KatTups s'.heap ws fs/\fs.length=ws.length/\∀v∈fs,∃i t,v=.int i t:=fun vs=>by
   induction vs with
   |nil =>intro ws n hv _ _;cases hv;exact⟨[],KatTups.nil,rfl,fun v h=>nomatch h⟩
   |cons v vs ih =>
    intro ws n hv hl' h;cases hv with
    |cons rv1 hv =>
     rw[Zl]at hl';have hkn:ks[n]?=some (ks[n]'(by omega)):=Zf (by omega);obtain⟨ns,en,ne⟩:=hB _ (ZM (show n<ks.length by omega));rw[en]at hkn;obtain⟨a,rfl,ea⟩:=h 0 v _ rfl (by rw[Nat.add_zero];exact hkn);cases rv1;obtain⟨ia,ra,pa,za⟩:=S.I.tuple (SqT.of (K:=X.K) ea);obtain⟨oa,eo,ca,n1,da⟩:=id pa;obtain⟨x,t,ia',rfl⟩:∃x t r,ia=.int x t::r:=by
      cases dL ra with
      |nil=>exact absurd rfl ne
      |cons x t r=>exact⟨x,t,_,rfl⟩
     obtain⟨fs,f1,f2,f3⟩:=ih _ (n+1) hv (by omega) (fun i w k' h1 h2=>h (i+1) w k' h1 (by rw[show n+(i+1)=n+1+i by omega];exact h2));refine⟨.int x t::fs,KatTups.cons eo ca da rfl f1,by rw[Zl,Zl,f2],fun v hv=>?_⟩;rcases Zq.mp hv with rfl|hv
     ·exact⟨_,_,rfl⟩
     ·exact f3 v hv
  obtain⟨fs,t1,t2,t3⟩:=tups as us 0 S.vals (by omega) (fun i v k h1 h2=>S.keys i v k h1 (by rw[Nat.zero_add]at h2;exact h2));refine kat_kind (T:=.type "int") t1 (by omega) (fun v hv=>?_) rfl (go _ fun i j C hi hj hC=>?_)
  ·obtain⟨i,t,rfl⟩:=t3 v hv;exact .now
  ·obtain⟨v,u,k1,ru,eu,m1,en,at1⟩:=gk i hi;obtain⟨v2,u2,k2,ru2,eu2,m2,en2,at2⟩:=gk j hj;obtain⟨n1,rfl,_⟩:=hB _ m1;obtain⟨n2,rfl,_⟩:=hB _ m2;obtain⟨a1,rfl,ha1⟩:=at1;obtain⟨a2,rfl,ha2⟩:=at2;cases ru;cases ru2;obtain⟨ia,ra,pa,za⟩:=S.I.tuple (SqT.of (K:=X.K) ha1);obtain⟨ib,rb,pb,zb⟩:=S.I.tuple (SqT.of (K:=X.K) ha2);obtain⟨oa,eoa,ca,q1,da⟩:=id pa;obtain⟨ob,eob,cb,q2,db⟩:=id pb;unfold kas_ask;rw[eu,eu2];rw[en,en2]at hC;exact kat_lt eoa da eob db (oy _ _ _ _ 0 (dL ra) (dL rb) (by rw[Zj,Zj,<-ra.length,<-rb.length,Zh,Zh]) hC)
end
open PySem PySem.Spec PyProof.Rows PySem.W
def C9(j:Int)(t u v:Tok):Obj:={ cls:=.type "range",data:=.fields #[.int 0 t,.int j u,.int 1 v] }
def zH(H:Hp)(l:Addr)(xs:List V):Prop:=H l=some (.lst xs)\/∃(n:Nat) (t u v:Tok),n<=4096/\H l=some (C3 l (C9 (n:Int) t u v))/\xs=(List.range n).map fun i:Nat=>V.int (i:Int)
section
variable{X:Cx}{pins:List (Addr×Obj)}{σ:St}{H:Hp}{s:Shared}
theorem yV{l:Addr}{xs:List V}(hc:X.calm=true)(I:Inv X pins σ H s)(h:zH H l xs)(hz:xs.length<=4096):uI X s l xs:=by
 rcases h with h|⟨n,t,u,v,hn,h,rfl⟩
 ·exact tY I h hz
 ·intro Q hq;have hr:IsRange s.heap l 0 (n:Int) 1 t u v:=(I.hok l _ h).1;have hh:X.A.in1.handled=none:=I.ok.hd hc;have h1:Builtin.Range.rangeSize 0 (n:Int) 1=((n:Nat):Int):=by rw[rangeSize_one];split<;>omega
  refine ka hh hr (small_one (by omega) (by omega) (by omega) (by omega)) h1 (by omega) fun h' tk acc kp hI=>hq h' tk acc.toList kp ?_;have go:∀(its:List Value) (k:Nat),(∀(i:Nat) (v:Value),its[i]?=some v->∃t,v=.int ((k+i:Nat):Int) t)->Vals ((List.range' k its.length).map fun i:Nat=>V.int (i:Int)) its:=by
   intro its;induction its with
   |nil=>intro k _;exact .nil
   |cons x its ih =>
    intro k hx;obtain⟨t,rfl⟩:=hx 0 x rfl;rw[Zl,List.range'_succ,Zz];refine .cons ⟨t,?_⟩ (ih (k+1) fun i v hv=>?_)
    ·rfl
    ·obtain⟨t,e⟩:=hx (i+1) v hv;exact⟨t,by rw[e];congr 2;omega⟩
  have e:=go acc.toList 0 fun i v hv=>by obtain⟨t,e⟩:=hI.2 i v (by rw[<-hv,Array.getElem?_toList]);refine⟨t,by rw[e];congr 1;omega⟩
  rw[Zt,hI.1]at e;rw[List.range_eq_range'];exact e
end
def BU(sp:Hp->List V->Hp->VK->Prop)(sm:Hp->Hp->Prop)(end':Hp->Prop)(H:Hp)(xs:List V)(ks:List ZKey)(Q:VK):Prop :=
 xs.length<=4096/\ks.length=xs.length/\rD ks /\
 (∀(i:Nat) (v:V) (key:ZKey) (H':Hp),xs[i]?=some v->ks[i]?=some key->sm H H'->∀R:VK,(∀kv H'',Same H' H''->key.at H'' kv->R kv H'')->sp H' [v] H' R) /\
 ∀(p:Array Nat) (H2:Hp) (D:Addr),POk xs.length p->LS (fun i j=>HT.lexLt ((ks.map ZKey.nums).getD i []) ((ks.map ZKey.nums).getD j [])) p xs.length->sm H H2->end' H2->H2 D=none->Q (.ref D) (upd H2 D (.lst (p.toList.map fun i=>xs.getD i .non)))
def zd(sp:Sp)(ta:TA):TE:=fun σ H0 Q=>ta σ H0 fun vs H=>∃(l:Addr) (xs:List V) (ks:List ZKey),vs=[.ref l]/\zH H l xs/\BU (fun _ vs H Q=>sp vs H Q E0) Same (fun _=>True) H xs ks Q
section
variable{X:Cx}{c P:Addr}{pins:List (Addr×Obj)}{σ:St}
theorem vS{k:Nat}{fx x:Str}{sp:Sp}{e:Expr}{ta:TA}{p fp kpos pos:Pos}(hc:X.calm=true)(hm:X.mg "sorted" = none)(F:Fn X.prog X.w X.K X.mg X.base k fx [x] sp)(hr:Room (k+2) X.A)(ha:QA X [e] ta)(hg:Gl X "sorted":=by rfl)(hgf:Gl X fx:=by rfl)(hn:aJ e=true:=by rfl)(hdb:(fx==("__debug__":Str))=false:=by decide):QE X (.Call (.Name "sorted" p) [e] [⟨some "key",.Name fx fp,kpos⟩] pos) (zd sp ta):=by refine⟨?_⟩;intro pins s σ H0 Q I h;obtain⟨f,fd,F1,m1,kp,bn⟩:=F.ex;refine wpAny_Call_Name_kw (fi I hg hm PyProof.Rows.boot_sorted ?_);have h1:=aQ (es:=[]) (env:=X.env) hn;refine PyProof.Rows.callWith_kw (thn (ha.h pos pins s σ H0 _ I h) fun us s1 hz9=>?_) (he:=by rw[h1];rfl) (hplain:=by rw[h1];rfl) (hall:=rfl) (hkw:=rfl);obtain⟨vs,H1,I1,r1,q1⟩:=hz9;obtain⟨l,xs,ks,rfl,hH,hz,hl,hne,spec,q⟩:=q1;obtain⟨u,rfl,ru⟩:=cQ r1;cases ru;have hk:PK X [⟨some "key",.Name fx fp,kpos⟩] (ip (tC (.ref f)) jh):=yA (kB hgf m1 rfl hdb) Bh;refine thn (hk pos pins s1 σ H1 (fun zs H2=>zs=[.ref f]/\H2=H1) I1 ⟨rfl,rfl⟩) fun ws s2 hz9=>?_;obtain⟨zs,H2,I2,rz,e1,h2e⟩:=hz9;subst e1 h2e;obtain⟨u,rfl,ru⟩:=cQ rz;cases ru;exact oJ (b:=false) I2 (yV hc I2 hH hz) hz hl hne (ksk_s1 _ _) (fun x=>ksk_l1 _ _) (fun x=>ksk_t1 f x) (yP F1 (fun s u kin=>bn s [u] kin rfl) (hr.mono (by omega) |>.in1 |>.in1)) spec fun p H3 D a1 a2 a3 a4=>q p H3 D a1 a2 a3 trivial a4
end
open PySem PySem.Spec PyProof.Rows PySem.W
open PySem PySem.Spec PyProof.Rows PySem.W
open PySem PySem.Spec PyProof.Rows PySem.W
end L2
set_option maxHeartbeats 4000000
namespace PySem
open Sem (wp)
section
variable{prog:Program}{w:World}{K:Type}[DecidableEq K]{knd:KeyKind prog w K}
structure PairAt(knd:KeyKind prog w K)(h:Heap)(p:Addr×List K×Addr×Value):Prop where
 tup:∃o n,h.get? p.1=some o/\o.cls=.type "tuple"/\o.data=.seq #[.ref p.2.2.1,p.2.2.2] n
 key:IsTupleKey knd h p.2.1 p.2.2.1
variable{A:Around}{R:Result->Shared->Prop}
end
end PySem
namespace L2
open PySem PySem.Spec PyProof.Rows PySem.W
open PySem PySem.Spec PyProof.Rows PySem.W
open PySem PySem.Spec PyProof.Rows PySem.W
def ItD(o:Obj)(a:Addr):It where
 go:=fun i H=>∃kvs,H a=some (.frz o (.dT kvs))/\i<kvs.length
 yld:=fun i H x H'=>H'=H/\∀kvs,H a=some (.frz o (.dT kvs))->∃p b,kvs[i]?=some p/\x=.ref b/\H b=some (.tup (p.1.map kV))
 stop:=fun i H=>∃kvs,H a=some (.frz o (.dT kvs))/\kvs.length<=i
theorem Am{H:Hp}{kvs:List (List Key×V)}{xs:List (List Key×Addr×Value)}(r:KT H kvs xs):∀{i:Nat} {x:List Key×Addr×Value},xs[i]?=some x->∃p,kvs[i]?=some p/\H x.2.1=some (.tup (p.1.map kV)):=by
 induction r with
 |nil=>intro i x h;simp at h
 |@cons p q _ _ h _ ih =>
  intro i x e;cases i with
  |zero=>cases e;exact⟨p,rfl,h.2.1⟩
  |succ i=>exact ih e
theorem si{P:Program}{w:World}{H:Hp}{h:Heap}{a:Addr}{o:Obj}{kvs:List (List Key×V)}(ok:HOk P w H h)(e:H a=some (.frz o (.dT kvs))) :
  (a==sysModules)=false/\∃xs es ep,KT H kvs xs/\h.get? a=some o/\o.ExactDict/\o.data=.dict es ep/\es.toList=xs.map (entryOfKey (tupleKind (aZ P w)))/\kvs.length=es.size:=by
 obtain⟨ho,z,y,xs,r,o',es,ep,h1,h2,h3,h4,h5⟩:=(show ObjOk P w H h a (.frz o (.dT kvs))from ok a _ e)
 rw[ho]at h1;cases h1;exact⟨y,xs,es,ep,r,ho,h2,h3,h4,(ZO r).trans (size_of_entries h4).symm⟩
theorem ul{P:Program}{w:World}{K:PySem.W.Frag}{tg:Expr}(o:Obj)(a it:Addr):Turn P w K tg (ItD o a) [it] it (fun i h=>∃es ep,o.data=.dict es ep/\i<=es.size/\h.IsKeyIter it a i es.size ep) where
 mem:=by simp
 obj:=fun i h st b hb=>by
  have e:b=it:=by simpa using hb
  subst e;obtain⟨es,ep,_,_,o,e,c,d⟩:=st;exact⟨o,e,fun v z=>by rw[d]at z;cases z⟩
 keep:=fun i h h' st k=>by obtain⟨es,ep,h1,h2,h3⟩:=st;exact⟨es,ep,h1,h2,h3.at fun o e=>k it (by simp) o e⟩
 item:=by
  intro X hP hw hK hc i pins s σ H E I hf st hg;subst hP hw hK;obtain⟨kvs,hq,hx⟩:=hg;obtain⟨es,ep,sd,sl,st⟩:=st;obtain⟨lo,xs,es',ep',r,ho,hx2,hd,h4,hl⟩:=si I.hok hq;rw[sd]at hd;cases hd;obtain⟨f0,f1,f2,f3,f4,f5⟩:=hf it (by simp);have hi:i<es.size:=by omega
  refine vV st ⟨o,ho,hx2,sd⟩ hi fun h' st' sb=>?_;have I1:Inv X pins σ H { s with heap:=h' }:=I.turned (t':=s.toks) (fun b o hb e=>(sb.2 b hb).trans e) f0 f1 f3 f4 f5;obtain⟨oi,e,c,d⟩:=id st';have hxs:i<xs.length:=by rw[<-size_of_entries h4];exact hi
  have hk:es[i].key=Value.ref xs[i].2.1:=by have e1:=entry_at h4 (j:=i);rw[Zf hxs,Array.getElem?_eq_getElem hi]at e1;have e2:=Zu e1;rw[e2];rfl
  obtain⟨p,hp,hb⟩:=Am r (Zf hxs);refine⟨_,rfl,qA (s:={ s with heap:=h' }) e c d (by decide) ⟨.ref xs[i].2.1,H,I1,hk,⟨rfl,fun kvs' hy=>?_⟩,⟨es,ep,sd,by omega,st'⟩,fun b hb=>(hf b hb).1⟩⟩;rw[hq]at hy;cases hy;exact⟨p,xs[i].2.1,hp,rfl,hb⟩
 done:=by
  intro X hP hw hK hc i pins s σ H E I hf st hg;subst hP hw hK;obtain⟨kvs,hq,hx⟩:=hg;obtain⟨es,ep,sd,sl,st⟩:=st;obtain⟨lo,xs,es',ep',r,ho,hx2,hd,h4,hl⟩:=si I.hok hq;rw[sd]at hd;cases hd;obtain⟨f0,f1,f2,f3,f4,f5⟩:=hf it (by simp);obtain rfl:i=es.size:=by omega
  exact yO (I.ok.hd hc) st ⟨o,ho,hx2,sd⟩ fun h' eb=>⟨rfl,I.turned (t':=s.toks) (fun b o hb e=>eb b o hb e) f0 f1 f3 f4 f5⟩
 self:=fun _ _ _ _ _ st h=>by obtain⟨es,ep,h1,h2,h3⟩:=st;exact wpAny_pyIter_keyiter h3 h
section
variable{X:Cx}{tg:Expr}
theorem Inv.freeze{pins:List (Addr×Obj)}{σ:St}{H:Hp}{s:Shared}{a:Addr}{o:Obj}{kvs:List (List Key×V)}(I:Inv X pins σ H s)(hq:H a=some (.dT kvs))(ho:s.heap.get? a=some o):Inv X pins σ (upd H a (.frz o (.dT kvs))) s :=
 I.write (x:=a) (e:=a) (h':=s.heap) (t':=s.toks) (by rw[hq];exact True.intro) (.inl rfl) (fun b u _ e=>e) ⟨o,ho⟩
  ⟨ho,ObjOk.stay (show ObjOk X.prog X.w H s.heap a (.dT kvs) from I.hok a _ hq) (fun b u _ e=>e) (fun b e=>by
   rw[af fun z=>by rw[z,hq]at e;cases e];exact e) fun b xs e=>by
   rw[af fun z=>by rw[z,hq]at e;cases e];exact e⟩
def Ab(tl:TE):TI:=fun σ H R=>tl σ H fun x H1=>∃a kvs,x=.ref a/\H1 a=some (.dT kvs)/\∀o,R (ItD o a) (upd H1 a (.frz o (.dT kvs)))
theorem Bc{l:Expr}{tl:TE}(hl:PE X l tl):PI X tg l (Ab tl):=by
 intro pins s σ H R I h;refine thn (hl pins s σ H _ I h) fun v s1 hz9=>?_;obtain⟨x,H1,I1,r1,q1⟩:=hz9;obtain⟨a,kvs,e,hq,q⟩:=q1;subst e;cases r1;obtain⟨z,lo,xs,r,o,es,ep,h1,h2,h3,h4,h5⟩:=(show ObjOk X.prog X.w H1 s1.heap a (.dT kvs)from I1.hok a _ hq)
 refine vW lo ⟨o,h1,h2,h3⟩ ?_;have I2:=I1.freeze hq h1;refine⟨s1.heap.objs.size,[s1.heap.objs.size],_,_,_,rfl,I2.kept (t':=s1.toks) fun b o e=>Zb _ e,ul o a _,⟨es,ep,h3,ZP _,_,Zr _ rfl,rfl,rfl⟩,fun b hb=>?_,q o⟩;have e:b=s1.heap.objs.size:=by simpa using hb
 subst e;exact I2.fpOk (Ze _) (I2.hok.fresh (Ze _))
theorem Ck{l:Expr}{te:TE}(hl:QE X l te):QI X tg l (Ab te):=⟨Bc hl.h⟩
end
theorem uV{a:Addr}{o:Obj}{kvs:List (List Key×V)}{j:Nat}{tb:TS}{D:Ends}{σ:St}{H:Hp}(Pv:Nat->St->Hp->Prop)(h0:Pv 0 σ H)(hl:∀i σ H,i<=kvs.length->Pv i σ H->H a=some (.frz o (.dT kvs)))(hs:∀i p b σ H,kvs[i]?=some p->H b=some (.tup (p.1.map kV))->Pv i σ H->∀D':Ends,(∀σ' H',Pv (i+1) σ' H'->D'.nx σ' H')->D'.rt=D.rt->tb D' (σ.set j (some (.ref b))) H)(hd:∀σ H,Pv kvs.length σ H->D.nx σ H) :
  ∃W:Nat->Nat->St->Hp->Prop,(∃m,W 0 m σ H)/\∀i m σ H,W i m σ H ->
   ((ItD o a).stop i H/\D.nx σ H)\/((ItD o a).go i H/\∃N:St->Hp->Prop,(∀σ' H',N σ' H'->∃m',m'<m/\W (i+1) m' σ' H')/\∀x H',(ItD o a).yld i H x H'->br j x σ H' fun σ2 H2=>tb { D with nx:=N,ct:=N,bk:=D.nx } σ2 H2):=by
 refine⟨fun i m σ H=>m=kvs.length-i/\i<=kvs.length/\Pv i σ H,⟨kvs.length,by simp,ZP _,h0⟩,?_⟩;rintro i m σ H ⟨rfl,hi,p⟩;have q:=hl i σ H hi p;by_cases hlt:i<kvs.length
 ·refine .inr ⟨⟨kvs,q,hlt⟩,Pv (i+1),fun σ' H' p'=>⟨kvs.length-(i+1),by omega,rfl,hlt,p'⟩,fun x H' y=>?_⟩;obtain⟨e,y⟩:=y;subst e;obtain⟨pr,b,e1,rfl,e2⟩:=y kvs q;exact hs i pr b σ _ e1 e2 p _ (fun _ _ z=>z) rfl
 ·have e:i=kvs.length:=by omega
  subst e;exact .inl ⟨⟨kvs,q,Ze _⟩,hd σ H p⟩
open PySem PySem.Spec PyProof.Rows PySem.W
theorem rh{prog:Program}{w:World}{K:Type}[DecidableEq K]{knd:HeapKind prog w K}{A:Around}{E:Value->Shared->Prop}{s:Shared}{a b:Addr}{xs ys:List (K×Addr×Value)}{Q:Bool->Shared->Prop}(id:String)(hu:knd.room A)(da:(a==sysModules)=false)(db:(b==sysModules)=false)(ma:s.heap.DictOfH knd a xs)(mb:s.heap.DictOfH knd b ys)(hl:xs.length=ys.length)(hall:∀(i:Nat) (x:K×Addr×Value),xs[i]?=some x->∃(j:Nat) (p:Addr×Value),ys[j]?=some (x.1,p)/\∀Q':Bool->Shared->Prop,Q' true s->wpAny (model prog w) A (eqBool x.2.2 p.2) Q' E s)(h:Q true s) :
  wpAny (model prog w) A (Builtin.Dict.samePairs id a b) Q E s:=by
 obtain⟨o,es,ep,h1,h2,h3,h4,h5,h6⟩:=ma;obtain⟨o',es',ep',g1,g2,g3,g4,g5,g6⟩:=mb;have z1:=size_of_entries h4;have z2:=size_of_entries g4;unfold Builtin.Dict.samePairs Builtin.Dict.showsAll;rw[if_neg (by rw[da];exact Zs)];refine Za (Zd ?_);rw[if_neg (by rw[db];exact Zs)];refine Za (Zd ?_);refine Za (Yk h1 h3 ?_);refine Za (Yk g1 g3 ?_);rw[if_neg (by rw[z1,z2,hl];simp)];refine Za (wpAny_dictEpoch h1 h3 ?_);refine Za ?_;rw[Std.Legacy.Range.forIn_eq_forIn_range'];have hsz:([0:es.size]:Std.Legacy.Range).size=es.size:=by simp[Std.Legacy.Range.size]
 refine wpAny_forIn_list _ (fun l r s'=>s'=s/\r=(none,())/\∃i,i<=es.size/\l=List.range' i (es.size-i) 1) _ ?_ ?_ _ _ ⟨rfl,rfl,0,ZP _,by rw[hsz,Nat.sub_zero]⟩
 ·rintro x rest r s' ⟨rfl,rfl,i,hi,hr⟩;have hlt:i<es.size:=by
   rcases Z0 i es.size with z|z
   ·exact z
   ·rw[show es.size-i=0 by omega]at hr;cases hr
  rw[show es.size-i=es.size-(i+1)+1 by omega,List.range'_succ]at hr;obtain⟨rfl,rfl⟩:=List.cons.inj hr;have hx:x<xs.length:=by rw[<-z1];exact hlt
  have ex:es[x]?=some (entryOfKey knd xs[x]):=by rw[entry_at h4,Zf hx];rfl
  obtain⟨j,p,hj,he⟩:=hall x _ (Zf hx);refine Za (Yk h1 h3 ?_);rw[ex];dsimp only;refine Za (ZV ?_);refine Za ?_;refine wpAny_dictFind_heap (k:=xs[x].1) (a:=xs[x].2.1) hu (h5 _ (ZM hx)) g1 g3 g4 g5 g6 (fun z=>absurd hj (z j p)) fun j' p' hj'=>?_;have ej:j'=j:=by
   have n:=Z1.mp (List.nodup_iff_pairwise_ne.mp g6);obtain⟨b1,c1⟩:=Zw.mp hj;obtain⟨b2,c2⟩:=Zw.mp hj';rcases Nat.lt_trichotomy j' j with z|z|z
   ·exact absurd (by rw[Yp,Yp,c1,c2]) (n j' j (by simpa using b2) (by simpa using b1) z)
   ·exact z
   ·exact absurd (by rw[Yp,Yp,c1,c2]) (n j j' (by simpa using b1) (by simpa using b2) z)
  subst ej;dsimp only;refine Za (Yk g1 g3 ?_);rw[show es'[j']?=some (entryOfKey knd (xs[x].1,p)) by rw[entry_at g4,hj];rfl];dsimp only;refine ZV (he _ ?_);simp only[Bool.not_true,YA,if_false];refine Za (wpAny_dictEpoch h1 h3 ?_);rw[if_neg (by simp)];exact Zd ⟨rfl,rfl,x+1,hlt,rfl⟩
 ·rintro r s' ⟨rfl,rfl,_⟩;exact Zd h
theorem oZ{H:Hp}{kvs:List (List Key×V)}{xs:List (List Key×Addr×Value)}(r:KT H kvs xs):(∀{i:Nat} {x:List Key×Addr×Value},xs[i]?=some x->∃p,kvs[i]?=some p/\p.1=x.1/\RelV p.2 x.2.2)/\∀{i:Nat} {p:List Key×V},kvs[i]?=some p->∃x,xs[i]?=some x/\p.1=x.1/\RelV p.2 x.2.2:=by
 induction r with
 |nil=>exact⟨fun h=>by simp at h,fun h=>by simp at h⟩
 |@cons p q _ _ h _ ih =>
  refine⟨fun{i x} e=>?_,fun{i x} e=>?_⟩
  ·cases i with
   |zero=>cases e;exact⟨p,rfl,h.1,h.2.2⟩
   |succ i=>exact ih.1 e
  ·cases i with
   |zero=>cases e;exact⟨q,rfl,h.1,h.2.2⟩
   |succ i=>exact ih.2 e
section
variable{X:Cx}
def xf:R2:=fun x y H Q=>∃a b kvs gvs,x=.ref a/\y=.ref b/\Rd H a (.dT kvs)/\Rd H b (.dT gvs)/\kvs.length=gvs.length /\
 (∀(i:Nat) (p:List Key×V),kvs[i]?=some p->∃(j:Nat) (v:V) (dx dy:PyData),gvs[j]?=some (p.1,v)/\Dt H dx p.2/\Dt H dy v/\dx.canLay0=true/\dy.canLay0=true/\dx.depth<=60/\PyData.eqv dx dy=true)/\Q (.bl true) H
theorem yh(hu:X.A.units+64<cLine):OpR X (compareOp .Eq) xf:=by
 intro pins s σ H x y v u Q I rx ry h;obtain⟨a,b,kvs,gvs,rfl,rfl,ha,hb,hl,hall,q⟩:=h;cases rx;cases ry;obtain⟨_,da,xs,ra,ma⟩:=eP I.hok ha;obtain⟨_,db,ys,rb,mb⟩:=eP I.hok hb;have ta:=ma.typeIs;have tb:=mb.typeIs;show wpAny _ _ (richCompare .Eq (.ref a) (.ref b)) _ _ s;refine wpAny_richCompare_same_room (op:=.Eq) ta tb PySem.F.slot_dict_eq (y0 PySem.F.slot_dict_eq ta PySem.F.entry_dict_eq ?_ (PySem.F.args_dict_eq_2 _ _)) (by omega);show wpAny _ _ (Builtin.Dict.dictSlotArgs "__eq__" ⟨[.ref a,.ref b],[]⟩ >>= _) _ _ s;refine Za ?_;unfold Builtin.Dict.dictSlotArgs;refine Za (wpAny_notOrdered_dict ta ?_);show wpAny _ _ (pure (Value.ref a,Value.ref b)) _ _ s;refine Zd ?_;refine Za (wpAny_isInstance (T:="dict") (b:=true) tb PySem.F.sub_dict_dict ?_);simp only[Bool.not_true,YA,if_false];refine Za (Zd ?_);refine Za (Zd ?_);refine Za (rh (knd:=tupleKind (aZ X.prog X.w)) _ ?room da db ma mb (by rw[<-ZO ra,<-ZO rb];exact hl) (fun i x hx=>?each) ?fin)
 case room=>show _<cLine;simp;omega
 case fin=>exact Zd ⟨_,rfl,(fun e=>nomatch e),.bl true,H,I,rfl,q⟩
 case each =>obtain⟨p,hp,e1,r1⟩:=(oZ ra).1 hx;obtain⟨j,v,dx,dy,hj,d1,d2,c1,c2,c3,c4⟩:=hall i p hp;obtain⟨y,hy,e2,r2⟩:=(oZ rb).2 hj;obtain⟨as,g1⟩:=Dt.reads I.hok dx _ _ d1 r1;obtain⟨bs,g2⟩:=Dt.reads I.hok dy _ _ d2 r2;refine⟨j,y.2,by rw[hy,<-e1,e2],fun Q' hq=>SeqAt.eqBoolOverData _ _ _ _ _ _ _ dx dy as bs _ g1 g2 c1 c2 ?_ (by rw[c4];exact hq)⟩;have:=Nat.min_le_left dx.depth dy.depth;simp;omega
theorem Ax(hu:X.A.units+64<cLine):QOp X (compareOp .Eq) xf:=⟨yh hu⟩
end
theorem lO{prog:Program}{w:World}{d:Addr}(hd:(d==sysModules)=false)(es:Array DictEntry)(ep:Nat) :
  MeetsIn prog w (Builtin.«dict.__len__» ⟨[.ref d],[]⟩) (fun _ R s=>DRaw s.heap d es ep/\R (.ok (.ret (.int es.size s.toks))) { s with toks:=s.toks+1 }) :=
 .of_wp fun A R s ⟨hm,h⟩=>by obtain⟨o,ho,hc,hdat⟩:=hm;show wpAny _ _ (dictSize d >>= _) _ _ s;unfold dictSize;refine Za (Za (Yk ho hdat (Zd ?_)));show wpAny _ _ (Builtin.Dict.pendingCount d >>= _) _ _ s;refine Za (wpAny_pendingCount_other hd ?_);refine wpAny_ret_mkInt ?_;rw[Nat.add_zero];exact h
theorem mD{prog:Program}{w:World}{A:Around}{E:Value->Shared->Prop}{s:Shared}{d:Addr}{es:Array DictEntry}{ep:Nat}{Q:Value->Shared->Prop}(hd:(d==sysModules)=false)(hm:DRaw s.heap d es ep)(hfit:(es.size:Int)<2^63)(h:Q (.int es.size (s.toks+1)) { s with toks:=s.toks+1+1 }):wpAny (model prog w) A (call (.builtin "len") [.ref d]) Q E s:=by
 refine Calls.call_function_entry kind_len plain_len entry_len (args_len1 _) ?_;unfold Builtin.«len»;refine Za (m:=oneArg "len" _) (Zd ?_);refine Za (m:=callSpecial? (.ref d) (Str.ofString "__len__")) (ZT (name:=Str.ofString "__len__") hm.type F.slot_dict_len
  (call_meetsIn F.slot_dict_len hm.type F.entry_dict_len (F.args_dict_len_1 _) (lO hd es ep) ⟨hm,?_⟩))
 show wpAny _ _ _ _ _ { s with toks:=s.toks+1 };refine Za (ZV (Zd ?_));refine Za (wpAny_letGo ?_);show wpAny _ _ (if((es.size:Nat):Int)<0 then _ else _) _ _ _;rw[if_neg (by omega)];show wpAny _ _ (if((es.size:Nat):Int)>=2^63 then _ else _) _ _ _;rw[if_neg (by omega)];exact Za (wpAny_mkInt (Zd ⟨_,rfl,h⟩))
section
variable{X:Cx}
theorem rN:cE X (.builtin "len") (fun xs H Q=>∃a kvs,xs=[V.ref a]/\Rd H a (.dT kvs)/\Q (.int kvs.length) H):=by intro pins s σ H xs us Q I r h;obtain⟨a,kvs,rfl,ha,q⟩:=h;obtain⟨u,rfl,ru⟩:=cQ r;cases ru;obtain⟨z,hd,ys,rel,o,es,ep,h1,h2,h3,h4,_,_⟩:=eP I.hok ha;have e:es.size=kvs.length:=(size_of_entries h4).trans (ZO rel).symm;refine mD hd ⟨o,h1,h2,h3⟩ (by rw[e];rw[sizeLine_eq]at z;omega) ?_;rw[e];exact⟨.int kvs.length,H,I.tok _,⟨_,rfl⟩,q⟩
theorem zO:QCall X (.builtin "len") (fun xs H Q=>∃a kvs,xs=[V.ref a]/\Rd H a (.dT kvs)/\Q (.int kvs.length) H):=⟨rN⟩
end
end L2
set_option maxRecDepth 100000
set_option maxHeartbeats 4000000
namespace K32
open PySem L2
open PyProof.Rows (envOfC)
def top(i:Nat):Stmt:=PySem.Challenge.pw_limb_k32_rings_give_way.main.body.getD i (.Pass ⟨0,0,0,0⟩)
def tw(l:List Str):TV:=.tup (l.map V.str)
theorem cxK{CX:CXT}{N:List Str}{qual:Str}{scope:Scope}{f:Addr}{cd:Value}{A:Around}{outer:List Env}{s:Shared}{H:Hp}{E:XK}:(dD CX P w K mg base N qual scope f cd A outer s H E).nox.K=K:=rfl
theorem vix{K:PySem.W.Frag}{i:Nat}{n:Int}{σ:St}{H:Hp}{Q:VK}{a:Addr}{xs:List V}{v:V}(hv:σ[i]?=some (some (.ref a)))(hs:SqT K H a xs)(ha:atI xs n=some v)(q:Q v H):tOp (nC K) (rB i) (tC (.int n)) σ H Q:=⟨_,hv,a,_,_,_,rfl,rfl,hs,ha,q⟩
theorem wB{K:PySem.W.Frag}{i:Nat}{n m:Int}{σ:St}{H:Hp}{Q:VK}{a b:Addr}{xs ys:List V}{v:V}(hv:σ[i]?=some (some (.ref a)))(hs:SqT K H a xs)(ha:atI xs n=some (.ref b))(ht:SqT K H b ys)(hb:atI ys m=some v)(q:Q v H):tOp (nC K) (tOp (nC K) (rB i) (tC (.int n))) (tC (.int m)) σ H Q:=⟨_,hv,a,_,_,_,rfl,rfl,hs,ha,b,_,_,_,rfl,rfl,ht,hb,q⟩
theorem gE{K:PySem.W.Frag}{a:Addr}{xs:List V}{g:TG}{tb:L2.TS}{D:Ends}{σ:St}{H:Hp}(Pv:Nat->St->Hp->Prop)(h0:Pv 0 σ H)(hl:∀i σ H,i<=xs.length->Pv i σ H->SqL K H a xs)(hs:∀i x σ H,xs[i]?=some x->Pv i σ H->∀D':Ends,(∀σ' H',Pv (i+1) σ' H'->D'.nx σ' H')->g x σ H fun σ2 H2=>tb D' σ2 H2)(hd:∀σ H,Pv xs.length σ H->D.nx σ H) :
  ∃W:Nat->Nat->St->Hp->Prop,(∃m,W 0 m σ H)/\∀i m σ H,W i m σ H ->
   ((Itl K a).stop i H/\D.nx σ H)\/((Itl K a).go i H/\∃N:St->Hp->Prop,(∀σ' H',N σ' H'->∃m',m'<m/\W (i+1) m' σ' H')/\∀x H',(Itl K a).yld i H x H'->g x σ H' fun σ2 H2=>tb { D with nx:=N,ct:=N,bk:=D.nx } σ2 H2) :=
 mO Pv h0 hl (fun i x σ H a b=>hs i x σ H a b _ fun _ _ z=>z) hd
theorem se{K:PySem.W.Frag}{a:Addr}{xs:List V}{j:Nat}{tb:L2.TS}{D:Ends}{σ:St}{H:Hp}(Pv:Nat->St->Hp->Prop)(h0:Pv 0 σ H)(hl:∀i σ H,i<=xs.length->Pv i σ H->SqL K H a xs)(hs:∀i x σ H,xs[i]?=some x->Pv i σ H->∀D':Ends,(∀σ' H',Pv (i+1) σ' H'->D'.nx σ' H')->tb D' (σ.set j (some x)) H)(hd:∀σ H,Pv xs.length σ H->D.nx σ H) :
  ∃W:Nat->Nat->St->Hp->Prop,(∃m,W 0 m σ H)/\∀i m σ H,W i m σ H ->
   ((Itl K a).stop i H/\D.nx σ H)\/((Itl K a).go i H/\∃N:St->Hp->Prop,(∀σ' H',N σ' H'->∃m',m'<m/\W (i+1) m' σ' H')/\∀x H',(Itl K a).yld i H x H'->br j x σ H' fun σ2 H2=>tb { D with nx:=N,ct:=N,bk:=D.nx } σ2 H2) :=
 gE Pv h0 hl hs hd
theorem qv{lo:Int}{n:Nat}{g:TG}{tb:L2.TS}{D:Ends}{σ:St}{H:Hp}(Pv:Nat->St->Hp->Prop)(h0:Pv 0 σ H)(hs:∀i σ H,i<n->Pv i σ H->∀D':Ends,(∀σ' H',Pv (i+1) σ' H'->D'.nx σ' H')->g (.int (lo+i)) σ H fun σ2 H2=>tb D' σ2 H2)(hd:∀σ H,Pv n σ H->D.nx σ H) :
  ∃W:Nat->Nat->St->Hp->Prop,(∃m,W 0 m σ H)/\∀i m σ H,W i m σ H ->
   ((Itr lo n).stop i H/\D.nx σ H)\/((Itr lo n).go i H/\∃N:St->Hp->Prop,(∀σ' H',N σ' H'->∃m',m'<m/\W (i+1) m' σ' H')/\∀x H',(Itr lo n).yld i H x H'->g x σ H' fun σ2 H2=>tb { D with nx:=N,ct:=N,bk:=D.nx } σ2 H2) :=
 sh Pv h0 (fun i σ H a b=>hs i σ H a b _ fun _ _ z=>z) hd
theorem cW{A:(St->Hp->Prop)->Prop}{B:St->Hp->Prop}(J:St->Hp->Prop)(h1:∀R:St->Hp->Prop,(∀σ H,J σ H->R σ H)->A R)(h2:∀σ H,J σ H->B σ H):∃R,A R/\∀σ H,R σ H->B σ H:=⟨J,h1 J fun _ _ z=>z,h2⟩
theorem aq{t u:L2.TS}{D:Ends}{σ:St}{H:Hp}(h:∀R:Ends,(∀σ' H',u D σ' H'->R.nx σ' H')->t R σ H):wm t u D σ H:=h { D with nx:=u D } fun _ _ z=>z
theorem rZ{K:PySem.W.Frag}{a:Addr}{xs:List V}{i j:Nat}{tb:L2.TS}{D:Ends}{σ:St}{H:Hp}(Pv:Nat->St->Hp->Prop)(h0:Pv 0 σ H)(ha:∀i σ H,i<=xs.length->Pv i σ H->SqL K H a xs)(hs:∀k x σ H,xs[k]?=some x->Pv k σ H->∀D':Ends,(∀σ' H',Pv (k+1) σ' H'->D'.nx σ' H')->∀T,H T=none->tb D' ((σ.set i (some (.int k))).set j (some x)) (upd H T (.tup [.int k,x])))(hd:∀σ H,Pv xs.length σ H->D.nx σ H) :
  ∃W:Nat->Nat->St->Hp->Prop,(∃m,W 0 m σ H)/\∀k m σ H,W k m σ H ->
   ((Ite K a xs).stop k H/\D.nx σ H)\/((Ite K a xs).go k H/\∃N:St->Hp->Prop,(∀σ' H',N σ' H'->∃m',m'<m/\W (k+1) m' σ' H')/\∀x H',(Ite K a xs).yld k H x H'->iR K 2 (di (br i) (di (br j) iQ)) x σ H' fun σ2 H2=>tb { D with nx:=N,ct:=N,bk:=D.nx } σ2 H2) :=
 uW Pv h0 ha (fun k x σ H a b T c=>hs k x σ H a b _ (fun _ _ z=>z) T c) hd
def ST:List (Str×TV):=[("put",tw ["new","up","place","text"]),("move",tw ["item","up","place"]),("write",tw ["item","text"]),("mark",tw ["item","truth"]),("due",tw ["item","whom"]),("fold",tw ["item","truth"]),("part",tw ["item","at","new","place"]),("join",tw ["item","item"]),("gone",tw ["item"])]
def FC:List (Str×TV):=[("move",.flat (.int 0)),("write",.flat (.int 2)),("mark",.flat (.int 3)),("due",.flat (.int 4)),("fold",.flat (.int 5))]
theorem at0{x:V}{r:List V}:atI (x::r) 0=some x:=cS (xs:=x::r) (j:=0) rfl
theorem at1{x y:V}{r:List V}:atI (x::y::r) 1=some y:=cS (xs:=x::y::r) (j:=1) rfl
theorem at2{x y z:V}{r:List V}:atI (x::y::z::r) 2=some z:=cS (xs:=x::y::z::r) (j:=2) rfl
theorem at3{x y z u:V}{r:List V}:atI (x::y::z::u::r) 3=some u:=cS (xs:=x::y::z::u::r) (j:=3) rfl
theorem at4{x y z u v:V}{r:List V}:atI (x::y::z::u::v::r) 4=some v:=cS (xs:=x::y::z::u::v::r) (j:=4) rfl
theorem Cj:¬(("held":Str)="away"):=by decide +kernel
def kh(h a:Addr):List (Str×V):=bP "away" (.ref a) (bP "held" (.ref h) [])
theorem bS(h a:Addr):(kh h a).lookup ("held":Str)=some (.ref h):=by unfold kh;rw[bM,if_neg Cj,bM,if_pos rfl]
theorem xV(h a:Addr){m:Str}(h1:¬m="away")(h2:¬m="held"):(kh h a).lookup m=none:=by
 unfold kh;rw[bM,if_neg h1,bM,if_neg h2]
 all_goals rfl
structure PlainAt(C:Addr)(H:Hp)(p d g:Addr)(kvs gvs:List (List Key×V)):Prop where
 ob:∃dx,H p=some (.ins C dx (kh d g))
 dc:H d=some (.dT kvs)
 gc:H g=some (.dT gvs)
 ne:d≠g
theorem PlainAt.same{C:Addr}{H H':Hp}{p d g:Addr}{kvs gvs:List (List Key×V)}(x:PlainAt C H p d g kvs gvs)(s:Same H H'):PlainAt C H' p d g kvs gvs:=by obtain⟨⟨dx,h1⟩,h2,h3,h4⟩:=x;exact⟨⟨dx,s _ _ h1⟩,s _ _ h2,s _ _ h3,h4⟩
theorem PlainAt.put{C:Addr}{H:Hp}{p d g:Addr}{kvs gvs kvs':List (List Key×V)}(x:PlainAt C H p d g kvs gvs):PlainAt C (upd H d (.dT kvs')) p d g kvs' gvs:=by obtain⟨⟨dx,h1⟩,h2,h3,h4⟩:=x;exact⟨⟨dx,by rw[af (fU h1 h2 (by intro z;cases z))];exact h1⟩,ad,by rw[af (Z8 h4)];exact h3,h4⟩
def But(d:Addr)(H H':Hp):Prop:=∀b o,H b=some o->b≠d->H' b=some o
def NameIs(H:Hp)(v:V)(k:List Key):Prop:=∃b,v=.ref b/\H b=some (.tup (k.map kV))
theorem NameIs.same{H H':Hp}{v:V}{k:List Key}(x:NameIs H v k)(s:Same H H'):NameIs H' v k:=by obtain⟨b,h1,h2⟩:=x;exact⟨b,h1,s _ _ h2⟩
def pM(K:PySem.W.Frag):Sp:=fun vs H Q _=>∃(k:Str) (ws:List Str),vs=[.str k]/\PyProof.Rows.KTD.datumAt k ST=some (tw ws)/\∀t,(∀H',SqT K H' t (ws.map V.str))->Q (.ref t) H
def tV(C:Addr):Sp:=fun vs H Q _=>∃(p dx:Addr),vs=[.ref p]/\H p=some (.ins C dx [])/\∀(d g:Addr) (H':Hp),H d=none->H g=none->PlainAt C H' p d g [] []->(∀b o,H b=some o->b≠p->H' b=some o)->Q .non H'
def pH(C:Addr):Sp:=fun vs H Q _=>∃(p d g:Addr) (kvs gvs:List (List Key×V)) (nm up pl tx:V) (k:List Key),vs=[.ref p,nm,up,pl,tx]/\PlainAt C H p d g kvs gvs/\NameIs H nm k/\kvs.length<=500 /\
 ∀(t:Addr) (H':Hp),Same H H'->H' t=some (.tup [up,pl,tx,.bl false,.non,.bl false])->Q .non (upd H' d (.dT (aE kvs k (.ref t))))
def nP(C:Addr):Sp:=fun vs H Q _=>∃(p d g it va:Addr) (kvs gvs:List (List Key×V)) (nm:V) (k:List Key) (i:Nat) (xs ys:List V),vs=[.ref p,nm,.int (i:Int),.ref va]/\PlainAt C H p d g kvs gvs/\NameIs H nm k/\kvs.length<=500 /\
 bg kvs k=some (.ref it)/\H it=some (.tup xs)/\H va=some (.tup ys)/\i+ys.length<=xs.length/\xs.length<=100 /\
 ∀(t:Addr) (H':Hp),Same H H'->H' t=some (.tup (xs.take i++ys++xs.drop (i+ys.length)))->Q .non (upd H' d (.dT (aE kvs k (.ref t))))
def tS(K:PySem.W.Frag):Sp:=fun vs H Q _=>∃(a:Addr) (ns:List Int) (k:Int),vs=[.ref a,.int k]/\SqL K H a (ns.map V.int)/\0<=k/\Q (.int (ai ns k.toNat)) H
def me(K:PySem.W.Frag):Sp:=fun vs H Q _=>∃(a:Addr) (ns:List Int),vs=[.ref a]/\SqL K H a (ns.map V.int)/\ns.length<=63/\∀H',Q (.bl true) H'
structure Txt(K:PySem.W.Frag)(C:Addr):Prop where
 cl:Cls K C
 nH:NoAttr K C "held"
 nA:NoAttr K C "away"
section
variable{P:Program}{w:World}{K:PySem.W.Frag}{mg:Str->Option Value}{base:Heap}
abbrev eG:Stmt:=top 3
abbrev mB:List Str:=["word"]
theorem lU:FnScope mB ["word"] (aj eG):=⟨rfl,rfl,rfl,by decide +kernel,rfl,by decide +kernel,by decide +kernel⟩
theorem lS{f:Addr}{fd:FuncData}(F:Fun K "step_parts" "step_parts" eG f fd){dd:Addr}(g_STEP_PARTS:mg "STEP_PARTS" = some (.ref dd))(T:Tab K dd ST):FnOk P w K mg base CX0 1 f fd ["word"] (pM K):=by
 refine F.okQ lU (fun vs H Q E h=>?_) (fun cdv A outer s H vs Q E hr h=>?_)
 ·obtain⟨k,ws,rfl,_⟩:=h;rfl
 obtain⟨k,ws,rfl,hk,q⟩:=h;refine⟨_,(b_1 (aF (ao xD (Bt g_STEP_PARTS) (q_v 0)))),?_⟩
 try rw[cxK]
 exact⟨_,rfl,dd,k,ST,tw ws,rfl,rfl,T,hk,q⟩
abbrev eC:Stmt:=bD (top 16) 0
abbrev mt:List Str:=["self"]
theorem lT:FnScope mt ["self"] (aj eC):=⟨rfl,rfl,rfl,by decide +kernel,rfl,by decide +kernel,by decide +kernel⟩
theorem lP{f C:Addr}{fd:FuncData}(F:Fun K "__init__" "Plain.__init__" eC f fd)(T:Txt K C):FnOk P w K mg base CX0 1 f fd ["self"] (tV C):=by
 refine F.okQ lT (fun vs H Q E h=>?_) (fun cdv A outer s H vs Q E hr h=>?_)
 ·obtain⟨p,dx,rfl,_⟩:=h;rfl
 obtain⟨p,dx,rfl,hp,k⟩:=h;refine⟨_,(b_c (xm (q_v 0) jL)
   (b_1 (xm (q_v 0) jL))),?_⟩
 try rw[cxK]
 intro d hd;have npd:p≠d:=al hp hd;refine⟨_,rfl,p,C,dx,[],rfl,(by rw[af npd];exact hp),T.cl,T.nH,(by show 0<1000;decide),?_⟩;intro g hg;have hg0:H g=none:=by
  cases e:H g with
  |none=>rfl
  |some o =>
   have:g≠d:=al e hd;by_cases c:g=p
   ·subst c;rw[ad]at hg;cases hg
   ·rw[af c,af this,e]at hg;cases hg
 have ngp:g≠p:=fun z=>by rw[z,hp]at hg0;cases hg0
 have ngd:g≠d:=fun z=>by rw[z,af npd.symm,ad]at hg;cases hg
 refine⟨_,rfl,p,C,dx,_,rfl,(by rw[af ngp.symm,ad]),T.cl,T.nA,(by show 1<1000;decide),?_⟩;refine k d g _ hd hg0 ⟨⟨dx,ad⟩,by rw[af npd.symm,af ngd.symm,af npd.symm,ad],by rw[af ngp,ad],ngd.symm⟩ fun b o e hb=>?_;rw[af hb,af (al e hg0),af hb,af (al e hd)];exact e
abbrev cz:Stmt:=bD (top 16) 4
abbrev iM:List Str:=["self","name","up","place","text"]
theorem iA:FnScope iM ["self","name","up","place","text"] (aj cz):=⟨rfl,rfl,rfl,by decide +kernel,rfl,by decide +kernel,by decide +kernel⟩
theorem ix{f C:Addr}{fd:FuncData}(F:Fun K "bring_in" "Plain.bring_in" cz f fd)(T:Txt K C):FnOk P w K mg base CX0 1 f fd ["self","name","up","place","text"] (pH C):=by
 refine F.okQ iA (fun vs H Q E h=>?_) (fun cdv A outer s H vs Q E hr h=>?_)
 ·obtain⟨p,d,g,kvs,gvs,nm,up,pl,tx,k,rfl,_⟩:=h;rfl
 obtain⟨p,d,g,kvs,gvs,nm,up,pl,tx,k,rfl,S,hn,hl,q⟩:=h;obtain⟨⟨dx,h1⟩,h2,h3,h4⟩:=id S;refine⟨_,(b_1 (fw hr.units (eU (q_v 0)) (q_v 1) (aA (q_a (q_v 2) (q_a (q_v 3) (q_a (q_v 4) (q_a kC (q_a bz (q_a kC ah))))))))),?_⟩
 try rw[cxK]
 refine⟨_,rfl,_,rfl,_,rfl,sz rfl,fun t ht=>?_⟩;have sm:=ae ht (.tup [up,pl,tx,.bl false,.non,.bl false]);obtain⟨b,rfl,hb⟩:=hn;exact⟨_,rfl,p,C,dx,_,_,rfl,sm _ _ h1,T.cl,T.nH,bS _ _,_,rfl,d,_,rfl,DPut.t (sm _ _ h2) (sm _ _ hb) (aP (by omega)),q t _ sm ad⟩
abbrev cY:Stmt:=bD (top 16) 5
abbrev jT:List Str:=["self","name","first","values","item"]
theorem eW:FnScope jT ["self","name","first","values"] (aj cY):=⟨rfl,rfl,rfl,by decide +kernel,rfl,by decide +kernel,by decide +kernel⟩
theorem jG{f C:Addr}{fd:FuncData}(F:Fun K "change" "Plain.change" cY f fd)(T:Txt K C)(z_len:mg "len" = none):FnOk P w K mg base CX0 1 f fd ["self","name","first","values"] (nP C):=by
 refine F.okQ eW (fun vs H Q E h=>?_) (fun cdv A outer s H vs Q E hr h=>?_)
 ·obtain⟨p,d,g,it,va,kvs,gvs,nm,k,i,xs,ys,rfl,_⟩:=h;rfl
 obtain⟨p,d,g,it,va,kvs,gvs,nm,k,i,xs,ys,rfl,S,hn,hl,hv,hit,hva,hi,hx,q⟩:=h;obtain⟨⟨dx,h1⟩,h2,h3,h4⟩:=id S;obtain⟨b,rfl,hb⟩:=hn;refine⟨_,(b_c (au (i:=4) eW.nd (fu hr.units (eU (q_v 0)) (q_v 1)))
   (b_1 (fw hr.units (eU (q_v 0)) (q_v 1) (ay dr (ay dr (dY cK (q_v 4) fe (dF (q_v 2))) (q_v 3)) (dY cK (q_v 4) (dF (ay cv (q_v 2) (q_B wK z_len PySem.boot_len (q_a (q_v 3) ah)))) fe))))),?_⟩
 try rw[cxK]
 refine⟨_,rfl,p,C,dx,_,_,rfl,h1,T.cl,T.nH,bS _ _,_,rfl,d,_,rfl,hv▸DGet.t h2 hb,?_⟩;refine⟨_,rfl,_,rfl,_,rfl,it,xs,rfl,hit,fun t1 H1 s1 e1=>?_⟩;have c1:bO xs none (some (i:Int))=xs.take i:=by unfold bO;rw[HT.sIx_none,HT.sIx_nat,List.drop_zero,Nat.sub_zero,Nat.min_eq_left (by omega)]
 rw[c1]at e1;refine⟨_,rfl,t1,va,_,_,rfl,rfl,e1,s1 _ _ hva,dA (by rw[ZL];omega),fun t2 H2 s2 e2=>?_⟩;refine⟨_,rfl,_,rfl,_,rfl,va,ys,rfl,.inr (SqT.of (s2 _ _ (s1 _ _ hva))),_,_,rfl,rfl,_,rfl,it,xs,rfl,s2 _ _ (s1 _ _ hit),fun t3 H3 s3 e3=>?_⟩;have c2:bO xs (some ((i:Int)+(ys.length:Int))) none=xs.drop (i+ys.length):=by unfold bO;rw[HT.sIx_none,show(i:Int)+(ys.length:Int)=((i+ys.length:Nat):Int) by omega,HT.sIx_nat,Nat.min_eq_left hi,ZN (by rw[Z9];omega)]
 rw[c2]at e3;refine⟨t2,t3,_,_,rfl,rfl,s3 _ _ e2,e3,dA (by rw[Zo,ZL,Z9];omega),fun t4 H4 s4 e4=>?_⟩;have sm:Same H H4:=s1.trans (s2.trans (s3.trans s4));exact⟨_,rfl,p,C,dx,_,_,rfl,sm _ _ h1,T.cl,T.nH,bS _ _,_,rfl,d,_,rfl,DPut.t (sm _ _ h2) (sm _ _ hb) (aP (by omega)),q t4 _ sm e4⟩
theorem Cl(w:Str):inV (.str w) [.str "item",.str "up"]=decide (w="item"\/w="up"):=by
 unfold inV eqV;by_cases h1:w="item"
 ·subst h1;simp
 ·by_cases h2:w="up"
  ·subst h2;simp
  ·simp[h1,h2,Z8 h1,Z8 h2]
abbrev bQ:Stmt:=bD (top 16) 2
abbrev gl:List Str:=["self","step","kinds","kind","name"]
theorem aR:FnScope gl ["self","step"] (aj bQ):=⟨rfl,rfl,rfl,by decide +kernel,rfl,by decide +kernel,by decide +kernel⟩
def BJ(cN:Addr):Sp:=fun vs H Q _=>∃(e t:Addr) (v:V),vs=[.ref e,v]/\H e=some (exN e cN t none)/\∀d,H d=none->Q .non (upd (upd H d (.xd [("name",v)])) e (exN e cN t (some d)))
abbrev dG:Stmt:=bD (top 7) 0
abbrev lH:List Str:=["self","name"]
theorem kK:FnScope lH ["self","name"] (aj dG):=⟨rfl,rfl,rfl,by decide +kernel,rfl,by decide +kernel,by decide +kernel⟩
theorem kr{f cN:Addr}{fd:FuncData}(F:Fun K "__init__" "NoItem.__init__" dG f fd)(S:ExS K cN)(n:NoAttr K cN "name"):FnOk P w K mg base CX0 1 f fd ["self","name"] (BJ cN):=by
 refine F.okQ kK (fun vs H Q E h=>?_) (fun cdv A outer s H vs Q E hr h=>?_)
 ·obtain⟨e,t,v,rfl,_⟩:=h;rfl
 obtain⟨e,t,v,rfl,he,q⟩:=h;refine⟨_,(b_1 (BF (q_v 0) (q_v 1))),?_⟩
 try rw[cxK]
 exact⟨_,rfl,_,rfl,e,cN,t,rfl,he,S,n,q⟩
theorem uK{H1:Hp}{ea t d cN:Addr}{v:V}(h1:H1 ea=none)(hd:upd H1 ea (exN ea cN t none) d=none) :
  Same H1 (del (upd (upd (upd H1 ea (exN ea cN t none)) d (.xd [("name",v)])) ea (exN ea cN t (some d))) ea)/\del (upd (upd (upd H1 ea (exN ea cN t none)) d (.xd [("name",v)])) ea (exN ea cN t (some d))) ea d=some (.xd [("name",v)]):=by
 have nde:d≠ea:=fun z=>by rw[z,ad]at hd;cases hd
 refine⟨fun b o e=>?_,?_⟩
 ·have hb:b≠ea:=al e h1;have hbd:b≠d:=fun z=>by rw[<-z,af hb,e]at hd;cases hd
  rw[cH hb,af hb,af hbd,af hb];exact e
 ·rw[cH nde,af nde,ad]
def PartB(H:Hp)(kvs:List (List Key×V))(w:Str)(v:V)(b:Bool):Prop :=
 (w="new"->∃k,NameIs H v k/\b=!(bg kvs k).isSome)/\((w="item"\/w="up")->(v=.non/\b=true)\/∃k,NameIs H v k/\b=(bg kvs k).isSome)
theorem PartB.same{H H':Hp}{kvs:List (List Key×V)}{w:Str}{v:V}{b:Bool}(x:PartB H kvs w v b)(s:Same H H'):PartB H' kvs w v b :=
 ⟨fun e=>let⟨k,a,c⟩:=x.1 e;⟨k,a.same s,c⟩,fun e=>(x.2 e).imp id fun⟨k,a,c⟩=>⟨k,a.same s,c⟩⟩
def isI(w:Str):Prop:=w="item"\/w="up"
def nQ(C cT cN:Addr):Sp:=fun vs H Q E=>∃(p d g st:Addr) (kvs gvs:List (List Key×V)) (w:Str) (ws:List Str) (ps:List V) (bs:List Bool),vs=[.ref p,.ref st]/\PlainAt C H p d g kvs gvs/\H st=some (.tup (.str w::ps)) /\
 PyProof.Rows.KTD.datumAt w ST=some (tw ws)/\ws.length=ps.length/\bs.length=ps.length/\(∀(i:Nat) (w:Str) (v:V) (b:Bool),ws[i]?=some w->ps[i]?=some v->bs[i]?=some b->PartB H kvs w v b) /\
 ((∃i:Nat,ws[i]?=some "new"/\bs[i]?=some false)->∀H',Same H H'->E (.ref cT) none H') /\
 ((∀ i:Nat,ws[i]? = some "new"->bs[i]? = some true)->((∀ (i:Nat) (w:Str),ws[i]? = some w->isI w->bs[i]? = some true)->∀ H',Same H H'->Q .non H') /\
  ∀ (i:Nat) (w:Str) (v:V),ws[i]? = some w->ps[i]? = some v->isI w->bs[i]? = some false->(∀ (j:Nat) (w':Str),j<i->ws[j]? = some w'->isI w'->bs[j]? = some true)->∀ H' dd,Same H H'->H' dd=some (.xd [("name",v)])->E (.ref cN) (some dd) H')
theorem fm{f C cT cN:Addr}{fd:FuncData}{bm:List Value}(F:Fun K "check_names" "Plain.check_names" bQ f fd)(T:Txt K C)(F_step_parts:Fn P w K mg base 1 "step_parts" ["word"] (pM K))(z_zip:mg "zip" = none)(x_Taken:ExCls K cT)(g_Taken:mg "Taken" = some (.ref cT))(xi_NoItem:ExI P w K mg base 1 cN bm ["self","name"] (BJ cN))(g_NoItem:mg "NoItem" = some (.ref cN)):FnOk P w K mg base (CXr P w) 3 f fd ["self","step"] (nQ C cT cN):=by
 refine F.okX aR (fun vs H Q E h=>?_) (fun cdv A outer s H vs Q E hr h=>?_)
 ·obtain⟨p,d,g,st,kvs,gvs,wd,ws,ps,bs,rfl,_⟩:=h;rfl
 obtain⟨p,d,g,st,kvs,gvs,wd,ws,ps,bs,rfl,S,hst,hk,l1,l2,ok,qT,qN⟩:=h;obtain⟨⟨dx,h1⟩,h2,h3,h4⟩:=id S;refine⟨_,(b_c (au (i:=2) aR.nd (aU F_step_parts (hr.mono (by decide)) (q_a (ao am (q_v 1) ag) ah)))
   (b_c (xn bI (dO (jK rfl rfl) rfl (wQ z_zip (q_a (q_v 2) (q_a (dY cK (q_v 1) (dF ag) fe) ah))) (jr rfl (cJ (aM (i:=3) aR.nd) (cJ (aM (i:=4) aR.nd) ki))) (b_1 (bf (t_w (dk (aI cg (q_v 3) aw) (dB (CM hr.units (q_v 4) (eU (q_v 0)))))) (b_1 (io (cL iH) rfl x_Taken g_Taken (q_a aw ah))) b_0))))
   (b_1 (xn bI (dO (jK rfl rfl) rfl (wQ z_zip (q_a (q_v 2) (q_a (dY cK (q_v 1) (dF ag) fe) ah))) (jr rfl (cJ (aM (i:=3) aR.nd) (cJ (aM (i:=4) aR.nd) ki))) (b_1 (bf (t_w (dk (aI (qQ (K:=K) rfl) (q_v 3) (aA (q_a aw (q_a aw ah)))) (dk (aI du (q_v 4) bz) (dB (wn hr.units (q_v 4) (eU (q_v 0))))))) (b_1 (vY iH rfl xi_NoItem (hr.mono (by decide)) g_NoItem (q_a (q_v 4) ah))) b_0))))))),?_⟩
 try rw[cxK]
 refine(vix rfl (SqT.of hst) at0 ⟨wd,ws,rfl,hk,fun t ht=>?_⟩);have c1:bO (V.str wd::ps) (some 1) none=ps:=by unfold bO;rw[HT.sIx_none,show(1:Int)=((1:Nat):Int)from rfl,HT.sIx_nat];simp
 have lw:(ws.map V.str).length=ps.length:=by rw[Zh];exact l1
 have item:∀{i:Nat} {x:V},(ws.map V.str)[i]?=some x->∃w',ws[i]?=some w'/\x=.str w':=fun{i x} hx=>by rw[Z6]at hx;obtain⟨w',e1,e2⟩:=Option.map_eq_some_iff.mp hx;exact⟨w',e1,e2.symm⟩
 have bat:∀{i:Nat} {v:V},ps[i]?=some v->∃b,bs[i]?=some b:=fun{i v} hv=>by
  have hi:i<bs.length:=by rw[l2];exact(Zw.mp hv).1
  exact⟨_,Zf hi⟩
 refine⟨_,rfl,_,rfl,_,rfl,st,_,rfl,hst,fun z H1 s1 e1=>?_⟩;rw[c1]at e1;refine⟨t,z,_,_,rfl,ht _,SqT.of e1,lw,?_⟩;refine oV (i:=3) (j:=4) (fun i σ H'=>Same H H'/\H' z=some (.tup ps)/\(∀j:Nat,j<i->ws[j]?=some "new"->bs[j]?=some true)/\∃o3 o4,σ=[some (.ref p),some (.ref st),some (.ref t),o3,o4]) ⟨s1,e1,(fun j hj=>by omega),none,none,rfl⟩ (fun _ _ _ _ _=>ht _) (fun _ _ _ _ v=>SqT.of v.2.1) lw ?_ ?_
 ·rintro i x v σ H' hx hv ⟨sm,ez,pre,o3,o4,rfl⟩ T' gT;have wT:=ae gT (.tup [x,v]);obtain⟨w',hw,rfl⟩:=item hx;obtain⟨b,hb⟩:=bat hv;have sm':=sm.trans wT;have pb:=(ok i w' v b hw hv hb).same sm';refine⟨_,rfl,rfl,_,rfl,km (fun c=>?_) (fun c=>?_)⟩
  ·injection c with c;subst c;obtain⟨k,⟨nb,rfl,hnb⟩,hbv⟩:=pb.1 rfl;refine⟨_,rfl,_,rfl,p,C,dx,_,_,rfl,sm' _ _ h1,T.cl,T.nH,bS _ _,d,_,rfl,DGet.t (sm' _ _ h2) hnb,_,rfl,?_⟩;cases hs:(bg kvs k).isSome with
   |true =>rw[hs]at hbv;subst hbv;refine bt ?_;exact⟨sz rfl,qT ⟨i,hw,hb⟩ _ sm'⟩
   |false =>
    rw[hs]at hbv;subst hbv;refine aL ⟨sm',wT _ _ ez,fun j hj hw'=>?_,_,_,rfl⟩;by_cases c2:j=i
    ·rw[c2];exact hb
    ·exact pre j (by omega) hw'
  ·refine aL ⟨sm',wT _ _ ez,fun j hj hw'=>?_,_,_,rfl⟩;by_cases c2:j=i
   ·rw[c2,hw]at hw';exact absurd (Yx V.str (Zu hw')) c
   ·exact pre j (by omega) hw'
 ·rintro σ H' ⟨sm,ez,pre,o3,o4,rfl⟩;have all:∀i:Nat,ws[i]?=some "new"->bs[i]?=some true:=fun i hi=>pre i (by rw[Zh];exact(Zw.mp hi).1) hi;obtain⟨qok,qni⟩:=qN all;refine⟨_,rfl,_,rfl,_,rfl,st,_,rfl,sm _ _ hst,fun z' H2 s2 e2=>?_⟩;rw[c1]at e2;refine⟨t,z',_,_,rfl,ht _,SqT.of e2,lw,?_⟩;refine oV (i:=3) (j:=4) (fun i σ H'=>Same H H'/\H' z'=some (.tup ps)/\(∀(j:Nat) (w':Str),j<i->ws[j]?=some w'->isI w'->bs[j]?=some true)/\∃o3 o4,σ=[some (.ref p),some (.ref st),some (.ref t),o3,o4]) ⟨sm.trans s2,e2,(fun j _ hj=>by omega),o3,o4,rfl⟩ (fun _ _ _ _ _=>ht _) (fun _ _ _ _ v=>SqT.of v.2.1) lw ?_ ?_
  ·rintro i x v σ H' hx hv ⟨sm,ez,pre2,o3,o4,rfl⟩ T' gT;have wT:=ae gT (.tup [x,v]);obtain⟨w',hw,rfl⟩:=item hx;obtain⟨b,hb⟩:=bat hv;have sm':=sm.trans wT;refine⟨_,rfl,sz rfl,fun u gu=>?_⟩;have wu:=ae gu (.tup [.str "item",.str "up"]);have sm2:=sm'.trans wu;have pb:=(ok i w' v b hw hv hb).same sm2;refine⟨u,_,rfl,.inr (SqT.of ad),rfl,rfl,_,rfl,?_⟩;have ei:(if false=true then !inV (V.str w') [.str "item",.str "up"]else inV (V.str w') [.str "item",.str "up"])=decide (w'="item"\/w'="up"):=Cl w';have step:bs[i]?=some true->∀(j:Nat) (w'':Str),j<i+1->ws[j]?=some w''->isI w''->bs[j]?=some true:=fun hbt j w'' hj hw'' hi=>by
    by_cases c2:j=i
    ·rw[c2];exact hbt
    ·exact pre2 j w'' (by omega) hw'' hi
   rw[ei];refine km (fun c=>?_) (fun c=>?_)
   ·rcases pb.2 c with⟨rfl,rfl⟩|⟨k,⟨nb,rfl,hnb⟩,hbv⟩
    ·refine⟨_,rfl,rfl,_,rfl,hU rfl ?_⟩;exact aL ⟨sm2,wu _ _ (wT _ _ ez),step hb,_,_,rfl⟩
    ·refine⟨_,rfl,rfl,_,rfl,eS (by intro z;cases z) ?_⟩;refine⟨_,rfl,_,rfl,p,C,dx,_,_,rfl,sm2 _ _ h1,T.cl,T.nH,bS _ _,d,_,rfl,DGet.t (sm2 _ _ h2) hnb,_,rfl,?_⟩;cases hs:(bg kvs k).isSome with
     |true =>rw[hs]at hbv;subst hbv;exact aL ⟨sm2,wu _ _ (wT _ _ ez),step hb,_,_,rfl⟩
     |false =>rw[hs]at hbv;subst hbv;refine bt ?_;refine⟨_,rfl,sz rfl,fun ea tt' e1 e2 nt=>⟨ea,tt',_,rfl,ad,fun dd hdd=>⟨rfl,some dd,ad,?_⟩⟩⟩;obtain⟨a1,a2⟩:=uK (v:=V.ref nb) e1 hdd;exact qni i w' _ hw hv c hb pre2 _ dd (sm2.trans a1) a2
   ·refine aL ⟨sm2,wu _ _ (wT _ _ ez),fun j w'' hj hw'' hi=>?_,_,_,rfl⟩;by_cases c2:j=i
    ·rw[c2,hw]at hw'';cases hw'';exact absurd hi c
    ·exact pre2 j w'' (by omega) hw'' hi
  ·rintro σ H' ⟨sm,ez,pre2,o3,o4,rfl⟩;exact qok (fun i w' hw hi=>pre2 i w' (by rw[Zh];exact(Zw.mp hw).1) hw hi) H' sm
abbrev bG:Stmt:=bD (top 16) 12
abbrev fg:List Str:=["self","one","other"]
theorem cu:FnScope fg ["self","one","other"] (aj bG):=⟨rfl,rfl,rfl,by decide +kernel,rfl,by decide +kernel,by decide +kernel⟩
abbrev bJ:Stmt:=bD (top 16) 3
abbrev fF:List Str:=["self","step"]
theorem fB:FnScope fF ["self","step"] (aj bJ):=⟨rfl,rfl,rfl,by decide +kernel,rfl,by decide +kernel,by decide +kernel⟩
theorem fW(h a:Addr){m:Str}(h1:¬m="away":=by decide +kernel)(h2:¬m="held":=by decide +kernel):(kh h a).lookup m=none:=xV h a h1 h2
def TS(H H':Hp):Prop:=∀a zs,H a=some (.tup zs)->H' a=some (.tup zs)
theorem Same.ts{H H':Hp}(e:Same H H'):TS H H':=fun a zs h=>e a _ h
theorem gS{H:Hp}{d:Addr}{kvs kvs':List (List Key×V)}(h:H d=some (.dT kvs)):TS H (upd H d (.dT kvs')):=fun a zs e=>by rw[af (fU e h (by intro z;cases z))];exact e
theorem mX:∀ns:List Int,PyData.canLayAll0 (ns.map PyData.int)=true/\PyData.depthAll (ns.map PyData.int)=0
 | []=>⟨rfl,rfl⟩
 |n::ns=>by obtain⟨h1,h2⟩:=mX ns;simp only[Zz,PyData.canLayAll0,PyData.canLay0,PyData.depthAll,PyData.depth,h1,h2];exact⟨rfl,rfl⟩
theorem tR{d:PyData}(h1:d.canLay0=true)(h2:d.depth<=10):SeqAt.shaped d=true:=by unfold SeqAt.shaped;rw[ZB];exact⟨h1,decide_eq_true (by omega)⟩
theorem rq{l:List (List Key×V)}{k:List Key}(h:k∈l.map (·.1)):(bg l k).isSome=true:=by
 cases e:bg l k with
 |none=>exact absurd h (wz e)
 |some v=>rfl
theorem vQ{l:List (List Key×V)}{k:List Key}(v:V)(h:k∈l.map (·.1)):aE l k v=l.map (fun kv=>if kv.1=k then(kv.1,v)else kv):=by unfold aE;rw[if_pos];rw[df];exact rq h
abbrev Nm:=Int×Int
structure It where
 up:Option Nm
 pl:List Int
 tx:Str
 dn:Bool
 wh:Option Int
 fo:Bool
abbrev Ol:=List (Nm×It)
def nk(n:Nm):List Key:=[.inl n.1,.inl n.2]
theorem nj{n m:Nm}(h:nk n=nk m):n=m:=by unfold nk at h;injection h with h1 h2;injection h2 with h2 _;injection h1 with h1;injection h2 with h2;exact Prod.ext h1 h2
abbrev As(β:Type):=List (Nm×β)
def look{β:Type}:As β->Nm->Option β
 | [],_=>none
 |p::l,n=>if p.1=n then some p.2 else look l n
def aG{β:Type}(l:As β)(n:Nm)(i:β):As β:=if(look l n).isSome=true then l.map (fun p=>if p.1=n then(p.1,i)else p)else l++[(n,i)]
def UpAt(H:Hp)(v:V):Option Nm->Prop
 |none=>v=.non
 |some n=>NameIs H v (nk n)
def PlAt(H:Hp)(v:V)(ns:List Int):Prop:=∃b,v=.ref b/\H b=some (.tup (ns.map V.int))
def whV:Option Int->V
 |none=>.non
 |some i=>.int i
def ItAt(H:Hp)(v:V)(it:It):Prop:=∃(a:Addr) (uv pv:V),v=.ref a/\H a=some (.tup [uv,pv,.str it.tx,.bl it.dn,whV it.wh,.bl it.fo])/\UpAt H uv it.up/\PlAt H pv it.pl
theorem NameIs.ts'{H H':Hp}{v:V}{k:List Key}(x:NameIs H v k)(s:TS H H'):NameIs H' v k:=by obtain⟨b,h1,h2⟩:=x;exact⟨b,h1,s _ _ h2⟩
theorem UpAt.ts{H H':Hp}{v:V}{u:Option Nm}(x:UpAt H v u)(s:TS H H'):UpAt H' v u:=by
 cases u with
 |none=>exact x
 |some n=>exact NameIs.ts' x s
theorem PlAt.ts{H H':Hp}{v:V}{ns:List Int}(x:PlAt H v ns)(s:TS H H'):PlAt H' v ns:=by obtain⟨b,h1,h2⟩:=x;exact⟨b,h1,s _ _ h2⟩
theorem ItAt.ts{H H':Hp}{v:V}{it:It}(x:ItAt H v it)(s:TS H H'):ItAt H' v it:=by obtain⟨a,uv,pv,h1,h2,h3,h4⟩:=x;exact⟨a,uv,pv,h1,s _ _ h2,h3.ts s,h4.ts s⟩
abbrev Rws{β:Type}(R:V->β->Prop)(kvs:List (List Key×V))(ol:As β):Prop:=Paired (fun p q=>p.1=nk q.1/\R p.2 q.2) kvs ol
abbrev Rows(H:Hp)(kvs:List (List Key×V))(ol:Ol):Prop:=Rws (ItAt H) kvs ol
theorem Rows.ts{H H':Hp}{kvs:List (List Key×V)}{ol:Ol}(x:Rows H kvs ol)(s:TS H H'):Rows H' kvs ol:=Paired.mapP x fun _ _ z=>⟨z.1,z.2.ts s⟩
section
variable{β:Type}{R:V->β->Prop}{kvs:List (List Key×V)}{ol:As β}{n:Nm}{it:β}{v:V}
theorem gL(x:Rws R kvs ol)(h:look ol n=none):bg kvs (nk n)=none:=by
 induction x with
 |nil=>rfl
 |@cons p q _ _ r _ ih =>
  unfold look at h;by_cases c:q.1=n
  ·rw[if_pos c]at h;cases h
  ·rw[if_neg c]at h;rw[eO fun z=>c (nj (r.1.symm.trans z))];exact ih h
theorem bX(x:Rws R kvs ol)(h:look ol n=some it):∃v,bg kvs (nk n)=some v/\R v it:=by
 induction x with
 |nil=>cases h
 |@cons p q _ _ r _ ih =>
  unfold look at h;by_cases c:q.1=n
  ·rw[if_pos c]at h;cases h;exact⟨p.2,gh (r.1.trans (Yx nk c)),r.2⟩
  ·rw[if_neg c]at h;rw[eO fun z=>c (nj (r.1.symm.trans z))];exact ih h
theorem il(x:Rws R kvs ol):(bg kvs (nk n)).isSome=(look ol n).isSome:=by
 cases e:look ol n with
 |none=>rw[gL x e];rfl
 |some it =>obtain⟨v,h,_⟩:=bX x e;rw[h];rfl
theorem eA(x:Rws R kvs ol)(hv:R v it):Rws R (aE kvs (nk n) v) (aG ol n it):=by
 unfold aG;cases e:look ol n with
 |none =>rw[vP _ (gL x e),if_neg (by simp)];exact YD x ⟨rfl,hv⟩
 |some it0 =>
  obtain⟨v0,h0,_⟩:=bX x e;rw[vQ _ (zl h0),if_pos (show(some it0).isSome=true from rfl)];clear e h0;induction x with
  |nil=>exact .nil
  |@cons p q _ _ r _ ih =>
   rw[Zz,Zz];refine .cons ?_ ih;by_cases c:p.1=nk n
   ·rw[if_pos c,if_pos (nj (r.1.symm.trans c))];exact⟨r.1,hv⟩
   ·rw[if_neg c,if_neg fun z=>c (r.1.trans (Yx nk z))];exact r
theorem bW(x:Rws R kvs ol):kvs.length=ol.length:=ZO x
end
def OlAt(C:Addr)(H:Hp)(p d g:Addr)(ol:Ol):Prop:=∃kvs,PlainAt C H p d g kvs []/\Rows H kvs ol
theorem OlAt.same{C:Addr}{H H':Hp}{p d g:Addr}{ol:Ol}(x:OlAt C H p d g ol)(s:Same H H'):OlAt C H' p d g ol:=by obtain⟨kvs,h1,h2⟩:=x;exact⟨kvs,h1.same s,h2.ts (Same.ts s)⟩
theorem But.ts{d:Addr}{H H':Hp}{kvs:List (List Key×V)}(x:But d H H')(h:H d=some (.dT kvs)):TS H H':=fun a zs e=>x a _ e (fU e h (by intro z;cases z))
theorem But.put{d:Addr}{H H':Hp}(s:Same H H')(o:HO):But d H (upd H' d o):=fun b u h n=>by rw[af n];exact s _ _ h
theorem But.trans{d:Addr}{H H' H2:Hp}(x:But d H H')(y:But d H' H2):But d H H2:=fun b u h n=>y b u (x b u h n) n
theorem But.of{d:Addr}{H H':Hp}(s:Same H H'):But d H H':=fun b u h _=>s b u h
theorem sR{C:Addr}{H H':Hp}{p d g t:Addr}{kvs:List (List Key×V)}{ol:Ol}{n:Nm}{it:It}(S:PlainAt C H p d g kvs [])(R:Rows H kvs ol)(s:Same H H')(hi:ItAt H' (.ref t) it):OlAt C (upd H' d (.dT (aE kvs (nk n) (.ref t)))) p d g (aG ol n it):=by have td:TS H' (upd H' d (.dT (aE kvs (nk n) (.ref t)))):=gS (s _ _ S.dc);exact⟨_,(S.same s).put,Rows.ts (eA (Rows.ts R (Same.ts s)) hi) td⟩
inductive Und(ol:Ol)(o:Nm):Nat->Option Nm->Bool->Prop
 |none:Und ol o 0 none false
 |self:Und ol o 0 (some o) true
 |up {k:Nat} {n:Nm} {it:It} {b:Bool}:n≠o->look ol n=some it->Und ol o k it.up b->Und ol o (k+1) (some n) b
def pO(C:Addr):Sp:=fun vs H Q _=>∃(p d g:Addr) (ol:Ol) (u v:V) (one:Option Nm) (o:Nm) (k:Nat) (b:Bool),vs=[.ref p,u,v]/\OlAt C H p d g ol/\UpAt H u one/\NameIs H v (nk o)/\Und ol o k one b/\Q (.bl b) H
theorem eZ{f C:Addr}{fd:FuncData}(F:Fun K "at_or_beneath" "Plain.at_or_beneath" bG f fd)(T:Txt K C){tk:Tok}(g_UP:mg "UP" = some (.int 0 tk)):FnOk P w K mg base CX0 1 f fd ["self","one","other"] (pO C):=by
 refine F.okQ cu (fun vs H Q E h=>?_) (fun cdv A outer s H vs Q E hr h=>?_)
 ·obtain⟨p,d,g,ol,u,v,one,o,k,b,rfl,_⟩:=h;rfl
 obtain⟨p,d,g,ol,u,v,one,o,k,b,rfl,⟨kvs,S,R⟩,hu,hv,un,q⟩:=h;obtain⟨⟨dx,h1⟩,h2,h3,h4⟩:=id S;obtain⟨vb,rfl,hvb⟩:=id hv;refine⟨_,(b_c (kJ Ym (t_w (dk (aI du (q_v 1) bz) (dB (aI (sL hr.units) (q_v 1) (q_v 2))))) (b_1 (au (i:=1) cu.nd (ao am (fu hr.units (eU (q_v 0)) (q_v 1)) (Bs g_UP)))))
   (b_1 (aF (eT du (q_v 1) bz)))),?_⟩
 try rw[cxK]
 refine⟨fun m σ H'=>H'=H/\∃(u:V) (one:Option Nm),UpAt H u one/\Und ol o m one b/\σ=[some (.ref p),some u,some (.ref vb)],⟨k,rfl,u,one,hu,un,rfl⟩,?_⟩;rintro m σ H' ⟨rfl,u,one,hu,un,rfl⟩;cases un with
 |none =>obtain rfl:u=.non:=hu;refine⟨_,rfl,rfl,_,rfl,hU rfl (aL ?_)⟩;exact⟨_,rfl,rfl,q⟩
 |self =>obtain⟨ub,rfl,hub⟩:=id hu;refine⟨_,rfl,rfl,_,rfl,eS (by intro z;cases z) ?_⟩;refine⟨_,rfl,_,rfl,ub,vb,[o.1,o.2],[o.1,o.2],rfl,rfl,hub,hvb,_,rfl,?_⟩;rw[decide_eq_true rfl];refine aL ?_;exact⟨_,rfl,rfl,q⟩
 |@up m n it _ hn hl un =>
  obtain⟨ub,rfl,hub⟩:=id hu;obtain⟨iv,e1,ia,uv,pv,rfl,e2,e3,e4⟩:=bX R hl;refine⟨_,rfl,rfl,_,rfl,eS (by intro z;cases z) ?_⟩;refine⟨_,rfl,_,rfl,ub,vb,[n.1,n.2],[o.1,o.2],rfl,rfl,hub,hvb,_,rfl,?_⟩;have:¬ ([n.1,n.2]=[o.1,o.2]):=fun z=>hn (by
   injection z with z1 z2;injection z2 with z2 _;exact Prod.ext z1 z2)
  rw[decide_eq_false this];refine bt ?_;refine⟨fun σ H2=>H2=H'/\σ=[some (.ref p),some uv,some (.ref vb)],?_,?_⟩
  ·rintro σ' H2 ⟨rfl,rfl⟩;exact⟨m,Nat.lt_succ_self m,rfl,uv,it.up,e3,un,rfl⟩
  ·refine⟨_,rfl,p,C,dx,_,_,rfl,h1,T.cl,T.nH,bS _ _,_,rfl,d,.ref ia,rfl,e1▸DGet.t (k:=nk n) h2 hub,?_⟩;exact⟨ia,_,_,_,rfl,rfl,SqT.of e2,at0,rfl,rfl⟩
inductive Sd
 |put (n:Nm)(u:Option Nm)(pl:List Int)(tx:Str)
 |move (n:Nm)(u:Option Nm)(pl:List Int)
def StAt(H:Hp)(st:Addr):Sd->Prop
 |.put n u pl tx=>∃nv uv pv,H st=some (.tup [.str "put",nv,uv,pv,.str tx])/\NameIs H nv (nk n)/\UpAt H uv u/\PlAt H pv pl
 |.move n u pl=>∃nv uv pv,H st=some (.tup [.str "move",nv,uv,pv])/\NameIs H nv (nk n)/\UpAt H uv u/\PlAt H pv pl
theorem StAt.ts{H H':Hp}{st:Addr}{s:Sd}(x:StAt H st s)(t:TS H H'):StAt H' st s:=by
 cases s with
 |put=>obtain⟨nv,uv,pv,h1,h2,h3,h4⟩:=x;exact⟨nv,uv,pv,t _ _ h1,h2.ts' t,h3.ts t,h4.ts t⟩
 |move=>obtain⟨nv,uv,pv,h1,h2,h3,h4⟩:=x;exact⟨nv,uv,pv,t _ _ h1,h2.ts' t,h3.ts t,h4.ts t⟩
def Sd.items:Sd->List Nm
 |.put _ u _ _=>u.toList
 |.move n u _=>n::u.toList
def Sd.news:Sd->List Nm
 |.put n _ _ _=>[n]
 |_=>[]
inductive Bd(ol:Ol):Sd->Option Bool->Prop
 |put {n u pl tx}:Bd ol (.put n u pl tx) none
 |move {n u pl k b}:Und ol n k u b->Bd ol (.move n u pl) (if b=true then some true else none)
inductive Ap(ol:Ol):Sd->Ol->Prop
 |put {n u pl tx}:Ap ol (.put n u pl tx) (aG ol n ⟨u,pl,tx,false,none,false⟩)
 |move {n u pl it}:look ol n=some it->Ap ol (.move n u pl) (aG ol n { it with up:=u,pl:=pl })
theorem xN{H:Hp}{st:Addr}{ol:Ol}{s:Sd}{r:Option Bool}(hs:StAt H st s)(hb:Bd ol s r) :
  (r=none/\∃wd ps,H st=some (.tup (.str wd::ps))/\V.str wd≠V.str "move"/\V.str wd≠V.str "join"/\V.str wd≠V.str "part") \/
  ∃n u k b nv uv pv,H st=some (.tup [.str "move",nv,uv,pv])/\NameIs H nv (nk n)/\UpAt H uv u/\Und ol n k u b/\r=if b=true then some true else none:=by
 cases hb with
 |put=>obtain⟨nv,uv,pv,h1,_⟩:=hs;exact .inl ⟨rfl,_,_,h1,by decide +kernel,by decide +kernel,by decide +kernel⟩
 |move un=>obtain⟨nv,uv,pv,h1,h2,h3,_⟩:=hs;exact .inr ⟨_,_,_,_,nv,uv,pv,h1,h2,h3,un,rfl⟩
def lB(C cB cF:Addr):Sp:=fun vs H Q E=>∃(p d g st:Addr) (ol:Ol) (s:Sd) (r:Option Bool),vs=[.ref p,.ref st]/\OlAt C H p d g ol/\StAt H st s/\Bd ol s r/\(∀n it,look ol n=some it->it.tx.length<=400)/\(r=some true->E (.ref cB) none H)/\(r=some false->E (.ref cF) none H)/\(r=none->Q .non H)
theorem fc{f C cB cF:Addr}{fd:FuncData}(F:Fun K "check_bounds" "Plain.check_bounds" bJ f fd)(T:Txt K C)(M_at_or_beneath:MFn P w K mg base 1 C "at_or_beneath" ["self","one","other"] (pO C)){tk:Tok}(g_TEXT:mg "TEXT" = some (.int 2 tk))(z_len:mg "len" = none)(x_Beneath:ExCls K cB)(g_Beneath:mg "Beneath" = some (.ref cB))(x_Far:ExCls K cF)(g_Far:mg "Far" = some (.ref cF)):FnOk P w K mg base (CXr P w) 2 f fd ["self","step"] (lB C cB cF):=by
 refine F.okX fB (fun vs H Q E h=>?_) (fun cdv A outer s H vs Q E hr h=>?_)
 ·obtain⟨p,d,g,st,ol,sd,r,rfl,_⟩:=h;rfl
 obtain⟨p,d,g,st,ol,sd,r,rfl,O,hs,hb,htx,q1,q2,q3⟩:=h;obtain⟨kvs,S,R⟩:=id O;obtain⟨⟨dx,h1⟩,h2,h3,h4⟩:=id S;refine⟨_,(b_c (bf (t_w (dk (aI cg (ao am (q_v 1) ag) aw) (dB (cP (dw M_at_or_beneath (hr.mono (by decide)) (q_v 0) (q_a (ao am (q_v 1) ag) (q_a (ao am (q_v 1) ag) ah))))))) (b_1 (io (cL bI) rfl x_Beneath g_Beneath (q_a aw ah))) b_0)
   (b_c (bf (t_w (dk (aI cg (ao am (q_v 1) ag) aw) (dB (cP (dw M_at_or_beneath (hr.mono (by decide)) (q_v 0) (q_a (ao am (q_v 1) ag) (q_a (ao am (q_v 1) ag) ah))))))) (b_1 (io (cL bI) rfl x_Beneath g_Beneath (q_a aw ah))) b_0)
   (b_1 (bf (t_w (dk (aI cg (ao am (q_v 1) ag) aw) (dB (aI qP (ao am (q_v 1) ag) (q_B zL z_len PySem.boot_len (q_a (ao am (fu hr.units (eU (q_v 0)) (ao am (q_v 1) ag)) (Bs g_TEXT)) ah)))))) (b_1 (io (cL bI) rfl x_Far g_Far (q_a aw ah))) b_0)))),?_⟩
 try rw[cxK]
 rcases xN hs hb with⟨hr',wd,ps,hst,n1,n2,n3⟩|⟨n,u,k,b,nv,uv,pv,hst,hn,hu,un,hr'⟩
 ·refine(vix rfl (SqT.of hst) at0 ⟨rfl,_,rfl,bU n1 (aL ?_)⟩);refine(vix rfl (SqT.of hst) at0 ⟨rfl,_,rfl,bU n2 (aL ?_)⟩);exact(vix rfl (SqT.of hst) at0 ⟨rfl,_,rfl,bU n3 (aL (q3 hr'))⟩)
 ·refine(vix rfl (SqT.of hst) at0 ⟨rfl,_,rfl,iS ?_⟩);refine⟨_,rfl,p,dx,_,rfl,h1,fW _ _,vix rfl (SqT.of hst) at2 (vix rfl (SqT.of hst) at1 ⟨p,d,g,ol,uv,nv,u,n,k,b,rfl,O,hu,hn,un,_,rfl,?_⟩)⟩;cases b with
  |true=>exact bt ⟨sz rfl,q1 hr'⟩
  |false =>refine aL ?_;refine(vix rfl (SqT.of hst) at0 ⟨rfl,_,rfl,bU (by decide +kernel) (aL ?_)⟩);exact(vix rfl (SqT.of hst) at0 ⟨rfl,_,rfl,bU (by decide +kernel) (aL (q3 hr'))⟩)
def pJ(C:Addr):Sp:=fun vs H Q _=>∃(p d g:Addr) (ol:Ol) (nv:V) (n:Nm),vs=[.ref p,nv]/\OlAt C H p d g ol/\NameIs H nv (nk n)/\Q (.bl (look ol n).isSome) H
abbrev dH:Stmt:=bD (top 16) 9
abbrev lJ:List Str:=["self","name"]
theorem kL:FnScope lJ ["self","name"] (aj dH):=⟨rfl,rfl,rfl,by decide +kernel,rfl,by decide +kernel,by decide +kernel⟩
theorem ku{f C:Addr}{fd:FuncData}(F:Fun K "holds" "Plain.holds" dH f fd)(T:Txt K C):FnOk P w K mg base CX0 1 f fd ["self","name"] (pJ C):=by
 refine F.okQ kL (fun vs H Q E h=>?_) (fun cdv A outer s H vs Q E hr h=>?_)
 ·obtain⟨p,d,g,ol,nv,n,rfl,_⟩:=h;rfl
 obtain⟨p,d,g,ol,nv,n,rfl,⟨kvs,S,R⟩,⟨b,rfl,hb⟩,q⟩:=h;obtain⟨⟨dx,h1⟩,h2,h3,h4⟩:=id S;refine⟨_,(b_1 (aF (wY hr.units (q_v 1) (eU (q_v 0))))),?_⟩
 try rw[cxK]
 refine⟨_,rfl,_,rfl,p,C,dx,_,_,rfl,h1,T.cl,T.nH,bS _ _,d,_,rfl,DGet.t (k:=nk n) h2 hb,?_⟩;rw[il R];exact q
theorem eI{β:Type}(l:As β)(n:Nm)(i:β):(aG l n i).length<=l.length+1:=by
 unfold aG;split
 ·rw[Zh];omega
 ·rw[Zo];exact Ze _
abbrev iy:Stmt:=bD (top 16) 6
theorem vo{β:Type}{l:As β}{n m:Nm}{i:β}:(look (l.map fun p=>if p.1=n then(p.1,i)else p) m)=if m=n then(look l m).map (fun _=>i)else look l m:=by
 induction l with
 |nil=>split<;>rfl
 |cons p l ih =>
  rw[Zz];unfold look;by_cases c:p.1=n
  ·rw[if_pos c];by_cases c2:p.1=m
   ·rw[if_pos c2,if_pos c2,if_pos (c2▸c)];rfl
   ·rw[if_neg c2,if_neg c2,ih]
  ·rw[if_neg c];by_cases c2:p.1=m
   ·rw[if_pos c2,if_pos c2,if_neg (fun z=>c (c2.trans z))]
   ·rw[if_neg c2,if_neg c2,ih]
theorem vn{β:Type}{l:As β}{n m:Nm}{i:β}(h:look l n=none):look (l++[(n,i)]) m=if m=n then some i else look l m:=by
 induction l with
 |nil =>
  show(if n=m then some i else none)=_;by_cases c:n=m
  ·rw[if_pos c,if_pos c.symm]
  ·rw[if_neg c,if_neg fun z=>c z.symm];rfl
 |cons p l ih =>
  rw[List.cons_append];unfold look at h ⊢;by_cases c:p.1=n
  ·rw[if_pos c]at h;cases h
  ·rw[if_neg c]at h;by_cases c2:p.1=m
   ·rw[if_pos c2,if_pos c2,if_neg fun z=>c (c2.trans z)]
   ·rw[if_neg c2,if_neg c2];exact ih h
theorem aO{β:Type}{l:As β}{n m:Nm}{i:β}:look (aG l n i) m=if m=n then some i else look l m:=by
 unfold aG;cases e:look l n with
 |none =>rw[if_neg (by simp)];exact vn e
 |some j =>
  rw[if_pos (show(some j).isSome=true from rfl),vo];by_cases c:m=n
  ·rw[if_pos c,if_pos c,c,e];rfl
  ·rw[if_neg c,if_neg c]
abbrev gM:Stmt:=bD (top 16) 7
def All3(H:Hp)(kvs:List (List Key×V))(ws:List Str)(ps:List V)(bs:List Bool):Prop:=∀(i:Nat) (w:Str) (v:V) (b:Bool),ws[i]?=some w->ps[i]?=some v->bs[i]?=some b->PartB H kvs w v b
theorem All3.nil{H:Hp}{kvs:List (List Key×V)}:All3 H kvs [] [] []:=fun i w v b h=>by simp at h
theorem All3.cons{H:Hp}{kvs:List (List Key×V)}{ws:List Str}{ps:List V}{bs:List Bool}{w:Str}{v:V}{b:Bool}(h:PartB H kvs w v b)(t:All3 H kvs ws ps bs):All3 H kvs (w::ws) (v::ps) (b::bs):=fun i w' v' b' h1 h2 h3=>by
 cases i with
 |zero=>cases h1;cases h2;cases h3;exact h
 |succ i=>exact t i _ _ _ h1 h2 h3
def qa(ws:List Str)(bs:List Bool):Prop:=∀(i:Nat) (w:Str),ws[i]?=some w->isI w->bs[i]?=some true
def lX(ws:List Str)(bs:List Bool):Prop:=∀i:Nat,ws[i]?=some "new"->bs[i]?=some true
theorem mU:qa [] []↔True:=⟨fun _=>trivial,fun _ i w h=>by simp at h⟩
theorem lh{w:Str}{b:Bool}{ws:List Str}{bs:List Bool}:qa (w::ws) (b::bs)↔(isI w->b=true)/\qa ws bs:=by
 constructor
 ·intro h;exact⟨fun z=>Zu (h 0 w rfl z),fun i w' e z=>h (i+1) w' e z⟩
 ·rintro⟨h1,h2⟩ i w' e z;cases i with
  |zero=>cases e;exact Yx some (h1 z)
  |succ i=>exact h2 i w' e z
theorem lj:lX [] []↔True:=⟨fun _=>trivial,fun _ i h=>by simp at h⟩
theorem jF{w:Str}{b:Bool}{ws:List Str}{bs:List Bool}:lX (w::ws) (b::bs)↔(w="new"->b=true)/\lX ws bs:=by
 constructor
 ·intro h;exact⟨fun z=>Zu (h 0 (Yx some z)),fun i e=>h (i+1) e⟩
 ·rintro⟨h1,h2⟩ i e;cases i with
  |zero=>exact Yx some (h1 (Zu e))
  |succ i=>exact h2 i e
def upB(ol:Ol):Option Nm->Bool
 |none=>true
 |some n=>(look ol n).isSome
section
variable{H:Hp}{kvs:List (List Key×V)}{ol:Ol}{v:V}{n:Nm}{u:Option Nm}
theorem AQ(R:Rows H kvs ol)(h:NameIs H v (nk n)):PartB H kvs "new" v (!(look ol n).isSome):=⟨fun _=>⟨nk n,h,by rw[il R]⟩,fun z=>absurd z (by decide +kernel)⟩
theorem yo(R:Rows H kvs ol)(h:NameIs H v (nk n)):PartB H kvs "item" v (look ol n).isSome:=⟨fun z=>absurd z (by decide +kernel),fun _=>.inr ⟨nk n,h,by rw[il R]⟩⟩
theorem wU(R:Rows H kvs ol)(h:UpAt H v u):PartB H kvs "up" v (upB ol u):=⟨fun z=>absurd z (by decide +kernel),fun _=>by
 cases u with
 |none=>exact .inl ⟨h,rfl⟩
 | some n=>exact .inr ⟨nk n,h,by rw[il R];rfl⟩⟩
theorem ny{w:Str}(h1:w≠"new")(h2:¬isI w):PartB H kvs w v true:=⟨fun z=>absurd z h1,fun z=>absurd z h2⟩
end
theorem Ae:isI "item":=.inl rfl
theorem Af:isI "up":=.inr rfl
theorem fE{w:Str}(h:w="place"\/w="text"\/w="truth"\/w="whom"\/w="at"):w≠"new"/\¬isI w:=by rcases h with rfl|rfl|rfl|rfl|rfl<;>exact⟨by decide +kernel,by unfold isI;decide +kernel⟩
theorem CP:¬isI "new":=by unfold isI;decide +kernel
theorem wC:¬(("item":Str)="new")/\¬(("up":Str)="new"):=by decide +kernel
theorem we{H:Hp}{kvs:List (List Key×V)}{ol:Ol}{st:Addr}{s:Sd}(R:Rows H kvs ol)(h:StAt H st s):∃(wd:Str) (ws:List Str) (ps:List V) (bs:List Bool),H st=some (.tup (.str wd::ps))/\PyProof.Rows.KTD.datumAt wd ST=some (tw ws)/\ws.length=ps.length/\bs.length=ps.length/\All3 H kvs ws ps bs /\
  ((∀n∈s.news,look ol n=none)->lX ws bs)/\((∀n∈s.items,(look ol n).isSome=true)↔qa ws bs):=by
 have wp:=fE (w:="place") (.inl rfl);have wt:=fE (w:="text") (.inr (.inl rfl));have wr:=fE (w:="truth") (.inr (.inr (.inl rfl)));have ww:=fE (w:="whom") (.inr (.inr (.inr (.inl rfl))));have wa:=fE (w:="at") (.inr (.inr (.inr (.inr rfl))));cases s with
 |put n u pl tx =>
  obtain⟨nv,uv,pv,h1,h2,h3,h4⟩:=h;refine⟨_,_,_,[!(look ol n).isSome,upB ol u,true,true],h1,rfl,rfl,rfl,.cons (AQ R h2) (.cons (wU R h3) (.cons (ny wp.1 wp.2) (.cons (ny wt.1 wt.2) .nil))),?_,?_⟩
  ·intro z;simp[jF,lj,wC.2,wp.1,wt.1,z n (by simp[Sd.news])]
  ·cases u<;>simp[lh,mU,Af,CP,wp.2,wt.2,Sd.items,upB]
 |move n u pl =>
  obtain⟨nv,uv,pv,h1,h2,h3,h4⟩:=h;refine⟨_,_,_,[(look ol n).isSome,upB ol u,true],h1,rfl,rfl,rfl,.cons (yo R h2) (.cons (wU R h3) (.cons (ny wp.1 wp.2) .nil)),?_,?_⟩
  ·intro _;simp[jF,lj,wC.1,wC.2,wp.1]
  ·cases u<;>simp[lh,mU,Ae,Af,wp.2,Sd.items,upB]
def kP(C cN cB cF:Addr):Sp:=fun vs H Q E=>∃(p d g st:Addr) (ol:Ol) (s:Sd),vs=[.ref p,.ref st]/\OlAt C H p d g ol/\ol.length<=300/\StAt H st s/\(∀n∈s.news,look ol n=none)/\(∀n it,look ol n=some it->it.tx.length<=400) /\
 ((¬ (∀ n∈s.items,(look ol n).isSome=true)/\∀ H' dd,Same H H'->E (.ref cN) (some dd) H') \/
  ((∀ n∈s.items,(look ol n).isSome=true)/\∃ r,Bd ol s r/\(r=some true->∀ H',Same H H'->E (.ref cB) none H')/\(r=some false->∀ H',Same H H'->E (.ref cF) none H')/\(r=none->∀ H' ol',But d H H'->OlAt C H' p d g ol'->Ap ol s ol'->Q .non H')))
abbrev eD:Stmt:=bD (top 16) 1
abbrev mw:List Str:=["self","step","word"]
theorem gj:FnScope mw ["self","step"] (aj eD):=⟨rfl,rfl,rfl,by decide +kernel,rfl,by decide +kernel,by decide +kernel⟩
theorem kx{f C cT cN cB cF:Addr}{fd:FuncData}(F:Fun K "step" "Plain.step" eD f fd)(MX_check_names:MFnX P w K mg base 3 C "check_names" ["self","step"] (nQ C cT cN))(MX_check_bounds:MFnX P w K mg base 2 C "check_bounds" ["self","step"] (lB C cB cF))(M_bring_in:MFn P w K mg base 1 C "bring_in" ["self","name","up","place","text"] (pH C))(M_part_item:MFn P w K mg base 1 C "part_item" ["self","name","at","new","place"] (fun _ _ _ _=>False))(M_join_items:MFn P w K mg base 1 C "join_items" ["self","name","other"] (fun _ _ _ _=>False))(M_change:MFn P w K mg base 1 C "change" ["self","name","first","values"] (nP C)){dd:Addr}(g_FIRST_CHANGED:mg "FIRST_CHANGED" = some (.ref dd))(TF:Tab K dd FC):FnOk P w K mg base (CXr P w) 4 f fd ["self","step"] (kP C cN cB cF):=by
 refine F.okX gj (fun vs H Q E h=>?_) (fun cdv A outer s H vs Q E hr h=>?_)
 ·obtain⟨p,d,g,st,ol,sd,rfl,_⟩:=h;rfl
 obtain⟨p,d,g,st,ol,sd,rfl,O,l3,hs,hnew,htx,h⟩:=h;obtain⟨kvs,S,R⟩:=id O;obtain⟨⟨dx,h1⟩,h2,h3,h4⟩:=id S;have lk:=bW R;obtain⟨wd,ws,ps,bs,hst,dat,l1,l2,a3,nok,iff⟩:=we R hs;refine⟨_,(b_c (bH (kD MX_check_names (wS bI) (hr.mono (by decide)) (q_v 0) (q_a (q_v 1) ah)))
   (b_c (bH (kD MX_check_bounds (wS bI) (hr.mono (by decide)) (q_v 0) (q_a (q_v 1) ah)))
   (b_c (au (i:=2) gj.nd (ao am (q_v 1) ag))
   (b_1 (bf (aI cg (q_v 2) aw) (b_1 (bH (dw M_bring_in (hr.mono (by decide)) (q_v 0) (q_a (ao am (q_v 1) ag) (q_a (ao am (q_v 1) ag) (q_a (ao am (q_v 1) ag) (q_a (ao am (q_v 1) ag) ah))))))) (b_1 (bf (aI cg (q_v 2) aw) (b_1 (bH (dw M_part_item (hr.mono (by decide)) (q_v 0) (q_a (ao am (q_v 1) ag) (q_a (ao am (q_v 1) ag) (q_a (ao am (q_v 1) ag) (q_a (ao am (q_v 1) ag) ah))))))) (b_1 (bf (aI cg (q_v 2) aw) (b_1 (bH (dw M_join_items (hr.mono (by decide)) (q_v 0) (q_a (ao am (q_v 1) ag) (q_a (ao am (q_v 1) ag) ah))))) (b_1 (bf (aI cg (q_v 2) aw) (b_1 yR) (b_1 (bH (dw M_change (hr.mono (by decide)) (q_v 0) (q_a (ao am (q_v 1) ag) (q_a (ao xD (Bt g_FIRST_CHANGED) (q_v 2)) (q_a (dY cK (q_v 1) (dF ag) fe) ah))))))))))))))))),?_⟩
 try rw[cxK]
 refine⟨_,rfl,p,dx,_,rfl,h1,fW _ _,_,rfl,p,d,g,st,kvs,[],wd,ws,ps,bs,rfl,S,hst,dat,l1,l2,a3,fun⟨i,e1,e2⟩=>?_,fun _=>⟨fun all H1 s1=>?_,fun i w' v e1 e2 hi e3 pre H' dd sm hd=>?_⟩⟩
 ·rw[nok hnew i e1]at e2;cases e2
 ·rcases h with⟨hm,q⟩|⟨hall,r,hb,qB,qF,q⟩
  ·exact absurd (iff.mpr all) hm
  have hs1:=hs.ts (Same.ts s1);refine⟨_,rfl,p,dx,_,rfl,s1 _ _ h1,fW _ _,_,rfl,p,d,g,st,ol,sd,r,rfl,O.same s1,hs1,hb,htx,fun e=>qB e H1 s1,fun e=>qF e H1 s1,fun e=>?_⟩;have q':=q e;have S1:=S.same s1;have R1:=R.ts (Same.ts s1);have y1:=s1 _ _ h1;have ch:∀{n:Nm} {it:It} {ia:Addr} {xs:List V},look ol n=some it->∃ia uv pv,bg kvs (nk n)=some (.ref ia)/\H1 ia=some (.tup [uv,pv,.str it.tx,.bl it.dn,whV it.wh,.bl it.fo])/\UpAt H1 uv it.up/\PlAt H1 pv it.pl:=fun{n it _ _} hl=>by obtain⟨iv,e1,ia,uv,pv,rfl,e2,e3,e4⟩:=bX R1 hl;exact⟨ia,uv,pv,e1,e2,e3,e4⟩
  cases sd with
  |put n u pl tx =>obtain⟨nv,uv,pv,hst,hn,hu,hp⟩:=hs1;have e1:=SqT.of (K:=K) hst;refine(vix rfl e1 at0 ?_);refine⟨_,rfl,rfl,_,rfl,iS ?_⟩;exact⟨_,rfl,p,dx,_,rfl,y1,fW _ _,vix rfl e1 at1 (vix rfl e1 at2 (vix rfl e1 at3 (vix rfl e1 at4 ⟨p,d,g,kvs,[],nv,uv,pv,.str tx,nk n,rfl,S1,hn,by omega,fun t H2 s2 e2=>q' _ _ (But.put (s1.trans s2) _) (sR S1 R1 s2 ⟨t,uv,pv,rfl,e2,hu.ts (Same.ts s2),hp.ts (Same.ts s2)⟩) .put⟩)))⟩
  |move n u pl =>obtain⟨nv,uv,pv,hst,hn,hu,hp⟩:=hs1;have e1:=SqT.of (K:=K) hst;obtain⟨it,hl⟩:=Yo.mp (hall n (by simp[Sd.items]));obtain⟨ia,uw,pw,c1,c2,c3,c4⟩:=ch (ia:=st) (xs:=[]) hl;refine(vix rfl e1 at0 ?_);refine⟨_,rfl,rfl,_,rfl,bU (by decide +kernel) ?_⟩;refine⟨_,rfl,rfl,_,rfl,bU (by decide +kernel) ?_⟩;refine⟨_,rfl,rfl,_,rfl,bU (by decide +kernel) ?_⟩;refine⟨_,rfl,rfl,_,rfl,bU (by decide +kernel) ?_⟩;refine⟨_,rfl,p,dx,_,rfl,y1,fW _ _,vix rfl e1 at1 ⟨_,rfl,dd,"move",FC,_,rfl,rfl,TF,rfl,?_⟩⟩;refine⟨_,rfl,_,rfl,st,_,rfl,hst,fun va H2 s2 e2=>?_⟩;exact⟨p,d,g,ia,va,kvs,[],nv,nk n,0,_,[uv,pv],rfl,S1.same s2,hn.same s2,by omega,c1,s2 _ _ c2,e2,show 0+2<=6 by decide,show 6<=100 by decide,fun t H3 s3 e3=>q' _ _ (But.put (s1.trans (s2.trans s3)) _) (sR (it:={ it with up:=u,pl:=pl }) S1 R1 (s2.trans s3) ⟨t,uv,pv,rfl,e3,hu.ts (Same.ts (s2.trans s3)),hp.ts (Same.ts (s2.trans s3))⟩) (.move hl)⟩
 ·rcases h with⟨hm,q⟩|⟨hall,_⟩
  ·exact q H' dd sm
  ·rw[iff.mp hall i w' e1 hi]at e3;cases e3
theorem jJ{X:Cx}:cG (CXr X.prog X.w) X E0:=fun pins σ H s e s' I x=>by obtain⟨ea,t,C,vs,B,H',dc,rfl,os,bare,un,hok,fly,tup,hBt,kb,dd,q⟩:=x;exact q.elim
theorem rR{J:L2.It}{N n:Nat}{cap:List Nat}{g:TG}{tc:TT}{te:TE}{σ:St}{H0:Hp}{Q:VK}(Pv:Nat->List V->Hp->Prop)(hz:N<=1000)(hn:∀i ys H,Pv i ys H->ys.length<=i)(h0:Pv 0 [] H0)(hgo:∀i ys H,i<N->Pv i ys H->J.go i H)(hst:∀ys H,Pv N ys H->J.stop N H)(ht:∀i ys H x H',i<N->Pv i ys H->J.yld i H x H'->∀Y:List V->Hp->Prop,(∀zs H4,Pv (i+1) zs H4->Y zs H4)->g x (bx n cap σ) H' fun σ2 H2=>tc σ2 H2 fun b H3=>if b=true then te σ2 H3 fun y H4=>Y (ys++[y]) H4 else Y ys H3)(hq:∀ys p H,Pv N ys H->H p=none->Q (.ref p) (upd H p (.lst ys))):eJ n cap g tc te σ J H0 Q:=by
 refine⟨fun i m ys H=>m=N-i/\i<=N/\Pv i ys H,⟨N,by simp,ZP _,h0⟩,?_⟩;rintro i m ys H ⟨rfl,hi,pv⟩;by_cases hlt:i<N
 ·refine .inr ⟨hgo i ys H hlt pv,?_,fun x H' y=>?_⟩
  ·have:=hn i ys H pv;exact Nat.lt_of_le_of_lt (ZC this (by omega)) (show 1000<sizeLine by decide)
  ·exact ht i ys H x H' hlt pv y (fun ys H4=>∃m',m'<N-i/\m'=N-(i+1)/\i+1<=N/\Pv (i+1) ys H4) fun zs H4 z=>⟨N-(i+1),by omega,rfl,hlt,z⟩
 ·have e:i=N:=by omega
  subst e;exact .inl ⟨hst ys H pv,fun p hp=>hq ys p H pv hp⟩
inductive Wd
 |put (u:Option Nm)(pl:List Int)(tx:Str)
 |move (n:Nm)(u:Option Nm)(pl:List Int)
 |take (n:Nm)
 |back (n:Nm)
 |off (k:Int)
 |on (k:Int)
 |none
def Wd.word:Wd->Str
 |.put _ _ _=>"put"
 |.move _ _ _=>"move"
 |.take _=>"take"
 |.back _=>"back"
 |.off _=>"off"
 |.on _=>"on"
 |.none=>"none"
def Wd.isTurn:Wd->Bool
 |.off _=>true
 |.on _=>true
 |_=>false
def RsAt(H:Hp)(r:List V):Wd->Prop
 |.put u pl tx=>∃uv pv,r=[uv,pv,.str tx]/\UpAt H uv u/\PlAt H pv pl
 |.move n u pl=>∃nv uv pv,r=[nv,uv,pv]/\NameIs H nv (nk n)/\UpAt H uv u/\PlAt H pv pl
 |.take n=>∃nv,r=[nv]/\NameIs H nv (nk n)
 |.back n=>∃nv,r=[nv]/\NameIs H nv (nk n)
 |.off k=>r=[.int k]
 |.on k=>r=[.int k]
 |.none=>r=[]
theorem RsAt.ts{H H':Hp}{r:List V}{wd:Wd}(x:RsAt H r wd)(t:TS H H'):RsAt H' r wd:=by
 cases wd with
 |put=>obtain⟨uv,pv,h1,h3,h4⟩:=x;exact⟨uv,pv,h1,h3.ts t,h4.ts t⟩
 |move=>obtain⟨nv,uv,pv,h1,h2,h3,h4⟩:=x;exact⟨nv,uv,pv,h1,h2.ts' t,h3.ts t,h4.ts t⟩
 |take=>obtain⟨nv,h1,h2⟩:=x;exact⟨nv,h1,h2.ts' t⟩
 |back=>obtain⟨nv,h1,h2⟩:=x;exact⟨nv,h1,h2.ts' t⟩
 |off=>exact x
 |on=>exact x
 |none=>exact x
def WhAt(H:Hp)(wa:Addr)(wd:Wd):Prop:=∃r,H wa=some (.tup (.str wd.word::r))/\RsAt H r wd
abbrev Dd:=Nm×Wd
def DdAt(H:Hp)(v:V)(d:Dd):Prop:=∃(dd c wa:Addr) (cs:List V),v=.ref dd/\H dd=some (.tup [.int d.1.1,.ref c,.ref wa])/\H c=some (.tup cs)/\atI cs d.1.1=some (.int d.1.2)/\WhAt H wa d.2
theorem DdAt.ts{H H':Hp}{v:V}{d:Dd}(x:DdAt H v d)(t:TS H H'):DdAt H' v d:=by obtain⟨dd,c,wa,cs,h1,h2,h3,h4,r,h5,h6⟩:=x;exact⟨dd,c,wa,cs,h1,t _ _ h2,t _ _ h3,h4,r,t _ _ h5,h6.ts t⟩
def ge:Sp:=fun vs H Q _=>∃(v:V) (d:Dd),vs=[v]/\DdAt H v d/\∀t H',Same H H'->H' t=some (.tup [.int d.1.1,.int d.1.2])->Q (.ref t) H'
abbrev gP:Stmt:=top 11
abbrev rG:List Str:=["deed"]
theorem rm:FnScope rG ["deed"] (aj gP):=⟨rfl,rfl,rfl,by decide +kernel,rfl,by decide +kernel,by decide +kernel⟩
theorem qW{f:Addr}{fd:FuncData}(F:Fun K "name_of" "name_of" gP f fd):FnOk P w K mg base CX0 1 f fd ["deed"] ge:=by
 refine F.okQ rm (fun vs H Q E h=>?_) (fun cdv A outer s H vs Q E hr h=>?_)
 ·obtain⟨v,d,rfl,_⟩:=h;rfl
 obtain⟨v,d,rfl,⟨dd,c,wa,cs,rfl,h2,h3,h4,r,h5,h6⟩,q⟩:=h;refine⟨_,(b_1 (aF (aA (q_a (ao am (q_v 0) ag) (q_a (ao am (ao am (q_v 0) ag) (ao am (q_v 0) ag)) ah))))),?_⟩
 try rw[cxK]
 have e1:=SqT.of (K:=K) h2;exact(vix rfl e1 at0 (vix rfl e1 at1 (vix rfl e1 at0 ⟨c,_,_,_,rfl,rfl,SqT.of h3,h4,sz rfl,fun t g=>q t _ (ae g _) ad⟩)))
theorem xY(wd:Wd):inV (.str wd.word) [.str "off",.str "on"]=wd.isTurn:=by cases wd<;>rfl
def gd:Sp:=fun vs H Q _=>∃(v:V) (d:Dd),vs=[v]/\DdAt H v d/\∀H',Same H H'->Q (.bl d.2.isTurn) H'
abbrev gO:Stmt:=top 20
abbrev rF:List Str:=["deed"]
theorem rk:FnScope rF ["deed"] (aj gO):=⟨rfl,rfl,rfl,by decide +kernel,rfl,by decide +kernel,by decide +kernel⟩
theorem qV{f:Addr}{fd:FuncData}(F:Fun K "is_turn" "is_turn" gO f fd):FnOk P w K mg base CX0 1 f fd ["deed"] gd:=by
 refine F.okQ rk (fun vs H Q E h=>?_) (fun cdv A outer s H vs Q E hr h=>?_)
 ·obtain⟨v,d,rfl,_⟩:=h;rfl
 obtain⟨v,d,rfl,⟨dd,c,wa,cs,rfl,h2,h3,h4,r,h5,h6⟩,q⟩:=h;refine⟨_,(b_1 (aF (eT (qQ (K:=K) rfl) (ao am (ao am (q_v 0) ag) ag) (aA (q_a aw (q_a aw ah)))))),?_⟩
 try rw[cxK]
 refine(wB rfl (SqT.of h2) at2 (SqT.of h5) at0 ⟨sz rfl,fun u gu=>?_⟩);refine⟨u,_,rfl,.inr (SqT.of ad),rfl,rfl,?_⟩;have ei:(if false=true then !inV (V.str d.2.word) [.str "off",.str "on"]else inV (V.str d.2.word) [.str "off",.str "on"])=d.2.isTurn:=xY d.2;rw[ei];exact q _ (ae gu _)
def je:Sp:=fun vs H Q _=>∃(v:V) (d:Dd) (k:Int),vs=[v]/\DdAt H v d/\(d.2=.off k\/d.2=.on k)/\∀t H',Same H H'->H' t=some (.tup [.int d.1.1,.int k])->Q (.ref t) H'
abbrev dI:Stmt:=top 21
abbrev lK:List Str:=["deed"]
theorem kM:FnScope lK ["deed"] (aj dI):=⟨rfl,rfl,rfl,by decide +kernel,rfl,by decide +kernel,by decide +kernel⟩
theorem kz{f:Addr}{fd:FuncData}(F:Fun K "turned_name" "turned_name" dI f fd):FnOk P w K mg base CX0 1 f fd ["deed"] je:=by
 refine F.okQ kM (fun vs H Q E h=>?_) (fun cdv A outer s H vs Q E hr h=>?_)
 ·obtain⟨v,d,k,rfl,_⟩:=h;rfl
 obtain⟨v,⟨n,wd⟩,k,rfl,⟨dd,c,wa,cs,rfl,h2,h3,h4,r,h5,h6⟩,hw,q⟩:=h;refine⟨_,(b_1 (aF (aA (q_a (ao am (q_v 0) ag) (q_a (ao am (ao am (q_v 0) ag) ag) ah))))),?_⟩
 try rw[cxK]
 have e1:=SqT.of (K:=K) h2;rcases hw with rfl|rfl
 ·obtain rfl:r=[.int k]:=h6;exact(vix rfl e1 at0 (wB rfl e1 at2 (SqT.of h5) at1 ⟨sz rfl,fun t g=>q t _ (ae g _) ad⟩))
 ·obtain rfl:r=[.int k]:=h6;exact(vix rfl e1 at0 (wB rfl e1 at2 (SqT.of h5) at1 ⟨sz rfl,fun t g=>q t _ (ae g _) ad⟩))
def cC(ts:As Dd)(d:Dd):As Dd:=match d.2 with
 |.off k=>aG ts (d.1.1,k) d
 |.on k=>aG ts (d.1.1,k) d
 |_=>ts
def aC(ds:List Dd):As Dd:=ds.foldl cC []
theorem pT{ts:As Dd}{d:Dd}(h:d.2.isTurn=false):cC ts d=ts:=by obtain⟨n,wd⟩:=d;cases wd<;>first|rfl|cases h
theorem wq(ts:As Dd)(d:Dd):(cC ts d).length<=ts.length+1:=by obtain⟨n,wd⟩:=d;cases wd<;>first|exact eI _ _ _|exact Nat.le_succ _
theorem oK(ds:List Dd):(aC ds).length<=ds.length:=by
 have gen:∀(ds:List Dd) (ts:As Dd),(ds.foldl cC ts).length<=ts.length+ds.length:=fun ds=>by
  induction ds with
  |nil=>intro ts;exact Ze _
  |cons d ds ih =>intro ts;have h1:=ih (cC ts d);have h2:=wq ts d;rw[List.foldl_cons,Zl];omega
 have:=gen ds [];unfold aC;simpa using this
theorem bu{α β:Type}{R:α->β->Prop}{xs:List α}{ys:List β}(x:Paired R xs ys):∀{i:Nat} {a:α},xs[i]?=some a->∃b,ys[i]?=some b/\R a b:=by
 induction x with
 |nil=>intro i a h;simp at h
 |@cons p q _ _ r _ ih =>
  intro i a h;cases i with
  |zero=>cases h;exact⟨q,rfl,r⟩
  |succ i=>exact ih h
abbrev jj(H:Hp)(vs:List V)(ds:List Dd):Prop:=Paired (DdAt H) vs ds
abbrev TsAt(H:Hp)(kvs:List (List Key×V))(ts:As Dd):Prop:=Rws (DdAt H) kvs ts
theorem TsAt.ts{H H':Hp}{kvs:List (List Key×V)}{ts:As Dd}(x:TsAt H kvs ts)(t:TS H H'):TsAt H' kvs ts:=Paired.mapP x fun _ _ z=>⟨z.1,z.2.ts t⟩
def tW:Sp:=fun vs H Q _=>∃(l:Addr) (xs:List V) (ds:List Dd),vs=[.ref l]/\H l=some (.lst xs)/\jj H xs ds/\ds.length<=300/\∀a tvs H',Same H H'->H' a=some (.dT tvs)->TsAt H' tvs (aC ds)->Q (.ref a) H'
abbrev eE:Stmt:=top 22
abbrev my:List Str:=["ready","turns","deed"]
theorem dJ:FnScope my ["ready"] (aj eE):=⟨rfl,rfl,rfl,by decide +kernel,rfl,by decide +kernel,by decide +kernel⟩
theorem lQ{f:Addr}{fd:FuncData}(F:Fun K "last_turns" "last_turns" eE f fd)(F_is_turn:Fn P w K mg base 1 "is_turn" ["deed"] gd)(F_turned_name:Fn P w K mg base 1 "turned_name" ["deed"] je):FnOk P w K mg base CX0 2 f fd ["ready"] tW:=by
 refine F.okQ dJ (fun vs H Q E h=>?_) (fun cdv A outer s H vs Q E hr h=>?_)
 ·obtain⟨l,xs,ds,rfl,_⟩:=h;rfl
 obtain⟨l,xs,ds,rfl,hl,hd,l3,q⟩:=h;have ll:=ZO hd;refine⟨_,(b_c (au (i:=1) dJ.nd jL)
   (b_c (dO Ym rfl (dW (q_v 0)) (aM (i:=2) dJ.nd) (b_1 (bf (cP (aU F_is_turn (hr.mono (by decide)) (q_a (q_v 2) ah))) (b_1 (fw hr.units (q_v 1) (aU F_turned_name (hr.mono (by decide)) (q_a (q_v 2) ah)) (q_v 2))) b_0)))
   (b_1 (aF (q_v 1))))),?_⟩
 try rw[cxK]
 intro a ga;have wa:=ae ga (.dT []);refine⟨_,rfl,l,rfl,⟨_,SqL.of (wa _ _ hl)⟩,?_⟩;refine mO (K:=K) (a:=l) (xs:=xs) (fun i σ H'=>Same H H'/\∃(tvs:List (List Key×V)) (o2:Option V),H' a=some (.dT tvs)/\TsAt H' tvs (aC (ds.take i))/\σ=[some (.ref l),some (.ref a),o2])
  ⟨wa,[],none,ad,.nil,rfl⟩ (fun i σ H' _ z=>SqL.of (z.1 _ _ hl)) ?_ ?_
 ·rintro i v σ H' hv ⟨sm,tvs,o2,ha,ht,rfl⟩;obtain⟨d,hdi,hdd⟩:=bu hd hv;have hi:i<ds.length:=(Zw.mp hdi).1;have et:aC (ds.take (i+1))=cC (aC (ds.take i)) d:=by unfold aC;rw[List.take_succ,hdi,List.foldl_append];rfl
  have tl:tvs.length<=300:=by have:=oK (ds.take i);rw[ZL]at this;have:=bW ht;omega
  refine⟨_,rfl,v,d,rfl,hdd.ts (Same.ts sm),fun H1 s1=>⟨_,rfl,?_⟩⟩;cases c:d.2.isTurn with
  |false =>refine aL ⟨sm.trans s1,tvs,_,s1 _ _ ha,?_,rfl⟩;rw[et,pT c];exact ht.ts (Same.ts s1)
  |true =>
   obtain⟨k,hk⟩:∃k,d.2=.off k\/d.2=.on k:=by
    obtain⟨n,wd⟩:=d;cases wd with
    |off k=>exact⟨k,.inl rfl⟩
    |on k=>exact⟨k,.inr rfl⟩
    |_=>cases c
   have es:cC (aC (ds.take i)) d=aG (aC (ds.take i)) (d.1.1,k) d:=by obtain⟨n,wd⟩:=d;rcases hk with hk|hk<;>(dsimp only at hk;subst hk;rfl)
   refine bt ⟨_,rfl,_,rfl,_,rfl,v,d,k,rfl,hdd.ts (Same.ts (sm.trans s1)),hk,fun t H2 s2 e2=>⟨a,_,rfl,DPut.t (k:=nk (d.1.1,k)) (s2 _ _ (s1 _ _ ha)) e2 (aP (by omega)),?_⟩⟩;have s12:=sm.trans (s1.trans s2);have td:TS H2 (upd H2 a (.dT (aE tvs (nk (d.1.1,k)) v))):=gS (s2 _ _ (s1 _ _ ha));refine⟨aX s12 ga,_,_,ad,?_,rfl⟩;rw[et,es];exact TsAt.ts (eA (ht.ts (Same.ts (s1.trans s2))) (hdd.ts (Same.ts s12))) td
 ·rintro σ H' ⟨sm,tvs,o2,ha,ht,rfl⟩;rw[ll,Yy]at ht;exact⟨_,rfl,q a tvs H' sm ha ht⟩
def vx:Option Dd->Bool
 |some (_,.off _)=>true
 |_=>false
def cy(d:Dd)(ts:As Dd):Bool:=!d.2.isTurn&&vx (look ts d.1)
def pK:Sp:=fun vs H Q _=>∃(v:V) (d:Dd) (a:Addr) (tvs:List (List Key×V)) (ts:As Dd),vs=[v,.ref a]/\DdAt H v d/\H a=some (.dT tvs)/\TsAt H tvs ts/\∀H',Same H H'->Q (.bl (cy d ts)) H'
theorem vy(d:Dd):decide (V.str d.2.word=V.str "off")=vx (some d):=by obtain⟨n,wd⟩:=d;cases wd<;>rfl
abbrev ja:Stmt:=top 23
abbrev uD:List Str:=["deed","turns","name"]
theorem lA:FnScope uD ["deed","turns"] (aj ja):=⟨rfl,rfl,rfl,by decide +kernel,rfl,by decide +kernel,by decide +kernel⟩
theorem sP{f:Addr}{fd:FuncData}(F:Fun K "is_off" "is_off" ja f fd)(F_name_of:Fn P w K mg base 1 "name_of" ["deed"] ge)(F_is_turn:Fn P w K mg base 1 "is_turn" ["deed"] gd):FnOk P w K mg base CX0 2 f fd ["deed","turns"] pK:=by
 refine F.okQ lA (fun vs H Q E h=>?_) (fun cdv A outer s H vs Q E hr h=>?_)
 ·obtain⟨v,d,a,tvs,ts,rfl,_⟩:=h;rfl
 obtain⟨v,d,a,tvs,ts,rfl,hd,ha,ht,q⟩:=h;refine⟨_,(b_c (au (i:=2) lA.nd (aU F_name_of (hr.mono (by decide)) (q_a (q_v 0) ah)))
   (b_1 (aF (md (CF (aU F_is_turn (hr.mono (by decide)) (q_a (q_v 0) ah))) (md (wY hr.units (q_v 2) (q_v 1)) (rf (eT cg (ao am (ao am (fu hr.units (q_v 1) (q_v 2)) ag) ag) aw))))))),?_⟩
 try rw[cxK]
 refine⟨_,rfl,v,d,rfl,hd,fun t H1 s1 e1=>?_⟩;refine⟨_,rfl,v,d,rfl,hd.ts (Same.ts s1),fun H2 s2=>?_⟩;have s12:=s1.trans s2;have q':=fun H' s=>q H' s;unfold cy at q';cases c:d.2.isTurn with
 |true =>rw[c]at q';exact⟨_,rfl,_,rfl,aL (q' H2 s12)⟩
 |false =>
  rw[c]at q';refine⟨_,rfl,_,rfl,bt ?_⟩;refine⟨_,rfl,_,rfl,a,_,rfl,DGet.t (k:=nk d.1) (s12 _ _ ha) (s2 _ _ e1),?_⟩;cases e:look ts d.1 with
  |none =>rw[gL ht e];rw[e]at q';exact⟨_,rfl,aL (q' H2 s12)⟩
  |some d' =>obtain⟨v',f1,dd,c',wa,cs,rfl,h2,h3,h4,r,h5,h6⟩:=bX ht e;rw[f1];rw[e]at q';refine⟨_,rfl,bt ?_⟩;refine⟨_,rfl,_,rfl,a,.ref dd,rfl,f1▸DGet.t (k:=nk d.1) (s12 _ _ ha) (s2 _ _ e1),dd,_,_,_,rfl,rfl,SqT.of (s12 _ _ h2),at2,wa,_,_,_,rfl,rfl,SqT.of (s12 _ _ h5),at0,rfl,?_⟩;rw[vy];exact q' H2 s12
def de(n:Nm):Wd->Option Sd
 |.put u pl tx=>some (.put n u pl tx)
 |.move m u pl=>some (.move m u pl)
 |_=>none
def nS:Sp:=fun vs H Q _=>∃(v:V) (d:Dd) (s:Sd),vs=[v]/\DdAt H v d/\de d.1 d.2=some s/\∀st H',Same H H'->StAt H' st s->Q (.ref st) H'
theorem wE{wd:Wd}(h:∀u pl tx,wd≠.put u pl tx):V.str wd.word≠V.str "put"/\V.str wd.word≠V.str "part":=by
 cases wd with
 |put u pl tx=>exact absurd rfl (h u pl tx)
 |_=>exact⟨by simp only[Wd.word,ne_eq];decide +kernel,by simp only[Wd.word,ne_eq];decide +kernel⟩
theorem wf{H:Hp}{wa:Addr}{n:Nm}{wd:Wd}{s:Sd}(h:∀u pl tx,wd≠.put u pl tx)(hs:de n wd=some s)(x:WhAt H wa wd):StAt H wa s:=by
 obtain⟨r,h5,h6⟩:=x;cases wd with
 |put u pl tx=>exact absurd rfl (h u pl tx)
 |move=>cases hs;obtain⟨nv,uv,pv,rfl,a1,a2,a3⟩:=h6;exact⟨nv,uv,pv,h5,a1,a2,a3⟩
 |_=>cases hs
abbrev gR:Stmt:=top 26
abbrev rJ:List Str:=["deed","what"]
theorem jM:FnScope rJ ["deed"] (aj gR):=⟨rfl,rfl,rfl,by decide +kernel,rfl,by decide +kernel,by decide +kernel⟩
theorem qY{f:Addr}{fd:FuncData}(F:Fun K "step_of" "step_of" gR f fd)(F_name_of:Fn P w K mg base 1 "name_of" ["deed"] ge):FnOk P w K mg base CX0 2 f fd ["deed"] nS:=by
 refine F.okQ jM (fun vs H Q E h=>?_) (fun cdv A outer s H vs Q E hr h=>?_)
 ·obtain⟨v,d,sd,rfl,_⟩:=h;rfl
 obtain⟨v,⟨n,wd⟩,sd,rfl,hd,hs,q⟩:=h;obtain⟨dd,c,wa,cs,rfl,h2,h3,h4,r,h5,h6⟩:=id hd;refine⟨_,(b_c (au (i:=1) jM.nd (ao am (q_v 0) ag))
   (b_c (bf (aI cg (ao am (q_v 1) ag) aw) (b_1 (aF (ay dr (aA (q_a aw (q_a (aU F_name_of (hr.mono (by decide)) (q_a (q_v 0) ah)) ah))) (dY cK (q_v 1) (dF ag) fe)))) b_0)
   (b_c (bf (aI cg (ao am (q_v 1) ag) aw) (b_1 (aF (ay dr (ay dr (dY cK (q_v 1) fe (dF ag)) (aA (q_a (aU F_name_of (hr.mono (by decide)) (q_a (q_v 0) ah)) ah))) (dY cK (q_v 1) (dF ag) fe)))) b_0)
   (b_1 (aF (q_v 1)))))),?_⟩
 try rw[cxK]
 have e5:=SqT.of (K:=K) h5;refine(vix rfl (SqT.of h2) at2 ?_);by_cases c1:∃u pl tx,wd=.put u pl tx
 ·obtain⟨u,pl,tx,rfl⟩:=c1;cases hs;obtain⟨uv,pv,rfl,a1,a2⟩:=h6;refine(vix rfl e5 at0 ⟨rfl,_,rfl,iS ?_⟩);refine⟨_,rfl,_,_,rfl,hd,fun t H1 s1 e1=>⟨sz rfl,fun y gy=>?_⟩⟩;have wy:=ae gy (.tup [.str "put",.ref t]);refine⟨_,rfl,_,rfl,wa,_,rfl,wy _ _ (s1 _ _ h5),fun z H2 s2 e2=>⟨y,z,_,_,rfl,rfl,s2 _ _ ad,e2,sz rfl,fun st H3 s3 e3=>?_⟩⟩;have sm:Same H H3:=s1.trans (wy.trans (s2.trans s3));exact q st H3 sm ⟨.ref t,uv,pv,e3,⟨t,rfl,s3 _ _ (s2 _ _ (wy _ _ e1))⟩,a1.ts (Same.ts sm),a2.ts (Same.ts sm)⟩
 have n1:∀u pl tx,wd≠.put u pl tx:=fun u pl tx z=>c1 ⟨u,pl,tx,z⟩;obtain⟨w1,w2⟩:=wE n1;refine(vix rfl e5 at0 ⟨rfl,_,rfl,bU w1 ?_⟩);refine(vix rfl e5 at0 ⟨rfl,_,rfl,bU w2 ?_⟩);exact⟨_,rfl,q wa H (Same.refl H) (wf n1 hs ⟨r,h5,h6⟩)⟩
theorem kO(c:Addr)(b:List Value):(Value.ref c::b).contains (.ref c)=true:=by simp
structure ErF(K:PySem.W.Frag)(cN cB cF:Addr)(bN bB bF:List Value):Prop where
 eN:ExC K cN bN
 eB:ExC K cB bB
 eF:ExC K cF bF
 bn:(Value.ref cB::bB).contains (.ref cN)=false
 fn:(Value.ref cF::bF).contains (.ref cN)=false
 fb:(Value.ref cF::bF).contains (.ref cB)=false
def cR(ol:Ol)(s:Sd):Prop:=∀n∈s.items,(look ol n).isSome=true
structure Ready(ol:Ol)(s:Sd):Prop where
 nw:∀n∈s.news,look ol n=none
 bd:cR ol s->∃r,Bd ol s r
structure Small(ol:Ol):Prop where
 len:ol.length<=300
 txt:∀n it,look ol n=some it->it.tx.length<=400
inductive WordR(ol:Ol)(s:Sd):Str->Ol->Prop
 |none:¬cR ol s->WordR ol s "none" ol
 |beneath:cR ol s->Bd ol s (some true)->WordR ol s "beneath" ol
 |far:cR ol s->Bd ol s (some false)->WordR ol s "far" ol
 |done {ol':Ol}:cR ol s->Bd ol s none->Ap ol s ol'->WordR ol s "done" ol'
def nV(C:Addr):Sp:=fun vs H Q _=>∃(p d g st:Addr) (ol:Ol) (s:Sd),vs=[.ref p,.ref st]/\OlAt C H p d g ol/\Small ol/\StAt H st s/\Ready ol s/\∀w ol' H',WordR ol s w ol'->But d H H'->OlAt C H' p d g ol'->Q (.str w) H'
abbrev cZ:Stmt:=top 27
abbrev jU:List Str:=["outline","step"]
theorem jN:FnScope jU ["outline","step"] (aj cZ):=⟨rfl,rfl,rfl,by decide +kernel,rfl,by decide +kernel,by decide +kernel⟩
theorem jH{f C cN cB cF:Addr}{fd:FuncData}{bN bB bF:List Value}(F:Fun K "word_of_step" "word_of_step" cZ f fd)(MX_step:MFnX P w K mg base 4 C "step" ["self","step"] (kP C cN cB cF))(R:ErF K cN cB cF bN bB bF)(g_NoItem:mg "NoItem" = some (.ref cN))(g_Beneath:mg "Beneath" = some (.ref cB))(g_Far:mg "Far" = some (.ref cF)):FnOk P w K mg base CX0 5 f fd ["outline","step"] (nV C):=by
 have xc_NoItem:=R.eN;have xc_Beneath:=R.eB;have xc_Far:=R.eF;refine F.okQ jN (fun vs H Q E h=>?_) (fun cdv A outer s H vs Q E hr h=>?_)
 ·obtain⟨p,d,g,st,ol,sd,rfl,_⟩:=h;rfl
 obtain⟨p,d,g,st,ol,sd,rfl,O,sm,hs,rd,q⟩:=h;obtain⟨kvs,S,_⟩:=id O;obtain⟨⟨dx,h1⟩,h2,h3,h4⟩:=id S;refine⟨_,(b_c (BH rfl rfl (yY (BY MX_step (hr.mono (by decide)) (q_v 0) (q_a (q_v 1) ah))) (uZ xc_NoItem g_NoItem (fun _=>(b_1 (aF aw))) (uZ xc_Beneath g_Beneath (fun _=>(b_1 (aF aw))) (uZ xc_Far g_Far (fun _=>(b_1 (aF aw))) Ci))))
   (b_1 (aF aw))),?_⟩
 try rw[cxK]
 refine⟨_,rfl,p,dx,_,rfl,h1,fW _ _,_,rfl,p,d,g,st,ol,sd,rfl,O,sm.len,hs,rd.nw,sm.txt,?_⟩;by_cases c:cR ol sd
 ·obtain⟨r,hb⟩:=rd.bd c;refine .inr ⟨c,r,hb,fun e H1 s1=>?_,fun e H1 s1=>?_,fun e H1 ol' b1 o1 ap=>?_⟩
  ·subst e;exact⟨cB,bB,rfl,R.eB,by rw[R.bn];exact aL ⟨cB,bB,rfl,R.eB,by rw[kO];exact bt (q _ _ _ (.beneath c hb) (But.of s1) (O.same s1))⟩⟩
  ·subst e;exact⟨cF,bF,rfl,R.eF,by rw[R.fn];exact aL ⟨cF,bF,rfl,R.eF,by rw[R.fb];exact aL ⟨cF,bF,rfl,R.eF,by rw[kO];exact bt (q _ _ _ (.far c hb) (But.of s1) (O.same s1))⟩⟩⟩
  ·subst e;exact q _ _ _ (.done c hb ap) b1 o1
 ·refine .inl ⟨c,fun H1 dd s1=>?_⟩;exact⟨cN,bN,rfl,R.eN,by rw[kO];exact bt (q _ _ _ (.none c) (But.of s1) (O.same s1))⟩
def SoAt(H:Hp)(sv:V):Option Sd->Prop
 |none=>sv=.non
 |some s=>∃st,sv=.ref st/\StAt H st s
theorem SoAt.ts{H H':Hp}{sv:V}{so:Option Sd}(x:SoAt H sv so)(t:TS H H'):SoAt H' sv so:=by
 cases so with
 |none=>exact x
 |some s=>obtain⟨st,h1,h2⟩:=x;exact⟨st,h1,h2.ts t⟩
def lZ(ol:Ol):Wd->Bool
 |.put (some m) _ _=>!(look ol m).isSome
 |_=>false
inductive PlayR(ol:Ol)(n:Nm):Wd->Str->Option Sd->Ol->Prop
 |none:PlayR ol n .none "done" none ol
 |take {m:Nm}:PlayR ol n (.take m) (if(look ol m).isSome=true then"done" else"none") none ol
 |back {m:Nm}:PlayR ol n (.back m) (if(look ol m).isSome=true then"done" else"none") none ol
 |top {m:Nm} {pl:List Int} {tx:Str}:look ol m=none->PlayR ol n (.put (some m) pl tx) "top" (some (.put n none pl tx)) (aG ol n ⟨none,pl,tx,false,none,false⟩)
 |step {wd:Wd} {s:Sd} {w:Str} {ol':Ol}:de n wd=some s->lZ ol wd=false->WordR ol s w ol'->PlayR ol n wd w (if w="done" then some s else none) ol'
def tX(C:Addr):Sp:=fun vs H Q _=>∃(v:V) (dd:Dd) (p d g:Addr) (ol:Ol),vs=[v,.ref p]/\DdAt H v dd/\OlAt C H p d g ol/\Small ol/\dd.2.isTurn=false/\(∀s,de dd.1 dd.2=some s->Ready ol s) /\
 ∀w so ol' t sv H',PlayR ol dd.1 dd.2 w so ol'->But d H H'->OlAt C H' p d g ol'->H' t=some (.tup [.str w,sv])->SoAt H' sv so->Q (.ref t) H'
theorem om{n:Nm}{wd:Wd}(h:wd.isTurn=false):wd=.none\/(∃m,wd=.take m\/wd=.back m)\/∃s,de n wd=some s:=by
 cases wd with
 |none=>exact .inl rfl
 |take m=>exact .inr (.inl ⟨m,.inl rfl⟩)
 |back m=>exact .inr (.inl ⟨m,.inr rfl⟩)
 |off k=>cases h
 |on k=>cases h
 |_=>exact .inr (.inr ⟨_,rfl⟩)
theorem zn{n:Nm}{wd:Wd}{s:Sd}(h:de n wd=some s):V.str wd.word≠V.str "none"/\inV (.str wd.word) [.str "take",.str "back"]=false:=by cases wd<;>first|exact⟨by simp only[Wd.word,ne_eq];decide +kernel,rfl⟩|cases h
theorem zp{ol ol':Ol}{s:Sd}{w:Str}(h:WordR ol s w ol'):w="done"\/V.str w≠V.str "done":=by
 cases h with
 |done=>exact .inl rfl
 |_=>exact .inr (by decide +kernel)
abbrev nL:Stmt:=top 25
abbrev zG:List Str:=["deed","outline","what","step","word"]
theorem fD:FnScope zG ["deed","outline"] (aj nL):=⟨rfl,rfl,rfl,by decide +kernel,rfl,by decide +kernel,by decide +kernel⟩
theorem ye{f C cN cB cF:Addr}{fd:FuncData}(F:Fun K "play" "play" nL f fd)(M_holds:MFn P w K mg base 1 C "holds" ["self","name"] (pJ C))(MX_step:MFnX P w K mg base 4 C "step" ["self","step"] (kP C cN cB cF))(F_step_of:Fn P w K mg base 2 "step_of" ["deed"] nS)(F_word_of_step:Fn P w K mg base 5 "word_of_step" ["outline","step"] (nV C)) :
  FnOk P w K mg base CX0 6 f fd ["deed","outline"] (tX C):=by
 refine F.okQ fD (fun vs H Q E h=>?_) (fun cdv A outer s H vs Q E hr h=>?_)
 ·obtain⟨v,dd,p,d,g,ol,rfl,_⟩:=h;rfl
 obtain⟨v,⟨n,wd⟩,p,d,g,ol,rfl,hd,O,sm,nt,rd,q⟩:=h;obtain⟨da,c,wa,cs,rfl,h2,h3,h4,r,h5,h6⟩:=id hd;obtain⟨kvs,S,_⟩:=id O;obtain⟨⟨dx,y1⟩,y2,y3,y4⟩:=id S;refine⟨_,(b_c (au (i:=2) fD.nd (ao am (q_v 0) ag))
   (b_c (bf (aI cg (ao am (q_v 2) ag) aw) (b_1 (aF (aA (q_a aw (q_a bz ah))))) b_0)
   (b_c (bf (aI (qQ (K:=K) rfl) (ao am (q_v 2) ag) (aA (q_a aw (q_a aw ah)))) (b_1 (aF (aA (q_a (vR (cP (dw M_holds (hr.mono (by decide)) (q_v 1) (q_a (ao am (q_v 2) ag) ah))) aw aw) (q_a bz ah))))) b_0)
   (b_c (au (i:=3) fD.nd (aU F_step_of (hr.mono (by decide)) (q_a (q_v 0) ah)))
   (b_c (fz (bf (t_w (dk (aI cg (ao am (q_v 2) ag) aw) (dk (aI du (ao am (q_v 2) ag) bz) (dB (xB (cP (dw M_holds (hr.mono (by decide)) (q_v 1) (q_a (ao am (q_v 2) ag) ah)))))))) (b_c (au (i:=3) fD.nd (aA (q_a aw (q_a (ao am (q_v 3) ag) (q_a bz (q_a (ao am (q_v 3) ag) (q_a (ao am (q_v 3) ag) ah)))))))
   (b_c (bH (kD MX_step jJ (hr.mono (by decide)) (q_v 1) (q_a (q_v 3) ah)))
   (b_1 (aF (aA (q_a aw (q_a (q_v 3) ah))))))) b_0))
   (b_c (au (i:=4) fD.nd (aU F_word_of_step (hr.mono (by decide)) (q_a (q_v 1) (q_a (q_v 3) ah))))
   (b_1 (aF (aA (q_a (q_v 4) (q_a (vR (aI cg (q_v 4) aw) (q_v 3) bz) ah))))))))))),?_⟩
 try rw[cxK]
 have e5:=SqT.of (K:=K) h5;refine(vix rfl (SqT.of h2) at2 ?_);rcases om (n:=n) nt with rfl|⟨m,hm⟩|⟨sd,hs⟩
 ·refine(vix rfl e5 at0 ⟨rfl,_,rfl,iS ?_⟩);exact⟨sz rfl,fun t gt=>q _ _ _ t _ _ .none (But.of (ae gt _)) (O.same (ae gt _)) ad rfl⟩
 ·have key:∃nv,r=[nv]/\NameIs H nv (nk m)/\V.str wd.word≠V.str "none"/\inV (.str wd.word) [.str "take",.str "back"]=true/\PlayR ol n wd (if(look ol m).isSome=true then"done" else"none") none ol:=by
   rcases hm with rfl|rfl
   ·obtain⟨nv,e,hn⟩:=h6;exact⟨nv,e,hn,by simp only[Wd.word,ne_eq];decide +kernel,rfl,.take⟩
   ·obtain⟨nv,e,hn⟩:=h6;exact⟨nv,e,hn,by simp only[Wd.word,ne_eq];decide +kernel,rfl,.back⟩
  obtain⟨nv,rfl,hn,w1,w2,pr⟩:=key;refine(vix rfl e5 at0 ⟨rfl,_,rfl,bU w1 ?_⟩);refine(vix rfl e5 at0 ⟨sz rfl,fun u gu=>?_⟩);have wu:=ae gu (.tup [.str "take",.str "back"]);refine⟨u,_,rfl,.inr (SqT.of ad),rfl,rfl,_,rfl,?_⟩;have ei:(if false=true then !inV (V.str wd.word) [.str "take",.str "back"]else inV (V.str wd.word) [.str "take",.str "back"])=true:=w2;rw[ei];refine bt ?_;refine⟨_,rfl,p,dx,_,rfl,wu _ _ y1,fW _ _,vix rfl (SqT.of (wu _ _ h5)) at1 ⟨p,d,g,ol,nv,m,rfl,O.same wu,hn.same wu,_,rfl,?_⟩⟩;cases c:(look ol m).isSome with
  |true =>rw[c]at pr;exact bt ⟨sz rfl,fun t gt=>q _ _ _ t _ _ pr (But.of (wu.trans (ae gt _))) (O.same (wu.trans (ae gt _))) ad rfl⟩
  |false =>rw[c]at pr;exact aL ⟨sz rfl,fun t gt=>q _ _ _ t _ _ pr (But.of (wu.trans (ae gt _))) (O.same (wu.trans (ae gt _))) ad rfl⟩
 ·obtain⟨w1,w2⟩:=zn hs;have ready:=rd sd hs;refine(vix rfl e5 at0 ⟨rfl,_,rfl,bU w1 ?_⟩);refine(vix rfl e5 at0 ⟨sz rfl,fun u gu=>?_⟩);have wu:=ae gu (.tup [.str "take",.str "back"]);refine⟨u,_,rfl,.inr (SqT.of ad),rfl,rfl,_,rfl,?_⟩;have ei:(if false=true then !inV (V.str wd.word) [.str "take",.str "back"]else inV (V.str wd.word) [.str "take",.str "back"])=false:=w2;rw[ei];refine aL ?_;refine⟨_,rfl,_,_,sd,rfl,hd.ts (Same.ts wu),hs,fun st H2 s2 hst=>?_⟩;have s02:Same H H2:=wu.trans s2;have O2:=O.same s02;have y2':=s02 _ _ y1;have e52:=SqT.of (K:=K) (s02 _ _ h5);refine cW (fun σ H'=>Same H H'/\StAt H' st sd/\lZ ol wd=false/\σ=[some (.ref da),some (.ref p),some (.ref wa),some (.ref st),none]) ?_ ?_
  ·intro RJ hRJ;by_cases c1:∃u pl tx,wd=.put u pl tx
   ·obtain⟨u,pl,tx,rfl⟩:=c1;cases hs;obtain⟨uv,pv,rfl,a1,a2⟩:=h6;refine(vix rfl e52 at0 ⟨rfl,_,rfl,iS ?_⟩);cases u with
    |none =>obtain rfl:uv=.non:=a1;exact(vix rfl e52 at1 ⟨rfl,_,rfl,hU rfl (aL (hRJ _ _ ⟨s02,hst,rfl,rfl⟩))⟩)
    |some m =>
     obtain⟨mb,rfl,hmb⟩:=id a1;refine(vix rfl e52 at1 ⟨rfl,_,rfl,eS (by intro z;cases z) ?_⟩);refine⟨_,rfl,p,dx,_,rfl,y2',fW _ _,vix rfl e52 at1 ⟨p,d,g,ol,_,m,rfl,O2,⟨mb,rfl,s02 _ _ hmb⟩,_,rfl,?_⟩⟩;cases c:look ol m with
     |some it=>exact aL (hRJ _ _ ⟨s02,hst,(by show(!(look ol m).isSome)=false;rw[c];rfl),rfl⟩)
     |none =>
      refine bt ?_;obtain⟨nv,uv',pv',f1,f2,f3,f4⟩:=id hst;have ef:=SqT.of (K:=K) f1;refine(vix rfl ef at1 (vix rfl ef at3 (vix rfl ef at4 ⟨sz rfl,fun s' gs=>?_⟩)));have ws:=ae gs (.tup [.str "put",nv,.non,pv',.str tx]);have s03:=s02.trans ws;have est:StAt (upd H2 s' (.tup [.str "put",nv,.non,pv',.str tx])) s' (.put n none pl tx):=⟨nv,.non,pv',ad,f2.same ws,rfl,f4.ts (Same.ts ws)⟩
      refine⟨_,rfl,p,dx,_,rfl,ws _ _ y2',fW _ _,_,rfl,p,d,g,s',ol,.put n none pl tx,rfl,O.same s03,sm.len,est,ready.nw,sm.txt,.inr ⟨(fun m hm=>by simp[Sd.items]at hm),none,.put,(fun z=>nomatch z),(fun z=>nomatch z),fun _ H3 ol' b3 o3 ap=>?_⟩⟩;cases ap;refine⟨_,rfl,sz rfl,fun t gt=>?_⟩;have wt:=ae gt (.tup [.str "top",.ref s']);have t3:=b3.ts (s03 _ _ y2);exact q _ _ _ t _ _ (.top c) (((But.of s03).trans b3).trans (But.of wt)) (o3.same wt) ad ⟨s',rfl,(est.ts t3).ts (Same.ts wt)⟩
   ·have nn:V.str wd.word≠V.str "put"/\lZ ol wd=false:=by
     cases wd with
     |put u pl tx=>exact absurd ⟨u,pl,tx,rfl⟩ c1
     |_=>exact⟨by simp only[Wd.word,ne_eq];decide +kernel,rfl⟩
    exact(vix rfl e52 at0 ⟨rfl,_,rfl,bU nn.1 (aL (hRJ _ _ ⟨s02,hst,nn.2,rfl⟩))⟩)
  ·rintro σ H3 ⟨s03,hst3,nt',rfl⟩;refine⟨_,rfl,_,rfl,p,d,g,st,ol,sd,rfl,O.same s03,sm,hst3,ready,fun w ol' H4 wr b4 o4=>?_⟩;have pr:=PlayR.step hs nt' wr;have t4:=b4.ts (s03 _ _ y2);rcases zp wr with rfl|nw
   ·rw[if_pos rfl]at pr;refine⟨_,rfl,_,rfl,rfl,_,rfl,iS ?_⟩;exact⟨_,rfl,sz rfl,fun t gt=>q _ _ _ t _ _ pr (((But.of s03).trans b4).trans (But.of (ae gt _))) (o4.same (ae gt _)) ad ⟨st,rfl,(hst3.ts t4).ts (Same.ts (ae gt _))⟩⟩
   ·rw[if_neg fun z=>nw (Yx V.str z)]at pr;refine⟨_,rfl,_,rfl,rfl,_,rfl,bU nw ?_⟩;exact⟨sz rfl,fun t gt=>q _ _ _ t _ _ pr (((But.of s03).trans b4).trans (But.of (ae gt _))) (o4.same (ae gt _)) ad rfl⟩
abbrev Out:=Nm×Str×Option Sd
def turned:Dd->Nm
 |((i,_),.off k)=>(i,k)
 |((i,_),.on k)=>(i,k)
 |(n,_)=>n
def aK(ds:List Dd):List Nm:=(ds.filter (fun d=>d.2.isTurn)).map (·.1)
inductive Runs(ts:As Dd)(tn:List Nm):Ol->List Dd->List Out->Prop
 |nil {ol:Ol}:Runs ts tn ol [] []
 |off {ol:Ol} {d:Dd} {ds:List Dd} {rs:List Out}:cy d ts=true->Runs ts tn ol ds rs->Runs ts tn ol (d::ds) ((d.1,"off",none)::rs)
 |turn {ol:Ol} {d:Dd} {ds:List Dd} {rs:List Out}:cy d ts=false->d.2.isTurn=true->Runs ts tn ol ds rs->Runs ts tn ol (d::ds) ((d.1,if turned d∈tn then"turn" else"done",none)::rs)
 |play {ol ol':Ol} {d:Dd} {ds:List Dd} {rs:List Out} {w:Str} {so:Option Sd}:cy d ts=false->d.2.isTurn=false->PlayR ol d.1 d.2 w so ol'->Runs ts tn ol' ds rs->Runs ts tn ol (d::ds) ((d.1,w,so)::rs)
def dC(ts:As Dd):Ol->List Dd->Prop
 |_,[]=>True
 |ol,d::ds=>((cy d ts=true\/d.2.isTurn=true)->dC ts ol ds)/\(cy d ts=false->d.2.isTurn=false->Small ol/\(∀s,de d.1 d.2=some s->Ready ol s)/\∀w so ol',PlayR ol d.1 d.2 w so ol'->dC ts ol' ds)
def RoAt(H:Hp)(v:V)(r:Out):Prop:=∃(t:Addr) (nv sv:V),v=.ref t/\H t=some (.tup [nv,.str r.2.1,sv])/\NameIs H nv (nk r.1)/\SoAt H sv r.2.2
theorem RoAt.ts{H H':Hp}{v:V}{r:Out}(x:RoAt H v r)(t:TS H H'):RoAt H' v r:=by obtain⟨a,nv,sv,h1,h2,h3,h4⟩:=x;exact⟨a,nv,sv,h1,t _ _ h2,h3.ts' t,h4.ts t⟩
def jd:Sp:=fun vs H Q _=>∃(l:Addr) (xs:List V) (ds:List Dd),vs=[.ref l]/\H l=some (.lst xs)/\jj H xs ds/\ds.length<=300/\dC (aC ds) [] ds /\
 ∀a ys rs H',Same H H'->H' a=some (.lst ys)->Paired (RoAt H') ys rs->Runs (aC ds) (aK ds) [] ds rs->Q (.ref a) H'
theorem fV{H:Hp}{v:V}{n:Nm}(h:NameIs H v (nk n)):Dt H (.tuple [.int n.1,.int n.2]) v:=by obtain⟨b,rfl,e⟩:=h;simp only[Dt,DtAll];exact⟨b,_,rfl,.inl e,_,_,rfl,rfl,_,_,rfl,rfl,rfl⟩
def nmD(n:Nm):PyData:=.tuple [.int n.1,.int n.2]
theorem Av{H:Hp}{vs:List V}{ns:List Nm}(x:Paired (fun v n=>NameIs H v (nk n)) vs ns):DtAll H (ns.map nmD) vs/\PyData.canLayAll0 (ns.map nmD)=true:=by
 induction x with
 |nil=>exact⟨by simp[DtAll],rfl⟩
 |@cons p q _ _ r _ ih =>
  refine⟨?_,?_⟩
  ·simp only[Zz,DtAll];exact⟨_,_,rfl,fV r,ih.1⟩
  ·simp only[Zz,PyData.canLayAll0,ih.2];simp[nmD,PyData.canLay0,PyData.canLayAll0]
theorem Au(k:Nm)(ns:List Nm):((ns.map nmD).any fun d=>PyData.eqv d (nmD k))=decide (k∈ns):=by
 induction ns with
 |nil=>rfl
 |cons n ns ih =>
  rw[Zz,YU,ih];have:PyData.eqv (nmD n) (nmD k)=decide (k=n):=by
   have:=mJ [n.1,n.2] [k.1,k.2];unfold nmD;rw[show([PyData.int n.1,.int n.2]:List PyData)=[n.1,n.2].map PyData.int from rfl,show([PyData.int k.1,.int k.2]:List PyData)=[k.1,k.2].map PyData.int from rfl,this,decide_eq_decide];constructor
   ·intro z;injection z with z1 z2;injection z2 with z2 _;exact Prod.ext z1.symm z2.symm
   ·rintro rfl;rfl
  rw[this,Bool.eq_iff_iff];simp
theorem fJ{K:PySem.W.Frag}{a:Addr}{xs:List V}{n:Nat}{cap:List Nat}{g:TG}{tc:TT}{te:TE}{σ:St}{H0:Hp}{Q:VK}(Pv:Nat->List V->Hp->Prop)(hz:xs.length<=1000)(hn:∀i ys H,Pv i ys H->ys.length<=i)(h0:Pv 0 [] H0)(hl:∀i ys H,Pv i ys H->SqL K H a xs)(ht:∀i ys H x,xs[i]?=some x->Pv i ys H->∀Y:List V->Hp->Prop,(∀zs H4,Pv (i+1) zs H4->Y zs H4)->g x (bx n cap σ) H fun σ2 H2=>tc σ2 H2 fun b H3=>if b=true then te σ2 H3 fun y H4=>Y (ys++[y]) H4 else Y ys H3)(hq:∀ys p H,Pv xs.length ys H->H p=none->Q (.ref p) (upd H p (.lst ys))):eJ n cap g tc te σ (Itl K a) H0 Q:=by refine rR (N:=xs.length) Pv hz hn h0 (fun i ys H hi z=>⟨xs,xs[i],hl i ys H z,by simp[hi]⟩) (fun ys H z=>⟨xs,hl _ ys H z,Ze _⟩) (fun i ys H x H' hi z y Y hY=>?_) hq;obtain rfl:H'=H:=y.1;exact ht i ys H' x (y.2 xs (hl i ys H' z)) z Y hY
theorem jE{ds:List Dd}{i:Nat}{d:Dd}(h:ds[i]?=some d):aK (ds.take (i+1))=aK (ds.take i)++if d.2.isTurn=true then[d.1]else[]:=by unfold aK;rw[List.take_succ,h,List.filter_append,ZU];show _++(List.filter _ [d]).map _=_;cases c:d.2.isTurn<;>simp[c]
abbrev jb:Stmt:=top 24
abbrev uE:List Str:=["ready","turns","turning","outline","told","deed","outcome"]
theorem bC:FnScope uE ["ready"] (aj jb):=⟨rfl,rfl,rfl,by decide +kernel,rfl,by decide +kernel,by decide +kernel⟩
theorem sQ{f C:Addr}{fd:FuncData}(F:Fun K "played" "played" jb f fd)(F_last_turns:Fn P w K mg base 2 "last_turns" ["ready"] tW)(F_is_turn:Fn P w K mg base 1 "is_turn" ["deed"] gd)(F_name_of:Fn P w K mg base 1 "name_of" ["deed"] ge)(F_turned_name:Fn P w K mg base 1 "turned_name" ["deed"] je)(F_is_off:Fn P w K mg base 2 "is_off" ["deed","turns"] pK)(F_play:Fn P w K mg base 6 "play" ["deed","outline"] (tX C))(Mk_Plain:MkFn P w K mg base 1 C "Plain" ["self"] (tV C)):FnOk P w K mg base CX0 7 f fd ["ready"] jd:=by
 refine F.okQ bC (fun vs H Q E h=>?_) (fun cdv A outer s H vs Q E hr h=>?_)
 ·obtain⟨l,xs,ds,rfl,_⟩:=h;rfl
 obtain⟨l,xs,ds,rfl,hl,hd,l3,safe,q⟩:=h;have ll:=ZO hd;refine⟨_,(b_c (au (i:=1) bC.nd (aU F_last_turns (hr.mono (by decide)) (q_a (q_v 0) ah)))
   (b_c (BG (j:=2) bC.nd (own:=["deed"]) (⟨rfl,by decide +kernel,by decide +kernel,rfl,trivial⟩:CompOk _ _ [] []) rfl (dW (q_v 0)) (fun _ _ _ _=>aM (i:=0) (show (["deed"]:List Str).Nodup by decide +kernel)) (bL (by decide)) (fun _ _ _ _=>(Ag (cP (aU F_is_turn (hr.mono (by decide)) (q_a (q_v 0) ah))))) (fun _ _ _ _=>(aU F_name_of (hr.mono (by decide)) (q_a (q_v 0) ah))))
   (b_c (au (i:=3) bC.nd (yN Mk_Plain (hr.mono (by decide))))
   (b_c (au (i:=4) bC.nd (eV ah))
   (b_c (dO Ym rfl (dW (q_v 0)) (aM (i:=5) bC.nd) (b_c (fz (bf (cP (aU F_is_off (hr.mono (by decide)) (q_a (q_v 5) (q_a (q_v 1) ah)))) (b_1 (au (i:=6) bC.nd (aA (q_a aw (q_a bz ah))))) (b_1 (bf (cP (aU F_is_turn (hr.mono (by decide)) (q_a (q_v 5) ah))) (b_1 (au (i:=6) bC.nd (aA (q_a (vR (aI (Cq hr) (aU F_turned_name (hr.mono (by decide)) (q_a (q_v 5) ah)) (q_v 2)) aw aw) (q_a bz ah))))) (b_1 (au (i:=6) bC.nd (aU F_play (hr.mono (by decide)) (q_a (q_v 5) (q_a (q_v 3) ah)))))))))
   (b_1 (bH (ik (q_v 4) (ay dr (aA (q_a (aU F_name_of (hr.mono (by decide)) (q_a (q_v 5) ah)) ah)) (q_v 6)))))))
   (b_1 (aF (q_v 4)))))))),?_⟩
 try rw[cxK]
 refine aq fun R0 hR0=>?_;refine⟨_,rfl,l,xs,ds,rfl,hl,hd,l3,fun a tvs H1 s1 ha ht=>hR0 _ _ ?_⟩;clear hR0 R0;refine aq fun R0 hR0=>?_;refine⟨_,rfl,l,rfl,⟨_,SqL.of (s1 _ _ hl)⟩,?_⟩;refine fJ (fun i ys H'=>Same H1 H'/\ys.length<=i/\Paired (fun v n=>NameIs H' v (nk n)) ys (aK (ds.take i))) (by omega) (fun _ _ _ z=>z.2.1) ⟨Same.refl _,Ze _,.nil⟩ (fun i ys H' z=>SqL.of (z.1 _ _ (s1 _ _ hl))) ?_ ?_
 ·rintro i ys H' v hv ⟨sm,ly,pr⟩ Y hY;obtain⟨d,hdi,hdd⟩:=bu hd hv;have s1':=s1.trans sm;refine⟨_,rfl,v,d,rfl,hdd.ts (Same.ts s1'),fun H2 s2=>⟨_,rfl,?_⟩⟩;cases c:d.2.isTurn with
  |false =>refine aL (hY _ _ ⟨sm.trans s2,by omega,?_⟩);rw[jE hdi,c,if_neg (by decide),ZJ];exact Paired.mapP pr fun _ _ z=>z.same s2
  |true =>refine bt ⟨_,rfl,v,d,rfl,hdd.ts (Same.ts (s1'.trans s2)),fun t H3 s3 e3=>hY _ _ ⟨sm.trans (s2.trans s3),by rw[Zo];exact Nat.succ_le_succ ly,?_⟩⟩;rw[jE hdi,c,if_pos rfl];exact YD (Paired.mapP pr fun _ _ z=>z.same (s2.trans s3)) ⟨t,rfl,e3⟩
 rintro nvs tl H2 ⟨sm2,lnv,prn⟩ gtl;rw[ll,Yy]at prn;have wtl:=ae gtl (.lst nvs);have etl:upd H2 tl (.lst nvs) tl=some (.lst nvs):=ad;have s02:Same H (upd H2 tl (.lst nvs)):=s1.trans (sm2.trans wtl);have ha2:=wtl _ _ (sm2 _ _ ha);have ht2:=ht.ts (Same.ts (sm2.trans wtl));have prn2:=Paired.mapP prn fun _ _ (z:NameIs _ _ _)=>z.same wtl;generalize upd H2 tl (.lst nvs)=H3 at etl s02 ha2 ht2 prn2 ⊢;clear ht prn ha sm2 wtl gtl;refine hR0 _ _ ?_;clear hR0 R0;refine aq fun R0 hR0=>?_;intro x dx nx ndx nex;refine⟨x,dx,rfl,ad,fun d g H4 fd0 fg0 S4 kp4=>⟨rfl,?_⟩⟩;have s34:Same H3 H4:=fun b o e=>kp4 b o (by rw[af (al e nx),af (al e ndx)];exact e) (al e nx);have s00:Same H3 (upd (upd H3 dx (.own x)) x (.ins C dx [])):=fun b o e=>by rw[af (al e nx),af (al e ndx)];exact e
 have d3:H3 d=none:=s00.free fd0;refine hR0 _ _ ?_;clear hR0 R0;refine aq fun R0 hR0=>?_;refine⟨sz rfl,fun to gto=>?_⟩;have wto:=ae gto (.lst []);have eto:upd H4 to (.lst []) to=some (.lst []):=ad;have s35:Same H3 (upd H4 to (.lst [])):=s34.trans wto;have O5:OlAt C (upd H4 to (.lst [])) x d g []:=⟨[],S4.same wto,.nil⟩
 have ndt:d≠to:=fun z=>by have:=S4.dc;rw[z,gto]at this;cases this
 have t3:H3 to=none:=s34.free gto;generalize upd H4 to (.lst [])=H5 at eto s35 O5 ⊢;refine hR0 _ _ ?_;clear hR0 R0;have kH:∀{H'},(∀b o,H3 b=some o->H' b=some o)->Same H H':=fun k b o e=>k b o (s02 _ _ e);refine aq fun R0 hR0=>?_;refine⟨_,rfl,l,rfl,⟨_,SqL.of (s35 _ _ (s02 _ _ hl))⟩,?_⟩;refine gE (K:=K) (a:=l) (xs:=xs) (fun i σ H'=>Same H3 H'/\∃ (ol:Ol) (ys:List V) (rs:List Out) (o5 o6:Option V),OlAt C H' x d g ol/\dC (aC ds) ol (ds.drop i)/\H' to=some (.lst ys)/\ys.length=i/\Paired (RoAt H') ys rs/\(∀ rs',Runs (aC ds) (aK ds) ol (ds.drop i) rs'->Runs (aC ds) (aK ds) [] ds (rs++rs')) /\
   σ=[some (.ref l),some (.ref a),some (.ref tl),some (.ref x),some (.ref to),o5,o6])
  ⟨s35,[],[],[],none,none,O5,safe,eto,rfl,.nil,fun rs' z=>z,rfl⟩ (fun i σ H' _ z=>SqL.of (z.1 _ _ (s02 _ _ hl))) ?_ ?_
 ·rintro i v σ H' hv ⟨sm,ol,ys,rs,o5,o6,O,sf,hto,ly,pr,run,rfl⟩ DL hDL;obtain⟨dd,hdi,hdd⟩:=bu hd hv;have hi:i<ds.length:=(Zw.mp hdi).1;have hdr:ds.drop i=dd::ds.drop (i+1):=by rw[List.drop_eq_getElem_cons hi];rw[Zf hi]at hdi;rw[Zu hdi]
  rw[hdr]at sf run;have hd3:DdAt H3 v dd:=hdd.ts (Same.ts s02);have ddt:d≠to:=ndt;obtain⟨kvs0,S0,_⟩:=id O;refine cW (fun σ H2=>∃ (u:Addr) (w:Str) (sv:V) (so:Option Sd) (ol':Ol),Same H3 H2/\H2 to=some (.lst ys)/\Paired (RoAt H2) ys rs/\OlAt C H2 x d g ol'/\dC (aC ds) ol' (ds.drop (i+1))/\H2 u=some (.tup [.str w,sv])/\SoAt H2 sv so /\
    (∀ rs',Runs (aC ds) (aK ds) ol' (ds.drop (i+1)) rs'->Runs (aC ds) (aK ds) ol (dd::ds.drop (i+1)) ((dd.1,w,so)::rs'))/\σ=[some (.ref l),some (.ref a),some (.ref tl),some (.ref x),some (.ref to),some v,some (.ref u)]) ?_ ?_
  ·intro RJ hRJ;refine⟨_,rfl,_,rfl,v,dd,a,tvs,aC ds,rfl,hd3.ts (Same.ts sm),sm _ _ ha2,ht2.ts (Same.ts sm),fun H6 s6=>⟨_,rfl,?_⟩⟩;have s36:=sm.trans s6;have prs:∀{H7},Same H' H7->Paired (RoAt H7) ys rs:=fun s7=>Paired.mapP pr fun _ _ z=>z.ts (Same.ts s7);cases c:cy dd (aC ds)with
   |true=>exact bt ⟨sz rfl,fun u gu=>hRJ _ _ ⟨u,"off",.non,none,ol,s36.trans (ae gu _),ae gu _ _ _ (s6 _ _ hto),prs (s6.trans (ae gu _)),O.same (s6.trans (ae gu _)),sf.1 (.inl c),ad,rfl,fun rs' z=>.off c z,rfl⟩⟩
   |false =>
    refine aL ?_;refine⟨_,rfl,v,dd,rfl,hd3.ts (Same.ts s36),fun H7 s7=>⟨_,rfl,?_⟩⟩;have s67:=s6.trans s7;have s37:=sm.trans s67;cases c2:dd.2.isTurn with
    |true =>
     refine bt ?_;obtain⟨k,hk⟩:∃k,dd.2=.off k\/dd.2=.on k:=by
      obtain⟨n,wd⟩:=dd;cases wd with
      |off k=>exact⟨k,.inl rfl⟩
      |on k=>exact⟨k,.inr rfl⟩
      |_=>cases c2
     have tk:turned dd=(dd.1.1,k):=by obtain⟨⟨i,j⟩,wd⟩:=dd;rcases hk with hk|hk<;>(dsimp only at hk;subst hk;rfl)
     refine⟨_,rfl,v,dd,k,rfl,hd3.ts (Same.ts s37),hk,fun t H8 s8 e8=>?_⟩;have s78:=s67.trans s8;have s38:=sm.trans s78;obtain⟨dt1,dt2⟩:=Av (Paired.mapP prn2 fun _ _ (z:NameIs _ _ _)=>z.same s38);refine⟨_,rfl,tl,nvs,nmD (dd.1.1,k),_,rfl,SqL.of (s38 _ _ etl),fV (n:=(dd.1.1,k)) ⟨t,rfl,e8⟩,dt1,by simp[SeqAt.shaped,nmD,PyData.canLay0,PyData.canLayAll0,PyData.depth,PyData.depthAll],dt2,_,rfl,?_⟩;have en:(if false=true then !((aK ds).map nmD).any (fun d=>PyData.eqv d (nmD (dd.1.1,k)))else((aK ds).map nmD).any (fun d=>PyData.eqv d (nmD (dd.1.1,k))))=decide (turned dd∈aK ds):=by rw[tk];exact Au _ _
     rw[en];refine km (fun c3=>?_) (fun c3=>?_)
     ·exact⟨sz rfl,fun u gu=>hRJ _ _ ⟨u,"turn",.non,none,ol,s38.trans (ae gu _),ae gu _ _ _ (s78 _ _ hto),prs (s78.trans (ae gu _)),O.same (s78.trans (ae gu _)),sf.1 (.inr c2),ad,rfl,fun rs' z=>by have:=Runs.turn c c2 z;rw[if_pos c3]at this;exact this,rfl⟩⟩
     ·exact⟨sz rfl,fun u gu=>hRJ _ _ ⟨u,"done",.non,none,ol,s38.trans (ae gu _),ae gu _ _ _ (s78 _ _ hto),prs (s78.trans (ae gu _)),O.same (s78.trans (ae gu _)),sf.1 (.inr c2),ad,rfl,fun rs' z=>by have:=Runs.turn c c2 z;rw[if_neg c3]at this;exact this,rfl⟩⟩
    |false =>refine aL ?_;obtain⟨small,rdy,nxt⟩:=sf.2 c c2;refine⟨_,rfl,_,rfl,v,dd,x,d,g,ol,rfl,hd3.ts (Same.ts s37),O.same s67,small,c2,rdy,fun w so ol' t sv H8 pl b8 o8 e8 so8=>?_⟩;have k8:Same H3 H8:=fun b o e=>b8 b o (s37 _ _ e) (al e d3);have t8:=b8.ts (s67 _ _ S0.dc);exact hRJ _ _ ⟨t,w,sv,so,ol',k8,b8 _ _ (s67 _ _ hto) (Z8 ndt),Paired.mapP (prs s67) fun _ _ z=>z.ts t8,o8,nxt _ _ _ pl,e8,so8,fun rs' z=>.play c c2 pl z,rfl⟩
  ·rintro σ H2 ⟨u,w,sv,so,ol',s32,hto2,pr2,O2,sf2,eu,eso,run2,rfl⟩;refine⟨_,rfl,.inl ⟨rfl,_,SqL.of hto2⟩,_,rfl,v,dd,rfl,hd3.ts (Same.ts s32),fun t H6 s6 e6=>⟨sz rfl,fun y gy=>?_⟩⟩;have wy:=ae gy (.tup [.ref t]);refine⟨_,rfl,y,u,_,_,rfl,rfl,ad,wy _ _ (s6 _ _ eu),sz rfl,fun z H7 s7 e7=>?_⟩;have s27:Same H2 H7:=s6.trans (wy.trans s7);refine⟨to,_,_,rfl,rfl,s27 _ _ hto2,aP (by omega),?_⟩;have tl':TS H7 (upd H7 to (.lst (ys++[.ref z]))):=fun b zs e=>by rw[af (fU e (s27 _ _ hto2) (by intro z;cases z))];exact e
   have T2:TS H2 (upd H7 to (.lst (ys++[.ref z]))):=fun b zs e=>tl' _ _ (s27 _ _ e);refine hDL _ _ ⟨fun b o e=>by rw[af (al e t3)];exact s27 _ _ (s32 _ _ e),ol',ys++[.ref z],rs++[(dd.1,w,so)],_,_,?_,sf2,ad,by rw[Zo,ly];rfl,YD (Paired.mapP pr2 fun _ _ q=>q.ts T2) ⟨z,.ref t,sv,rfl,tl' _ _ e7,⟨t,rfl,tl' _ _ (s7 _ _ (wy _ _ e6))⟩,eso.ts T2⟩,fun rs' q=>by rw[Zy];exact run _ (run2 rs' q),rfl⟩;obtain⟨kvs',S',R'⟩:=O2;obtain⟨⟨dz,z1⟩,z2,z3,z4⟩:=S'.same s27;exact⟨kvs',⟨⟨dz,by rw[af (fU z1 (s27 _ _ hto2) (by intro z;cases z))];exact z1⟩,by rw[af ndt];exact z2,by rw[af (fU z3 (s27 _ _ hto2) (by intro z;cases z))];exact z3,z4⟩,R'.ts T2⟩
 ·rintro σ H' ⟨sm,ol,ys,rs,o5,o6,O,sf,hto,ly,pr,run,rfl⟩;rw[ll,List.drop_length]at run;refine hR0 _ _ ?_;have:=run [] .nil;rw[ZJ]at this;exact⟨_,rfl,q to ys rs H' (s02.trans sm) hto pr this⟩
def WoAt(H:Hp)(v:V)(r:Out):Prop:=∃(t:Addr) (nv:V),v=.ref t/\H t=some (.tup [nv,.str r.2.1])/\NameIs H nv (nk r.1)
def pP:Sp:=fun vs H Q _=>∃(l:Addr) (xs:List V) (ds:List Dd),vs=[.ref l]/\H l=some (.lst xs)/\jj H xs ds/\ds.length<=300/\dC (aC ds) [] ds /\
 ∀a ys rs H',Same H H'->H' a=some (.lst ys)->Paired (WoAt H') ys rs->Runs (aC ds) (aK ds) [] ds rs->Q (.ref a) H'
theorem WoAt.ts{H H':Hp}{v:V}{r:Out}(x:WoAt H v r)(t:TS H H'):WoAt H' v r:=by obtain⟨a,nv,h1,h2,h3⟩:=x;exact⟨a,nv,h1,t _ _ h2,h3.ts' t⟩
theorem eK{α:Type}{l:List α}{i:Nat}{x:α}(h:l[i]?=some x):l.take (i+1)=l.take i++[x]:=by rw[List.take_succ,h];rfl
theorem pE{ts:As Dd}{tn:List Nm}{ol:Ol}{ds:List Dd}{rs:List Out}(h:Runs ts tn ol ds rs):rs.length=ds.length:=by
 induction h with
 |nil=>rfl
 |off _ _ ih=>rw[Zl,Zl,ih]
 |turn _ _ _ ih=>rw[Zl,Zl,ih]
 |play _ _ _ _ ih=>rw[Zl,Zl,ih]
abbrev fZ:Stmt:=top 18
abbrev qd:List Str:=["ready"]
theorem oH:FnScope qd ["ready"] (aj fZ):=⟨rfl,rfl,rfl,by decide +kernel,rfl,by decide +kernel,by decide +kernel⟩
theorem oF{f:Addr}{fd:FuncData}(F:Fun K "words_of" "words_of" fZ f fd)(F_played:Fn P w K mg base 7 "played" ["ready"] jd):FnOk P w K mg base CX0 8 f fd ["ready"] pP:=by
 refine F.okQ oH (fun vs H Q E h=>?_) (fun cdv A outer s H vs Q E hr h=>?_)
 ·obtain⟨l,xs,ds,rfl,_⟩:=h;rfl
 obtain⟨l,xs,ds,rfl,hl,hd,l3,safe,q⟩:=h;refine⟨_,(b_1 (aF (gJ (own:=["name","word","step"]) (⟨rfl,by decide +kernel,by decide +kernel,rfl,trivial⟩:CompOk _ _ [] []) rfl (dW (aU F_played (hr.mono (by decide)) (q_a (q_v 0) ah))) (fun _ _ _ _=>sk (K:=K) (n:=3) rfl rfl (cJ (aM (i:=0) (show(["name","word","step"]:List Str).Nodup by decide +kernel)) (cJ (aM (i:=1) (show(["name","word","step"]:List Str).Nodup by decide +kernel)) (cJ (aM (i:=2) (show(["name","word","step"]:List Str).Nodup by decide +kernel)) ki)))) (sq (cU (bL (by decide)) bw (cU (bL (by decide)) bw (cU (bL (by decide)) bw oX dR) (cV bw dR)) (cV bw (cV bw dR)))) (fun _ _ _ _=>qG) (fun _ _ _ _=>(aA (q_a (q_v 0) (q_a (q_v 1) ah))))))),?_⟩
 try rw[cxK]
 refine⟨_,rfl,l,xs,ds,rfl,hl,hd,l3,safe,fun a ys rs H1 s1 ea pr run=>⟨a,rfl,⟨_,SqL.of ea⟩,?_⟩⟩;have ln:ys.length=ds.length:=(ZO pr).trans (pE run);refine fJ (fun i zs H'=>Same H1 H'/\zs.length<=i/\Paired (WoAt H') zs (rs.take i)) (by omega) (fun _ _ _ z=>z.2.1) ⟨Same.refl _,Ze _,.nil⟩ (fun i zs H' z=>SqL.of (z.1 _ _ ea)) ?_ ?_
 ·rintro i zs H' v hv ⟨sm,lz,pz⟩ Y hY;obtain⟨r,hr',t,nv,sv,rfl,e1,e2,e3⟩:=bu pr hv;refine⟨t,_,rfl,SqT.of (sm _ _ e1),rfl,_,_,rfl,_,_,rfl,_,_,rfl,rfl,?_⟩;refine⟨_,rfl,_,rfl,sz rfl,fun u gu=>hY _ _ ⟨sm.trans (ae gu _),by rw[Zo];exact Nat.succ_le_succ lz,?_⟩⟩;rw[eK hr'];exact YD (Paired.mapP pz fun _ _ z=>z.ts (Same.ts (ae gu _))) ⟨u,nv,rfl,ad,e2.same (sm.trans (ae gu _))⟩
 ·rintro zs b H' ⟨sm,lz,pz⟩ gb;rw[(ZO pr),Yy]at pz;exact q b zs rs _ (s1.trans (sm.trans (ae gb _))) ad (Paired.mapP pz fun _ _ z=>z.ts (Same.ts (ae gb _))) run
def aH(rs:List Out):List (Nm×Sd):=rs.filterMap fun r=>r.2.2.map fun s=>(r.1,s)
def SsAt(H:Hp)(v:V)(r:Nm×Sd):Prop:=∃(t st:Addr) (nv:V),v=.ref t/\H t=some (.tup [nv,.ref st])/\NameIs H nv (nk r.1)/\StAt H st r.2
theorem SsAt.ts{H H':Hp}{v:V}{r:Nm×Sd}(x:SsAt H v r)(t:TS H H'):SsAt H' v r:=by obtain⟨a,st,nv,h1,h2,h3,h4⟩:=x;exact⟨a,st,nv,h1,t _ _ h2,h3.ts' t,h4.ts t⟩
def pN:Sp:=fun vs H Q _=>∃(l:Addr) (xs:List V) (ds:List Dd),vs=[.ref l]/\H l=some (.lst xs)/\jj H xs ds/\ds.length<=300/\dC (aC ds) [] ds /\
 ∀a ys rs H',Same H H'->H' a=some (.lst ys)->Paired (SsAt H') ys (aH rs)->Runs (aC ds) (aK ds) [] ds rs->Q (.ref a) H'
abbrev fY:Stmt:=top 19
abbrev qc:List Str:=["ready"]
theorem oG:FnScope qc ["ready"] (aj fY):=⟨rfl,rfl,rfl,by decide +kernel,rfl,by decide +kernel,by decide +kernel⟩
theorem oE{f:Addr}{fd:FuncData}(F:Fun K "steps_of" "steps_of" fY f fd)(F_played:Fn P w K mg base 7 "played" ["ready"] jd):FnOk P w K mg base CX0 8 f fd ["ready"] pN:=by
 refine F.okQ oG (fun vs H Q E h=>?_) (fun cdv A outer s H vs Q E hr h=>?_)
 ·obtain⟨l,xs,ds,rfl,_⟩:=h;rfl
 obtain⟨l,xs,ds,rfl,hl,hd,l3,safe,q⟩:=h;refine⟨_,(b_1 (aF (gJ (own:=["name","word","step"]) (⟨rfl,by decide +kernel,by decide +kernel,rfl,trivial⟩:CompOk _ _ [] []) rfl (dW (aU F_played (hr.mono (by decide)) (q_a (q_v 0) ah))) (fun _ _ _ _=>sk (K:=K) (n:=3) rfl rfl (cJ (aM (i:=0) (show(["name","word","step"]:List Str).Nodup by decide +kernel)) (cJ (aM (i:=1) (show(["name","word","step"]:List Str).Nodup by decide +kernel)) (cJ (aM (i:=2) (show(["name","word","step"]:List Str).Nodup by decide +kernel)) ki)))) (sq (cU (bL (by decide)) bw (cU (bL (by decide)) bw (cU (bL (by decide)) bw oX dR) (cV bw dR)) (cV bw (cV bw dR)))) (fun _ _ _ _=>(Ag (aI du (q_v 2) bz))) (fun _ _ _ _=>(aA (q_a (q_v 0) (q_a (q_v 2) ah))))))),?_⟩
 try rw[cxK]
 refine⟨_,rfl,l,xs,ds,rfl,hl,hd,l3,safe,fun a ys rs H1 s1 ea pr run=>⟨a,rfl,⟨_,SqL.of ea⟩,?_⟩⟩;have ln:ys.length=ds.length:=(ZO pr).trans (pE run);refine fJ (fun i zs H'=>Same H1 H'/\zs.length<=i/\Paired (SsAt H') zs (aH (rs.take i))) (by omega) (fun _ _ _ z=>z.2.1) ⟨Same.refl _,Ze _,.nil⟩ (fun i zs H' z=>SqL.of (z.1 _ _ ea)) ?_ ?_
 ·rintro i zs H' v hv ⟨sm,lz,pz⟩ Y hY;obtain⟨r,hr',t,nv,sv,rfl,e1,e2,e3⟩:=bu pr hv;have es:aH (rs.take (i+1))=aH (rs.take i)++(r.2.2.map fun s=>(r.1,s)).toList:=by unfold aH;rw[eK hr',List.filterMap_append];obtain⟨n,w',so⟩:=r;cases so<;>rfl
  refine⟨t,_,rfl,SqT.of (sm _ _ e1),rfl,_,_,rfl,_,_,rfl,_,_,rfl,rfl,?_⟩;obtain⟨n,w',so⟩:=r;cases so with
  |none =>obtain rfl:sv=.non:=e3;refine⟨_,rfl,rfl,_,rfl,hU rfl (hY _ _ ⟨sm,by omega,?_⟩)⟩;rw[es];simpa using pz
  |some sd =>obtain⟨st,rfl,est⟩:=e3;refine⟨_,rfl,rfl,_,rfl,eS (by intro z;cases z) ?_⟩;refine⟨_,rfl,_,rfl,sz rfl,fun u gu=>hY _ _ ⟨sm.trans (ae gu _),by rw[Zo];exact Nat.succ_le_succ lz,?_⟩⟩;rw[es];exact YD (Paired.mapP pz fun _ _ z=>z.ts (Same.ts (ae gu _))) ⟨u,st,nv,rfl,ad,e2.same (sm.trans (ae gu _)),est.ts (Same.ts (sm.trans (ae gu _)))⟩
 ·rintro zs b H' ⟨sm,lz,pz⟩ gb;rw[(ZO pr),Yy]at pz;exact q b zs rs _ (s1.trans (sm.trans (ae gb _))) ad (Paired.mapP pz fun _ _ z=>z.ts (Same.ts (ae gb _))) run
def upD:Option Nm->PyData
 |none=>.none
 |some n=>nmD n
def plD(ns:List Int):PyData:=.tuple (ns.map PyData.int)
def sdD:Sd->PyData
 |.put n u pl tx=>.tuple [.str "put",nmD n,upD u,plD pl,.str tx]
 |.move n u pl=>.tuple [.str "move",nmD n,upD u,plD pl]
theorem mi{H:Hp}{v:V}{u:Option Nm}(h:UpAt H v u):Dt H (upD u) v:=by
 cases u with
 |none =>obtain rfl:v=.non:=h;simp only[upD,Dt]
 |some n=>exact fV h
theorem wW{H:Hp}{v:V}{ns:List Int}(h:PlAt H v ns):Dt H (plD ns) v:=by obtain⟨b,rfl,e⟩:=h;exact mI e
theorem hJ{H:Hp}{st:Addr}{vs:List V}{ds:List PyData}(h:H st=some (.tup vs))(hd:DtAll H ds vs):Dt H (.tuple ds) (.ref st):=by unfold Dt;exact⟨st,_,rfl,.inl h,hd⟩
theorem gv{H:Hp}:DtAll H [] []:=by simp[DtAll]
theorem bj{H:Hp}{d:PyData}{ds:List PyData}{v:V}{vs:List V}(h:Dt H d v)(t:DtAll H ds vs):DtAll H (d::ds) (v::vs):=by unfold DtAll;exact⟨_,_,rfl,h,t⟩
theorem jp{H:Hp}(s:Str):Dt H (.str s) (.str s):=by simp only[Dt]
theorem CI{H:Hp}{st:Addr}{s:Sd}(h:StAt H st s):Dt H (sdD s) (.ref st):=by
 cases s with
 |put=>obtain⟨nv,uv,pv,h1,h2,h3,h4⟩:=h;exact hJ h1 (bj (jp _) (bj (fV h2) (bj (mi h3) (bj (wW h4) (bj (jp _) gv)))))
 |move=>obtain⟨nv,uv,pv,h1,h2,h3,h4⟩:=h;exact hJ h1 (bj (jp _) (bj (fV h2) (bj (mi h3) (bj (wW h4) gv))))
def Sd.ok:Sd->Prop
 |.put _ _ _ tx=>PyData.strOk tx=true
 |_=>True
theorem ci(n:Nm):(nmD n).canLay0=true/\(nmD n).depth=1:=by simp[nmD,PyData.canLay0,PyData.canLayAll0,PyData.depth,PyData.depthAll]
theorem dq(u:Option Nm):(upD u).canLay0=true/\(upD u).depth<=1:=by
 cases u with
 |none=>exact⟨rfl,by decide⟩
 |some n=>exact⟨(ci n).1,Nat.le_of_eq (ci n).2⟩
theorem jA(ns:List Int):(plD ns).canLay0=true/\(plD ns).depth=1:=by obtain⟨h1,h2⟩:=mX ns;exact⟨by simpa[plD,PyData.canLay0]using h1,by simp[plD,PyData.depth,h2]⟩
theorem vm:PyData.strOk "put" = true/\PyData.strOk "move" = true/\PyData.strOk "write" = true/\PyData.strOk "mark" = true/\PyData.strOk "due" = true/\PyData.strOk "fold" = true/\PyData.strOk "part" = true/\PyData.strOk "join" = true:=by decide +kernel
theorem An{s:Sd}(h:s.ok):(sdD s).canLay0=true/\(sdD s).depth<=2:=by
 obtain⟨w1,w2,w3,w4,w5,w6,w7,w8⟩:=vm;cases s with
 |put n u pl tx=>have:=(dq u).2;exact⟨by simp[sdD,PyData.canLay0,PyData.canLayAll0,w1,(ci n).1,(dq u).1,(jA pl).1,show PyData.strOk tx=true from h],by simp only[sdD,PyData.depth,PyData.depthAll,(ci n).2,(jA pl).2];omega⟩
 |move n u pl=>have:=(dq u).2;exact⟨by simp[sdD,PyData.canLay0,PyData.canLayAll0,w2,(ci n).1,(dq u).1,(jA pl).1],by simp only[sdD,PyData.depth,PyData.depthAll,(ci n).2,(jA pl).2];omega⟩
theorem cX{H:Hp}{α:Type}{R:V->α->Prop}{D:α->PyData}{l:Addr}{vs:List V}{rs:List α}(hl:H l=some (.lst vs))(x:Paired R vs rs)(hD:∀v r,r∈rs->R v r->Dt H (D r) v/\(D r).canLay0=true/\(D r).depth<=3) :
  Dt H (.list (rs.map D)) (.ref l)/\SeqAt.shaped (.list (rs.map D))=true/\PyData.eqv (.list (rs.map D)) (.list (rs.map D))=true:=by
 have gen:DtAll H (rs.map D) vs/\PyData.canLayAll0 (rs.map D)=true/\PyData.depthAll (rs.map D)<=3:=by
  clear hl;induction x with
  |nil=>exact⟨gv,rfl,by simp[PyData.depthAll]⟩
  |@cons p q _ _ r _ ih =>obtain⟨h1,h2,h3⟩:=hD p q Zv r;obtain⟨i1,i2,i3⟩:=ih fun v r hr=>hD v r (Zn _ hr);refine⟨bj h1 i1,by simp[PyData.canLayAll0,h2,i2],?_⟩;simp only[Zz,PyData.depthAll];omega
 obtain⟨g1,g2,g3⟩:=gen;have c:(PyData.list (rs.map D)).canLay0=true:=by simpa[PyData.canLay0]using g2
 refine⟨?_,tR c (by simp only[PyData.depth];omega),SeqAt.eqv_refl _ c⟩;simp only[Dt];exact⟨l,vs,rfl,.inl hl,g1⟩
def ssD(r:Nm×Sd):PyData:=.tuple [nmD r.1,sdD r.2]
theorem xp{H:Hp}{v:V}{r:Nm×Sd}(h:SsAt H v r)(ok:r.2.ok):Dt H (ssD r) v/\(ssD r).canLay0=true/\(ssD r).depth<=3:=by obtain⟨t,st,nv,rfl,h2,h3,h4⟩:=h;obtain⟨l1,l2⟩:=An ok;exact⟨hJ h2 (bj (fV h3) (bj (CI h4) gv)),by simp[ssD,PyData.canLay0,PyData.canLayAll0,(ci r.1).1,l1],by simp only[ssD,PyData.depth,PyData.depthAll,(ci r.1).2];omega⟩
def woD(r:Nm×Str):PyData:=.tuple [nmD r.1,.str r.2]
theorem ml{H:Hp}{v:V}{r:Out}(h:WoAt H v r)(ok:PyData.strOk r.2.1=true):Dt H (woD (r.1,r.2.1)) v/\(woD (r.1,r.2.1)).canLay0=true/\(woD (r.1,r.2.1)).depth<=3:=by obtain⟨t,nv,rfl,h2,h3⟩:=h;exact⟨hJ h2 (bj (fV h3) (bj (jp _) gv)),by simp[woD,PyData.canLay0,PyData.canLayAll0,(ci r.1).1,ok],by simp only[woD,PyData.depth,PyData.depthAll,(ci r.1).2];omega⟩
section
variable{ts:As Dd}{tn:List Nm}{ol:Ol}{d:Dd}{ds:List Dd}{rs:List Out}
theorem iY(c:cy d ts=false)(c2:d.2.isTurn=false)(h:Runs ts tn ol (d::ds) rs):∃w so ol' rs',rs=(d.1,w,so)::rs'/\PlayR ol d.1 d.2 w so ol'/\Runs ts tn ol' ds rs':=by
 cases h with
 |off z _=>rw[c]at z;cases z
 |turn _ z _=>rw[c2]at z;cases z
 |play _ _ p r=>exact⟨_,_,_,_,rfl,p,r⟩
theorem pF(c:cy d ts=true)(h:Runs ts tn ol (d::ds) rs):∃rs':List Out,rs=((d.1,"off",none):Out)::rs'/\Runs ts tn ol ds rs':=by
 cases h with
 |off _ r=>exact⟨_,rfl,r⟩
 |turn z _ _=>rw[c]at z;cases z
 |play z _ _ _=>rw[c]at z;cases z
theorem nJ(c:cy d ts=false)(c2:d.2.isTurn=true)(h:Runs ts tn ol (d::ds) rs):∃rs':List Out,rs=((d.1,if turned d∈tn then"turn" else"done",none):Out)::rs'/\Runs ts tn ol ds rs':=by
 cases h with
 |off z _=>rw[c]at z;cases z
 |turn _ _ r=>exact⟨_,rfl,r⟩
 |play _ z _ _=>rw[c2]at z;cases z
theorem kE(h:Runs ts tn ol [] rs):rs=[]:=by cases h;rfl
theorem tO(c:cy d ts=false)(c2:d.2.isTurn=false)(h1:Small ol)(h2:∀s,de d.1 d.2=some s->Ready ol s)(h3:∀w so ol',PlayR ol d.1 d.2 w so ol'->dC ts ol' ds):dC ts ol (d::ds):=by unfold dC;exact⟨fun z=>(by rw[c,c2]at z;rcases z with z|z<;>cases z),fun _ _=>⟨h1,h2,h3⟩⟩
end
theorem zi{ol:Ol}{o:Nm}{k k':Nat}{u:Option Nm}{b b':Bool}(h:Und ol o k u b):Und ol o k' u b'->b=b':=by
 induction h generalizing k' b' with
 |none=>intro h';cases h';rfl
 |self=>intro h';cases h' with
  |self=>rfl
  |up ne _ _=>exact absurd rfl ne
 |up ne e _ ih=>intro h';cases h' with
  |self=>exact absurd rfl ne
  |up _ e' h2 =>rw[e]at e';cases e';exact ih h2
theorem tz{ol ol':Ol}{n:Nm}{w:Str}{so:Option Sd}(h:PlayR ol n .none w so ol'):w="done"/\so=none/\ol'=ol:=by
 cases h with
 |none=>exact⟨rfl,rfl,rfl⟩
 |step hs _ _=>cases hs
inductive Ch(ol:Ol):Nat->Option Nm->Prop
 |none:Ch ol 0 none
 |up {k:Nat} {n:Nm} {it:It}:look ol n=some it->Ch ol k it.up->Ch ol (k+1) (some n)
def Ter(ol:Ol):Prop:=∀n it,look ol n=some it->∃k,Ch ol k (some n)
theorem BX{ol:Ol}{k:Nat}{u:Option Nm}(h:Ch ol k u)(o:Nm):∃k' b,Und ol o k' u b:=by
 induction h with
 |none=>exact⟨0,false,.none⟩
 |@up k n it hl _ ih =>
  by_cases c:n=o
  ·exact⟨0,true,c▸.self⟩
  ·obtain⟨k',b,x⟩:=ih;exact⟨k'+1,b,.up c hl x⟩
theorem oP{ol ol':Ol}(hh:∀n it,look ol n=some it->∃it',look ol' n=some it'/\it'.up=it.up){k:Nat}{u:Option Nm}(h:Ch ol k u):Ch ol' k u:=by
 induction h with
 |none=>exact .none
 |up hl _ ih =>obtain⟨it',h1,h2⟩:=hh _ _ hl;exact .up h1 (h2▸ih)
theorem Ter.new{ol:Ol}(t:Ter ol){n:Nm}{it:It}{k:Nat}(h:look ol n=none)(c:Ch ol k it.up):Ter (aG ol n it):=by
 have mono:∀x i,look ol x=some i->∃i',look (aG ol n it) x=some i'/\i'.up=i.up:=fun x i hx=>by rw[aO,if_neg fun z=>by rw[z,h]at hx;cases hx];exact⟨_,hx,rfl⟩
 intro x i hx;by_cases e:x=n
 ·subst e;exact⟨_,.up (by rw[aO,if_pos rfl]) (oP mono c)⟩
 ·rw[aO,if_neg e]at hx;obtain⟨k,y⟩:=t x i hx;exact⟨k,oP mono y⟩
theorem wx{ol:Ol}{o:Nm}{x:It}{k:Nat}{u:Option Nm}{b:Bool}(h:Und ol o k u b)(hb:b=false):Ch (aG ol o x) k u:=by
 induction h with
 |none=>exact .none
 |self=>cases hb
 |up hn hl _ ih=>exact .up (by rw[aO,if_neg hn];exact hl) (ih hb)
theorem Ter.move{ol:Ol}(t:Ter ol){n:Nm}{it':It}{k:Nat}(un:Und ol n k it'.up false):Ter (aG ol n it'):=by
 have cn:Ch (aG ol n it') (k+1) (some n):=.up (by rw[aO,if_pos rfl]) (wx un rfl);have gen:∀{k:Nat} {u:Option Nm},Ch ol k u->∃k',Ch (aG ol n it') k' u:=fun h=>by
  induction h with
  |none=>exact⟨0,.none⟩
  |@up k x i hl _ ih =>
   by_cases c:x=n
   ·exact⟨_,by rw[c];exact cn⟩
   ·obtain⟨k',y⟩:=ih;exact⟨_,.up (by rw[aO,if_neg c];exact hl) y⟩
 intro x i hx;by_cases c:x=n
 ·exact⟨_,by rw[c];exact cn⟩
 ·rw[aO,if_neg c]at hx;obtain⟨k,y⟩:=t x i hx;exact gen y
def wt(ol:Ol)(x:Nm):Nat:=match look ol x with
 |some it=>it.tx.length
 |none=>0
theorem zq{ol:Ol}{x:Nm}{it:It}(h:look ol x=some it):wt ol x=it.tx.length:=by unfold wt;rw[h]
theorem jR{ol:Ol}{n x:Nm}{it:It}:wt (aG ol n it) x=if x=n then it.tx.length else wt ol x:=by
 unfold wt;rw[aO];by_cases c:x=n
 ·rw[if_pos c,if_pos c]
 ·rw[if_neg c,if_neg c]
theorem tZ{f g:Nm->Nat}{L:List Nm}(h:∀y∈L,f y=g y):(L.map f).sum=(L.map g).sum:=by rw[List.map_congr_left h]
theorem pQ{f g:Nm->Nat}{x:Nm}:∀{L:List Nm},L.Nodup->x∈L->(∀y,y≠x->f y=g y)->(L.map f).sum+g x=(L.map g).sum+f x
 |y::L,nd,h,e=>by
  rw[YE]at nd;rw[Zz,Yq,Zz,Yq];rcases Zq.mp h with rfl|h
  ·have:(L.map f).sum=(L.map g).sum:=tZ fun y hy=>e y fun z=>nd.1 (z▸hy);omega
  ·have:=pQ nd.2 h e;have:=e y fun z=>nd.1 (z▸h);omega
structure Inv(ol:Ol)(B:Nat):Prop where
 ter:Ter ol
 wgt:∃L:List Nm,L.Nodup/\(∀x,(look ol x).isSome=true↔x∈L)/\(L.map (wt ol)).sum<=B
theorem C2:Inv [] 0:=⟨fun n it h=>(nomatch h),[],List.nodup_nil,fun x=>⟨fun h=>(nomatch h),fun h=>(nomatch h)⟩,Ze _⟩
theorem Inv.more{ol:Ol}{B C:Nat}(v:Inv ol B)(h:B<=C):Inv ol C:=⟨v.ter,by obtain⟨L,a,b,c⟩:=v.wgt;exact⟨L,a,b,ZC c h⟩⟩
theorem zo{ol:Ol}{B c:Nat}{n:Nm}{it it':It}(v:∃L:List Nm,L.Nodup/\(∀x,(look ol x).isSome=true↔x∈L)/\(L.map (wt ol)).sum<=B)(h:look ol n=some it)(e:it'.tx.length<=it.tx.length+c):∃L:List Nm,L.Nodup/\(∀x,(look (aG ol n it') x).isSome=true↔x∈L)/\(L.map (wt (aG ol n it'))).sum<=B+c:=by
 obtain⟨L,nd,hL,hs⟩:=v;have hn:n∈L:=(hL n).mp (by rw[h];rfl);refine⟨L,nd,fun x=>?_,?_⟩
 ·rw[aO];by_cases z:x=n
  ·rw[if_pos z,z];exact⟨fun _=>hn,fun _=>rfl⟩
  ·rw[if_neg z];exact hL x
 ·have:=pQ (f:=wt (aG ol n it')) (g:=wt ol) nd hn fun y hy=>by rw[jR,if_neg hy]
  rw[jR,if_pos rfl,zq h]at this;omega
theorem pV{ol:Ol}{B:Nat}{n:Nm}{it:It}(v:∃L:List Nm,L.Nodup/\(∀x,(look ol x).isSome=true↔x∈L)/\(L.map (wt ol)).sum<=B)(h:look ol n=none):∃L:List Nm,L.Nodup/\(∀x,(look (aG ol n it) x).isSome=true↔x∈L)/\(L.map (wt (aG ol n it))).sum<=B+it.tx.length:=by
 obtain⟨L,nd,hL,hs⟩:=v;have hn:¬n∈L:=fun z=>by have:=(hL n).mpr z;rw[h]at this;cases this
 refine⟨n::L,YE.mpr ⟨hn,nd⟩,fun x=>?_,?_⟩
 ·rw[aO,Zq];by_cases z:x=n
  ·rw[if_pos z];exact⟨fun _=>.inl z,fun _=>rfl⟩
  ·rw[if_neg z,hL x];exact⟨.inr,fun y=>y.resolve_left z⟩
 ·rw[Zz,Yq,jR,if_pos rfl];have:(L.map (wt (aG ol n it))).sum=(L.map (wt ol)).sum:=tZ fun y hy=>by rw[jR,if_neg fun z:y=n=>hn (z▸hy)]
  omega
def uJ(t:Str):Prop:=PyData.strOk t=true/\t.length<=5
def DOk:Wd->Prop
 |.put _ _ tx=>uJ tx
 |_=>True
def wI:Sd->Prop
 |.put _ _ _ tx=>uJ tx
 |_=>True
theorem tQ{n:Nm}{wd:Wd}{s:Sd}(h:de n wd=some s)(d:DOk wd):wI s:=by cases wd<;>cases h<;>first|exact d|trivial
def Wd.mk:Wd->Bool
 |.put _ _ _=>true
 |_=>false
theorem kN{n:Nm}{wd:Wd}{s:Sd}(h:de n wd=some s):s.news=if wd.mk=true then[n]else[]:=by cases wd<;>cases h<;>rfl
theorem xX{ol:Ol}{n:Nm}{u:Option Nm}{pl:List Int}{tx:Str}(h:cR ol (.put n u pl tx))(t:Ter ol):∃k,Ch ol k u:=by
 cases u with
 |none=>exact⟨0,.none⟩
 |some m =>obtain⟨it,e⟩:=Yo.mp (h m (by simp[Sd.items]));exact t m it e
structure Kept(ol ol':Ol)(new:List Nm)(B:Nat):Prop where
 inv:Inv ol' B
 len:ol'.length<=ol.length+1
 non:∀x,¬x∈new->look ol x=none->look ol' x=none
def BdN(ol:Ol):Sd->Prop
 |.move n u _=>∃k,Und ol n k u false
 |_=>True
theorem xM{ol:Ol}{s:Sd}{r:Option Bool}(h:Bd ol s r)(e:r=none):BdN ol s:=by
 cases h with
 |@move n u pl k b un =>
  cases b with
  |false=>exact⟨k,un⟩
  |true=>cases e
 |_=>trivial
theorem xK{ol ol':Ol}{s:Sd}{B:Nat}(v:Inv ol B)(hh:cR ol s)(hb:Bd ol s none)(ok:wI s)(nw:∀n∈s.news,look ol n=none)(ap:Ap ol s ol'):Kept ol ol' s.news (B+5):=by
 have bd:=xM hb rfl;cases ap with
 |@put n u pl tx =>
  have hn:look ol n=none:=nw n (by simp[Sd.news]);obtain⟨k,c⟩:=xX hh v.ter;refine⟨⟨v.ter.new hn c,?_⟩,eI _ _ _,fun x hx h=>?_⟩
  ·obtain⟨L,a,b,c⟩:=pV (it:=⟨u,pl,tx,false,none,false⟩) v.wgt hn;exact⟨L,a,b,ZC c (Nat.add_le_add_left ok.2 B)⟩
  ·rw[aO,if_neg fun z=>hx (by simp[Sd.news,z])];exact h
 |@move n u pl it hl =>obtain⟨k,un⟩:=bd;refine⟨⟨v.ter.move un,zo v.wgt hl (Nat.le_add_right _ _)⟩,eI _ _ _,fun x _ h=>?_⟩;rw[aO,if_neg fun z=>by rw[z,hl]at h;cases h];exact h
theorem tq{ol ol':Ol}{n:Nm}{wd:Wd}{w:Str}{so:Option Sd}{B:Nat}(v:Inv ol B)(ok:DOk wd)(nw:wd.mk=true->look ol n=none)(h:PlayR ol n wd w so ol'):Kept ol ol' (if wd.mk=true then[n]else[]) (B+5):=by
 have id':Kept ol ol (if wd.mk=true then[n]else[]) (B+5):=⟨v.more (Nat.le_add_right _ _),Nat.le_succ _,fun _ _ h=>h⟩
 cases h with
 |none=>exact id'
 |take=>exact id'
 |back=>exact id'
 |@top m pl tx hm =>
  have hn:=nw rfl;refine⟨⟨v.ter.new hn .none,?_⟩,eI _ _ _,fun x hx h=>?_⟩
  ·obtain⟨L,a,b,c⟩:=pV (it:=⟨none,pl,tx,false,none,false⟩) v.wgt hn;exact⟨L,a,b,ZC c (Nat.add_le_add_left ok.2 B)⟩
  ·rw[aO,if_neg fun z=>hx (by rw[z];exact ZK.mpr rfl)];exact h
 |@step _ s w _ hs _ wr =>
  cases wr with
  |none=>exact id'
  |beneath=>exact id'
  |far=>exact id'
  |done hh hb ap =>
   have:=xK v hh hb (tQ hs ok) (fun m hm=>by
    rw[kN hs]at hm;by_cases c:wd.mk=true
    ·rw[if_pos c]at hm;rw[ZK.mp hm];exact nw c
    ·rw[if_neg c]at hm;cases hm) ap
   rw[kN hs]at this;exact this
theorem nE{ol:Ol}{n:Nm}{wd:Wd}{s:Sd}{B:Nat}(v:Inv ol B)(nw:wd.mk=true->look ol n=none)(hs:de n wd=some s):Ready ol s:=by
 refine⟨fun m hm=>?_,fun hd=>?_⟩
 ·rw[kN hs]at hm;by_cases c:wd.mk=true
  ·rw[if_pos c]at hm;rw[ZK.mp hm];exact nw c
  ·rw[if_neg c]at hm;cases hm
 ·cases wd with
  |put u pl tx=>cases hs;exact⟨_,.put⟩
  |move m u pl =>
   cases hs;have:∃k,Ch ol k u:=by
    cases u with
    |none=>exact⟨0,.none⟩
    |some x =>obtain⟨it,e⟩:=Yo.mp (hd x (by simp[Sd.items]));exact v.ter x it e
   obtain⟨k,c⟩:=this;obtain⟨k',b,un⟩:=BX c m;exact⟨_,.move un⟩
  |_=>cases hs
structure Fresh(ol:Ol)(ds:List Dd):Prop where
 ok:∀d∈ds,DOk d.2
 non:∀d∈ds,d.2.mk=true->look ol d.1=none
 pw:ds.Pairwise fun d e=>d.2.mk=true->e.2.mk=true->d.1≠e.1
theorem Fresh.tail{ol:Ol}{d:Dd}{ds:List Dd}(f:Fresh ol (d::ds)):Fresh ol ds:=⟨fun e he=>f.ok e (Zn _ he),fun e he=>f.non e (Zn _ he),(List.pairwise_cons.mp f.pw).2⟩
def Eqo(a b:Ol):Prop:=∀x,look a x=look b x
theorem zh{a b:Ol}(e:Eqo a b){o:Nm}{k:Nat}{u:Option Nm}{c:Bool}(h:Und a o k u c):Und b o k u c:=by
 induction h with
 |none=>exact .none
 |self=>exact .self
 |up hn hl _ ih=>exact .up hn (by rw[<-e];exact hl) ih
theorem fh{a b:Ol}(e:Eqo a b){s:Sd}{r r':Option Bool}(h:Bd a s r)(h':Bd b s r'):r=r':=by
 cases h with
 |move un=>cases h' with|move un'=>rw[zi (zh e un) un']
 |put=>cases h';rfl
theorem kf{a b:Ol}(e:Eqo a b)(n:Nm)(it:It):Eqo (aG a n it) (aG b n it):=fun x=>by rw[aO,aO,e x]
theorem zK{a b a' b':Ol}(e:Eqo a b){s:Sd}(h:Ap a s a')(h':Ap b s b'):Eqo a' b':=by
 cases h with
 |put=>cases h';exact kf e _ _
 |move hl=>cases h' with|move hl'=>rw[e,hl']at hl;cases hl;exact kf e _ _
theorem vc{a b:Ol}(e:Eqo a b)(s:Sd):cR a s↔cR b s:=by unfold cR;exact⟨fun h n hn=>by rw[<-e];exact h n hn,fun h n hn=>by rw[e];exact h n hn⟩
theorem wF{a b a' b':Ol}(e:Eqo a b){s:Sd}{w w':Str}(h:WordR a s w a')(h':WordR b s w' b'):w=w'/\Eqo a' b':=by
 have hh:=vc e s;cases h with
 |none c =>
  cases h' with
  |none _=>exact⟨rfl,e⟩
  |beneath c' _=>exact absurd (hh.mpr c') c
  |far c' _=>exact absurd (hh.mpr c') c
  |done c' _ _=>exact absurd (hh.mpr c') c
 |beneath c b1 =>
  cases h' with
  |none c'=>exact absurd (hh.mp c) c'
  |beneath _ _=>exact⟨rfl,e⟩
  |far _ b2=>cases fh e b1 b2
  |done _ b2 _=>cases fh e b1 b2
 |far c b1 =>
  cases h' with
  |none c'=>exact absurd (hh.mp c) c'
  |beneath _ b2=>cases fh e b1 b2
  |far _ _=>exact⟨rfl,e⟩
  |done _ b2 _=>cases fh e b1 b2
 |done c b1 ap =>
  cases h' with
  |none c'=>exact absurd (hh.mp c) c'
  |beneath _ b2=>cases fh e b1 b2
  |far _ b2=>cases fh e b1 b2
  |done _ _ ap'=>exact⟨rfl,zK e ap ap'⟩
theorem vM{a b a' b':Ol}(e:Eqo a b){n:Nm}{wd:Wd}{w w':Str}{so so':Option Sd}(h:PlayR a n wd w so a')(h':PlayR b n wd w' so' b'):w=w'/\so=so'/\Eqo a' b':=by
 cases h with
 |none =>obtain⟨rfl,rfl,rfl⟩:=tz h';exact⟨rfl,rfl,e⟩
 |@take m =>
  cases h' with
  |take=>rw[e];exact⟨rfl,rfl,e⟩
  |step hs _ _=>cases hs
 |@back m =>
  cases h' with
  |back=>rw[e];exact⟨rfl,rfl,e⟩
  |step hs _ _=>cases hs
 |@top m pl tx hm =>
  cases h' with
  |top _=>exact⟨rfl,rfl,kf e _ _⟩
  |step _ ht _ =>have:(!(look b m).isSome)=false:=ht;rw[<-e,hm]at this;cases this
 |@step _ s w a' hs ht wr =>
  generalize hso:(if w'=("done":Str)then some s else none)=so2;cases h' with
  |none=>cases hs
  |take=>cases hs
  |back=>cases hs
  |@top m pl tx hm =>have:(!(look a m).isSome)=false:=ht;rw[e,hm]at this;cases this
  |step hs' _ wr' =>rw[hs]at hs';cases hs';obtain⟨rfl,x⟩:=wF e wr wr';exact⟨rfl,rfl,x⟩
theorem yC{ol ol':Ol}{n:Nm}{wd:Wd}{w:Str}{so:Option Sd}(ok:DOk wd)(h:PlayR ol n wd w so ol'):PyData.strOk w=true/\∀s,so=some s->s.ok:=by
 cases h with
 |none=>exact⟨by decide +kernel,fun s z=>(nomatch z)⟩
 |take=>exact⟨by split<;>decide +kernel,fun s z=>(nomatch z)⟩
 |back=>exact⟨by split<;>decide +kernel,fun s z=>(nomatch z)⟩
 |top _=>exact⟨by decide +kernel,fun s z=>by cases z;exact ok.1⟩
 |@step _ s w _ hs _ wr =>
  have so:s.ok:=by have:=tQ hs ok;cases s<;>first|exact this.1|trivial
  refine⟨by cases wr<;>decide +kernel,fun s' z=>?_⟩;split at z
  ·cases z;exact so
  ·cases z
theorem yQ{ts:As Dd}{tn:List Nm}{ol:Ol}{ds:List Dd}{rs:List Out}(h:Runs ts tn ol ds rs)(ok:∀d∈ds,DOk d.2):∀r∈rs,PyData.strOk r.2.1=true/\∀s,r.2.2=some s->s.ok:=by
 induction h with
 |nil=>intro r hr;cases hr
 |off _ _ ih =>
  intro r hr;rcases Zq.mp hr with rfl|hr
  ·exact⟨show PyData.strOk ("off":Str)=true by decide +kernel,fun s z=>(nomatch z)⟩
  ·exact ih (fun d hd=>ok d (Zn _ hd)) r hr
 |turn _ _ _ ih =>
  intro r hr;rcases Zq.mp hr with rfl|hr
  ·refine⟨?_,fun s z=>(nomatch z)⟩;dsimp only;split<;>decide +kernel
  ·exact ih (fun d hd=>ok d (Zn _ hd)) r hr
 |play _ _ p _ ih =>
  intro r hr;rcases Zq.mp hr with rfl|hr
  ·exact yC (ok _ Zv) p
  ·exact ih (fun d hd=>ok d (Zn _ hd)) r hr
theorem wg{rs:List Out}(h:∀r∈rs,PyData.strOk r.2.1=true/\∀s,r.2.2=some s->s.ok):∀r∈aH rs,r.2.ok:=fun r hr=>by
 unfold aH at hr;obtain⟨x,hx,e⟩:=Yz.mp hr;cases es:x.2.2 with
 |none=>rw[es]at e;cases e
 |some s=>rw[es]at e;cases e;exact(h x hx).2 s es
abbrev UsAt(H:Hp)(kvs:List (List Key×V))(us:As (Option Nm)):Prop:=Rws (fun v u=>UpAt H v u) kvs us
theorem UsAt.ts{H H':Hp}{kvs:List (List Key×V)}{us:As (Option Nm)}(x:UsAt H kvs us)(s:TS H H'):UsAt H' kvs us:=Paired.mapP x fun _ _ z=>⟨z.1,z.2.ts s⟩
inductive UndU(us:As (Option Nm))(o:Nm):Nat->Option Nm->Bool->Prop
 |none:UndU us o 0 none false
 |self:UndU us o 0 (some o) true
 |up {k:Nat} {n:Nm} {u:Option Nm} {b:Bool}:n≠o->look us n=some u->UndU us o k u b->UndU us o (k+1) (some n) b
def bp(ol:Ol):As (Option Nm):=ol.map fun p=>(p.1,p.2.up)
theorem iU(ol:Ol)(n:Nm):look (bp ol) n=(look ol n).map (·.up):=by
 induction ol with
 |nil=>rfl
 |cons p l ih =>
  unfold bp at ih ⊢;rw[Zz];unfold look;by_cases c:p.1=n
  ·rw[if_pos c,if_pos c];rfl
  ·rw[if_neg c,if_neg c];exact ih
theorem ir(ol:Ol)(n:Nm)(it:It):bp (aG ol n it)=aG (bp ol) n it.up:=by
 unfold aG;rw[iU,Option.isSome_map];by_cases c:(look ol n).isSome=true
 ·rw[if_pos c,if_pos c];unfold bp;rw[List.map_map,List.map_map];apply List.map_congr_left;intro p _;by_cases e:p.1=n
  ·simp[e]
  ·simp[e]
 ·rw[if_neg c,if_neg c];unfold bp;rw[ZU];rfl
theorem pU{ol:Ol}{o:Nm}{k:Nat}{u:Option Nm}{b:Bool}(h:Und ol o k u b):UndU (bp ol) o k u b:=by
 induction h with
 |none=>exact .none
 |self=>exact .self
 |up hn hl _ ih=>exact .up hn (by rw[iU,hl];rfl) ih
def nU:Sp:=fun vs H Q _=>∃(d:Addr) (kvs:List (List Key×V)) (us:As (Option Nm)) (u v:V) (one:Option Nm) (o:Nm) (k:Nat) (b:Bool),vs=[.ref d,u,v]/\H d=some (.dT kvs)/\UsAt H kvs us/\UpAt H u one/\NameIs H v (nk o)/\UndU us o k one b/\Q (.bl b) H
abbrev kI:Stmt:=top 32
abbrev xI:List Str:=["_law_ups","_law_one","_law_other"]
theorem nM:FnScope xI ["_law_ups","_law_one","_law_other"] (aj kI):=⟨rfl,rfl,rfl,by decide +kernel,rfl,by decide +kernel,by decide +kernel⟩
theorem vC{f:Addr}{fd:FuncData}(F:Fun K "_law_under" "_law_under" kI f fd):FnOk P w K mg base CX0 1 f fd ["_law_ups","_law_one","_law_other"] nU:=by
 refine F.okQ nM (fun vs H Q E h=>?_) (fun cdv A outer s H vs Q E hr h=>?_)
 ·obtain⟨d,kvs,us,u,v,one,o,k,b,rfl,_⟩:=h;rfl
 obtain⟨d,kvs,us,u,v,one,o,k,b,rfl,h2,R,hu,hv,un,q⟩:=h;obtain⟨vb,rfl,hvb⟩:=id hv;refine⟨_,(b_c (kJ Ym (t_w (dk (aI du (q_v 1) bz) (dB (aI (sL hr.units) (q_v 1) (q_v 2))))) (b_1 (au (i:=1) nM.nd (fu hr.units (q_v 0) (q_v 1)))))
   (b_1 (aF (eT du (q_v 1) bz)))),?_⟩
 try rw[cxK]
 refine⟨fun m σ H'=>H'=H/\∃(u:V) (one:Option Nm),UpAt H u one/\UndU us o m one b/\σ=[some (.ref d),some u,some (.ref vb)],⟨k,rfl,u,one,hu,un,rfl⟩,?_⟩;rintro m σ H' ⟨rfl,u,one,hu,un,rfl⟩;cases un with
 |none =>obtain rfl:u=.non:=hu;refine⟨_,rfl,rfl,_,rfl,hU rfl (aL ?_)⟩;exact⟨_,rfl,rfl,q⟩
 |self =>obtain⟨ub,rfl,hub⟩:=id hu;refine⟨_,rfl,rfl,_,rfl,eS (by intro z;cases z) ?_⟩;refine⟨_,rfl,_,rfl,ub,vb,[o.1,o.2],[o.1,o.2],rfl,rfl,hub,hvb,_,rfl,?_⟩;rw[decide_eq_true rfl];refine aL ?_;exact⟨_,rfl,rfl,q⟩
 |@up m n u' _ hn hl un =>
  obtain⟨ub,rfl,hub⟩:=id hu;obtain⟨uv,e1,e3⟩:=bX R hl;refine⟨_,rfl,rfl,_,rfl,eS (by intro z;cases z) ?_⟩;refine⟨_,rfl,_,rfl,ub,vb,[n.1,n.2],[o.1,o.2],rfl,rfl,hub,hvb,_,rfl,?_⟩;have:¬ ([n.1,n.2]=[o.1,o.2]):=fun z=>hn (by
   injection z with z1 z2;injection z2 with z2 _;exact Prod.ext z1 z2)
  rw[decide_eq_false this];refine bt ?_;refine⟨fun σ H2=>H2=H'/\σ=[some (.ref d),some uv,some (.ref vb)],?_,?_⟩
  ·rintro σ' H2 ⟨rfl,rfl⟩;exact⟨m,Nat.lt_succ_self m,rfl,uv,u',e3,un,rfl⟩
  ·exact⟨_,rfl,_,rfl,d,uv,rfl,e1▸DGet.t (k:=nk n) h2 hub,rfl,rfl⟩
inductive ChU(us:As (Option Nm)):Nat->Option Nm->Prop
 |none:ChU us 0 none
 |up {k:Nat} {n:Nm} {u:Option Nm}:look us n=some u->ChU us k u->ChU us (k+1) (some n)
def nR:Sp:=fun vs H Q _=>∃(d:Addr) (kvs:List (List Key×V)) (us:As (Option Nm)),vs=[.ref d]/\H d=some (.dT kvs)/\UsAt H kvs us/\(∀(i:Nat) (q:Nm×Option Nm),us[i]?=some q->∃k,ChU us k (some q.1)/\k<=us.length)/\∀o,Q (.bl true) (upd H d (.frz o (.dT kvs)))
theorem DGet.f{H:Hp}{a b:Addr}{o:Obj}{kvs:List (List Key×V)}{k:List Key}(e:H a=some (.frz o (.dT kvs)))(eb:H b=some (.tup (k.map kV))):DGet H a (.ref b) (bg kvs k):=.inr ⟨kvs,k,b,.inr ⟨o,e⟩,rfl,eb,rfl⟩
abbrev gQ:Stmt:=top 34
abbrev rH:List Str:=["_law_ups","_law_name","_law_here","_law_count"]
theorem ce:FnScope rH ["_law_ups"] (aj gQ):=⟨rfl,rfl,rfl,by decide +kernel,rfl,by decide +kernel,by decide +kernel⟩
theorem qX{f:Addr}{fd:FuncData}(F:Fun K "_law_no_ring" "_law_no_ring" gQ f fd)(z_len:mg "len" = none):FnOk P w K mg base CX0 1 f fd ["_law_ups"] nR:=by
 refine F.okQ ce (fun vs H Q E h=>?_) (fun cdv A outer s H vs Q E hr h=>?_)
 ·obtain⟨d,kvs,us,rfl,_⟩:=h;rfl
 obtain⟨d,kvs,us,rfl,h2,R,hc,q⟩:=h;refine⟨_,(b_c (dO Ym rfl (Ck (q_v 0)) (aM (i:=1) ce.nd) (b_c (au (i:=2) ce.nd (q_v 1))
   (b_c (au (i:=3) ce.nd ag)
   (b_1 (kJ Ym (aI du (q_v 2) bz) (b_c (au (i:=2) ce.nd (fu hr.units (q_v 0) (q_v 2)))
   (b_c (au (i:=3) ce.nd (ay cv (q_v 3) ag))
   (b_1 (bf (aI qP (q_v 3) (q_B zO z_len PySem.boot_len (q_a (q_v 0) ah))) (b_1 (aF kC)) b_0)))))))))
   (b_1 (aF kC))),?_⟩
 try rw[cxK]
 refine aq fun R0 hR0=>?_;refine⟨_,rfl,d,kvs,rfl,h2,fun o=>?_⟩;have tF:TS H (upd H d (.frz o (.dT kvs))):=fun b zs e=>by rw[af fun z=>by rw[z,h2]at e;cases e];exact e
 have hF:upd H d (.frz o (.dT kvs)) d=some (.frz o (.dT kvs)):=ad;have RF:=UsAt.ts R tF;have lk:=bW R;have q':=q o;generalize upd H d (.frz o (.dT kvs))=HF at hF RF q' ⊢;refine uV (a:=d) (o:=o) (kvs:=kvs) (j:=1) (fun i σ H'=>H'=HF/\∃o1 o2 o3,σ=[some (.ref d),o1,o2,o3]) ⟨rfl,_,_,_,rfl⟩ (fun i σ H' _ z=>by rw[z.1];exact hF) ?_ ?_
 ·rintro i p b σ H' hp hb ⟨rfl,o1,o2,o3,rfl⟩ D' hD' hrt;obtain⟨qq,hqi,e1,_⟩:=bu RF hp;obtain⟨k,ch,hk⟩:=hc i qq hqi;rw[e1]at hb;refine aq fun R1 hR1=>?_;refine⟨_,rfl,hR1 _ _ ?_⟩;clear hR1 R1;refine aq fun R1 hR1=>?_;refine hR1 _ _ ?_;clear hR1 R1;refine⟨fun m σ H2=>H2=H'/\∃(u:V) (one:Option Nm) (c:Nat),UpAt H' u one/\ChU us m one/\c+m<=us.length/\σ=[some (.ref d),some (.ref b),some u,some (.int (c:Int))],⟨k,rfl,.ref b,some qq.1,0,⟨b,rfl,hb⟩,ch,by omega,rfl⟩,?_⟩;rintro m σ H2 ⟨rfl,u,one,c,hu,ch,hm,rfl⟩;cases ch with
  |none =>obtain rfl:u=.non:=hu;exact⟨_,rfl,rfl,_,rfl,hU rfl (hD' _ _ ⟨rfl,_,_,_,rfl⟩)⟩
  |@up m n u' hl ch =>
   obtain⟨ub,rfl,hub⟩:=id hu;obtain⟨uv,e1,e3⟩:=bX RF hl;refine⟨_,rfl,rfl,_,rfl,eS (by intro z;cases z) ?_⟩;refine⟨fun σ H3=>H3=H2/\σ=[some (.ref d),some (.ref b),some uv,some (.int ((c+1:Nat):Int))],?_,?_⟩
   ·rintro σ' H3 ⟨rfl,rfl⟩;exact⟨m,Nat.lt_succ_self m,rfl,uv,u',c+1,e3,ch,by omega,rfl⟩
   ·refine⟨_,rfl,_,rfl,d,uv,rfl,e1▸DGet.f (k:=nk n) hF hub,?_⟩;refine⟨_,rfl,_,_,rfl,rfl,?_⟩;refine⟨_,rfl,_,rfl,d,kvs,rfl,.inr ⟨o,hF⟩,_,_,rfl,rfl,_,rfl,?_⟩;refine km (fun z=>absurd z (by omega)) fun _=>?_;exact⟨rfl,by rw[Int.natCast_add];rfl⟩
 ·rintro σ H' ⟨rfl,o1,o2,o3,rfl⟩;exact hR0 _ _ q'
theorem WhAt.ts{H H':Hp}{t:Addr}{wd:Wd}(x:WhAt H t wd)(s:TS H H'):WhAt H' t wd:=by obtain⟨r,h1,h2⟩:=x;exact⟨r,s _ _ h1,h2.ts s⟩
theorem uR{c:List Int}{k i:Nat}{v:Int}(hk:k<c.length):ai (c.set k v) i=if i=k then v else ai c i:=by
 unfold ai;rw[List.getElem?_set];by_cases e:i=k
 ·subst e;rw[if_pos rfl,if_pos rfl,if_pos hk];rfl
 ·rw[if_neg (fun z=>e z.symm),if_neg e]
def clk(cl:List (List Int))(g:Nat):List Int:=(cl[g]?).getD []
theorem cD{cl:List (List Int)}{k g:Nat}{c:List Int}(hk:k<cl.length):clk (cl.set k c) g=if g=k then c else clk cl g:=by
 unfold clk;rw[List.getElem?_set];by_cases e:g=k
 ·subst e;rw[if_pos rfl,if_pos rfl,if_pos hk];rfl
 ·rw[if_neg (fun z=>e z.symm),if_neg e]
theorem uQ(n i:Nat):ai (List.replicate n (0:Int)) i=0:=by unfold ai;rw[YL];split<;>rfl
def mx(a b:List Int)(n:Nat):List Int:=(List.range n).map fun j=>if ai b j>ai a j then ai b j else ai a j
theorem yc{a b:List Int}{n i:Nat}(h:i<n):ai (mx a b n) i=if ai b i>ai a i then ai b i else ai a i:=by
 unfold mx
 conv=>lhs;unfold ai
 rw[Z6,List.getElem?_range h];rfl
theorem nh{a b:List Int}{n:Nat}:(mx a b n).length=n:=by unfold mx;simp
theorem TS.trans{H H' H2:Hp}(e:TS H H')(f:TS H' H2):TS H H2:=fun a zs h=>f a zs (e a zs h)
theorem eM{H:Hp}{p:Addr}{o:HO}(hp:∀zs,H p≠some (.tup zs)):TS H (upd H p o):=fun a zs h=>by rw[af (fun z=>hp zs (by rw[<-z];exact h))];exact h
theorem fS{ns:List Int}{k:Nat}(h:k<ns.length):atI (ns.map V.int) (k:Int)=some (.int (ai ns k)):=by have:=fG (ns:=ns) (k:=(k:Int)) (by omega) (by omega);rw[show((k:Int)).toNat=k by omega]at this;exact this
def CK(H:Hp)(cA:Addr)(n:Nat)(as:List Addr)(cl:List (List Int)):Prop:=H cA=some (.lst (as.map V.ref))/\as.length=n/\as.Nodup/\∀(g:Nat) (hg:g<as.length),H as[g]=some (.lst ((clk cl g).map V.int))
theorem CK.same{H H':Hp}{cA:Addr}{n:Nat}{as:List Addr}{cl:List (List Int)}(x:CK H cA n as cl)(s:Same H H'):CK H' cA n as cl:=⟨s _ _ x.1,x.2.1,x.2.2.1,fun g hg=>s _ _ (x.2.2.2 g hg)⟩
theorem jl{as:List Addr}{k:Nat}(hk:k<as.length):atI (as.map V.ref) (k:Int)=some (.ref as[k]):=cS (by rw[Z6,Zf hk];rfl)
theorem mY{H:Hp}{a b:Addr}{xs ys:List V}(h1:H a=some (.lst xs))(h2:H b=some (.lst ys))(h:xs≠ys):a≠b:=fun z=>by rw[z,h2]at h1;injection h1 with h1;injection h1 with h1;exact h h1.symm
theorem gF{ns:List Int}{as:List Addr}(h:0<ns.length):as.map V.ref≠ns.map V.int:=fun e=>by
 cases ns with
 |nil=>exact absurd h (by simp)
 |cons n ns =>
  cases as with
  |nil=>cases e
  |cons a as=>cases e
theorem nF:∀n:Nat,(List.replicate n [V.int 0]).flatten=(List.replicate n (0:Int)).map V.int
 |0=>rfl
 |n+1=>by rw[Yv,Yj,nF n];rfl
theorem At{as:List Addr}{k:Nat}{p:Addr}(h:as.Nodup)(hp:p∉as):(as.set k p).Nodup:=by
 rw[List.nodup_iff_pairwise_ne,Z1]at h ⊢;intro i j hi hj hij;rw[Yt]at hi hj;rw[List.getElem_set,List.getElem_set];by_cases c1:k=i
 ·rw[if_pos c1,if_neg (by omega)];exact fun z=>hp (z▸ZM hj)
 ·rw[if_neg c1];by_cases c2:k=j
  ·rw[if_pos c2];exact fun z=>hp (z▸ZM hi)
  ·rw[if_neg c2];exact h i j hi hj hij
theorem qw{α:Type}(L:List α)(z:α):(List.range L.length).map (fun i=>L.getD i z)=L:=by
 apply List.ext_getElem
 ·simp
 ·intro i h1 h2;simp[h2]
abbrev D3:=Nat×List Int×Wd
def DA(H:Hp)(a:Addr)(d:D3):Prop:=∃c wa,H a=some (.tup [.int (d.1:Int),.ref c,.ref wa])/\H c=some (.tup (d.2.1.map V.int))/\WhAt H wa d.2.2/\d.1<d.2.1.length/\d.2.1.length<=8
theorem DA.ts{H H':Hp}{a:Addr}{d:D3}(x:DA H a d)(s:TS H H'):DA H' a d:=by obtain⟨c,wa,h1,h2,h3,h4⟩:=x;exact⟨c,wa,s _ _ h1,s _ _ h2,h3.ts s,h4⟩
def toD(d:D3):Dd:=(((d.1:Int),ai d.2.1 d.1),d.2.2)
theorem DA.dd{H:Hp}{a:Addr}{d:D3}(x:DA H a d):DdAt H (.ref a) (toD d):=by obtain⟨c,wa,h1,h2,h3,h4,_⟩:=x;exact⟨a,c,wa,_,rfl,h1,h2,fS h4,h3⟩
abbrev L3:=List (Addr×D3)
def aT(L:L3):List V:=L.map fun x=>V.ref x.1
theorem bA(L:L3):(aT L).length=L.length:=Zh ..
def LR3(H:Hp)(l:Addr)(L:L3):Prop:=H l=some (.lst (aT L))/\∀x∈L,DA H x.1 x.2
theorem LR3.same{H H':Hp}{l:Addr}{L:L3}(x:LR3 H l L)(s:Same H H'):LR3 H' l L:=⟨s _ _ x.1,fun y hy=>(x.2 y hy).ts (Same.ts s)⟩
theorem lq{L:L3}{k:Nat}{x:V}(h:(aT L)[k]?=some x):∃hk:k<L.length,x=.ref L[k].1:=by
 have hk:k<L.length:=by have:=(Zw.mp h).1;rw[bA]at this;exact this
 refine⟨hk,?_⟩;unfold aT at h;rw[Z6,Zf hk]at h;exact(Zu h).symm
def pL:Sp:=fun vs H Q _=>∃(a:Addr) (d:D3),vs=[.ref a]/\DA H a d/\∀p H',Same H H'->H' p=some (.tup ([d.2.1.sum,(d.1:Int)].map V.int))->Q (.ref p) H'
abbrev kG:Stmt:=top 30
abbrev xH:List Str:=["_law_deed"]
theorem vZ:FnScope xH ["_law_deed"] (aj kG):=⟨rfl,rfl,rfl,by decide +kernel,rfl,by decide +kernel,by decide +kernel⟩
theorem vB{f:Addr}{fd:FuncData}(F:Fun K "_law_order" "_law_order" kG f fd)(z_sum:mg "sum" = none):FnOk P w K mg base CX0 1 f fd ["_law_deed"] pL:=by
 refine F.okQ vZ (fun vs H Q E h=>?_) (fun cdv A outer s H vs Q E hr h=>?_)
 ·obtain⟨a,d,rfl,_⟩:=h;rfl
 obtain⟨a,d,rfl,⟨c,wa,e1,e2,e3,e4,e5⟩,q⟩:=h;refine⟨_,(b_1 (aF (aA (q_a (q_B (zP (K:=K) rfl rfl) z_sum PyProof.Rows.boot_sum (q_a (ao am (q_v 0) ag) ah)) (q_a (ao am (q_v 0) ag) ah))))),?_⟩
 try rw[cxK]
 refine(vix rfl (SqT.of e1) at1 ⟨c,d.2.1,rfl,SqT.of e2,vix rfl (SqT.of e1) at0 ⟨sz rfl,fun p g=>?_⟩⟩);exact q p _ (ae g _) ad
theorem yu{L:L3}{p:Array Nat}(hp:POk L.length p):(p.toList.map fun i=>L.getD i (0,0,[],.none)).Perm L/\(p.toList.map fun i=>(aT L).getD i .non)=aT (p.toList.map fun i=>L.getD i (0,0,[],.none)):=by
 have ep:p.toList.Perm (List.range L.length):=by have:=Array.perm_iff_toList_perm.mp hp;simpa using this
 refine⟨?_,?_⟩
 ·have:=ep.map fun i=>L.getD i (0,0,[],Wd.none);rw[qw]at this;exact this
 ·unfold aT;rw[List.map_map];apply List.map_congr_left;intro i hi;have:i<L.length:=Yr.mp (ep.mem_iff.mp hi);simp[this]
def nm3(d:D3):Nm:=(toD d).1
inductive PM(ol:Ol)(n:Nm):Wd->Str->Option Sd->Ol->Prop
 |put {u:Option Nm} {pl:List Int} {tx:Str}:PM ol n (.put u pl tx) "done" (some (.put n u pl tx)) (aG ol n ⟨u,pl,tx,false,none,false⟩)
 |ok {m:Nm} {u:Option Nm} {pl:List Int} {it:It} {k:Nat}:look ol m=some it->Und ol m k u false->PM ol n (.move m u pl) "done" (some (.move m u pl)) (aG ol m { it with up:=u,pl:=pl })
 |ring {m:Nm} {u:Option Nm} {pl:List Int} {k:Nat}:Und ol m k u true->PM ol n (.move m u pl) "beneath" none ol
def Has(ol:Ol):Wd->Prop
 |.put u _ _=>∀x∈u.toList,(look ol x).isSome=true
 |.move m u _=>(look ol m).isSome=true/\∀x∈u.toList,(look ol x).isSome=true
 |_=>False
theorem CB{ol ol':Ol}{n:Nm}{wd:Wd}{w:Str}{so:Option Sd}(h:Has ol wd)(p:PlayR ol n wd w so ol'):PM ol n wd w so ol':=by
 cases p with
 |none=>exact h.elim
 |take=>exact h.elim
 |back=>exact h.elim
 |@top m pl tx hm =>have:=h m (by simp);rw[hm]at this;cases this
 |step hs ht wr =>
  cases wd with
  |put u pl tx =>
   cases hs;cases wr with
   |none hh=>exact absurd (fun x hx=>h x (by simpa[Sd.items]using hx)) hh
   |beneath _ hb=>cases hb
   |far _ hb=>cases hb
   |done _ hb ap =>
    cases ap with
    |put=>exact .put
  |move m u pl =>
   cases hs;cases wr with
   |none hh =>
    refine absurd (fun x hx=>?_) hh;rcases Zq.mp (show x∈m::u.toList from hx)with rfl|hx
    ·exact h.1
    ·exact h.2 x hx
   |beneath _ hb =>
    generalize e:some true=r at hb;cases hb with
    |@move _ _ _ k b un =>
     cases b with
     |true=>exact .ring un
     |false=>cases e
   |far _ hb =>
    generalize e:some false=r at hb;cases hb with
    |@move _ _ _ k b un=>cases b<;>cases e
   |done _ hb ap =>
    generalize e:(none:Option Bool)=r at hb;cases hb with
    |@move _ _ _ k b un =>
     cases b with
     |true=>cases e
     |false =>
      cases ap with
      |move hl=>exact .ok hl un
  |_=>exact h.elim
theorem xO{us:As (Option Nm)}{k:Nat}{u:Option Nm}(h:ChU us k u):∀{k':Nat},ChU us k' u->k=k':=by
 induction h with
 |none=>intro k' h';cases h';rfl
 |up hl _ ih =>
  intro k' h';cases h' with
  |up hl' h' =>rw[hl]at hl';cases hl';rw[ih h']
theorem vp{β:Type}{l:As β}{n:Nm}(h:(look l n).isSome=true):n∈l.map Prod.fst:=by
 induction l with
 |nil=>cases h
 |cons p l ih =>
  unfold look at h;by_cases c:p.1=n
  ·rw[Zz,c];exact Zv
  ·rw[if_neg c]at h;exact Zn _ (ih h)
theorem Cn{ns:List Nm}:∀{l:List Nm},ns.Nodup->(∀x∈ns,x∈l)->ns.length<=l.length:=by
 induction ns with
 |nil=>intro l _ _;exact ZP _
 |cons n ns ih =>intro l nd hs;have hn:=hs n Zv;obtain⟨nn,nd⟩:=YE.mp nd;have:=ih (l:=l.erase n) nd fun x hx=>(List.mem_erase_of_ne (fun(z:x=n)=>nn (by rw[<-z];exact hx))).mpr (hs x (Zn _ hx));rw[List.length_erase_of_mem hn]at this;have:0<l.length:=List.length_pos_of_mem hn;rw[Zl];omega
theorem uS{us:As (Option Nm)}{k:Nat}{u:Option Nm}(h:ChU us k u):∃ns:List Nm,ns.length=k/\ns.Nodup/\∀x∈ns,(look us x).isSome=true/\∃j,j<=k/\ChU us j (some x):=by
 induction h with
 |none=>exact⟨[],rfl,List.nodup_nil,fun x hx=>nomatch hx⟩
 |@up k n u hl hc ih =>
  obtain⟨ns,l,nd,hs⟩:=ih;refine⟨n::ns,by rw[Zl,l],YE.mpr ⟨fun hm=>?_,nd⟩,fun x hx=>?_⟩
  ·obtain⟨_,j,hj,cj⟩:=hs n hm;have:=xO (ChU.up hl hc) cj;omega
  ·rcases Zq.mp hx with rfl|hx
   ·exact⟨by rw[hl];rfl,k+1,Ze _,.up hl hc⟩
   ·obtain⟨a,j,hj,cj⟩:=hs x hx;exact⟨a,j,by omega,cj⟩
theorem xP{us:As (Option Nm)}{k:Nat}{u:Option Nm}(h:ChU us k u):k<=us.length:=by obtain⟨ns,l,nd,hs⟩:=uS h;have:=Cn nd (l:=us.map Prod.fst) fun x hx=>vp (hs x hx).1;rw[Zh,l]at this;exact this
theorem rP{ol:Ol}{k:Nat}{u:Option Nm}(h:Ch ol k u):ChU (bp ol) k u:=by
 induction h with
 |none=>exact .none
 |up hl _ ih=>exact .up (by rw[iU,hl];rfl) ih
theorem tK{ol:Ol}(t:Ter ol)(i:Nat)(q:Nm×Option Nm)(h:(bp ol)[i]?=some q):∃k,ChU (bp ol) k (some q.1)/\k<=(bp ol).length:=by
 have hm:(look ol q.1).isSome=true:=by
  unfold bp at h;rw[Z6]at h;obtain⟨p,hp,rfl⟩:=Option.map_eq_some_iff.mp h;have hin:=List.mem_of_getElem? hp;clear hp h t;induction ol with
  |nil=>cases hin
  |cons z l ih =>
   show(look (z::l) p.1).isSome=true;unfold look;by_cases c:z.1=p.1
   ·rw[if_pos c];rfl
   ·rw[if_neg c];rcases Zq.mp hin with e|hin
    ·exact absurd (by rw[e]) c
    ·exact ih hin
 obtain⟨it,e⟩:=Yo.mp hm;obtain⟨k,c⟩:=t q.1 it e;exact⟨k,rP c,xP (rP c)⟩
def tU:Sp:=fun vs H Q _=>∃(l:Addr) (L:L3) (rs:List Out) (ols:Nat->Ol),vs=[.ref l]/\LR3 H l L/\L.length<=130/\rs.length=L.length/\ols 0=[]/\(∀i,(ols i).length<=130) /\
 (∀(i:Nat) (hi:i<L.length) (r:Out),rs[i]?=some r->r.1=nm3 L[i].2/\PM (ols i) (nm3 L[i].2) L[i].2.2.2 r.2.1 r.2.2 (ols (i+1))) /\
 ∀p a b d ys zs kvs H',Same H H'->H' p=some (.lst [.ref a,.ref b,.ref d])->H' a=some (.lst ys)->Paired (WoAt H') ys rs->H' b=some (.lst zs)->Paired (SsAt H') zs (aH rs)->H' d=some (.dT kvs)->UsAt H' kvs (bp (ols L.length))->Q (.ref p) H'
theorem eX(a b:List Out):aH (a++b)=aH a++aH b:=by unfold aH;rw[List.filterMap_append]
abbrev rg:Stmt:=top 33
abbrev B9:List Str:=["_law_deeds_here","_law_ups","_law_due_here","_law_told","_law_deed","_law_name","_law_what","_law_word"]
theorem cM:FnScope B9 ["_law_deeds_here"] (aj rg):=⟨rfl,rfl,rfl,by decide +kernel,rfl,by decide +kernel,by decide +kernel⟩
theorem AA{f:Addr}{fd:FuncData}(F:Fun K "_law_due" "_law_due" rg f fd)(F_under:Fn P w K mg base 1 "_law_under" ["_law_ups","_law_one","_law_other"] nU):FnOk P w K mg base CX0 2 f fd ["_law_deeds_here"] tU:=by
 refine F.okQ cM (fun vs H Q E h=>?_) (fun cdv A outer s H vs Q E hr h=>?_)
 ·obtain⟨l,L,rs,ols,rfl,_⟩:=h;rfl
 obtain⟨l,L,rs,ols,rfl,lr,ll,lrs,o0,ol1,hP,q⟩:=h;refine⟨_,(b_c (au (i:=1) cM.nd jL)
   (b_c (au (i:=2) cM.nd (eV ah))
   (b_c (au (i:=3) cM.nd (eV ah))
   (b_c (dO Ym rfl (dW (q_v 0)) (aM (i:=4) cM.nd) (b_c (au (i:=5) cM.nd (aA (q_a (ao am (q_v 4) ag) (q_a (ao am (ao am (q_v 4) ag) (ao am (q_v 4) ag)) ah))))
   (b_c (au (i:=6) cM.nd (ao am (q_v 4) ag))
   (b_c (au (i:=7) cM.nd aw)
   (b_c (fz (bf (aI cg (ao am (q_v 6) ag) aw) (b_c (fw hr.units (q_v 1) (q_v 5) (ao am (q_v 6) ag))
   (b_1 (bH (ik (q_v 3) (aA (q_a (q_v 5) (q_a (ay dr (aA (q_a aw (q_a (q_v 5) ah))) (dY cK (q_v 6) (dF ag) fe)) ah))))))) (b_1 (bf (cP (aU F_under (hr.mono (by decide)) (q_a (q_v 1) (q_a (ao am (q_v 6) ag) (q_a (ao am (q_v 6) ag) ah))))) (b_1 (au (i:=7) cM.nd aw)) (b_c (fw hr.units (q_v 1) (ao am (q_v 6) ag) (ao am (q_v 6) ag))
   (b_1 (bH (ik (q_v 3) (aA (q_a (q_v 5) (q_a (q_v 6) ah)))))))))))
   (b_1 (bH (ik (q_v 2) (aA (q_a (q_v 5) (q_a (q_v 7) ah)))))))))))
   (b_1 (aF (eV (q_a (q_v 2) (q_a (q_v 3) (q_a (q_v 1) ah)))))))))),?_⟩
 try rw[cxK]
 refine aq fun R0 hR0=>?_;intro ud gud;have wud:=ae gud (.dT []);have eud:upd H ud (.dT []) ud=some (.dT []):=ad;generalize upd H ud (.dT [])=H1 at wud eud ⊢;refine hR0 _ _ ?_;clear hR0 R0;refine aq fun R0 hR0=>?_;refine⟨sz rfl,fun dl gdl=>?_⟩;have wdl:=ae gdl (.lst []);have edl:upd H1 dl (.lst []) dl=some (.lst []):=ad;have gdl0:=wud.free gdl;have nud:ud≠dl:=fun z=>by rw[z,gdl]at eud;cases eud
 have eud2:=wdl _ _ eud;have S2:=wud.trans wdl;generalize upd H1 dl (.lst [])=H2 at wdl edl eud2 S2 ⊢;refine hR0 _ _ ?_;clear hR0 R0;refine aq fun R0 hR0=>?_;refine⟨sz rfl,fun tl gtl=>?_⟩;have wtl:=ae gtl (.lst []);have etl:upd H2 tl (.lst []) tl=some (.lst []):=ad;have gtl0:=S2.free gtl;have nut:ud≠tl:=fun z=>by rw[z,gtl]at eud2;cases eud2
 have ndt:dl≠tl:=fun z=>by rw[z,gtl]at edl;cases edl
 have eud3:=wtl _ _ eud2;have edl3:=wtl _ _ edl;have S3:=S2.trans wtl;generalize upd H2 tl (.lst [])=H3 at etl eud3 edl3 S3 ⊢;clear wud wdl wtl eud eud2 edl gdl gtl S2;refine hR0 _ _ ?_;clear hR0 R0;refine aq fun R0 hR0=>?_;refine⟨_,rfl,l,rfl,⟨_,SqL.of (S3 _ _ lr.1)⟩,?_⟩;refine se (K:=K) (a:=l) (xs:=aT L) (fun i σ H'=>Same H H'/\∃(kvs:List (List Key×V)) (ys zs:List V) (o4 o5 o6 o7:Option V),H' ud=some (.dT kvs)/\UsAt H' kvs (bp (ols i))/\H' dl=some (.lst ys)/\Paired (WoAt H') ys (rs.take i)/\H' tl=some (.lst zs)/\zs.length<=i/\Paired (SsAt H') zs (aH (rs.take i))/\σ=[some (.ref l),some (.ref ud),some (.ref dl),some (.ref tl),o4,o5,o6,o7])
  ⟨S3,[],[],[],none,none,none,none,eud3,by rw[o0];exact .nil,edl3,.nil,etl,Ze _,.nil,rfl⟩ (fun i σ H' _ z=>SqL.of (z.1 _ _ lr.1)) ?_ ?_
 ·rintro i v σ H' hv ⟨sm,kvs,ys,zs,o4,o5,o6,o7,e1,e2,e3,e4,e5,lz,e6,rfl⟩ DL hDL;obtain⟨hi,rfl⟩:=lq hv;have hri:i<rs.length:=by omega
  have hrg:=Zf hri;obtain⟨hn,pm⟩:=hP i hi _ hrg;have hd:=(lr.2 _ (ZM hi)).ts (Same.ts sm);have tk:rs.take (i+1)=rs.take i++[rs[i]]:=eK hrg;generalize rs[i]=r at hn pm tk;generalize L[i].2=d at hn pm hd;obtain⟨c,wa,d1,d2,⟨rr,d3,d6⟩,d4,d5⟩:=hd;have ly:ys.length=i:=by rw[ZO e4,ZL];omega
  have lk:=bW e2;have lo:=ol1 i;have lu:(bp (ols i)).length=(ols i).length:=Zh ..;refine aq fun R hR=>?_;refine vix rfl (SqT.of d1) at0 (vix rfl (SqT.of d1) at1 (vix rfl (SqT.of d1) at0 ⟨c,_,_,_,rfl,rfl,SqT.of d2,fS d4,sz rfl,fun t gt=>?_⟩));have wt:=ae gt (.tup [.int (d.1:Int),.int (ai d.2.1 d.1)]);have et:upd H' t (.tup [.int (d.1:Int),.int (ai d.2.1 d.1)]) t=some (.tup ((nk (nm3 d)).map kV)):=ad;generalize upd H' t (.tup [.int (d.1:Int),.int (ai d.2.1 d.1)])=H4 at wt et ⊢;refine hR _ _ ?_;clear hR R;refine aq fun R hR=>?_;refine vix rfl (SqT.of (wt _ _ d1)) at2 (hR _ _ ?_);clear hR R;refine aq fun R hR=>?_;refine hR _ _ ?_;clear hR R;have d3':=wt _ _ d3;have d6':=d6.ts (Same.ts wt);have S4:=sm.trans wt;have f1:=wt _ _ e1;have f2:=UsAt.ts e2 (Same.ts wt);have f3:=wt _ _ e3;have f4:=Paired.mapP e4 fun _ _ (z:WoAt _ _ _)=>z.ts (Same.ts wt);have f5:=wt _ _ e5;have f6:=Paired.mapP e6 fun _ _ (z:SsAt _ _ _)=>z.ts (Same.ts wt);clear e1 e2 e3 e4 e5 e6 sm wt d1 d2 d3 d6;refine aq fun R hR=>?_;refine cW (fun σ' H5=>Same H H5/\H5 t=some (.tup ((nk (nm3 d)).map kV))/\∃(kvs:List (List Key×V)) (zs:List V) (v6:V),H5 ud=some (.dT kvs)/\UsAt H5 kvs (bp (ols (i+1)))/\H5 dl=some (.lst ys)/\Paired (WoAt H5) ys (rs.take i)/\H5 tl=some (.lst zs)/\zs.length<=i+1/\Paired (SsAt H5) zs (aH (rs.take (i+1)))/\σ'=[some (.ref l),some (.ref ud),some (.ref dl),some (.ref tl),some (.ref L[i].1),some (.ref t),some v6,some (.str r.2.1)]) (fun RJ hRJ=>?_) ?_
  ·obtain⟨rn,rw',rso⟩:=r;dsimp only at hn pm;generalize hwd:d.2.2=wd at pm d6' d3';generalize hol:ols (i+1)=ol' at pm hRJ;cases pm with
   |@put u pl tx =>
    obtain⟨uv,pv,rfl,a1,a2⟩:=d6';refine(vix rfl (SqT.of d3') at0 ⟨rfl,_,rfl,iS ?_⟩);refine aq fun R2 hR2=>?_;refine vix rfl (SqT.of d3') at1 ⟨_,rfl,_,rfl,ud,_,rfl,DPut.t (k:=nk (nm3 d)) f1 et (aP (by omega)),hR2 _ _ ?_⟩;clear hR2 R2;have tA:TS H4 (upd H4 ud (.dT (aE kvs (nk (nm3 d)) uv))):=gS f1;have S5:=aX (o:=.dT (aE kvs (nk (nm3 d)) uv)) S4 gud;have g1:upd H4 ud (.dT (aE kvs (nk (nm3 d)) uv)) ud=some (.dT (aE kvs (nk (nm3 d)) uv)):=ad;have g3:upd H4 ud (.dT (aE kvs (nk (nm3 d)) uv)) dl=some (.lst ys):=by rw[af nud.symm];exact f3
    have g5:upd H4 ud (.dT (aE kvs (nk (nm3 d)) uv)) tl=some (.lst zs):=by rw[af nut.symm];exact f5
    have g2:UsAt (upd H4 ud (.dT (aE kvs (nk (nm3 d)) uv))) (aE kvs (nk (nm3 d)) uv) (aG (bp (ols i)) (nm3 d) u):=eA (UsAt.ts f2 tA) (a1.ts tA);have g4:=Paired.mapP f4 fun _ _ (z:WoAt _ _ _)=>z.ts tA;have g6:=Paired.mapP f6 fun _ _ (z:SsAt _ _ _)=>z.ts tA;have x3:=tA _ _ d3';have xt:=tA _ _ et;have b1:=a1.ts tA;have b2:=a2.ts tA;generalize upd H4 ud (.dT (aE kvs (nk (nm3 d)) uv))=H5 at S5 g1 g2 g3 g4 g5 g6 x3 xt b1 b2 ⊢;refine⟨_,rfl,.inl ⟨rfl,_,SqL.of g5⟩,_,rfl,_,rfl,sz rfl,fun y gy=>?_⟩;have wy:=ae gy (.tup [.str "put",.ref t]);refine⟨_,rfl,_,rfl,wa,_,rfl,wy _ _ x3,fun z H6 s6 e6=>⟨y,z,_,_,rfl,rfl,s6 _ _ ad,e6,sz rfl,fun st H7 s7 e7=>⟨sz rfl,fun tt gtt=>?_⟩⟩⟩;have wtt:=ae gtt (.tup [.ref t,.ref st]);have s58:Same H5 _:=(wy.trans (s6.trans s7)).trans wtt;have ett:upd H7 tt (.tup [.ref t,.ref st]) tt=some (.tup [.ref t,.ref st]):=ad;generalize upd H7 tt (.tup [.ref t,.ref st])=H8 at wtt s58 ett ⊢;refine⟨tl,_,_,rfl,rfl,s58 _ _ g5,aP (by omega),?_⟩;have tC:TS H8 (upd H8 tl (.lst (zs++[.ref tt]))):=eM fun ws e'=>by rw[s58 _ _ g5]at e';cases e'
    have tD:=TS.trans (Same.ts s58) tC;refine hRJ _ _ ⟨aX (S5.trans s58) gtl0,tD _ _ xt,aE kvs (nk (nm3 d)) uv,zs++[.ref tt],_,by rw[af nut];exact s58 _ _ g1,?_,by rw[af ndt];exact s58 _ _ g3,Paired.mapP g4 fun _ _ (z:WoAt _ _ _)=>z.ts tD,ad,by rw[Zo];exact Nat.succ_le_succ lz,?_,rfl⟩
    ·rw[ir];exact UsAt.ts g2 tD
    ·rw[tk,eX];exact YD (Paired.mapP g6 fun _ _ (z:SsAt _ _ _)=>z.ts tD) ⟨tt,st,.ref t,rfl,tC _ _ ett,⟨t,rfl,by rw[hn];exact tD _ _ xt⟩,.ref t,uv,pv,tC _ _ (wtt _ _ e7),⟨t,rfl,tD _ _ xt⟩,b1.ts tD,b2.ts tD⟩
   |@ok m u pl it k hl un =>
    obtain⟨nv,uv,pv,rfl,a0,a1,a2⟩:=d6';refine(vix rfl (SqT.of d3') at0 ⟨rfl,_,rfl,bU (by simp only[Wd.word,ne_eq];decide +kernel) ?_⟩);refine⟨_,rfl,vix rfl (SqT.of d3') at2 (vix rfl (SqT.of d3') at1 ⟨ud,kvs,_,uv,nv,u,m,k,false,rfl,f1,f2,a1,a0,pU un,_,rfl,aL ?_⟩)⟩;obtain⟨nb,rfl,hnb⟩:=id a0;refine aq fun R2 hR2=>?_;refine vix rfl (SqT.of d3') at2 ⟨_,rfl,vix rfl (SqT.of d3') at1 ⟨ud,_,rfl,DPut.t (k:=nk m) f1 hnb (aP (by omega)),hR2 _ _ ?_⟩⟩;clear hR2 R2;have tA:TS H4 (upd H4 ud (.dT (aE kvs (nk m) uv))):=gS f1;have S5:=aX (o:=.dT (aE kvs (nk m) uv)) S4 gud;have g1:upd H4 ud (.dT (aE kvs (nk m) uv)) ud=some (.dT (aE kvs (nk m) uv)):=ad;have g3:upd H4 ud (.dT (aE kvs (nk m) uv)) dl=some (.lst ys):=by rw[af nud.symm];exact f3
    have g5:upd H4 ud (.dT (aE kvs (nk m) uv)) tl=some (.lst zs):=by rw[af nut.symm];exact f5
    have g2:UsAt (upd H4 ud (.dT (aE kvs (nk m) uv))) (aE kvs (nk m) uv) (aG (bp (ols i)) m u):=eA (UsAt.ts f2 tA) (a1.ts tA);have g4:=Paired.mapP f4 fun _ _ (z:WoAt _ _ _)=>z.ts tA;have g6:=Paired.mapP f6 fun _ _ (z:SsAt _ _ _)=>z.ts tA;have x3:=tA _ _ d3';have xt:=tA _ _ et;have b0:=a0.ts' tA;have b1:=a1.ts tA;have b2:=a2.ts tA;generalize upd H4 ud (.dT (aE kvs (nk m) uv))=H5 at S5 g1 g2 g3 g4 g5 g6 x3 xt b0 b1 b2 ⊢;refine⟨_,rfl,.inl ⟨rfl,_,SqL.of g5⟩,_,rfl,_,rfl,sz rfl,fun tt gtt=>?_⟩;have s58:=ae gtt (.tup [.ref t,.ref wa]);have ett:upd H5 tt (.tup [.ref t,.ref wa]) tt=some (.tup [.ref t,.ref wa]):=ad;generalize upd H5 tt (.tup [.ref t,.ref wa])=H8 at s58 ett ⊢;refine⟨tl,_,_,rfl,rfl,s58 _ _ g5,aP (by omega),?_⟩;have tC:TS H8 (upd H8 tl (.lst (zs++[.ref tt]))):=eM fun ws e'=>by rw[s58 _ _ g5]at e';cases e'
    have tD:=TS.trans (Same.ts s58) tC;refine hRJ _ _ ⟨aX (S5.trans s58) gtl0,tD _ _ xt,aE kvs (nk m) uv,zs++[.ref tt],_,by rw[af nut];exact s58 _ _ g1,?_,by rw[af ndt];exact s58 _ _ g3,Paired.mapP g4 fun _ _ (z:WoAt _ _ _)=>z.ts tD,ad,by rw[Zo];exact Nat.succ_le_succ lz,?_,rfl⟩
    ·rw[ir];exact UsAt.ts g2 tD
    ·rw[tk,eX];exact YD (Paired.mapP g6 fun _ _ (z:SsAt _ _ _)=>z.ts tD) ⟨tt,wa,.ref t,rfl,tC _ _ ett,⟨t,rfl,by rw[hn];exact tD _ _ xt⟩,_,uv,pv,tD _ _ x3,b0.ts' tD,b1.ts tD,b2.ts tD⟩
   |@ring m u pl k un =>obtain⟨nv,uv,pv,rfl,a0,a1,a2⟩:=d6';refine(vix rfl (SqT.of d3') at0 ⟨rfl,_,rfl,bU (by simp only[Wd.word,ne_eq];decide +kernel) ?_⟩);refine⟨_,rfl,vix rfl (SqT.of d3') at2 (vix rfl (SqT.of d3') at1 ⟨ud,kvs,_,uv,nv,u,m,k,true,rfl,f1,f2,a1,a0,pU un,_,rfl,bt ?_⟩)⟩;refine hRJ _ _ ⟨S4,et,kvs,zs,_,f1,f2,f3,f4,f5,Nat.le_succ_of_le lz,?_,rfl⟩;rw[tk,eX];show Paired _ _ (aH (rs.take i)++[]);rw[ZJ];exact f6
  ·rintro σ' H5 ⟨S5,et5,kvs5,zs5,v6,g1,g2,g3,g4,g5,lz5,g6,rfl⟩;refine hR _ _ ?_;clear hR R;refine⟨_,rfl,.inl ⟨rfl,_,SqL.of g3⟩,_,rfl,_,rfl,sz rfl,fun u gu=>?_⟩;have wu:=ae gu (.tup [.ref t,.str r.2.1]);have eu:upd H5 u (.tup [.ref t,.str r.2.1]) u=some (.tup [.ref t,.str r.2.1]):=ad;generalize upd H5 u (.tup [.ref t,.str r.2.1])=H6 at wu eu ⊢;refine⟨dl,_,_,rfl,rfl,wu _ _ g3,aP (by omega),?_⟩;have tA:TS H6 (upd H6 dl (.lst (ys++[.ref u]))):=eM fun ws e'=>by rw[wu _ _ g3]at e';cases e'
   have tB:=TS.trans (Same.ts wu) tA;refine hDL _ _ ⟨aX (S5.trans wu) gdl0,kvs5,ys++[.ref u],zs5,_,_,_,_,by rw[af nud];exact wu _ _ g1,UsAt.ts g2 tB,ad,?_,by rw[af ndt.symm];exact wu _ _ g5,lz5,Paired.mapP g6 fun _ _ (z:SsAt _ _ _)=>z.ts tB,rfl⟩;rw[tk];exact YD (Paired.mapP g4 fun _ _ (z:WoAt _ _ _)=>z.ts tB) ⟨u,.ref t,rfl,tA _ _ eu,t,rfl,by rw[hn];exact tA _ _ (wu _ _ et5)⟩
 ·rintro σ H' ⟨sm,kvs,ys,zs,o4,o5,o6,o7,e1,e2,e3,e4,e5,lz,e6,rfl⟩;refine hR0 _ _ ?_;have lt:(aT L).length=rs.length:=by rw[bA,lrs]
  rw[lt,Yy]at e4 e6;rw[bA]at e2;refine⟨_,rfl,_,rfl,_,rfl,sz rfl,fun p gp=>?_⟩;have wp:=ae gp (.lst [.ref dl,.ref tl,.ref ud]);exact q p dl tl ud ys zs kvs _ (sm.trans wp) ad (wp _ _ e3) (Paired.mapP e4 fun _ _ (z:WoAt _ _ _)=>z.ts (Same.ts wp)) (wp _ _ e5) (Paired.mapP e6 fun _ _ (z:SsAt _ _ _)=>z.ts (Same.ts wp)) (wp _ _ e1) (UsAt.ts e2 (Same.ts wp))
def bE(dp:Bool)(n k:Nat):D3:=(0,((k:Int)+1)::List.replicate (n-1) 0,.put (if dp=true/\0<k then some (0,(k:Int))else none) [(k:Int)] "item")
def InR(many:Nat)(x:Nm):Prop:=∃k:Int,1<=k/\k<=many/\x=(0,k)
def Mv(many:Nat)(d:D3):Prop:=(many:Int)<d.2.1.sum/\∃m u pl,d.2.2=.move m u pl/\InR many m/\∀x∈u.toList,InR many x
def S32(dp:Bool)(n many:Nat)(L:List D3):Prop:=∃T,L=(List.range many).map (bE dp n)++T/\∀d∈T,Mv many d
structure Gen32(dp:Bool)(n many:Nat)(cl:List (List Int))(L:List D3):Prop where
 cn:cl.length=n
 cc:∀g,g<n->(clk cl g).length=n
 nn:∀g,g<n->∀i,0<=ai (clk cl g) i
 c0:∀g,g<n->(many:Int)<=ai (clk cl g) 0
 frm:S32 dp n many L
theorem nZ:∀n:Nat,(List.replicate n (0:Int)).sum=0
 |0=>rfl
 |n+1=>by rw[Yv,Yq,nZ n];rfl
theorem yX{c:List Int}{h:Nat}(hh:h<c.length):(c.set h (ai c h+1)).sum=c.sum+1:=by
 induction c generalizing h with
 |nil=>exact absurd hh (by simp)
 |cons x c ih =>
  cases h with
  |zero =>show((x::c).set 0 (x+1)).sum=_;rw[List.set_cons_zero,Yq,Yq];omega
  |succ h =>have e:ai (x::c) (h+1)=ai c h:=rfl;rw[e,List.set_cons_succ,Yq,Yq,ih (by simpa using hh)];omega
theorem uc:∀{c:List Int},(∀i,0<=ai c i)->0<=c.sum
 | [],_=>Int.le_refl _
 |x::c,h=>by have h0:0<=x:=h 0;have:=uc (c:=c) fun i=>h (i+1);rw[Yq];omega
theorem BL{c:List Int}(h:∀i,0<=ai c i)(hl:0<c.length):ai c 0<=c.sum:=by
 cases c with
 |nil=>exact absurd hl (by simp)
 |cons x c =>have:=uc (c:=c) fun i=>h (i+1);show x<=_;rw[Yq];omega
theorem uO{c:List Int}{i:Nat}(h:c.length<=i):ai c i=0:=by unfold ai;rw[List.getElem?_eq_none h];rfl
theorem fq(dp:Bool)(n k:Nat):(bE dp n k).2.1.sum=(k:Int)+1:=by show(((k:Int)+1)::List.replicate (n-1) 0).sum=_;rw[Yq,nZ];omega
theorem Gen32.start{dp:Bool}{n many:Nat}(hn:2<=n):Gen32 dp n many (List.replicate n (((many:Nat):Int)::List.replicate (n-1) 0)) ((List.range many).map (bE dp n)):=by
 have ck:∀g,g<n->clk (List.replicate n (((many:Nat):Int)::List.replicate (n-1) 0)) g=((many:Nat):Int)::List.replicate (n-1) 0:=fun g hg=>by unfold clk;rw[YL,if_pos hg];rfl
 refine⟨Yd ..,fun g hg=>?_,fun g hg i=>?_,fun g hg=>?_,[],(ZJ _).symm,fun d hd=>nomatch hd⟩
 ·rw[ck g hg,Zl,Yd];omega
 ·rw[ck g hg];cases i with
  |zero=>exact Int.natCast_nonneg many
  |succ i =>show 0<=ai (List.replicate (n-1) 0) i;rw[uQ];exact Int.le_refl _
 ·rw[ck g hg];exact Int.le_refl _
theorem Gen32.met{dp:Bool}{n many:Nat}{cl:List (List Int)}{L:List D3}(g:Gen32 dp n many cl L){h o:Nat}(hh:h<n)(ho:o<n):Gen32 dp n many (cl.set h (mx (clk cl h) (clk cl o) n)) L:=by
 have hc:h<cl.length:=by rw[g.cn];exact hh
 have up:∀i,i<n->ai (clk cl h) i<=ai (mx (clk cl h) (clk cl o) n) i:=fun i hi=>by rw[yc hi];split<;>omega
 refine⟨by rw[Yt];exact g.cn,fun q hq=>?_,fun q hq i=>?_,fun q hq=>?_,g.frm⟩
 ·rw[cD hc];split
  ·exact nh
  ·exact g.cc q hq
 ·rw[cD hc];split
  ·rcases Z0 i n with c|c
   ·have:=g.nn h hh i;have:=up i c;omega
   ·rw[uO (by rw[nh];exact c)];exact Int.le_refl _
  ·exact g.nn q hq i
 ·rw[cD hc];split
  ·have:=g.c0 h hh;have:=up 0 (by omega);omega
  ·exact g.c0 q hq
theorem Gen32.add{dp:Bool}{n many:Nat}{cl:List (List Int)}{L:List D3}(g:Gen32 dp n many cl L){h:Nat}(hh:h<n){m:Nm}{u:Option Nm}{pl:List Int}(hm:InR many m)(hu:∀x∈u.toList,InR many x) :
  Gen32 dp n many (cl.set h ((clk cl h).set h (ai (clk cl h) h+1))) (L++[(h,(clk cl h).set h (ai (clk cl h) h+1),.move m u pl)]):=by
 have hc:h<cl.length:=by rw[g.cn];exact hh
 have hl:h<(clk cl h).length:=by rw[g.cc h hh];exact hh
 have sm:=yX hl;have sg:=BL (g.nn h hh) (by omega);have g0:=g.c0 h hh;generalize hx:(clk cl h).set h (ai (clk cl h) h+1)=c' at sm ⊢;have cs:∀i,ai c' i=if i=h then ai (clk cl h) h+1 else ai (clk cl h) i:=fun i=>by rw[<-hx,uR hl]
 have lc:c'.length=n:=by rw[<-hx,Yt,g.cc h hh]
 have c0':(many:Int)<=ai c' 0:=by
  rw[cs 0];split
  ·rename_i e;have:=Yx (ai (clk cl h)) e;omega
  ·omega
 obtain⟨T,e,hT⟩:=g.frm;refine⟨by rw[Yt];exact g.cn,fun q hq=>?_,fun q hq i=>?_,fun q hq=>?_,T++[(h,c',.move m u pl)],by rw[e,Zy],fun d hd=>?_⟩
 ·rw[cD hc];split
  ·exact lc
  ·exact g.cc q hq
 ·rw[cD hc];split
  ·rw[cs i];have:=g.nn h hh h;have:=g.nn h hh i;split<;>omega
  ·exact g.nn q hq i
 ·rw[cD hc];split
  ·exact c0'
  ·exact g.c0 q hq
 ·rcases ZD.mp hd with hd|hd
  ·exact hT d hd
  ·rw[ZK.mp hd];exact⟨by show(many:Int)<c'.sum;omega,m,u,pl,rfl,hm,hu⟩
theorem wc{L:L3}{p:Array Nat}(hp:POk L.length p)(hs:LS (fun i j=>HT.lexLt (((L.map fun x=>ZKey.t [x.2.2.1.sum,(x.2.1:Int)]).map ZKey.nums).getD i []) (((L.map fun x=>ZKey.t [x.2.2.1.sum,(x.2.1:Int)]).map ZKey.nums).getD j [])) p L.length) :
  (p.toList.map fun i=>L.getD i (0,0,[],.none)).Pairwise fun x y=>x.2.2.1.sum<y.2.2.1.sum\/x.2.2.1.sum=y.2.2.1.sum/\x.2.1<=y.2.1:=by
 have ep:p.toList.Perm (List.range L.length):=by have:=Array.perm_iff_toList_perm.mp hp;simpa using this
 rw[List.pairwise_map];have hz:p.size=L.length:=by have:=hp.size_eq;simpa using this
 rw[Z1];intro i j hi hj hij;rw[Zt]at hi hj;have lx:=hs i j hij (by omega);have e1:gA p i=p.toList[i]'(by rw[Zt];exact hi):=by rw[aB,Zg,Zf (by rw[Zt];exact hi)];rfl
 have e2:gA p j=p.toList[j]'(by rw[Zt];exact hj):=by rw[aB,Zg,Zf (by rw[Zt];exact hj)];rfl
 have m1:p.toList[i]'(by rw[Zt];exact hi)<L.length:=Yr.mp (ep.mem_iff.mp (ZM _));have m2:p.toList[j]'(by rw[Zt];exact hj)<L.length:=Yr.mp (ep.mem_iff.mp (ZM _));rw[e1,e2]at lx;generalize p.toList[i]'(by rw[Zt];exact hi)=a at *;generalize p.toList[j]'(by rw[Zt];exact hj)=b at *;have ga:∀k,k<L.length->(((L.map fun x=>ZKey.t [x.2.2.1.sum,(x.2.1:Int)]).map ZKey.nums).getD k [])=[(L.getD k (0,0,[],.none)).2.2.1.sum,((L.getD k (0,0,[],.none)).2.1:Int)]:=fun k hk=>by simp[hk,ZKey.nums]
 have:=lx.1;dsimp only at this;rw[ga a m1,ga b m2,HT.lexLt_cons,HT.lexLt_cons,HT.lexLt_nil_nil]at this;generalize(L.getD a (0,0,[],Wd.none)).2.2.1.sum=sa at *;generalize(L.getD b (0,0,[],Wd.none)).2.2.1.sum=sb at *;generalize(L.getD a (0,0,[],Wd.none)).2.1=xa at *;generalize(L.getD b (0,0,[],Wd.none)).2.1=xb at *;by_cases c:sb=sa
 ·rw[if_pos c]at this;refine .inr ⟨c.symm,?_⟩;by_cases c2:(xb:Int)=(xa:Int)
  ·omega
  ·rw[if_neg c2]at this;have:=of_decide_eq_false this;omega
 ·rw[if_neg c]at this;have:=of_decide_eq_false this;exact .inl (by omega)
theorem nu{α:Type}(f:α->Bool):∀{l:List α},(l.Pairwise fun a b=>f b=true->f a=true)->l=l.filter f++l.filter (fun x=>!f x)
 | [],_=>rfl
 |a::l,h=>by
  obtain⟨h1,h2⟩:=List.pairwise_cons.mp h;cases c:f a with
  |true =>rw[List.filter_cons_of_pos c,List.filter_cons_of_neg (by rw[c];decide),List.cons_append];exact Yx _ (nu f h2)
  |false =>
   have hn:∀b∈l,f b=false:=fun b hb=>by
    cases cb:f b with
    |false=>rfl
    |true =>have:=h1 b hb cb;rw[c]at this;cases this
   rw[List.filter_eq_nil_iff.mpr (fun b hb=>?_),List.filter_eq_self.mpr (fun b hb=>?_)]
   ·rfl
   ·rcases Zq.mp hb with rfl|hb
    ·rw[c];rfl
    ·rw[hn b hb];rfl
   ·rcases Zq.mp hb with rfl|hb
    ·rw[c];decide
    ·rw[hn b hb];decide
theorem zX{dp:Bool}{n many:Nat}{D D':List D3}(g:S32 dp n many D)(pe:D'.Perm D)(so:D'.Pairwise fun x y=>x.2.1.sum<=y.2.1.sum):S32 dp n many D':=by
 obtain⟨T,rfl,hT⟩:=g;have mkP:∀d∈(List.range many).map (bE dp n),d.2.2.mk=true/\d.2.1.sum<=many:=fun d hd=>by obtain⟨k,hk,rfl⟩:=Z2.mp hd;have:=Yr.mp hk;refine⟨rfl,?_⟩;rw[fq];omega
 have mkT:∀d∈T,d.2.2.mk=false/\(many:Int)<d.2.1.sum:=fun d hd=>by obtain⟨h1,m,u,pl,e,_⟩:=hT d hd;rw[e];exact⟨rfl,h1⟩
 have any:∀d∈D',(d.2.2.mk=true/\d.2.1.sum<=many)\/(d.2.2.mk=false/\(many:Int)<d.2.1.sum):=fun d hd=>by
  rcases ZD.mp (pe.mem_iff.mp hd)with hd|hd
  ·exact .inl (mkP d hd)
  ·exact .inr (mkT d hd)
 have two:D'.Pairwise fun a b=>b.2.2.mk=true->a.2.2.mk=true:=by
  refine List.Pairwise.imp_of_mem (fun{a b} ha hb hab hk=>?_) so;rcases any b hb with⟨_,h⟩|⟨h,_⟩
  ·rcases any a ha with⟨h',_⟩|⟨_,h'⟩
   ·exact h'
   ·exfalso;omega
  ·rw[hk]at h;cases h
 have e:=nu (fun d:D3=>d.2.2.mk) two;have f1:=pe.filter (fun d:D3=>d.2.2.mk);have fT:T.filter (fun d:D3=>d.2.2.mk)=[]:=List.filter_eq_nil_iff.mpr fun d hd=>by rw[(mkT d hd).1];decide
 rw[List.filter_append,List.filter_eq_self.mpr fun d hd=>(mkP d hd).1,fT,ZJ]at f1;have f2:D'.filter (fun d:D3=>d.2.2.mk)=(List.range many).map (bE dp n):=by
  refine List.Perm.eq_of_pairwise (le:=fun x y:D3=>x.2.1.sum<=y.2.1.sum) (fun a b ha hb h1 h2=>?_) (so.sublist List.filter_sublist) ?_ f1
  ·obtain⟨i,hi,rfl⟩:=Z2.mp (f1.mem_iff.mp ha);obtain⟨j,hj,rfl⟩:=Z2.mp hb;rw[fq,fq]at h1 h2;rw[show i=j by omega]
  ·rw[List.pairwise_map];refine List.Pairwise.imp (R:=fun a b:Nat=>a<b) (fun{a b} hab=>?_) List.pairwise_lt_range;rw[fq,fq];omega
 rw[f2]at e;refine⟨_,e,fun d hd=>?_⟩;obtain⟨hd,hk⟩:=List.mem_filter.mp hd;rcases ZD.mp (pe.mem_iff.mp hd)with hd|hd
 ·rw[(mkP d hd).1]at hk;cases hk
 ·exact hT d hd
theorem qu{lo:Int}{n j:Nat}{tb:L2.TS}{D:Ends}{σ:St}{H:Hp}(Pv:Nat->St->Hp->Prop)(h0:Pv 0 σ H)(hs:∀i σ H,i<n->Pv i σ H->∀D':Ends,(∀σ' H',Pv (i+1) σ' H'->D'.nx σ' H')->tb D' (σ.set j (some (.int (lo+i)))) H)(hd:∀σ H,Pv n σ H->D.nx σ H) :
  ∃W:Nat->Nat->St->Hp->Prop,(∃m,W 0 m σ H)/\∀i m σ H,W i m σ H ->
   ((Itr lo n).stop i H/\D.nx σ H)\/((Itr lo n).go i H/\∃N:St->Hp->Prop,(∀σ' H',N σ' H'->∃m',m'<m/\W (i+1) m' σ' H')/\∀x H',(Itr lo n).yld i H x H'->br j x σ H' fun σ2 H2=>tb { D with nx:=N,ct:=N,bk:=D.nx } σ2 H2) :=
 qv Pv h0 hs hd
def pI:Sp:=fun vs H Q _=>∃(l:Addr) (cs:List Int) (h m:Int) (dp:Bool),vs=[.ref l,.int h,.int m,.bl dp]/\H l=some (.lst (cs.map V.int))/\cs.length<=61/\2<=h/\h<=4/\1<=m/\m<=61/\∀p H' L,Same H H'->LR3 H' p L->S32 dp h.toNat m.toNat (L.map Prod.snd)->L.length=m.toNat+cs.length->Q (.ref p) H'
theorem pC(n:Nat):(List.replicate n [V.int 0]).flatten=(List.replicate n (0:Int)).map V.int:=nF n
abbrev kF:Stmt:=top 31
abbrev xG:List Str:=["_law_cells","_law_hands","_law_many","_law_deep","_law_clocks","_law_deeds_here","_law_k","_law_up","_law_cell","_law_mixed","_law_hand","_law_other","_law_n"]
theorem bb:FnScope xG ["_law_cells","_law_hands","_law_many","_law_deep"] (aj kF):=⟨rfl,rfl,rfl,by decide +kernel,rfl,by decide +kernel,by decide +kernel⟩
theorem vA{f:Addr}{fd:FuncData}(F:Fun K "_law_deeds" "_law_deeds" kF f fd)(F_order:Fn P w K mg base 1 "_law_order" ["_law_deed"] pL)(z_enumerate:mg "enumerate" = none)(z_range:mg "range" = none)(z_max:mg "max" = none)(z_tuple:mg "tuple" = none)(z_int:mg "int" = none)(z_sorted:mg "sorted" = none) :
  FnOk P w K mg base CX0 4 f fd ["_law_cells","_law_hands","_law_many","_law_deep"] pI:=by
 refine F.okQ bb (fun vs H Q E h=>?_) (fun cdv A outer s H vs Q E hr h=>?_)
 ·obtain⟨l,cs,h,m,dp,rfl,_⟩:=h;rfl
 obtain⟨l,cs,h,m,dp,rfl,hl,hlen,h2,h4,m1,m4,q⟩:=h;refine⟨_,(b_c (au (i:=4) bb.nd (gJ (own:=["_law_k"]) (⟨rfl,by decide +kernel,by decide +kernel,rfl,⟨rfl,rfl,⟨rfl,rfl,trivial⟩⟩⟩:CompOk _ _ [2,1] ["_law_many","_law_hands"]) rfl (ju z_range (q_a (q_v 1) ah)) (fun _ _ _ _=>aM (i:=0) (show (["_law_k","_law_many","_law_hands"]:List Str).Nodup by decide +kernel)) (bL (by decide)) (fun _ _ _ _=>qG) (fun _ _ _ _=>(ay Co (eV (q_a (q_v 1) ah)) (ay Cr (eV (q_a ag ah)) (ay qR (q_v 2) ag))))))
   (b_c (au (i:=5) bb.nd (eV ah))
   (b_c (dO Ym rfl (ju z_range (q_a (q_v 2) ah)) (aM (i:=6) bb.nd) (b_c (au (i:=7) bb.nd (ao bZ (eV (q_a bz (q_a (aA (q_a ag (q_a (q_v 6) ah))) ah))) (re Cc z_int uM (q_a (md (q_v 3) (rf (eT qP (q_v 6) ag))) ah))))
   (b_1 (bH (ik (q_v 5) (aA (q_a ag (q_a (ay dr (aA (q_a (ay cv (q_v 6) ag) ah)) (ay Az (aA (q_a ag ah)) (ay qR (q_v 1) ag))) (q_a (aA (q_a aw (q_a (q_v 7) (q_a (aA (q_a (q_v 6) ah)) (q_a aw ah))))) ah)))))))))
   (b_c (dO Ym rfl (Ad z_enumerate (q_a (q_v 0) ah)) (jr rfl (cJ (aM (i:=6) bb.nd) (cJ (aM (i:=8) bb.nd) ki))) (b_c (au (i:=9) bb.nd (ay dj (ay cv (ay ie (q_v 8) ag) (ay ie (ay ie (q_v 6) (q_v 6)) ag)) ag))
   (b_c (au (i:=10) bb.nd (ay dj (q_v 9) (q_v 1)))
   (b_c (au (i:=11) bb.nd (ay dj (ay fj (q_v 9) (q_v 1)) (ay ie ag (q_v 1))))
   (b_c (fz (bf (aI Ay (q_v 11) (q_v 1)) (b_1 (xl (gJ (own:=["_law_j"]) (⟨rfl,by decide +kernel,by decide +kernel,rfl,⟨rfl,rfl,⟨rfl,rfl,⟨rfl,rfl,trivial⟩⟩⟩⟩:CompOk _ _ [4,10,11] ["_law_clocks","_law_hand","_law_other"]) rfl (ju z_range (q_a (q_v 1) ah)) (fun _ _ _ _=>aM (i:=0) (show (["_law_j","_law_clocks","_law_hand","_law_other"]:List Str).Nodup by decide +kernel)) (bL (by decide)) (fun _ _ _ _=>qG) (fun _ _ _ _=>(q_B (Cd rfl) z_max uN (q_a (ao (iu (K:=K) rfl) (ao (iu (K:=K) rfl) (q_v 1) (q_v 2)) (q_v 0)) (q_a (ao (iu (K:=K) rfl) (ao (iu (K:=K) rfl) (q_v 1) (q_v 3)) (q_v 0)) ah))))) (wM (q_v 4) (q_v 10) xo))) b_0))
   (b_c (xl (ay cv (ao bZ (ao bZ (q_v 4) (q_v 10)) (q_v 10)) ag) (wM (ao bZ (q_v 4) (q_v 10)) (q_v 10) xo))
   (b_c (au (i:=12) bb.nd (ay fj (q_v 9) (ay ie (ay ie ag (q_v 1)) (q_v 1))))
   (b_c (au (i:=7) bb.nd (aA (q_a ag (q_a (ay cv ag (ay dj (ay fj (q_v 12) (q_v 2)) (ay cv (q_v 2) ag))) ah))))
   (b_c (fz (bf (aI qP (ao am (q_v 7) ag) (q_v 2)) (b_1 (au (i:=7) bb.nd bz)) b_0))
   (b_1 (bH (ik (q_v 5) (aA (q_a (q_v 10) (q_a (re Ce z_tuple qk (q_a (ao bZ (q_v 4) (q_v 10)) ah)) (q_a (aA (q_a aw (q_a (aA (q_a ag (q_a (ay cv ag (ay dj (q_v 12) (q_v 2))) ah))) (q_a (q_v 7) (q_a (aA (q_a (ay qR (ay dj (ay fj (q_v 12) ag) ag) ag) ah)) ah))))) ah))))))))))))))))
   (b_1 (aF (vS rfl z_sorted F_order (hr.mono (by decide)) (q_a (q_v 5) ah)))))))),?_⟩
 try rw[cxK]
 obtain⟨n,hn⟩:∃n:Nat,n=h.toNat:=⟨_,rfl⟩
 obtain⟨mn,hmn⟩:∃n:Nat,n=m.toNat:=⟨_,rfl⟩
 have hn':(n:Int)=h:=by omega
 have hm':(mn:Int)=m:=by omega
 have hh1:(h-1).toNat=n-1:=by omega
 rw[<-hn,<-hmn]at q;refine aq fun R0 hR0=>?_;refine⟨_,rfl,_,rfl,by omega,by omega,?_⟩;refine mH (N:=n) (fun i ys H'=>Same H H'/\∃as:List Addr,ys=as.map V.ref/\as.length=i/\as.Nodup/\∀b∈as,H b=none/\H' b=some (.lst (((mn:Int)::List.replicate (n-1) (0:Int)).map V.int))) (by omega) (fun i ys H' ⟨_,as,e,la,_⟩=>by rw[e,Zh,la]) ⟨Same.refl H,[],rfl,rfl,.nil,fun b hb=>absurd hb (by simp)⟩ (fun i ys H' hi _=>?_) (fun ys H' _=>?_) (fun i ys H1 x H2 hi ⟨sm,as,e,la,nd,ha⟩ y A kA=>?_) (fun ys cA H1 ⟨sm,as,e,la,nd,ha⟩ gA'=>?_)
 ·show i<h.toNat;omega
 ·show h.toNat<=n;omega
 ·obtain⟨rfl,rfl⟩:=y;refine⟨_,rfl,sz rfl,fun pm gm=>?_⟩;have v1:=ae gm (.lst [V.int m]);have em:upd H2 pm (.lst [V.int m]) pm=some (.lst [V.int m]):=ad;generalize upd H2 pm (.lst [V.int m])=G1 at v1 em ⊢;refine⟨sz rfl,fun pz gz=>⟨_,rfl,_,_,rfl,rfl,pz,h-1,_,rfl,rfl,ad,by omega,by omega,?_,fun pr gr=>?_⟩⟩
  ·exact dA (by rw[Ye];omega)
  have v2:=v1.trans (ae gz (.lst [V.int 0]));have em2:=ae gz (.lst [V.int 0]) _ _ em;generalize upd G1 pz (.lst [V.int 0])=G2 at v2 em2 gr ⊢;have v3:=v2.trans (ae gr (.lst (List.replicate (h-1).toNat [V.int 0]).flatten));have em3:=ae gr (.lst (List.replicate (h-1).toNat [V.int 0]).flatten) _ _ em2;have er3:upd G2 pr (.lst (List.replicate (h-1).toNat [V.int 0]).flatten) pr=some (.lst (List.replicate (h-1).toNat [V.int 0]).flatten):=ad;rw[hh1,pC]at er3 v3 em3 ⊢;generalize upd G2 pr (.lst ((List.replicate (n-1) (0:Int)).map V.int))=G3 at v3 em3 er3 ⊢;refine⟨pm,pr,_,_,rfl,rfl,em3,er3,dA (by rw[Zh,Yd];show 1+(n-1)<=1000;omega),fun pc gpc=>kA _ _ ?_⟩;have ec:([V.int m]++(List.replicate (n-1) (0:Int)).map V.int)=((mn:Int)::List.replicate (n-1) (0:Int)).map V.int:=by rw[hm'];rfl
  rw[ec];have w2:=v3.trans (ae gpc (.lst (((mn:Int)::List.replicate (n-1) (0:Int)).map V.int)));have fr:H pc=none:=(sm.trans v3).free gpc;refine⟨sm.trans w2,as++[pc],by rw[e,ZU];rfl,by rw[Zo,la];rfl,?_,fun b hb=>?_⟩
  ·refine List.nodup_append.mpr ⟨nd,by simp,fun b hb c hc=>?_⟩;rw[ZK.mp hc];intro z;have:=v3 _ _ (ha b hb).2;rw[z,gpc]at this;cases this
  ·rcases ZD.mp hb with hb|hb
   ·exact⟨(ha b hb).1,w2 _ _ (ha b hb).2⟩
   ·rw[ZK.mp hb];exact⟨fr,ad⟩
 ·subst e;have w1:=ae gA' (.lst (as.map V.ref));have fA:H cA=none:=sm.free gA';have ck:CK (upd H1 cA (.lst (as.map V.ref))) cA n as (List.replicate n ((mn:Int)::List.replicate (n - 1) (0:Int))):=⟨ad,la,nd,fun g hg=>by
   have:clk (List.replicate n ((mn:Int)::List.replicate (n-1) (0:Int))) g=(mn:Int)::List.replicate (n-1) 0:=by unfold clk;rw[YL,if_pos (by omega)];rfl
   rw[this];exact w1 _ _ (ha _ (ZM hg)).2⟩
  have S1:=sm.trans w1;have fas:∀b∈as,H b=none:=fun b hb=>(ha b hb).1;generalize upd H1 cA (.lst (as.map V.ref))=H2 at ck S1 ⊢;refine hR0 _ _ ?_;clear hR0 R0;refine aq fun R0 hR0=>?_;refine⟨sz rfl,fun p gp=>?_⟩;have w2:=ae gp (.lst []);have fp:H p=none:=S1.free gp;have ncp:cA≠p:=fun z=>by have:=ck.1;rw[z,gp]at this;cases this
  have ck2:=ck.same w2;have ep2:upd H2 p (.lst []) p=some (.lst []):=ad;have S2:=S1.trans w2;have npas:∀b∈as,b≠p:=fun b hb z=>by obtain⟨i,hi,rfl⟩:=List.mem_iff_getElem.mp hb;have:=ck.2.2.2 i hi;rw[z,gp]at this;cases this
  generalize upd H2 p (.lst [])=H3 at ck2 ep2 S2 ⊢;clear w1 w2 gp ck S1 sm ha gA';refine hR0 _ _ ?_;clear hR0 R0;refine aq fun R0 hR0=>?_;refine⟨_,rfl,_,rfl,by omega,by omega,?_⟩;refine qu (lo:=0) (fun k σ H'=>Same H H'/\(∃o6 o7,σ=[some (.ref l),some (.int h),some (.int m),some (.bl dp),some (.ref cA),some (.ref p),o6,o7,none,none,none,none,none])/\CK H' cA n as (List.replicate n ((mn:Int)::List.replicate (n-1) (0:Int)))/\∃L,LR3 H' p L/\L.map Prod.snd=(List.range k).map (bE dp n))
   ⟨S2,⟨none,none,rfl⟩,ck2,[],⟨ep2,fun x hx=>absurd hx (by simp)⟩,rfl⟩ ?_ ?_
  ·rintro k σ H4 hk0 ⟨S4,⟨o6,o7,rfl⟩,ck4,L,lr,eL⟩ D0 hD0;have lL:L.length=k:=by have:=Yx List.length eL;rw[Zh,Zh,ZZ]at this;exact this
   have hk:k<mn:=by rw[hmn];exact hk0
   refine aq fun R hR=>?_;refine⟨_,rfl,sz rfl,fun t0 g0=>?_⟩;have x1:=ae g0 (.tup [.int 0,.int (0+(k:Int))]);have w1:upd H4 t0 (.tup [.int 0,.int (0+(k:Int))]) t0=some (.tup [.int 0,.int (0+(k:Int))]):=ad;generalize upd H4 t0 (.tup [.int 0,.int (0+(k:Int))])=B1 at x1 w1 ⊢;refine⟨sz rfl,fun lp glp=>?_⟩;have x2:=x1.trans (ae glp (.lst [.non,.ref t0]));have w1':=ae glp (.lst [.non,.ref t0]) _ _ w1;have w2:upd B1 lp (.lst [.non,.ref t0]) lp=some (.lst [.non,.ref t0]):=ad;generalize upd B1 lp (.lst [.non,.ref t0])=B2 at x2 w1' w2 ⊢;have fin:∀uv,UpAt B2 uv (if dp=true/\0<k then some (0,(k:Int))else none)->R.nx [some (.ref l),some (.int h),some (.int m),some (.bl dp),some (.ref cA),some (.ref p),some (.int (0+(k:Int))),some uv,none,none,none,none,none] B2:=by
    intro uv huv;refine hR _ _ ?_;clear hR R;have S5:=S4.trans x2;have ck5:=ck4.same x2;have lr5:=lr.same x2;clear S4 ck4 lr w1 w1' w2 x1 x2;refine⟨_,rfl,.inl ⟨rfl,_,SqL.of lr5.1⟩,_,rfl,_,_,rfl,rfl,sz rfl,fun t1 g1=>?_⟩;have y1:=ae g1 (.tup [V.int (0+(k:Int)+1)]);have z1:upd B2 t1 (.tup [V.int (0+(k:Int)+1)]) t1=some (.tup [V.int (0+(k:Int)+1)]):=ad;generalize upd B2 t1 (.tup [V.int (0+(k:Int)+1)])=A1 at y1 z1 ⊢;refine⟨sz rfl,fun t2 g2=>?_⟩;have y2:=y1.trans (ae g2 (.tup [V.int 0]));have z1':=ae g2 (.tup [V.int 0]) _ _ z1;have z2:upd A1 t2 (.tup [V.int 0]) t2=some (.tup [V.int 0]):=ad;generalize upd A1 t2 (.tup [V.int 0])=A2 at y2 z1' z2 ⊢;refine⟨_,rfl,_,_,rfl,rfl,t2,h-1,_,rfl,rfl,z2,by omega,by omega,by simp,by rw[Ye];exact dA (by omega),fun t3 A3 s3 e3=>?_⟩;rw[hh1,pC]at e3;refine⟨t1,t3,_,_,rfl,rfl,s3 _ _ z1',e3,dA (by rw[Zh,Yd];show 1+(n-1)<=1000;omega),fun t4 A4 s4 e4=>?_⟩;have ec:([V.int (0+(k:Int)+1)]++(List.replicate (n-1) (0:Int)).map V.int)=(bE dp n k).2.1.map V.int:=by rw[Int.zero_add];rfl
    rw[ec]at e4;have y4:=y2.trans (s3.trans s4);refine⟨_,rfl,_,rfl,sz rfl,fun t5 g5=>?_⟩;have y5:=y4.trans (ae g5 (.tup [V.int (0+(k:Int))]));have e4':=ae g5 (.tup [V.int (0+(k:Int))]) _ _ e4;have z5:upd A4 t5 (.tup [V.int (0+(k:Int))]) t5=some (.tup [V.int (0+(k:Int))]):=ad;generalize upd A4 t5 (.tup [V.int (0+(k:Int))])=A5 at y5 e4' z5 ⊢;refine⟨sz rfl,fun t6 g6=>?_⟩;have y6:=y5.trans (ae g6 (.tup [.str "put",uv,.ref t5,.str "item"]));have e4'':=ae g6 (.tup [.str "put",uv,.ref t5,.str "item"]) _ _ e4';have z5':=ae g6 (.tup [.str "put",uv,.ref t5,.str "item"]) _ _ z5;have z6:upd A5 t6 (.tup [.str "put",uv,.ref t5,.str "item"]) t6=some (.tup [.str "put",uv,.ref t5,.str "item"]):=ad;generalize upd A5 t6 (.tup [.str "put",uv,.ref t5,.str "item"])=A6 at y6 e4'' z5' z6 ⊢;refine⟨sz rfl,fun t7 g7=>?_⟩;have s7:=ae g7 (.tup [.int 0,.ref t4,.ref t6]);have y7:=y6.trans s7;have z7:upd A6 t7 (.tup [.int 0,.ref t4,.ref t6]) t7=some (.tup [.int 0,.ref t4,.ref t6]):=ad;have dd:DA (upd A6 t7 (.tup [.int 0,.ref t4,.ref t6])) t7 (bE dp n k):=⟨t4,t6,z7,s7 _ _ e4'',⟨[uv,.ref t5,.str "item"],s7 _ _ z6,uv,.ref t5,rfl,huv.ts (Same.ts y7),t5,rfl,by rw[Int.zero_add]at z5';exact s7 _ _ z5'⟩,by show 0<(((k:Int)+1)::List.replicate (n-1) (0:Int)).length;simp,by show(((k:Int)+1)::List.replicate (n-1) (0:Int)).length<=8;rw[Zl,Yd];omega⟩
    generalize upd A6 t7 (.tup [.int 0,.ref t4,.ref t6])=A7 at y7 dd ⊢;have lr7:=lr5.same y7;have ck7:=ck5.same y7;refine⟨p,_,_,rfl,rfl,lr7.1,aP (by rw[bA];omega),?_⟩;have tA:TS A7 (upd A7 p (.lst (aT L++[.ref t7]))):=eM fun zs e'=>by rw[lr7.1]at e';cases e'
    refine hD0 _ _ ⟨aX (S5.trans y7) fp,⟨_,_,rfl⟩,⟨by rw[af ncp];exact ck7.1,ck7.2.1,ck7.2.2.1,fun g hg=>by rw[af (npas _ (ZM hg))];exact ck7.2.2.2 g hg⟩,L++[(t7,bE dp n k)],⟨?_,fun x hx=>?_⟩,?_⟩
    ·rw[ad];unfold aT;rw[ZU];rfl
    ·rcases ZD.mp hx with hx|hx
     ·exact(lr7.2 x hx).ts tA
     ·rw[ZK.mp hx];exact dd.ts tA
    ·rw[ZU,eL,List.range_succ,ZU];rfl
   refine⟨_,rfl,dp,rfl,?_⟩;cases c:dp with
   |false =>refine aL ?_;refine .inr ⟨_,rfl,lp,_,_,_,rfl,rfl,SqL.of w2,at0,?_⟩;rw[<-c];exact fin .non (by rw[if_neg (by rw[c];exact fun z=>nomatch z.1)];rfl)
   |true =>
    refine bt ?_;refine⟨_,rfl,_,_,rfl,rfl,.inr ⟨_,rfl,lp,_,_,_,rfl,rfl,SqL.of w2,(?_:atI _ _=some (if 0<k then .ref t0 else .non)),?_⟩⟩
    ·by_cases ck:0<k
     ·rw[if_pos ck,decide_eq_true (by omega)];exact at1
     ·rw[if_neg ck,decide_eq_false (by omega)];exact at0
    ·rw[<-c];by_cases ck:0<k
     ·rw[if_pos ck];refine fin _ ?_;rw[if_pos ⟨c,ck⟩];rw[Int.zero_add]at w1';exact⟨t0,rfl,w1'⟩
     ·rw[if_neg ck];refine fin _ ?_;rw[if_neg fun z=>ck z.2];rfl
  rintro σ H4 ⟨S4,⟨o6,o7,rfl⟩,ck4,L0,lr4,eL0⟩;have emn:m.toNat=mn:=by omega
  rw[emn]at eL0;have gen0:Gen32 dp n mn (List.replicate n ((mn:Int)::List.replicate (n-1) (0:Int))) (L0.map Prod.snd):=by rw[eL0];exact Gen32.start (by omega)
  have lL0:L0.length=mn:=by have:=Yx List.length eL0;rw[Zh,Zh,ZZ]at this;exact this
  clear ck2 ep2 S2 eL0;refine hR0 _ _ ?_;clear hR0 R0;refine aq fun R0 hR0=>?_;refine⟨_,rfl,l,_,rfl,S4 _ _ hl,?_⟩;refine rZ (i:=6) (j:=8) (fun k σ H'=>Same H H'/\(∃o6 o7 o8 o9 o10 o11 o12,σ=[some (.ref l),some (.int h),some (.int m),some (.bl dp),some (.ref cA),some (.ref p),o6,o7,o8,o9,o10,o11,o12])/\∃as cl L,CK H' cA n as cl/\LR3 H' p L/\Gen32 dp n mn cl (L.map Prod.snd)/\L.length=mn+k/\(∀b∈as,H b=none)/\∀b∈as,b≠p)
   ⟨S4,⟨_,_,_,_,_,_,_,rfl⟩,as,_,L0,ck4,lr4,gen0,lL0,fas,npas⟩ (fun i σ H' _ ⟨sm,_⟩=>SqL.of (sm _ _ hl)) ?_ ?_
  ·rintro k x σ H5 hx ⟨S5,⟨o6,o7,o8,o9,o10,o11,o12,eσ⟩,as,cl,L,ck,lr,gen,lL,fas,npas⟩ DE hDE T hT;subst eσ;obtain⟨rfl,hk⟩:=ve hx;have sT:=ae hT (.tup [.int (k:Int),.int (ai cs k)]);refine aq fun R hR=>?_;refine⟨_,rfl,_,_,rfl,rfl,.inr ⟨by decide,by decide⟩,_,rfl,_,rfl,_,_,rfl,rfl,.inl ⟨by omega,by omega⟩,_,_,rfl,rfl,.inr ⟨by decide,by decide⟩,_,_,rfl,rfl,_,_,rfl,rfl,(by show(0:Int)<2147483647;decide),hR _ _ ?_⟩;clear hR R;have z0:=YH (ai cs k*48271+(k:Int)*(k:Int)*69621) (show(2147483647:Int)≠0 by decide);have z9:=YB (ai cs k*48271+(k:Int)*(k:Int)*69621) (show(0:Int)<2147483647 by decide);dsimp only;generalize(ai cs k*48271+(k:Int)*(k:Int)*69621)%2147483647=mz at z0 z9 ⊢;refine aq fun R hR=>?_;refine⟨_,rfl,_,rfl,_,_,rfl,rfl,(by show(0:Int)<h;omega),hR _ _ ?_⟩;clear hR R;have d0:=YH mz (show h≠0 by omega);have d1:=YB mz (show(0:Int)<h by omega);dsimp only;generalize mz%h=hd at d0 d1 ⊢;obtain⟨hN,rfl⟩:∃hN:Nat,hd=(hN:Int):=⟨hd.toNat,by omega⟩
   have hNn:hN<n:=by omega
   refine aq fun R hR=>?_;refine⟨_,rfl,_,rfl,_,_,rfl,rfl,⟨by omega,by omega⟩,_,rfl,_,_,rfl,rfl,.inl ⟨by decide,by decide⟩,_,_,rfl,rfl,(by show(0:Int)<2*h;omega),hR _ _ ?_⟩;clear hR R;have b0:=YH (mz / h) (show 2*h≠0 by omega);dsimp only;generalize mz / h%(2*h)=ot at b0 ⊢;have S6:=S5.trans sT;have ck6:=ck.same sT;have lr6:=lr.same sT;generalize upd H5 T (.tup [.int (k:Int),.int (ai cs k)])=H6 at S6 ck6 lr6 ⊢;clear ck lr sT hT S5;refine aq fun R hR=>?_;refine cW (fun σ' H7=>Same H H7/\σ'=[some (.ref l),some (.int h),some (.int m),some (.bl dp),some (.ref cA),some (.ref p),some (.int (k:Int)),o7,some (.int (ai cs k)),some (.int mz),some (.int (hN:Int)),some (.int ot),o12]/\∃as cl,CK H7 cA n as cl/\LR3 H7 p L/\Gen32 dp n mn cl (L.map Prod.snd)/\(∀b∈as,H b=none)/\∀b∈as,b≠p) ?_ ?_
   ·intro RJ hRJ;refine⟨_,rfl,_,rfl,_,_,rfl,rfl,_,rfl,km (fun hc=>?_) fun hc=>?_⟩
    ·obtain⟨oN,rfl⟩:∃oN:Nat,ot=(oN:Int):=⟨ot.toNat,by omega⟩
     have oNn:oN<n:=by omega
     have ha:hN<as.length:=by rw[ck6.2.1];exact hNn
     have oa:oN<as.length:=by rw[ck6.2.1];exact oNn
     refine⟨_,rfl,_,rfl,by omega,by omega,qr (N:=h.toNat) (lo:=0) (fun j=>.int (if ai (clk cl oN) (0+(j:Int)).toNat>ai (clk cl hN) (0+(j:Int)).toNat then ai (clk cl oN) (0+(j:Int)).toNat else ai (clk cl hN) (0+(j:Int)).toNat)) (by omega) (fun j H7 hj s7 R kR=>?_) (fun p1 H7 s7 g7=>?_)⟩
     ·have ck7:=ck6.same s7;have l1:((0+(j:Int)):Int)<((clk cl hN).length:Int):=by rw[gen.cc hN hNn];omega
      have l2:((0+(j:Int)):Int)<((clk cl oN).length:Int):=by rw[gen.cc oN oNn];omega
      exact⟨_,rfl,_,rfl,cA,_,_,_,rfl,rfl,SqL.of ck7.1,jl ha,_,rfl,as[hN],_,_,_,rfl,rfl,SqL.of (ck7.2.2.2 hN ha),fG (by omega) l1,_,rfl,_,rfl,cA,_,_,_,rfl,rfl,SqL.of ck7.1,jl oa,_,rfl,as[oN],_,_,_,rfl,rfl,SqL.of (ck7.2.2.2 oN oa),fG (by omega) l2,_,_,rfl,kR H7 (Same.refl H7)⟩
     ·have em:((List.range h.toNat).map fun(j:Nat)=>V.int (if ai (clk cl oN) (0+(j:Int)).toNat>ai (clk cl hN) (0+(j:Int)).toNat then ai (clk cl oN) (0+(j:Int)).toNat else ai (clk cl hN) (0+(j:Int)).toNat))=(mx (clk cl hN) (clk cl oN) n).map V.int:=by unfold mx;rw[List.map_map,<-hn];apply List.map_congr_left;intro j _;show V.int _=V.int _;rw[show(0+(j:Int)).toNat=j by omega]
      rw[em];have gm:=gen.met hNn oNn;have lm:(mx (clk cl hN) (clk cl oN) n).length=n:=nh;generalize mx (clk cl hN) (clk cl oN) n=cm at gm lm ⊢;have w7:=s7.trans (ae g7 (.lst (cm.map V.int)));have ck8:=ck6.same w7;have lr8:=lr6.same w7;have S8:=S6.trans w7;have e8:upd H7 p1 (.lst (cm.map V.int)) p1=some (.lst (cm.map V.int)):=ad;have fp1:H p1=none:=(S6.trans s7).free g7;have np1:p1∉as:=fun hm=>by obtain⟨i,hi,rfl⟩:=List.mem_iff_getElem.mp hm;have:=s7 _ _ (ck6.2.2.2 i hi);rw[g7]at this;cases this
      have np1p:p1≠p:=fun z=>by have:=s7 _ _ lr6.1;rw[<-z,g7]at this;cases this
      generalize upd H7 p1 (.lst (cm.map V.int))=H8 at ck8 lr8 S8 e8 ⊢;have las:as.length=n:=ck6.2.1;have tA:TS H8 (upd H8 cA (.lst ((as.map V.ref).set hN (.ref p1)))):=eM fun zs e'=>by rw[ck8.1]at e';cases e'
      refine⟨_,rfl,_,rfl,cA,_,_,hN,rfl,rfl,ck8.1,?_,hRJ _ _ ⟨aX S8 fA,rfl,as.set hN p1,cl.set hN cm,⟨?_,?_,At ck8.2.2.1 np1,fun g hg=>?_⟩,⟨?_,fun x hx=>?_⟩,gm,fun b hb=>?_,fun b hb=>?_⟩⟩
      ·unfold ixN;rw[Zh,if_pos (by omega),if_pos (by omega)];rfl
      ·rw[ad,List.map_set]
      ·rw[Yt];exact las
      ·rw[Yt]at hg;rw[List.getElem_set,cD (by rw[gen.cn];exact hNn)];by_cases c:hN=g
       ·rw[if_pos c,if_pos c.symm,af (mY e8 ck8.1 (fun z=>gF (by omega) z.symm))];exact e8
       ·rw[if_neg c,if_neg (fun z=>c z.symm),af (mY (ck8.2.2.2 g hg) ck8.1 (fun z=>gF (by rw[gen.cc g (by omega)];omega) z.symm))];exact ck8.2.2.2 g hg
      ·rw[af ncp.symm];exact lr8.1
      ·exact(lr8.2 x hx).ts tA
      ·rcases List.mem_or_eq_of_mem_set hb with hb|rfl
       ·exact fas b hb
       ·exact fp1
      ·rcases List.mem_or_eq_of_mem_set hb with hb|rfl
       ·exact npas b hb
       ·exact np1p
    ·exact hRJ _ _ ⟨S6,rfl,as,cl,ck6,lr6,gen,fas,npas⟩
   ·rintro σ' H7 ⟨S7,rfl,as5,cl5,ck7,lr7,gen5,fas5,npas5⟩;refine hR _ _ ?_;clear hR R;have ha:hN<as5.length:=by rw[ck7.2.1];exact hNn
    clear ck6 lr6 gen S6 fas npas;have cN:=ck7.2.2.2 hN ha;have lc:=gen5.cc hN hNn;have fa:=fas5 _ (ZM ha);refine aq fun R hR=>?_;refine⟨_,rfl,_,rfl,cA,_,_,_,rfl,rfl,SqL.of ck7.1,jl ha,_,rfl,as5[hN],_,_,_,rfl,rfl,SqL.of cN,fS (by rw[lc];exact hNn),_,_,rfl,rfl,_,rfl,_,rfl,cA,_,_,_,rfl,rfl,SqL.of ck7.1,jl ha,_,rfl,as5[hN],_,_,hN,rfl,rfl,cN,?_,hR _ _ ?_⟩
    all_goals clear hR R
    ·unfold ixN;rw[Zh,lc,if_pos (by omega),if_pos (by omega)];rfl
    have ec:((clk cl5 hN).map V.int).set hN (.int (ai (clk cl5 hN) hN+1))=((clk cl5 hN).set hN (ai (clk cl5 hN) hN+1)).map V.int:=by rw[List.map_set]
    rw[ec];have npa:p≠as5[hN]:=fun z=>npas5 _ (ZM ha) z.symm;have nca:cA≠as5[hN]:=mY ck7.1 cN (gF (by rw[lc];omega));have S8:=aX (o:=.lst (((clk cl5 hN).set hN (ai (clk cl5 hN) hN+1)).map V.int)) S7 fa;have t7:TS H7 (upd H7 as5[hN] (.lst (((clk cl5 hN).set hN (ai (clk cl5 hN) hN+1)).map V.int))):=eM fun zs e'=>by rw[cN]at e';cases e'
    have lr8:LR3 (upd H7 as5[hN] (.lst (((clk cl5 hN).set hN (ai (clk cl5 hN) hN+1)).map V.int))) p L:=⟨by rw[af npa];exact lr7.1,fun x hx=>(lr7.2 x hx).ts t7⟩
    have ck8:CK (upd H7 as5[hN] (.lst (((clk cl5 hN).set hN (ai (clk cl5 hN) hN+1)).map V.int))) cA n as5 (cl5.set hN ((clk cl5 hN).set hN (ai (clk cl5 hN) hN+1))):=by
     refine⟨by rw[af nca];exact ck7.1,ck7.2.1,ck7.2.2.1,fun g hg=>?_⟩;rw[cD (by rw[gen5.cn];exact hNn)];by_cases c:g=hN
     ·subst c;rw[if_pos rfl,ad]
     ·rw[if_neg c,af]
      ·exact ck7.2.2.2 g hg
      ·have nd:=ck7.2.2.1;rw[List.nodup_iff_pairwise_ne,Z1]at nd;rcases Z0 g hN with c1|c1
       ·exact nd g hN hg ha c1
       ·exact(nd hN g ha hg (by omega)).symm
    have ga:=fun(x:Nm) (u:Option Nm) (pl:List Int) hm hu=>gen5.add (m:=x) (u:=u) (pl:=pl) hNn hm hu;have lc':((clk cl5 hN).set hN (ai (clk cl5 hN) hN+1)).length=n:=by rw[Yt,lc]
    have c8:upd H7 as5[hN] (.lst (((clk cl5 hN).set hN (ai (clk cl5 hN) hN+1)).map V.int)) as5[hN]=some (.lst (((clk cl5 hN).set hN (ai (clk cl5 hN) hN+1)).map V.int)):=ad;generalize upd H7 as5[hN] (.lst (((clk cl5 hN).set hN (ai (clk cl5 hN) hN+1)).map V.int))=H8 at S8 lr8 ck8 c8 ⊢;generalize(clk cl5 hN).set hN (ai (clk cl5 hN) hN+1)=nc at ck8 ga lc' c8;generalize cl5.set hN nc=cl6 at ck8 ga;clear ck7 lr7 t7 S7 cN ec npa nca;have hp:(0:Int)<2*h*h:=Int.mul_pos (by omega) (by omega);have hq:2*h*h<1073741824:=by have:2*h*h<=8*4:=Int.mul_le_mul (by omega) h4 (by omega) (by omega);omega
    have nN:=fS (ns:=nc) (k:=hN) (by omega);refine aq fun R hR=>?_;refine⟨_,rfl,_,rfl,_,_,rfl,rfl,.inl ⟨by decide,by decide⟩,_,rfl,_,_,rfl,rfl,.inl ⟨by omega,by omega⟩,_,_,rfl,rfl,⟨hp,hq⟩,hR _ _ ?_⟩;clear hR R;have n0:0<=mz / (2*h*h):=Int.ediv_nonneg z0 (Int.le_of_lt hp);have n1:mz / (2*h*h)<=mz:=Int.ediv_le_self _ z0;dsimp only;generalize mz / (2*h*h)=nz at n0 n1 ⊢;clear hp hq;refine aq fun R hR=>?_;refine⟨_,rfl,_,rfl,_,_,rfl,rfl,⟨(by show(0:Int)<m;omega),(by show m<1073741824;omega)⟩,_,rfl,_,_,rfl,rfl,_,_,rfl,rfl,(by show(0:Int)<m+1;omega),_,_,rfl,rfl,sz rfl,fun tu gu=>hR _ _ ?_⟩;clear hR R;have u0:=YH (nz / m) (show m+1≠0 by omega);have u1:=YB (nz / m) (show(0:Int)<m+1 by omega);dsimp only;generalize nz / m%(m+1)=uz at u0 u1 ⊢;have wu:=ae gu (.tup [.int 0,.int (1+uz)]);have S9:=S8.trans wu;have lr9:=lr8.same wu;have ck9:=ck8.same wu;have c9:=wu _ _ c8;have eu:upd H8 tu (.tup [.int 0,.int (1+uz)]) tu=some (.tup [.int 0,.int (1+uz)]):=ad;generalize upd H8 tu (.tup [.int 0,.int (1+uz)])=C5 at S9 lr9 ck9 c9 eu ⊢;clear S8 lr8 ck8 c8 wu gu;refine aq fun R hR=>?_;refine cW (fun σ' H9=>H9=C5/\∃uv,UpAt C5 uv (if 1+uz>m then none else some (0,1+uz))/\σ'=[some (.ref l),some (.int h),some (.int m),some (.bl dp),some (.ref cA),some (.ref p),some (.int (k:Int)),some uv,some (.int (ai cs k)),some (.int mz),some (.int (hN:Int)),some (.int ot),some (.int nz)]) ?_ ?_
    ·intro RJ hRJ;refine vix rfl (SqT.of eu) at1 ⟨_,rfl,_,_,rfl,rfl,_,rfl,km (fun hc=>?_) fun hc=>?_⟩
     ·exact hRJ _ _ ⟨rfl,.non,by rw[if_pos hc];rfl,rfl⟩
     ·exact hRJ _ _ ⟨rfl,.ref tu,by rw[if_neg hc];exact⟨tu,rfl,eu⟩,rfl⟩
    rintro σ' H9 ⟨rfl,uv,huv,rfl⟩;refine hR _ _ ?_;clear hR R;have hur:∀x∈(if 1+uz>m then none else some ((0,1+uz):Nm)).toList,InR mn x:=fun x hx=>by
     by_cases c:1+uz>m
     ·rw[if_pos c]at hx;cases hx
     ·rw[if_neg c]at hx;refine⟨1+uz,by omega,by omega,?_⟩;simpa using hx
    generalize(if 1+uz>m then none else some ((0,1+uz):Nm))=up at huv hur;have i0:=YH nz (show m≠0 by omega);have i1:=YB nz (show(0:Int)<m by omega);refine⟨_,rfl,.inl ⟨rfl,_,SqL.of lr9.1⟩,_,rfl,_,rfl,_,rfl,cA,_,_,_,rfl,rfl,SqL.of ck9.1,jl ha,as5[hN],_,rfl,.inl ⟨SqL.of c9,fun q5 f5=>?_⟩⟩;have v5:=ae f5 (.tup (nc.map V.int));have e5:upd H9 q5 (.tup (nc.map V.int)) q5=some (.tup (nc.map V.int)):=ad;generalize upd H9 q5 (.tup (nc.map V.int))=D1 at v5 e5 ⊢;refine⟨_,rfl,_,rfl,_,_,rfl,rfl,(by show(0:Int)<m;omega),_,_,rfl,rfl,sz rfl,fun ti gi=>?_⟩;dsimp only;generalize nz%m=iz at i0 i1 ⊢;have wi:=ae gi (.tup [.int 0,.int (1+iz)]);have ei:upd D1 ti (.tup [.int 0,.int (1+iz)]) ti=some (.tup [.int 0,.int (1+iz)]):=ad;generalize upd D1 ti (.tup [.int 0,.int (1+iz)])=D2 at wi ei ⊢;refine⟨_,rfl,_,rfl,_,_,rfl,rfl,⟨by decide,by decide⟩,_,_,rfl,rfl,(by show(0:Int)<9;decide),_,_,rfl,rfl,sz rfl,fun tp gp=>?_⟩;dsimp only;generalize nz / 7%9-4=pz;have wp:=ae gp (.tup [.int pz]);have ep:upd D2 tp (.tup [.int pz]) tp=some (.tup [.int pz]):=ad;generalize upd D2 tp (.tup [.int pz])=D3' at wp ep ⊢;refine⟨sz rfl,fun wa gw=>?_⟩;have ww:=ae gw (.tup [.str "move",.ref ti,uv,.ref tp]);have ew:upd D3' wa (.tup [.str "move",.ref ti,uv,.ref tp]) wa=some (.tup [.str "move",.ref ti,uv,.ref tp]):=ad;generalize upd D3' wa (.tup [.str "move",.ref ti,uv,.ref tp])=D4 at ww ew ⊢;have v9:=v5.trans (wi.trans (wp.trans ww));have hw:WhAt D4 wa (.move (0,1+iz) up [pz]):=⟨[.ref ti,uv,.ref tp],ew,.ref ti,uv,.ref tp,rfl,⟨ti,rfl,ww _ _ (wp _ _ ei)⟩,huv.ts (Same.ts v9),tp,rfl,ww _ _ ep⟩
    have e5':=ww _ _ (wp _ _ (wi _ _ e5));clear v5 e5 wi ei wp ep ww ew;refine⟨sz rfl,fun q6 f6=>?_⟩;have s6:=ae f6 (.tup [.int (hN:Int),.ref q5,.ref wa]);have w6:=v9.trans s6;have lrA:=lr9.same w6;have ckA:=ck9.same w6;have SA:=S9.trans w6;have dd:DA (upd D4 q6 (.tup [.int (hN:Int),.ref q5,.ref wa])) q6 (hN,nc,.move (0,1+iz) up [pz]):=⟨q5,wa,ad,s6 _ _ e5',hw.ts (Same.ts s6),by show hN<nc.length;omega,by show nc.length<=8;omega⟩
    generalize upd D4 q6 (.tup [.int (hN:Int),.ref q5,.ref wa])=HA at lrA ckA SA dd ⊢;refine⟨p,_,_,rfl,rfl,lrA.1,aP (by rw[bA];omega),?_⟩;have tA:TS HA (upd HA p (.lst (aT L++[.ref q6]))):=eM fun zs e'=>by rw[lrA.1]at e';cases e'
    refine hDE _ _ ⟨aX SA fp,⟨_,_,_,_,_,_,_,rfl⟩,as5,cl6,L++[(q6,hN,nc,.move (0,1+iz) up [pz])],⟨by rw[af ncp];exact ckA.1,ckA.2.1,ckA.2.2.1,fun g hg=>by rw[af (npas5 _ (ZM hg))];exact ckA.2.2.2 g hg⟩,⟨?_,fun x hx=>?_⟩,?_,by rw[Zo,lL];rfl,fas5,npas5⟩
    ·rw[ad];unfold aT;rw[ZU];rfl
    ·rcases ZD.mp hx with hx|hx
     ·exact(lrA.2 x hx).ts tA
     ·rw[ZK.mp hx];exact dd.ts tA
    ·rw[ZU];exact ga _ _ _ ⟨1+iz,by omega,by omega,rfl⟩ hur
  ·rintro σ H5 ⟨S5,⟨o6,o7,o8,o9,o10,o11,o12,eσ⟩,as,cl,L,ck,lr,gen,lL,fas,npas⟩;subst eσ;rw[Zh]at lL;refine hR0 _ _ ?_;clear hR0 R0;refine⟨_,rfl,p,aT L,L.map (fun x=>ZKey.t [x.2.2.1.sum,(x.2.1:Int)]),rfl,.inl lr.1,by rw[bA];omega,by rw[bA,Zh],.inr fun k hk=>?_,fun i v key H' hv hkey s' R hR=>?_,fun pm H6 D pok hls s6 _ gD=>?_⟩
   ·obtain⟨x,_,rfl⟩:=Z2.mp hk;exact⟨_,rfl,by simp⟩
   ·obtain⟨hi,rfl⟩:=lq hv;rw[Z6,Zf hi]at hkey;cases hkey;exact⟨_,_,rfl,(lr.2 _ (ZM hi)).ts (Same.ts s'),fun a H'' s'' e=>hR (.ref a) H'' s'' ⟨a,rfl,e⟩⟩
   ·rw[bA]at pok hls;obtain⟨pe,ee⟩:=yu pok;have so:=wc pok hls;rw[ee];generalize(pm.toList.map fun i=>L.getD i (0,0,[],.none))=M at pe so ee ⊢;have wD:=ae gD (.lst (aT M));have sx:=s6.trans wD;have lM:M.length=mn+cs.length:=by rw[pe.length_eq,lL]
    exact q D _ M (S5.trans sx) ⟨ad,fun x hx=>(lr.2 x (pe.mem_iff.mp hx)).ts (Same.ts sx)⟩ (zX gen.frm (pe.map Prod.snd) (List.pairwise_map.mpr (so.imp fun{a b} z=>by rcases z with z|z<;>omega))) lM
theorem iZ{ts:As Dd}{tn:List Nm}{ds:List Dd}:∀{ol ol':Ol} {rs rs':List Out},Eqo ol ol'->Runs ts tn ol ds rs->Runs ts tn ol' ds rs'->rs=rs':=by
 induction ds with
 |nil =>intro ol ol' rs rs' e h h';rw[kE h,kE h']
 |cons d ds ih =>
  intro ol ol' rs rs' e h h';cases c:cy d ts with
  |true =>obtain⟨r1,rfl,x1⟩:=pF c h;obtain⟨r2,rfl,x2⟩:=pF c h';rw[ih e x1 x2]
  |false =>
   cases c2:d.2.isTurn with
   |true =>obtain⟨r1,rfl,x1⟩:=nJ c c2 h;obtain⟨r2,rfl,x2⟩:=nJ c c2 h';rw[ih e x1 x2]
   |false =>obtain⟨w,so,o1,r1,rfl,p1,x1⟩:=iY c c2 h;obtain⟨w',so',o2,r2,rfl,p2,x2⟩:=iY c c2 h';obtain⟨rfl,rfl,e2⟩:=vM e p1 p2;rw[ih e2 x1 x2]
theorem Cb{ol:Ol}{s:Sd}(h:cR ol s):∃ol',Ap ol s ol':=by
 have g:∀n∈s.items,∃it,look ol n=some it:=fun n hn=>Yo.mp (h n hn);cases s with
 |put=>exact⟨_,.put⟩
 |move n u pl=>obtain⟨it,e⟩:=g n (by simp[Sd.items]);exact⟨_,.move e⟩
theorem yB{ol:Ol}{n:Nm}{wd:Wd}(nt:wd.isTurn=false)(rd:∀s,de n wd=some s->Ready ol s):∃w so ol',PlayR ol n wd w so ol':=by
 rcases om (n:=n) nt with rfl|⟨m,rfl|rfl⟩|⟨s,hs⟩
 ·exact⟨_,_,_,.none⟩
 ·exact⟨_,_,_,.take⟩
 ·exact⟨_,_,_,.back⟩
 ·cases ct:lZ ol wd with
  |true =>
   cases wd with
   |put u pl tx =>
    cases u with
    |none=>cases ct
    |some m =>
     have:look ol m=none:=by
      have z:(!(look ol m).isSome)=true:=ct;cases e:look ol m with
      |none=>rfl
      |some it=>rw[e]at z;cases z
     exact⟨_,_,_,.top this⟩
   |_=>cases ct
  |false =>
   have r:=rd s hs;by_cases hh:cR ol s
   ·obtain⟨b,hb⟩:=r.bd hh;rcases b with _|_|_
    ·obtain⟨ol',ap⟩:=Cb hh;exact⟨_,_,_,.step hs ct (.done hh hb ap)⟩
    ·exact⟨_,_,_,.step hs ct (.far hh hb)⟩
    ·exact⟨_,_,_,.step hs ct (.beneath hh hb)⟩
   ·exact⟨_,_,_,.step hs ct (.none hh)⟩
theorem yD{ol ol':Ol}{n:Nm}{wd:Wd}{w:Str}{so:Option Sd}(ok:DOk wd)(h:∀m it,look ol m=some it->it.tx.length<=5)(p:PlayR ol n wd w so ol'):∀m it,look ol' m=some it->it.tx.length<=5:=by
 have st:∀(x:Nm) (i:It),i.tx.length<=5->∀m it,look (aG ol x i) m=some it->it.tx.length<=5:=fun x i hi m it hm=>by
  rw[aO]at hm;by_cases c:m=x
  ·rw[if_pos c]at hm;cases hm;exact hi
  ·rw[if_neg c]at hm;exact h m it hm
 cases p with
 |none=>exact h
 |take=>exact h
 |back=>exact h
 |top hm=>exact st _ _ ok.2
 |step hs ht wr =>
  cases wr with
  |none=>exact h
  |beneath=>exact h
  |far=>exact h
  |done hh hb ap =>
   cases ap with
   |put =>
    cases wd with
    |put u pl tx =>cases hs;exact st _ _ ok.2
    |_=>cases hs
   |@move _ _ _ it hl=>exact st _ _ (h _ it hl)
structure G32(ol:Ol)(ds:List Dd):Prop where
 inv:∃B,Inv ol B
 tx:∀n it,look ol n=some it->it.tx.length<=5
 len:ol.length+ds.length<=130
 fr:Fresh ol ds
 nt:∀d∈ds,d.2.isTurn=false
theorem G32.play{ol ol':Ol}{d:Dd}{ds:List Dd}{w:Str}{so:Option Sd}(g:G32 ol (d::ds))(p:PlayR ol d.1 d.2 w so ol'):G32 ol' ds:=by
 obtain⟨⟨B,v⟩,tx,len,f,nt⟩:=g;rw[Zl]at len;have k:=tq v (f.ok d Zv) (f.non d Zv) p;refine⟨⟨_,k.inv⟩,yD (f.ok d Zv) tx p,by have:=k.len;omega,⟨f.tail.ok,fun e he hm=>?_,f.tail.pw⟩,fun e he=>nt e (Zn _ he)⟩;refine k.non e.1 (fun z=>?_) (f.tail.non e he hm);by_cases cm:d.2.mk=true
 ·rw[if_pos cm]at z;exact(List.pairwise_cons.mp f.pw).1 e he cm hm (ZK.mp z).symm
 ·rw[if_neg cm]at z;cases z
theorem G32.ready{ol:Ol}{d:Dd}{ds:List Dd}(g:G32 ol (d::ds))(s:Sd)(hs:de d.1 d.2=some s):Ready ol s:=by obtain⟨B,v⟩:=g.inv;exact nE v (g.fr.non d Zv) hs
theorem ko(d:Dd):cy d []=false:=by unfold cy;rw[show vx (look ([]:As Dd) d.1)=false from rfl,Bool.and_false]
theorem lE:∀{ds:List Dd},(∀d∈ds,d.2.isTurn=false)->aC ds=[]
 | [],_=>rfl
 |d::ds,h=>by unfold aC;rw[List.foldl_cons,pT (h d Zv)];exact lE (ds:=ds) fun e he=>h e (Zn _ he)
theorem tL{tn:List Nm}:∀{ds:List Dd} {ol:Ol},G32 ol ds->∃rs,Runs [] tn ol ds rs
 | [],_,_=>⟨[],.nil⟩
 |d::ds,ol,g=>by obtain⟨w,so,ol',p⟩:=yB (g.nt d Zv) g.ready;obtain⟨rs,h⟩:=tL (tn:=tn) (g.play p);exact⟨_,.play (ko d) (g.nt d Zv) p h⟩
theorem pG:∀{ds:List Dd} {ol:Ol},G32 ol ds->dC [] ol ds
 | [],_,_=>trivial
 |d::ds,ol,g=>by have l:=g.len;exact tO (ko d) (g.nt d Zv) ⟨by omega,fun n it h=>ZC (g.tx n it h) (by decide)⟩ g.ready fun w so ol' p=>pG (g.play p)
def mT:Wd->List Nm
 |.put u _ _=>u.toList
 |.move m u _=>m::u.toList
 |_=>[]
def pmB:Wd->Bool
 |.put _ _ _=>true
 |.move _ _ _=>true
 |_=>false
def HasAll:(Nm->Prop)->List Dd->Prop
 |_,[]=>True
 |S,d::ds=>pmB d.2=true/\(∀x∈mT d.2,S x)/\HasAll (fun x=>S x\/(d.2.mk=true/\d.1=x)) ds
theorem HasAll.mono:∀{ds:List Dd} {S S':Nm->Prop},(∀x,S x->S' x)->HasAll S ds->HasAll S' ds
 | [],_,_,_,_=>trivial
 | d::ds,S,S',h,⟨h1,h2,h3⟩=>⟨h1,fun x hx=>h x (h2 x hx),HasAll.mono (fun x hx=>by
  rcases hx with hx|hx
  ·exact .inl (h x hx)
  ·exact .inr hx) h3⟩
theorem HasAll.app:∀{a b:List Dd} {S:Nm->Prop},HasAll S a->HasAll (fun x=>S x\/∃d∈a,d.2.mk=true/\d.1=x) b->HasAll S (a++b)
 | [],b,S,_,h=>HasAll.mono (fun x hx=>by
  rcases hx with hx|⟨d,hd,_⟩
  ·exact hx
  ·cases hd) h
 | d::a,b,S,⟨h1,h2,h3⟩,h=>⟨h1,h2,HasAll.app h3 (HasAll.mono (fun x hx=>by
  rcases hx with hx|⟨e,he,hm⟩
  ·exact .inl (.inl hx)
  ·rcases Zq.mp he with rfl|he
   ·exact .inl (.inr hm)
   ·exact .inr ⟨e,he,hm⟩) h)⟩
theorem HasAll.all:∀{b:List Dd} {S:Nm->Prop},(∀d∈b,pmB d.2=true/\∀x∈mT d.2,S x)->HasAll S b
 | [],_,_=>trivial
 |d::b,S,h=>⟨(h d Zv).1,(h d Zv).2,HasAll.mono (fun x hx=>.inl hx) (HasAll.all fun e he=>h e (Zn _ he))⟩
theorem zZ{ol:Ol}{wd:Wd}(h1:pmB wd=true)(h2:∀x∈mT wd,(look ol x).isSome=true):Has ol wd:=by
 cases wd with
 |put u pl tx=>exact h2
 |move m u pl=>exact⟨h2 m Zv,fun x hx=>h2 x (Zn _ hx)⟩
 |_=>cases h1
theorem jx{ol:Ol}{n x:Nm}{it:It}(h:(look ol x).isSome=true\/n=x):(look (aG ol n it) x).isSome=true:=by
 rw[aO];by_cases c:x=n
 ·rw[if_pos c];rfl
 ·rw[if_neg c];rcases h with h|h
  ·exact h
  ·exact absurd h.symm c
theorem Bi{ol ol':Ol}{n:Nm}{wd:Wd}{w:Str}{so:Option Sd}(p:PM ol n wd w so ol'){x:Nm}(h:(look ol x).isSome=true\/(wd.mk=true/\n=x)):(look ol' x).isSome=true:=by
 cases p with
 |put =>
  refine jx ?_;rcases h with h|h
  ·exact .inl h
  ·exact .inr h.2
 |ok hl un =>
  refine jx (.inl ?_);rcases h with h|h
  ·exact h
  ·cases h.1
 |ring un =>
  rcases h with h|h
  ·exact h
  ·cases h.1
theorem tE{tn:List Nm}:∀{ds:List Dd} {ol:Ol} {rs:List Out},G32 ol ds->HasAll (fun x=>(look ol x).isSome=true) ds->Runs [] tn ol ds rs->∃ols:Nat->Ol,ols 0=ol/\(∀i,(ols i).length<=130)/\(∀(i:Nat) (hi:i<ds.length) (r:Out),rs[i]?=some r->r.1=ds[i].1/\PM (ols i) ds[i].1 ds[i].2 r.2.1 r.2.2 (ols (i+1)))/\Ter (ols ds.length)/\rs.length=ds.length
 | [],ol,rs,g,_,h=>by rw[kE h];obtain⟨B,v⟩:=g.inv;exact⟨fun _=>ol,rfl,fun _=>g.len,fun i hi=>absurd hi (Nat.not_lt_zero i),v.ter,rfl⟩
 |d::ds,ol,rs,g,⟨h1,h2,h3⟩,h=>by
  obtain⟨w,so,ol',r1,rfl,p,x⟩:=iY (ko d) (g.nt d Zv) h;have pm:=CB (zZ h1 h2) p;obtain⟨ols,e0,e1,e2,e3,e4⟩:=tE (g.play p) (HasAll.mono (fun y hy=>Bi pm hy) h3) x;have l:=g.len;refine⟨fun i=>match i with|0=>ol|i+1=>ols i,rfl,fun i=>?_,fun i hi r hr=>?_,e3,by rw[Zl,Zl,e4]⟩
  ·cases i with
   |zero=>show ol.length<=130;omega
   |succ i=>exact e1 i
  ·cases i with
   |zero =>cases hr;refine⟨rfl,?_⟩;show PM ol d.1 d.2 w so (ols 0);rw[e0];exact pm
   |succ i =>rw[List.getElem?_cons_succ]at hr;exact e2 i (by rw[Zl]at hi;omega) r hr
def jg(us:As (Option Nm))(s:Nm×Sd):As (Option Nm):=match s.2 with
 |.put n u _ _=>aG us n u
 |.move n u _=>aG us n u
theorem og{rs:List Out}{ds:List Dd}{ols:Nat->Ol}(h0:ols 0=[])(hl:rs.length=ds.length)(h:∀(i:Nat) (hi:i<ds.length) (r:Out),rs[i]?=some r->r.1=ds[i].1/\PM (ols i) ds[i].1 ds[i].2 r.2.1 r.2.2 (ols (i+1))):∀i,i<=ds.length->(aH (rs.take i)).foldl jg []=bp (ols i)
 |0,_=>by rw[h0];rfl
 |i+1,hi=>by
  have hr:=Zf (show i<rs.length by omega);obtain⟨_,pm⟩:=h i (by omega) _ hr;rw[eK hr,eX,List.foldl_append,og h0 hl h i (by omega)];generalize rs[i]=r at pm;obtain⟨rn,rw',rso⟩:=r;dsimp only at pm;generalize ols (i+1)=ol' at pm;generalize ds[i].2=wd at pm;cases pm with
  |put=>rw[ir];rfl
  |ok hl un=>rw[ir];rfl
  |ring un=>rfl
theorem xZ:uJ "item":=by refine⟨by decide +kernel,by decide +kernel⟩
theorem C1{dp:Bool}{n many:Nat}{D:List D3}(h:S32 dp n many D)(hl:D.length<=130):G32 [] (D.map toD):=by
 obtain⟨T,rfl,hT⟩:=h;have mem:∀d∈((List.range many).map (bE dp n)++T).map toD,(∃k,k<many/\d=toD (bE dp n k))\/∃e∈T,d=toD e:=fun d hd=>by
  obtain⟨e,he,rfl⟩:=Z2.mp hd;rcases ZD.mp he with he|he
  ·obtain⟨k,hk,rfl⟩:=Z2.mp he;exact .inl ⟨k,Yr.mp hk,rfl⟩
  ·exact .inr ⟨e,he,rfl⟩
 have mv:∀e∈T,∃m u pl,(toD e).2=.move m u pl:=fun e he=>by obtain⟨_,m,u,pl,e1,_⟩:=hT e he;exact⟨m,u,pl,e1⟩
 refine⟨⟨0,C2⟩,fun n it h=>(nomatch h),by rw[Zh];simpa using hl,⟨fun d hd=>?_,fun _ _ _=>rfl,?_⟩,fun d hd=>?_⟩
 ·rcases mem d hd with⟨k,_,rfl⟩|⟨e,he,rfl⟩
  ·exact xZ
  ·obtain⟨m,u,pl,e1⟩:=mv e he;rw[e1];trivial
 ·rw[ZU,ZH];refine⟨?_,?_,fun a _ b hb _ hm=>?_⟩
  ·rw[List.map_map,List.pairwise_map];refine List.Pairwise.imp (R:=fun a b:Nat=>a<b) (fun{a b} hab _ _ z=>?_) List.pairwise_lt_range;have:((a:Int)+1)=((b:Int)+1):=Yx Prod.snd z;omega
  ·refine List.Pairwise.imp_of_mem (R:=fun _ _=>True) (fun{a b} ha _ _ hm=>?_) (List.pairwise_of_forall fun _ _=>trivial);obtain⟨e,he,rfl⟩:=Z2.mp ha;obtain⟨m,u,pl,e1⟩:=mv e he;rw[e1]at hm;cases hm
  ·obtain⟨e,he,rfl⟩:=Z2.mp hb;obtain⟨m,u,pl,e1⟩:=mv e he;rw[e1]at hm;cases hm
 ·rcases mem d hd with⟨k,_,rfl⟩|⟨e,he,rfl⟩
  ·rfl
  ·obtain⟨m,u,pl,e1⟩:=mv e he;rw[e1];rfl
theorem mR{dp:Bool}{n:Nat}:∀many:Nat,HasAll (fun _=>False) (((List.range many).map (bE dp n)).map toD)
 |0=>trivial
 |k+1=>by
  rw[List.range_succ,ZU,ZU];refine HasAll.app (mR k) ⟨rfl,fun x hx=>.inr ?_,trivial⟩;by_cases c:dp=true/\0<k
  ·have hx':x∈(if dp=true/\0<k then some ((0,(k:Int)):Nm)else none).toList:=hx;rw[if_pos c]at hx';have e:x=(0,(k:Int)):=by simpa using hx'
   refine⟨toD (bE dp n (k-1)),Z2.mpr ⟨_,Z2.mpr ⟨k-1,Yr.mpr (by omega),rfl⟩,rfl⟩,rfl,?_⟩;rw[e];refine Prod.ext rfl ?_;show((k-1:Nat):Int)+1=(k:Int);omega
  ·have hx':x∈(if dp=true/\0<k then some ((0,(k:Int)):Nm)else none).toList:=hx;rw[if_neg c]at hx';cases hx'
theorem zY{dp:Bool}{n many:Nat}{D:List D3}(h:S32 dp n many D):HasAll (fun x=>(look ([]:Ol) x).isSome=true) (D.map toD):=by
 obtain⟨T,rfl,hT⟩:=h;rw[ZU];have inr:∀x,InR many x->∃d∈((List.range many).map (bE dp n)).map toD,d.2.mk=true/\d.1=x:=fun x ⟨k,k1,k2,e⟩=>by refine⟨toD (bE dp n (k.toNat-1)),Z2.mpr ⟨_,Z2.mpr ⟨k.toNat-1,Yr.mpr (by omega),rfl⟩,rfl⟩,rfl,?_⟩;rw[e];refine Prod.ext rfl ?_;show((k.toNat-1:Nat):Int)+1=k;omega
 refine HasAll.app (HasAll.mono (fun _ z=>z.elim) (mR many)) (HasAll.all fun d hd=>?_);obtain⟨e,he,rfl⟩:=Z2.mp hd;obtain⟨_,m,u,pl,e1,i1,i2⟩:=hT e he;have e2:(toD e).2=.move m u pl:=e1;rw[e2];refine⟨rfl,fun x hx=>.inr (inr x ?_)⟩;rcases Zq.mp (show x∈m::u.toList from hx)with rfl|hx
 ·exact i1
 ·exact i2 x hx
abbrev gN:Stmt:=top 29
abbrev rE:List Str:=["_law_script","_law_k"]
theorem rj:FnScope rE ["_law_script","_law_k"] (aj gN):=⟨rfl,rfl,rfl,by decide +kernel,rfl,by decide +kernel,by decide +kernel⟩
theorem qU{f:Addr}{fd:FuncData}(F:Fun K "_law_cell_at" "_law_cell_at" gN f fd)(z_len:mg "len" = none):FnOk P w K mg base CX0 1 f fd ["_law_script","_law_k"] (tS K):=by
 refine F.okQ rj (fun vs H Q E h=>?_) (fun cdv A outer s H vs Q E hr h=>?_)
 ·obtain⟨a,ns,k,rfl,_⟩:=h;rfl
 obtain⟨a,ns,k,rfl,hS,h0,q⟩:=h;refine⟨_,(b_c (bf (aI Ay (q_v 1) (q_B wK z_len PySem.boot_len (q_a (q_v 0) ah))) (b_1 (aF (ao bZ (q_v 0) (q_v 1)))) b_0)
   (b_1 (aF ag))),?_⟩
 try rw[cxK]
 refine⟨_,rfl,_,rfl,a,_,rfl,.inl hS,_,_,rfl,rfl,_,rfl,?_⟩;refine C4 (fun c=>?_) (fun c=>?_)
 ·have c':k<((ns.map V.int).length:Int):=of_decide_eq_true c;rw[Zh]at c';exact⟨_,rfl,_,rfl,a,_,_,_,rfl,rfl,hS,fG h0 c',q⟩
 ·have c':¬k<((ns.map V.int).length:Int):=of_decide_eq_false (YV.mpr c);rw[Zh]at c';rw[uP h0 c']at q;exact q
theorem zQ{ns:List Int}(h:ns.length<=63):∃cs:List Int,bO (ns.map V.int) (some 2) (some 92)=cs.map V.int/\cs.length<=61:=by
 refine⟨(ns.drop (HT.sIx (ns.map V.int).length 0 (some 2))).take (HT.sIx (ns.map V.int).length (ns.map V.int).length (some 92)-HT.sIx (ns.map V.int).length 0 (some 2)),?_,?_⟩
 ·unfold bO;rw[List.map_take,List.map_drop]
 ·rw[ZL,Z9,Zh,tN (by decide),tN (by decide)];have:(2:Int).toNat=2:=rfl;omega
theorem zR(L:L3)(z:Int)(h:0<=z):bO (aT L) none (some z)=aT (L.take z.toNat):=by
 obtain⟨k,rfl⟩:∃k:Nat,z=(k:Int):=⟨z.toNat,by omega⟩
 unfold bO;rw[HT.sIx_none,HT.sIx_nat,bA,List.drop_zero,Nat.sub_zero];unfold aT;rw[List.map_take];show _=(L.map _).take k;rcases Nat.le_total k L.length with c|c
 ·rw[Nat.min_eq_left c]
 ·rw[Nat.min_eq_right c,ZN (by rw[Zh];exact Ze _),ZN (by rw[Zh];exact c)]
theorem jn{H:Hp}:∀{L:L3},(∀x∈L,DA H x.1 x.2)->jj H (aT L) ((L.map Prod.snd).map toD)
 | [],_=>.nil
 |x::L,h=>.cons (h x Zv).dd (jn fun y hy=>h y (Zn _ hy))
structure Pu(D:List D3)(rs:List Out)(ols:Nat->Ol):Prop where
 tn:aC (D.map toD)=[]
 run:Runs [] (aK (D.map toD)) [] (D.map toD) rs
 len:rs.length=D.length
 o0:ols 0=[]
 ol:∀i,(ols i).length<=130
 pm:∀(i:Nat) (hi:i<D.length) (r:Out),rs[i]?=some r->r.1=nm3 D[i]/\PM (ols i) (nm3 D[i]) D[i].2.2 r.2.1 r.2.2 (ols (i+1))
 ter:Ter (ols D.length)
 ups:(aH rs).foldl jg []=bp (ols D.length)
 safe:dC [] [] (D.map toD)
 ok:∀r∈rs,PyData.strOk r.2.1=true/\∀s,r.2.2=some s->s.ok
theorem mW{dp:Bool}{n many:Nat}{D:List D3}(s:S32 dp n many D)(hl:D.length<=130):∃rs ols,Pu D rs ols:=by have g:=C1 s hl;obtain⟨rs,run⟩:=tL (tn:=aK (D.map toD)) g;obtain⟨ols,e0,e1,e2,e3,e4⟩:=tE g (zY s) run;have up:=og e0 e4 e2 (D.map toD).length (Ze _);rw[<-e4,Yy]at up;rw[e4]at up;rw[Zh]at e3 e4 up;refine⟨rs,ols,lE g.nt,run,e4,e0,e1,fun i hi r hr=>?_,e3,up,pG g,yQ run g.fr.ok⟩;have:=e2 i (by rw[Zh];exact hi) r hr;rw[Yp]at this;exact this
theorem rc{dp:Bool}{n many:Nat}{rs:List Out}{ols:Nat->Ol}(p:Pu ((List.range many).map (bE dp n)) rs ols):rs.map (fun r=>woD (r.1,r.2.1))=(List.range many).map fun k:Nat=>woD ((0,(k:Int)+1),"done"):=by
 have l:=p.len;rw[Zh,ZZ]at l;refine List.ext_getElem (by rw[Zh,Zh,ZZ,l]) fun i h1 h2=>?_;rw[Zh]at h1;have:=p.pm i (by rw[Zh,ZZ];omega) _ (Zf h1);rw[Yp,List.getElem_range]at this;rw[Yp,Yp,List.getElem_range];obtain⟨a,b⟩:=this;generalize rs[i]=r at a b;obtain⟨rn,rw',rso⟩:=r;dsimp only at a b;generalize ols (i+1)=ol' at b;have hw:rw'="done":=by
  generalize hwd:(bE dp n i).2.2=wd at b;cases b with
  |put=>rfl
  |ok _ _=>cases hwd
  |ring _=>cases hwd
 rw[a,hw];rfl
theorem uk{dp:Bool}{n many:Nat}{D:List D3}(s:S32 dp n many D):D.take many=(List.range many).map (bE dp n)/\S32 dp n many ((List.range many).map (bE dp n)):=by obtain⟨T,rfl,hT⟩:=s;refine⟨?_,[],(ZJ _).symm,fun d hd=>nomatch hd⟩;rw[List.take_append_of_le_length (by rw[Zh,ZZ];exact Ze _),ZN (by rw[Zh,ZZ];exact Ze _)]
theorem BK{H:Hp}{st:Addr}{s:Sd}(h:StAt H st s):∃(wd:Str) (nv uv:V) (rest:List V) (n:Nm) (u:Option Nm),H st=some (.tup (.str wd::nv::uv::rest))/\NameIs H nv (nk n)/\UpAt H uv u/\∀us x,jg us (x,s)=aG us n u:=by
 cases s with
 |put n u pl tx=>obtain⟨nv,uv,pv,h1,h2,h3,_⟩:=h;exact⟨_,nv,uv,_,n,u,h1,h2,h3,fun _ _=>rfl⟩
 |move n u pl=>obtain⟨nv,uv,pv,h1,h2,h3,_⟩:=h;exact⟨_,nv,uv,_,n,u,h1,h2,h3,fun _ _=>rfl⟩
theorem zj(u:Option Nm):PyData.eqv (upD u) (upD u)=true:=SeqAt.eqv_refl _ (dq u).1
theorem CO{H:Hp}{kvs gvs:List (List Key×V)}{us:As (Option Nm)}(h1:UsAt H kvs us)(h2:UsAt H gvs us)(i:Nat)(p:List Key×V)(hp:kvs[i]?=some p):∃(j:Nat) (v:V) (dx dy:PyData),gvs[j]?=some (p.1,v)/\Dt H dx p.2/\Dt H dy v/\dx.canLay0=true/\dy.canLay0=true/\dx.depth<=60/\PyData.eqv dx dy=true:=by
 obtain⟨q,hq,e1,u1⟩:=bu h1 hp;have hi:i<gvs.length:=by rw[ZO h2];exact(Zw.mp hq).1
 obtain⟨q',hq',e2,u2⟩:=bu h2 (Zf hi);rw[hq]at hq';cases hq';refine⟨i,gvs[i].2,upD q.2,upD q.2,?_,mi u1,mi u2,(dq q.2).1,(dq q.2).1,ZC (dq q.2).2 (by decide),zj q.2⟩;rw[Zf hi,e1,<-e2]
abbrev im:Stmt:=top 35
abbrev Ca:List Str:=["_law_script","_law_hands","_law_many","_law_deep","_law_deeds_here","_law_parts","_law_found","_law_ups","_law_name","_law_step"]
theorem bY:FnScope Ca ["_law_script"] (aj im):=⟨rfl,rfl,rfl,by decide +kernel,rfl,by decide +kernel,by decide +kernel⟩
theorem AB{f:Addr}{fd:FuncData}(F:Fun K "law" "law" im f fd)(F_cell_at:Fn P w K mg base 1 "_law_cell_at" ["_law_script","_law_k"] (tS K))(F_deeds:Fn P w K mg base 4 "_law_deeds" ["_law_cells","_law_hands","_law_many","_law_deep"] pI)(F_due:Fn P w K mg base 2 "_law_due" ["_law_deeds_here"] tU)(F_no_ring:Fn P w K mg base 1 "_law_no_ring" ["_law_ups"] nR)(F_words_of:Fn P w K mg base 8 "words_of" ["ready"] pP)(F_steps_of:Fn P w K mg base 8 "steps_of" ["ready"] pN)(z_list:mg "list" = none)(z_range:mg "range" = none):FnOk P w K mg base CX0 9 f fd ["_law_script"] (me K):=by
 refine F.okQ bY (fun vs H Q E h=>?_) (fun cdv A outer s H vs Q E hr h=>?_)
 ·obtain⟨a,ns,rfl,_⟩:=h;rfl
 obtain⟨a,sc,rfl,hS,hlen,hq⟩:=h;refine⟨_,(b_c (au (i:=1) bY.nd (ay cv ag (ay dj (aU F_cell_at (hr.mono (by decide)) (q_a (q_v 0) (q_a ag ah))) ag)))
   (b_c (au (i:=2) bY.nd (ay cv ag (ay dj (aU F_cell_at (hr.mono (by decide)) (q_a (q_v 0) (q_a ag ah))) ag)))
   (b_c (au (i:=3) bY.nd (eT cg (ay dj (ay fj (aU F_cell_at (hr.mono (by decide)) (q_a (q_v 0) (q_a ag ah))) ag) ag) ag))
   (b_c (fz (bf (cP (q_v 3)) (b_1 (au (i:=2) bY.nd (ay cv ag (ay dj (ay fj (aU F_cell_at (hr.mono (by decide)) (q_a (q_v 0) (q_a ag ah))) ag) ag)))) b_0))
   (b_c (au (i:=4) bY.nd (aU F_deeds (hr.mono (by decide)) (q_a (dY sC (q_v 0) (dF ag) (dF ag)) (q_a (q_v 1) (q_a (q_v 2) (q_a (q_v 3) ah))))))
   (b_c (au (i:=5) bY.nd (aU F_due (hr.mono (by decide)) (q_a (q_v 4) ah)))
   (b_c (bf (aI (wR hr.units) (aU F_words_of (hr.mono (by decide)) (q_a (re rL z_list kZ (q_a (q_v 4) ah)) ah)) (ao bZ (q_v 5) ag)) (b_1 (aF kC)) b_0)
   (b_c (au (i:=6) bY.nd (aU F_steps_of (hr.mono (by decide)) (q_a (re rL z_list kZ (q_a (q_v 4) ah)) ah)))
   (b_c (bf (t_w (Dc (aI (wR hr.units) (q_v 6) (ao bZ (q_v 5) ag)) (CQ (xB (cP (aU F_no_ring (hr.mono (by decide)) (q_a (ao bZ (q_v 5) ag) ah))))))) (b_1 (aF kC)) b_0)
   (b_c (au (i:=7) bY.nd jL)
   (b_c (dO Ym rfl (dW (q_v 6)) (jr rfl (cJ (aM (i:=8) bY.nd) (cJ (aM (i:=9) bY.nd) ki))) (b_1 (fw hr.units (q_v 7) (ao am (q_v 9) ag) (ao am (q_v 9) ag))))
   (b_1 (aF (md (eT (Ax hr.units) (q_v 7) (ao bZ (q_v 5) ag)) (rf (eT (Cp hr.units) (aU F_words_of (hr.mono (by decide)) (q_a (dY sC (q_v 4) fe (dF (q_v 2))) ah)) (gJ (own:=["_law_k"]) (⟨rfl,by decide +kernel,by decide +kernel,rfl,trivial⟩:CompOk _ _ [] []) rfl (ju z_range (q_a (q_v 2) ah)) (fun _ _ _ _=>aM (i:=0) (show (["_law_k"]:List Str).Nodup by decide +kernel)) (bL (by decide)) (fun _ _ _ _=>qG) (fun _ _ _ _=>(aA (q_a (aA (q_a ag (q_a (ay cv (q_v 0) ag) ah))) (q_a aw ah))))))))))))))))))))),?_⟩
 try rw[cxK]
 refine aq fun R0 hR0=>?_;refine⟨_,rfl,a,sc,0,rfl,hS,by decide,_,_,rfl,rfl,(by show(0:Int)<3;decide),_,_,rfl,rfl,hR0 _ _ ?_⟩;clear hR0 R0;have m0:=YH (ai sc (0:Int).toNat) (show(3:Int)≠0 by decide);have m1:=YB (ai sc (0:Int).toNat) (show(0:Int)<3 by decide);dsimp only;generalize ai sc (0:Int).toNat%3=h0 at m0 m1 ⊢;obtain⟨h,hh⟩:∃h:Int,h=2+h0:=⟨_,rfl⟩
 rw[<-hh];refine aq fun R0 hR0=>?_;refine⟨_,rfl,a,sc,1,rfl,hS,by decide,_,_,rfl,rfl,(by show(0:Int)<8;decide),_,_,rfl,rfl,hR0 _ _ ?_⟩;clear hR0 R0;have m2:=YH (ai sc (1:Int).toNat) (show(8:Int)≠0 by decide);have m3:=YB (ai sc (1:Int).toNat) (show(0:Int)<8 by decide);dsimp only;generalize ai sc (1:Int).toNat%8=k0 at m2 m3 ⊢;refine aq fun R0 hR0=>?_;refine⟨_,rfl,a,sc,1,rfl,hS,by decide,_,_,rfl,rfl,⟨by decide,by decide⟩,_,_,rfl,rfl,(by show(0:Int)<3;decide),rfl,hR0 _ _ ?_⟩;clear hR0 R0;generalize decide (V.int _=V.int 1)=dp;refine aq fun R0 hR0=>?_;refine cW (fun σ' H'=>H'=H/\∃m:Int,2<=m/\m<=61/\σ'=[some (.ref a),some (.int h),some (.int m),some (.bl dp),none,none,none,none,none,none]) ?_ ?_
 ·intro RJ hRJ;refine⟨_,rfl,_,rfl,?_⟩;cases dp with
  |true =>refine bt ?_;have n0:=YH (ai sc (1:Int).toNat / 24) (show(60:Int)≠0 by decide);have n1:=YB (ai sc (1:Int).toNat / 24) (show(0:Int)<60 by decide);exact⟨_,rfl,a,sc,1,rfl,hS,by decide,_,_,rfl,rfl,⟨by decide,by decide⟩,_,_,rfl,rfl,(by show(0:Int)<60;decide),_,_,rfl,rfl,hRJ _ _ ⟨rfl,_,by omega,by omega,rfl⟩⟩
  |false =>refine aL ?_;exact hRJ _ _ ⟨rfl,_,by omega,by omega,rfl⟩
 rintro σ' H' ⟨rfl,m,hm2,hm61,rfl⟩;refine hR0 _ _ ?_;clear hR0 R0 m2 m3;obtain⟨cs,ecs,lcs⟩:=zQ hlen;refine aq fun R0 hR0=>?_;refine⟨_,rfl,_,rfl,_,rfl,a,_,rfl,hS,fun p0 g0=>?_⟩;rw[ecs];refine⟨_,rfl,_,rfl,_,rfl,p0,cs,h,m,dp,rfl,ad,lcs,by omega,by omega,by omega,by omega,fun pd H2 L w2 lr s32 lL=>hR0 _ _ ?_⟩;clear hR0 R0;generalize h.toNat=n at s32;obtain⟨mn,hmn⟩:∃mn:Nat,mn=m.toNat:=⟨_,rfl⟩
 have hmn':(mn:Int)=m:=by omega
 rw[<-hmn]at s32 lL;have ll:L.length<=130:=by omega
 have lD:(L.map Prod.snd).length=L.length:=Zh ..;obtain⟨rs,ols,pu⟩:=mW s32 (by rw[lD];exact ll);have lds:((L.map Prod.snd).map toD).length<=300:=by rw[Zh,lD];omega
 obtain⟨tp,s32p⟩:=uk s32;clear w2 hS hlen ecs lcs;refine aq fun R0 hR0=>?_;refine⟨_,rfl,pd,L,rs,ols,rfl,lr,ll,by rw[pu.len,lD],pu.o0,pu.ol,fun i hi r hr=>?_,fun pp wl sl ud ys zs kvs H3 s3 epp ewl pwl esl psl eud uud=>hR0 _ _ ?_⟩
 ·have:=pu.pm i (by rw[lD];exact hi) r hr;rw[Yp]at this;exact this
 clear hR0 R0;have lr3:=lr.same s3;clear lr s3;refine aq fun R0 hR0=>?_;refine⟨_,rfl,pd,_,rfl,.inl (SqL.of lr3.1),fun p1 g1=>?_⟩;have w1:=ae g1 (.lst (aT L));refine⟨p1,_,_,rfl,ad,jn fun x hx=>(lr3.2 x hx).ts (Same.ts w1),lds,by rw[pu.tn];exact pu.safe,fun a1 ys1 rs2 H4 s4 ea1 pa1 run1=>?_⟩;rw[pu.tn]at run1;obtain rfl:=iZ (fun _=>rfl) run1 pu.run;have s34:=w1.trans s4;obtain⟨x1,x2,x3⟩:=cX (D:=fun r:Out=>woD (r.1,r.2.1)) ea1 pa1 fun v r hr h=>ml h (pu.ok r hr).1;obtain⟨x4,_,_⟩:=cX (D:=fun r:Out=>woD (r.1,r.2.1)) (s34 _ _ ewl) (Paired.mapP pwl fun _ _ (z:WoAt _ _ _)=>z.ts (Same.ts s34)) fun v r hr h=>ml h (pu.ok r hr).1;refine⟨_,rfl,pp,_,_,_,rfl,rfl,SqL.of (s34 _ _ epp),at0,_,_,x1,x4,x2,x2,_,rfl,?_⟩;rw[x3];refine aL (hR0 _ _ ?_);clear hR0 R0;have lr4:=lr3.same s34;have epp4:=s34 _ _ epp;have esl4:=s34 _ _ esl;have psl4:=Paired.mapP psl fun _ _ (z:SsAt _ _ _)=>z.ts (Same.ts s34);have eud4:=s34 _ _ eud;have uud4:=UsAt.ts uud (Same.ts s34);clear x1 x2 x3 x4 pa1 ea1 s4 s34 w1 g1 lr3 epp esl psl eud uud ewl pwl run1;refine aq fun R0 hR0=>?_;refine⟨_,rfl,pd,_,rfl,.inl (SqL.of lr4.1),fun p1 g1=>?_⟩;have w1:=ae g1 (.lst (aT L));refine⟨p1,_,_,rfl,ad,jn fun x hx=>(lr4.2 x hx).ts (Same.ts w1),lds,by rw[pu.tn];exact pu.safe,fun fa fys rs2 H5 s5 efa pfa run2=>hR0 _ _ ?_⟩;clear hR0 R0;rw[pu.tn]at run2;obtain rfl:=iZ (fun _=>rfl) run2 pu.run;have s45:=w1.trans s5;have okS:=wg pu.ok;obtain⟨x1,x2,x3⟩:=cX (D:=ssD) efa pfa fun v r hr h=>xp h (okS r hr);obtain⟨x4,_,_⟩:=cX (D:=ssD) (s45 _ _ esl4) (Paired.mapP psl4 fun _ _ (z:SsAt _ _ _)=>z.ts (Same.ts s45)) fun v r hr h=>xp h (okS r hr);have lr5:=lr4.same s45;have epp5:=s45 _ _ epp4;have eud5:=s45 _ _ eud4;have uud5:=UsAt.ts uud4 (Same.ts s45);clear s5 s45 w1 g1 lr4 epp4 esl4 psl4 eud4 uud4 run2;refine aq fun R0 hR0=>?_;refine⟨_,rfl,_,rfl,pp,_,_,_,rfl,rfl,SqL.of epp5,at1,_,_,x1,x4,x2,x2,_,rfl,?_⟩;rw[x3];clear x1 x2 x3 x4;refine aL ?_;refine⟨_,rfl,pp,_,_,_,rfl,rfl,SqL.of epp5,at2,ud,kvs,_,rfl,eud5,uud5,fun i q h=>tK (by have:=pu.ter;rw[lD]at this;exact this) i q h,fun o=>?_⟩;have npd:pd≠ud:=fun z=>by have:=lr5.1;rw[z,eud5]at this;cases this
 have npp:pp≠ud:=fun z=>by rw[z,eud5]at epp5;cases epp5
 have nfa:fa≠ud:=fun z=>by rw[z,eud5]at efa;cases efa
 have tF:TS H5 (upd H5 ud (.frz o (.dT kvs))):=fun b zs e=>by rw[af fun z=>by rw[z,eud5]at e;cases e];exact e
 have lr6:LR3 (upd H5 ud (.frz o (.dT kvs))) pd L:=⟨by rw[af npd];exact lr5.1,fun x hx=>(lr5.2 x hx).ts tF⟩
 have epp6:upd H5 ud (.frz o (.dT kvs)) pp=some (.lst [.ref wl,.ref sl,.ref ud]):=by rw[af npp];exact epp5
 have efa6:upd H5 ud (.frz o (.dT kvs)) fa=some (.lst fys):=by rw[af nfa];exact efa
 have pfa6:=Paired.mapP pfa fun _ _ (z:SsAt _ _ _)=>z.ts tF;have eud6:upd H5 ud (.frz o (.dT kvs)) ud=some (.frz o (.dT kvs)):=ad;have uud6:=UsAt.ts uud5 tF;generalize upd H5 ud (.frz o (.dT kvs))=H6 at lr6 epp6 efa6 pfa6 eud6 uud6 ⊢;clear lr5 epp5 efa pfa eud5 uud5 tF npd npp nfa;refine⟨_,rfl,hR0 _ _ ?_⟩;clear hR0 R0;refine aq fun R0 hR0=>?_;intro ug gug;have wug:=ae gug (.dT []);have eug:upd H6 ug (.dT []) ug=some (.dT []):=ad;generalize upd H6 ug (.dT [])=H7 at wug eug ⊢;refine hR0 _ _ ?_;clear hR0 R0;have lst:(aH rs2).length<=130:=by have:(aH rs2).length<=rs2.length:=List.length_filterMap_le _ _;have:=pu.len;omega
 have lfy:=ZO pfa6;refine aq fun R0 hR0=>?_;refine⟨_,rfl,fa,rfl,⟨_,SqL.of (wug _ _ efa6)⟩,?_⟩;refine gE (K:=K) (a:=fa) (xs:=fys) (fun i σ H'=>Same H6 H'/\∃(gvs:List (List Key×V)) (o8 o9:Option V),H' ug=some (.dT gvs)/\UsAt H' gvs (((aH rs2).take i).foldl jg [])/\gvs.length<=i/\σ=[some (.ref a),some (.int h),some (.int m),some (.bl dp),some (.ref pd),some (.ref pp),some (.ref fa),some (.ref ug),o8,o9])
  ⟨wug,[],none,none,eug,.nil,Ze _,rfl⟩ (fun i σ H' _ z=>SqL.of (z.1 _ _ efa6)) ?_ ?_
 ·rintro i v σ H' hv ⟨sm,gvs,o8,o9,e1,e2,e3,rfl⟩ DL hDL;obtain⟨r,hr',t,st,nv,rfl,d1,d2,d3⟩:=bu pfa6 hv;have hi:i<(aH rs2).length:=(Zw.mp hr').1;refine⟨t,_,rfl,SqT.of (sm _ _ d1),rfl,_,_,rfl,_,_,rfl,rfl,?_⟩;obtain⟨wd,nv',uv,rest,nn,u,f1,f2,f3,f4⟩:=BK (d3.ts (Same.ts sm));obtain⟨nb,rfl,hnb⟩:=id f2;refine vix rfl (SqT.of f1) at2 ⟨_,rfl,vix rfl (SqT.of f1) at1 ⟨ug,_,rfl,DPut.t (k:=nk nn) e1 hnb (aP (by omega)),hDL _ _ ?_⟩⟩;have tA:TS H' (upd H' ug (.dT (aE gvs (nk nn) uv))):=gS e1;have g2:UsAt (upd H' ug (.dT (aE gvs (nk nn) uv))) (aE gvs (nk nn) uv) (aG (((aH rs2).take i).foldl jg []) nn u):=eA (UsAt.ts e2 tA) (f3.ts tA);refine⟨aX sm gug,aE gvs (nk nn) uv,_,_,ad,?_,?_,rfl⟩
  ·rw[eK hr',List.foldl_append];show UsAt _ _ (jg _ r);rw[show r=(r.1,r.2)from rfl,f4];exact g2
  ·have:=bW g2;have:=eI (((aH rs2).take i).foldl jg []) nn u;have:=bW e2;omega
 rintro σ H' ⟨sm,gvs,o8,o9,e1,e2,e3,rfl⟩;refine hR0 _ _ ?_;clear hR0 R0;rw[lfy,Yy,pu.ups,lD]at e2;have uud7:=UsAt.ts uud6 (Same.ts sm);refine⟨_,rfl,_,rfl,pp,_,_,_,rfl,rfl,SqL.of (sm _ _ epp6),at2,ug,ud,gvs,kvs,rfl,rfl,.inl e1,.inr ⟨o,sm _ _ eud6⟩,by rw[bW e2,bW uud7],CO e2 uud7,_,rfl,bt ?_⟩;have lr7:=lr6.same sm;obtain⟨rs3,ols3,pu3⟩:=mW s32p (by rw[Zh,ZZ];omega);refine⟨_,rfl,_,rfl,_,rfl,pd,_,rfl,SqL.of lr7.1,fun ph gph=>?_⟩;rw[zR L m (by omega),<-hmn];have wph:=ae gph (.lst (aT (L.take mn)));have eph:upd H' ph (.lst (aT (L.take mn))) ph=some (.lst (aT (L.take mn))):=ad;have lr8:=lr7.same wph;generalize upd H' ph (.lst (aT (L.take mn)))=H8 at wph eph lr8 ⊢;have ept:(L.take mn).map Prod.snd=(List.range mn).map (bE dp n):=by rw[List.map_take];exact tp
 have dts:=jn (H:=H8) (L:=L.take mn) fun x hx=>lr8.2 x (List.mem_of_mem_take hx);rw[ept]at dts;refine⟨ph,_,_,rfl,eph,dts,by rw[Zh,Zh,ZZ];omega,by rw[pu3.tn];exact pu3.safe,fun a2 ys2 rs4 H9 s9 ea2 pa2 run4=>?_⟩;rw[pu3.tn]at run4;obtain rfl:=iZ (fun _=>rfl) run4 pu3.run;refine⟨_,rfl,_,rfl,by omega,by omega,?_⟩;refine mH (N:=mn) (fun i ys H'=>Same H9 H'/\Paired (WoAt H') ys ((List.range i).map fun k:Nat=>(((0,(k:Int)+1),"done",none):Out))) (by omega) (fun i ys H' z=>by rw[ZO z.2,Zh,ZZ]) ⟨Same.refl _,.nil⟩ (fun i ys H' hi _=>?_) (fun ys H' _=>?_) (fun i ys H1 x H2 hi z y A kA=>?_) (fun ys cA H1 z gA=>?_)
 ·show i<m.toNat;omega
 ·show m.toNat<=mn;omega
 ·obtain⟨sm2,pz⟩:=z;obtain⟨rfl,rfl⟩:=y;refine⟨_,rfl,_,_,rfl,rfl,sz rfl,fun t1 g1=>?_⟩;have y1:=ae g1 (.tup [.int 0,.int (0+(i:Int)+1)]);have z1:upd H2 t1 (.tup [.int 0,.int (0+(i:Int)+1)]) t1=some (.tup [.int 0,.int (0+(i:Int)+1)]):=ad;generalize upd H2 t1 (.tup [.int 0,.int (0+(i:Int)+1)])=B1 at y1 z1 ⊢;refine⟨sz rfl,fun t2 g2=>kA _ _ ?_⟩;have y2:=y1.trans (ae g2 (.tup [.ref t1,.str "done"]));refine⟨sm2.trans y2,?_⟩;rw[List.range_succ,ZU];rw[Int.zero_add]at z1;exact YD (Paired.mapP pz fun _ _ (z:WoAt _ _ _)=>z.ts (Same.ts y2)) ⟨t2,.ref t1,rfl,ad,t1,rfl,ae g2 _ _ _ z1⟩
 ·obtain⟨sm2,pz⟩:=z;have wA:=ae gA (.lst ys);have sA:=sm2.trans wA;obtain⟨x1,x2,x3⟩:=cX (D:=fun r:Out=>woD (r.1,r.2.1)) (sA _ _ ea2) (Paired.mapP pa2 fun _ _ (z:WoAt _ _ _)=>z.ts (Same.ts sA)) fun v r hr h=>ml h (pu3.ok r hr).1;obtain⟨x4,_,_⟩:=cX (D:=fun r:Out=>woD (r.1,r.2.1)) (ad:upd H1 cA (.lst ys) cA=some (.lst ys)) (Paired.mapP pz fun _ _ (z:WoAt _ _ _)=>z.ts (Same.ts wA)) fun v r hr h=>ml h (by
   obtain⟨k,_,rfl⟩:=Z2.mp hr;show PyData.strOk "done" = true;decide +kernel)
  have ew:((List.range mn).map fun k:Nat=>(((0,(k:Int)+1),"done",none):Out)).map (fun r:Out=>woD (r.1,r.2.1))=(List.range mn).map fun k:Nat=>woD ((0,(k:Int)+1),"done"):=by rw[List.map_map];rfl
  rw[ew,<-rc pu3]at x4;refine⟨_,_,x1,x4,x2,x2,?_⟩;rw[x3];exact hq _
end
def iN:Nat->(List Value->Prop)->Prop
 |0,p=>p []
 |n+1,p=>∀a,iN n fun us=>p (a::us)
theorem dQ:∀{n:Nat} {p:List Value->Prop},iN n p->∀us:List Value,us.length=n->p us
 |0,_,h,[],_=>h
 |_+1,_,h,a::us,e=>dQ (h a) us (Nat.succ.inj e)
section
variable{P:Program}{w:World}{K:PySem.W.Frag}{mg:Str->Option Value}{base h:Heap}{n m x q:Str}{st:Stmt}{C f:Addr}{k:Nat}{ps:List Str}{sp:Sp}{bm:List Value}
structure Bx(P:Program)(w:World)(K:PySem.W.Frag)(mg:Str->Option Value)(base h:Heap):Prop where
 X:K.In h
 G:h.Ns mainGlobals mg
def A1(K:PySem.W.Frag)(n:Str)(st:Stmt)(f:Addr):Prop:=PySem.W.nsIn K mainGlobals n=some (some (.ref f))/\∃fd,Fun K n n st f fd
def A2(K:PySem.W.Frag)(C:Addr)(m q:Str)(st:Stmt)(f:Addr):Prop:=PySem.W.findIn K (.ref C) m=some (some (.ref f))/\PySem.W.isFn K (.ref f)=true/\∃fd,Fun K m q st f fd
def AF(K:PySem.W.Frag):List (Str×Stmt×Addr)->Prop
 | []=>True
 |(n,st,f)::l=>A1 K n st f/\AF K l
def AM(K:PySem.W.Frag):List (Addr×Str×Str×Stmt×Addr)->Prop
 | []=>True
 |(C,m,q,st,f)::l=>A2 K C m q st f/\AM K l
def AN(p:Str->Prop):List Str->Prop
 | []=>True
 |n::l=>p n/\AN p l
theorem anI{p p':Str->Prop}(i:∀{n},p n->p' n):∀{l:List Str},AN p l->AN p' l
 | [],_=>True.intro
 |_::_,h=>⟨i h.1,anI i h.2⟩
theorem gf{l:List (Str×Stmt×Addr)}{oc kV dc pm cd ct:Value}{od an:Option Addr}{sl:Array (Option Value)}(a:PySem.W.nsIn K mainGlobals n=some (some (.ref f)))(b:K.lookup f=some ⟨oc,od,.func (PySem.W.fnOf n n (bv st) (aY st) (aj st) .none kV dc pm an cd ct),sl⟩)(c:PySem.W.codeIn K cd n=true)(d:PySem.W.keepIn K (.ref f)=true)(r:AF K l):AF K ((n,st,f)::l):=⟨⟨a,_,sj b c d⟩,r⟩
theorem gm{l:List (Addr×Str×Str×Stmt×Addr)}{oc kV dc pm cd ct:Value}{od an:Option Addr}{sl:Array (Option Value)}(a:PySem.W.findIn K (.ref C) m=some (some (.ref f)))(i:PySem.W.isFn K (.ref f)=true)(b:K.lookup f=some ⟨oc,od,.func (PySem.W.fnOf m q (bv st) (aY st) (aj st) .none kV dc pm an cd ct),sl⟩)(c:PySem.W.codeIn K cd q=true)(d:PySem.W.keepIn K (.ref f)=true)(r:AM K l):AM K ((C,m,q,st,f)::l):=⟨⟨a,i,_,sj b c d⟩,r⟩
theorem gn{l:List Str}(a:PySem.W.nsIn K mainGlobals n=some none)(r:AN (fun n=>PySem.W.nsIn K mainGlobals n=some none) l):AN (fun n=>PySem.W.nsIn K mainGlobals n=some none) (n::l):=⟨a,r⟩
theorem mkF(B:Bx P w K mg base h)(A:A1 K n st f)(ok:∀{fd},Fun K n n st f fd->FnOk P w K mg base CX0 k f fd ps sp)(hb:∀(kV doc pm:Value) (an:Option Addr) (cdv ct:Value),iN ps.length fun us=>bindArgs (PySem.W.fnOf n n (bv st) (aY st) (aj st) .none kV doc pm an cdv ct) ⟨us,[]⟩=pure (ps.zip us):=by(repeat intro _);rfl):Fn P w K mg base k n ps sp:=by obtain⟨a,fd,F⟩:=A;exact⟨f,fd,ok F,Yi B.X B.G a,F.kp,F.binds fun a b c d e g=>dQ (hb a b c d e g)⟩
theorem mkM(B:Bx P w K mg base h)(L:Cls K C)(A:A2 K C m q st f)(ok:∀{fd},Fun K m q st f fd->FnOk P w K mg base CX0 k f fd ps sp)(hb:∀(kV doc pm:Value) (an:Option Addr) (cdv ct:Value),iN ps.length fun us=>bindArgs (PySem.W.fnOf m q (bv st) (aY st) (aj st) .none kV doc pm an cdv ct) ⟨us,[]⟩=pure (ps.zip us):=by(repeat intro _);rfl):MFn P w K mg base k C m ps sp:=by obtain⟨a,i,fd,F⟩:=A;exact⟨L,f,fd,ok F,⟨a,i,F.kp⟩,F.binds fun a b c d e g=>dQ (hb a b c d e g)⟩
theorem mkX(B:Bx P w K mg base h)(L:Cls K C)(A:A2 K C m q st f)(ok:∀{fd},Fun K m q st f fd->FnOk P w K mg base (CXr P w) k f fd ps sp)(hb:∀(kV doc pm:Value) (an:Option Addr) (cdv ct:Value),iN ps.length fun us=>bindArgs (PySem.W.fnOf m q (bv st) (aY st) (aj st) .none kV doc pm an cdv ct) ⟨us,[]⟩=pure (ps.zip us):=by(repeat intro _);rfl):MFnX P w K mg base k C m ps sp:=by obtain⟨a,i,fd,F⟩:=A;exact⟨L,f,fd,ok F,⟨a,i,F.kp⟩,F.binds fun a b c d e g=>dQ (hb a b c d e g)⟩
theorem mkC(B:Bx P w K mg base h)(L:Cls K C)(g:mg x=some (.ref C))(mk:PySem.W.makesIn K C=true)(kc:PySem.W.keepIn K (.ref C)=true)(A:A2 K C "__init__" q st f)(ok:∀{fd},Fun K "__init__" q st f fd->FnOk P w K mg base CX0 k f fd ps sp)(hb:∀(kV doc pm:Value) (an:Option Addr) (cdv ct:Value),iN ps.length fun us=>bindArgs (PySem.W.fnOf "__init__" q (bv st) (aY st) (aj st) .none kV doc pm an cdv ct) ⟨us,[]⟩=pure (ps.zip us):=by(repeat intro _);rfl):MkFn P w K mg base k C x ps sp:=by obtain⟨a,i,fd,F⟩:=A;exact⟨L,g,f,fd,ok F,⟨mk,a,i,kc⟩,F.binds fun a b c d e g=>dQ (hb a b c d e g)⟩
theorem mkE(B:Bx P w K mg base h)(e:ExcAtI K C f bm)(A:A2 K C m q st f)(ok:∀{fd},Fun K m q st f fd->FnOk P w K mg base CX0 k f fd ps sp)(hb:∀(kV doc pm:Value) (an:Option Addr) (cdv ct:Value),iN ps.length fun us=>bindArgs (PySem.W.fnOf m q (bv st) (aY st) (aj st) .none kV doc pm an cdv ct) ⟨us,[]⟩=pure (ps.zip us):=by(repeat intro _);rfl):ExI P w K mg base k C bm ps sp:=by obtain⟨a,i,fd,F⟩:=A;exact⟨f,fd,e,ok F,F.binds fun a b c d e g=>dQ (hb a b c d e g)⟩
end
theorem zJ{l:PySem.W.OpenLaw}{w:World}{K:PySem.W.Frag}{h:Heap}{mg:Str->Option Value}{fa f1 f2 f3 f4 f5 f6 f7 f8 f9 f10 f11 f12 f13 f14 f15 f16 f17 f18 f19 m1 m2 m3 m4 m5 m6 m7 m8 m9 m10 m11:Addr}{C_Plain:Addr}(X:K.In h)(G:h.Ns mainGlobals mg)(hfa:mg "law" = some (.ref fa)){tk_TEXT:Tok}{tk_UP:Tok}{ad_STEP_PARTS:Addr}{ad_FIRST_CHANGED:Addr}{c_NoItem c_LimbError c_Taken c_Beneath c_Far:Addr}(h_Plain:PySem.W.nsIn K mainGlobals "Plain" = some (some (.ref C_Plain)))(pg_Plain:PySem.W.plainGet K C_Plain Str.empty=true)(hd_Plain:PySem.W.hasDictIn K C_Plain=true)(po_Plain:PySem.W.plainOver K C_Plain=true)(sa_Plain:PySem.W.findIn K (.ref C_Plain) "__setattr__" = some (some (.builtin "object.__setattr__")))(mk_Plain:PySem.W.makesIn K C_Plain=true)(kc_Plain:PySem.W.keepIn K (.ref C_Plain)=true)(n_Plain_held:PySem.W.findIn K (.ref C_Plain) "held" = some none)(n_Plain_away:PySem.W.findIn K (.ref C_Plain) "away" = some none)(hc_NoItem:PySem.W.nsIn K mainGlobals "NoItem" = some (some (.ref c_NoItem)))(hc_Taken:PySem.W.nsIn K mainGlobals "Taken" = some (some (.ref c_Taken)))(hc_Beneath:PySem.W.nsIn K mainGlobals "Beneath" = some (some (.ref c_Beneath)))(hc_Far:PySem.W.nsIn K mainGlobals "Far" = some (some (.ref c_Far)))(hc_LimbError:PySem.W.nsIn K mainGlobals "LimbError" = some (some (.ref c_LimbError)))(zF:AF K (("step_parts",eG,f1)::("name_of",gP,f2)::("is_turn",gO,f3)::("turned_name",dI,f4)::("last_turns",eE,f5)::("is_off",ja,f6)::("step_of",gR,f7)::("word_of_step",cZ,f8)::("play",nL,f9)::("played",jb,f10)::("words_of",fZ,f11)::("steps_of",fY,f12)::("_law_cell_at",gN,f13)::("_law_order",kG,f14)::("_law_deeds",kF,f15)::("_law_under",kI,f16)::("_law_due",rg,f17)::("_law_no_ring",gQ,f18)::("law",im,f19)::[]))(zM:AM K ((c_NoItem,"__init__","NoItem.__init__",dG,m1)::(C_Plain,"__init__","Plain.__init__",eC,m2)::(C_Plain,"bring_in","Plain.bring_in",cz,m3)::(C_Plain,"change","Plain.change",cY,m4)::(C_Plain,"check_names","Plain.check_names",bQ,m5)::(C_Plain,"at_or_beneath","Plain.at_or_beneath",bG,m6)::(C_Plain,"check_bounds","Plain.check_bounds",bJ,m7)::(C_Plain,"part_item","Plain.part_item",iy,m8)::(C_Plain,"join_items","Plain.join_items",gM,m9)::(C_Plain,"holds","Plain.holds",dH,m10)::(C_Plain,"step","Plain.step",eD,m11)::[]))(zN:AN (fun n=>PySem.W.nsIn K mainGlobals n=some none) ("len"::"list"::"zip"::"range"::"max"::"sum"::"enumerate"::"tuple"::"int"::"sorted"::[]))(h_TEXT:PySem.W.nsIn K mainGlobals "TEXT" = some (some (.int 2 tk_TEXT)))(h_UP:PySem.W.nsIn K mainGlobals "UP" = some (some (.int 0 tk_UP)))(h_STEP_PARTS:PySem.W.nsIn K mainGlobals "STEP_PARTS" = some (some (.ref ad_STEP_PARTS)))(t_STEP_PARTS:PyProof.Rows.KTD.tabLook (gU K) (fun b=>K.lookup b) ad_STEP_PARTS ST=true)(h_FIRST_CHANGED:PySem.W.nsIn K mainGlobals "FIRST_CHANGED" = some (some (.ref ad_FIRST_CHANGED)))(t_FIRST_CHANGED:PyProof.Rows.KTD.tabLook (gU K) (fun b=>K.lookup b) ad_FIRST_CHANGED FC=true)(ii_NoItem:mL K c_NoItem m1=true)(im_NoItem:∃c d cd sl,K.lookup c_NoItem=some ⟨c,d,.cls cd,sl⟩/\cd.mro=Value.ref c_NoItem::Value.ref c_LimbError::VE)(if_NoItem:∃oI,K.lookup m1=some oI/\oI.cls=.type "function")(xx_Taken:PySem.W.excIn K c_Taken [.type "ValueError",.type "Exception",.type "BaseException",.type "object"] "ValueError.__new__" = true)(xm_Taken:∃c d cd sl,K.lookup c_Taken=some ⟨c,d,.cls cd,sl⟩/\cd.mro=Value.ref c_Taken::(Value.ref c_LimbError::VE))(xx_Beneath:PySem.W.excIn K c_Beneath [.type "ValueError",.type "Exception",.type "BaseException",.type "object"] "ValueError.__new__" = true)(xm_Beneath:∃c d cd sl,K.lookup c_Beneath=some ⟨c,d,.cls cd,sl⟩/\cd.mro=Value.ref c_Beneath::(Value.ref c_LimbError::VE))(xx_Far:PySem.W.excIn K c_Far [.type "ValueError",.type "Exception",.type "BaseException",.type "object"] "ValueError.__new__" = true)(xm_Far:∃c d cd sl,K.lookup c_Far=some ⟨c,d,.cls cd,sl⟩/\cd.mro=Value.ref c_Far::(Value.ref c_LimbError::VE))(e6:PySem.W.mroIn K c_NoItem (.type "object")=some true)(aN:PySem.W.findIn K (.ref c_NoItem) "name" = some none)(s1:PySem.W.findIn K (.ref c_NoItem) "__setattr__" = some (some (.builtin "object.__setattr__")))(s2:((PySem.W.clsIn K c_NoItem).any fun cd=>jI cd.mro&&cd.hasDict)=true)(nb:(Value.ref c_Beneath::Value.ref c_LimbError::VE).contains (.ref c_NoItem)=false)(nf:(Value.ref c_Far::Value.ref c_LimbError::VE).contains (.ref c_NoItem)=false)(fb:(Value.ref c_Far::Value.ref c_LimbError::VE).contains (.ref c_Beneath)=false)
  :∃fd:FuncData,(∀(s:Shared) (v:Value),BindsTo s fd ⟨[v],[]⟩ [("_law_script",v)])/\∀base:Heap,K.In base->base.Ns mainGlobals mg->FnOk l.prog w K mg base CX0 9 fa fd ["_law_script"] (me K):=by
 obtain⟨Af1,Af2,Af3,Af4,Af5,Af6,Af7,Af8,Af9,Af10,Af11,Af12,Af13,Af14,Af15,Af16,Af17,Af18,⟨a0,_,F0⟩,_⟩:=zF;obtain⟨Am1,Am2,Am3,Am4,Am5,Am6,Am7,Am8,Am9,Am10,Am11,_⟩:=zM;obtain⟨z_len,z_list,z_zip,z_range,z_max,z_sum,z_enumerate,z_tuple,z_int,z_sorted,_⟩:=anI (p':=fun n=>mg n=none) (fun z=>PySem.W.mg_none_of X G z) zN;have e:=hfa.symm.trans (Yi X G a0);cases e;obtain⟨oc,od,kV,dc,pm,an,cd,ct,sl,rfl,l0,c0⟩:=id F0.ex;have g_TEXT:=Yi X G h_TEXT;have g_UP:=Yi X G h_UP;have g_STEP_PARTS:=Yi X G h_STEP_PARTS;have g_FIRST_CHANGED:=Yi X G h_FIRST_CHANGED;have g_Plain:=Yi X G h_Plain;have L_Plain:Cls K C_Plain:=⟨pg_Plain,hd_Plain,po_Plain,sa_Plain⟩
 have X_Plain:Txt K C_Plain:=⟨L_Plain,n_Plain_held,n_Plain_away⟩
 have T_STEP_PARTS:Tab K ad_STEP_PARTS ST:=⟨t_STEP_PARTS⟩
 have T_FIRST_CHANGED:Tab K ad_FIRST_CHANGED FC:=⟨t_FIRST_CHANGED⟩
 have g_NoItem:=Yi X G hc_NoItem;have xo_NoItem:ExcAtI K c_NoItem m1 (Value.ref c_LimbError::VE):=⟨ii_NoItem,im_NoItem,by rw[YS];rfl,if_NoItem⟩
 have g_Taken:=Yi X G hc_Taken;have g_Beneath:=Yi X G hc_Beneath;have g_Far:=Yi X G hc_Far;have g_LimbError:=Yi X G hc_LimbError;have xo_Taken:ExcAt K c_Taken (Value.ref c_LimbError::VE):=⟨xx_Taken,xm_Taken,by rw[YS];rfl⟩
 have xo_Beneath:ExcAt K c_Beneath (Value.ref c_LimbError::VE):=⟨xx_Beneath,xm_Beneath,by rw[YS];rfl⟩
 have xo_Far:ExcAt K c_Far (Value.ref c_LimbError::VE):=⟨xx_Far,xm_Far,by rw[YS];rfl⟩
 have sN:ExS K c_NoItem:=⟨s1,s2,e6⟩
 have er:ErF K c_NoItem c_Beneath c_Far _ _ _:=⟨oU xo_NoItem,mK xo_Beneath,mK xo_Far,nb,nf,fb⟩
 refine⟨PySem.W.fnOf "law" "law" (bv im) (aY im) (aj im) .none kV dc pm an cd ct,fun s v=>.of_eq rfl,fun base _ _=>?_⟩;have B:Bx l.prog w K mg base h:=⟨X,G⟩
 have F_step_parts:=mkF B Af1 fun F=>lS F g_STEP_PARTS T_STEP_PARTS;have xi_NoItem:=mkE B xo_NoItem Am1 fun F=>kr F sN aN;have F_name_of:=mkF B Af2 fun F=>qW F;have Mk_Plain:=mkC B L_Plain g_Plain mk_Plain kc_Plain Am2 fun F=>lP F X_Plain;have M_bring_in:=mkM B L_Plain Am3 fun F=>ix F X_Plain;have M_change:=mkM B L_Plain Am4 fun F=>jG F X_Plain z_len;have MX_check_names:=mkX B L_Plain Am5 fun F=>fm F X_Plain F_step_parts z_zip (iP xo_Taken) g_Taken xi_NoItem g_NoItem;have M_at_or_beneath:=mkM B L_Plain Am6 fun F=>eZ F X_Plain g_UP;have MX_check_bounds:=mkX B L_Plain Am7 fun F=>fc F X_Plain M_at_or_beneath g_TEXT z_len (iP xo_Beneath) g_Beneath (iP xo_Far) g_Far;have M_part_item:=mkM (k:=1) (ps:=["self","name","at","new","place"]) B L_Plain Am8 fun _=>mM;have M_join_items:=mkM (k:=1) (ps:=["self","name","other"]) B L_Plain Am9 fun _=>mM;have M_holds:=mkM B L_Plain Am10 fun F=>ku F X_Plain;have MX_step:=mkX B L_Plain Am11 fun F=>kx F MX_check_names MX_check_bounds M_bring_in M_part_item M_join_items M_change g_FIRST_CHANGED T_FIRST_CHANGED;have F_is_turn:=mkF B Af3 fun F=>qV F;have F_turned_name:=mkF B Af4 fun F=>kz F;have F_last_turns:=mkF B Af5 fun F=>lQ F F_is_turn F_turned_name;have F_is_off:=mkF B Af6 fun F=>sP F F_name_of F_is_turn;have F_step_of:=mkF B Af7 fun F=>qY F F_name_of;have F_word_of_step:=mkF B Af8 fun F=>jH F MX_step er g_NoItem g_Beneath g_Far;have F_play:=mkF B Af9 fun F=>ye F M_holds MX_step F_step_of F_word_of_step;have F_played:=mkF B Af10 fun F=>sQ F F_last_turns F_is_turn F_name_of F_turned_name F_is_off F_play Mk_Plain;have F_words_of:=mkF B Af11 fun F=>oF F F_played;have F_steps_of:=mkF B Af12 fun F=>oE F F_played;have F_cell_at:=mkF B Af13 fun F=>qU F z_len;have F_order:=mkF B Af14 fun F=>vB F z_sum;have F_deeds:=mkF B Af15 fun F=>vA F F_order z_enumerate z_range z_max z_tuple z_int z_sorted;have F_under:=mkF B Af16 fun F=>vC F;have F_due:=mkF B Af17 fun F=>AA F F_under;have F_no_ring:=mkF B Af18 fun F=>qX F z_len;exact AB F0 F_cell_at F_deeds F_due F_no_ring F_words_of F_steps_of z_list z_range
theorem De{l:PySem.W.OpenLaw}{q:Program}{loose:List Str}{XP:(Str->Option Value)->Heap->Prop}{YP:World->Heap->Prop}{d:DefRec}{K:Params->PySem.W.Frag}(hn:l.most=some 63)(hdf:d.params.defaults=[])(hY:∀ (w:World) (h:Heap),YP w h->(K w.params).In h)(F:∀ (w:World) (mg:Str->Option Value) (fa:Addr) (h:Heap),(K w.params).In h->h.Ns mainGlobals mg->mg d.name=some (.ref fa) ->
   ∃ fd:FuncData,(∀ (s:Shared) (u:Value),BindsTo s fd ⟨[u],[]⟩ [("_law_script",u)])/\∀ base:Heap,(K w.params).In base->base.Ns mainGlobals mg->FnOk l.prog w (K w.params) mg base CX0 9 fa fd ["_law_script"] (me (K w.params))) :
  PySem.W.WalkO q loose XP YP l.row.toRowW d [] (fun f vs=>PySem.call f vs) :=
 L2.zm (n:=63) (k:=9) (x:="_law_script") (CX:=fun _=>CX0) (sp:=fun w=>me (K w.params)) hn (by decide) hdf ⟨rfl,by decide,by decide⟩ hY F (fun _ _ a ns hl _ hS=>⟨a,ns,rfl,hS,hl,fun _=>rfl⟩) fun _ _ _ _ _ z=>z
end K32
namespace PySem.W.Fast
def tw745514914687228652:=()
def tw9330997060225800926:=()
def tw16653749865911714384:=()
def tw1361660920936300868:=()
def tw12974256930525639398:=()
def tw2351942705866612771:=()
def tw5510558401744937980:=()
def tw1130279374602730109:=()
def tw8853427645881183477:=()
def tw10453893224036245394:=()
def tw15557512045513067441:=()
end PySem.W.Fast
open PySem PySem.W PyProof.Rows
set_option maxRecDepth 100000 in
set_option maxHeartbeats 0 in
theorem PySem.Challenge.cw_limb_k32_rings_give_way_holds : PySem.Challenge.rw_limb_k32_rings_give_way.Holds := by
  w_on; o_law; k_head; (case hw => w_witness2)
  k_fill
  refine K32.De (l := PySem.Challenge.rw_limb_k32_rings_give_way) rfl rfl (fun w h Y => PySem.W.kIn_of Y) ?F
  case F =>
    intro w mg fa h KX G hmg
    refine' K32.zJ KX G hmg ?h_Plain ?pg_Plain ?hd_Plain ?po_Plain ?sa_Plain ?mk_Plain ?kc_Plain ?n_Plain_held ?n_Plain_away ?hc_NoItem ?hc_Taken ?hc_Beneath ?hc_Far ?hc_LimbError ?zF ?zM ?zN ?h_TEXT ?h_UP ?h_STEP_PARTS ?t_STEP_PARTS ?h_FIRST_CHANGED ?t_FIRST_CHANGED ?ii_NoItem ?im_NoItem ?if_NoItem ?xx_Taken ?xm_Taken ?xx_Beneath ?xm_Beneath ?xx_Far ?xm_Far ?e6 ?aN ?s1 ?s2 ?nb ?nf ?fb
    (case h_Plain => k_is)
    (case pg_Plain => k_is)
    (case hd_Plain => k_is)
    (case po_Plain => k_is)
    (case sa_Plain => k_is)
    (case mk_Plain => k_is)
    (case kc_Plain => k_is)
    (case n_Plain_held => k_is)
    (case n_Plain_away => k_is)
    (case hc_NoItem => k_is)
    (case hc_Taken => k_is)
    (case hc_Beneath => k_is)
    (case hc_Far => k_is)
    (case hc_LimbError => k_is)
    (case zF => (repeat refine K32.gf (by k_is) (by k_is) (by k_is) (by k_is) ?_); exact True.intro)
    (case zM => (repeat refine K32.gm (by k_is) (by k_is) (by k_is) (by k_is) (by k_is) ?_); exact True.intro)
    (case zN => (repeat refine K32.gn (by k_is) ?_); exact True.intro)
    (case h_TEXT => k_is)
    (case h_UP => k_is)
    (case h_STEP_PARTS => k_is)
    (case t_STEP_PARTS => rfl)
    (case h_FIRST_CHANGED => k_is)
    (case t_FIRST_CHANGED => rfl)
    (case ii_NoItem => kernel_rfl)
    (case im_NoItem => exact ⟨_, _, _, _, rfl, rfl⟩)
    (case if_NoItem => exact ⟨_, rfl, rfl⟩)
    (case xx_Taken => k_exc)
    (case xm_Taken => exact ⟨_, _, _, _, rfl, rfl⟩)
    (case xx_Beneath => k_exc)
    (case xm_Beneath => exact ⟨_, _, _, _, rfl, rfl⟩)
    (case xx_Far => k_exc)
    (case xm_Far => exact ⟨_, _, _, _, rfl, rfl⟩)
    (case e6 => k_is)
    (case aN => k_is)
    (case s1 => k_is)
    (case s2 => rfl)
    (case nb => rfl)
    (case nf => rfl)
    (case fb => rfl)
