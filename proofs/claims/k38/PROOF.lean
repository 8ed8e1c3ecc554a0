import PyProof.Rows.All
import Wide.All
import OpenK.AllK
import Wide.FinOn
import PyProof.EqAt
import PyProof.EqKinds
import PyProof.TupleCall
import Lean
import PySem.Challenge.RW_limb_k38_kept_and_off
def Za:=@PySem.wpAny_bind
def Zb:=@PySem.Heap.get?_push_of_some
def Zd:=@List.getElem?_eq_getElem
def Ze:=@Nat.le_refl
def Zf:=@List.length_map
def Zg:=@List.getD_eq_getElem?_getD
def Zh:=@PySem.wpAny_pure
def Zi:=@List.size_toArray
def Zj:=@PyProof.Rows.wpS_bind
def Zk:=@List.length_append
def Zl:=@List.mem_cons
def Zm:=@List.length_cons
def Zn:=@PySem.Heap.lt_size
def Zo:=@PySem.Heap.get?_push_size
def Zq:=@PyProof.Rows.wpS_pure
def Zr:=@Bool.false_ne_true
def Zs:=@List.mem_singleton
def Zt:=@List.mem_cons_of_mem
def Zu:=@Option.some.inj
def Zv:=@List.mem_cons_self
def Zw:=@List.map_cons
def Zx:=@List.getElem?_eq_some_iff
def Zy:=@List.getElem_mem
def Zz:=@Array.length_toList
def ZA:=@List.getElem?_map
def ZB:=@Nat.lt_of_lt_of_le
def ZC:=@List.not_mem_nil
def ZD:=@Nat.ne_of_lt
def ZE:=@List.mem_map
def ZF:=@List.mem_append
def ZG:=@List.pairwise_append
def ZH:=@List.pairwise_iff_getElem
def ZI:=@Nat.le_trans
def ZJ:=@List.append_assoc
def ZK:=@Bool.and_eq_true
def ZL:=@List.append_nil
def ZM:=@List.length_take
def ZN:=@List.take_length
def ZO:=@List.map_append
def ZP:=@List.mem_iff_getElem
def ZQ:=@List.mem_append_right
def ZR:=@Array.toList_append
def ZS:=@PySem.wpAny_mono
def ZT:=@List.take_append_drop
def ZU:=@List.lookup_cons
def ZV:=@PySem.Paired.length
def ZW:=@congrArg
def ZX:=@List.take_of_length_le
def ZY:=@Option.isSome_iff_exists
def ZZ:=@PySem.wpAny_field
def Z0:=@beq_iff_eq
def Z1:=@List.take_sublist
def Z2:=@Nat.lt_or_ge
def Z3:=@PySem.wpAny_holding
def Z4:=@List.getElem?_append_right
def Z5:=@List.length_drop
def Z6:=@or_false
def Z7:=@PySem.wpAny_callSpecial?_slot
def Z8:=@Nat.add_sub_cancel_left
def Z9:=@Nat.ne_of_gt
def y0:=@Nat.zero_le
def y8:=@PySem.Heap.get?_update_other
def y9:=@Ne.symm
def Ya:=@Bool.false_and
def Yb:=@List.mem_filter
def Yc:=@PySem.PassesOwn.never
def Yd:=@PyProof.Rows.wpS_forRange
def Ye:=@List.length_replicate
def Yf:=@List.length_singleton
def Yg:=@PySem.wpAny_newObj_type
def Yh:=@PyProof.Rows.slot_tuple_getitem
def Yi:=@PyProof.Rows.wpS_mono
def Yj:=@Array.map_append
def Yk:=@Nat.succ_le_succ
def Yl:=@List.map_map
def Ym:=@Bool.and_false
def Yn:=@Array.getD_eq_getD_getElem?
def Yo:=@List.mem_of_getElem?
def Yp:=@PySem.W.mg_of
def Yq:=@PySem.Heap.size_push
def Yr:=@PySem.Paired.snoc
def Ys:=@List.flatten_cons
def Yt:=@List.drop_sublist
def Yu:=@List.pairwise_map
def Yv:=@PySem.Heap.SameBut.update
def Yw:=@List.drop_eq_getElem_cons
def Yx:=@PySem.Heap.get?_update_self
def Yy:=@PySem.wpAny_call_entry
def Yz:=@List.filter_append
def YA:=@Int.emod_lt_of_pos
def YB:=@List.sum_cons
def YC:=@PySem.wpAny_rule
def YD:=@Array.size_map
def YE:=@List.mem_of_mem_take
def YF:=@PyProof.Rows.callWith_type1
def YG:=@List.length_set
def YH:=@List.nil_append
def YI:=@Int.emod_nonneg
def YJ:=@PySem.mem_of_lookup
def YK:=@List.replicate_succ
def YL:=@Nat.lt_irrefl
def YM:=@List.all_eq_true
def YN:=@List.mem_filterMap
def YO:=@PySem.Obj.data_mapFields
def YQ:=@List.getElem?_append_left
def YR:=@List.find?_cons
def YS:=@PySem.F.slot_zip_next
def YT:=@PySem.AutoSeq1.wpAny_loadPart'
def YU:=@Nat.min_eq_left
def YV:=@PySem.wpAny_loadPart_at
def YW:=@List.all_cons
def YX:=@Bool.true_and
def YY:=@List.getElem?_replicate
def YZ:=@beq_eq_false_iff_ne
def Y0:=@List.toList_toArray
def Y1:=@List.mem_range
def Y2:=@PySem.wpAny_seqItems
def Y3:=@Option.map_eq_some_iff
def Y4:=@List.drop_of_length_le
def Y5:=@List.contains_cons
def Y6:=@List.any_cons
def Y7:=@Bool.eq_false_iff
def Y8:=@Option.some.injEq
set_option Elab.async false
set_option linter.all false
set_option maxRecDepth 100000
set_option maxHeartbeats 2000000
local macro_rules | `(tactic| omega) => `(tactic| first | with_reducible first | assumption | exact Nat.le_of_lt (by assumption) | exact Nat.le_refl _ | exact Nat.lt_add_one _ | exact Nat.le_trans (by assumption) (by decide) | exact Nat.lt_of_lt_of_le (by assumption) (by decide) | exact Nat.sub_lt_sub_left (by assumption) (Nat.lt_add_one _) | exact Nat.le_antisymm (by assumption) (Nat.le_of_not_lt (by assumption)) | lia)
namespace L2
open PySem PySem.Spec PyProof.Rows
abbrev Key:=Sum Int Str
def kZ:Key->Value->Bool
 |.inl k,v=>Value.isInt k v
 |.inr x,v=>Value.isStrOf x v
def Ie(w:World):Key->Int
 |.inl k=>hashInt k
 |.inr x=>hashStr w x
theorem bM:∀{k:Key} {v:Value},kZ k v=true->(∃i t,k=Sum.inl i/\v=Value.int i t)\/(∃x t,k=Sum.inr x/\v=Value.str x t)
 |.inl i,v,h=>by obtain⟨t,e⟩:=Value.isInt_shape (k:=i) (v:=v) h;exact .inl ⟨i,t,rfl,e⟩
 |.inr x,v,h=>by obtain⟨t,e⟩:=Value.isStrOf_shape (x:=x) (v:=v) h;exact .inr ⟨x,t,rfl,e⟩
theorem yp(i:Int)(t:Tok):kZ (.inl i) (.int i t)=true:=by simp[kZ,Value.isInt]
theorem yq(x:Str)(t:Tok):kZ (.inr x) (.str x t)=true:=by simp[kZ,Value.isStrOf]
theorem EQ(a b:Int):decide ((Sum.inl a:Key)=Sum.inl b)=(a==b):=by
 by_cases e:a=b
 ·subst e;simp
 ·have h:¬(Sum.inl a:Key)=Sum.inl b:=fun q=>e (Sum.inl.inj q);rw[decide_eq_false h];exact(YZ.mpr e).symm
theorem ET(a b:Str):decide ((Sum.inr a:Key)=Sum.inr b)=decide (a=b):=by
 by_cases e:a=b
 ·subst e;simp
 ·have h:¬(Sum.inr a:Key)=Sum.inr b:=fun q=>e (Sum.inr.inj q);rw[decide_eq_false h,decide_eq_false e]
theorem ER(a:Int)(b:Str):decide ((Sum.inl a:Key)=Sum.inr b)=false:=decide_eq_false (fun q=>nomatch q)
theorem ES(a:Str)(b:Int):decide ((Sum.inr a:Key)=Sum.inl b)=false:=decide_eq_false (fun q=>nomatch q)
def bw(prog:Program)(w:World):PySem.KeyKind prog w Key where
 is:=kZ
 hash:=Ie w
 inj:=fun v a b ha hb=>by
  rcases bM ha with⟨i,t,rfl,rfl⟩|⟨x,t,rfl,rfl⟩
  ·rcases bM hb with⟨j,u,rfl,e⟩|⟨y,u,rfl,e⟩
   ·injection e with e1 _;rw[e1]
   ·exact nomatch e
  ·rcases bM hb with⟨j,u,rfl,e⟩|⟨y,u,rfl,e⟩
   ·exact nomatch e
   ·injection e with e1 _;rw[e1]
 byValue:=fun k v h=>by rcases bM h with⟨i,t,rfl,rfl⟩|⟨x,t,rfl,rfl⟩<;>rfl
 pyHash:=fun hv h=>by
  rcases bM hv with⟨i,t,rfl,rfl⟩|⟨x,t,rfl,rfl⟩
  ·exact wpAny_pyHash_int h
  ·exact wpAny_pyHash_str h
 eqBool:=fun hu hv h=>by
  rcases bM hu with⟨i,t,rfl,rfl⟩|⟨x,t,rfl,rfl⟩
  ·rcases bM hv with⟨j,u,rfl,rfl⟩|⟨y,u,rfl,rfl⟩
   ·rw[EQ]at h;exact wpAny_eqBool_int h
   ·rw[ER]at h;exact SeqAt.EqAt.int_str i t y u _ _ _ _ h
  ·rcases bM hv with⟨j,u,rfl,rfl⟩|⟨y,u,rfl,rfl⟩
   ·rw[ES]at h;exact SeqAt.EqAt.str_int x t j u _ _ _ _ h
   ·rw[ET]at h;exact wpAny_eqBool_str h
 «strs»:=fun k x t v h=>by
  rcases bM h with⟨i,u,rfl,e⟩|⟨y,u,rfl,e⟩
  ·exact nomatch e
  ·injection e with e1 _;subst e1;cases v<;>rfl
theorem uA(prog:Program)(w:World)(i:Int)(t:Tok):(bw prog w).is (.inl i) (.int i t)=true:=yp i t
theorem uB(prog:Program)(w:World)(x:Str)(t:Tok):(bw prog w).is (.inr x) (.str x t)=true:=yq x t
open PySem PySem.Spec PyProof.Rows
inductive V where
 |non|bl (b:Bool)|int (i:Int)|str (x:Str)|byt (b:Array UInt8)|flt (b:UInt64)|ref (a:Addr)|ty (n:String)
 deriving DecidableEq
def RelV:V->Value->Prop
 |.non,u=>u=Value.none
 |.bl b,u=>u=Value.bool b
 |.int i,u=>∃t,u=Value.int i t
 |.str x,u=>∃t,u=Value.str x t
 |.byt b,u=>∃t,u=Value.bytes b t
 |.flt b,u=>∃t,u=Value.float b t
 |.ref a,u=>u=Value.ref a
 |.ty n,u=>u=Value.type n
abbrev Vals:List V->List Value->Prop:=Paired RelV
theorem Vals.length{xs:List V}{us:List Value}(r:Vals xs us):xs.length=us.length:=ZV r
theorem Vals.get:∀{xs:List V} {us:List Value} {i:Nat} {x:V},Vals xs us->xs[i]?=some x->∃u,us[i]?=some u/\RelV x u
 |_,_,_,_,.nil,e=>by simp at e
 |_,_,0,_,.cons r _,e=>by simp at e;subst e;exact⟨_,rfl,r⟩
 |_,_,i+1,x,.cons _ t,e=>by obtain⟨u,h1,h2⟩:=Vals.get (i:=i) (x:=x) t (by simpa using e);exact⟨u,by simpa using h1,h2⟩
theorem Vals.set{x:V}{u:Value}(r:RelV x u):∀{xs:List V} {us:List Value} (i:Nat),Vals xs us->Vals (xs.set i x) (us.set i u)
 |_,_,_,.nil=>.nil
 |_,_,0,.cons _ t=>.cons r t
 |_,_,i+1,.cons q t=>.cons q (Vals.set r i t)
theorem Vals.append:∀{xs ys:List V} {us ws:List Value},Vals xs us->Vals ys ws->Vals (xs++ys) (us++ws)
 |_,_,_,_,.nil,s=>s
 |_,_,_,_,.cons r t,s=>.cons r (Vals.append t s)
theorem Vals.take:∀{xs:List V} {us:List Value} (n:Nat),Vals xs us->Vals (xs.take n) (us.take n)
 |_,_,0,_=>.nil
 |_,_,_+1,.nil=>.nil
 |_,_,n+1,.cons r t=>.cons r (Vals.take n t)
theorem Vals.drop:∀{xs:List V} {us:List Value} (n:Nat),Vals xs us->Vals (xs.drop n) (us.drop n)
 |_,_,0,r=>r
 |_,_,_+1,.nil=>.nil
 |_,_,n+1,.cons _ t=>Vals.drop n t
def RelO:Option V->Option Value->Prop
 |some v,some u=>RelV v u
 |none,none=>True
 |_,_=>False
def KV{κ:Type}:List (κ×V)->List (κ×Value)->Prop:=Paired fun(p:κ×V) (q:κ×Value)=>p.1=q.1/\RelV p.2 q.2
def kV:Key->V
 |.inl i=>.int i
 |.inr x=>.str x
inductive HO where
 |lst (xs:List V)
 |tup (xs:List V)
 |dK (kvs:List (Key×V))|dT (kvs:List (List Key×V))
 |set (S:Int->Bool)(n:Nat)
 |ins (C dx:Addr)(fs:List (Str×V))
 |own (x:Addr)
 |xd (fs:List (Str×V))
 |met (f x:Addr)
 |rng (lo hi:Int)
 |frz (o:Obj)(u:HO)
 |tbl (ps:Array Value)
 |ext (φ:Heap->Prop)
abbrev Hp:=Addr->Option HO
def upd(H:Hp)(a:Addr)(o:HO):Hp:=fun b=>if b=a then some o else H b
theorem ae{H:Hp}{a:Addr}{o:HO}:upd H a o a=some o:=by unfold upd;rw[if_pos rfl]
theorem ah{H:Hp}{a b:Addr}{o:HO}(h:b≠a):upd H a o b=H b:=by unfold upd;rw[if_neg h]
theorem cM{H:Hp}{a b:Addr}{o u:HO}(h:H a=some o)(h':H b=some u)(d:o≠u):a≠b:=by intro e;subst e;rw[h]at h';exact d (Zu h')
theorem au{H:Hp}{a b:Addr}{o:HO}(h:H a=some o)(h':H b=none):a≠b:=by intro e;subst e;rw[h]at h';cases h'
section
variable(P:Program)(w:World)
def ObjOk(H:Hp)(h:Heap)(a:Addr):HO->Prop
 |.lst xs=>xs.length<=sizeLine/\∃(its:List Value) (n:Nat),Vals xs its/\h.get? a=some { cls:=.type "list",data:=.seq its.toArray n }
 |.tup xs=>xs.length<=sizeLine/\∃its:List Value,Vals xs its/\IsTup h a its.toArray
 |.dK kvs=>kvs.length<=sizeLine/\(a==sysModules)=false/\∃vs,KV kvs vs/\h.DictOf (bw P w) a vs
 |.dT kvs=>kvs.length<=sizeLine/\(a==sysModules)=false/\∃xs:List (List Key×Addr×Value),
   Paired (fun(p:List Key×V) (q:List Key×Addr×Value)=>p.1=q.1/\H q.2.1=some (.tup (p.1.map kV))/\RelV p.2 q.2.2) kvs xs /\
   ∃o es ep,h.get? a=some o/\o.ExactDict/\o.data=.dict es ep/\es.toList=xs.map (entryOfKey (tupleKind (bw P w)))/\(xs.map (·.1)).Nodup
 |.set S n=>h.SetOf (intKind P w) a S n
 |.ins C dx fs=>H dx=some (.own a)/\fs.length<=1000/\dx≠a/\h.get? a=some (PySem.W.instObj C dx) /\
   ∃mA,h.Ns1 dx mA/\(∀f,RelO (fs.lookup f) (mA f))/\PySem.Within mA (fs.map (·.1))
 |.own _=>∃o,h.get? a=some o
 |.xd fs=>∃mA,h.Ns1 a mA/\∀f,RelO (fs.lookup f) (mA f)
 |.rng lo hi=>∃t u v,h.get? a=some { cls:=.type "range",data:=.fields #[.int lo t,.int hi u,.int 1 v] }
 |.frz o u=>h.get? a=some o/\ObjOk H h a u
 |.tbl ps=>h.get? a=some { cls:=.none,data:=.fields ps }
 |.met f x=>h.get? a=some (PySem.W.methodObj (.ref f) (.ref x))
 |.ext φ=>φ h/\(∃o,h.get? a=some o)/\∀h1 h2:Heap,φ h1->(∀o,h1.get? a=some o->h2.get? a=some o)->φ h2
def HOk(H:Hp)(h:Heap):Prop:=∀a o,H a=some o->ObjOk P w H h a o
end
section
variable{P:Program}{w:World}{H H':Hp}{h h':Heap}{a:Addr}{o:HO}
theorem ObjOk.lt(x:ObjOk P w H h a o):a<h.objs.size:=by
 cases o with
 |lst xs=>obtain⟨_,_,_,_,e⟩:=x;exact Zn e
 |tup xs=>obtain⟨_,_,_,p⟩:=x;exact p.lt
 |dK kvs=>obtain⟨_,_,_,_,o,_,_,e,_⟩:=x;exact Zn e
 |dT kvs=>obtain⟨_,_,_,_,o,_,_,e,_⟩:=x;exact Zn e
 |set S n=>obtain⟨o,_,_,_,e,_⟩:=x;exact Zn e
 |ins C dx fs=>obtain⟨_,_,_,e,_⟩:=x;exact Zn e
 |own y=>obtain⟨_,e⟩:=x;exact Zn e
 |xd fs=>obtain⟨_,⟨_,_,_,e,_⟩,_⟩:=x;exact Zn e
 |rng lo hi=>obtain⟨_,_,_,e⟩:=x;exact Zn e
 |frz ob u=>obtain⟨e,_⟩:=x;exact Zn e
 |tbl ps=>exact Zn (show h.get? a=some _ from x)
 |met f y=>exact Zn (show h.get? a=some _ from x)
 |ext φ=>obtain⟨_,⟨_,e⟩,_⟩:=x;exact Zn e
theorem Paired.mapP{α β:Type}{F G:α->β->Prop}:∀{l₁:List α} {l₂:List β},Paired F l₁ l₂->(∀a b,F a b->G a b)->Paired G l₁ l₂
 |_,_,.nil,_=>.nil
 |_,_,.cons r t,f=>.cons (f _ _ r) (Paired.mapP t f)
theorem ObjOk.stay(x:ObjOk P w H h a o)(k:∀b u,(b=a\/H b=some (.own a))->h.get? b=some u->h'.get? b=some u)(ho:∀b,H b=some (.own a)->H' b=some (.own a))(ht:∀b xs,H b=some (.tup xs)->H' b=some (.tup xs)):ObjOk P w H' h' a o:=by
 induction o with
 |lst xs=>obtain⟨z,its,n,r,e⟩:=x;exact⟨z,its,n,r,k _ _ (.inl rfl) e⟩
 |tup xs=>obtain⟨z,its,r,ob,e,c⟩:=x;exact⟨z,its,r,ob,k _ _ (.inl rfl) e,c⟩
 |dK kvs=>obtain⟨z,y,vs,r,ob,es,ep,e,c⟩:=x;exact⟨z,y,vs,r,ob,es,ep,k _ _ (.inl rfl) e,c⟩
 |dT kvs =>obtain⟨z,y,xs,r,ob,es,ep,e,c⟩:=x;exact⟨z,y,xs,Paired.mapP r fun p q z=>⟨z.1,ht _ _ z.2.1,z.2.2⟩,ob,es,ep,k _ _ (.inl rfl) e,c⟩
 |set S n=>obtain⟨ob,es,ep,t,e,c⟩:=x;exact⟨ob,es,ep,t,k _ _ (.inl rfl) e,c⟩
 |ins C dx fs =>obtain⟨d,z,ne,e,mA,⟨od,es,ep,e2,c⟩,r⟩:=x;exact⟨ho _ d,z,ne,k _ _ (.inl rfl) e,mA,⟨od,es,ep,k _ _ (.inr d) e2,c⟩,r⟩
 |own y=>obtain⟨ob,e⟩:=x;exact⟨ob,k _ _ (.inl rfl) e⟩
 |xd fs=>obtain⟨mA,⟨od,es,ep,e,c⟩,r⟩:=x;exact⟨mA,⟨od,es,ep,k _ _ (.inl rfl) e,c⟩,r⟩
 |rng lo hi=>obtain⟨t,u,v,e⟩:=x;exact⟨t,u,v,k _ _ (.inl rfl) e⟩
 |frz ob u ih=>obtain⟨e,q⟩:=x;exact⟨k _ _ (.inl rfl) e,ih q⟩
 |tbl ps =>have e:h.get? a=some { cls:=.none,data:=.fields ps }:=x;show h'.get? a=some { cls:=.none,data:=.fields ps };exact k a _ (.inl rfl) e
 |met f y =>have e:h.get? a=some (PySem.W.methodObj (.ref f) (.ref y)):=x;show h'.get? a=some (PySem.W.methodObj (.ref f) (.ref y));exact k a _ (.inl rfl) e
 |ext φ=>obtain⟨p,⟨o,e⟩,st⟩:=x;exact⟨st _ _ p fun o q=>k _ _ (.inl rfl) q,⟨o,k _ _ (.inl rfl) e⟩,st⟩
theorem HOk.lt(x:HOk P w H h)(e:H a=some o):a<h.objs.size:=(x a o e).lt
theorem HOk.fresh(x:HOk P w H h)(e:h.objs.size<=a):H a=none:=by
 cases q:H a with
 |none=>rfl
 |some u=>exact absurd (ZB (x.lt q) e) (YL _)
theorem HOk.kept(x:HOk P w H h)(k:∀b u,h.get? b=some u->h'.get? b=some u):HOk P w H h':=fun a o e =>
 (x a o e).stay (fun b u _ q=>k b u q) (fun _ q=>q) fun _ _ q=>q
theorem HOk.laid(x:HOk P w H h)(k:∀b u,h.get? b=some u->h'.get? b=some u)(hp:h.objs.size<=a)(new:ObjOk P w (upd H a o) h' a o):HOk P w (upd H a o) h':=fun b u e=>by
 have hn:=x.fresh hp;by_cases hb:b=a
 ·subst hb;rw[ae]at e;cases e;exact new
 ·rw[ah hb]at e;exact(x b u e).stay (fun c v _ q=>k c v q) (fun c q=>by rw[ah (au q hn)];exact q) fun c xs q=>by rw[ah (au q hn)];exact q
end
def Rd(H:Hp)(a:Addr)(u:HO):Prop:=H a=some u\/∃o,H a=some (.frz o u)
theorem Rd.of{H:Hp}{a:Addr}{u:HO}(h:H a=some u):Rd H a u:=.inl h
theorem Rd.ok{P:Program}{w:World}{H:Hp}{h:Heap}{a:Addr}{u:HO}(r:Rd H a u)(x:HOk P w H h):ObjOk P w H h a u:=by
 rcases r with r|⟨o,r⟩
 ·exact x a u r
 ·obtain⟨_,q⟩:=x a _ r;exact q
def Mut:Option HO->Prop
 |some (.lst _)=>True
 |some (.dK _)=>True
 |some (.dT _)=>True
 |some (.set _ _)=>True
 |some (.ins _ _ _)=>True
 |some (.ext _)=>True
 |_=>False
section
variable{P:Program}{w:World}{H:Hp}{h h':Heap}{x e:Addr}{o':HO}
theorem HOk.write(ok:HOk P w H h)(mu:Mut (H x))(he:e=x\/H e=some (.own x))(k:∀b u,b≠e->h.get? b=some u->h'.get? b=some u)(heo:∃u,h'.get? e=some u)(new:ObjOk P w (upd H x o') h' x o'):HOk P w (upd H x o') h':=fun b u q=>by
 have nown:∀c y,H c=some (.own y)->c≠x:=fun c y r z=>by subst z;rw[r]at mu;exact mu
 have ntup:∀c xs,H c=some (.tup xs)->c≠x:=fun c xs r z=>by subst z;rw[r]at mu;exact mu
 by_cases hb:b=x
 ·subst hb;rw[ae]at q;cases q;exact new
 ·rw[ah hb]at q;by_cases hbe:b=e
  ·have q':H b=some (.own x):=by
    rcases he with z|z
    ·exact absurd (hbe.trans z) hb
    ·rw[hbe];exact z
   rw[q]at q';cases q';obtain⟨v,hv⟩:=heo;exact⟨v,by rw[hbe];exact hv⟩
  ·refine(ok b u q).stay (fun c v hc r=>k c v ?_ r) (fun c r=>by rw[ah (nown c b r)];exact r) fun c xs r=>by rw[ah (ntup c xs r)];exact r
   rcases hc with rfl|hc
   ·exact hbe
   ·rintro rfl;rcases he with z|z
    ·exact nown c b hc z
    ·rw[hc]at z;cases z;exact hb rfl
end
structure Un(fs ex:List Addr)(H H':Hp)(h h':Heap):Prop where
 keep:∀b o,h.get? b=some o->H b=none->b∉fs->b∉ex->h'.get? b=some o
 slot:∀b o,h.get? b=some o->H b=none->b∈fs->b∉ex->∃sl,h'.get? b=some { o with slots:=sl }
 free:∀b o,h.get? b=some o->H b=none->b∉ex->H' b=none
 there:∀b o,h.get? b=some o->b∉ex->∃o',h'.get? b=some o'
 tups:∀b xs,H b=some (.tup xs)->H' b=some (.tup xs)
 frzs:∀b o u,H b=some (.frz o u)->H' b=some (.frz o u)
 tbls:∀b ps,H b=some (.tbl ps)->∃more,H' b=some (.tbl (ps++more))
section
variable{fs fs' ex ex':List Addr}{H H1 H2:Hp}{h h1 h2 h':Heap}{a x e:Addr}{o:HO}
theorem Un.any(u:Un fs ex H H1 h h1){b:Addr}{ob:Obj}(q:h.get? b=some ob)(n:H b=none)(hx:b∉ex):∃sl,h1.get? b=some { ob with slots:=sl }:=by
 by_cases hb:b∈fs
 ·exact u.slot b ob q n hb hx
 ·exact⟨ob.slots,u.keep b ob q n hb hx⟩
theorem Un.kept(k:∀b u,h.get? b=some u->h'.get? b=some u):Un fs ex H H h h' :=
 ⟨fun b ob q _ _ _=>k b ob q,fun b ob q _ _ _=>⟨ob.slots,k b ob q⟩,fun _ _ _ n _=>n,fun b ob q _=>⟨ob,k b ob q⟩,fun _ _ q=>q,fun _ _ _ q=>q,fun _ ps q=>⟨#[],by rw[q];simp⟩⟩
theorem Un.refl:Un fs ex H H h h:=Un.kept fun _ _ q=>q
theorem Un.laid(k:∀b u,h.get? b=some u->h'.get? b=some u)(hp:h.objs.size<=a)(hn:H a=none):Un fs ex H (upd H a o) h h' where
 keep:=fun b u q _ _ _=>k b u q
 slot:=fun b u q _ _ _=>⟨u.slots,k b u q⟩
 free:=fun b u q n _=>by rw[ah (ZD (ZB (Zn q) hp))];exact n
 there:=fun b u q _=>⟨u,k b u q⟩
 tups:=fun b xs q=>by rw[ah (au q hn)];exact q
 frzs:=fun b u xs q=>by rw[ah (au q hn)];exact q
 tbls:=fun b ps q=>⟨#[],by rw[ah (au q hn),q];simp⟩
theorem Un.write(mu:Mut (H x))(he:e=x\/H e=some (.own x))(k:∀b u,b≠e->h.get? b=some u->h'.get? b=some u)(heo:∃u,h'.get? e=some u):Un fs ex H (upd H x o) h h':=by
 have hx:∀b,H b=none->b≠x:=fun b n z=>by subst z;rw[n]at mu;exact mu
 have hb:∀b,H b=none->b≠e:=fun b n z=>by
  subst z;rcases he with r|r
  ·exact hx b n r
  ·rw[n]at r;cases r
 have hm:∀b u,H b=some u->¬Mut (some u)->b≠x:=fun b u q nm z=>by subst z;rw[q]at mu;exact nm mu
 refine⟨fun b u q n _ _=>k b u (hb b n) q,fun b u q n _ _=>⟨u.slots,k b u (hb b n) q⟩,fun b u q n _=>by rw[ah (hx b n)];exact n,fun b u q _=>?_,
  fun b xs q=>by rw[ah (hm b _ q fun z=>z)];exact q,fun b u xs q=>by rw[ah (hm b _ q fun z=>z)];exact q,fun b ps q=>⟨#[],by rw[ah (hm b _ q fun z=>z),q];simp⟩⟩
 by_cases hbe:b=e
 ·subst hbe;exact heo
 ·exact⟨u,k b u hbe q⟩
end
def trk(h:Heap)(H:Hp):List Addr:=(List.range h.objs.size).filter fun a=>(H a).isSome
def jF(h:Heap)(H:Hp):Heap:=PySem.W.hideAll h (trk h H)
theorem yk(h:Heap)(H:Hp):(jF h H).objs.size=h.objs.size:=PySem.W.hideAll_size _ _
theorem AB{h:Heap}{H:Hp}{b:Addr}{o:Obj}(e:h.get? b=some o)(n:H b=none):(jF h H).get? b=some o :=
 PySem.W.hideAll_get _ e fun hm=>by have q:(H b).isSome=true:=(Yb.mp hm).2;rw[n]at q;simp at q
theorem C9{h:Heap}{H:Hp}{b:Addr}{o:Obj}(e:(jF h H).get? b=some o):h.get? b=some o/\H b=none:=by
 have e':h.get? b=some o:=PySem.W.of_hideAll (trk h H) e;refine⟨e',?_⟩;cases q:H b with
 |none=>rfl
 |some x =>have hm:b∈trk h H:=Yb.mpr ⟨Y1.mpr (Zn e'),by simp[q]⟩;have z:(jF h H).get? b=none:=PySem.W.hideAll_none (trk h H) hm;rw[z]at e;cases e
open PySem PySem.Spec PyProof.Rows
structure Mod(K:PySem.W.Frag)(mg:Str->Option Value)(base:Heap):Prop where
 kin:K.In base
 glob:base.Ns mainGlobals mg
 blt:∃mb,base.Ns builtinsNs mb/\∀x:Str,x≠"__name__"->mb x=bootBuiltins x
 nolimit:base.NoLimit
structure Cx where
 prog:Program
 w:World
 K:PySem.W.Frag
 mg:Str->Option Value
 base:Heap
 A:Around
 N:List Str
 s₀:Shared
 H₀:Hp
 env:Env
 outer:List Env
 stack:List Env
 ex:List Addr
 fn:Str->Bool
 calm:Bool
 pn:List (Addr×Obj)
 xe:Value->Shared->Prop
def frs(l:List Env):List Addr:=l.filterMap (·.frame)
abbrev Cx.fs(X:Cx):List Addr:=frs X.outer
def Vis(sc:Scope)(x:Str):Prop:=sc.names.lookup x=some .local\/sc.names.lookup x=some .cell\/sc.names.lookup x=some .free
def Loc(sc:Scope)(x:Str):Prop:=sc.names.lookup x=some .local\/sc.names.lookup x=some .cell
def HX(env:Env)(h:Heap)(m:Str->Option Value)(x:Str)(u:Value):Prop :=
 (env.kindOf x=some .local/\m x=some u)\/((env.kindOf x=some .cell\/env.kindOf x=some .free)/\∃c,env.cells.lookup x=some c/\h.IsCell c (some u))
structure Cx.Ok(X:Cx):Prop where
 mod:Mod X.K X.mg X.base
 kind:X.env.scope.kind=.function
 glob:X.env.globals=mainGlobals
 blt:X.env.builtins=builtinsNs
 above:X.s₀.heap.objs.size<=X.env.locals
 inj:∀x y c,X.env.cells.lookup x=some c->X.env.cells.lookup y=some c->x=y
 has:∀x,(X.env.kindOf x=some .cell\/X.env.kindOf x=some .free)->∃c,X.env.cells.lookup x=some c
 cab:∀x c,X.fn x=true->X.env.cells.lookup x=some c->X.s₀.heap.objs.size<=c
 hd:X.calm=true->X.A.handled=none
 frames:X.A.frames=some X.stack
 stk:X.stack=X.outer\/(X.stack=X.env::X.outer/\X.env.frame=some X.env.locals)
 exf:∀b∈X.ex,b≠X.env.locals/\∀x c,X.env.cells.lookup x=some c->c≠b
 bs:∀b o,X.base.get? b=some o->X.s₀.heap.get? b=some o/\X.H₀ b=none
 bsz:X.base.objs.size<=X.s₀.heap.objs.size
 noex:∀b o,X.base.get? b=some o->b∉X.ex
 exfs:∀b∈X.ex,b∉X.fs
 funs:X.s₀.heap.FunFrames X.base X.outer
 frf:∀b∈X.fs,X.H₀ b=none
structure Inv(X:Cx)(pins:List (Addr×Obj))(σ:List (Option V))(H:Hp)(s:Shared):Prop where
 ok:X.Ok
 os:s.os=X.s₀.os
 bare:AllBare s.gens
 base:Un X.fs X.ex X.H₀ H X.s₀.heap s.heap
 loc:∃m,s.heap.Ns X.env.locals m/\∀(i:Nat) (x:Str) (v:V),X.N[i]?=some x->σ[i]?=some (some v)->Vis X.env.scope x->∃u,RelV v u/\HX X.env s.heap m x u
 cell:∀x c,X.env.cells.lookup x=some c->∃v,s.heap.IsCell c v
 free:H X.env.locals=none
 freeC:∀x c,X.env.cells.lookup x=some c->H c=none
 pin:∀p∈X.pn++pins,s.heap.get? p.1=some p.2/\H p.1=none/\p.1≠X.env.locals/\p.1∉X.fs/\∀v,p.2.data≠.cell v
 hok:HOk X.prog X.w H s.heap
 len:σ.length=X.N.length
section
variable{X:Cx}{pins:List (Addr×Obj)}{σ:List (Option V)}{H H':Hp}{s:Shared}{h':Heap}
theorem Cx.Ok.nofr(ok:X.Ok){b:Addr}{o:Obj}(e:X.base.get? b=some o):b∉X.fs:=fun hb=>by have:=(ok.funs.mem hb).1;rw[e]at this;cases this
theorem Inv.bs(I:Inv X pins σ H s):∀b o,X.base.get? b=some o->s.heap.get? b=some o/\H b=none:=fun b o e =>
 ⟨I.base.keep b o (I.ok.bs b o e).1 (I.ok.bs b o e).2 (I.ok.nofr e) (I.ok.noex b o e),I.base.free b o (I.ok.bs b o e).1 (I.ok.bs b o e).2 (I.ok.noex b o e)⟩
theorem Inv.bk(I:Inv X pins σ H s):∀b o,X.base.get? b=some o->s.heap.get? b=some o:=fun b o e=>(I.bs b o e).1
theorem Inv.mod(I:Inv X pins σ H s):Mod X.K X.mg X.base:=I.ok.mod
theorem Inv.kIn(I:Inv X pins σ H s):X.K.In s.heap:=I.ok.mod.kin.keeps I.bk
theorem Inv.nolimit(I:Inv X pins σ H s):s.heap.NoLimit:=I.ok.mod.nolimit.keeps I.bk
theorem Inv.fr(I:Inv X pins σ H s):∃m,Fr X.base X.env.locals s.heap m :=
 let⟨m,hn,_⟩:=I.loc
 ⟨m,hn,I.bk,ZI I.ok.bsz I.ok.above⟩
theorem Inv.lt(I:Inv X pins σ H s):X.env.locals<s.heap.objs.size:=let⟨_,hn,_⟩:=I.loc;hn.lt
theorem Inv.sz(I:Inv X pins σ H s):X.s₀.heap.objs.size<=s.heap.objs.size:=ZI I.ok.above (Nat.le_of_lt I.lt)
theorem Inv.nofs(I:Inv X pins σ H s){a:Addr}(h:s.heap.objs.size<=a):a∉X.fs:=fun hb=>by obtain⟨_,o,ho,_⟩:=I.ok.funs.mem hb;exact absurd (ZB (Zn ho) (ZI I.sz h)) (YL _)
theorem Inv.cne(I:Inv X pins σ H s):∀x c,X.env.cells.lookup x=some c->c≠X.env.locals:=fun x c e z=>by obtain⟨v,o,ho,hd⟩:=I.cell x c e;obtain⟨m,⟨o',es,ep,ho',hd',_⟩,_⟩:=I.loc;rw[z,ho']at ho;cases ho;rw[hd']at hd;cases hd
theorem Inv.funs(I:Inv X pins σ H s):s.heap.FunFrames X.base X.outer:=by
 have all:∀(l:List Env),(∀b∈frs l,b∈X.fs)->X.s₀.heap.FunFrames X.base l->s.heap.FunFrames X.base l:=by
  intro l;induction l with
  |nil=>intro _ _;trivial
  |cons env r ih =>intro hs hl;obtain⟨hk,⟨L,o,hf,hn,ho,hd⟩,hr⟩:=hl;have hL:L∈X.fs:=hs L (by unfold frs;rw[List.filterMap_cons,hf];exact Zv);obtain⟨sl,e⟩:=I.base.slot L o ho (I.ok.frf L hL) hL fun z=>I.ok.exfs L z hL;exact⟨hk,⟨L,_,hf,hn,e,hd⟩,ih (fun b hb=>hs b (by unfold frs;rw[List.filterMap_cons,hf];exact Zt _ hb)) hr⟩
 exact all X.outer (fun _ hb=>hb) I.ok.funs
theorem Inv.stack(I:Inv X pins σ H s):s.heap.FunFrames X.base X.stack:=by
 rcases I.ok.stk with e|⟨e,hf⟩
 ·rw[e];exact I.funs
 ·rw[e];obtain⟨m,hn,_⟩:=I.loc;refine .cons (by rw[I.ok.kind];decide) hf hn ?_ I.funs;exact Heap.get?_none_of_le (ZI I.ok.bsz I.ok.above)
theorem Inv.stkSub(I:Inv X pins σ H s):∀b∈frs X.stack,b∈X.env.locals::X.fs:=fun b hb=>by
 rcases I.ok.stk with e|⟨e,hf⟩
 ·rw[e]at hb;exact Zt _ hb
 ·rw[e]at hb;unfold frs at hb;rw[List.filterMap_cons,hf]at hb;exact hb
theorem Inv.stkFree(I:Inv X pins σ H s):∀b∈frs X.stack,H b=none:=fun b hb=>by
 rcases Zl.mp (I.stkSub b hb)with e|hb
 ·rw[e];exact I.free
 ·obtain⟨_,o,ho,_⟩:=I.ok.funs.mem hb;exact I.base.free b o ho (I.ok.frf b hb) fun z=>I.ok.exfs b z hb
theorem Inv.step{g':Array GenState}{t':Nat}{d':Drawn}{ch:List Addr}(I:Inv X pins σ H s)(hch:∀b∈ch,(b∈X.ex\/X.s₀.heap.objs.size<=b)/\b≠X.env.locals/\(∀x c,X.env.cells.lookup x=some c->c≠b)/\∀p∈X.pn++pins,p.1≠b)(keep:∀b o,b≠X.env.locals->b∉X.fs->b∉ch->s.heap.get? b=some o->H b=none->h'.get? b=some o)(slot:∀b o,b≠X.env.locals->b∈X.fs->b∉ch->s.heap.get? b=some o->H b=none->∃sl,h'.get? b=some { o with slots:=sl })(free:∀b o,b∉ch->s.heap.get? b=some o->H b=none->H' b=none)(there:∀b o,b∉ch->s.heap.get? b=some o->∃o',h'.get? b=some o')(tups:∀b xs,H b=some (.tup xs)->H' b=some (.tup xs))(frzs:∀b o u,H b=some (.frz o u)->H' b=some (.frz o u))(tbls:∀b ps,H b=some (.tbl ps)->∃more,H' b=some (.tbl (ps++more)))(ns:∀m,s.heap.Ns X.env.locals m->h'.Ns X.env.locals m)(hok:HOk X.prog X.w H' h')(hg:AllBare g') :
  Inv X pins σ H' { s with heap:=h',gens:=g',drawn:=d',toks:=t' }:=by
 have neL:∀b o,X.s₀.heap.get? b=some o->b≠X.env.locals:=fun b o e=>ZD (ZB (Zn e) I.ok.above);have neC:∀b o,X.s₀.heap.get? b=some o->b∉X.ex->b∉ch:=fun b o e hx hb=>by
  rcases(hch b hb).1 with z|z
  ·exact hx z
  ·exact absurd (ZB (Zn e) z) (YL _)
 have cellK:∀x c,X.env.cells.lookup x=some c->∀v,s.heap.IsCell c v->h'.IsCell c v:=fun x c e v ⟨o,ho,hd⟩=>by
  have nch:c∉ch:=fun z=>(hch c z).2.2.1 x c e rfl;by_cases hc:c∈X.fs
  ·obtain⟨sl,q⟩:=slot c o (I.cne x c e) hc nch ho (I.freeC x c e);exact⟨_,q,hd⟩
  ·exact⟨o,keep c o (I.cne x c e) hc nch ho (I.freeC x c e),hd⟩
 refine⟨I.ok,I.os,hg,⟨fun b o e n hb hx=>?_,fun b o e n hb hx=>?_,fun b o e n hx=>?_,fun b o e hx=>?_,fun b xs e=>tups b xs (I.base.tups b xs e),fun b o xs e=>frzs b o xs (I.base.frzs b o xs e),fun b ps e=>?_⟩,?_,fun x c e=>?_,?_,fun x c e=>?_,fun p hp=>?_,hok,I.len⟩
 ·exact keep b o (neL b o e) hb (neC b o e hx) (I.base.keep b o e n hb hx) (I.base.free b o e n hx)
 ·obtain⟨sl,e1⟩:=I.base.slot b o e n hb hx;obtain⟨sl',e2⟩:=slot b _ (neL b o e) hb (neC b o e hx) e1 (I.base.free b o e n hx);exact⟨sl',e2⟩
 ·obtain⟨o',e1⟩:=I.base.there b o e hx;exact free b o' (neC b o e hx) e1 (I.base.free b o e n hx)
 ·obtain⟨o',e1⟩:=I.base.there b o e hx;exact there b o' (neC b o e hx) e1
 ·obtain⟨m1,e1⟩:=I.base.tbls b ps e;obtain⟨m2,e2⟩:=tbls b _ e1;exact⟨m1++m2,by rw[e2,Array.append_assoc]⟩
 ·obtain⟨m,hn,hl⟩:=I.loc;refine⟨m,ns m hn,fun i x v e1 e2 e3=>?_⟩;obtain⟨u,r,l⟩:=hl i x v e1 e2 e3;refine⟨u,r,?_⟩;rcases l with l|⟨k,c,e,z⟩
  ·exact .inl l
  ·exact .inr ⟨k,c,e,cellK x c e _ z⟩
 ·obtain⟨v,z⟩:=I.cell x c e;exact⟨v,cellK x c e v z⟩
 ·obtain⟨m,⟨o,_,_,ho,_⟩,_⟩:=I.loc;exact free _ o (fun z=>(hch _ z).2.1 rfl) ho I.free
 ·obtain⟨v,o,ho,hd⟩:=I.cell x c e;exact free c o (fun z=>(hch c z).2.2.1 x c e rfl) ho (I.freeC x c e)
 ·obtain⟨e,n,ne,nf,d⟩:=I.pin p hp;have nch:p.1∉ch:=fun z=>(hch p.1 z).2.2.2 p hp rfl;exact⟨keep p.1 p.2 ne nf nch e n,free p.1 p.2 nch e n,ne,nf,d⟩
theorem Inv.un{t':Nat}(I:Inv X pins σ H s)(u:Un X.fs [] H H' s.heap h')(hok:HOk X.prog X.w H' h'):Inv X pins σ H' { s with heap:=h',toks:=t' }:=by
 obtain⟨m,⟨o,es,ep,ho,r⟩,_⟩:=id I.loc;obtain⟨sl,hL⟩:=u.any ho I.free (by simp);exact I.step (g':=s.gens) (d':=s.drawn) (ch:=[]) (fun _ z=>nomatch z) (fun b o _ hb _ e n=>u.keep b o e n hb (by simp)) (fun b o _ hb _ e n=>u.slot b o e n hb (by simp)) (fun b o _ e n=>u.free b o e n (by simp)) (fun b o _ e=>u.there b o e (by simp)) u.tups u.frzs u.tbls (fun m' hm=>by
  obtain⟨o',es',ep',ho',r'⟩:=hm;rw[ho]at ho';cases ho';exact⟨_,es',ep',hL,r'⟩) hok I.bare
theorem Inv.call{g':Array GenState}{t':Nat}{d':Drawn}{ch:List Addr}(I:Inv X pins σ H s)(u:Un (frs X.stack) ch H H' s.heap h')(hok:HOk X.prog X.w H' h')(hg:AllBare g')(hch:∀b∈ch,(b∈X.ex\/X.s₀.heap.objs.size<=b)/\b≠X.env.locals/\(∀x c,X.env.cells.lookup x=some c->c≠b)/\∀p∈X.pn++pins,p.1≠b) :
  Inv X pins σ H' { s with heap:=h',gens:=g',drawn:=d',toks:=t' }:=by
 obtain⟨m,⟨o,es,ep,ho,r⟩,_⟩:=id I.loc;obtain⟨sl,hL⟩:=u.any ho I.free fun z=>(hch _ z).2.1 rfl;exact I.step (ch:=ch) hch (fun b o hL hb hc e n=>u.keep b o e n (fun z=>(Zl.mp (I.stkSub b z)).elim hL hb) hc) (fun b o _ _ hc e n=>u.any e n hc) (fun b o hc e n=>u.free b o e n hc) (fun b o hc e=>u.there b o e hc) u.tups u.frzs u.tbls (fun m' hm=>by
  obtain⟨o',es',ep',ho',r'⟩:=hm;rw[ho]at ho';cases ho';exact⟨_,es',ep',hL,r'⟩) hok hg
theorem Inv.turned{t':Nat}{it:Addr}(I:Inv X pins σ H s)(k:∀b o,b≠it->s.heap.get? b=some o->h'.get? b=some o)(hn:H it=none)(hL:it≠X.env.locals)(h1:it∈X.ex\/X.s₀.heap.objs.size<=it)(h2:∀x c,X.env.cells.lookup x=some c->c≠it)(h3:∀p∈X.pn++pins,p.1≠it):Inv X pins σ H { s with heap:=h',toks:=t' }:=by
 have nit:∀b u,H b=some u->b≠it:=fun b u e z=>by rw[z,hn]at e;cases e
 refine I.step (g':=s.gens) (d':=s.drawn) (ch:=[it]) (fun b hb=>?_) (fun b o _ _ hc e _=>k b o (fun z=>hc (by simp[z])) e) (fun b o _ _ hc e _=>⟨o.slots,k b o (fun z=>hc (by simp[z])) e⟩) (fun _ _ _ _ n=>n)
  (fun b o hc e=>⟨o,k b o (fun z=>hc (by simp[z])) e⟩) (fun _ _ e=>e) (fun _ _ _ e=>e) (fun b ps e=>⟨#[],by rw[e];simp⟩) (fun m hm=>?_) (fun b u e=>?_) I.bare
 ·have e:b=it:=by simpa using hb
  subst e;exact⟨h1,hL,h2,h3⟩
 ·obtain⟨o,es,ep,ho,r⟩:=hm;exact⟨o,es,ep,k _ o (y9 hL) ho,r⟩
 ·refine(I.hok b u e).stay (fun c v hc q=>k c v ?_ q) (fun _ q=>q) fun _ _ q=>q;rcases hc with z|z
  ·rw[z];exact nit b u e
  ·exact nit c _ z
theorem Inv.tok(I:Inv X pins σ H s)(t:Nat):Inv X pins σ H { s with toks:=t }:=I.un (h':=s.heap) (t':=t) Un.refl I.hok
theorem Inv.kept{t':Nat}(I:Inv X pins σ H s)(k:∀b u,s.heap.get? b=some u->h'.get? b=some u):Inv X pins σ H { s with heap:=h',toks:=t' }:=I.un (Un.kept k) (I.hok.kept k)
theorem Inv.laid{a:Addr}{o:HO}{t':Nat}(I:Inv X pins σ H s)(k:∀b u,s.heap.get? b=some u->h'.get? b=some u)(hp:s.heap.objs.size<=a)(new:ObjOk X.prog X.w (upd H a o) h' a o) :
  Inv X pins σ (upd H a o) { s with heap:=h',toks:=t' }:=I.un (Un.laid k hp (I.hok.fresh hp)) (I.hok.laid k hp new)
theorem Inv.write{x e:Addr}{o:HO}{t':Nat}(I:Inv X pins σ H s)(mu:Mut (H x))(he:e=x\/H e=some (.own x))(k:∀b u,b≠e->s.heap.get? b=some u->h'.get? b=some u)(heo:∃u,h'.get? e=some u)(new:ObjOk X.prog X.w (upd H x o) h' x o):Inv X pins σ (upd H x o) { s with heap:=h',toks:=t' }:=I.un (Un.write mu he k heo) (I.hok.write mu he k heo new)
theorem Inv.weak{σ':List (Option V)}(I:Inv X pins σ H s)(hl:σ'.length=σ.length)(w:∀(i:Nat) v,σ'[i]?=some (some v)->σ[i]?=some (some v)):Inv X pins σ' H s :=
 ⟨I.ok,I.os,I.bare,I.base,let⟨m,hn,hl'⟩:=I.loc;⟨m,hn,fun i x v e1 e2 e3=>hl' i x v e1 (w i v e2) e3⟩,I.cell,I.free,I.freeC,I.pin,I.hok,hl.trans I.len⟩
theorem Inv.pins_of{pins':List (Addr×Obj)}(I:Inv X pins σ H s)(h:∀p∈pins',s.heap.get? p.1=some p.2/\H p.1=none/\p.1≠X.env.locals/\p.1∉X.fs/\∀v,p.2.data≠.cell v):Inv X pins' σ H s :=
 ⟨I.ok,I.os,I.bare,I.base,I.loc,I.cell,I.free,I.freeC,fun p hp=>(ZF.mp hp).elim (fun z=>I.pin p (List.mem_append_left _ z)) (h p),I.hok,I.len⟩
theorem sV{N:List Str}(hN:N.Nodup){i j:Nat}{x:Str}(a:N[i]?=some x)(b:N[j]?=some x):i=j:=by obtain⟨h1,e1⟩:=Zx.mp a;obtain⟨h2,e2⟩:=Zx.mp b;exact(List.getElem_inj hN).mp (e1.trans e2.symm)
theorem qL{M:Model}{A:Around}{E:Value->Shared->Prop}{i:Nat}{x:Str}{v:V}{u:Value}{Q:Unit->Shared->Prop}(I:Inv X pins σ H s)(hN:X.N.Nodup)(hi:X.N[i]?=some x)(hx:Loc X.env.scope x)(r:RelV v u)(h:∀s',Inv X pins (σ.set i (some v)) H s'->(∃a,Heap.SameBut a s.heap s'.heap/\(a=X.env.locals\/X.env.cells.lookup x=some a))->Q () s')(hf:X.fn x=true\/X.env.scope.names.lookup x=some .local:=by first|exact .inl rfl|exact .inr rfl|assumption):wpAny M A (storeName X.env x u) Q E s:=by
 obtain⟨m,hn,hl⟩:=id I.loc;have hcls:(X.env.scope.kind == .class ||(X.env.scope.kind == .module&&X.env.locals != X.env.globals))=false:=by rw[I.ok.kind];rfl
 have hiσ:i<σ.length:=by rw[I.len];exact(Zx.mp hi).1
 have cne:=I.cne;have tracked:∀{a:Addr} {h':Heap},(∃o,s.heap.get? a=some o/\H a=none)->Heap.SameBut a s.heap h'->HOk X.prog X.w H h':=fun{a h'} ha hs b ob e=>by
  obtain⟨_,_,hfree⟩:=ha;refine(I.hok b ob e).stay (fun c w' hc q=>(hs.2 c ?_).trans q) (fun _ q=>q) fun _ _ q=>q;rintro rfl;rcases hc with rfl|hc
  ·rw[hfree]at e;cases e
  ·rw[hfree]at hc;cases hc
 rcases hx with hk|hk
 ·refine wpAny_storeName_local hk hn (fun h' hn' hs=>?_) hcls;obtain⟨oL,_,_,hoL,_⟩:=id hn;refine h _ ⟨I.ok,I.os,I.bare,⟨fun b o e n hb hx=>?_,fun b o e n hb hx=>?_,I.base.free,fun b o e hx=>?_,I.base.tups,I.base.frzs,I.base.tbls⟩,⟨_,hn',fun j y v' e1 e2 e3=>?_⟩,fun y c e=>?_,I.free,I.freeC,fun p hp=>?_,tracked ⟨oL,hoL,I.free⟩ hs,by simpa using I.len⟩ ⟨_,hs,.inl rfl⟩
  ·exact(hs.2 b (ZD (ZB (Zn e) I.ok.above))).trans (I.base.keep b o e n hb hx)
  ·obtain⟨sl,e1⟩:=I.base.slot b o e n hb hx;exact⟨sl,(hs.2 b (ZD (ZB (Zn e) I.ok.above))).trans e1⟩
  ·obtain⟨o',e1⟩:=I.base.there b o e hx;exact⟨o',(hs.2 b (ZD (ZB (Zn e) I.ok.above))).trans e1⟩
  ·by_cases hj:j=i
   ·subst hj;rw[hi]at e1;cases e1;rw[List.getElem?_set_self hiσ]at e2;cases e2;exact⟨u,r,.inl ⟨hk,by simp⟩⟩
   ·rw[List.getElem?_set_ne (y9 hj)]at e2;obtain⟨u',r',q⟩:=hl j y v' e1 e2 e3;refine⟨u',r',?_⟩;rcases q with⟨k,e⟩|⟨k,c,e,z⟩
    ·refine .inl ⟨k,?_⟩;have:y≠x:=fun e=>hj (sV hN e1 (e▸hi));simp[this,e]
    ·exact .inr ⟨k,c,e,z.sameBut hs (cne y c e)⟩
  ·obtain⟨w',z⟩:=I.cell y c e;exact⟨w',z.sameBut hs (cne y c e)⟩
  ·obtain⟨e,n,ne,nf,d⟩:=I.pin p hp;exact⟨(hs.2 p.1 ne).trans e,n,ne,nf,d⟩
 ·have hfn:X.fn x=true:=by
   rcases hf with z|z
   ·exact z
   ·rw[z]at hk;cases hk
  obtain⟨c,hc⟩:=I.ok.has x (.inl hk);obtain⟨w',z⟩:=I.cell x c hc;refine wpAny_storeName_cell I.ok.kind hk hc z (fun h' hc' hs=>?_);obtain⟨oc,hoc,hocd⟩:=id z;refine h { s with heap:=h' } ⟨I.ok,I.os,I.bare,⟨fun b o e n hb hx=>?_,fun b o e n hb hx=>?_,I.base.free,fun b o e hx=>?_,I.base.tups,I.base.frzs,I.base.tbls⟩,⟨m,hn.sameBut hs (y9 (cne x c hc)),fun j y v' e1 e2 e3=>?_⟩,fun y c' e=>?_,I.free,I.freeC,fun p hp=>?_,tracked ⟨oc,hoc,I.freeC x c hc⟩ hs,by simpa using I.len⟩ ⟨c,hs,.inr hc⟩
  ·exact(hs.2 b (ZD (ZB (Zn e) (I.ok.cab x c hfn hc)))).trans (I.base.keep b o e n hb hx)
  ·obtain⟨sl,e1⟩:=I.base.slot b o e n hb hx;exact⟨sl,(hs.2 b (ZD (ZB (Zn e) (I.ok.cab x c hfn hc)))).trans e1⟩
  ·obtain⟨o',e1⟩:=I.base.there b o e hx;exact⟨o',(hs.2 b (ZD (ZB (Zn e) (I.ok.cab x c hfn hc)))).trans e1⟩
  ·by_cases hj:j=i
   ·subst hj;rw[hi]at e1;cases e1;rw[List.getElem?_set_self hiσ]at e2;cases e2;exact⟨u,r,.inr ⟨.inl hk,c,hc,hc'⟩⟩
   ·rw[List.getElem?_set_ne (y9 hj)]at e2;obtain⟨u',r',q⟩:=hl j y v' e1 e2 e3;refine⟨u',r',?_⟩;rcases q with q|⟨k,c',e,z'⟩
    ·exact .inl q
    ·refine .inr ⟨k,c',e,z'.sameBut hs ?_⟩;rintro rfl;exact hj (sV hN e1 (I.ok.inj _ _ _ e hc▸hi))
  ·by_cases hcc:c'=c
   ·subst hcc;exact⟨_,hc'⟩
   ·obtain⟨w2,z2⟩:=I.cell y c' e;exact⟨w2,z2.sameBut hs hcc⟩
  ·obtain⟨e,n,ne,nf,d⟩:=I.pin p hp;refine⟨(hs.2 p.1 ?_).trans e,n,ne,nf,d⟩;intro q;rw[q,hoc]at e;have q':oc=p.2:=Zu e;exact d w' (by rw[<-q'];exact hocd)
theorem uc{M:Model}{A:Around}{E:Value->Shared->Prop}{i:Nat}{x:Str}{v:V}{u:Value}{Q:Unit->Shared->Prop}(I:Inv X pins σ H s)(hN:X.N.Nodup)(hi:X.N[i]?=some x)(hx:Loc X.env.scope x)(r:RelV v u)(h:∀s',Inv X pins (σ.set i (some v)) H s'->Q () s')(hf:X.fn x=true\/X.env.scope.names.lookup x=some .local:=by first|exact .inl rfl|exact .inr rfl|assumption):wpAny M A (storeName X.env x u) Q E s :=
 qL I hN hi hx r (fun s' I' _=>h s' I') hf
theorem Inv.call'{s':Shared}{ch:List Addr}(I:Inv X pins σ H s)(ho:s'.os=s.os)(u:Un (frs X.stack) ch H H' s.heap s'.heap)(hok:HOk X.prog X.w H' s'.heap)(hg:AllBare s'.gens)(hch:∀b∈ch,(b∈X.ex\/X.s₀.heap.objs.size<=b)/\b≠X.env.locals/\(∀x c,X.env.cells.lookup x=some c->c≠b)/\∀p∈X.pn++pins,p.1≠b):Inv X pins σ H' s':=by obtain⟨h',g',d',t',o'⟩:=s';have e:o'=s.os:=ho;subst e;exact I.call (g':=g') (t':=t') (d':=d') u hok hg hch
end
abbrev XK:=Value->Option Addr->Hp->Prop
abbrev St:=List (Option V)
abbrev VK:=V->Hp->Prop
abbrev TE:=St->Hp->VK->Prop
abbrev TT:=St->Hp->(Bool->Hp->Prop)->Prop
abbrev TA:=St->Hp->(List V->Hp->Prop)->Prop
structure Ends where
 nx:St->Hp->Prop
 rt:VK
 bk:St->Hp->Prop:=fun _ _=>False
 ct:St->Hp->Prop:=fun _ _=>False
abbrev TS:=Ends->St->Hp->Prop
def EP(X:Cx)(pins:List (Addr×Obj))(σ:St)(Q:VK)(u:Value)(s':Shared):Prop:=∃v H',Inv X pins σ H' s'/\RelV v u/\Q v H'
def TP(X:Cx)(pins:List (Addr×Obj))(σ:St)(Q:Bool->Hp->Prop)(b:Bool)(s':Shared):Prop:=∃H',Inv X pins σ H' s'/\Q b H'
def AP(X:Cx)(pins:List (Addr×Obj))(σ:St)(Q:List V->Hp->Prop)(us:List Value)(s':Shared):Prop:=∃vs H',Inv X pins σ H' s'/\Vals vs us/\Q vs H'
def SP(X:Cx)(pins:List (Addr×Obj))(D:Ends)(f:Flow)(s':Shared):Prop :=
 match f with
 |.next=>∃σ' H',Inv X pins σ' H' s'/\D.nx σ' H'
 |.brk=>∃σ' H',Inv X pins σ' H' s'/\D.bk σ' H'
 |.cont=>∃σ' H',Inv X pins σ' H' s'/\D.ct σ' H'
 |.ret u=>∃v σ' H',Inv X pins σ' H' s'/\RelV v u/\D.rt v H'
def PE(X:Cx)(e:Expr)(t:TE):Prop :=
 ∀(pins:List (Addr×Obj)) (s:Shared) (σ:St) (H:Hp) (Q:VK),Inv X pins σ H s->t σ H Q->wpAny (model X.prog X.w) X.A (eval e X.env) (EP X pins σ Q) X.xe s
def PT(X:Cx)(e:Expr)(t:TT):Prop :=
 ∀(pins:List (Addr×Obj)) (s:Shared) (σ:St) (H:Hp) (Q:Bool->Hp->Prop),Inv X pins σ H s->t σ H Q->wpAny (model X.prog X.w) X.A (isTrue e X.env (eval e X.env)) (TP X pins σ Q) X.xe s
def PW(X:Cx)(e:Expr)(t:TT):Prop :=
 ∀(whole:Sem Value) (pins:List (Addr×Obj)) (s:Shared) (σ:St) (H:Hp) (Q:Bool->Hp->Prop),Inv X pins σ H s->t σ H Q->wpAny (model X.prog X.w) X.A (isTrue e X.env whole) (TP X pins σ Q) X.xe s
theorem PW.pt{X:Cx}{e:Expr}{t:TT}(h:PW X e t):PT X e t:=h _
def PA(X:Cx)(es:List Expr)(t:TA):Prop :=
 ∀(pos:Pos) (pins:List (Addr×Obj)) (s:Shared) (σ:St) (H:Hp) (Q:List V->Hp->Prop),Inv X pins σ H s->t σ H Q->wpAny (model X.prog X.w) X.A (spliced (backTo pos (starEach es X.env))) (AP X pins σ Q) X.xe s
def PS(X:Cx)(st:Stmt)(t:TS):Prop :=
 ∀(pins:List (Addr×Obj)) (s:Shared) (σ:St) (H:Hp) (D:Ends),Inv X pins σ H s->t D σ H->wpAny (model X.prog X.w) X.A (exec st X.env) (SP X pins D) X.xe s
def PSs(X:Cx)(st:List Stmt)(t:TS):Prop :=
 ∀(pins:List (Addr×Obj)) (s:Shared) (σ:St) (H:Hp) (D:Ends),Inv X pins σ H s->t D σ H->wpAny (model X.prog X.w) X.A (execs st X.env) (SP X pins D) X.xe s
theorem thn{α:Type}{t:Sem α}{Q Q':α->Shared->Prop}{M:Model}{A:Around}{E:Value->Shared->Prop}{s:Shared}(h:wpAny M A t Q E s)(hQ:∀a s,Q a s->Q' a s):wpAny M A t Q' E s:=ZS h hQ fun _ _ x=>x
open PySem PySem.Spec PyProof.Rows
section
variable{X:Cx}
def xC(i:Nat):TE:=fun σ H Q=>∃v,σ[i]?=some (some v)/\Q v H
def tC(v:V):TE:=fun _ H Q=>Q v H
theorem FD{i:Nat}{x:Str}{pos:Pos}(hN:X.N[i]?=some x)(hv:Vis X.env.scope x)(hd:(x==("__debug__":Str))=false:=by decide)(hcd:(x==("__classdict__":Str))=false:=by decide):PE X (.Name x pos) (xC i):=by
 intro pins s σ H Q I h;obtain⟨v,e,h⟩:=h;obtain⟨m,hn,hl⟩:=I.loc;obtain⟨u,r,l⟩:=hl i x v hN e hv;have fin:EP X pins σ Q u s:=⟨v,H,I,r,h⟩
 rcases l with⟨hk,hm⟩|⟨hk,c,hc,hcell⟩
 ·exact wpAny_Name (wpAny_loadName_local I.ok.kind hk hn hm fin) hd
 ·rcases hk with hk|hk
  ·exact wpAny_Name (wpAny_loadName_cell I.ok.kind hk hc hcell fin) hd
  ·exact wpAny_Name (wpAny_loadName_free I.ok.kind hk hc hcell fin hcd) hd
theorem Fu{i j pos}:PE X (.Constant (.int i) j pos) (tC (.int i)):=fun _ _ _ H _ I h=>wpAny_Constant_int ⟨.int i,H,I.tok _,⟨_,rfl⟩,h⟩
theorem Hs{b j pos}:PE X (.Constant (.bool b) j pos) (tC (.bl b)):=fun _ _ _ H _ I h=>Constant_bool ⟨.bl b,H,I,rfl,h⟩
theorem Fw{j pos}:PE X (.Constant .none j pos) (tC .non):=fun _ _ _ H _ I h=>Constant_none ⟨.non,H,I,rfl,h⟩
theorem FA{x j pos}:PE X (.Constant (.str x) j pos) (tC (.str x)):=fun _ _ _ H _ I h=>Calls.Constant_str ⟨.str x,H,I.tok _,⟨_,rfl⟩,h⟩
def Gl(X:Cx)(x:Str):Prop:=X.env.kindOf x=some .globalImplicit
theorem gP{E:Value->Shared->Prop}{pins:List (Addr×Obj)}{s:Shared}{σ:St}{H:Hp}{x:Str}{u:Value}{pos:Pos}{Q:Value->Shared->Prop}(I:Inv X pins σ H s)(hg:Gl X x)(hm:X.mg x=some u)(h:Q u s)(hd:(x==("__debug__":Str))=false:=by decide):wpAny (model X.prog X.w) X.A (eval (.Name x pos) X.env) Q E s :=
 Calls.Name_function_global I.ok.kind hg (Calls.loadGlobal_global (by rw[I.ok.glob];exact I.mod.glob.keeps I.bk) hm h) hd
theorem hU{E:Value->Shared->Prop}{pins:List (Addr×Obj)}{s:Shared}{σ:St}{H:Hp}{x:Str}{u:Value}{pos:Pos}{Q:Value->Shared->Prop}(I:Inv X pins σ H s)(hg:Gl X x)(hm:X.mg x=none)(hv:bootBuiltins x=some u)(h:Q u s)(hn:x≠"__name__":=by decide)(hd:(x==("__debug__":Str))=false:=by decide):wpAny (model X.prog X.w) X.A (eval (.Name x pos) X.env) Q E s:=by obtain⟨mb,h1,h2⟩:=I.mod.blt;exact Calls.Name_function_global I.ok.kind hg (Calls.loadGlobal_builtin (by rw[I.ok.glob];exact I.mod.glob.keeps I.bk) hm (by rw[I.ok.blt];exact h1.keeps I.bk) ((h2 x hn).trans hv) h) hd
theorem pH{x:Str}{v:V}{u:Value}{pos:Pos}(hg:Gl X x)(hm:X.mg x=some u)(r:RelV v u)(hd:(x==("__debug__":Str))=false:=by decide):PE X (.Name x pos) (tC v) :=
 fun _ _ _ H _ I h=>gP I hg hm ⟨v,H,I,r,h⟩ hd
variable{a b:Expr}{ta tb:TE}{pos:Pos}
def PC(X:Cx)(op:CmpOp)(a b:Expr)(t:TE):Prop :=
 ∀(pins:List (Addr×Obj)) (s:Shared) (σ:St) (H:Hp) (Q:VK),Inv X pins σ H s->t σ H Q ->
  wpAny (model X.prog X.w) X.A (eval a X.env) (fun v s₁=>wpAny (model X.prog X.w) X.A (eval b X.env) (fun u s₂=>wpAny (model X.prog X.w) X.A (compareOp op v u) (EP X pins σ Q) X.xe s₂) X.xe s₁) X.xe s
def tB(t:TE):TT:=fun σ H Q=>t σ H fun x H1=>∃c,x=.bl c/\Q c H1
theorem Fs{op:CmpOp}{t:TE}(h:PC X op a b t)(h1:behindInMarks op b=false:=by first|exact nobehind _ (by decide) (by decide)|rfl):PE X (.Compare a [op] [b] pos) t:=fun pins s σ H Q I hw=>wpAny_Compare1 (h pins s σ H Q I hw) h1
theorem yY{op:CmpOp}{t:TE}(h:PC X op a b t)(h1:behindInMarks op b=false:=by first|exact nobehind _ (by decide) (by decide)|rfl):PT X (.Compare a [op] [b] pos) (tB t):=by intro pins s σ H Q I hw;refine wpAny_isTrue_Compare1 (thn (h pins s σ H _ I hw) fun v s1 h1=>thn h1 fun u s2 h2=>thn h2 fun c s3 hz9=>?_) h1;obtain⟨x,H1,I1,r1,q1⟩:=hz9;obtain⟨d,rfl,q⟩:=q1;cases r1;exact wpAny_truthy_bool ⟨H1,I1,q⟩
theorem FQ{e:Expr}{t:TE}(h:PE X e t)(he:∀whole,isTrue e X.env whole=(do let v ←whole;standAt e.pos;holding [v] (truthy v)):=by intro _;rfl):PT X e (tB t):=by intro pins s σ H Q I hw;refine isTrue_plain (thn (h pins s σ H _ I hw) fun v s1 hz9=>?_) (he _);obtain⟨x,H1,I1,r1,q1⟩:=hz9;obtain⟨d,rfl,q⟩:=q1;cases r1;exact wpAny_truthy_bool ⟨H1,I1,q⟩
variable{tA tB':TT}{rest:List Expr}
def Gr(t u:TT):TT:=fun σ H Q=>t σ H fun c H1=>if c=true then u σ H1 Q else Q false H1
def tOr(t u:TT):TT:=fun σ H Q=>t σ H fun c H1=>if c=true then Q true H1 else u σ H1 Q
def Gy(t:TT):TT:=fun σ H Q=>t σ H fun c H1=>Q (!c) H1
theorem DM(ha:PT X a tA):PW X (.BoolOp .And [a] pos) tA:=by
 intro wh pins s σ H Q I h;refine isTrue_and (thn (ha pins s σ H Q I h) fun c s1 e=>?_);cases c with
 |true=>exact isTrue_and_nil e
 |false=>exact e
theorem FT(ha:PT X a tA):PW X (.BoolOp .Or [a] pos) tA:=by
 intro wh pins s σ H Q I h;refine isTrue_or (thn (ha pins s σ H Q I h) fun c s1 e=>?_);cases c with
 |false=>exact isTrue_or_nil e
 |true=>exact e
theorem FS(ha:PT X a tA)(hb:PW X (.BoolOp .And (b::rest) pos) tB'):PW X (.BoolOp .And (a::b::rest) pos) (Gr tA tB'):=by
 intro wh pins s σ H Q I h;refine isTrue_and (thn (ha pins s σ H _ I h) fun c s1 ⟨H1,I1,q1⟩=>?_);cases c with
 |true=>exact hb wh pins s1 σ H1 Q I1 q1
 |false=>exact⟨H1,I1,q1⟩
theorem Hz(ha:PT X a tA)(hb:PW X (.BoolOp .Or (b::rest) pos) tB'):PW X (.BoolOp .Or (a::b::rest) pos) (tOr tA tB'):=by
 intro wh pins s σ H Q I h;refine isTrue_or (thn (ha pins s σ H _ I h) fun c s1 ⟨H1,I1,q1⟩=>?_);cases c with
 |true=>exact⟨H1,I1,q1⟩
 |false=>exact hb wh pins s1 σ H1 Q I1 q1
theorem FP(ha:PT X a tA):PT X (.UnaryOp .Not a pos) (Gy tA):=by intro pins s σ H Q I h;exact isTrue_not (ha pins s σ H (fun c H1=>Q (!c) H1) I h)
def Cr(ta tb:TE):TE:=fun σ H Q=>ta σ H fun x H1=>∃c,x=.bl c/\if c=true then tb σ H1 Q else Q (.bl false) H1
def Cw(ta:TE):TE:=fun σ H Q=>ta σ H fun x H1=>∃c,x=.bl c/\Q (.bl (!c)) H1
theorem Fz{op}{t:TE}(h:PE X a t):PE X (.BoolOp op [a] pos) t:=fun pins s σ H Q I hw=>BoolOp_one (h pins s σ H Q I hw)
theorem Fp(ha:PE X a ta)(hb:PE X (.BoolOp .And (b::rest) pos) tb):PE X (.BoolOp .And (a::b::rest) pos) (Cr ta tb):=by
 intro pins s σ H Q I h;refine BoolOp_and (thn (ha pins s σ H _ I h) fun v s1 hz9=>?_);obtain⟨x,H1,I1,r1,q1⟩:=hz9;obtain⟨c,rfl,q1⟩:=q1;cases r1;refine wpAny_truthy_bool ?_;cases c with
 |true=>exact hb pins s1 σ H1 Q I1 q1
 |false=>exact⟨.bl false,H1,I1,rfl,q1⟩
theorem Fy(ha:PE X a ta):PE X (.UnaryOp .Not a pos) (Cw ta):=by intro pins s σ H Q I h;refine UnaryOp_ (thn (ha pins s σ H _ I h) fun v s1 hz9=>?_);obtain⟨x,H1,I1,r1,q1⟩:=hz9;obtain⟨c,rfl,q1⟩:=q1;cases r1;exact not_of (wpAny_truthy_bool ⟨.bl (!c),H1,I1,rfl,q1⟩)
def tIf(t:TT)(ta tb:TE):TE:=fun σ H Q=>t σ H fun c H1=>if c=true then ta σ H1 Q else tb σ H1 Q
theorem Bf{c:Expr}(hc:PT X c tA)(ha:PE X a ta)(hb:PE X b tb):PE X (.IfExp c a b pos) (tIf tA ta tb):=by
 intro pins s σ H Q I h;refine wpAny_IfExp (thn (hc pins s σ H _ I h) fun d s1 ⟨H1,I1,q1⟩=>?_);cases d with
 |true=>exact ha pins s1 σ H1 Q I1 q1
 |false=>exact hb pins s1 σ H1 Q I1 q1
end
open PySem PySem.Spec PyProof.Rows
def SqL(K:PySem.W.Frag)(H:Hp)(a:Addr)(xs:List V):Prop :=
 Rd H a (.lst xs) \/
  ∃(o:Obj) (its:Array Value) (n:Nat),K.lookup a=some o/\o.cls=.type "list"/\o.dict=none/\o.data=.seq its n/\its.size<=sizeLine/\Vals xs its.toList
def SqT(K:PySem.W.Frag)(H:Hp)(a:Addr)(xs:List V):Prop :=
 Rd H a (.tup xs) \/
  ∃(o:Obj) (its:Array Value) (n:Nat),K.lookup a=some o/\o.cls=.type "tuple"/\o.data=.seq its n/\its.size<=sizeLine/\Vals xs its.toList
def HZ:Value->Option V
 |.none=>some .non
 |.bool b=>some (.bl b)
 |.int i _=>some (.int i)
 |.str x _=>some (.str x)
 |.bytes b _=>some (.byt b)
 |.float b _=>some (.flt b)
 |.ref a=>some (.ref a)
 |.type n=>some (.ty n)
 |_=>none
theorem RelV.abs{x:V}{u:Value}(r:RelV x u):HZ u=some x:=by
 cases x with
 |non=>cases r;rfl
 |bl _=>cases r;rfl
 |int _=>obtain⟨t,rfl⟩:=r;rfl
 |str _=>obtain⟨t,rfl⟩:=r;rfl
 |byt _=>obtain⟨t,rfl⟩:=r;rfl
 |flt _=>obtain⟨t,rfl⟩:=r;rfl
 |ref _=>cases r;rfl
 |ty _=>cases r;rfl
theorem RelV.inj{x y:V}{u:Value}(r:RelV x u)(q:RelV y u):x=y:=Zu (r.abs.symm.trans q.abs)
theorem Vals.inj:∀{xs ys:List V} {us:List Value},Vals xs us->Vals ys us->xs=ys
 |_,_,_,.nil,.nil=>rfl
 |_,_,_,.cons r t,.cons r' t'=>by rw[r.inj r',Vals.inj t t']
section
variable{X:Cx}{pins:List (Addr×Obj)}{σ:St}{H:Hp}{s:Shared}{a:Addr}{xs ys:List V}
theorem SqL.of{K:PySem.W.Frag}(h:H a=some (.lst xs)):SqL K H a xs:=.inl (.inl h)
theorem SqT.of{K:PySem.W.Frag}(h:H a=some (.tup xs)):SqT K H a xs:=.inl (.inl h)
theorem Inv.list(I:Inv X pins σ H s)(h:SqL X.K H a xs):∃its:List Value,Vals xs its/\PlainL s.heap a its.toArray/\xs.length<=sizeLine:=by
 rcases h with h|⟨o,its,n,hk,hc,hd,hs,hz,r⟩
 ·obtain⟨z,its,n,r,e⟩:=h.ok I.hok;exact⟨its,r,⟨_,n,e,rfl,rfl,rfl⟩,z⟩
 ·refine⟨its.toList,r,⟨o,n,I.kIn a o hk,hc,hd,by simpa using hs⟩,?_⟩;have e:=r.length;simp only[Zz]at e;omega
theorem Inv.tuple(I:Inv X pins σ H s)(h:SqT X.K H a xs):∃its:List Value,Vals xs its/\IsTup s.heap a its.toArray/\xs.length<=sizeLine:=by
 rcases h with h|⟨o,its,n,hk,hc,hs,hz,r⟩
 ·obtain⟨z,its,r,p⟩:=h.ok I.hok;exact⟨its,r,p,z⟩
 ·refine⟨its.toList,r,⟨o,I.kIn a o hk,hc,n,by simpa using hs⟩,?_⟩;have e:=r.length;simp only[Zz]at e;omega
theorem Inv.list_inj(I:Inv X pins σ H s)(h:SqL X.K H a xs)(h':SqL X.K H a ys):xs=ys:=by
 obtain⟨its,r,⟨o,n,e,_,_,d⟩,_⟩:=I.list h;obtain⟨its',r',⟨o',n',e',_,_,d'⟩,_⟩:=I.list h';rw[e]at e';cases e';rw[d]at d';injection d' with d1 _;have:its=its':=by simpa using ZW Array.toList d1
 subst this;exact r.inj r'
end
abbrev Cx.wish(X:Cx)(E:Value->Shared->Prop):Cx:={ X with xe:=E }
abbrev Cx.nox(X:Cx):Cx:=X.wish fun _ _=>False
theorem Cx.Ok.wish{X:Cx}(ok:X.Ok)(E:Value->Shared->Prop):(X.wish E).Ok :=
 ⟨ok.mod,ok.kind,ok.glob,ok.blt,ok.above,ok.inj,ok.has,ok.cab,ok.hd,ok.frames,ok.stk,ok.exf,ok.bs,ok.bsz,ok.noex,ok.exfs,ok.funs,ok.frf⟩
theorem Cx.Ok.unwish{X:Cx}{E:Value->Shared->Prop}(ok:(X.wish E).Ok):X.Ok :=
 ⟨ok.mod,ok.kind,ok.glob,ok.blt,ok.above,ok.inj,ok.has,ok.cab,ok.hd,ok.frames,ok.stk,ok.exf,ok.bs,ok.bsz,ok.noex,ok.exfs,ok.funs,ok.frf⟩
section
variable{X:Cx}{pins:List (Addr×Obj)}{σ:St}{H:Hp}{s:Shared}{E:Value->Shared->Prop}
theorem Inv.wish(I:Inv X pins σ H s)(E:Value->Shared->Prop):Inv (X.wish E) pins σ H s:=⟨I.ok.wish E,I.os,I.bare,I.base,I.loc,I.cell,I.free,I.freeC,I.pin,I.hok,I.len⟩
theorem Inv.unwish(I:Inv (X.wish E) pins σ H s):Inv X pins σ H s:=⟨I.ok.unwish,I.os,I.bare,I.base,I.loc,I.cell,I.free,I.freeC,I.pin,I.hok,I.len⟩
theorem SP.unwish{D:Ends}{f:Flow}{s':Shared}(h:SP (X.wish E) pins D f s'):SP X pins D f s':=by
 cases f with
 |next=>obtain⟨σ',H',I,q⟩:=h;exact⟨σ',H',I.unwish,q⟩
 |brk=>obtain⟨σ',H',I,q⟩:=h;exact⟨σ',H',I.unwish,q⟩
 |cont=>obtain⟨σ',H',I,q⟩:=h;exact⟨σ',H',I.unwish,q⟩
 |ret u=>obtain⟨v,σ',H',I,r,q⟩:=h;exact⟨v,σ',H',I.unwish,r,q⟩
theorem PSs.nox{st:List Stmt}{t:TS}(h:PSs X.nox st t):PSs X st t:=fun pins s σ H D I hw =>
 ZS (h pins s σ H D (I.wish _) hw) (fun _ _ q=>q.unwish) fun _ _ z=>False.elim z
end
section
variable{X:Cx}{st:Stmt}{rest:List Stmt}{t u:TS}{e:Expr}{te:TE}{pos:Pos}
def Cv:TS:=fun D σ H=>D.nx σ H
def xA(t u:TS):TS:=fun D σ H=>t { D with nx:=u D } σ H
theorem DI:PSs X [] Cv:=fun _ _ σ H _ I h=>wpAny_execs_nil ⟨σ,H,I,h⟩
theorem Bo(h1:PS X st t)(h2:PSs X rest u):PSs X (st::rest) (xA t u):=by
 intro pins s σ H D I h;refine wpAny_execs_cons (thn (h1 pins s σ H { D with nx:=u D } I h) fun f s1 q=>?_);cases f with
 |next =>obtain⟨σ',H',I',q⟩:=q;exact h2 pins s1 σ' H' D I' q
 |ret v=>exact q
 |brk=>exact q
 |cont=>exact q
theorem DJ(h1:PS X st t):PSs X [st] t:=by
 intro pins s σ H D I h;refine wpAny_execs_cons (thn (h1 pins s σ H D I h) fun f s1 q=>?_);cases f with
 |next=>exact wpAny_execs_nil q
 |ret v=>exact q
 |brk=>exact q
 |cont=>exact q
theorem Inv.quiet{pins:List (Addr×Obj)}{σ:St}{H:Hp}{s:Shared}(I:Inv X pins σ H s):interactive X.env=false:=by simp[interactive,I.ok.kind]
def Ct(te:TE):TS:=fun D σ H=>te σ H fun _ H1=>D.nx σ H1
theorem DG(he:PE X e te)(hs:swapsWith e none pos.line X.env=pure false:=by rfl):PS X (.Expr e pos) (Ct te):=by intro pins s σ H D I h;exact wpAny_Expr_any (thn (he pins s σ H _ I h) fun v s1 ⟨x,H1,I1,r1,q1⟩=>⟨σ,H1,I1,q1⟩) I.quiet hs
def Gz(te:TE):TS:=fun D σ H=>te σ H D.rt
theorem FN(he:PE X e te):PS X (.Return (some e) pos) (Gz te):=by intro pins s σ H D I h;exact wpAny_Return_some (thn (he pins s σ H _ I h) fun v s1 ⟨x,H1,I1,r1,q1⟩=>⟨x,σ,H1,I1,r1,q1⟩)
def Gv(c:TT)(t u:TS):TS:=fun D σ H=>c σ H fun b H1=>if b=true then t D σ H1 else u D σ H1
theorem Hy{c:Expr}{a b:List Stmt}{tc:TT}(hc:PT X c tc)(ha:PSs X a t)(hb:PSs X b u):PS X (.If c a b pos) (Gv tc t u):=by
 intro pins s σ H D I h;refine wpAny_If (thn (hc pins s σ H _ I h) fun d s1 ⟨H1,I1,q1⟩=>?_);cases d with
 |true=>exact ha pins s1 σ H1 D I1 q1
 |false=>exact hb pins s1 σ H1 D I1 q1
end
abbrev TG:=V->St->Hp->(St->Hp->Prop)->Prop
abbrev TGs:=List V->St->Hp->(St->Hp->Prop)->Prop
def PG(X:Cx)(target:Expr)(t:TG):Prop :=
 ∀(pins:List (Addr×Obj)) (s:Shared) (σ:St) (H:Hp) (v:V) (u:Value) (Q:St->Hp->Prop),Inv X pins σ H s->RelV v u->t v σ H Q ->
  wpAny (model X.prog X.w) X.A (assign target X.env u) (fun _ s'=>∃σ' H',Inv X pins σ' H' s'/\Q σ' H') X.xe s
def PGs(X:Cx)(ts:List Expr)(t:TGs):Prop :=
 ∀(pins:List (Addr×Obj)) (s:Shared) (σ:St) (H:Hp) (vs:List V) (us:List Value) (Q:St->Hp->Prop),Inv X pins σ H s->Vals vs us->t vs σ H Q ->
  wpAny (model X.prog X.w) X.A (assignInOrder ((assignEach ts X.env).map (·.2)) us) (fun _ s'=>∃σ' H',Inv X pins σ' H' s'/\Q σ' H') X.xe s
abbrev rX:=V->V->V->Hp->(Hp->Prop)->Prop
def Ad(X:Cx)(t:rX):Prop :=
 ∀(pins:List (Addr×Obj)) (s:Shared) (σ:St) (H:Hp) (o i v:V) (ov iv u:Value) (Q:Hp->Prop),Inv X pins σ H s->RelV o ov->RelV i iv->RelV v u->t o i v H Q ->
  wpAny (model X.prog X.w) X.A (setItem ov iv u) (fun _ s'=>∃H',Inv X pins σ H' s'/\Q H') X.xe s
abbrev TIp:=V->V->Hp->VK->Prop
def PIp(X:Cx)(op:Operator)(t:TIp):Prop :=
 ∀(pins:List (Addr×Obj)) (s:Shared) (σ:St) (H:Hp) (x y:V) (v u:Value) (Q:VK),Inv X pins σ H s->RelV x v->RelV y u->t x y H Q ->
  wpAny (model X.prog X.w) X.A (inplaceOp op v u) (EP X pins σ Q) X.xe s
section
variable{X:Cx}{pos:Pos}
def cL(i:Nat):TG:=fun v σ H Q=>Q (σ.set i (some v)) H
theorem Dv{i:Nat}{x:Str}(hN:X.N.Nodup)(hi:X.N[i]?=some x)(hx:Loc X.env.scope x)(hf:X.fn x=true\/X.env.scope.names.lookup x=some .local:=by first|exact .inl rfl|exact .inr rfl|assumption):PG X (.Name x pos) (cL i):=by intro pins s σ H v u Q I r h;exact wpAny_assign_Name (uc I hN hi hx r (fun s' I'=>⟨_,H,I',h⟩) hf)
def mH:TGs:=fun vs σ H Q=>vs=[]/\Q σ H
def fM(t:TG)(u:TGs):TGs:=fun vs σ H Q=>∃v r,vs=v::r/\t v σ H fun σ' H'=>u r σ' H' Q
theorem Dw:PGs X [] mH:=by intro pins s σ H vs us Q I r h;obtain⟨e,h⟩:=h;subst e;cases r;exact assignInOrder_nil ⟨σ,H,I,h⟩
theorem Bi{e:Expr}{es:List Expr}{t:TG}{u:TGs}(h1:PG X e t)(h2:PGs X es u)(hs:(assignEach (e::es) X.env).map (·.2)=assign e X.env::(assignEach es X.env).map (·.2):=by rfl):PGs X (e::es) (fM t u):=by
 intro pins s σ H vs us Q I r h;obtain⟨v,vr,e1,h⟩:=h;subst e1;cases r with
 |cons r rr =>rw[hs];refine assignInOrder_cons (thn (h1 pins s σ H _ _ _ I r h) fun _ s1 ⟨σ1,H1,I1,q1⟩=>?_);exact h2 pins s1 σ1 H1 _ _ Q I1 rr q1
def mI(K:PySem.W.Frag)(n:Nat)(t:TGs):TG:=fun v σ H Q=>∃a xs,v=.ref a/\SqT K H a xs/\xs.length=n/\t xs σ H Q
theorem FF{es:List Expr}{k:Nat}{t:TGs}{n:Nat}(hc:X.calm=true)(h:PGs X es t)(hn:(assignEach es X.env).length=n:=by rfl)(hst:(assignEach es X.env).findIdx? (·.1)=none:=by rfl):PG X (.Tuple es k pos) (mI X.K n t):=by intro pins s σ H v u Q I r hw;obtain⟨a,xs,e1,hq,hl,hw⟩:=hw;subst e1;cases r;obtain⟨its,rv,ht,hz⟩:=I.tuple hq;refine assign_Tuple_tuple (I.ok.hd hc) ht (by simp[hn,<-hl,rv.length]) hst fun h' hx=>?_;have I1:Inv X pins σ H { s with heap:=h' }:=I.kept (t':=s.toks) fun b o e=>hx b o (ZD (Zn e)) e;exact h pins _ σ H xs _ Q I1 (by simpa using rv) hw
def EH(to ti:TE)(t:rX):TG:=fun v σ H Q=>to σ H fun o H1=>ti σ H1 fun i H2=>t o i v H2 fun H3=>Q σ H3
theorem FE{o i:Expr}{to ti:TE}{t:rX}(ho:PE X o to)(hi:PE X i ti)(hs:Ad X t)(ha:∀ v,assign (.Subscript o i pos) X.env v=(do
   let ov ←holding [v] (eval o X.env)
   let iv ←holding [v,ov] (eval i X.env)
   standAt pos
   holding [v,ov,iv] (setItem ov iv v)
   release [v,ov,iv] []):=by intro _;rfl):PG X (.Subscript o i pos) (EH to ti t):=by
 intro pins s σ H v u Q I r h;rw[ha];refine Za (Z3 (thn (ho pins s σ H _ I h) fun ov s1 hz9=>?_));obtain⟨x,H1,I1,r1,q1⟩:=hz9;refine Za (Z3 (thn (hi pins s1 σ H1 _ I1 q1) fun iv s2 hz9=>?_));obtain⟨y,H2,I2,r2,q2⟩:=hz9;refine Za (wpAny_standAt (Za (Z3 (thn (hs pins s2 σ H2 x y v ov iv u _ I2 r1 r2 r q2) fun _ s3 ⟨H3,I3,q3⟩=>?_))));exact wpAny_release ⟨σ,H3,I3,q3⟩
def qd(te:TE)(g:TG):TS:=fun D σ H=>te σ H fun x H1=>g x σ H1 D.nx
theorem FK{tg e:Expr}{te:TE}{g:TG}(he:PE X e te)(hg:PG X tg g)(hs:swapsWithSole [tg] e pos.line X.env=pure false:=by rfl)(hw:swappedStores [tg] e X.env=pure none:=by rfl)(h1:(assignEach [tg] X.env).map (·.2)=[assign tg X.env]:=by rfl):PS X (.Assign [tg] e pos) (qd te g):=by intro pins s σ H D I h;refine wpAny_Assign_stores (thn (he pins s σ H _ I h) fun v s1 hz9=>?_) hs hw;obtain⟨x,H1,I1,r1,q1⟩:=hz9;rw[h1];exact thn (hg pins s1 σ H1 x v _ I1 r1 q1) fun _ s2 q=>q
theorem FO{i:Nat}{x:Str}{e:Expr}{te:TE}{pos':Pos}(hN:X.N.Nodup)(hi:X.N[i]?=some x)(hx:Loc X.env.scope x)(he:PE X e te)(hs:swapsWith e (some (.Name x pos')) pos.line X.env=pure false:=by rfl)(hf:X.fn x=true\/X.env.scope.names.lookup x=some .local:=by first|exact .inl rfl|exact .inr rfl|assumption) :
  PS X (.Assign [.Name x pos'] e pos) (qd te (cL i)):=by
 intro pins s σ H D I h;refine wpAny_Assign_Name (thn (he pins s σ H _ I h) fun v s1 hz9=>?_) hs;obtain⟨y,H1,I1,r1,q1⟩:=hz9;exact uc I1 hN hi hx r1 (fun s2 I2=>⟨_,H1,I2,q1⟩) hf
end
section
variable{X:Cx}{pos:Pos}
def zH(c:TT)(tb:TS):TS:=fun D σ H=>∃W:Nat->St->Hp->Prop,(∃m,W m σ H)/\∀m σ H,W m σ H ->
 c σ H fun b H1=>if b=true then∃N:St->Hp->Prop,(∀σ' H',N σ' H'->∃m',m'<m/\W m' σ' H')/\tb { D with nx:=N,ct:=N,bk:=D.nx } σ H1 else D.nx σ H1
theorem Bn{c:Expr}{body:List Stmt}{tc:TT}{tb:TS}(hp:PassesOwn (model X.prog X.w) X.A X.env X.xe)(hc:PT X c tc)(hb:PSs X body tb):PS X (.While c body [] pos) (zH tc tb):=by
 intro pins s σ H D I h;obtain⟨W,⟨m0,w0⟩,turn⟩:=h;refine wpAny_While (codeAny_whileLoop (fun n s'=>∃σ' H',Inv X pins σ' H' s'/\W n σ' H') ?_ m0 ⟨σ,H,I,w0⟩);rintro n s1 ⟨σ1,H1,I1,w1⟩;refine wpAny_passesOwn hp (thn (hc pins s1 σ1 H1 _ I1 (turn n σ1 H1 w1)) fun b s2 ⟨H2,I2,q2⟩=>?_);cases b with
 |true =>
  obtain⟨N,hN,q2⟩:=q2;rw[if_pos rfl];refine wpAny_passesOwn hp (thn (hb pins s2 σ1 H2 _ I2 q2) fun f s3 q3=>?_);cases f with
  |next =>obtain⟨σ3,H3,I3,n3⟩:=q3;obtain⟨m',hm,w3⟩:=hN σ3 H3 n3;exact⟨m',hm,σ3,H3,I3,w3⟩
  |cont =>obtain⟨σ3,H3,I3,n3⟩:=q3;obtain⟨m',hm,w3⟩:=hN σ3 H3 n3;exact⟨m',hm,σ3,H3,I3,w3⟩
  |brk=>exact q3
  |ret v=>exact q3
 |false =>rw[if_neg Zr];exact wpAny_execs_nil ⟨σ1,H2,I2,q2⟩
end
structure It where
 go:Nat->Hp->Prop
 yld:Nat->Hp->V->Hp->Prop
 stop:Nat->Hp->Prop
def bC(X:Cx)(pins:List (Addr×Obj))(H:Hp)(b:Addr):Prop :=
 H b=none/\b≠X.env.locals/\b∉X.fs/\(b∈X.ex\/X.s₀.heap.objs.size<=b)/\(∀x c,X.env.cells.lookup x=some c->c≠b)/\∀p∈X.pn++pins,p.1≠b
theorem Inv.fpOk{X:Cx}{pins:List (Addr×Obj)}{σ:St}{H H':Hp}{s:Shared}{b:Addr}(I:Inv X pins σ H s)(hb:s.heap.objs.size<=b)(hn:H' b=none):bC X pins H' b:=by
 refine⟨hn,Z9 (ZB I.lt hb),I.nofs hb,.inr (ZI I.sz hb),fun x c e z=>?_,fun p hp z=>?_⟩
 ·obtain⟨v,q⟩:=I.cell x c e;exact absurd (ZB q.lt (by rw[z];exact hb)) (YL _)
 ·exact absurd (ZB (Zn (I.pin p hp).1) (by rw[z];exact hb)) (YL _)
structure Turn(P:Program)(w:World)(K:PySem.W.Frag)(tg:Expr)(J:It)(fp:List Addr)(it:Addr)(tn:Nat->Heap->Prop):Prop where
 mem:it∈fp
 obj:∀i h,tn i h->∀b∈fp,∃o,h.get? b=some o/\∀v,o.data≠.cell v
 keep:∀i h h',tn i h->(∀b∈fp,∀o,h.get? b=some o->h'.get? b=some o)->tn i h'
 item:∀(X:Cx),X.prog=P->X.w=w->X.K=K->X.calm=true->∀(i:Nat) (pins:List (Addr×Obj)) (s:Shared) (σ:St) (H:Hp) (E:Value->Shared->Prop),Inv X pins σ H s->(∀b∈fp,bC X pins H b)->tn i s.heap->J.go i H ->
  wpAny (model P w) X.A (pyNext (.ref it)) (fun r s1=>∃ u,r=some u /\
   wpAny (model P w) X.A (letOwnedTupleGo tg (.ref it) u) (fun _ s2=>∃ x H',Inv X pins σ H' s2/\RelV x u/\J.yld i H x H'/\tn (i+1) s2.heap/\∀ b∈fp,H' b=none) E s1) E s
 done:∀(X:Cx),X.prog=P->X.w=w->X.K=K->X.calm=true->∀(i:Nat) (pins:List (Addr×Obj)) (s:Shared) (σ:St) (H:Hp) (E:Value->Shared->Prop),Inv X pins σ H s->(∀b∈fp,bC X pins H b)->tn i s.heap->J.stop i H ->
  wpAny (model P w) X.A (pyNext (.ref it)) (fun r s1=>r=none/\Inv X pins σ H s1) E s
 self:∀(A:Around) (i:Nat) (s:Shared) (Q:Value->Shared->Prop) (E:Value->Shared->Prop),tn i s.heap->Q (.ref it) s->wpAny (model P w) A (pyIter (.ref it)) Q E s
abbrev TI:=St->Hp->(It->Hp->Prop)->Prop
def PIE(X:Cx)(pins:List (Addr×Obj))(σ:St)(tg:Expr)(R:It->Hp->Prop)(itv:Value)(s2:Shared):Prop :=
 ∃(it:Addr) (fp:List Addr) (tn:Nat->Heap->Prop) (J:It) (H':Hp),itv=.ref it/\Inv X pins σ H' s2/\Turn X.prog X.w X.K tg J fp it tn/\tn 0 s2.heap/\(∀b∈fp,bC X pins H' b)/\R J H'
def PI(X:Cx)(tg iter:Expr)(wi:TI):Prop :=
 ∀(pins:List (Addr×Obj)) (s:Shared) (σ:St) (H:Hp) (R:It->Hp->Prop),Inv X pins σ H s->wi σ H R ->
  wpAny (model X.prog X.w) X.A (eval iter X.env) (fun v s1=>wpAny (model X.prog X.w) X.A (pyIter v) (PIE X pins σ tg R) X.xe s1) X.xe s
theorem BX{M:Model}{A:Around}{E:Value->Shared->Prop}{s:Shared}{tg:Expr}{it:Addr}{u:Value}{o:Obj}{n:String}{vs:Array Value}{Q:Unit->Shared->Prop}(ho:s.heap.get? it=some o)(hc:o.cls=.type n)(hd:o.data=.fields vs)(hn:["enumerate","zip","dict_itemiterator","dict_reverseitemiterator","odict_iterator","itertools.zip_longest","itertools.pairwise"].contains n=false)(hQ:Q () s):wpAny M A (letOwnedTupleGo tg (.ref it) u) Q E s:=by
 unfold letOwnedTupleGo;cases tg<;>first
  |exact Zh hQ
  | (cases u<;>first
    |exact Zh hQ
    | (refine Za (wpAny_load ho ?_)
       rw[hc,hd];show wpAny M A (if(["enumerate","zip","dict_itemiterator","dict_reverseitemiterator","odict_iterator","itertools.zip_longest","itertools.pairwise"].contains n&&vs[0]?==some (rawInt _))=true then _ else _) Q E s;rw[if_neg (by intro h;rw[hn,Ya]at h;cases h)];exact Zh hQ))
def Itl(K:PySem.W.Frag)(a:Addr):It :=
 ⟨fun i H=>∃xs x,SqL K H a xs/\xs[i]?=some x,fun i H x H'=>H'=H/\∀xs,SqL K H a xs->xs[i]?=some x,fun i H=>∃xs,SqL K H a xs/\xs.length<=i⟩
def Itr(lo:Int)(n:Nat):It:=⟨fun i _=>i<n,fun i H x H'=>H'=H/\x=.int (lo+i),fun i _=>n<=i⟩
theorem zL{P:Program}{w:World}{K:PySem.W.Frag}{tg:Expr}(a it:Addr):Turn P w K tg (Itl K a) [it] it (fun i h=>h.IsListIter it a i) where
 mem:=by simp
 obj:=fun i h st b hb=>by
  have e:b=it:=by simpa using hb
  subst e;obtain⟨o,e,c,d⟩:=st;exact⟨o,e,fun v z=>by rw[d]at z;cases z⟩
 keep:=fun i h h' st k=>st.at fun o e=>k it (by simp) o e
 item:=by intro X hP hw hK hc i pins s σ H E I hf st hg;subst hP hw hK;obtain⟨xs,x,hq,hx⟩:=hg;obtain⟨its,rv,p,hz⟩:=I.list hq;obtain⟨u,hu,ru⟩:=rv.get hx;obtain⟨f0,f1,f2,f3,f4,f5⟩:=hf it (by simp);refine wpAny_pyNext_list_item st p.isList (x:=u) (by simpa using hu) fun h' st' sb=>?_;have I1:Inv X pins σ H { s with heap:=h' }:=I.turned (t':=s.toks) (fun b o hb e=>(sb.2 b hb).trans e) f0 f1 f3 f4 f5;obtain⟨o,e,c,d⟩:=id st';exact⟨u,rfl,BX (s:={ s with heap:=h' }) e c d (by decide) ⟨x,H,I1,ru,⟨rfl,fun ys hy=>by rw[I.list_inj hy hq];exact hx⟩,st',fun b hb=>(hf b hb).1⟩⟩
 done:=by intro X hP hw hK hc i pins s σ H E I hf st hg;subst hP hw hK;obtain⟨xs,hq,hx⟩:=hg;obtain⟨its,rv,p,hz⟩:=I.list hq;obtain⟨f0,f1,f2,f3,f4,f5⟩:=hf it (by simp);have hl:=rv.length;exact wpAny_pyNext_list_end (I.ok.hd hc) st p.isList (by simp;omega) fun h' eb=>⟨rfl,I.turned (t':=s.toks) (fun b o hb e=>eb b o hb e) f0 f1 f3 f4 f5⟩
 self:=fun _ _ _ _ _ st h=>wpAny_pyIter_listiter st h
theorem xF{P:Program}{w:World}{K:PySem.W.Frag}{tg:Expr}(it:Addr)(lo:Int)(n:Nat):Turn P w K tg (Itr lo n) [it] it (fun i h=>IsRangeIter h it (lo+(i:Nat)*1) ((n:Int)-(i:Nat)) 1) where
 mem:=by simp
 obj:=fun i h st b hb=>by
  have e:b=it:=by simpa using hb
  subst e;exact⟨_,st,fun v z=>by
   have z':Data.fields _=Data.cell v:=z;cases z'⟩
 keep:=fun i h h' st k=>k it (by simp) _ st
 item:=by intro X hP hw hK hc i pins s σ H E I hf st hg;subst hP hw hK;obtain⟨f0,f1,f2,f3,f4,f5⟩:=hf it (by simp);have W:=Walks.range (prog:=X.prog) (w:=X.w) (I.ok.hd hc) it lo 1 n;refine W.item i s _ _ hg st fun v h' tk hv st' kk=>?_;obtain⟨t,rfl⟩:=hv;have I1:Inv X pins σ H { s with heap:=h',toks:=tk }:=I.turned (fun b o hb e=>kk b o (by simpa using hb) e) f0 f1 f3 f4 f5;refine⟨_,rfl,BX (s:={ s with heap:=h',toks:=tk }) (n:="range_iterator") st' rfl rfl (by decide) ⟨.int (lo+i),H,I1,⟨t,?_⟩,⟨rfl,rfl⟩,st',fun b hb=>(hf b hb).1⟩⟩;rw[Int.mul_one]
 done:=by intro X hP hw hK hc i pins s σ H E I hf st hg;subst hP hw hK;obtain⟨f0,f1,f2,f3,f4,f5⟩:=hf it (by simp);exact wpAny_pyNext_range_end (I.ok.hd hc) st (by have:n<=i:=hg;omega) fun h' eb=>⟨rfl,I.turned (t':=s.toks) (fun b o hb e=>eb b o hb e) f0 f1 f3 f4 f5⟩
 self:=fun _ _ _ _ _ st h=>wpAny_pyIter_rangeiter st h
open PySem PySem.Spec PyProof.Rows
section
variable{X:Cx}{tg:Expr}
def BZ(K:PySem.W.Frag)(tl:TE):TI:=fun σ H R=>tl σ H fun x H1=>∃a,x=.ref a/\(∃xs,SqL K H1 a xs)/\R (Itl K a) H1
theorem Dy{l:Expr}{tl:TE}(hl:PE X l tl):PI X tg l (BZ X.K tl):=by
 intro pins s σ H R I h;refine thn (hl pins s σ H _ I h) fun v s1 hz9=>?_;obtain⟨x,H1,I1,r1,q1⟩:=hz9;obtain⟨a,e,⟨xs,hq⟩,q⟩:=q1;subst e;cases r1;obtain⟨its,rv,p,hz⟩:=I1.list hq;refine wpAny_pyIter_list p.isList ?_;refine⟨s1.heap.objs.size,[s1.heap.objs.size],_,_,H1,rfl,I1.kept (t':=s1.toks) fun b o e=>Zb _ e,zL a _,⟨_,Zo _ rfl,rfl,rfl⟩,fun b hb=>?_,q⟩;have e:b=s1.heap.objs.size:=by simpa using hb
 subst e;exact I1.fpOk (Ze _) (I1.hok.fresh (Ze _))
theorem Br{pins:List (Addr×Obj)}{σ:St}{H:Hp}{s:Shared}{R:It->Hp->Prop}{E:Value->Shared->Prop}{lo hi:Int}{t u v:Tok}{tk:Nat}(I:Inv X pins σ H s)(h1:-(2^62)<=lo)(h2:lo<2^62)(h3:-(2^62)<=hi)(h4:hi<2^62)(q:R (Itr lo (hi-lo).toNat) H):wpAny (model X.prog X.w) X.A (pyIter (.ref s.heap.objs.size)) (PIE X pins σ tg R) E { s with heap:=s.heap.push { cls:=.type "range",data:=.fields #[.int lo t,.int hi u,.int 1 v] },toks:=tk }:=by
 refine wpAny_pyIter_range (IsRange.new ..) (small_one h1 h2 h3 h4) ?_;have I1:Inv X pins σ H { s with heap:=s.heap.push { cls:=.type "range",data:=.fields #[.int lo t,.int hi u,.int 1 v] },toks:=tk }:=I.kept fun b o e=>Zb _ e;refine⟨(s.heap.push { cls:=.type "range",data:=.fields #[.int lo t,.int hi u,.int 1 v] }).objs.size,[(s.heap.push { cls:=.type "range",data:=.fields #[.int lo t,.int hi u,.int 1 v] }).objs.size],_,_,H,rfl,
  I1.kept (t':=tk) fun b o e=>Zb _ e,xF _ lo (hi - lo).toNat,?_,fun b hb=>?_,q⟩
 ·have e1:lo+((0:Nat):Int)*1=lo:=by simp
  have e2:(((hi-lo).toNat:Nat):Int)-((0:Nat):Int)=Builtin.Range.rangeSize lo hi 1:=by rw[rangeSize_one];split<;>omega
  show IsRangeIter _ _ (lo+((0:Nat):Int)*1) ((((hi-lo).toNat:Nat):Int)-((0:Nat):Int)) 1;rw[e1,e2];exact Zo _ rfl
 ·have e:b=(s.heap.push { cls:=.type "range",data:=.fields #[.int lo t,.int hi u,.int 1 v] }).objs.size:=by simpa using hb
  subst e;exact I1.fpOk (Ze _) (I1.hok.fresh (Ze _))
def B7(ta:TA):TI:=fun σ H R=>ta σ H fun vs H1=>∃j:Int,vs=[.int j]/\-(2^62)<=j/\j<2^62/\R (Itr 0 j.toNat) H1
theorem yR{a:Expr}{ta:TA}{p pos:Pos}(hg:Gl X "range")(hm:X.mg "range" = none)(ha:PA X [a] ta)(hs:starEach [a] X.env=[(false,eval a X.env)]:=by rfl):PI X tg (.Call (.Name "range" p) [a] [] pos) (B7 ta):=by
 intro pins s σ H R I h;refine Call_ (hU I hg hm boot_range (YF (thn (ha pos pins s σ H _ I h) fun us s1 hz9=>?_) hs rfl));obtain⟨vs,H1,I1,r1,q1⟩:=hz9;obtain⟨j,e,q1,q2,q⟩:=q1;subst e;cases r1 with
 |cons r rr =>cases rr;obtain⟨t,rfl⟩:=r;exact call_range_1 (Br I1 (by omega) (by omega) q1 q2 (by simpa using q))
def Gu(wi:TI)(g:TG)(tb:TS):TS:=fun D σ H=>wi σ H fun J H1=>∃W:Nat->Nat->St->Hp->Prop,(∃m,W 0 m σ H1)/\∀i m σ H,W i m σ H ->
 (J.stop i H/\D.nx σ H)\/(J.go i H/\∃N:St->Hp->Prop,(∀σ' H',N σ' H'->∃m',m'<m/\W (i+1) m' σ' H')/\∀x H',J.yld i H x H'->g x σ H' fun σ2 H2=>tb { D with nx:=N,ct:=N,bk:=D.nx } σ2 H2)
def kx(fp:List Addr)(h:Heap):List (Addr×Obj):=fp.filterMap fun b=>(h.get? b).map fun o=>(b,o)
theorem gG{fp:List Addr}{h:Heap}{b:Addr}{o:Obj}(hb:b∈fp)(e:h.get? b=some o):(b,o)∈kx fp h:=YN.mpr ⟨b,hb,by rw[e];rfl⟩
theorem yH{fp:List Addr}{h:Heap}{p:Addr×Obj}(hp:p∈kx fp h):p.1∈fp/\h.get? p.1=some p.2:=by
 obtain⟨b,hb,e⟩:=YN.mp hp;cases q:h.get? b with
 |none=>rw[q]at e;cases e
 |some o =>rw[q]at e;have e':(b,o)=p:=Zu e;subst e';exact⟨hb,q⟩
theorem Inv.pinned{pins:List (Addr×Obj)}{σ:St}{H:Hp}{s:Shared}{fp:List Addr}(I:Inv X pins σ H s)(hf:∀b∈fp,bC X pins H b)(ho:∀b∈fp,∃o,s.heap.get? b=some o/\∀v,o.data≠.cell v):Inv X (pins++kx fp s.heap) σ H s :=
 I.pins_of fun p hp=>(ZF.mp hp).elim (fun z=>I.pin p (ZQ _ z)) fun z=>by obtain⟨hb,e⟩:=yH z;obtain⟨f0,f1,f2,_⟩:=hf p.1 hb;obtain⟨o,e',d⟩:=ho p.1 hb;rw[e]at e';cases e';exact⟨e,f0,f1,f2,d⟩
theorem Inv.unpinned{pins pl:List (Addr×Obj)}{σ:St}{H:Hp}{s:Shared}(I:Inv X (pins++pl) σ H s):Inv X pins σ H s:=I.pins_of fun p hp=>I.pin p (ZQ _ (List.mem_append_left _ hp))
theorem FM{iter:Expr}{body:List Stmt}{wi:TI}{g:TG}{tb:TS}{pos:Pos}(hp:PassesOwn (model X.prog X.w) X.A X.env X.xe)(hc:X.calm=true)(hi:PI X tg iter wi)(hg:PG X tg g)(hb:PSs X body tb)(hs:∀x,foldedSetIterable iter X.env x=pure x:=by intro _;rfl):PS X (.For tg iter body [] pos) (Gu wi g tb):=by
 intro pins s σ H D I h;refine wpAny_For (thn (hi pins s σ H _ I h) fun v s1 h1=>thn h1 fun itv s2 h2=>?_) hs;obtain⟨it,fp,tn,J,H2,e,I2,T,st2,f2,W,⟨m0,w0⟩,turn⟩:=h2;subst e;have stat:∀{H':Hp},(∀b∈fp,H' b=none)->∀b∈fp,bC X pins H' b:=fun hn b hb=>⟨hn b hb,(f2 b hb).2⟩
 refine codeAny_forLoop_any (fun n s'=>∃i σ' H',Inv X pins σ' H' s'/\tn i s'.heap/\(∀b∈fp,H' b=none)/\W i n σ' H') ?_ m0 ⟨0,σ,H2,I2,st2,fun b hb=>(f2 b hb).1,w0⟩;rintro n s3 ⟨i,σ3,H3,I3,st3,fr3,w3⟩;rcases turn i n σ3 H3 w3 with⟨stop,qn⟩|⟨go,N,hN,step⟩
 ·refine wpAny_passesOwn hp (thn (T.done X rfl rfl rfl hc i pins s3 σ3 H3 X.xe I3 (stat fr3) st3 stop) fun r s4 ⟨hr,I4⟩=>?_);subst hr;exact wpAny_execs_nil ⟨σ3,H3,I4,qn⟩
 ·refine wpAny_passesOwn hp (thn (T.item X rfl rfl rfl hc i pins s3 σ3 H3 X.xe I3 (stat fr3) st3 go) fun r s4 ⟨u,hr,h4⟩=>?_);subst hr;refine wpAny_passesOwn hp (thn h4 fun _ s5 hz9=>?_);obtain⟨x,H5,I5,r5,y5,st5,fr5⟩:=hz9;have I5':=I5.pinned (stat fr5) (T.obj _ _ st5);refine wpAny_passesOwn hp (thn (hg _ s5 σ3 H5 x u _ I5' r5 (step x H5 y5)) fun _ s6 ⟨σ6,H6,I6,q6⟩=>?_);refine wpAny_passesOwn hp (thn (hb _ s6 σ6 H6 _ I6 q6) fun f s7 q7=>?_);have again:∀{σ7:St} {H7:Hp},Inv X (pins++kx fp s5.heap) σ7 H7 s7->N σ7 H7->∃m,m<n/\∃i σ' H',Inv X pins σ' H' s7/\tn i s7.heap/\(∀b∈fp,H' b=none)/\W i m σ' H':=fun{σ7 H7} I7 n7=>by obtain⟨m',hm,w7⟩:=hN σ7 H7 n7;refine⟨m',hm,i+1,σ7,H7,I7.unpinned,T.keep _ _ _ st5 fun b hb o e=>(I7.pin (b,o) (ZQ _ (ZQ _ (gG hb e)))).1,fun b hb=>?_,w7⟩;obtain⟨o,e,d⟩:=T.obj _ _ st5 b hb;exact(I7.pin (b,o) (ZQ _ (ZQ _ (gG hb e)))).2.1
  cases f with
  |next=>obtain⟨σ7,H7,I7,n7⟩:=q7;exact again I7 n7
  |cont=>obtain⟨σ7,H7,I7,n7⟩:=q7;exact again I7 n7
  |brk=>obtain⟨σ7,H7,I7,q7⟩:=q7;exact⟨σ7,H7,I7.unpinned,q7⟩
  |ret v=>obtain⟨x7,σ7,H7,I7,r7,q7⟩:=q7;exact⟨x7,σ7,H7,I7.unpinned,r7,q7⟩
end
theorem jD{K:PySem.W.Frag}{a:Addr}{xs:List V}{g:TG}{tb:TS}{D:Ends}{σ:St}{H:Hp}(Pv:Nat->St->Hp->Prop)(h0:Pv 0 σ H)(hl:∀i σ H,i<=xs.length->Pv i σ H->SqL K H a xs)(hs:∀i x σ H,xs[i]?=some x->Pv i σ H->g x σ H fun σ2 H2=>tb { D with nx:=Pv (i+1),ct:=Pv (i+1),bk:=D.nx } σ2 H2)(hd:∀σ H,Pv xs.length σ H->D.nx σ H) :
  ∃W:Nat->Nat->St->Hp->Prop,(∃m,W 0 m σ H)/\∀i m σ H,W i m σ H ->
   ((Itl K a).stop i H/\D.nx σ H)\/((Itl K a).go i H/\∃N:St->Hp->Prop,(∀σ' H',N σ' H'->∃m',m'<m/\W (i+1) m' σ' H')/\∀x H',(Itl K a).yld i H x H'->g x σ H' fun σ2 H2=>tb { D with nx:=N,ct:=N,bk:=D.nx } σ2 H2):=by
 refine⟨fun i m σ H=>m=xs.length-i/\i<=xs.length/\Pv i σ H,⟨xs.length,by simp,y0 _,h0⟩,?_⟩;rintro i m σ H ⟨rfl,hi,p⟩;have q:=hl i σ H hi p;by_cases hlt:i<xs.length
 ·refine .inr ⟨⟨xs,xs[i],q,by simp[hlt]⟩,Pv (i+1),fun σ' H' p'=>⟨xs.length-(i+1),by omega,rfl,hlt,p'⟩,fun x H' y=>?_⟩;obtain⟨e,y⟩:=y;subst e;exact hs i x σ _ (y xs q) p
 ·have e:i=xs.length:=by omega
  subst e;exact .inl ⟨⟨xs,q,Ze _⟩,hd σ H p⟩
theorem yg{lo:Int}{n:Nat}{g:TG}{tb:TS}{D:Ends}{σ:St}{H:Hp}(Pv:Nat->St->Hp->Prop)(h0:Pv 0 σ H)(hs:∀i σ H,i<n->Pv i σ H->g (.int (lo+i)) σ H fun σ2 H2=>tb { D with nx:=Pv (i+1),ct:=Pv (i+1),bk:=D.nx } σ2 H2)(hd:∀σ H,Pv n σ H->D.nx σ H) :
  ∃W:Nat->Nat->St->Hp->Prop,(∃m,W 0 m σ H)/\∀i m σ H,W i m σ H ->
   ((Itr lo n).stop i H/\D.nx σ H)\/((Itr lo n).go i H/\∃N:St->Hp->Prop,(∀σ' H',N σ' H'->∃m',m'<m/\W (i+1) m' σ' H')/\∀x H',(Itr lo n).yld i H x H'->g x σ H' fun σ2 H2=>tb { D with nx:=N,ct:=N,bk:=D.nx } σ2 H2):=by
 refine⟨fun i m σ H=>m=n-i/\i<=n/\Pv i σ H,⟨n,by simp,y0 _,h0⟩,?_⟩;rintro i m σ H ⟨rfl,hi,p⟩;by_cases hlt:i<n
 ·refine .inr ⟨hlt,Pv (i+1),fun σ' H' p'=>⟨n-(i+1),by omega,rfl,hlt,p'⟩,fun x H' y=>?_⟩;obtain⟨e,y⟩:=y;subst e y;exact hs i σ _ hlt p
 ·have e:i=n:=by omega
  subst e;exact .inl ⟨Ze _,hd σ H p⟩
open PySem PySem.Spec PyProof.Rows
abbrev R2:=V->V->Hp->VK->Prop
def OpR(X:Cx)(f:Value->Value->Sem Value)(r:R2):Prop :=
 ∀(pins:List (Addr×Obj)) (s:Shared) (σ:St) (H:Hp) (x y:V) (v u:Value) (Q:VK),Inv X pins σ H s->RelV x v->RelV y u->r x y H Q ->
  wpAny (model X.prog X.w) X.A (f v u) (EP X pins σ Q) X.xe s
def UnR(X:Cx)(f:Value->Sem Value)(r:V->Hp->VK->Prop):Prop :=
 ∀(pins:List (Addr×Obj)) (s:Shared) (σ:St) (H:Hp) (x:V) (v:Value) (Q:VK),Inv X pins σ H s->RelV x v->r x H Q ->
  wpAny (model X.prog X.w) X.A (f v) (EP X pins σ Q) X.xe s
def eO(X:Cx)(f:Value)(r:List V->Hp->VK->Prop):Prop :=
 ∀(pins:List (Addr×Obj)) (s:Shared) (σ:St) (H:Hp) (xs:List V) (us:List Value) (Q:VK),Inv X pins σ H s->Vals xs us->r xs H Q ->
  wpAny (model X.prog X.w) X.A (call f us) (EP X pins σ Q) X.xe s
def tOp(r:R2)(ta tb:TE):TE:=fun σ H Q=>ta σ H fun x H1=>tb σ H1 fun y H2=>r x y H2 Q
def rI(C:Int->Int->Prop)(g:Int->Int->V):R2:=fun x y H Q=>∃i j,x=.int i/\y=.int j/\C i j/\Q (g i j) H
def rI0(g:Int->Int->V):R2:=fun x y H Q=>∃i j,x=.int i/\y=.int j/\Q (g i j) H
section
variable{X:Cx}{a b c:Expr}{ta tb tc:TE}{pos:Pos}
theorem Ag(ha:PE X a ta)(hb:PE X b tb){pins:List (Addr×Obj)}{s:Shared}{σ:St}{H:Hp}{R:V->V->Hp->Prop}(I:Inv X pins σ H s)(h:ta σ H fun x H1=>tb σ H1 fun y H2=>R x y H2){Q:Value->Shared->Prop}{f:Value->Value->Sem Value}(hf:∀v u s2 x y H2,Inv X pins σ H2 s2->RelV x v->RelV y u->R x y H2->wpAny (model X.prog X.w) X.A (f v u) Q X.xe s2) :
  wpAny (model X.prog X.w) X.A (eval a X.env) (fun v s₁=>wpAny (model X.prog X.w) X.A (eval b X.env) (fun u s₂=>wpAny (model X.prog X.w) X.A (f v u) Q X.xe s₂) X.xe s₁) X.xe s:=by
 refine thn (ha pins s σ H _ I h) fun v s1 hz9=>?_;obtain⟨x,H1,I1,r1,q1⟩:=hz9;refine thn (hb pins s1 σ H1 _ I1 q1) fun u s2 hz9=>?_;obtain⟨y,H2,I2,r2,q2⟩:=hz9;exact hf v u s2 x y H2 I2 r1 r2 q2
theorem Hw{op:Operator}{r:R2}(ho:OpR X (binaryOp op) r)(ha:PE X a ta)(hb:PE X b tb):PE X (.BinOp a op b pos) (tOp r ta tb):=by intro pins s σ H Q I h;exact wpAny_BinOp (Ag ha hb I h fun v u s2 x y H2 I2 rx ry q=>ho pins s2 σ H2 x y v u Q I2 rx ry q)
theorem opI{f:Value->Value->Sem Value}{C:Int->Int->Prop}{g:Int->Int->Int}(rule:∀(i j:Int) (t u:Tok) (s:Shared) (Q:Value->Shared->Prop) (E:Value->Shared->Prop),C i j->Q (.int (g i j) s.toks) { s with toks:=s.toks+1 }->wpAny (model X.prog X.w) X.A (f (.int i t) (.int j u)) Q E s) :
  OpR X f (rI C fun i j=>.int (g i j)):=by
 intro pins s σ H x y v u Q I rx ry h;obtain⟨i,j,rfl,rfl,hc,q⟩:=h;obtain⟨t,rfl⟩:=rx;obtain⟨t',rfl⟩:=ry;exact rule i j t t' s _ _ hc ⟨.int (g i j),H,I.tok _,⟨_,rfl⟩,q⟩
theorem Fd{f:Value->Value->Sem Value}{g:Int->Int->Int}(rule:∀(i j:Int) (t u:Tok) (s:Shared) (Q:Value->Shared->Prop) (E:Value->Shared->Prop),Q (.int (g i j) s.toks) { s with toks:=s.toks+1 }->wpAny (model X.prog X.w) X.A (f (.int i t) (.int j u)) Q E s) :
  OpR X f (rI0 fun i j=>.int (g i j)):=by
 intro pins s σ H x y v u Q I rx ry h;obtain⟨i,j,rfl,rfl,q⟩:=h;obtain⟨t,rfl⟩:=rx;obtain⟨t',rfl⟩:=ry;exact rule i j t t' s _ _ ⟨.int (g i j),H,I.tok _,⟨_,rfl⟩,q⟩
theorem Ba{f:Value->Value->Sem Value}{g:Int->Int->Bool}(rule:∀(i j:Int) (t u:Tok) (s:Shared) (Q:Value->Shared->Prop) (E:Value->Shared->Prop),Q (.bool (g i j)) s->wpAny (model X.prog X.w) X.A (f (.int i t) (.int j u)) Q E s) :
  OpR X f (rI0 fun i j=>.bl (g i j)):=by
 intro pins s σ H x y v u Q I rx ry h;obtain⟨i,j,rfl,rfl,q⟩:=h;obtain⟨t,rfl⟩:=rx;obtain⟨t',rfl⟩:=ry;exact rule i j t t' s _ _ ⟨.bl (g i j),H,I,rfl,q⟩
def Ei(i j:Int):Prop:=0<j/\j<1073741824
def CMul(i j:Int):Prop:=(-(2^64)<i/\i<2^64)\/(-(2^64)<j/\j<2^64)
theorem CMul.ok{i j:Int}(h:CMul i j):IntMulOk i j:=by
 rcases h with⟨h1,h2⟩|⟨h1,h2⟩
 ·exact .of_left (intBits_le_64 h1 h2)
 ·exact .of_right (intBits_le_64 h1 h2)
theorem Fe:OpR X (binaryOp .Add) (rI0 fun i j=>.int (i+j)):=Fd fun _ _ _ _ _ _ _ q=>add_int q
theorem Fm:OpR X (binaryOp .Sub) (rI0 fun i j=>.int (i-j)):=Fd fun _ _ _ _ _ _ _ q=>sub_int q
theorem Fj:OpR X (binaryOp .Mult) (rI CMul fun i j=>.int (i*j)):=opI fun _ _ _ _ _ _ _ hc q=>mul_int q hc.ok
theorem Di:OpR X (binaryOp .FloorDiv) (rI Ei fun i j=>.int (i / j)):=opI fun i j _ _ _ _ _ hc q=>by have h1:(0:Int)<j:=hc.1;have h2:j<1073741824:=hc.2;exact floordiv_int (by omega) (by rw[Int.fdiv_eq_ediv_of_nonneg i (by omega)];exact q) (.inl (PyProof.noPylong_small (by omega)))
theorem Fi:OpR X (binaryOp .Mod) (rI (fun _ j=>0<j) fun i j=>.int (i%j)):=opI fun i j _ _ _ _ _ hc q=>by have h1:(0:Int)<j:=hc;exact mod_int' (by omega) (by rw[Int.fmod_eq_emod_of_nonneg i (by omega)];exact q)
end
def Gh:V->V->Bool
 |.non,.non=>true|.non,.int _=>true|.int _,.non=>true|.non,.bl _=>true|.bl _,.non=>true|.non,.str _=>true|.str _,.non=>true
 |.int _,.int _=>true|.bl _,.bl _=>true|.str _,.str _=>true|.byt _,.byt _=>true
 |.int _,.str _=>true|.str _,.int _=>true|.bl _,.str _=>true|.str _,.bl _=>true
 |_,_=>false
def rEq:R2:=fun x y H Q=>Gh x y=true/\Q (.bl (decide (x=y))) H
def rNe:R2:=fun x y H Q=>Gh x y=true/\Q (.bl (!decide (x=y))) H
theorem uW{i j:Int}:decide (V.int i=V.int j)=(i==j):=by rw[Bool.eq_iff_iff];simp
theorem ya{i j:Bool}:decide (V.bl i=V.bl j)=(i==j):=by rw[Bool.eq_iff_iff];simp
theorem uX{i j:Str}:decide (V.str i=V.str j)=(i==j):=by rw[Bool.eq_iff_iff];simp
theorem uV{i j:Array UInt8}:decide (V.byt i=V.byt j)=(i.toList==j.toList):=by rw[Bool.eq_iff_iff];cases i;cases j;simp
section
variable{X:Cx}{a b c:Expr}{ta tb tc:TE}{pos:Pos}
theorem aT{pins:List (Addr×Obj)}{σ:St}{H:Hp}{s:Shared}{Q:VK}{k k':Bool}(I:Inv X pins σ H s)(q:Q (.bl k) H)(e:k=k'):EP X pins σ Q (.bool k') s:=by subst e;exact⟨.bl k,H,I,rfl,q⟩
theorem Hk:OpR X (compareOp .Eq) rEq:=by
 intro pins s σ H x y v u Q I rx ry h;obtain⟨hs,q⟩:=h;cases x with
 |non =>
  cases rx;cases y with
  |non=>cases ry;exact PySem.EqNone.eq_none_none (aT I q (by simp))
  |bl j=>cases ry;exact PySem.EqNone.eq_none_bool (aT I q (by simp))
  |int j=>obtain⟨t',rfl⟩:=ry;exact PySem.EqNone.eq_none_int (aT I q (by simp))
  |str j=>obtain⟨t',rfl⟩:=ry;exact PySem.EqNone.eq_none_str (aT I q (by simp))
  |_=>exact absurd (show false=true from hs) Zr
 |bl i =>
  cases rx;cases y with
  |non=>cases ry;exact PySem.EqNone.eq_bool_none (aT I q (by simp))
  |bl j=>cases ry;exact eq_bool (aT I q ya)
  |str j=>obtain⟨t',rfl⟩:=ry;exact PySem.EqMixed.eq_bool_str (aT I q (by simp))
  |_=>exact absurd (show false=true from hs) Zr
 |int i =>
  obtain⟨t,rfl⟩:=rx;cases y with
  |non=>cases ry;exact PySem.EqNone.eq_int_none (aT I q (by simp))
  |int j=>obtain⟨t',rfl⟩:=ry;exact eq_int (aT I q uW)
  |str j=>obtain⟨t',rfl⟩:=ry;exact PySem.EqMixed.eq_int_str (aT I q (by simp))
  |_=>exact absurd (show false=true from hs) Zr
 |str i =>
  obtain⟨t,rfl⟩:=rx;cases y with
  |non=>cases ry;exact PySem.EqNone.eq_str_none (aT I q (by simp))
  |bl j=>cases ry;exact PySem.EqMixed.eq_str_bool (aT I q (by simp))
  |int j=>obtain⟨t',rfl⟩:=ry;exact PySem.EqMixed.eq_str_int (aT I q (by simp))
  |str j=>obtain⟨t',rfl⟩:=ry;exact eq_str (aT I q uX)
  |_=>exact absurd (show false=true from hs) Zr
 |byt i =>
  obtain⟨t,rfl⟩:=rx;cases y with
  |byt j=>obtain⟨t',rfl⟩:=ry;exact PySem.W.eq_bytes (aT I q uV)
  |_=>exact absurd (show false=true from hs) Zr
 |_=>cases y<;>exact absurd (show false=true from hs) Zr
theorem Ho:OpR X (compareOp .NotEq) rNe:=by
 intro pins s σ H x y v u Q I rx ry h;obtain⟨hs,q⟩:=h;cases x with
 |non =>
  cases rx;cases y with
  |non=>cases ry;exact PySem.EqNone.ne_none_none (aT I q (by simp))
  |bl j=>cases ry;exact PySem.EqNone.ne_none_bool (aT I q (by simp))
  |int j=>obtain⟨t',rfl⟩:=ry;exact PySem.EqNone.ne_none_int (aT I q (by simp))
  |str j=>obtain⟨t',rfl⟩:=ry;exact PySem.EqNone.ne_none_str (aT I q (by simp))
  |_=>exact absurd (show false=true from hs) Zr
 |bl i =>
  cases rx;cases y with
  |non=>cases ry;exact PySem.EqNone.ne_bool_none (aT I q (by simp))
  |bl j=>cases ry;exact ne_bool (aT I q (ZW not ya))
  |str j=>obtain⟨t',rfl⟩:=ry;exact PySem.EqMixed.ne_bool_str (aT I q (by simp))
  |_=>exact absurd (show false=true from hs) Zr
 |int i =>
  obtain⟨t,rfl⟩:=rx;cases y with
  |non=>cases ry;exact PySem.EqNone.ne_int_none (aT I q (by simp))
  |int j=>obtain⟨t',rfl⟩:=ry;exact ne_int (aT I q (ZW not uW))
  |str j=>obtain⟨t',rfl⟩:=ry;exact PySem.EqMixed.ne_int_str (aT I q (by simp))
  |_=>exact absurd (show false=true from hs) Zr
 |str i =>
  obtain⟨t,rfl⟩:=rx;cases y with
  |non=>cases ry;exact PySem.EqNone.ne_str_none (aT I q (by simp))
  |bl j=>cases ry;exact PySem.EqMixed.ne_str_bool (aT I q (by simp))
  |int j=>obtain⟨t',rfl⟩:=ry;exact PySem.EqMixed.ne_str_int (aT I q (by simp))
  |str j=>obtain⟨t',rfl⟩:=ry;exact ne_str (aT I q (ZW not uX))
  |_=>exact absurd (show false=true from hs) Zr
 |byt i =>
  obtain⟨t,rfl⟩:=rx;cases y with
  |byt j=>obtain⟨t',rfl⟩:=ry;exact PySem.W.ne_bytes (aT I q (ZW not uV))
  |_=>exact absurd (show false=true from hs) Zr
 |_=>cases y<;>exact absurd (show false=true from hs) Zr
theorem Hn:OpR X (compareOp .Lt) (rI0 fun i j=>.bl (decide (i<j))):=Ba fun _ _ _ _ _ _ _ q=>lt_int q
theorem Hm:OpR X (compareOp .Gt) (rI0 fun i j=>.bl (decide (j<i))):=Ba fun _ _ _ _ _ _ _ q=>gt_int q
theorem Hl:OpR X (compareOp .GtE) (rI0 fun i j=>.bl (decide (j<=i))):=Ba fun _ _ _ _ _ _ _ q=>ge_int q
theorem Dj:OpR X (compareOp .IsNot) (fun x y H Q=>y=.non/\Q (.bl (!decide (x=.non))) H):=by
 intro pins s σ H x y v u Q I rx ry h;obtain⟨rfl,q⟩:=h;cases ry;refine isnot_none_gen (aT I q ?_);cases x<;>first
  |(cases rx;rfl)
  |(obtain⟨t,rfl⟩:=rx;rfl)
theorem yD(b:Expr){op:CmpOp}(h:op≠.In:=by decide)(h2:op≠.NotIn:=by decide):behindInMarks op b=false:=by
 have e1:(op==CmpOp.In)=false:=by cases op<;>first|rfl|exact absurd rfl h
 have e2:(op==CmpOp.NotIn)=false:=by cases op<;>first|rfl|exact absurd rfl h2
 cases b<;>simp[behindInMarks,e1,e2]
theorem Dq{op:CmpOp}{r:R2}(ho:OpR X (compareOp op) r)(ha:PE X a ta)(hb:PE X b tb)(hm:behindInMarks op b=false):PE X (.Compare a [op] [b] pos) (tOp r ta tb):=by intro pins s σ H Q I h;exact wpAny_Compare1 (Ag ha hb I h fun v u s2 x y H2 I2 rx ry q=>ho pins s2 σ H2 x y v u Q I2 rx ry q) hm
def Cz(t:TE):TT:=fun σ H Q=>t σ H fun x H'=>∃k,x=.bl k/\Q k H'
theorem DK{op:CmpOp}{r:R2}(ho:OpR X (compareOp op) r)(ha:PE X a ta)(hb:PE X b tb)(hm:behindInMarks op b=false):PT X (.Compare a [op] [b] pos) (Cz (tOp r ta tb)):=by
 intro pins s σ H Q I h;refine wpAny_isTrue_Compare1 (thn (ha pins s σ H _ I h) fun v s1 ⟨x,H1,I1,r1,q1⟩=>thn (hb pins s1 σ H1 _ I1 q1) fun u s2 ⟨y,H2,I2,r2,q2⟩ =>
  thn (ho pins s2 σ H2 x y v u _ I2 r1 r2 q2) fun c s3 ⟨z,H3,I3,r3,k,e,q3⟩=>?_) hm
 subst e;cases r3;exact wpAny_truthy_bool ⟨H3,I3,q3⟩
theorem nI:(sizeLine:Nat)<2^63:=by rw[sizeLine_eq];decide
theorem fq{x:V}{us:List Value}(r:Vals [x] us):∃u,us=[u]/\RelV x u:=by
 cases r with
 |cons r1 r2=>cases r2;exact⟨_,rfl,r1⟩
theorem xJ{x y:V}{us:List Value}(r:Vals [x,y] us):∃u w',us=[u,w']/\RelV x u/\RelV y w':=by
 cases r with
 |cons r1 r2 =>
  cases r2 with
  |cons r3 r4=>cases r4;exact⟨_,_,rfl,r1,r3⟩
theorem xU(hc:X.calm=true):eO X (.builtin "max") (fun xs H Q=>∃i j,xs=[.int i,.int j]/\Q (.int (if j>i then j else i)) H):=by
 intro pins s σ H xs us Q I r h;obtain⟨i,j,rfl,q⟩:=h;obtain⟨u,w',rfl,⟨t,rfl⟩,⟨t',rfl⟩⟩:=xJ r;refine max_two_ints (I.ok.hd hc) fun h' tk k=>⟨_,H,I.kept k,?_,q⟩
 by_cases hj:j>i
 ·rw[if_pos hj,if_pos hj];exact⟨_,rfl⟩
 ·rw[if_neg hj,if_neg hj];exact⟨_,rfl⟩
end
open PySem PySem.Spec PyProof.Rows
structure ObjM(h:Heap)(x dx C:Addr)(mA:Str->Option Value):Prop where
 obj:h.get? x=some (PySem.W.instObj C dx)
 ns:h.Ns1 dx mA
 ne:dx≠x
theorem yx{h:Heap}{dx:Addr}{mA:Str->Option Value}(n:h.Ns1 dx mA):∃od,h.get? dx=some od/\∀name,PySem.W.lookIn name od=some (mA name):=by
 obtain⟨o,es,ep,ho,hd,hk,_,hm⟩:=n;refine⟨o,ho,fun name=>?_⟩;have e:=hm name;unfold nsFind findBy at e;rw[<-Array.find?_toList]at e;unfold PySem.W.lookIn;rw[hd];dsimp only;split
 ·rename_i y q;rw[q]at e;exact ZW some e
 ·rename_i q;rw[q]at e;have a:es.toList.any (·.refKey)=false:=by rw[List.any_eq_false];intro y hy;obtain⟨z,t,hkey⟩:=hk y (Array.mem_toList_iff.mp hy);simp[DictEntry.refKey,hkey]
  have a':¬es.toList.any (·.refKey)=true:=by rw[a];exact Zr
  rw[if_neg a'];exact ZW some e
theorem ObjM.look{h:Heap}{x dx C:Addr}{mA:Str->Option Value}(I:ObjM h x dx C mA):∃od,PySem.W.InstAt h x (PySem.W.instObj C dx) C (some od)/\∀name,PySem.W.lookIn name od=some (mA name) :=
 let⟨od,ho,hl⟩:=yx I.ns
 ⟨od,⟨I.obj,rfl,rfl,ho⟩,hl⟩
section
variable{prog:Program}{w:World}{A:Around}{E:Value->Shared->Prop}{s:Shared}{K:PySem.W.Frag}{x dx C f:Addr}{mA:Str->Option Value}{name:Str}{v:Value}
theorem CZ{expr:Bool}{Q:Value->Shared->Prop}(X:K.In s.heap)(I:ObjM s.heap x dx C mA)(hg:PySem.W.plainGet K C name=true)(hh:PySem.W.hasDictIn K C=true)(ha:PySem.W.findIn K (.ref C) name=some none)(hv:mA name=some v)(hv':PySem.W.handedIn v=true)(h:Q v { s with toks:=s.toks+1 }) :
  wpAny (model prog w) A (getAttr (.ref x) name expr) Q E s:=by
 obtain⟨od,J,hl⟩:=I.look;exact PySem.W.get_value X J (PySem.W.plainGet_of hg).1 (PySem.W.findObj_own hh ha rfl (by rw[hl,hv])) hv' h
theorem Ax{pl:Sem Bool}{Q:Value×List Value->Shared->Prop}(X:K.In s.heap)(I:ObjM s.heap x dx C mA)(hg:PySem.W.plainGet K C name=true)(hf:PySem.W.findIn K (.ref C) name=some (some (.ref f)))(ht:PySem.W.isFn K (.ref f)=true)(hv:mA name=none)(h:Q (.ref f,[.ref x]) s) :
  wpAny (model prog w) A (getMethod (.ref x) name pl) Q E s:=by
 obtain⟨od,J,hl⟩:=I.look;exact PySem.W.method_fn X J (PySem.W.plainGet_of hg).1 (PySem.W.plainGet_of hg).2 hf (Z0.mp ht) (by show(PySem.W.lookIn name od).map (·.isSome)=some false;rw[hl,hv];rfl) h
theorem DV{ns:List Str}{Q:Unit->Shared->Prop}(X:K.In s.heap)(I:ObjM s.heap x dx C mA)(hs:PySem.W.findIn K (.ref C) "__setattr__" = some (some (.builtin "object.__setattr__")))(hp:PySem.W.plainOver K C=true)(ht:PySem.W.takerIn K C name=some none)(hh:PySem.W.hasDictIn K C=true)(hw:PySem.Within mA ns)(hsz:ns.length<=sizeLine)(h:∀h',ObjM h' x dx C (fun y=>if y=name then some v else mA y)->Heap.SameBut dx s.heap h'->Q () { s with heap:=h',toks:=s.toks+2 }) :
  wpAny (model prog w) A (setAttr (.ref x) name v) Q E s:=by
 obtain⟨od,J,hl⟩:=I.look;refine PySem.W.set_plain X J hs (PySem.W.osa_open (s:={ s with toks:=s.toks+1 }) (r:=none) X J hp ht fun b=>?_);obtain⟨cd,hc,hd'⟩:=PySem.W.any_some hh;have hx:s.heap.get? x=some ⟨.ref C,some dx,.plain,#[]⟩:=I.obj;refine Za (Zh (Za (Za (wpAny_loadPart hx (Za (PySem.W.Looks.here (s:={ s with toks:=s.toks+1 }) (PySem.W.looks_clsIn X hc) ?_))))));rw[hd'];refine Zh (a:=some dx) (Za (Zh (Za ?_)));refine wpAny_nsSet1 (s:={ s with toks:=s.toks+1 }) I.ns fun h' hn2 hs2=>?_;obtain⟨oD,esD,epD,hoD,hdD,hcD⟩:=hn2.count (PySem.Within.cons name v hw);refine Za (wpAny_lookBehind hoD (by rw[hdD];exact pastItsLine_dict (ZI hcD (by rw[Zm];omega))) ?_);exact Zh (h _ ⟨(hs2.2 _ (y9 I.ne)).trans I.obj,hn2,I.ne⟩ hs2)
theorem AO{R:Result->Shared->Prop}{vs:List Value}{kw:List (Str×Value)}(X:K.In s.heap)(hm:PySem.W.makesIn K C=true)(hi:PySem.W.findIn K (.ref C) "__init__" = some (some (.ref f)))(hf:PySem.W.typeIn K (.ref f)=some (.type "function"))(h:codeAny (model prog w) (A.under (.builtin "type.__call__" ⟨.ref C::vs,kw⟩)) (.call (.ref f) ⟨.ref (s.heap.objs.size+1)::vs,kw⟩) (PySem.W.InitBack (s.heap.objs.size+1) R)
   { s with heap:=(s.heap.push PySem.W.emptyDict).push (PySem.W.instObj C s.heap.objs.size) }) :
  codeAny (model prog w) A (.call (.ref C) ⟨vs,kw⟩) R s:=by
 obtain⟨hh,g,d,t,os⟩:=s;exact PySem.W.make_core (PySem.W.makes_of X hm) (PySem.W.looks_findIn X hi) (fun self=>PySem.W.bind_fn X self hf) (.inl rfl) h
end
def dw(f:Str)(v:V):List (Str×V)->List (Str×V)
 | []=>[(f,v)]
 |(g,x)::r=>if g=f then(g,v)::r else(g,x)::dw f v r
theorem dq(f g:Str)(v:V):∀fs:List (Str×V),(dw f v fs).lookup g=if g=f then some v else fs.lookup g
 | []=>by
  show List.lookup g [(f,v)]=_;by_cases h:g=f
  ·have hb:(g==f)=true:=Z0.mpr h;simp only[List.lookup,hb,if_pos h]
  ·have hb:(g==f)=false:=YZ.mpr h;simp only[List.lookup,hb,if_neg h]
 |(k,x)::r=>by
  have ih:=dq f g v r;rw[show dw f v ((k,x)::r)=(if k=f then(k,v)::r else(k,x)::dw f v r)from rfl];by_cases hk:k=f
  ·rw[if_pos hk];by_cases h:g=k
   ·have hb:(g==k)=true:=Z0.mpr h;simp only[List.lookup,hb,if_pos (h.trans hk)]
   ·have hb:(g==k)=false:=YZ.mpr h;simp only[List.lookup,hb,if_neg (fun e:g=f=>h (e.trans hk.symm))]
  ·rw[if_neg hk];by_cases h:g=k
   ·have hb:(g==k)=true:=Z0.mpr h;simp only[List.lookup,hb,if_neg (fun e:g=f=>hk (h.symm.trans e))]
   ·have hb:(g==k)=false:=YZ.mpr h;simp only[List.lookup,hb];exact ih
theorem ko(f:Str)(v:V):∀fs:List (Str×V),f∈(dw f v fs).map (·.1)/\∀g,g∈fs.map (·.1)->g∈(dw f v fs).map (·.1)
 | []=>⟨by simp[dw],fun g h=>by simp at h⟩
 |(k,x)::r=>by
  obtain⟨i1,i2⟩:=ko f v r;rw[show dw f v ((k,x)::r)=(if k=f then(k,v)::r else(k,x)::dw f v r)from rfl];by_cases hk:k=f
  ·rw[if_pos hk];subst hk;exact⟨by simp,fun g h=>by simpa using h⟩
  ·rw[if_neg hk];refine⟨?_,fun g h=>?_⟩
   ·rw[Zw];exact Zt _ i1
   ·rw[Zw]at h ⊢;rcases Zl.mp h with e|e
    ·exact Zl.mpr (.inl e)
    ·exact Zt _ (i2 g e)
theorem mf(f:Str)(v:V):∀fs:List (Str×V),(dw f v fs).length<=fs.length+1
 | []=>by simp[dw]
 |(k,x)::r=>by
  have ih:=mf f v r;rw[show dw f v ((k,x)::r)=(if k=f then(k,v)::r else(k,x)::dw f v r)from rfl];by_cases hk:k=f
  ·rw[if_pos hk,Zm,Zm];omega
  ·rw[if_neg hk,Zm,Zm];omega
theorem RelO.some_of{v:V}{o:Option Value}(r:RelO (some v) o):∃u,o=some u/\RelV v u:=by
 cases o with
 |none=>exact(show False from r).elim
 |some u=>exact⟨u,rfl,r⟩
theorem RelO.none_of{o:Option Value}(r:RelO none o):o=none:=by
 cases o with
 |none=>rfl
 |some u=>exact(show False from r).elim
theorem yj{v:V}{u:Value}(r:RelV v u):PySem.W.handedIn u=true:=by
 cases v with
 |non=>cases(show u=Value.none from r);rfl
 |bl b=>cases(show u=Value.bool b from r);rfl
 |int i=>obtain⟨t,e⟩:=(show∃t,u=Value.int i t from r);cases e;rfl
 |str x=>obtain⟨t,e⟩:=(show∃t,u=Value.str x t from r);cases e;rfl
 |byt b=>obtain⟨t,e⟩:=(show∃t,u=Value.bytes b t from r);cases e;rfl
 |flt b=>obtain⟨t,e⟩:=(show∃t,u=Value.float b t from r);cases e;rfl
 |ref a=>cases(show u=Value.ref a from r);rfl
 |ty n=>cases(show u=Value.type n from r);rfl
section
variable{P:Program}{w:World}{H H':Hp}{h h':Heap}{a C dx:Addr}{fs fs':List (Str×V)}
theorem oW(hok:HOk P w H h)(e:H a=some (.ins C dx fs)):∃mA,ObjM h a dx C mA/\(∀f,RelO (fs.lookup f) (mA f))/\PySem.Within mA (fs.map (·.1))/\fs.length<=1000/\H dx=some (.own a):=by
 obtain⟨d,z,ne,ob,mA,n,r,q⟩:=(show ObjOk P w H h a (.ins C dx fs)from hok a _ e)
 exact⟨mA,⟨ob,n,ne⟩,r,q,z,d⟩
end
structure Cls(K:PySem.W.Frag)(C:Addr):Prop where
 pg:PySem.W.plainGet K C Str.empty=true
 hd:PySem.W.hasDictIn K C=true
 po:PySem.W.plainOver K C=true
 sa:PySem.W.findIn K (.ref C) "__setattr__" = some (some (.builtin "object.__setattr__"))
theorem Cls.get{K:PySem.W.Frag}{C:Addr}(c:Cls K C)(f:Str):PySem.W.plainGet K C f=true:=c.pg
def NoAttr(K:PySem.W.Frag)(C:Addr)(f:Str):Prop:=PySem.W.findIn K (.ref C) f=some none
theorem NoAttr.taker{K:PySem.W.Frag}{C:Addr}{f:Str}(n:NoAttr K C f):PySem.W.takerIn K C f=some none:=by unfold PySem.W.takerIn;rw[show PySem.W.findIn K (.ref C) f=some none from n];rfl
structure Con(K:PySem.W.Frag)(C:Addr)(f:Str)(v:V)(u:Value):Prop where
 at_:PySem.W.findIn K (.ref C) f=some (some u)
 rel:RelV v u
 get:PySem.W.specialIn K u "__get__" = some none
 cp:PySem.W.copiedNames.contains f=false
structure Meth(K:PySem.W.Frag)(C:Addr)(m:Str)(f:Addr):Prop where
 at_:PySem.W.findIn K (.ref C) m=some (some (.ref f))
 fn:PySem.W.isFn K (.ref f)=true
 kp:PySem.W.keepIn K (.ref f)=true
section
variable{X:Cx}{pins:List (Addr×Obj)}{σ:St}{H:Hp}{s:Shared}{a C dx:Addr}{fs:List (Str×V)}{f:Str}{v:V}{A:Around}{E:Value->Shared->Prop}
theorem wL{b:Bool}{Q:Value->Shared->Prop}(I:Inv X pins σ H s)(e:H a=some (.ins C dx fs))(c:Cls X.K C)(n:NoAttr X.K C f)(l:fs.lookup f=some v)(h:∀u s',Inv X pins σ H s'->RelV v u->Q u s'):wpAny (model X.prog X.w) A (getAttr (.ref a) f b) Q E s:=by obtain⟨mA,O,r,_,_,_⟩:=oW I.hok e;obtain⟨u,hu,ru⟩:=RelO.some_of (v:=v) (o:=mA f) (by rw[<-l];exact r f);exact CZ I.kIn O (c.get f) c.hd n hu (yj ru) (h u _ (I.tok _) ru)
theorem nC{m:Str}{g:Addr}{pl:Sem Bool}{Q:Value×List Value->Shared->Prop}(I:Inv X pins σ H s)(e:H a=some (.ins C dx fs))(c:Cls X.K C)(k:Meth X.K C m g)(l:fs.lookup m=none)(h:Q (.ref g,[.ref a]) s):wpAny (model X.prog X.w) A (getMethod (.ref a) m pl) Q E s:=by obtain⟨mA,O,r,_,_,_⟩:=oW I.hok e;have hn:mA m=none:=RelO.none_of (by rw[<-l];exact r m);exact Ax I.kIn O (c.get m) k.at_ k.fn hn h
theorem xy{y:V}{u:Value}{Q:Unit->Shared->Prop}(I:Inv X pins σ H s)(e:H a=some (.ins C dx fs))(c:Cls X.K C)(n:NoAttr X.K C f)(hl:fs.length<1000)(ry:RelV y u)(h:∀s',Inv X pins σ (upd H a (.ins C dx (dw f y fs))) s'->Q () s'):wpAny (model X.prog X.w) A (setAttr (.ref a) f u) Q E s:=by
 obtain⟨mA,O,r,wi,_,ho⟩:=oW I.hok e;have hz:(fs.map (·.1)).length<=sizeLine:=by rw[Zf,sizeLine_eq];omega
 refine DV I.kIn O c.sa c.po n.taker c.hd wi hz fun h' O' sb=>h _ ?_;have hd:∃o,h'.get? dx=some o:=let⟨o,_,_,e',_⟩:=O'.ns;⟨o,e'⟩
 refine I.write (x:=a) (e:=dx) (by rw[e];exact True.intro) (.inr ho) (fun b q hb z=>(sb.2 b hb).trans z) hd ?_;refine⟨by rw[ah O.ne];exact ho,?_,O.ne,O'.obj,_,O'.ns,fun g=>?_,fun g hg=>?_⟩
 ·have:=mf f y fs;omega
 ·show RelO ((dw f y fs).lookup g) (if g=f then some u else mA g);rw[dq];by_cases q:g=f
  ·rw[if_pos q,if_pos q];exact ry
  ·rw[if_neg q,if_neg q];exact r g
 ·by_cases q:g=f
  ·rw[q];exact(ko f y fs).1
  ·refine(ko f y fs).2 g (wi g fun z=>hg ?_);show(if g=f then some u else mA g)=none;rw[if_neg q];exact z
theorem Inv.made(I:Inv X pins σ H s):Inv X pins σ (upd (upd H s.heap.objs.size (.own (s.heap.objs.size+1))) (s.heap.objs.size+1) (.ins C s.heap.objs.size []))
  { s with heap:=(s.heap.push PySem.W.emptyDict).push (PySem.W.instObj C s.heap.objs.size) }:=by
 have e1:(s.heap.push PySem.W.emptyDict).get? s.heap.objs.size=some PySem.W.emptyDict:=Zo s.heap rfl;have e2:((s.heap.push PySem.W.emptyDict).push (PySem.W.instObj C s.heap.objs.size)).get? (s.heap.objs.size+1)=some (PySem.W.instObj C s.heap.objs.size):=by
  have:=Zo (s.heap.push PySem.W.emptyDict) (o:=PySem.W.instObj C s.heap.objs.size) rfl
  rwa [Yq]at this
 have e3:(s.heap.push PySem.W.emptyDict).Ns s.heap.objs.size (fun _=>none):=⟨PySem.W.emptyDict,#[],_,e1,rfl,(fun e he=>absurd he (by simp)),fun _=>rfl⟩
 have I1:=I.laid (a:=s.heap.objs.size) (o:=.own (s.heap.objs.size+1)) (h':=s.heap.push PySem.W.emptyDict) (t':=s.toks) (fun b u q=>Zb _ q) (Ze _) ⟨_,e1⟩;refine I1.laid (a:=s.heap.objs.size+1) (o:=.ins C s.heap.objs.size []) (t':=s.toks) (fun b u q=>Zb _ q) (Nat.le_of_eq (Yq _ _)) ?_;have ne:s.heap.objs.size≠s.heap.objs.size+1:=ZD (Nat.lt_succ_self _);refine⟨by rw[ah ne,ae],y0 _,ne,e2,fun _=>none,(Heap.Ns1.of_empty e3).at fun o q=>Zb _ q,fun _=>True.intro,fun y hy=>absurd rfl hy⟩
theorem CO{prog:Program}{w:World}{env:Env}{e:Expr}{f:Str}{pos:Pos}{s:Shared}{Q:Value->Shared->Prop}(hb:attributeBase e f env (eval e env)=eval e env)(h:wpAny (model prog w) A (eval e env) (fun o s₁=>wpAny (model prog w) A (getAttr o f true) Q E s₁) E s):wpAny (model prog w) A (eval (.Attribute e f pos) env) Q E s :=
 Attribute_any_ h (by rw[arm_eval_Attribute,hb])
end
def Gs(K:PySem.W.Frag)(ta:TE)(f:Str):TE:=fun σ H Q=>ta σ H fun x H1=>∃a C dx fs v,x=.ref a/\H1 a=some (.ins C dx fs)/\Cls K C/\NoAttr K C f/\fs.lookup f=some v/\Q v H1
def Gc(K:PySem.W.Frag)(ta tv:TE)(f:Str):TS:=fun D σ H=>tv σ H fun y H1=>ta σ H1 fun x H2=>∃a C dx fs,x=.ref a/\H2 a=some (.ins C dx fs)/\Cls K C/\NoAttr K C f/\fs.length<1000 /\
 D.nx σ (upd H2 a (.ins C dx (dw f y fs)))
section
variable{X:Cx}{o e value:Expr}{f:Str}{pos pos' tpos:Pos}{ta tv:TE}
theorem Ft(he:PE X e ta)(hb:attributeBase e f X.env (eval e X.env)=eval e X.env):PE X (.Attribute e f pos) (Gs X.K ta f):=by intro pins s σ H Q I h;refine CO hb (thn (he pins s σ H _ I h) fun u s1 hz9=>?_);obtain⟨x,H1,I1,rx,a,C,dx,fs,v,ex,ea,c,n,l,q⟩:=hz9;subst ex;obtain rfl:u=Value.ref a:=rx;exact wL I1 ea c n l fun u' s2 I2 ru=>⟨v,H1,I2,ru,q⟩
theorem FL(ha:PE X o ta)(hv:PE X value tv)(hs:swapsWith value (some (.Attribute o f pos')) pos.line X.env=pure false):PS X (.Assign [.Attribute o f pos'] value pos) (Gc X.K ta tv f):=by intro pins s σ H D I h;refine plainObj_wpAny_Assign_Attribute (thn (hv pins s σ H _ I h) fun u s1 ⟨y,H1,I1,ry,q⟩=>thn (ha pins s1 σ H1 _ I1 q) fun ov s2 hz9=>?_) hs;obtain⟨x,H2,I2,rx,a,C,dx,fs,ex,ea,c,n,l,q2⟩:=hz9;subst ex;obtain rfl:ov=Value.ref a:=rx;exact xy I2 ea c n l ry fun s3 I3=>⟨σ,_,I3,q2⟩
end
section
variable{X:Cx}{pins:List (Addr×Obj)}{σ:St}{H:Hp}{s:Shared}{A:Around}{E:Value->Shared->Prop}{Q:Value->Shared->Prop}{c:Value}{b:Bool}
inductive TyOf(K:PySem.W.Frag)(H:Hp):V->Value->Prop where
 |non:TyOf K H .non (.type "NoneType")
 |bl (x:Bool):TyOf K H (.bl x) (.type "bool")
 |int (i:Int):TyOf K H (.int i) (.type "int")
 |str (x:Str):TyOf K H (.str x) (.type "str")
 |flt (x:UInt64):TyOf K H (.flt x) (.type "float")
 |lst {a:Addr} {xs:List V} (e:H a=some (.lst xs)):TyOf K H (.ref a) (.type "list")
 |frz {a:Addr} {o:Obj} {xs:List V} (e:H a=some (.frz o (.lst xs))):TyOf K H (.ref a) (.type "list")
 |tup {a:Addr} {xs:List V} (e:H a=some (.tup xs)):TyOf K H (.ref a) (.type "tuple")
 |dK {a:Addr} {kvs:List (Key×V)} (e:H a=some (.dK kvs)):TyOf K H (.ref a) (.type "dict")
 |dT {a:Addr} {kvs:List (List Key×V)} (e:H a=some (.dT kvs)):TyOf K H (.ref a) (.type "dict")
 |ins {a C dx:Addr} {fs:List (Str×V)} (e:H a=some (.ins C dx fs)) (cl:Cls K C) (ha:PySem.W.findIn K (.ref C) "__class__" = some (some (.builtin "object.__class__")))
   (hn:PySem.W.specialIn K (.builtin "object.__class__") "__get__" = some (some (.builtin "getset_descriptor.__get__"))) (htk:PySem.W.takesIn K (.builtin "object.__class__")=some true)
   (hm:PySem.W.mroIn K C (.type "object")=some true):TyOf K H (.ref a) (.ref C)
end
open PySem PySem.Spec PyProof.Rows
structure Room(k:Nat)(A:Around):Prop where
 hd:A.handled=none
 dp:A.depth+3*k+5<recursionLimit
 un:A.units+16*k+200<cLine
theorem Room.mono{j k:Nat}{A:Around}(r:Room k A)(h:j<=k):Room j A:=⟨r.hd,by have:=r.dp;omega,by have:=r.un;omega⟩
theorem Room.deeper{k:Nat}{A:Around}(r:Room (k+1) A)(env:Env):Room k (A.deeper env) :=
 ⟨r.hd,by have:=r.dp;show A.depth+1+3*k+5<_;omega,by have:=r.un;show A.units+3+16*k+200<_;omega⟩
theorem Room.in1{k:Nat}{A:Around}(r:Room (k+1) A):Room k A.in1 :=
 ⟨r.hd,by have:=r.dp;show A.depth+3*k+5<_;omega,by have:=r.un;show A.units+1+16*k+200<_;omega⟩
theorem wS{A:Around}{C:Addr}{us:List Value}{kw:List (Str×Value)}:(A.under (.builtin "type.__call__" ⟨.ref C::us,kw⟩)).depth=A.depth+1:=by
 first|rfl|simp[Around.under,Code.weight,Code.isCreation,Code.isGuard,Code.isCaller,Code.frames,Code.isFrame,guardIds]
theorem wU{A:Around}{C:Addr}{us:List Value}{kw:List (Str×Value)}:(A.under (.builtin "type.__call__" ⟨.ref C::us,kw⟩)).units=A.units+1:=by
 first|rfl|simp[Around.under,Code.cUnits,Code.frames,Code.isFrame]
theorem Room.make{k:Nat}{A:Around}(r:Room (k+1) A)(C:Addr)(us:List Value)(kw:List (Str×Value)):Room k (A.under (.builtin "type.__call__" ⟨.ref C::us,kw⟩)) :=
 ⟨r.hd,by have:=r.dp;rw[wS];omega,by have:=r.un;rw[wU];omega⟩
theorem Room.depth{k:Nat}{A:Around}(r:Room k A):A.depth<recursionLimit:=by have:=r.dp;omega
theorem Room.units{k:Nat}{A:Around}(r:Room k A):A.units+64<cLine:=by have:=r.un;omega
def mX:TA:=fun _ H Q=>Q [] H
def lP(ta:TE)(tr:TA):TA:=fun σ H Q=>ta σ H fun x H1=>tr σ H1 fun xs H2=>Q (x::xs) H2
section
variable{X:Cx}{e:Expr}{es:List Expr}{te:TE}{t:TA}{pos:Pos}
theorem yN:PA X [] mX:=fun _ _ _ _ H Q I h=>Calls.spliced_nil ⟨[],H,I,.nil,h⟩
theorem Do(ha:PE X e te)(hr:PA X es t)(hs:starEach (e::es) X.env=(false,eval e X.env)::starEach es X.env:=by rfl):PA X (e::es) (lP te t):=by intro pos pins s σ H Q I h;rw[hs];show wpAny _ _ (spliced ((false,eval e X.env)::backTo pos (starEach es X.env))) _ _ s;refine Calls.spliced_cons (thn (ha pins s σ H _ I h) fun u s1 hz9=>?_);obtain⟨x,H1,I1,r1,q1⟩:=hz9;exact thn (hr pos pins s1 σ H1 _ I1 q1) fun us s2 ⟨xs,H2,I2,r2,q2⟩=>⟨x::xs,H2,I2,.cons r1 r2,q2⟩
def GB(t:TA):TE:=fun σ H Q=>t σ H fun xs H1=>xs.length<=sizeLine/\∀p,H1 p=none->Q (.ref p) (upd H1 p (.tup xs))
def Gw(t:TA):TE:=fun σ H Q=>t σ H fun xs H1=>xs.length<=sizeLine/\∀p,H1 p=none->Q (.ref p) (upd H1 p (.lst xs))
theorem FB{x1}(h:PA X es t):PE X (.Tuple es x1 pos) (GB t):=by intro pins s σ H Q I hq;refine wpAny_Tuple_spliced (thn (h pos pins s σ H _ I hq) fun us s1 ⟨xs,H1,I1,r,z,q⟩=>⟨by rw[<-r.length];exact z,?_⟩);have hf:H1 s1.heap.objs.size=none:=I1.hok.fresh (Ze _);refine⟨.ref s1.heap.objs.size,upd H1 s1.heap.objs.size (.tup xs),I1.laid (t':=s1.toks) (fun b u e=>Zb _ e) (Ze _) ?_,rfl,q _ hf⟩;exact⟨z,us,r,⟨_,Zo _ rfl,rfl,_,rfl⟩⟩
theorem Fv(h:PA X es t):PE X (.List es pos) (Gw t):=by intro pins s σ H Q I hq;refine wpAny_List_spliced (thn (h pos pins s σ H _ I hq) fun us s1 ⟨xs,H1,I1,r,z,q⟩=>⟨by rw[<-r.length];exact z,?_⟩);have hf:H1 s1.heap.objs.size=none:=I1.hok.fresh (Ze _);refine⟨.ref s1.heap.objs.size,upd H1 s1.heap.objs.size (.lst xs),I1.laid (t':=s1.toks) (fun b u e=>Zb _ e) (Ze _) ?_,rfl,q _ hf⟩;exact⟨z,us,0,r,Zo _ rfl⟩
end
abbrev Sp:=List V->Hp->VK->XK->Prop
abbrev CXT:=List Env->Hp->Shared->XK->Value->Shared->Prop
structure Env0(P:Program)(w:World)(K:PySem.W.Frag)(mg:Str->Option Value)(base:Heap)(A:Around)(outer:List Env)(s:Shared)(H:Hp):Prop where
 frames:A.frames=some outer
 mod:Mod K mg base
 bs:∀b o,base.get? b=some o->s.heap.get? b=some o/\H b=none
 bsz:base.objs.size<=s.heap.objs.size
 funs:s.heap.FunFrames base outer
 frf:∀b∈frs outer,H b=none
 hok:HOk P w H s.heap
 bare:AllBare s.gens
def CE(outer:List Env)(P:Program)(w:World)(H:Hp)(s:Shared)(Q:VK)(u:Value)(s':Shared):Prop :=
 ∃v H',s'.os=s.os/\AllBare s'.gens/\Un (frs outer) [] H H' s.heap s'.heap/\HOk P w H' s'.heap/\RelV v u/\Q v H'
def CR(CX:CXT)(outer:List Env)(P:Program)(w:World)(H:Hp)(s:Shared)(Q:VK)(E:XK)(r:Result)(s':Shared):Prop :=
 match r with
 |.ok (.ret u)=>CE outer P w H s Q u s'
 |.ok _=>False
 |.error e=>CX outer H s E e s'
structure FnOk(P:Program)(w:World)(K:PySem.W.Frag)(mg:Str->Option Value)(base:Heap)(CX:CXT)(k:Nat)(f:Addr)(fd:FuncData)(ps:List Str)(sp:Sp):Prop where
 len:∀vs H Q E,sp vs H Q E->vs.length=ps.length
 run:∀(A:Around) (outer:List Env) (s:Shared) (H:Hp) (args:Args) (us:List Value) (vs:List V) (Q:VK) (E:XK),Room k A->Env0 P w K mg base A outer s H->BindsTo s fd args (ps.zip us)->Vals vs us->sp vs H Q E ->
  codeAny (model P w) A (.call (.ref f) args) (CR CX outer P w H s Q E) s
theorem Env0.make{P:Program}{w:World}{K:PySem.W.Frag}{mg:Str->Option Value}{base:Heap}{A:Around}{outer:List Env}{s:Shared}{H:Hp}(e:Env0 P w K mg base A outer s H)(C:Addr)(us:List Value)(kw:List (Str×Value)) :
  Env0 P w K mg base (A.under (.builtin "type.__call__" ⟨.ref C::us,kw⟩)) outer s H:=⟨by first|exact e.frames|(simpa[Around.under,Code.envs,Code.isFrame,pushEnvs]using e.frames),e.mod,e.bs,e.bsz,e.funs,e.frf,e.hok,e.bare⟩
section
variable{X:Cx}{pins:List (Addr×Obj)}{σ:St}{H:Hp}{s s':Shared}
theorem Inv.env0(I:Inv X pins σ H s):Env0 X.prog X.w X.K X.mg X.base X.A X.stack s H :=
 ⟨I.ok.frames,I.ok.mod,I.bs,ZI I.ok.bsz I.sz,I.stack,I.stkFree,I.hok,I.bare⟩
theorem Inv.after{Q:VK}{u:Value}(I:Inv X pins σ H s)(h:CE X.stack X.prog X.w H s Q u s'):EP X pins σ Q u s':=by obtain⟨v,H',os,bare,un,hok,r,q⟩:=h;obtain⟨hh,g,d,t,os'⟩:=s';obtain rfl:os'=s.os:=os;exact⟨v,H',I.call (h':=hh) (g':=g) (d':=d) (t':=t) (ch:=[]) un hok bare (fun b z=>absurd z (by simp)),r,q⟩
end
def rK(sp:Sp)(dvs:List V)(E:XK)(t:TA):TE:=fun σ H Q=>t σ H fun vs H1=>sp (vs++dvs) H1 Q E
def xz(C:Addr)(m:Str)(sp:Sp)(dvs:List V)(E:XK)(ta:TE)(t:TA):TE:=fun σ H Q=>ta σ H fun x H1=>∃a dx fs,x=.ref a/\H1 a=some (.ins C dx fs)/\fs.lookup m=none /\
 t σ H1 fun vs H2=>sp (x::(vs++dvs)) H2 Q E
def Cu(C:Addr)(sp:Sp)(dvs:List V)(E:XK)(t:TA):TE:=fun σ H Q=>t σ H fun vs H1=>∀x dx,H1 x=none->H1 dx=none->dx≠x ->
 sp (.ref x::(vs++dvs)) (upd (upd H1 dx (.own x)) x (.ins C dx [])) (fun v H2=>v=.non/\Q (.ref x) H2) E
def Binds(K:PySem.W.Frag)(fd:FuncData)(ps:List Str)(ds:List Value):Prop :=
 ∀(s:Shared) (us:List Value),K.In s.heap->(us++ds).length=ps.length->BindsTo s fd ⟨us,[]⟩ (ps.zip (us++ds))
theorem Binds.all{K:PySem.W.Frag}{fd:FuncData}{ps:List Str}(h:∀us:List Value,us.length=ps.length->bindArgs fd ⟨us,[]⟩=pure (ps.zip us)):Binds K fd ps []:=fun s us _ hl=>by rw[ZL]at hl ⊢;exact .of_eq (h us hl)
def eQ(CX:CXT)(X:Cx)(E:XK):Prop:=∀(pins:List (Addr×Obj)) (σ:St) (H:Hp) (s:Shared) (e:Value) (s':Shared),Inv X pins σ H s->CX X.stack H s E e s'->X.xe e s'
section
variable{X:Cx}{CX:CXT}{k:Nat}{f C:Addr}{fd:FuncData}{ps:List Str}{sp:Sp}{dvs:List V}{ds:List Value}{E:XK}{x m:Str}{p pos apos:Pos}{e o:Expr}{es:List Expr}{ta:TE}{t:TA}
theorem ze{pins:List (Addr×Obj)}{σ:St}{H:Hp}{s:Shared}{Q:VK}{us:List Value}{vs:List V}(F:FnOk X.prog X.w X.K X.mg X.base CX k f fd ps sp)(hr:Room k X.A)(hb:Binds X.K fd ps ds)(hd:Vals dvs ds)(hx:eQ CX X E)(I:Inv X pins σ H s)(r:Vals vs us)(h:sp (vs++dvs) H Q E):wpAny (model X.prog X.w) X.A (call (.ref f) us) (EP X pins σ Q) X.xe s:=by
 have r2:Vals (vs++dvs) (us++ds):=r.append hd;have hl:(us++ds).length=ps.length:=by rw[<-r2.length];exact F.len _ _ _ _ h
 refine wpAny_call (codeAny_mono (F.run X.A X.stack s H ⟨us,[]⟩ (us++ds) (vs++dvs) Q E hr I.env0 (hb s us I.kIn hl) r2 h) fun r s' hq=>?_);cases r with
 |error e=>exact hx pins σ H s e s' I hq
 |ok fl =>
  cases fl with
  |ret u=>exact I.after hq
  |next=>exact False.elim hq
  |brk=>exact False.elim hq
  |cont=>exact False.elim hq
theorem Dp(F:FnOk X.prog X.w X.K X.mg X.base CX k f fd ps sp)(hr:Room k X.A)(hg:Gl X x)(hm:X.mg x=some (.ref f))(hk:PySem.W.keepIn X.K (.ref f)=true)(hb:Binds X.K fd ps ds)(hd:Vals dvs ds)(hx:eQ CX X E)(ha:PA X (e::es) t)(hdb:(x==("__debug__":Str))=false:=by decide)(he:starEach (e::es) X.env=(false,eval e X.env)::starEach es X.env:=by rfl)(hpl:(backTo pos (starEach es X.env)).any (·.1)=false:=by rfl) :
  PE X (.Call (.Name x p) (e::es) [] pos) (rK sp dvs E t):=by
 intro pins s σ H Q I h;refine wpAny_Call_Name_kw (gP I hg hm ?_ hdb);refine PySem.W.callWith_K (h₀:=X.base) I.ok.mod.kin hk (thn (ha pos pins s σ H _ I h) fun us s1 ⟨vs,H1,I1,r,q⟩=>⟨I1.kIn,?_⟩) he hpl;exact ze F hr hb hd hx I1 r q
theorem vB{pl:Sem Bool}(he:PE X o ta)(c:Cls X.K C)(hm:Meth X.K C m f)(F:FnOk X.prog X.w X.K X.mg X.base CX k f fd ps sp)(hr:Room k X.A)(hb:Binds X.K fd ps ds)(hd:Vals dvs ds)(hx:eQ CX X E)(ha:PA X (e::es) t)(hst:starEach (e::es) X.env=(false,eval e X.env)::starEach es X.env:=by rfl)(hpl:(backTo pos (starEach es X.env)).any (·.1)=false:=by rfl)(ht:eval (.Call (.Attribute o m apos) (e::es) [] pos) X.env=(do
   let ov ←eval o X.env
   standAt apos.atName
   let(f,first) ←holding [ov] (getMethod ov m pl)
   callWith pos f first (backTo pos (starEach (e::es) X.env)) (backToKw pos (keywordEach [] X.env))):=by rfl) :
  PE X (.Call (.Attribute o m apos) (e::es) [] pos) (xz C m sp dvs E ta t):=by
 intro pins s σ H Q I h;refine PySem.W.methodCall_KW (pl:=pl) (thn (he pins s σ H _ I h) fun u s1 hz9=>?_) ht;obtain⟨x,H1,I1,rx,a,dx,fs,ex,ea,l,q⟩:=hz9;subst ex;obtain rfl:u=Value.ref a:=rx;refine nC I1 ea c hm l ?_;refine PySem.W.callWith_K (first:=[.ref a]) (h₀:=X.base) I.ok.mod.kin hm.kp (thn (ha pos pins s1 σ H1 _ I1 q) fun us s2 ⟨vs,H2,I2,r,q2⟩=>⟨I2.kIn,?_⟩) hst hpl;exact ze (us:=.ref a::us) (vs:=.ref a::vs) F hr hb hd hx I2 (.cons rfl r) q2
structure Mk(K:PySem.W.Frag)(C f:Addr):Prop where
 makes:PySem.W.makesIn K C=true
 init:PySem.W.findIn K (.ref C) "__init__" = some (some (.ref f))
 fn:PySem.W.isFn K (.ref f)=true
 kp:PySem.W.keepIn K (.ref C)=true
theorem Bt{pins:List (Addr×Obj)}{σ:St}{H:Hp}{s:Shared}{Q:VK}{us:List Value}{vs:List V}(M:Mk X.K C f)(F:FnOk X.prog X.w X.K X.mg X.base CX k f fd ps sp)(hr:Room (k+1) X.A)(hb:Binds X.K fd ps ds)(hd:Vals dvs ds)(hx:eQ CX X E)(I:Inv X pins σ H s)(r:Vals vs us)(h:∀x dx,H x=none->H dx=none->dx≠x->sp (.ref x::(vs++dvs)) (upd (upd H dx (.own x)) x (.ins C dx [])) (fun v H2=>v=.non/\Q (.ref x) H2) E) :
  wpAny (model X.prog X.w) X.A (call (.ref C) us) (EP X pins σ Q) X.xe s:=by
 have hq:=h (s.heap.objs.size+1) s.heap.objs.size (I.hok.fresh (Nat.le_succ _)) (I.hok.fresh (Ze _)) (ZD (Nat.lt_succ_self _));have I2:=Inv.made (C:=C) I;have r2:Vals (V.ref (s.heap.objs.size+1)::(vs++dvs)) (Value.ref (s.heap.objs.size+1)::(us++ds)):=.cons rfl (r.append hd);have hl:(Value.ref (s.heap.objs.size+1)::us++ds).length=ps.length:=by have e:=r2.length;rw[F.len _ _ _ _ hq]at e;exact e.symm
 refine wpAny_call (AO (f:=f) I.kIn M.makes M.init (Z0.mp M.fn) (codeAny_mono (F.run _ X.stack _ _ ⟨Value.ref (s.heap.objs.size+1)::us,[]⟩ (Value.ref (s.heap.objs.size+1)::(us++ds)) _ _ E (hr.make C us [])
  (I2.env0.make C us []) (hb _ (Value.ref (s.heap.objs.size+1)::us) I2.kIn hl) r2 hq) fun r s' hq'=>?_))
 cases r with
 |error e=>exact hx pins σ _ _ e s' I2 hq'
 |ok fl =>
  cases fl with
  |ret u =>obtain⟨v,H',I3,rv,ev,q3⟩:=I2.after hq';subst ev;exact⟨rv,⟨V.ref (s.heap.objs.size+1),H',I3,rfl,q3⟩⟩
  |next=>exact False.elim hq'
  |brk=>exact False.elim hq'
  |cont=>exact False.elim hq'
theorem Bg(M:Mk X.K C f)(F:FnOk X.prog X.w X.K X.mg X.base CX k f fd ps sp)(hr:Room (k+1) X.A)(hg:Gl X x)(hm:X.mg x=some (.ref C))(hb:Binds X.K fd ps ds)(hd:Vals dvs ds)(hx:eQ CX X E)(hdb:(x==("__debug__":Str))=false:=by decide):PE X (.Call (.Name x p) [] [] pos) (Cu C sp dvs E mX):=by intro pins s σ H Q I h;refine wpAny_Call_Name_kw (gP I hg hm ?_ hdb);exact PySem.W.callWith_K0 I.kIn M.kp (Bt (us:=[]) M F hr hb hd hx I .nil h)
end
def PK(X:Cx)(kws:List Keyword)(t:TA):Prop :=
 ∀(pos:Pos) (pins:List (Addr×Obj)) (s:Shared) (σ:St) (H:Hp) (Q:List V->Hp->Prop),Inv X pins σ H s->t σ H Q->wpAny (model X.prog X.w) X.A (evalAll ((backToKw pos (keywordEach kws X.env)).map (·.2))) (AP X pins σ Q) X.xe s
section
variable{X:Cx}{CX:CXT}{k:Nat}{f C:Addr}{fd:FuncData}{ps ks:List Str}{sp:Sp}{E:XK}{x m:Str}{p pos apos kpos:Pos}{e o:Expr}{es:List Expr}{kws:List Keyword}{te ta:TE}{t tk:TA}{nm:Option Str}
theorem FJ:PK X [] mX:=fun _ _ _ _ H Q I h=>wpAny_evalAll_nil ⟨[],H,I,.nil,h⟩
theorem DB(ha:PE X e te)(hr:PK X kws t):PK X (⟨nm,e,kpos⟩::kws) (lP te t):=by intro pos pins s σ H Q I h;show wpAny _ _ (evalAll ((do let v ←eval e X.env;standAt pos;pure v)::(backToKw pos (keywordEach kws X.env)).map (·.2))) _ _ s;refine wpAny_evalAll_cons (Za (thn (ha pins s σ H _ I h) fun u s1 ⟨x,H1,I1,r1,q1⟩=>Za (wpAny_standAt (Zh ?_))));exact thn (hr pos pins s1 σ H1 _ I1 q1) fun us s2 ⟨xs,H2,I2,r2,q2⟩=>⟨x::xs,H2,I2,.cons r1 r2,q2⟩
structure KBinds(K:PySem.W.Frag)(fd:FuncData)(ps ks:List Str)(g:List Value->List Value->List Value)(gV:List V->List V->List V):Prop where
 to:∀(s:Shared) (us ws:List Value),K.In s.heap->(g us ws).length=ps.length->BindsTo s fd ⟨us,ks.zip ws⟩ (ps.zip (g us ws))
 rel:∀{vs:List V} {us:List Value} {zs:List V} {ws:List Value},Vals vs us->Vals zs ws->Vals (gV vs zs) (g us ws)
variable{g:List Value->List Value->List Value}{gV:List V->List V->List V}
end
structure FnScope(N P:List Str)(sc:Scope):Prop where
 kind:sc.kind=.function
 co:sc.isCoroutine=false
 gen:sc.isGenerator=false
 nd:N.Nodup
 pre:N.take P.length=P
 par:∀x∈P,sc.names.lookup x=some .local\/sc.names.lookup x=some .cell
 nofree:∀y∈sc.names,y.2≠.free
theorem qm{kindOf:Str->Option NameKind}{x:Str}:∀{binds:List (Str×Value)} {m:Str->Option Value},(∀v,(x,v)∉binds)->bindL kindOf binds m x=m x
 | [],_,_=>rfl
 |(n,v)::r,m,h=>by
  unfold bindL;rw[qm fun w hw=>h w (Zt _ hw)];split
  ·have:x≠n:=by rintro rfl;exact h v Zv
   simp[this]
  ·rfl
theorem qj{kindOf:Str->Option NameKind}{x:Str}:∀{binds:List (Str×Value)} {m:Str->Option Value},(∀v,(x,v)∉binds)->bindC kindOf binds m x=m x
 | [],_,_=>rfl
 |(n,v)::r,m,h=>by
  unfold bindC;rw[qj fun w hw=>h w (Zt _ hw)];split
  ·rfl
  ·have:x≠n:=by rintro rfl;exact h v Zv
   simp[this]
theorem qk{kindOf:Str->Option NameKind}{x:Str}{v:Value}:∀{P:List Str} {vs:List Value} {i:Nat} {m:Str->Option Value},P.Nodup->P[i]?=some x->vs[i]?=some v->kindOf x=some .local ->
  bindL kindOf (P.zip vs) m x=some v
 | [],_,_,_,_,h,_,_=>by simp at h
 |_::_,[],_,_,_,_,h,_=>by simp at h
 |p::P,w::vs,0,m,nd,h1,h2,hk=>by simp at h1 h2;subst h1;subst h2;show bindL kindOf ((p,w)::P.zip vs) m p=_;unfold bindL;rw[qm fun v hv=>(List.nodup_cons.mp nd).1 (List.of_mem_zip hv).1,if_pos hk];simp
 |p::P,w::vs,i+1,m,nd,h1,h2,hk=>by show bindL kindOf ((p,w)::P.zip vs) m x=_;unfold bindL;exact qk (i:=i) (List.nodup_cons.mp nd).2 (by simpa using h1) (by simpa using h2) hk
theorem qi{kindOf:Str->Option NameKind}{x:Str}{v:Value}:∀{P:List Str} {vs:List Value} {i:Nat} {m:Str->Option Value},P.Nodup->P[i]?=some x->vs[i]?=some v->kindOf x≠some .local ->
  bindC kindOf (P.zip vs) m x=some v
 | [],_,_,_,_,h,_,_=>by simp at h
 |_::_,[],_,_,_,_,h,_=>by simp at h
 |p::P,w::vs,0,m,nd,h1,h2,hk=>by simp at h1 h2;subst h1;subst h2;show bindC kindOf ((p,w)::P.zip vs) m p=_;unfold bindC;rw[qj fun v hv=>(List.nodup_cons.mp nd).1 (List.of_mem_zip hv).1,if_neg hk];simp
 |p::P,w::vs,i+1,m,nd,h1,h2,hk=>by show bindC kindOf ((p,w)::P.zip vs) m x=_;unfold bindC;exact qi (i:=i) (List.nodup_cons.mp nd).2 (by simpa using h1) (by simpa using h2) hk
def start(N:List Str)(vs:List V):St:=vs.map some++List.replicate (N.length-vs.length) none
def fZ(CX:CXT)(P:Program)(w:World)(K:PySem.W.Frag)(mg:Str->Option Value)(base:Heap)(N:List Str)(qual:Str)(scope:Scope)(f:Addr)(cd:Value)(A:Around)(outer:List Env)(s:Shared)(H:Hp)(E:XK):Cx where
 prog:=P
 w:=w
 K:=K
 mg:=mg
 base:=base
 A:=A.deeper (envOfC qual scope s.heap.objs.size f cd)
 N:=N
 s₀:=s
 H₀:=H
 env:=envOfC qual scope s.heap.objs.size f cd
 outer:=outer
 stack:=envOfC qual scope s.heap.objs.size f cd::outer
 ex:=[]
 calm:=true
 fn:=fun _=>true
 pn:=[]
 xe:=fun e s'=>wpAny (model P w) (A.deeper (envOfC qual scope s.heap.objs.size f cd)) (leaving (envOfC qual scope s.heap.objs.size f cd) e) (fun _ s''=>CX outer H s E e s'') (fun e' s''=>CX outer H s E e' s'') s'
theorem sh{sc:Scope}{n:Nat}{x:Str}(h:sc.names.lookup x=some .cell):∃c,(cellsFrom n sc.names []).lookup x=some c:=by have q:=PySem.W.cellsFrom_some sc.names n [] (.inl h);exact ZY.mp q
theorem yn{CX:CXT}{P:Program}{w:World}{K:PySem.W.Frag}{mg:Str->Option Value}{base:Heap}{N ps:List Str}{qual:Str}{scope:Scope}{f:Addr}{cd:Value}{A:Around}{outer:List Env}{s s1:Shared}{H:Hp}{E:XK}{us:List Value}{vs:List V}(S:FnScope N ps scope)(hd:A.handled=none)(e0:Env0 P w K mg base A outer s H)(hl:vs.length=ps.length)(r:Vals vs us)(x:InCallC s s.heap.objs.size (bindL (envOfC qual scope s.heap.objs.size f cd).kindOf (ps.zip us) fun _=>none) (cellsFrom (s.heap.objs.size+1) scope.names []) (bindC (envOfC qual scope s.heap.objs.size f cd).kindOf (ps.zip us) fun _=>none) s1) :
  Inv (fZ CX P w K mg base N qual scope f cd A outer s H E) [] (start N vs) H s1:=by
 have hpl:ps.length<=N.length:=by have:=ZW List.length S.pre;rw[ZM]at this;omega
 obtain⟨h1,tk,rfl,hk⟩:=x.done;have noA:∀b:Addr,b∉(fZ CX P w K mg base N qual scope f cd A outer s H E).ex:=fun b z=>absurd (show b∈([]:List Addr)from z) (by simp);refine⟨⟨e0.mod,S.kind,rfl,rfl,Ze _,fun y z c h1 h2=>?_,fun y hy=>?_,fun y c _ h=>?_,fun _=>hd,Around.frames_deeper e0.frames,.inr ⟨rfl,rfl⟩,fun b z=>absurd z (noA b),e0.bs,e0.bsz,fun b _ _=>noA b,fun b z=>absurd z (noA b),e0.funs,e0.frf⟩,
  rfl,e0.bare,Un.kept hk,⟨_,x.toInCall.ns,fun i y v h1 h2 h3=>?_⟩,fun y c h=>⟨_,x.cell y c h⟩,e0.hok.fresh (Ze _),fun y c h=>?_,fun p hp=>absurd (show p∈([]:List (Addr×Obj)) from hp) (by simp),e0.hok.kept hk,?_⟩
 ·exact name_of_addr x.apart (YJ h1) (YJ h2)
 ·have hy:scope.names.lookup y=some .cell\/scope.names.lookup y=some .free:=hy;rcases hy with hy|hy
  ·exact sh hy
  ·exact absurd rfl (S.nofree _ (YJ hy))
 ·exact Nat.le_of_lt (x.above y c (YJ h))
 ·have hi:i<vs.length:=by
   unfold start at h2;by_cases hi:i<vs.length
   ·exact hi
   ·rw[Z4 (by simpa using hi)]at h2;rw[YY]at h2;split at h2<;>cases h2
  have ha:vs[i]?=some v:=by
   unfold start at h2;rw[YQ (by simpa using hi),ZA]at h2;cases e:vs[i]? with
   |none=>rw[e]at h2;cases h2
   |some a=>rw[e]at h2;cases h2;rfl
  obtain⟨u,hu,rv⟩:=r.get ha;have hp:ps[i]?=some y:=by rw[<-S.pre,List.getElem?_take_of_lt (by omega)];exact h1
  have ndP:ps.Nodup:=by rw[<-S.pre];exact S.nd.sublist (Z1 _ _)
  refine⟨u,rv,?_⟩;rcases S.par y (Yo hp)with k|k
  ·exact .inl ⟨k,qk ndP hp hu k⟩
  ·obtain⟨c,e⟩:=sh (n:=s.heap.objs.size+1) k;refine .inr ⟨.inl k,c,e,?_⟩;have q:=x.cell y c e;rw[qi ndP hp hu (by show scope.names.lookup y≠_;rw[k];decide)]at q;exact q
 ·exact e0.hok.fresh (Nat.le_of_lt (x.above y c (YJ h)))
 ·unfold start;show _=N.length;rw[Zk,Zf,Ye];omega
theorem BV{CX:CXT}{P:Program}{w:World}{K:PySem.W.Frag}{mg:Str->Option Value}{base:Heap}{k:Nat}{f:Addr}{name qual:Str}{params:Arguments}{body:List Stmt}{scope:Scope}{dV kV doc pm cdv ct oc:Value}{an od:Option Addr}{osl:Array (Option Value)}{N ps:List Str}{sp:Sp}(lk:K.lookup f=some ⟨oc,od,.func (PySem.W.fnOf name qual params body scope dV kV doc pm an cdv ct),osl⟩)(hcd:PySem.W.codeIn K cdv qual=true)(S:FnScope N ps scope)(len:∀ vs H Q E,sp vs H Q E->vs.length=ps.length)(hbody:∀ (A:Around) (outer:List Env) (s:Shared) (H:Hp) (vs:List V) (Q:VK) (E:XK),Room k (A.deeper (envOfC qual scope s.heap.objs.size f cdv))->sp vs H Q E ->
   ∃ t,PSs (fZ CX P w K mg base N qual scope f cdv A outer s H E) body t/\t { nx:=fun _ H'=>Q .non H',rt:=Q } (start N vs) H) :
  FnOk P w K mg base CX (k+1) f (PySem.W.fnOf name qual params body scope dV kV doc pm an cdv ct) ps sp:=by
 refine⟨len,fun A outer s H args us vs Q E hr e0 hb r hsp=>?_⟩;have hl:=len _ _ _ _ hsp;have KX:K.In s.heap:=e0.mod.kin.keeps fun b o e=>(e0.bs b o e).1;have lim:s.heap.NoLimit:=e0.mod.nolimit.keeps fun b o e=>(e0.bs b o e).1;have hkind:∀y∈ps.zip us,scope.names.lookup y.1=some .local\/(scope.names.lookup y.1=some .cell/\((cellsFrom (s.heap.objs.size+1) scope.names []).lookup y.1).isSome=true):=fun⟨n,v⟩ hy=>by
  rcases S.par n (List.of_mem_zip hy).1 with q|q
  ·exact .inl q
  ·exact .inr ⟨q,PySem.W.cellsFrom_some _ _ _ (.inl q)⟩
 refine codeAny_call_function hr.depth (KX _ _ lk) rfl S.co S.gen rfl (PySem.W.codeRec_of KX hcd) (hb _ _ _ _ ?_);refine wpAny_newFunctionEnv_cells S.kind hkind fun env he s1 x=>?_;subst he;refine⟨lim.keeps x.toInCall.keep,codeAny_func ?_⟩;obtain⟨t,ht,hq⟩:=hbody A outer s H vs Q E (hr.deeper _) hsp;have I:Inv (fZ CX P w K mg base N qual scope f cdv A outer s H E) [] (start N vs) H s1:=yn S hr.hd e0 hl r x;refine ZS (ht [] s1 (start N vs) H _ I hq) (fun fl s' hs=>?_) fun e s' hs=>hs;have fin:∀{σ':St} {H':Hp} {v:V} {u:Value},Inv (fZ CX P w K mg base N qual scope f cdv A outer s H E) [] σ' H' s'->RelV v u->Q v H'->CE outer P w H s Q u s' :=
  fun{σ' H' v u} J rv q=>⟨v,H',J.os,J.bare,J.base,J.hok,rv,q⟩
 cases fl with
 |ret u =>obtain⟨v,σ',H',J,rv,q⟩:=hs;exact fin J rv q
 |next =>obtain⟨σ',H',J,q⟩:=hs;exact fin (v:=V.non) (u:=Value.none) J rfl q
 |brk =>obtain⟨_,_,_,q⟩:=hs;exact False.elim q
 |cont =>obtain⟨_,_,_,q⟩:=hs;exact False.elim q
open PySem PySem.Spec PyProof.Rows
section
variable{X:Cx}{x:Str}{p pos:Pos}{e:Expr}{es:List Expr}{t:TA}{id T:String}{r:List V->Hp->VK->Prop}
def tCB(r:List V->Hp->VK->Prop)(t:TA):TE:=fun σ H Q=>t σ H fun vs H1=>r vs H1 Q
theorem Bb(hc:eO X (.builtin id) r)(hg:Gl X x)(hm:X.mg x=none)(hv:bootBuiltins x=some (.builtin id))(ha:PA X (e::es) t)(hn:x≠"__name__":=by decide)(hdb:(x==("__debug__":Str))=false:=by decide)(he:starEach (e::es) X.env=(false,eval e X.env)::starEach es X.env:=by rfl)(hpl:(backTo pos (starEach es X.env)).any (·.1)=false:=by rfl):PE X (.Call (.Name x p) (e::es) [] pos) (tCB r t):=by intro pins s σ H Q I h;refine wpAny_Call_Name_kw (hU I hg hm hv ?_ hn hdb);exact PyProof.Rows.callWith_builtin1 (thn (ha pos pins s σ H _ I h) fun us s1 ⟨vs,H1,I1,r1,q1⟩=>hc pins s1 σ H1 vs us Q I1 r1 q1) he hpl
theorem yQ(hc:eO X (.type T) r)(hg:Gl X x)(hm:X.mg x=none)(hv:bootBuiltins x=some (.type T))(ha:PA X (e::es) t)(hn:x≠"__name__":=by decide)(hdb:(x==("__debug__":Str))=false:=by decide)(he:starEach (e::es) X.env=(false,eval e X.env)::starEach es X.env:=by rfl)(hpl:(backTo pos (starEach es X.env)).any (·.1)=false:=by rfl):PE X (.Call (.Name x p) (e::es) [] pos) (tCB r t):=by intro pins s σ H Q I h;refine wpAny_Call_Name_kw (hU I hg hm hv ?_ hn hdb);exact YF (thn (ha pos pins s σ H _ I h) fun us s1 ⟨vs,H1,I1,r1,q1⟩=>hc pins s1 σ H1 vs us Q I1 r1 q1) he hpl
end
end L2
namespace HT
open PySem PyProof.Rows
def lexLt:List Int->List Int->Bool
 | [],[]=>false
 | [],_::_=>true
 |_::_,[]=>false
 |x::xs,y::ys=>if x=y then lexLt xs ys else decide (x<y)
theorem lexLt_cons(x y:Int)(xs ys:List Int):lexLt (x::xs) (y::ys)=if x=y then lexLt xs ys else decide (x<y):=rfl
theorem lexLt_nil_nil:lexLt [] []=false:=rfl
theorem pq(y:Int)(ys:List Int):lexLt [] (y::ys)=true:=rfl
theorem oZ(x:Int)(xs:List Int):lexLt (x::xs) []=false:=rfl
theorem eqAt_int(A:Around)(s:Shared)(a:Int)(t:Tok)(c:Int)(u:Tok):∃e,SeqAt.EqAt A s (.int a t) (.int c u) e/\(e=true↔a=c) :=
 ⟨(a==c),SeqAt.EqAt.int_int a t c u,by simp⟩
theorem Bs(A:Around)(s:Shared)(a:Int)(t:Tok)(c:Int)(u:Tok)(prog:Program)(w:World)(E:Value->Shared->Prop)(Q:Value->Shared->Prop)(h:Q (.bool (decide (a<c))) s) :
  wpAny (model prog w) A (richCompare .Lt (.int a t) (.int c u)) Q E s :=
 (PyProof.Rows.lt_int h:wpAny (model prog w) A (compareOp .Lt (.int a t) (.int c u)) Q E s)
section
open PySem.SeqAt
open PySem.AutoSeq1 (wpAny_loadPart')
open PySem.MeetsSeq PySem.MeetsSeq2 PySem.MeetsSeq3
theorem rp(l b:Addr)(items items2:Array Value)(n n2:Nat)(dd dd2:Option Addr)(sl sl2:Array (Option Value))(ns ms:List Int)(hi:IntsAre items.toList ns)(hj:IntsAre items2.toList ms) :
  Meets (Builtin.«tuple.__lt__» ⟨[.ref l,.ref b],[]⟩)
   (fun _ R s=>s.heap.get? l=some { cls:=.type "tuple",dict:=dd,data:=.seq items n,slots:=sl }/\s.heap.get? b=some { cls:=.type "tuple",dict:=dd2,data:=.seq items2 n2,slots:=sl2 } /\
    R (.ok (.ret (.bool (lexLt ns ms)))) s) :=
 .of_wp fun prog w A R s h=>by
  obtain⟨hp,g,d,tk,os⟩:=s;obtain⟨hl,hb,h⟩:=h;have f2:=AutoSeq1.sub_tuple_tuple;have z1:items.size=ns.length:=by rw[<-hi.length];simp
  have z2:items2.size=ms.length:=by rw[<-hj.length];simp
  wp_walk using wpAny_loadPart' hl,wpAny_loadPart' hb,wpAny_forIn_list _ (fun rest b s'=>b.1=none/\s'=⟨hp,g,d,tk,os⟩/\∃ (vs ws:List Value) (ns' ms':List Int),rest=vs.zip ws /\
   IntsAre vs ns'/\IntsAre ws ms'/\ns'.length+items2.size=ms'.length+items.size/\R (.ok (.ret (.bool (lexLt ns' ms')))) ⟨hp,g,d,tk,os⟩) _
  case turn =>
   rintro⟨y,x⟩ rest b s' ⟨hb',rfl,vs,ws,ns',ms',hz,hvi,hwi,hlen,hR⟩;cases hvi with
   |nil=>rw[List.zip_nil_left]at hz;cases hz
   |cons a t hvi' =>
    cases hwi with
    |nil=>rw[List.zip_nil_right]at hz;cases hz
    |cons c u hwi' =>
     rw[List.zip_cons_cons]at hz;injection hz with hyx hrest;injection hyx with hy hx;subst hy hx;rw[lexLt_cons]at hR;simp only[Zm]at hlen;obtain⟨e,he,hiff⟩:=eqAt_int A.in1 ⟨hp,g,d,tk,os⟩ a t c u;refine Za (he prog w _ _ ?_);cases e with
     |true =>
      rw[if_pos (hiff.mp rfl)]at hR
      wp_walk
      exact⟨rfl,rfl,_,_,_,_,hrest,hvi',hwi',by omega,hR⟩
     |false =>
      rw[if_neg (fun q=>absurd (hiff.mpr q) Zr)]at hR;have hri:=Bs A.in1 ⟨hp,g,d,tk,os⟩ a t c u prog w
      wp_walk using hri
      exact⟨_,rfl,by simpa using hR⟩
  case fin =>
   rintro⟨b1,b2⟩ s' ⟨hb',rfl,vs,ws,ns',ms',hz,hvi,hwi,hlen,hR⟩;simp only at hb';subst hb';have hv:lexLt ns' ms'=decide (items.size<items2.size):=by
    cases hvi with
    |nil =>
     cases hwi with
     |nil =>simp only[List.length_nil]at hlen;rw[lexLt_nil_nil];exact(decide_eq_false (by omega)).symm
     |cons c u hw =>simp only[List.length_nil,Zm]at hlen;rw[pq];exact(decide_eq_true (by omega)).symm
    |cons a t hv =>
     cases hwi with
     |nil =>simp only[List.length_nil,Zm]at hlen;rw[oZ];exact(decide_eq_false (by omega)).symm
     |cons c u hw =>rw[List.zip_cons_cons]at hz;cases hz
   rw[hv]at hR
   wp_walk
   exact⟨_,rfl,by simpa[Builtin.Tuple.tupleCompareSizes]using hR⟩
  case h =>exact⟨rfl,rfl,items.toList,items2.toList,ns,ms,rfl,hi,hj,by omega,h⟩
end
section
variable{prog:Program}{w:World}{A:Around}{E:Value->Shared->Prop}{s:Shared}
theorem lt_tupInts{l b:Addr}{items items2:Array Value}{ns ms:List Int}{Q:Value->Shared->Prop}(hl:IsTup s.heap l items)(hb:IsTup s.heap b items2)(hi:IntsAre items.toList ns)(hj:IntsAre items2.toList ms)(hu:A.units<cLine)(h:Q (.bool (lexLt ns ms)) s):wpAny (model prog w) A (compareOp .Lt (.ref l) (.ref b)) Q E s:=by
 obtain⟨⟨cls,dd,data,sl⟩,ho,hc,n,hd⟩:=id hl;obtain⟨⟨cls2,dd2,data2,sl2⟩,ho2,hc2,n2,hd2⟩:=id hb;simp only at hc hd hc2 hd2;subst hc hd hc2 hd2;exact richCompare_meets_room (op:=.Lt) ⟨_,ho,rfl⟩ ⟨_,ho2,rfl⟩ PySem.F.slot_tuple_lt PySem.F.entry_tuple_lt (PySem.F.args_tuple_lt_2 _ _) (rp l b items items2 n n2 dd dd2 sl sl2 ns ms hi hj)
  ⟨ho,ho2,show Value.bool (lexLt ns ms)≠Value.notImplemented/\Q (.bool (lexLt ns ms)) s from⟨(fun x=>nomatch x),h⟩⟩ hu
theorem cat_tup{t b:Addr}{vs ws:List Value}{Q:Value->Shared->Prop}(ht:IsTup s.heap t vs.toArray)(hb:IsTup s.heap b ws.toArray)(hv:vs≠[])(h1:ws=[]->Q (.ref t) s)(h2:ws≠[]->Q (.ref s.heap.objs.size) { s with heap:=s.heap.push { cls:=.type "tuple",data:=.seq (vs++ws).toArray } })(hsz:vs.length+ws.length<=sizeLine):wpAny (model prog w) A (binaryOp .Add (.ref t) (.ref b)) Q E s:=by
 obtain⟨⟨cls,dd,data,sl⟩,ho,hc,n,hd⟩:=id ht;obtain⟨⟨cls2,dd2,data2,sl2⟩,ho2,hc2,n2,hd2⟩:=id hb;simp only at hc hd hc2 hd2;subst hc hd hc2 hd2;have e:vs.toArray++ws.toArray=(vs++ws).toArray:=by simp
 by_cases hw:ws=[]
 ·exact concat_meets ⟨_,ho,rfl⟩ ⟨_,ho2,rfl⟩ noFill_tuple_add seq_tuple_add PySem.F.slot_tuple_add PySem.F.entry_tuple_add (PySem.F.args_tuple_add_2 _ _)
   (tuple_addW1 t b vs.toArray ws.toArray n n2 dd dd2 sl sl2 (by simpa using hv) (by simp[hw])) ⟨ho,ho2,h1 hw⟩
 ·refine concat_meets ⟨_,ho,rfl⟩ ⟨_,ho2,rfl⟩ noFill_tuple_add seq_tuple_add PySem.F.slot_tuple_add PySem.F.entry_tuple_add (PySem.F.args_tuple_add_2 _ _)
   (tuple_addW2 t b vs.toArray ws.toArray n n2 dd dd2 sl sl2 (by simpa using hv) (by simpa using hw) (by rw[Zi,Zi];exact hsz)) ⟨ho,ho2,?_⟩
  rw[e];exact h2 hw
def sIx(n d:Nat):Option Int->Nat
 |none=>d
 |some v=>if v<0 then(v+(n:Int)).toNat else min v.toNat n
theorem sIx_none(n d:Nat):sIx n d none=d:=rfl
theorem sIx_nat(n d k:Nat):sIx n d (some (k:Int))=min k n:=by show(if(k:Int)<0 then((k:Int)+(n:Int)).toNat else min (k:Int).toNat n)=min k n;rw[if_neg (by omega),Int.toNat_natCast]
theorem Ge(n d:Nat)(hd:d<=n)(o:Option Int):sIx n d o<=n:=by
 cases o with
 |none=>exact hd
 |some v =>
  show(if v<0 then(v+(n:Int)).toNat else min v.toNat n)<=n;by_cases hv:v<0
  ·rw[if_pos hv];omega
  ·rw[if_neg hv];exact Nat.min_le_right _ _
theorem uT(v:Int)(n d:Nat):(if v<0 then max (v+(n:Int)) 0 else min v (n:Int))=((sIx n d (some v):Nat):Int):=by
 show(if v<0 then max (v+(n:Int)) 0 else min v (n:Int))=(((if v<0 then(v+(n:Int)).toNat else min v.toNat n):Nat):Int);by_cases hv:v<0
 ·simp only[if_pos hv];omega
 ·simp only[if_neg hv];omega
theorem wx(lo hi:Option Int)(n:Nat):Builtin.Slice.sliceAdjust lo hi 1 (n:Int)=(((sIx n 0 lo:Nat):Int),((sIx n n hi:Nat):Int)):=by
 have h1:¬((1:Int)<0):=by omega
 unfold Builtin.Slice.sliceAdjust;simp only[h1,if_false];refine Prod.ext ?_ ?_
 ·cases lo with
  |none=>rfl
  |some v=>exact uT v n 0
 ·cases hi with
  |none=>rfl
  |some v=>exact uT v n n
theorem xo(i j:Nat):Builtin.Slice.slicePlaces (i:Int) (j:Int) 1=j-i:=by
 unfold Builtin.Slice.slicePlaces;have h1:(1:Int)>0:=by omega
 simp only[h1,if_true,Int.ediv_one];split<;>omega
theorem oj{v:Value}{o:Option Int}{Q:Option Int->Shared->Prop}(p:IsPart v o)(h:Q o s):wpAny (model prog w) A (Builtin.Slice.slicePartIndex v) Q E s:=by
 cases p with
 |none=>exact slicePart_none h
 |int i t=>exact slicePart_int h
theorem sliceApplied_gen{sl:Addr}{vl vu:Value}{lo hi:Option Int}{n:Nat}{Q:Int×Int×Nat->Shared->Prop}(hs:s.heap.IsSliceOf sl vl vu .none)(pl:IsPart vl lo)(pu:IsPart vu hi)(h:Q (((sIx n 0 lo:Nat):Int),1,sIx n n hi-sIx n 0 lo) s):wpAny (model prog w) A (Builtin.Slice.sliceApplied (.ref sl) (pure (n:Int))) Q E s:=by obtain⟨os,hos,hcs,hds⟩:=id hs;unfold Builtin.Slice.sliceApplied Builtin.Slice.sliceFields;refine Za (Za (ZZ hos hds (x:=vl) rfl (Za (ZZ hos hds (x:=vu) rfl (Za (ZZ hos hds (x:=.none) rfl (Zh ?_)))))));refine Za (slicePart_none ?_);show wpAny _ _ (if((1:Int)==0)=true then _ else _) _ _ s;rw[if_neg (by decide)];refine Za (oj pl (Za (oj pu (Za (Zh ?_)))));show wpAny _ _ (match Builtin.Slice.sliceAdjust lo hi 1 (n:Int)with|(lo,hi)=>pure (lo,(1:Int),Builtin.Slice.slicePlaces lo hi 1)) _ _ s;rw[wx lo hi n];show wpAny _ _ (pure (((sIx n 0 lo:Nat):Int),(1:Int),Builtin.Slice.slicePlaces ((sIx n 0 lo:Nat):Int) ((sIx n n hi:Nat):Int) 1)) _ _ s;rw[xo];exact Zh h
theorem Bj(xs:Array Value)(i k:Nat):((List.range k).filterMap fun(m:Nat)=>xs[((i:Int)+(m:Int)*1).toNat]?).toArray=((xs.toList.drop i).take k).toArray:=by
 have e:(fun(m:Nat)=>xs[((i:Int)+(m:Int)*1).toNat]?)=fun m=>xs[i+m]?:=by
  funext m;have:((i:Int)+(m:Int)*1).toNat=i+m:=by omega
  rw[this]
 rw[e];have:=pick_run xs i k;rw[List.filterMap_map]at this;have e2:((fun x=>xs[x]?)∘fun x=>i+x)=fun m=>xs[i+m]?:=rfl;rw[e2]at this;rw[this]
theorem getItem_tuple_cut{t sl:Addr}{items:Array Value}{vl vu:Value}{lo hi:Option Int}{Q:Value->Shared->Prop}(ht:IsTup s.heap t items)(hs:s.heap.IsSliceOf sl vl vu .none)(pl:IsPart vl lo)(pu:IsPart vu hi)(hw:¬(sIx items.size 0 lo=0/\sIx items.size items.size hi=items.size))(h:Q (.ref s.heap.objs.size) { s with heap:=s.heap.push { cls:=.type "tuple",data:=.seq ((items.toList.drop (sIx items.size 0 lo)).take (sIx items.size items.size hi-sIx items.size 0 lo)).toArray } })(hsz:items.size<=sizeLine):wpAny (model prog w) A (getItem (.ref t) (.ref sl)) Q E s:=by
 have htake:sizeOk (.seq ((items.toList.drop (sIx items.size 0 lo)).take (sIx items.size items.size hi-sIx items.size 0 lo)).toArray):=by show((items.toList.drop (sIx items.size 0 lo)).take (sIx items.size items.size hi-sIx items.size 0 lo)).toArray.size<=sizeLine;rw[Zi,ZM,Z5,Zz];omega
 have hj:sIx items.size items.size hi<=items.size:=Ge _ _ (Ze _) hi;obtain⟨os,hos,hcs,hds⟩:=id hs;have hTs:s.TypeIs (.ref sl) "slice":=⟨os,hos,hcs⟩
 unfold getItem
 try with_reducible refine Z3 ?_
 first|refine Za (Zh ?_)|skip
 refine Za (wpAny_sequenceKey ht.typeIs (by decide) ?_);refine Za (Z7 (name:=Str.ofString "__getitem__") ht.typeIs Yh
  (Yy Yh ht.typeIs entry_tuple_getitem ?_ (args_tuple_getitem _ _)))
 show wpAny _ _ (Builtin.Tuple.tupleItemsOf (.ref t) >>= _) _ _ s;refine Za (tupleItemsOf_ ht ?_);refine Za (wpAny_typeOf hTs ?_);rw[if_pos (by decide)];refine Za (sliceApplied_gen hs pl pu ?_);have hno:¬((((sIx items.size 0 lo:Nat):Int)==0&&(1:Int)==1&&(sIx items.size items.size hi-sIx items.size 0 lo)==items.size)=true):=by intro q;rw[ZK,ZK]at q;have q1:((sIx items.size 0 lo:Nat):Int)=0:=eq_of_beq q.1.1;have q2:sIx items.size items.size hi-sIx items.size 0 lo=items.size:=eq_of_beq q.2;exact hw ⟨by omega,by omega⟩
 show wpAny _ _ (if(((sIx items.size 0 lo:Nat):Int)==0&&(1:Int)==1&&(sIx items.size items.size hi-sIx items.size 0 lo)==items.size)=true then _ else _) _ _ s;rw[if_neg hno,Bj]
 first
  |exact Za (m:=Builtin.Tuple.tupleExact _) (Yg (Zh ⟨_,rfl,Zh h⟩) htake)
  |exact Za (m:=Builtin.Tuple.tupleExact _) (Yg (Za (Zh (Zh ⟨_,rfl,Zh h⟩))) htake)
  |exact Za (Za (m:=Builtin.Tuple.tupleExact _) (Yg (Zh (Zh ⟨_,rfl,Zh h⟩)) htake))
  |exact Za (Za (m:=Builtin.Tuple.tupleExact _) (Yg (Zh ⟨_,rfl,Zh h⟩) htake))
end
end HT
namespace L2
open PySem PySem.Spec PyProof.Rows
abbrev TO:=St->Hp->(Option Int->Hp->Prop)->Prop
def PO(X:Cx)(e:Option Expr)(t:TO):Prop :=
 ∀(pins:List (Addr×Obj)) (s:Shared) (σ:St) (H:Hp) (Q:Option Int->Hp->Prop),Inv X pins σ H s->t σ H Q ->
  wpAny (model X.prog X.w) X.A (evalPart e X.env) (fun u s'=>∃o H',Inv X pins σ H' s'/\IsPart u o/\Q o H') X.xe s
def vU:TO:=fun _ H Q=>Q none H
def Cy(t:TE):TO:=fun σ H Q=>t σ H fun x H1=>∃i,x=.int i/\Q (some i) H1
theorem dN{ns:List Int}:∀{us:List Value},Vals (ns.map V.int) us->IntsAre us ns:=by
 induction ns with
 |nil=>intro us r;rw[List.map_nil]at r;cases r;exact .nil
 |cons n ns ih =>
  intro us r;rw[Zw]at r;cases r with
  |cons r1 r2 =>obtain⟨t,e⟩:=r1;subst e;exact .cons n t (ih r2)
section
variable{X:Cx}{e:Expr}{te:TE}{lo hi:Option Expr}{tl th:TO}{pos p2:Pos}
theorem DC:PO X none vU:=by intro pins s σ H Q I h;rw[evalPart_none];exact Zh ⟨none,H,I,.none,h⟩
theorem DD(h:PE X e te):PO X (some e) (Cy te):=by intro pins s σ H Q I hw;rw[evalPart_some];refine thn (h pins s σ H _ I hw) fun u s1 hz9=>?_;obtain⟨x,H1,I1,r1,q1⟩:=hz9;obtain⟨i,rfl,q⟩:=q1;obtain⟨t,rfl⟩:=r1;exact⟨some i,H1,I1,.int i t,q⟩
def SlR(X:Cx)(r:V->Option Int->Option Int->Hp->VK->Prop):Prop :=
 ∀(pins:List (Addr×Obj)) (s:Shared) (σ:St) (H:Hp) (x:V) (v vl vu:Value) (lo hi:Option Int) (sl:Addr) (Q:VK),Inv X pins σ H s->RelV x v->s.heap.IsSliceOf sl vl vu .none->IsPart vl lo->IsPart vu hi->r x lo hi H Q ->
  ∃T id,typeLookup (.type T) "__getitem__" = pure (some (.builtin id))/\s.TypeIs v T/\wpAny (model X.prog X.w) X.A (getItem v (.ref sl)) (EP X pins σ Q) X.xe s
def tSl(r:V->Option Int->Option Int->Hp->VK->Prop)(te:TE)(tl th:TO):TE:=fun σ H Q=>te σ H fun x H1=>tl σ H1 fun l H2=>th σ H2 fun u H3=>r x l u H3 Q
theorem Bh{r:V->Option Int->Option Int->Hp->VK->Prop}(hr:SlR X r)(he:PE X e te)(hl:PO X lo tl)(hu:PO X hi th):PE X (.Subscript e (.Slice lo hi none p2) pos) (tSl r te tl th):=by intro pins s σ H Q I h;refine Subscript_ (thn (he pins s σ H _ I h) fun v s1 hz9=>?_);obtain⟨x,H1,I1,r1,q1⟩:=hz9;refine wpAny_Slice (thn (hl pins s1 σ H1 _ I1 q1) fun vl s2 ⟨l,H2,I2,pl,q2⟩=>thn (hu pins s2 σ H2 _ I2 q2) fun vu s3 hz9=>?_);obtain⟨u,H3,I3,pu,q3⟩:=hz9;rw[evalPart_none];refine Zh ?_;have I4:Inv X pins σ H3 { s3 with heap:=s3.heap.push { cls:=.type "slice",data:=.fields #[vl,vu,.none] } }:=I3.kept (t':=s3.toks) fun b ob q=>Zb _ q;obtain⟨T,id,hT,ht,hg⟩:=hr pins { s3 with heap:=s3.heap.push { cls:=.type "slice",data:=.fields #[vl,vu,.none] } } σ H3 x v vl vu l u s3.heap.objs.size Q I4 r1 (Heap.IsSliceOf.new ..) pl pu q3;show wpAny (model X.prog X.w) X.A (subscriptTail e (.Slice lo hi none p2) v (.ref s3.heap.objs.size)) (EP X pins σ Q) X.xe { s3 with heap:=s3.heap.push { cls:=.type "slice",data:=.fields #[vl,vu,.none] } };exact tail_any (ops:=[.ref s3.heap.objs.size,v]) ht hT hg (by with_unfolding_all rfl)
def bY(xs:List V)(lo hi:Option Int):List V:=(xs.drop (HT.sIx xs.length 0 lo)).take (HT.sIx xs.length xs.length hi-HT.sIx xs.length 0 lo)
theorem ma(xs:List V)(lo hi:Option Int):(bY xs lo hi).length<=xs.length:=by unfold bY;rw[ZM,Z5];omega
def Ih(K:PySem.W.Frag):V->Option Int->Option Int->Hp->VK->Prop:=fun x lo hi H Q=>∃a xs,x=.ref a/\SqT K H a xs /\
 ¬(HT.sIx xs.length 0 lo=0/\HT.sIx xs.length xs.length hi=xs.length)/\∀p,H p=none->Q (.ref p) (upd H p (.tup (bY xs lo hi)))
theorem Gi:SlR X (Ih X.K):=by
 intro pins s σ H x v vl vu lo hi sl Q I rx hs pl pu h;obtain⟨a,xs,rfl,hx,hw,q⟩:=h;cases rx;obtain⟨its,r,ht,hz⟩:=I.tuple hx;have hlen:its.toArray.size=xs.length:=by rw[Zi];exact r.length.symm
 refine⟨"tuple",_,Yh.lookup,ht.typeIs,?_⟩;refine HT.getItem_tuple_cut ht hs pl pu (by rw[hlen];exact hw) ?_ (by rw[hlen];exact hz);rw[hlen];refine⟨.ref s.heap.objs.size,_,I.laid (t':=s.toks) (o:=.tup (bY xs lo hi)) (fun b ob q=>Zb _ q) (Ze _) ?_,rfl,q _ (I.hok.fresh (Ze _))⟩;exact⟨ZI (ma xs lo hi) hz,_,(r.drop (HT.sIx xs.length 0 lo)).take (HT.sIx xs.length xs.length hi-HT.sIx xs.length 0 lo),IsTup.new _ _⟩
def F7(K:PySem.W.Frag):R2:=fun x y H Q=>∃a b ns ms,x=.ref a/\y=.ref b/\SqT K H a (ns.map V.int)/\SqT K H b (ms.map V.int)/\Q (.bl (HT.lexLt ns ms)) H
theorem Fh(hu:X.A.units<cLine):OpR X (compareOp .Lt) (F7 X.K):=by intro pins s σ H x y v u Q I rx ry h;obtain⟨a,b,ns,ms,rfl,rfl,ha,hb,q⟩:=h;cases rx;cases ry;obtain⟨its,r1,p1,_⟩:=I.tuple ha;obtain⟨its2,r2,p2,_⟩:=I.tuple hb;have i1:IntsAre its.toArray.toList ns:=dN r1;have i2:IntsAre its2.toArray.toList ms:=dN r2;exact HT.lt_tupInts p1 p2 i1 i2 hu ⟨.bl (HT.lexLt ns ms),H,I,rfl,q⟩
def HE(K:PySem.W.Frag):R2:=fun x y H Q=>∃a b xs ys,x=.ref a/\y=.ref b/\SqT K H a xs/\SqT K H b ys/\xs≠[]/\xs.length+ys.length<=sizeLine /\
 (ys=[]->Q (.ref a) H)/\(ys≠[]->∀p,H p=none->Q (.ref p) (upd H p (.tup (xs++ys))))
theorem Vals.nil_iff{xs:List V}{us:List Value}(r:Vals xs us):us=[]↔xs=[]:=by
 cases r with
 |nil=>simp
 |cons _ _=>simp
theorem Dh:OpR X (binaryOp .Add) (HE X.K):=by intro pins s σ H x y v u Q I rx ry h;obtain⟨a,b,xs,ys,rfl,rfl,ha,hb,hx,hz,q1,q2⟩:=h;cases rx;cases ry;obtain⟨its,r1,p1,_⟩:=I.tuple ha;obtain⟨its2,r2,p2,_⟩:=I.tuple hb;refine HT.cat_tup p1 p2 (fun z=>hx (r1.nil_iff.mp z)) (fun z=>⟨.ref a,H,I,rfl,q1 (r2.nil_iff.mp z)⟩) (fun z=>?_) (by rw[<-r1.length,<-r2.length];exact hz);refine⟨.ref s.heap.objs.size,_,I.laid (t':=s.toks) (o:=.tup (xs++ys)) (fun b ob q=>Zb _ q) (Ze _) ?_,rfl,q2 (fun w=>z (r2.nil_iff.mpr w)) _ (I.hok.fresh (Ze _))⟩;exact⟨by rw[Zk];exact hz,_,r1.append r2,IsTup.new _ _⟩
end
open PySem PySem.Spec PyProof.Rows
def ixN(n:Nat)(i:Int):Option Nat:=if 0<=i then(if i<n then some i.toNat else none)else if -(n:Int)<=i then some (i+n).toNat else none
def atI{α:Type}(xs:List α)(i:Int):Option α:=(ixN xs.length i).bind fun j=>xs[j]?
theorem vq{n:Nat}{i:Int}{j:Nat}(h:ixN n i=some j):seqIndex? i n=some j/\j<n/\-(n:Int)<=i/\i<n:=by
 unfold ixN at h;by_cases h0:0<=i
 ·rw[if_pos h0]at h;by_cases h1:i<n
  ·rw[if_pos h1]at h;have e:i.toNat=j:=Zu h;exact⟨by rw[seqIndex_of h0 h1,e],by omega,by omega,h1⟩
  ·rw[if_neg h1]at h;cases h
 ·rw[if_neg h0]at h;by_cases h1:-(n:Int)<=i
  ·rw[if_pos h1]at h;have e:(i+n).toNat=j:=Zu h;exact⟨by rw[seqIndex_neg (by omega) h1,e],by omega,h1,by omega⟩
  ·rw[if_neg h1]at h;cases h
theorem uR{α:Type}{xs:List α}{i:Int}{v:α}(h:atI xs i=some v):∃j,seqIndex? i xs.length=some j/\xs[j]?=some v/\j<xs.length/\-(xs.length:Int)<=i/\i<xs.length:=by
 unfold atI at h;cases e:ixN xs.length i with
 |none=>rw[e]at h;cases h
 |some j =>rw[e]at h;obtain⟨h1,h2,h3,h4⟩:=vq e;exact⟨j,h1,h,h2,h3,h4⟩
theorem eM{α:Type}{xs:List α}{j:Nat}{v:α}(h:xs[j]?=some v):atI xs (j:Int)=some v:=by
 have hj:j<xs.length:=(Zx.mp h).1;have e:ixN xs.length (j:Int)=some j:=by unfold ixN;rw[if_pos (by omega),if_pos (by omega)];simp
 unfold atI;rw[e];exact h
def uP(b:Expr):Prop:=∀o i,subscripted b false o i=operate [o,i] (getItem o i)
def IxR(X:Cx)(r:R2):Prop :=
 ∀(value slice:Expr) (pins:List (Addr×Obj)) (s:Shared) (σ:St) (H:Hp) (x y:V) (v u:Value) (Q:VK),Inv X pins σ H s->RelV x v->RelV y u->r x y H Q ->
  subscripted slice false v u=operate [v,u] (getItem v u)->wpAny (model X.prog X.w) X.A (subscriptTail value slice v u) (EP X pins σ Q) X.xe s
def MtR(X:Cx)(id:String)(r:V->List V->Hp->VK->Prop):Prop :=
 ∀(pins:List (Addr×Obj)) (s:Shared) (σ:St) (H:Hp) (x:V) (xs:List V) (v:Value) (us:List Value) (Q:VK),Inv X pins σ H s->RelV x v->Vals xs us->r x xs H Q ->
  wpAny (model X.prog X.w) X.A (call (.builtin id) (v::us)) (EP X pins σ Q) X.xe s
section
variable{X:Cx}{a b:Expr}{ta tb:TE}{pos:Pos}
theorem Hv{r:R2}(hr:IxR X r)(ha:PE X a ta)(hb:PE X b tb)(hs:uP b):PE X (.Subscript a b pos) (tOp r ta tb):=by intro pins s σ H Q I h;exact Subscript_ (Ag ha hb I h fun v u s2 x y H2 I2 rx ry q=>hr a b pins s2 σ H2 x y v u Q I2 rx ry q (hs _ _))
def Bq(K:PySem.W.Frag):R2:=fun x y H Q=>∃p xs i v,x=.ref p/\y=.int i/\SqL K H p xs/\atI xs i=some v/\Q v H
def pK(K:PySem.W.Frag):R2:=fun x y H Q=>∃p xs i v,x=.ref p/\y=.int i/\SqT K H p xs/\atI xs i=some v/\Q v H
theorem C2:IxR X (Bq X.K):=by
 intro value slice pins s σ H x y v u Q I rx ry h hs;obtain⟨p,xs,i,z,rfl,rfl,hq,he,q⟩:=h;cases rx;obtain⟨t,rfl⟩:=ry;obtain⟨its,r,pl,hz⟩:=I.list hq;obtain⟨j,h1,h2,h3,h4,h5⟩:=uR he;obtain⟨w,ew,rw'⟩:=r.get h2;have hl:=r.length;have hn:=nI;have fin:EP X pins σ Q w s:=⟨z,H,I,rw',q⟩
 by_cases h0:0<=i
 ·have hj:i.toNat=j:=by rw[seqIndex_of h0 h5]at h1;exact Zu h1
  exact item_listR pl.isList h0 (by omega) (by rw[hj];simpa using ew) fin hs
 ·have hj:(i+(its.toArray.size:Int)).toNat=j:=by rw[seqIndex_neg (by omega) h4]at h1;rw[Zi,<-hl];exact Zu h1
  exact subscriptTail_builtinR (x:=w) pl.isList.typeIs slot_list_getitem.lookup
   (wpAny_getItem_list_neg (Q:=fun r s'=>r=w/\EP X pins σ Q r s') pl.isList (by omega) (by rw[Zi]<;>omega) (by omega) (by rw[hj];simpa using ew) ⟨rfl,fin⟩) hs
theorem EO:IxR X (pK X.K):=by
 intro value slice pins s σ H x y v u Q I rx ry h hs;obtain⟨p,xs,i,z,rfl,rfl,hq,he,q⟩:=h;cases rx;obtain⟨t,rfl⟩:=ry;obtain⟨its,r,pl,hz⟩:=I.tuple hq;obtain⟨j,h1,h2,h3,h4,h5⟩:=uR he;obtain⟨w,ew,rw'⟩:=r.get h2;have hl:=r.length;have hn:=nI;have fin:EP X pins σ Q w s:=⟨z,H,I,rw',q⟩
 exact subscriptTail_builtinR (x:=w) pl.typeIs slot_tuple_getitem.lookup
  (getItem_tuple (j:=j) (Q:=fun r s'=>r=w/\EP X pins σ Q r s') pl (by omega) (by omega) (by rw[Zi,<-hl];exact h1) (by simpa using ew) ⟨rfl,fin⟩) hs
theorem wV(its:List Value)(n j:Nat)(u:Value):Obj.mapSeq (·.setIfInBounds j u) { cls:=.type "list",data:=.seq its.toArray n }={ cls:=.type "list",data:=.seq (its.set j u).toArray n }:=by simp[Obj.mapSeq]
theorem Inv.lst{pins:List (Addr×Obj)}{σ:St}{H:Hp}{s:Shared}{p:Addr}{xs:List V}(I:Inv X pins σ H s)(h:H p=some (.lst xs)) :
  ∃(its:List Value) (n:Nat),Vals xs its/\s.heap.get? p=some { cls:=.type "list",data:=.seq its.toArray n }/\xs.length<=sizeLine:=by
 obtain⟨z,its,n,r,e⟩:=I.hok p _ h;exact⟨its,n,r,e,z⟩
theorem Inv.lstUpd{pins:List (Addr×Obj)}{σ:St}{H:Hp}{s:Shared}{p:Addr}{xs ys:List V}{its its':List Value}{n n':Nat}{f:Obj->Obj}(I:Inv X pins σ H s)(h:H p=some (.lst xs))(ho:s.heap.get? p=some { cls:=.type "list",data:=.seq its.toArray n })(hf:f { cls:=.type "list",data:=.seq its.toArray n }={ cls:=.type "list",data:=.seq its'.toArray n' })(r:Vals ys its')(hz:ys.length<=sizeLine)(t:Nat) :
  Inv X pins σ (upd H p (.lst ys)) { s with heap:=s.heap.update p f,toks:=t }:=by
 have e:(s.heap.update p f).get? p=some { cls:=.type "list",data:=.seq its'.toArray n' }:=by rw[Yx f ho (by rw[hf]<;>rfl),hf]
 refine I.write (x:=p) (e:=p) (by rw[h];trivial) (.inl rfl) (fun b u hb q=>(y8 _ _ (y9 hb)).trans q) ⟨_,e⟩ ?_;exact⟨hz,its',n',r,e⟩
def Ck:V->V->V->Hp->(Hp->Prop)->Prop:=fun o i v H Q=>∃p xs k j,o=.ref p/\i=.int k/\H p=some (.lst xs)/\ixN xs.length k=some j/\Q (upd H p (.lst (xs.set j v)))
theorem BD:Ad X Ck:=by
 intro pins s σ H o i v ov iv u Q I ro ri rv h;obtain⟨p,xs,k,j,rfl,rfl,hp,hj,q⟩:=h;cases ro;obtain⟨t,rfl⟩:=ri;obtain⟨its,n,r,ho,hz⟩:=I.lst hp;obtain⟨h1,h2,h3,h4⟩:=vq hj;have hl:=r.length;have hn:=nI;have I':Inv X pins σ (upd H p (.lst (xs.set j v))) { s with heap:=s.heap.update p (Obj.mapSeq (·.setIfInBounds j u)) } :=
  I.lstUpd hp ho (wV its n j u) (r.set rv j) (by rw[YG];exact hz) s.toks
 by_cases h0:0<=k
 ·have hk:k.toNat=j:=by rw[seqIndex_of h0 h4]at h1;exact Zu h1
  exact PySem.W.ki_setAt ho h0 (by omega) (by rw[Zi,<-hl];exact h4) (by rw[hk];exact⟨_,I',q⟩)
 ·have hk:(k+(its.toArray.size:Int)).toNat=j:=by rw[seqIndex_neg (by omega) h3]at h1;rw[Zi,<-hl];exact Zu h1
  exact PySem.W.ki_setBack ho (by omega) (by rw[Zi,<-hl];exact h3) (by omega) (by rw[hk];exact⟨_,I',q⟩)
theorem tR(lo hi:Option Int)(n:Nat):(sliceBounds lo hi none n).1=((HT.sIx n 0 lo:Nat):Int)/\(sliceBounds lo hi none n).2.1=((HT.sIx n n hi:Nat):Int)/\(sliceBounds lo hi none n).2.2=1:=by
 refine⟨?_,?_,rfl⟩
 ·cases lo with
  |none=>simp[sliceBounds,HT.sIx]
  |some i =>
   simp only[sliceBounds,HT.sIx,Option.getD_none,show(1:Int)>0 by decide,if_true];by_cases h:i<0
   ·simp only[h,if_true]<;>omega
   ·simp only[h,if_false]<;>omega
 ·cases hi with
  |none=>simp[sliceBounds,HT.sIx]
  |some i =>
   simp only[sliceBounds,HT.sIx,Option.getD_none,show(1:Int)>0 by decide,if_true];by_cases h:i<0
   ·simp only[h,if_true]<;>omega
   ·simp only[h,if_false]<;>omega
theorem rn(its:List Value)(lo hi:Option Int):slicePick its.toArray lo hi none=((its.drop (HT.sIx its.length 0 lo)).take (HT.sIx its.length its.length hi-HT.sIx its.length 0 lo)).toArray:=by obtain⟨h1,h2,h3⟩:=tR lo hi its.toArray.size;unfold slicePick;rw[h1,h2,h3];simp only[sliceRange_one,pick_run,Zi]<;>rfl
def Ga(K:PySem.W.Frag):V->Option Int->Option Int->Hp->VK->Prop:=fun x lo hi H Q=>∃a xs,x=.ref a/\SqL K H a xs/\∀p,H p=none->Q (.ref p) (upd H p (.lst (bY xs lo hi)))
theorem DW:SlR X (Ga X.K):=by intro pins s σ H x v vl vu lo hi sl Q I rx hs pl pu h;obtain⟨a,xs,rfl,hx,q⟩:=h;cases rx;obtain⟨its,r,ht,hz⟩:=I.list hx;have hlen:=r.length;refine⟨"list",_,slot_list_getitem.lookup,ht.isList.typeIs,?_⟩;refine wpAny_getItem_list_slice ht.isList hs pl pu .none (by simp) ?_ (by rw[Zi]<;>omega);rw[rn,<-hlen];refine⟨.ref s.heap.objs.size,_,I.laid (t':=s.toks) (o:=.lst (bY xs lo hi)) (fun b ob q=>Zb _ q) (Ze _) ?_,rfl,q _ (I.hok.fresh (Ze _))⟩;exact⟨ZI (ma xs lo hi) hz,_,0,(r.drop (HT.sIx xs.length 0 lo)).take (HT.sIx xs.length xs.length hi-HT.sIx xs.length 0 lo),Zo _ rfl⟩
def iJ:V->Bool
 |.non=>true
 |.bl _=>true
 |.int _=>true
 |.str _=>true
 |_=>false
def eqV:V->V->Bool
 |.non,.non=>true
 |.bl a,.bl b=>a==b
 |.bl a,.int b=>(if a then 1 else 0)==b
 |.int a,.bl b=>a==(if b then 1 else 0)
 |.int a,.int b=>a==b
 |.str a,.str b=>a==b
 |_,_=>false
theorem ED{A:Around}{s:Shared}{y x:V}{u v:Value}(ry:RelV y u)(rx:RelV x v)(fy:iJ y=true)(fx:iJ x=true):SeqAt.EqAt A s u v (eqV y x):=by
 cases y with
 |non =>
  cases ry;cases x with
  |non=>cases rx;exact SeqAt.EqAt.same _
  |bl b=>cases rx;exact SeqAt.EqAt.none_bool b
  |int b=>obtain⟨t,rfl⟩:=rx;exact SeqAt.EqAt.none_int b t
  |str b=>obtain⟨t,rfl⟩:=rx;exact SeqAt.EqAt.none_str b t
  |_=>exact absurd (show false=true from fx) Zr
 |bl a =>
  cases ry;cases x with
  |non=>cases rx;exact SeqAt.EqAt.bool_none a
  |bl b=>cases rx;exact SeqAt.EqAt.bool_bool a b
  |int b=>obtain⟨t,rfl⟩:=rx;exact SeqAt.EqAt.bool_int a b t
  |str b=>obtain⟨t,rfl⟩:=rx;exact SeqAt.EqAt.bool_str a b t
  |_=>exact absurd (show false=true from fx) Zr
 |int a =>
  obtain⟨t',rfl⟩:=ry;cases x with
  |non=>cases rx;exact SeqAt.EqAt.int_none a t'
  |bl b=>cases rx;exact SeqAt.EqAt.int_bool a t' b
  |int b=>obtain⟨t,rfl⟩:=rx;exact SeqAt.EqAt.int_int a t' b t
  |str b=>obtain⟨t,rfl⟩:=rx;exact SeqAt.EqAt.int_str a t' b t
  |_=>exact absurd (show false=true from fx) Zr
 |str a =>
  obtain⟨t',rfl⟩:=ry;cases x with
  |non=>cases rx;exact SeqAt.EqAt.str_none a t'
  |bl b=>cases rx;exact SeqAt.EqAt.str_bool a t' b
  |int b=>obtain⟨t,rfl⟩:=rx;exact SeqAt.EqAt.str_int a t' b t
  |str b=>obtain⟨t,rfl⟩:=rx;exact SeqAt.EqAt.str_str a t' b t
  |_=>exact absurd (show false=true from fx) Zr
 |_=>exact absurd (show false=true from fy) Zr
def eqU(x:V)(u:Value):Bool:=match u with
 |.none=>eqV .non x
 |.bool b=>eqV (.bl b) x
 |.int i _=>eqV (.int i) x
 |.str z _=>eqV (.str z) x
 |_=>false
theorem yd{x y:V}{u:Value}(r:RelV y u)(f:iJ y=true):eqU x u=eqV y x:=by
 cases y with
 |non=>cases r;rfl
 |bl b=>cases r;rfl
 |int i=>obtain⟨t,rfl⟩:=r;rfl
 |str z=>obtain⟨t,rfl⟩:=r;rfl
 |_=>exact absurd (show false=true from f) Zr
theorem iU{x:V}:∀{xs:List V} {us:List Value},Vals xs us->xs.all iJ=true->us.any (eqU x)=xs.any fun y=>eqV y x
 |_,_,.nil,_=>rfl
 |y::xs,u::us,.cons r t,f=>by rw[YW,ZK]at f;rw[Y6,Y6,yd r f.1,iU t f.2]
theorem hV{A:Around}{s:Shared}{x:V}{v:Value}(rx:RelV x v)(fx:iJ x=true):∀{xs:List V} {us:List Value},Vals xs us->xs.all iJ=true->∀u∈us,SeqAt.EqAt A s u v (eqU x u)
 |_,_,.nil,_=>fun u hu=>by cases hu
 |y::xs,u::us,.cons r t,f=>fun u' hu=>by
  rw[YW,ZK]at f;rcases Zl.mp hu with rfl|hu
  ·rw[yd r f.1];exact ED r rx f.1 fx
  ·exact hV rx fx t f.2 u' hu
def inV(x:V)(xs:List V):Bool:=xs.any fun y=>eqV y x
def rIn(K:PySem.W.Frag)(neg:Bool):R2:=fun x y H Q=>∃p xs,y=.ref p/\(SqL K H p xs\/SqT K H p xs)/\iJ x=true/\xs.all iJ=true/\Q (.bl (if neg then !inV x xs else inV x xs)) H
theorem yL:OpR X (compareOp .In) (rIn X.K false):=by
 intro pins s σ H x y v u Q I rx ry h;obtain⟨p,xs,rfl,hq,fx,fs,q⟩:=h;cases ry;rcases hq with hq|hq
 ·obtain⟨its,r,pl,hz⟩:=I.list hq;refine SeqAt.in_listAt (eqU x) pl.isList (fun w hw=>hV rx fx r fs w (by simpa using hw)) ⟨.bl _,H,I,rfl,?_⟩;rw[show its.toArray.any (eqU x)=its.any (eqU x) by simp,iU r fs];exact q
 ·obtain⟨its,r,pl,hz⟩:=I.tuple hq;refine SeqAt.in_tupleAt (eqU x) pl (fun w hw=>hV rx fx r fs w (by simpa using hw)) ⟨.bl _,H,I,rfl,?_⟩;rw[show its.toArray.any (eqU x)=its.any (eqU x) by simp,iU r fs];exact q
theorem tD:OpR X (compareOp .NotIn) (rIn X.K true):=by
 intro pins s σ H x y v u Q I rx ry h;obtain⟨p,xs,rfl,hq,fx,fs,q⟩:=h;cases ry;rcases hq with hq|hq
 ·obtain⟨its,r,pl,hz⟩:=I.list hq;refine SeqAt.notIn_listAt (eqU x) pl.isList (fun w hw=>hV rx fx r fs w (by simpa using hw)) ⟨.bl _,H,I,rfl,?_⟩;rw[show its.toArray.any (eqU x)=its.any (eqU x) by simp,iU r fs];exact q
 ·obtain⟨its,r,pl,hz⟩:=I.tuple hq;refine SeqAt.notIn_tupleAt (eqU x) pl (fun w hw=>hV rx fx r fs w (by simpa using hw)) ⟨.bl _,H,I,rfl,?_⟩;rw[show its.toArray.any (eqU x)=its.any (eqU x) by simp,iU r fs];exact q
theorem rZ:eO X (.builtin "len") (fun xs H Q=>∃p ys,xs=[.ref p]/\(SqL X.K H p ys\/SqT X.K H p ys)/\Q (.int ys.length) H):=by
 intro pins s σ H xs us Q I r h;obtain⟨p,ys,rfl,hq,q⟩:=h;obtain⟨u,rfl,rx⟩:=fq r;cases rx;have hn:=nI;rcases hq with hq|hq
 ·obtain⟨its,r',pl,hz⟩:=I.list hq;have hlen:=r'.length;exact Calls.call_len_list pl.isList (by simp only[Zi]<;>omega) ⟨.int ys.length,H,I.tok _,⟨s.toks+1,by rw[Zi,hlen]⟩,q⟩
 ·obtain⟨its,r',pl,hz⟩:=I.tuple hq;have hlen:=r'.length;exact len_tuple pl (by simp only[Zi]<;>omega) ⟨.int ys.length,H,I.tok _,⟨s.toks+1,by rw[Zi,hlen]⟩,q⟩
theorem se:eO X (.type "list") (fun xs H Q=>∃p ys,xs=[.ref p]/\(SqL X.K H p ys\/SqT X.K H p ys)/\∀l,H l=none->Q (.ref l) (upd H l (.lst ys))):=by
 intro pins s σ H xs us Q I r h;obtain⟨p,ys,rfl,hq,q⟩:=h;obtain⟨u,rfl,rx⟩:=fq r;cases rx;have fin:∀(its:List Value),Vals ys its->ys.length<=sizeLine->∀(h':Heap) (c':Nat),(∀b o',s.heap.get? b=some o'->h'.get? b=some o') ->
   h'.get? s.heap.objs.size=some { cls:=.type "list",dict:=none,data:=.seq its.toArray c',slots:=#[] }->EP X pins σ Q (.ref s.heap.objs.size) { s with heap:=h' }:=fun its r' hz h' c' kp e =>
  ⟨.ref s.heap.objs.size,_,I.laid (t':=s.toks) kp (Ze _) (show ObjOk X.prog X.w _ h' _ (.lst ys)from⟨hz,its,c',r',e⟩),rfl,q _ (I.hok.fresh (Ze _))⟩
 rcases hq with hq|hq
 ·obtain⟨its,r',pl,hz⟩:=I.list hq;have hlen:=r'.length;obtain⟨o,ho,hc,n,hd⟩:=pl.isList;exact call_list_seq p (.inl rfl) ho hc hd (fun h' c' kp e=>fin its r' hz h' c' kp e) (by simp only[Zi]<;>omega)
 ·obtain⟨its,r',pl,hz⟩:=I.tuple hq;have hlen:=r'.length;obtain⟨o,ho,hc,n,hd⟩:=pl;exact call_list_seq p (.inr rfl) ho hc hd (fun h' c' kp e=>fin its r' hz h' c' kp e) (by simp only[Zi]<;>omega)
theorem qW:eO X (.type "tuple") (fun xs H Q=>∃p ys,xs=[.ref p]/\((SqL X.K H p ys/\∀l,H l=none->Q (.ref l) (upd H l (.tup ys)))\/(SqT X.K H p ys/\Q (.ref p) H))):=by
 intro pins s σ H xs us Q I r h;obtain⟨p,ys,rfl,h⟩:=h;obtain⟨u,rfl,rx⟩:=fq r;cases rx;rcases h with⟨hq,q⟩|⟨hq,q⟩
 ·obtain⟨its,r',pl,hz⟩:=I.list hq;have hlen:=r'.length;refine call_tuple_list pl.isList (fun h' kp=>?_) (by simp only[Zi]<;>omega);have I1:Inv X pins σ H { s with heap:=h' }:=I.kept (t':=s.toks) kp;have I2:Inv X pins σ (upd H h'.objs.size (.tup ys)) { s with heap:=h'.push { cls:=.type "tuple",data:=.seq its.toArray } } :=
   I1.laid (t':=s.toks) (fun b o e=>Zb _ e) (Ze _) (show ObjOk X.prog X.w _ _ _ (.tup ys)from⟨hz,its,r',IsTup.new _ _⟩)
  exact⟨.ref h'.objs.size,_,I2,rfl,q _ (I1.hok.fresh (Ze _))⟩
 ·obtain⟨its,r',pl,hz⟩:=I.tuple hq;exact call_tuple_same pl ⟨.ref p,H,I,rfl,q⟩
def tyV(K:PySem.W.Frag)(T:String)(x:V)(H:Hp):Prop:=match x with
 |.str _=>T="str"
 |.int _=>T="int"
 |.ref p=>(T="list"/\∃xs,SqL K H p xs)\/(T="tuple"/\∃o,K.lookup p=some o/\o.cls=.type "tuple"/\o.dict=none) \/
   (T="dict"/\((∃kvs,H p=some (.dK kvs))\/∃kvs,H p=some (.dT kvs)))\/(T="set"/\∃S n,H p=some (.set S n))
 |_=>False
theorem GC{pins:List (Addr×Obj)}{σ:St}{H:Hp}{s:Shared}{T:String}{x:V}{v:Value}(I:Inv X pins σ H s)(r:RelV x v)(ty:tyV X.K T x H) :
  s.TypeIs v T/\∀a,v=.ref a->∃ob,s.heap.get? a=some ob/\ob.dict=none:=by
 cases x with
 |str z =>obtain⟨t,rfl⟩:=r;cases(show T="str" from ty);exact⟨typeIs_str s z t,fun _ e=>nomatch e⟩
 |int i =>obtain⟨t,rfl⟩:=r;cases(show T="int" from ty);exact⟨typeIs_int s i t,fun _ e=>nomatch e⟩
 |ref p =>
  cases r;rcases ty with⟨rfl,xs,hq⟩|⟨rfl,o,hk,hc,hd⟩|⟨rfl,hk⟩|⟨rfl,S,n,hk⟩
  ·obtain⟨its,_,pl,_⟩:=I.list hq;refine⟨pl.isList.typeIs,fun a e=>?_⟩;cases e;obtain⟨o,n,e,c,hd,_⟩:=pl;exact⟨o,e,hd⟩
  ·refine⟨⟨o,I.kIn p o hk,hc⟩,fun a e=>?_⟩;cases e;exact⟨o,I.kIn _ o hk,hd⟩
  ·have z:∃o,s.heap.get? p=some o/\o.ExactDict:=by
    rcases hk with⟨kvs,hk⟩|⟨kvs,hk⟩
    ·obtain⟨_,_,_,_,o,_,_,e,ex,_⟩:=I.hok p _ hk;exact⟨o,e,ex⟩
    ·obtain⟨_,_,_,_,o,_,_,e,ex,_⟩:=I.hok p _ hk;exact⟨o,e,ex⟩
   obtain⟨o,e,ex⟩:=z;refine⟨⟨o,e,ex.1⟩,fun a e2=>?_⟩;cases e2;exact⟨o,e,ex.2.1⟩
  ·obtain⟨o,_,_,_,e,ex,_⟩:=I.hok p _ hk;refine⟨⟨o,e,ex.1⟩,fun a e2=>?_⟩;cases e2;exact⟨o,e,ex.2.1⟩
 |_=>exact False.elim ty
def tBM(K:PySem.W.Frag)(T:String)(r:V->List V->Hp->VK->Prop)(to:TE)(t:TA):TE:=fun σ H Q=>to σ H fun x H1=>tyV K T x H1/\t σ H1 fun xs H2=>r x xs H2 Q
variable{o e:Expr}{es:List Expr}{to:TE}{t:TA}{name:Str}{apos cpos:Pos}{T id:String}{r:V->List V->Hp->VK->Prop}
theorem Ht(pa:PlainAttrs T)(slot:Slot T name id)(hty:typeOf (.builtin id)=pure (.type "method_descriptor"))(hm:MtR X id r)(ho:PE X o to)(ha:PA X (e::es) t)(hbase:attributeBase o name X.env (eval o X.env)=eval o X.env:=by rfl)(hfew:((backTo cpos (starEach (e::es) X.env)).all (fun x=>!x.1)&&(backToKw cpos (keywordEach [] X.env)).all (fun x=>x.1.isSome)
  &&decide ((e::es).length+([]:List Keyword).length+(if ([]:List Keyword).isEmpty then 0 else 1)<30))=true:=by rfl)(hline:(apos.endLine == cpos.line)=true:=by rfl)(hs:starEach (e::es) X.env=(false,eval e X.env)::starEach es X.env:=by rfl)(hplain:(backTo cpos (starEach es X.env)).any (·.1)=false:=by rfl) :
  PE X (.Call (.Attribute o name apos) (e::es) [] cpos) (tBM X.K T r to t):=by
 intro pins s σ H Q I h;refine wpAny_Call_method_late hbase hfew hline rfl (thn (ho pins s σ H _ I h) fun v s1 hz9=>?_);obtain⟨x,H1,I1,r1,ty,q1⟩:=hz9;obtain⟨h1,h2⟩:=GC I1 r1 ty;refine⟨T,id,pa,slot,hty,h1,h2,?_⟩;have hA:=ha cpos pins s1 σ H1 _ I1 q1;rw[hs]at hA ⊢;refine Calls.callWith_builtin (by show(false ||(backTo cpos (starEach es X.env)).any (·.1))=false;rw[hplain]<;>rfl) (Calls.evalArgs_plain ?_);exact thn hA fun us s2 ⟨vs,H2,I2,r2,q2⟩=>hm pins s2 σ H2 x vs v us Q I2 r1 r2 q2
end
open PySem PySem.Spec PyProof.Rows
def MtM(X:Cx)(id:String)(r:V->List V->Hp->VK->Prop):Prop :=
 ∀(pins:List (Addr×Obj)) (s:Shared) (σ:St) (H:Hp) (x:V) (xs:List V) (v:Value) (us:List Value) (Q:VK),Inv X pins σ H s->RelV x v->Vals xs us->r x xs H Q ->
  wpAny (model X.prog X.w) X.A (call (.builtin id) (v::us)) (EP X pins σ Q) X.xe s
theorem Vals.one:∀{x:V} {us:List Value},Vals [x] us->∃u,us=[u]/\RelV x u
 |_,_,.cons r .nil=>⟨_,rfl,r⟩
theorem Vals.rep{xs:List V}{us:List Value}(h:Vals xs us):∀k:Nat,Vals (List.replicate k xs).flatten (List.replicate k us).flatten
 |0=>.nil
 |k+1=>by rw[YK,YK,Ys,Ys];exact Vals.append h (Vals.rep h k)
theorem kh(its:List Value):∀(k:Nat) (acc:List Value),
  List.foldl (fun x1 x2=>x1++x2) acc.toArray (List.replicate k its.toArray)=(acc++(List.replicate k its).flatten).toArray
 |0,acc=>by simp
 |k+1,acc=>by
  have e:acc.toArray++its.toArray=(acc++its).toArray:=by simp
  have e2:(acc++its)++(List.replicate k its).flatten=acc++(List.replicate (k+1) its).flatten:=by rw[YK,Ys,ZJ]
  rw[<-e2,<-kh its k (acc++its),<-e,YK,List.foldl_cons]
section
variable{X:Cx}{pins:List (Addr×Obj)}{σ:St}{H:Hp}{s:Shared}{l b:Addr}{xs ys zs:List V}
theorem Inv.lset{its its':List Value}{n:Nat}{f:Array Value->Array Value}{t':Nat}(I:Inv X pins σ H s)(hH:H l=some (.lst xs))(e:s.heap.get? l=some { cls:=.type "list",data:=.seq its.toArray n })(hf:f its.toArray=its'.toArray)(hv:Vals ys its')(hz:ys.length<=sizeLine) :
  Inv X pins σ (upd H l (.lst ys)) { s with heap:=s.heap.update l (Obj.mapSeq f),toks:=t' }:=by
 have q:=PySem.IsL.update e f;rw[hf]at q;refine I.write (x:=l) (e:=l) (by rw[hH];exact trivial) (.inl rfl) (fun b' u hb hu=>(y8 s.heap (Obj.mapSeq f) (y9 hb)).trans hu) ⟨_,q⟩ ?_;exact⟨hz,its',_,hv,q⟩
theorem Inv.lnew{its:List Value}{t':Nat}(I:Inv X pins σ H s)(hv:Vals ys its)(hz:ys.length<=sizeLine) :
  Inv X pins σ (upd H s.heap.objs.size (.lst ys)) { s with heap:=s.heap.push { cls:=.type "list",data:=.seq its.toArray },toks:=t' } :=
 I.laid (fun _ _ q=>Zb _ q) (Ze _) ⟨hz,its,0,hv,Zo _ rfl⟩
theorem Inv.fresh(I:Inv X pins σ H s):H s.heap.objs.size=none:=I.hok.fresh (Ze _)
theorem Inv.lstM(I:Inv X pins σ H s)(hH:H l=some (.lst xs)):xs.length<=sizeLine/\∃(its:List Value) (n:Nat),Vals xs its/\xs.length=its.length/\s.heap.get? l=some { cls:=.type "list",data:=.seq its.toArray n }:=by obtain⟨z,its,n,r,e⟩:=I.hok l _ hH;exact⟨z,its,n,r,r.length,e⟩
theorem AQ{n:Nat}(h:n<=sizeLine):Builtin.List.listTooLong n=false:=by unfold Builtin.List.listTooLong;exact decide_eq_false (by omega)
end
section
variable{X:Cx}
def vE:V->List V->Hp->VK->Prop:=fun x vs H Q=>∃l xs y,x=.ref l/\vs=[y]/\H l=some (.lst xs)/\xs.length<sizeLine/\Q .non (upd H l (.lst (xs++[y])))
theorem yA:MtM X "list.append" vE:=by intro pins s σ H x vs v us Q I rx rv h;obtain⟨l,xs,y,rfl,rfl,hH,hz,q⟩:=h;cases rx;obtain⟨u,rfl,ru⟩:=rv.one;obtain⟨z,its,n,r,hl,e⟩:=I.lstM hH;refine call_meets F.slot_list_append ⟨_,e,rfl⟩ F.entry_list_append (F.args_list_append_2 _ _) (PySem.list_append l its.toArray n u (by rw[Zi];omega)) ⟨e,?_⟩;refine⟨.non,_,I.lset (its':=its++[u]) hH e (by simp) (r.append (.cons ru .nil)) ?_,rfl,q⟩;rw[Zk,Yf];omega
def FW:R2:=fun x y H Q=>∃l b xs zs,x=.ref l/\y=.ref b/\H l=some (.lst xs)/\H b=some (.lst zs)/\xs.length+zs.length<=sizeLine/\∀p,H p=none->Q (.ref p) (upd H p (.lst (xs++zs)))
theorem Ff:OpR X (binaryOp .Add) FW:=by
 intro pins s σ H x y v u Q I rx ry h;obtain⟨l,b,xs,zs,rfl,rfl,hH,hB,hz,q⟩:=h;cases rx;cases ry;obtain⟨z,its,n,r,hl,e⟩:=I.lstM hH;obtain⟨z2,its2,n2,r2,hl2,e2⟩:=I.lstM hB;refine PySem.P.add_list e e2 ?_ (by rw[Zi,Zi];omega);have ea:its.toArray++its2.toArray=(its++its2).toArray:=by simp
 rw[ea];exact⟨.ref _,_,I.lnew (t':=s.toks) (r.append r2) (by rw[Zk];omega),rfl,q _ I.fresh⟩
def F9:R2:=fun x y H Q=>∃l k xs,x=.ref l/\y=.int k/\H l=some (.lst xs)/\-(2^63)<=k/\k<2^63/\xs.length*k.toNat<=sizeLine /\
 ∀p,H p=none->Q (.ref p) (upd H p (.lst (List.replicate k.toNat xs).flatten))
theorem oY{α:Type}(xs:List α)(k:Nat):(List.replicate k xs).flatten.length=k*xs.length:=by
 induction k with
 |zero=>simp
 |succ k ih=>rw[YK,Ys,Zk,ih,Nat.succ_mul,Nat.add_comm]
theorem Fk:OpR X (binaryOp .Mult) F9:=by
 intro pins s σ H x y v u Q I rx ry h;obtain⟨l,k,xs,rfl,rfl,hH,h1,h2,hz,q⟩:=h;cases rx;obtain⟨t,rfl⟩:=ry;obtain⟨z,its,n,r,hl,e⟩:=I.lstM hH;have hlen:its.toArray.size*k.toNat<=sizeLine:=by rw[Zi,<-hl];exact hz
 have hcap:¬its.toArray.size*k.toNat>(2^63-1) / 8:=by
  have:(sizeLine:Nat)<=(2^63-1) / 8:=by decide
  omega
 have hfit:¬(!Builtin.List.listFitsIndex k)=true:=by rw[fitsIndex_both h1 h2];exact Zr
 have hlong:¬Builtin.List.listTooLong (its.toArray.size*k.toNat)=true:=by rw[AQ hlen];exact Zr
 have hnew:List.foldl (fun x1 x2=>x1++x2) #[] (List.replicate (if its.toArray.isEmpty=true then 0 else k.toNat) its.toArray)=(List.replicate k.toNat its).flatten.toArray:=by
  have f0:∀m:Nat,List.foldl (fun x1 x2=>x1++x2) #[] (List.replicate m its.toArray)=(List.replicate m its).flatten.toArray:=fun m=>by have:=kh its m [];rw[YH]at this;exact this
  rw[f0];cases its with
  |nil=>simp
  |cons a r'=>rw[if_neg (by simp)]
 refine wpAny_binaryOp_repeat_ref (T:="list") (U:="int") (by decide) ⟨_,e,rfl⟩ (fun s'=>typeIs_int s' k t) noFill_list_mul F.fills_int_mul F.slot_int_rmul repeat_list F.slot_int_index.lookup
  (call_meets F.slot_int_rmul (typeIs_int s k t) F.entry_int_rmul (F.args_int_rmul_2 _ _) (int___rmul___int_list k t l its.toArray n)
   ⟨e,rfl,⟨_,e,rfl⟩,call_meets F.slot_list_mul ⟨_,e,rfl⟩ F.entry_list_mul (F.args_list_mul_2 _ _) (AutoListH.list___mul___list_int_3 l its.toArray n k t hfit hcap hlong) ⟨e,?_⟩⟩)
 rw[hnew];exact⟨.ref _,_,I.lnew (t':=s.toks) (r.rep k.toNat) (by rw[oY,Nat.mul_comm];exact hz),rfl,q _ I.fresh⟩
end
open PySem PySem.Spec PyProof.Rows
section
variable{κ:Type}[DecidableEq κ]
def aS(kvs:List (κ×V))(k:κ):Option V:=(kvs.find? fun kv=>decide (kv.1=k)).map (·.2)
def aK(kvs:List (κ×V))(k:κ)(v:V):List (κ×V) :=
 if(kvs.any fun kv=>decide (kv.1=k))=true then kvs.map (fun kv=>if kv.1=k then(kv.1,v)else kv)else kvs++[(k,v)]
theorem bX{p:κ×V}{r:List (κ×V)}{k:κ}(e:p.1=k):aS (p::r) k=some p.2:=by simp[aS,YR,e]
theorem bL{p:κ×V}{r:List (κ×V)}{k:κ}(e:¬p.1=k):aS (p::r) k=aS r k:=by simp[aS,YR,e]
theorem fJ(k:κ):∀kvs:List (κ×V),(kvs.any fun kv=>decide (kv.1=k))=(aS kvs k).isSome
 | []=>rfl
 |p::r=>by
  rw[Y6];by_cases e:p.1=k
  ·simp only[bX e,decide_eq_true e,Bool.true_or,Option.isSome_some]
  ·rw[bL e,decide_eq_false e,Bool.false_or];exact fJ k r
theorem iO(kvs:List (κ×V))(k:κ)(v:V):(aK kvs k v).length<=kvs.length+1:=by
 unfold aK;split
 ·rw[Zf];omega
 ·rw[Zk,Zm,List.length_nil];omega
theorem tH{kvs:List (κ×V)}{k:κ}(v:V)(h:aS kvs k=none):aK kvs k v=kvs++[(k,v)]:=by unfold aK;rw[fJ,h];exact if_neg (by decide)
theorem RelO.isSome_eq{o:Option V}{u:Option Value}(r:RelO o u):o.isSome=u.isSome:=by
 cases o with
 |none=>cases u with
  |none=>rfl
  |some _=>exact(show False from r).elim
 |some _=>cases u with
  |none=>exact(show False from r).elim
  |some _=>rfl
theorem RelO.getD{o:Option V}{u:Option Value}{d:V}{d':Value}(r:RelO o u)(rd:RelV d d'):RelV (o.getD d) (u.getD d'):=by
 cases o with
 |none=>cases u with
  |none=>exact rd
  |some _=>exact(show False from r).elim
 |some _=>cases u with
  |none=>exact(show False from r).elim
  |some _=>exact r
theorem KV.val{kvs:List (κ×V)}{vs:List (κ×Value)}(r:KV kvs vs)(k:κ):RelO (aS kvs k) (valueAt vs k):=by
 unfold KV at r;induction r with
 |nil=>exact True.intro
 |@cons p q ps qs h t ih =>
  obtain⟨h1,h2⟩:=h;by_cases e:p.1=k
  ·have e':q.1=k:=h1.symm.trans e;have b:valueAt (q::qs) k=some q.2:=by simp[valueAt,YR,e']
   rw[bX e,b];exact h2
  ·have e':¬q.1=k:=fun z=>e (h1.trans z);have b:valueAt (q::qs) k=valueAt qs k:=by simp[valueAt,YR,e']
   rw[bL e,b];exact ih
theorem KV.any{kvs:List (κ×V)}{vs:List (κ×Value)}(r:KV kvs vs)(k:κ):(kvs.any fun kv=>decide (kv.1=k))=vs.any fun kv=>decide (kv.1=k):=by
 unfold KV at r;induction r with
 |nil=>rfl
 |cons h t ih=>rw[Y6,Y6,ih,h.1]
theorem KV.repl{kvs:List (κ×V)}{vs:List (κ×Value)}(r:KV kvs vs)(k:κ){y:V}{u:Value}(ry:RelV y u) :
  KV (kvs.map fun kv=>if kv.1=k then(kv.1,y)else kv) (vs.map fun kv=>if kv.1=k then(kv.1,u)else kv):=by
 unfold KV at r ⊢;induction r with
 |nil=>exact .nil
 |@cons p q ps qs h t ih =>
  rw[Zw,Zw];refine .cons ?_ ih;obtain⟨h1,h2⟩:=h;by_cases e:p.1=k
  ·rw[if_pos e,if_pos (h1.symm.trans e)];exact⟨h1,ry⟩
  ·rw[if_neg e,if_neg (fun z=>e (h1.trans z))];exact⟨h1,h2⟩
theorem KV.put{kvs:List (κ×V)}{vs:List (κ×Value)}(r:KV kvs vs)(k:κ){y:V}{u:Value}(ry:RelV y u):KV (aK kvs k y) (stored vs k u):=by
 unfold aK stored;rw[r.any k];by_cases e:(vs.any fun kv=>decide (kv.1=k))=true
 ·rw[if_pos e,if_pos e];exact r.repl k ry
 ·rw[if_neg e,if_neg e];exact Yr r ⟨rfl,ry⟩
theorem KV.length{kvs:List (κ×V)}{vs:List (κ×Value)}(r:KV kvs vs):kvs.length=vs.length:=ZV r
end
theorem kY{P:Program}{w:World}{k:Key}{u:Value}(r:RelV (kV k) u):(bw P w).is k u=true:=by
 cases k with
 |inl i=>obtain⟨t,e⟩:=(show∃t,u=Value.int i t from r);subst e;exact uA P w i t
 |inr x=>obtain⟨t,e⟩:=(show∃t,u=Value.str x t from r);subst e;exact uB P w x t
theorem qz{P:Program}{w:World}:∀{ks:List Key} {us:List Value},Vals (ks.map kV) us->ItemsAre (bw P w) ks us
 | [],_,r=>by rw[List.map_nil]at r;cases r;exact .nil
 |k::ks,_,r=>by
  rw[Zw]at r;cases r with
  |cons h t=>exact .cons (kY h) (qz t)
abbrev KT(H:Hp):List (List Key×V)->List (List Key×Addr×Value)->Prop:=Paired fun p q=>p.1=q.1/\H q.2.1=some (.tup (p.1.map kV))/\RelV p.2 q.2.2
theorem KT.val{H:Hp}{kvs:List (List Key×V)}{xs:List (List Key×Addr×Value)}(r:KT H kvs xs)(k:List Key):RelO (aS kvs k) ((atKey xs k).map (·.2)):=by
 induction r with
 |nil=>exact True.intro
 |@cons p q ps qs h t ih =>
  obtain⟨h1,_,h2⟩:=h;by_cases e:p.1=k
  ·have e':q.1=k:=h1.symm.trans e;have b:atKey (q::qs) k=some q.2:=by simp[atKey,YR,e']
   rw[bX e,b];exact h2
  ·have e':¬q.1=k:=fun z=>e (h1.trans z);have b:atKey (q::qs) k=atKey qs k:=by simp[atKey,YR,e']
   rw[bL e,b];exact ih
theorem KT.repl{H:Hp}{kvs:List (List Key×V)}{xs:List (List Key×Addr×Value)}(r:KT H kvs xs)(k:List Key){y:V}{u:Value}(ry:RelV y u) :
  KT H (kvs.map fun kv=>if kv.1=k then(kv.1,y)else kv) (xs.map (putAt k u)):=by
 induction r with
 |nil=>exact .nil
 |@cons p q ps qs h t ih =>
  rw[Zw,Zw];refine .cons ?_ ih;obtain⟨h1,h2,h3⟩:=h;unfold putAt;by_cases e:p.1=k
  ·rw[if_pos e,if_pos (h1.symm.trans e)];exact⟨h1,h2,ry⟩
  ·rw[if_neg e,if_neg (fun z=>e (h1.trans z))];exact⟨h1,h2,h3⟩
theorem KT.put{H:Hp}{kvs:List (List Key×V)}{xs:List (List Key×Addr×Value)}(r:KT H kvs xs)(k:List Key){b:Addr}{y:V}{u:Value}(hb:H b=some (.tup (k.map kV)))(ry:RelV y u) :
  KT H (aK kvs k y) (storedH xs k b u):=by
 have e:(kvs.any fun kv=>decide (kv.1=k))=(atKey xs k).isSome:=by rw[fJ,(r.val k).isSome_eq,Option.isSome_map]
 unfold aK storedH;rw[e];by_cases q:(atKey xs k).isSome=true
 ·rw[if_pos q,if_pos q];exact r.repl k ry
 ·rw[if_neg q,if_neg q];exact Yr r ⟨rfl,hb,ry⟩
theorem KT.keeps{H H':Hp}{kvs:List (List Key×V)}{xs:List (List Key×Addr×Value)}(r:KT H kvs xs)(ht:∀b ys,H b=some (.tup ys)->H' b=some (.tup ys)):KT H' kvs xs :=
 Paired.mapP r fun _ _ z=>⟨z.1,ht _ _ z.2.1,z.2.2⟩
section
variable{P:Program}{w:World}{H:Hp}{h:Heap}{a:Addr}
theorem Cl{u:HO}(ok:HOk P w H h)(e:Rd H a u):ObjOk P w H h a u:=e.ok ok
theorem jr{kvs:List (Key×V)}(ok:HOk P w H h)(e:Rd H a (.dK kvs)):kvs.length<=sizeLine/\(a==sysModules)=false/\∃vs,KV kvs vs/\h.DictOf (bw P w) a vs :=
 show ObjOk P w H h a (.dK kvs)from Cl ok e
theorem G4{kvs:List (Key×V)}(ok:HOk P w H h)(e:H a=some (.dK kvs)):kvs.length<=sizeLine/\(a==sysModules)=false/\∃vs,KV kvs vs/\h.DictOf (bw P w) a vs:=jr ok (.inl e)
theorem hJ{ks:List Key}(ok:HOk P w H h)(e:H a=some (.tup (ks.map kV))):(tupleKind (bw P w)).is h ks a:=by
 obtain⟨_,its,r,o,h1,h2,n,h3⟩:=(show ObjOk P w H h a (.tup (ks.map kV))from ok a _ e)
 exact⟨o,its.toArray,n,h1,h2,h3,by simpa using qz r⟩
theorem jt{kvs:List (List Key×V)}(ok:HOk P w H h)(e:Rd H a (.dT kvs)):kvs.length<=sizeLine/\(a==sysModules)=false /\
  ∃xs,KT H kvs xs/\h.DictOfH (tupleKind (bw P w)) a xs:=by
 obtain⟨z,y,xs,r,o,es,ep,h1,h2,h3,h4,h5⟩:=(show ObjOk P w H h a (.dT kvs)from Cl ok e)
 refine⟨z,y,xs,r,o,es,ep,h1,h2,h3,h4,fun x hx=>?_,h5⟩;have all:∀{l:List (List Key×V)} {m:List (List Key×Addr×Value)},KT H l m->∀x∈m,(tupleKind (bw P w)).is h x.1 x.2.1:=by
  intro l m q;induction q with
  |nil=>intro x hx;exact nomatch hx
  |@cons p q ps qs hq t ih =>
   intro x hx;rcases Zl.mp hx with e|hx
   ·subst e;exact hJ ok (by rw[<-hq.1];exact hq.2.1)
   ·exact ih x hx
 exact all r x hx
theorem G7{kvs:List (List Key×V)}(ok:HOk P w H h)(e:H a=some (.dT kvs)):kvs.length<=sizeLine/\(a==sysModules)=false /\
  ∃xs,KT H kvs xs/\h.DictOfH (tupleKind (bw P w)) a xs:=jt ok (.inl e)
end
def DGet(H:Hp)(a:Addr)(y:V)(r:Option V):Prop :=
 (∃kvs k,Rd H a (.dK kvs)/\y=kV k/\r=aS kvs k)\/∃kvs k b,Rd H a (.dT kvs)/\y=.ref b/\H b=some (.tup (k.map kV))/\r=aS kvs k
def DPut(H:Hp)(a:Addr)(y v:V)(H':Hp):Prop :=
 (∃kvs k,H a=some (.dK kvs)/\y=kV k/\kvs.length<sizeLine/\H'=upd H a (.dK (aK kvs k v))) \/
 ∃kvs k b,H a=some (.dT kvs)/\y=.ref b/\H b=some (.tup (k.map kV))/\kvs.length<sizeLine/\H'=upd H a (.dT (aK kvs k v))
theorem DGet.t{H:Hp}{a b:Addr}{kvs:List (List Key×V)}{k:List Key}(e:H a=some (.dT kvs))(eb:H b=some (.tup (k.map kV))):DGet H a (.ref b) (aS kvs k):=.inr ⟨kvs,k,b,.inl e,rfl,eb,rfl⟩
theorem DPut.t{H:Hp}{a b:Addr}{kvs:List (List Key×V)}{k:List Key}{v:V}(e:H a=some (.dT kvs))(eb:H b=some (.tup (k.map kV)))(hl:kvs.length<sizeLine) :
  DPut H a (.ref b) v (upd H a (.dT (aK kvs k v))):=.inr ⟨kvs,k,b,e,rfl,eb,hl,rfl⟩
section
variable{X:Cx}{pins:List (Addr×Obj)}{σ:St}{H:Hp}{s:Shared}{a:Addr}{y v:V}{u r:Value}{o:Option V}{A:Around}{E:Value->Shared->Prop}
theorem Inv.big(I:Inv X pins σ H s):sysModules<s.heap.objs.size:=by have h:mainGlobals<s.heap.objs.size:=(I.mod.glob.keeps I.bk).lt;exact Nat.lt_trans (by decide) h
theorem xX{Q:Value->Shared->Prop}(hu:A.units+1<cLine)(I:Inv X pins σ H s)(g:DGet H a y (some v))(ry:RelV y u)(h:∀w' s',Inv X pins σ H s'->RelV v w'->Q w' s') :
  wpAny (model X.prog X.w) A (getItem (.ref a) u) Q E s:=by
 rcases g with⟨kvs,k,e,ey,l⟩|⟨kvs,k,b,e,ey,eb,l⟩
 ·subst ey;obtain⟨z,hd,vs,rel,dd⟩:=jr I.hok e;obtain⟨w',hw,rw'⟩:=RelO.some_of (v:=v) (o:=valueAt vs k) (by rw[l];exact rel.val k);exact wpAny_getItem_of (kY ry) dd.mapOf hw (h w' _ (I.tok _) rw')
 ·subst ey;cases(show u=Value.ref b from ry);obtain⟨z,hd,xs,rel,dd⟩:=jt I.hok e;obtain⟨w',hw,rw'⟩:=RelO.some_of (v:=v) (o:=(atKey xs k).map (·.2)) (by rw[l];exact rel.val k);obtain⟨p,hp,hp2⟩:=Y3.mp hw;refine wpAny_getItem_heap (tupleKind_room_in1 hu) (hJ I.hok eb) dd hp ?_;rw[hp2];exact h w' _ (I.tok _) rw'
theorem Ia{Q:Value->Shared->Prop}(hu:A.units+1<cLine)(I:Inv X pins σ H s)(g:DGet H a y o)(ry:RelV y u)(h:∀s',Inv X pins σ H s'->Q (.bool o.isSome) s') :
  wpAny (model X.prog X.w) A (compareOp .In u (.ref a)) Q E s:=by
 rcases g with⟨kvs,k,e,ey,l⟩|⟨kvs,k,b,e,ey,eb,l⟩
 ·subst ey;obtain⟨z,hd,vs,rel,dd⟩:=jr I.hok e;refine wpAny_in_of (kY ry) hd dd.mapOf ?_;rw[<-(rel.val k).isSome_eq,<-l];exact h _ (I.tok _)
 ·subst ey;cases(show u=Value.ref b from ry);obtain⟨z,hd,xs,rel,dd⟩:=jt I.hok e;refine wpAny_in_heap (tupleKind_room_in1 hu) (hJ I.hok eb) hd dd ?_;have q:=(rel.val k).isSome_eq;rw[Option.isSome_map]at q;rw[<-q,<-l];exact h _ (I.tok _)
theorem CU{Q:Value->Shared->Prop}(hu:A.units+1<cLine)(I:Inv X pins σ H s)(g:DGet H a y o)(ry:RelV y u)(h:∀s',Inv X pins σ H s'->Q (.bool (!o.isSome)) s') :
  wpAny (model X.prog X.w) A (compareOp .NotIn u (.ref a)) Q E s:=by
 rcases g with⟨kvs,k,e,ey,l⟩|⟨kvs,k,b,e,ey,eb,l⟩
 ·subst ey;obtain⟨z,hd,vs,rel,dd⟩:=jr I.hok e;refine wpAny_notIn_of (kY ry) hd dd.mapOf ?_;rw[<-(rel.val k).isSome_eq,<-l];exact h _ (I.tok _)
 ·subst ey;cases(show u=Value.ref b from ry);obtain⟨z,hd,xs,rel,dd⟩:=jt I.hok e;refine wpAny_notIn_heap (tupleKind_room_in1 hu) (hJ I.hok eb) hd dd ?_;have q:=(rel.val k).isSome_eq;rw[Option.isSome_map]at q;rw[<-q,<-l];exact h _ (I.tok _)
theorem uU{h':Heap}{t':Nat}{ob:HO}(I:Inv X pins σ H s)(mu:Mut (H a))(hs:Heap.SameBut a s.heap h')(he:∃q,h'.get? a=some q)(new:ObjOk X.prog X.w (upd H a ob) h' a ob) :
  Inv X pins σ (upd H a ob) { s with heap:=h',toks:=t' } :=
 I.write (x:=a) (e:=a) mu (.inl rfl) (fun b q hb z=>(hs.2 b hb).trans z) he new
theorem EA{P:Program}{w:World}{H':Hp}{h':Heap}{kvs:List (Key×V)}{vs:List (Key×Value)}(z:kvs.length<=sizeLine)(hd:(a==sysModules)=false)(rel:KV kvs vs)(dd:h'.DictOf (bw P w) a vs) :
  ObjOk P w H' h' a (.dK kvs):=⟨z,hd,vs,rel,dd⟩
theorem xY{H':Hp}{Q:Unit->Shared->Prop}(hu:A.units+1<cLine)(I:Inv X pins σ H s)(g:DPut H a y v H')(ry:RelV y u)(rv:RelV v r)(h:∀s',Inv X pins σ H' s'->Q () s') :
  wpAny (model X.prog X.w) A (setItem (.ref a) u r) Q E s:=by
 rcases g with⟨kvs,k,e,ey,l,eH⟩|⟨kvs,k,b,e,ey,eb,l,eH⟩
 ·subst ey eH;obtain⟨z,hd,vs,rel,dd⟩:=G4 I.hok e;have hz:vs.length<=sizeLine:=by rw[<-rel.length];exact z
  have hl:(aK kvs k v).length<=sizeLine:=by have:=iO kvs k v;omega
  refine wpAny_setItem_pairs (hsz:=hz) (kY ry) dd fun h' dd' hs=>h _ ?_;have he:∃q,h'.get? a=some q:=let⟨q,_,_,hq,_⟩:=dd';⟨q,hq⟩
  exact uU I (by rw[e];exact True.intro) hs he (EA hl hd (rel.put k rv) dd')
 ·subst ey eH;cases(show u=Value.ref b from ry);obtain⟨z,hd,xs,rel,dd⟩:=G7 I.hok e;have hz:xs.length<=sizeLine:=by rw[<-ZV rel];exact z
  have hl:(aK kvs k v).length<=sizeLine:=by have:=iO kvs k v;omega
  refine wpAny_setItem_heap (hsz:=hz) (tupleKind_room_in1 hu) (hJ I.hok eb) dd fun h' dd' hs=>h _ ?_;obtain⟨q,es,ep,hq,h2,h3,h4,_,h5⟩:=dd';refine uU I (by rw[e];exact True.intro) hs ⟨q,hq⟩ ⟨hl,hd,_,(rel.put k eb rv).keeps fun c ys ec=>?_,q,es,ep,hq,h2,h3,h4,h5⟩;rw[ah (cM ec e (fun z=>nomatch z))];exact ec
end
def Ab(i:Expr):Prop:=∀ov iv,subscripted i false ov iv=operate [ov,iv] (getItem ov iv)
theorem DY{prog:Program}{w:World}{A:Around}{E:Value->Shared->Prop}{s:Shared}{env:Env}{value slice:Expr}{pos:Pos}{T id:String}{Q:Value->Shared->Prop}(hl:typeLookup (.type T) "__getitem__" = pure (some (.builtin id)))(hs:Ab slice)(h:wpAny (model prog w) A (eval value env) (fun o s₁=>wpAny (model prog w) A (eval slice env) (fun i s₂=>s₂.TypeIs o T/\wpAny (model prog w) A (getItem o i) Q E s₂) E s₁) E s) :
  wpAny (model prog w) A (eval (.Subscript value slice pos) env) Q E s:=by
 refine Subscript_ (ZS h (fun o s₁ h₁=>ZS h₁ (fun i s₂ h₂=>?_) fun _ _ x=>x) fun _ _ x=>x);obtain⟨hT,h₂⟩:=h₂;unfold subscriptTail;refine Za ?_;rw[getitemInPython_of_ne hT.not_modules];refine Za (wpAny_specialOf hT hl ?_);have fin:wpAny (model prog w) A (subscripted slice false o i) (fun r s₃=>wpAny (model prog w) A (letTemporaryGo value o r >>= fun _=>pure r) Q E s₃) E s₂:=by rw[hs o i];exact wpAny_operating (ZS h₂ (fun r s₃ h₃=>Za (wpAny_letTemporaryGo (Zh h₃))) fun _ _ x=>x)
 first
  |exact Zh (Za fin)
  |exact Za (Zh (Za fin))
  |exact Za fin
theorem uu{X:Cx}{pins:List (Addr×Obj)}{σ:St}{H:Hp}{s:Shared}{a:Addr}{y:V}{o:Option V}(I:Inv X pins σ H s)(g:DGet H a y o):s.TypeIs (.ref a) "dict":=by
 rcases g with⟨kvs,k,e,_,_⟩|⟨kvs,k,b,e,_,_,_⟩
 ·obtain⟨_,_,vs,_,dd⟩:=jr I.hok e;exact dd.typeIs
 ·obtain⟨_,_,xs,_,dd⟩:=jt I.hok e;exact dd.typeIs
def Cs(td ty:TE):TE:=fun σ H Q=>td σ H fun x H1=>ty σ H1 fun y H2=>∃a v,x=.ref a/\DGet H2 a y (some v)/\Q v H2
def BH(ty td:TE):TE:=fun σ H Q=>ty σ H fun y H1=>td σ H1 fun x H2=>∃a o,x=.ref a/\DGet H2 a y o/\Q (.bl o.isSome) H2
def vT(ty td:TE):TE:=fun σ H Q=>ty σ H fun y H1=>td σ H1 fun x H2=>∃a o,x=.ref a/\DGet H2 a y o/\Q (.bl (!o.isSome)) H2
def Cm(td ty tv:TE):TS:=fun D σ H=>tv σ H fun v H1=>td σ H1 fun x H2=>ty σ H2 fun y H3=>∃a H4,x=.ref a/\DPut H3 a y v H4/\D.nx σ H4
section
variable{X:Cx}{o i e value:Expr}{pos pos' tpos:Pos}{td ty tv:TE}
theorem Ds(hu:X.A.units+1<cLine)(ho:PE X o td)(hi:PE X i ty)(hs:Ab i):PE X (.Subscript o i pos) (Cs td ty):=by intro pins s σ H Q I h;refine DY PySem.F.slot_dict_getitem.lookup hs (thn (ho pins s σ H _ I h) fun u s1 ⟨x,H1,I1,rx,q1⟩=>thn (hi pins s1 σ H1 _ I1 q1) fun iv s2 hz9=>?_);obtain⟨y,H2,I2,ry,a,v,ex,g,q2⟩:=hz9;subst ex;obtain rfl:u=Value.ref a:=rx;exact⟨uu I2 g,xX hu I2 g ry fun w' s3 I3 rw'=>⟨v,H2,I3,rw',q2⟩⟩
theorem yO(hu:X.A.units+1<cLine)(hi:PE X i ty)(ho:PE X o td):PC X .In i o (BH ty td):=by intro pins s σ H Q I h;refine thn (hi pins s σ H _ I h) fun iv s1 ⟨y,H1,I1,ry,q1⟩=>thn (ho pins s1 σ H1 _ I1 q1) fun u s2 hz9=>?_;obtain⟨x,H2,I2,rx,a,ov,ex,g,q2⟩:=hz9;subst ex;obtain rfl:u=Value.ref a:=rx;exact Ia hu I2 g ry fun s3 I3=>⟨.bl ov.isSome,H2,I3,rfl,q2⟩
theorem yP(hu:X.A.units+1<cLine)(hi:PE X i ty)(ho:PE X o td):PC X .NotIn i o (vT ty td):=by intro pins s σ H Q I h;refine thn (hi pins s σ H _ I h) fun iv s1 ⟨y,H1,I1,ry,q1⟩=>thn (ho pins s1 σ H1 _ I1 q1) fun u s2 hz9=>?_;obtain⟨x,H2,I2,rx,a,ov,ex,g,q2⟩:=hz9;subst ex;obtain rfl:u=Value.ref a:=rx;exact CU hu I2 g ry fun s3 I3=>⟨.bl (!ov.isSome),H2,I3,rfl,q2⟩
theorem DF(hu:X.A.units+1<cLine)(ho:PE X o td)(hi:PE X i ty)(hv:PE X value tv)(hs:swapsWith value (some (.Subscript o i pos')) pos.line X.env=pure false) :
  PS X (.Assign [.Subscript o i pos'] value pos) (Cm td ty tv):=by
 intro pins s σ H D I h;refine wpAny_Assign_Subscript (thn (hv pins s σ H _ I h) fun r s1 ⟨v,H1,I1,rv,q1⟩=>thn (ho pins s1 σ H1 _ I1 q1) fun u s2 ⟨x,H2,I2,rx,q2⟩=>thn (hi pins s2 σ H2 _ I2 q2) fun iv s3 hz9=>?_) hs;obtain⟨y,H3,I3,ry,a,H4,ex,g,q3⟩:=hz9;subst ex;obtain rfl:u=Value.ref a:=rx;exact xY hu I3 g ry rv fun s4 I4=>⟨σ,H4,I4,q3⟩
end
theorem At{P:Program}{w:World}{H:Hp}(h:Heap)(hb:sysModules<h.objs.size):ObjOk P w H (h.push { cls:=.type "dict",data:=.dict #[] }) h.objs.size (.dT []) :=
 ⟨y0 _,YZ.mpr (y9 (ZD hb)),[],.nil,_,#[],0,Zo _ rfl,⟨rfl,rfl,rfl⟩,rfl,rfl,List.nodup_nil⟩
def zE:TE:=fun _ H Q=>∀p,H p=none->Q (.ref p) (upd H p (.dT []))
section
variable{X:Cx}{pos:Pos}
theorem Be:PE X (.Dict [] [] pos) zE:=fun pins s σ H Q I h =>
 wpAny_Dict_empty ⟨.ref s.heap.objs.size,_,I.laid (a:=s.heap.objs.size) (o:=.dT []) (t':=s.toks) (fun _ _ q=>Zb _ q) (Ze _) (At s.heap I.big),rfl,h _ (I.hok.fresh (Ze _))⟩
end
def zG:List (TE×TE)->St->Hp->(List (V×V)->Hp->Prop)->Prop
 | [],_,H,Q=>Q [] H
 |(tk,tv)::r,σ,H,Q=>tk σ H fun x H1=>tv σ H1 fun y H2=>zG r σ H2 fun ps H3=>Q ((x,y)::ps) H3
abbrev VV:List (V×V)->List (Value×Value)->Prop:=Paired fun p q=>RelV p.1 q.1/\RelV p.2 q.2
def PPs(X:Cx)(pos:Pos)(keys:List (Option Expr))(values:List Expr)(trs:List (TE×TE)):Prop :=
 ∀(pins:List (Addr×Obj)) (s:Shared) (σ:St) (H:Hp) (Q:List (V×V)->Hp->Prop),Inv X pins σ H s->zG trs σ H Q ->
  wpAny (model X.prog X.w) X.A (evalPairs (pairTrees keys values X.env pos)) (fun vs s'=>∃ps H',Inv X pins σ H' s'/\VV ps vs/\Q ps H') X.xe s
structure M1(X:Cx)(o:Expr)(m:Str)(apos:Pos)(e:Expr)(cpos:Pos):Prop where
 base:attributeBase o m X.env (eval o X.env)=eval o X.env
 few:((backTo cpos (starEach [e] X.env)).all (fun x=>!x.1)&&(backToKw cpos (keywordEach [] X.env)).all (fun x=>x.1.isSome)
 &&decide (([e]:List Expr).length+([]:List Keyword).length+(if ([]:List Keyword).isEmpty then 0 else 1)<30))=true
 line:(apos.endLine==cpos.line)=true
 trees:backTo cpos (starEach [e] X.env)=[(false,eval e X.env)]
structure M2(X:Cx)(o:Expr)(m:Str)(apos:Pos)(e f:Expr)(cpos:Pos):Prop where
 base:attributeBase o m X.env (eval o X.env)=eval o X.env
 few:((backTo cpos (starEach [e,f] X.env)).all (fun x=>!x.1)&&(backToKw cpos (keywordEach [] X.env)).all (fun x=>x.1.isSome)
 &&decide (([e,f]:List Expr).length+([]:List Keyword).length+(if ([]:List Keyword).isEmpty then 0 else 1)<30))=true
 line:(apos.endLine==cpos.line)=true
 trees:backTo cpos (starEach [e,f] X.env)=[(false,eval e X.env),(false,eval f X.env)]
def IsD(H:Hp)(a:Addr):Prop:=(∃kvs,Rd H a (.dK kvs))\/∃kvs,Rd H a (.dT kvs)
theorem EN{X:Cx}{pins:List (Addr×Obj)}{σ:St}{H:Hp}{s:Shared}{a:Addr}(I:Inv X pins σ H s)(d:IsD H a) :
  s.TypeIs (.ref a) "dict"/\(∀b,Value.ref a=.ref b->∃ob,s.heap.get? b=some ob/\ob.dict=none)/\(a==sysModules)=false:=by
 rcases d with⟨kvs,e⟩|⟨kvs,e⟩
 ·obtain⟨_,hd,vs,_,dd⟩:=jr I.hok e;refine⟨dd.typeIs,fun b q=>?_,hd⟩;cases q;obtain⟨ob,_,_,h1,h2,_⟩:=dd;exact⟨ob,h1,h2.2.1⟩
 ·obtain⟨_,hd,xs,_,dd⟩:=jt I.hok e;refine⟨dd.typeIs,fun b q=>?_,hd⟩;cases q;obtain⟨ob,_,_,h1,h2,_⟩:=dd;exact⟨ob,h1,h2.2.1⟩
section
variable{X:Cx}{pins:List (Addr×Obj)}{σ:St}{H:Hp}{s:Shared}{a:Addr}{y d:V}{u r:Value}{o:Option V}{A:Around}{E:Value->Shared->Prop}
theorem Ez{Q:Value->Shared->Prop}(hu:A.units+1<cLine)(I:Inv X pins σ H s)(g:DGet H a y o)(ry:RelV y u)(rd:RelV d r)(h:∀w' s',Inv X pins σ H s'->RelV (o.getD d) w'->Q w' s') :
  wpAny (model X.prog X.w) A (call (.builtin "dict.get") [.ref a,u,r]) Q E s:=by
 rcases g with⟨kvs,k,e,ey,l⟩|⟨kvs,k,b,e,ey,eb,l⟩
 ·subst ey;obtain⟨z,hd,vs,rel,dd⟩:=jr I.hok e;refine call_meetsIn PySem.F.slot_dict_get dd.typeIs PySem.F.entry_dict_get (PySem.F.args_dict_get_3 _ _ _) (meets_dict_get_default (bw X.prog X.w) a (kY ry) hd r) ⟨_,dd.mapOf,h _ _ (I.tok _) ?_⟩;rw[l];exact(rel.val k).getD rd
 ·subst ey;cases(show u=Value.ref b from ry);obtain⟨z,hd,xs,rel,dd⟩:=jt I.hok e;refine call_meetsIn PySem.F.slot_dict_get dd.typeIs PySem.F.entry_dict_get (PySem.F.args_dict_get_3 _ _ _) (meetsH_dict_get_default (tupleKind (bw X.prog X.w)) a b hd r) ⟨tupleKind_room_in1 hu,k,xs,hJ I.hok eb,dd,h _ _ (I.tok _) ?_⟩;rw[l];exact(rel.val k).getD rd
end
def zD(td ty tx:TE):TE:=fun σ H Q=>td σ H fun x H1=>∃a,x=.ref a/\IsD H1 a/\ty σ H1 fun y H2=>tx σ H2 fun z H3=>∃o,DGet H3 a y o/\Q (o.getD z) H3
section
variable{X:Cx}{o e f:Expr}{apos cpos:Pos}{td ty tx:TE}
theorem Bc(hu:X.A.units+1<cLine)(ho:PE X o td)(he:PE X e ty)(hf:PE X f tx)(m:M2 X o "get" apos e f cpos):PE X (.Call (.Attribute o "get" apos) [e,f] [] cpos) (zD td ty tx):=by
 intro pins s σ H Q I h;refine wpAny_Call_method m.base m.few m.line PySem.F.plainAttrs_dict PySem.F.slot_dict_get PySem.F.type_dict_get (thn (ho pins s σ H _ I h) fun u s1 hz9=>?_);obtain⟨x,H1,I1,rx,a,ex,d,q1⟩:=hz9;subst ex;obtain rfl:u=Value.ref a:=rx;obtain⟨t1,t2,_⟩:=EN I1 d;refine⟨t1,t2,?_⟩;rw[m.trees];refine Calls.callWith_builtin rfl (Calls.evalArgs_plain (Calls.spliced_cons (thn (he pins s1 σ H1 _ I1 q1) fun iv s2 ⟨y,H2,I2,ry,q2⟩ =>
  Calls.spliced_cons (thn (hf pins s2 σ H2 _ I2 q2) fun fv s3 ⟨z,H3,I3,rz,ov,g,q3⟩=>Calls.spliced_nil ?_))))
 exact Ez hu I3 g ry rz fun w' s4 I4 rw'=>⟨_,H3,I4,rw',q3⟩
end
end L2
namespace Att
open PySem PySem.W PySem.Calls PyProof.Rows
theorem nF{P:Params}{h:Heap}:∀(ns:List Int) (vs:List Value),WellAll P h vs (ns.map WData.int)->IntsAre vs ns:=by
 intro ns;induction ns with
 |nil =>intro vs w;rw[List.map_nil]at w;cases w;exact .nil
 |cons n ns ih =>
  intro vs w;rw[Zw]at w;cases w with
  |cons a b =>cases a;exact .cons _ _ (ih _ b)
theorem zn{l:OpenLaw}{n:Nat}(hn:l.most=some n){P:Params}{h:Heap}{args:List WData}{vals:List Value}(hpre:l.row.toRowW.claim.pre args=true)(hwl:WellAll P h vals args) :
  ∃a vs ns,vals=[Value.ref a]/\args=[WData.list (ns.map WData.int)]/\h.get? a=some { cls:=.type "list",data:=.seq vs.toArray }/\IntsAre vs ns/\ns.length<=n:=by
 have hsh:WShape.hasAll [] args [.list .int]=true:=(pre_splitW hpre).1;have hc:l.pre.holds [] { args:=args }=true:=(pre_splitW hpre).2;obtain⟨d,r,rfl,h1,h2⟩:=hasAllW_cons hsh;obtain rfl:=hasAllW_nil h2;obtain⟨xs,rfl,h3⟩:=hasW_list h1;obtain⟨ns,rfl⟩:=items_int h3;have hlen:ns.length<=n:=by
  unfold OpenLaw.pre at hc;have h4:(WTm.not (.lt (.lit (.int (n:Int))) (.len (.arg 0)))).holds [] { args:=[.list (ns.map .int)] }=true:=by have h4:=(holds_andW hc).1;rw[hn]at h4;exact h4
  have h5:=condW_of h4 (w_not (w_lt w_lit (w_len_list (w_arg rfl))));rw[Zf]at h5;refine Nat.le_of_not_lt fun q=>?_;have q':(n:Int)<((ns.length:Nat):Int):=by omega
  first
   |(rw[decide_eq_true q']at h5;exact absurd h5 (by decide))
   |(simp at h5;omega)
 cases hwl with
 |cons w1 w2 =>
  cases w2;cases w1 with
  |list ho hall=>exact⟨_,_,ns,rfl,rfl,ho,nF ns _ hall,hlen⟩
theorem yV(l:OpenLaw)(args:List WData):l.row.toRowW.claim.post args (.bool true) args=true :=
 postW_of (r:=l.row.toRowW) (X:=(true==true))
  (show WShape.has [] (.bool true) .bool=true by first|rfl|decide|simp[WShape.has,WShape.arms,WShape.armsAll])
  (show(WTm.eq .res (.lit (.bool true))).value [] { args:=args,res:=some (.bool true),after:=args }=some (.bool (true==true))from w_eq_bool (w_res rfl) w_lit) rfl
theorem attach_call{l:OpenLaw}{n:Nat}{q:Program}{loose:List Str}{XP:(Str->Option Value)->Heap->Prop}{YP:World->Heap->Prop}{d:DefRec}(hn:l.most=some n)(hdf:d.params.defaults=[])(call:∀ (w:World) (s₀ s₁:Shared) (mg mb:Str->Option Value) (fa:Addr) (o:Obj) (pm cd doc:Value) (a:Addr) (vs:List Value) (ns:List Int),
   Ground q loose [] XP w s₀ mg mb s₁.heap->YP w s₁.heap ->
   s₁.heap.get? fa=some o->o.data=.func (docDef d.name d.params d.body d.scope pm cd doc)->s₁.heap.CodeRec cd d.name->mg d.name=some (.ref fa) ->
   s₁.heap.get? a=some { cls:=.type "list",data:=.seq vs.toArray }->IntsAre vs ns->ns.length<=n->s₁.gens=#[] ->
   codeAny (model l.prog w) callerA (.call (.ref fa) ⟨[.ref a],[]⟩) (fun r s'=>r=.ok (.ret (.bool true))/\OldK s₁.heap s'.heap/\s'.os=s₁.os/\AllBare s'.gens) s₁) :
  WalkO q loose XP YP l.row.toRowW d [] (fun f vs=>PySem.call f vs):=by
 intro w s₀ s₁ mg mb G Y fa o pm cd doc dV kV ho hd hcd hD hmg hg args vals as hpre hlay hrd hwl hlo;obtain rfl:dV=.none:=Dflts.none hD hdf;obtain rfl:kV=.none:=Dflts.noKw hD;obtain⟨a,vs,ns,rfl,rfl,hobj,hints,hlen⟩:=zn hn hpre hwl;refine enter_call (codeAny_mono (call w s₀ s₁ mg mb fa o pm cd doc a vs ns G Y ho (fd_plain hd) hcd hmg hobj hints hlen hg) fun r s' hq=>?_);obtain⟨rfl,h2,h3,h4⟩:=hq;exact⟨.inl ⟨.bool true,.bool true,[],rfl,fun _=>rfl,.bool true,yV l _,fun _=>⟨List.Pairwise.nil,fun _ hm=>(nomatch hm)⟩⟩,h2,h3,h4⟩
end Att
namespace L2
open PySem PySem.Spec PyProof.Rows
theorem qQ:∀{vs:List Value} {ns:List Int},IntsAre vs ns->Vals (ns.map V.int) vs
 |_,_,.nil=>.nil
 |_,_,.cons n t h=>.cons ⟨t,rfl⟩ (qQ h)
def Ac(H:Hp):Prop:=∀b,H b=none\/∃o xs,H b=some (.frz o (.lst xs))
theorem AJ{P:Program}{w:World}{K:PySem.W.Frag}{mg mb:Str->Option Value}{CX:CXT}{k:Nat}{fa a:Addr}{fd:FuncData}{x:Str}{sp:Sp}{s₁:Shared}{vs:List Value}{ns:List Int}(KX:K.In s₁.heap)(hns:s₁.heap.Ns mainGlobals mg)(hb:s₁.heap.Ns builtinsNs mb)(hbb:∀x:Str,x≠"__name__"->mb x=bootBuiltins x)(hlim:s₁.heap.NoLimit)(hg:s₁.gens=#[])(ha:s₁.heap.get? a=some { cls:=.type "list",data:=.seq vs.toArray })(hi:IntsAre vs ns)(hl:ns.length<=sizeLine)(hr:Room k callerA)(F:∀base:Heap,K.In base->base.Ns mainGlobals mg->FnOk P w K mg base CX k fa fd [x] sp)(hbind:∀(s:Shared) (u:Value),BindsTo s fd ⟨[u],[]⟩ [(x,u)])(hsp:∀H:Hp,Ac H->SqL K H a (ns.map V.int)->sp [.ref a] H (fun v _=>v=.bl true) fun _ _ _=>False)(hCX:∀H e s',CX [] H s₁ (fun _ _ _=>False) e s'->False) :
  codeAny (model P w) callerA (.call (.ref fa) ⟨[.ref a],[]⟩) (fun r s'=>r=.ok (.ret (.bool true))/\OldK s₁.heap s'.heap/\s'.os=s₁.os/\AllBare s'.gens) s₁:=by
 have rv:=qQ hi;have lenV:=hi.length;have core:∀H:Hp,Ac H->SqL K H a (ns.map V.int)->HOk P w H s₁.heap->(∀b,H b≠none->b=a)->(H a≠none->K.lookup a=none) ->
   codeAny (model P w) callerA (.call (.ref fa) ⟨[.ref a],[]⟩) (fun r s'=>r=.ok (.ret (.bool true))/\OldK s₁.heap s'.heap/\s'.os=s₁.os/\AllBare s'.gens) s₁:=by
  intro H hO hS hok hA hK;have base_of:∀{b:Addr} {o:Obj},s₁.heap.get? b=some o->H b=none->(jF s₁.heap H).get? b=some o:=fun e n=>AB e n;have noA:∀{b:Addr} {o:Obj} {es:Array DictEntry} {ep:Nat},s₁.heap.get? b=some o->o.data=.dict es ep->H b=none:=fun{b o es ep} e d=>by
   cases q:H b with
   |none=>rfl
   |some u =>have e':b=a:=hA b (by rw[q];simp);subst e';rw[ha]at e;cases e;have d':Data.seq vs.toArray _=Data.dict es ep:=d;cases d'
  have nsK:∀{b:Addr} {m:Str->Option Value},s₁.heap.Ns b m->(jF s₁.heap H).Ns b m:=fun{b m} ⟨o,es,ep,e,d,r⟩=>⟨o,es,ep,base_of e (noA e d),d,r⟩
  have hKb:K.In (jF s₁.heap H):=fun b o e=>base_of (KX b o e) (by
   cases q:H b with
   |none=>rfl
   |some u =>
    have e':b=a:=hA b (by rw[q];simp);subst e';rw[hK (by rw[q];simp)]at e;cases e)
  have hM:Mod K mg (jF s₁.heap H):=⟨hKb,nsK hns,⟨mb,nsK hb,hbb⟩,let⟨mc,h1,h2⟩:=hlim;⟨mc,nsK h1,h2⟩⟩
  have e0:Env0 P w K mg (jF s₁.heap H) callerA [] s₁ H:=⟨rfl,hM,fun b o e=>C9 e,Nat.le_of_eq (yk _ _),trivial,fun b hb=>absurd (show b∈([]:List Addr)from hb) (by simp),hok,.of_eq hg⟩
  refine codeAny_mono ((F _ hKb (nsK hns)).run callerA [] s₁ H ⟨[.ref a],[]⟩ [.ref a] [.ref a] _ _ hr e0 (hbind s₁ (.ref a)) (.cons rfl .nil) (hsp H hO hS)) fun r s' h=>?_;cases r with
  |error e=>exact(hCX H e s' h).elim
  |ok fl =>
   cases fl with
   |next=>exact False.elim h
   |brk=>exact False.elim h
   |cont=>exact False.elim h
   |ret u =>
    obtain⟨v,H',os,bare,un,hok',r',q⟩:=h;have q':v=.bl true:=q;subst q';obtain rfl:u=Value.bool true:=r';refine⟨rfl,OldK.of_keep fun b o e=>?_,os,bare⟩;cases q:H b with
    |none=>exact un.keep b o e q (by intro z;exact absurd (show b∈([]:List Addr)from z) (by simp)) (by simp)
    |some u =>
     rcases hO b with z|⟨ob,xs,z⟩
     ·rw[q]at z;cases z
     ·have z2:=un.frzs b ob _ z;obtain⟨e1,_⟩:=hok b _ z;obtain⟨e2,_⟩:=hok' b _ z2;rw[e]at e1;cases e1;exact e2
 cases hk:K.lookup a with
 |some o =>have e:=KX a o hk;rw[ha]at e;cases e;refine core (fun _=>none) (fun _=>.inl rfl) (.inr ⟨_,vs.toArray,_,hk,rfl,rfl,rfl,by rw[Zi,lenV];exact hl,by simpa using rv⟩) (fun b u z=>by have z':(none:Option HO)=some u:=z;cases z') (fun b z=>absurd rfl z) fun z=>absurd rfl z
 |none =>
  refine core (fun b=>if b=a then some (.frz { cls:=.type "list",data:=.seq vs.toArray } (.lst (ns.map V.int)))else none) (fun b=>?_) (.inl (.inr ⟨{ cls:=.type "list",data:=.seq vs.toArray },if_pos rfl⟩)) (fun b u z=>?_) (fun b z=>?_) fun _=>hk
  ·by_cases hb:b=a
   ·exact .inr ⟨_,_,if_pos hb⟩
   ·exact .inl (if_neg hb)
  ·by_cases hb:b=a
   ·have z':=(if_pos hb).symm.trans z;cases z';subst hb;exact⟨ha,by rw[Zf];exact hl,vs,_,rv,ha⟩
   ·have z':=(if_neg hb).symm.trans z;cases z'
  ·by_cases hb:b=a
   ·exact hb
   ·exact absurd (if_neg hb) z
open PySem PySem.Spec PyProof.Rows
theorem Ea{l:PySem.W.OpenLaw}{n k:Nat}{q:Program}{loose:List Str}{XP:(Str->Option Value)->Heap->Prop}{YP:World->Heap->Prop}{d:DefRec}{K:Params->PySem.W.Frag}{CX:World->CXT}{sp:World->Sp}{x:Str}(hn:l.most=some n)(hn2:n<=sizeLine)(hdf:d.params.defaults=[])(hr:Room k callerA)(hY:∀ (w:World) (h:Heap),YP w h->(K w.params).In h)(F:∀ (w:World) (mg:Str->Option Value) (fa:Addr) (h:Heap),(K w.params).In h->h.Ns mainGlobals mg->mg d.name=some (.ref fa) ->
   ∃fd:FuncData,(∀(s:Shared) (u:Value),BindsTo s fd ⟨[u],[]⟩ [(x,u)]) /\
    ∀ base:Heap,(K w.params).In base->base.Ns mainGlobals mg->FnOk l.prog w (K w.params) mg base (CX w) k fa fd [x] (sp w))(hsp:∀ (w:World) (H:Hp) (a:Addr) (ns:List Int),ns.length<=n->Ac H->SqL (K w.params) H a (ns.map V.int)->sp w [.ref a] H (fun v _=>v=.bl true) fun _ _ _=>False)(hCX:∀ (w:World) (H:Hp) (s:Shared) (e:Value) (s':Shared),CX w [] H s (fun _ _ _=>False) e s'->False) :
  PySem.W.WalkO q loose XP YP l.row.toRowW d [] (fun f vs=>PySem.call f vs):=by
 refine Att.attach_call hn hdf fun w s₀ s₁ mg mb fa o pm cd doc a vs ns G Y ho hd hcd hmg hobj hints hlen hg=>?_;have KX:=hY w _ Y;obtain⟨fd,hb,hF⟩:=F w mg fa _ KX G.T.g hmg;exact AJ KX G.T.g G.T.b G.T.builtins G.T.nolimit hg hobj hints (ZI hlen hn2) hr hF hb (fun H hO hS=>hsp w H a ns hlen hO hS) fun H e s'=>hCX w H s₁ e s'
open PySem PySem.Spec PyProof.Rows
def cR(s:Stmt)(j:Nat):Stmt:=match s with
 |.ClassDef _ _ _ body _ _ _ _ _ _ _=>body.getD j (.Pass ⟨0,0,0,0⟩)
 |_=>.Pass ⟨0,0,0,0⟩
def cJ(s:Stmt):Arguments:=match s with
 |.FunctionDef _ a _ _ _ _ _ _ _ _=>a
 |_=>{ posonlyargs:=[],args:=[],vararg:=none,kwonlyargs:=[],kw_defaults:=[],kwarg:=none,defaults:=[] }
def bJ(s:Stmt):List Stmt:=match s with
 |.FunctionDef _ _ b _ _ _ _ _ _ _=>b
 |_=>[]
def al(s:Stmt):Scope:=match s with
 |.FunctionDef _ _ _ _ _ _ sc _ _ _=>sc
 |_=>{ kind:=.function,names:=[],isGenerator:=false,isCoroutine:=false }
abbrev CX0:CXT:=fun _ _ _ _ _ _=>False
abbrev E0:XK:=fun _ _ _=>False
theorem lB{X:Cx}:eQ CX0 X E0:=fun _ _ _ _ _ _ _ h=>h.elim
structure Fun(K:PySem.W.Frag)(x qual:Str)(st:Stmt)(f:Addr)(fd:FuncData):Prop where
 ex:∃(oc:Value) (od:Option Addr) (kV doc pm:Value) (an:Option Addr) (cdv ct:Value) (osl:Array (Option Value)),
  fd=PySem.W.fnOf x qual (cJ st) (bJ st) (al st) .none kV doc pm an cdv ct/\K.lookup f=some ⟨oc,od,.func fd,osl⟩/\PySem.W.codeIn K cdv qual=true
 kp:PySem.W.keepIn K (.ref f)=true
section
variable{P:Program}{w:World}{K:PySem.W.Frag}{mg:Str->Option Value}{base:Heap}
theorem Fun.ok{x qual:Str}{st:Stmt}{f:Addr}{fd:FuncData}{N ps:List Str}{k:Nat}{sp:Sp}(F:Fun K x qual st f fd)(S:FnScope N ps (al st))(len:∀ vs H Q E,sp vs H Q E->vs.length=ps.length)(hbody:∀ (cdv:Value) (A:Around) (outer:List Env) (s:Shared) (H:Hp) (vs:List V) (Q:VK) (E:XK),Room k (A.deeper (envOfC qual (al st) s.heap.objs.size f cdv))->sp vs H Q E ->
   ∃ t,PSs (fZ CX0 P w K mg base N qual (al st) f cdv A outer s H E).nox (bJ st) t/\t { nx:=fun _ H'=>Q .non H',rt:=Q } (start N vs) H):FnOk P w K mg base CX0 (k+1) f fd ps sp:=by
 obtain⟨oc,od,kV,doc,pm,an,cdv,ct,osl,rfl,lk,hcd⟩:=F.ex;refine BV lk hcd S len fun A outer s H vs Q E hr hsp=>?_;obtain⟨t,h,q⟩:=hbody cdv A outer s H vs Q E hr hsp;exact⟨t,h.nox,q⟩
theorem Fun.binds{x qual:Str}{st:Stmt}{f:Addr}{fd:FuncData}{ps:List Str}(F:Fun K x qual st f fd)(h:∀(kV doc pm:Value) (an:Option Addr) (cdv ct:Value) (us:List Value),us.length=ps.length->bindArgs (PySem.W.fnOf x qual (cJ st) (bJ st) (al st) .none kV doc pm an cdv ct) ⟨us,[]⟩=pure (ps.zip us)):Binds K fd ps []:=by obtain⟨oc,od,kV,doc,pm,an,cdv,ct,osl,rfl,lk,hcd⟩:=F.ex;exact .all (h kV doc pm an cdv ct)
theorem yi{x qual:Str}{st:Stmt}{f:Addr}{oc:Value}{od an:Option Addr}{osl:Array (Option Value)}{kV doc pm cdv ct:Value}(l:K.lookup f=some ⟨oc,od,.func (PySem.W.fnOf x qual (cJ st) (bJ st) (al st) .none kV doc pm an cdv ct),osl⟩)(c:PySem.W.codeIn K cdv qual=true)(k:PySem.W.keepIn K (.ref f)=true):Fun K x qual st f (PySem.W.fnOf x qual (cJ st) (bJ st) (al st) .none kV doc pm an cdv ct):=⟨⟨oc,od,kV,doc,pm,an,cdv,ct,osl,rfl,l,c⟩,k⟩
end
theorem aO{n:Nat}(h:n<=1000):n<sizeLine:=Nat.lt_of_le_of_lt h (by decide)
theorem aJ{A B:Prop}(h:B):if false=true then A else B:=by rw[if_neg Zr];exact h
theorem aR{A B:Prop}(h:A):if true=true then A else B:=by rw[if_pos rfl];exact h
theorem Id{c A B:Prop}[Decidable c](h1:c->A)(h2:¬c->B):if c then A else B:=by
 by_cases h:c
 ·rw[if_pos h];exact h1 h
 ·rw[if_neg h];exact h2 h
theorem nG{c A B:Prop}[Decidable c](hc:c)(h:B):if(!decide c)=true then A else B:=by rw[decide_eq_true hc];exact aJ h
def Same(H H':Hp):Prop:=∀b o,H b=some o->H' b=some o
theorem Same.refl(H:Hp):Same H H:=fun _ _ h=>h
theorem Same.trans{H H1 H2:Hp}(a:Same H H1)(b:Same H1 H2):Same H H2:=fun c o h=>b c o (a c o h)
theorem Same.free{H H':Hp}(e:Same H H'){l:Addr}(h:H' l=Option.none):H l=Option.none:=by
 cases q:H l with
 |none=>rfl
 |some o =>rw[e l o q]at h;cases h
open PySem PySem.Spec PyProof.Rows
section
variable{κ:Type}[DecidableEq κ]
theorem BN{kvs:List (κ×V)}{k:κ}(h:aS kvs k=none):¬k∈kvs.map (·.1):=by intro m;obtain⟨p,hp,e⟩:=ZE.mp m;have q:(kvs.any fun kv=>decide (kv.1=k))=true:=List.any_eq_true.mpr ⟨p,hp,decide_eq_true e⟩;rw[fJ,h]at q;exact absurd q (by simp)
theorem vV{kvs:List (κ×V)}{k:κ}{v:V}(h:aS kvs k=some v):k∈kvs.map (·.1):=by
 have q:(kvs.any fun kv=>decide (kv.1=k))=true:=by
  rw[fJ,h]
  all_goals rfl
 obtain⟨p,hp,e⟩:=List.any_eq_true.mp q;exact ZE.mpr ⟨p,hp,of_decide_eq_true e⟩
end
open PySem PySem.Spec PyProof.Rows
theorem jd{env:Env}:∀{names:List (Str×NameKind)} {x:Str} {k:NameKind},
  (names.map fun(n,k)=>if(k==NameKind.free&&env.scope.kind == .function&&env.kindOf n==some .cell)then(n,NameKind.cell)else(n,k)).lookup x=some k ->
  ∃k',names.lookup x=some k'/\(k=k'\/(k'=.free/\k=.cell))
 | [],_,_,h=>by simp at h
 |(n,k0)::r,x,k,h=>by
  have ih:=@jd env r x k;rw[Zw]at h;by_cases hc:(k0==NameKind.free&&env.scope.kind == .function&&env.kindOf n==some .cell)=true
  ·have e:(if(k0==NameKind.free&&env.scope.kind == .function&&env.kindOf n==some .cell)=true then(n,NameKind.cell)else(n,k0))=(n,NameKind.cell):=if_pos hc;simp only[e]at h;cases hx:x==n with
   |true =>
    simp only[ZU,hx]at h ⊢;have hf:k0=.free:=by have:=hc;simp only[ZK,Z0]at this;exact this.1.1
    exact⟨k0,rfl,.inr ⟨hf,(Zu h).symm⟩⟩
   |false =>simp only[ZU,hx]at h ⊢;exact ih h
  ·have e:(if(k0==NameKind.free&&env.scope.kind == .function&&env.kindOf n==some .cell)=true then(n,NameKind.cell)else(n,k0))=(n,k0):=if_neg hc;simp only[e]at h;cases hx:x==n with
   |true =>simp only[ZU,hx]at h ⊢;exact⟨k0,rfl,.inl (Zu h).symm⟩
   |false =>simp only[ZU,hx]at h ⊢;exact ih h
theorem kB{env:Env}:∀{names:List (Str×NameKind)} {x:Str},names.lookup x=some .free ->
  (names.map fun(n,k)=>if(k==NameKind.free&&env.scope.kind == .function&&env.kindOf n==some .cell)then(n,NameKind.cell)else(n,k)).lookup x=some .cell \/
  (names.map fun(n,k)=>if(k==NameKind.free&&env.scope.kind == .function&&env.kindOf n==some .cell)then(n,NameKind.cell)else(n,k)).lookup x=some .free
 | [],_,h=>by simp at h
 |(n,k0)::r,x,h=>by
  have ih:=@kB env r x;rw[Zw];by_cases hc:(k0==NameKind.free&&env.scope.kind == .function&&env.kindOf n==some .cell)=true
  ·have e:(if(k0==NameKind.free&&env.scope.kind == .function&&env.kindOf n==some .cell)=true then(n,NameKind.cell)else(n,k0))=(n,NameKind.cell):=if_pos hc;simp only[e];cases hx:x==n with
   |true =>
    simp only[ZU,hx]at h ⊢
    first|exact .inl rfl|exact .inl trivial
   |false =>simp only[ZU,hx]at h ⊢;exact ih h
  ·have e:(if(k0==NameKind.free&&env.scope.kind == .function&&env.kindOf n==some .cell)=true then(n,NameKind.cell)else(n,k0))=(n,k0):=if_neg hc;simp only[e];cases hx:x==n with
   |true =>simp only[ZU,hx]at h ⊢;exact .inr h
   |false =>simp only[ZU,hx]at h ⊢;exact ih h
def bS(env:Env):List (Str×NameKind)->List (Str×Addr)->List (Str×Addr)
 | [],acc=>acc
 |y::r,acc=>if(y.2==NameKind.free)=true then bS env r ((y.1,(env.cells.lookup y.1).getD 0)::acc)else bS env r acc
theorem oM{env:Env}:∀{names:List (Str×NameKind)} {acc:List (Str×Addr)},(∀y∈names,y.2=.free->∃c,env.cells.lookup y.1=some c) ->
  (forIn names acc fun(x:Str×NameKind) (cs:List (Str×Addr))=>if(x.2==NameKind.free)=true then do let c ←cellOf env x.1;pure (ForInStep.yield ((x.1,c)::cs))else pure (ForInStep.yield cs):Sem (List (Str×Addr)))=pure (bS env names acc)
 | [],_,_=>rfl
 |y::r,acc,h=>by
  rw[List.forIn_cons];by_cases hy:(y.2==NameKind.free)=true
  ·obtain⟨c,hc⟩:=h y Zv (by simpa using hy);have e:cellOf env y.1=pure c:=by unfold cellOf;rw[hc]
   rw[if_pos hy,e,pure_bind,pure_bind];show(forIn r ((y.1,c)::acc) _:Sem (List (Str×Addr)))=_;rw[oM fun z hz=>h z (Zt _ hz)];show _=pure (if(y.2==NameKind.free)=true then bS env r ((y.1,(env.cells.lookup y.1).getD 0)::acc)else bS env r acc);rw[if_pos hy,hc];rfl
  ·rw[if_neg hy,pure_bind];show(forIn r acc _:Sem (List (Str×Addr)))=_;rw[oM fun z hz=>h z (Zt _ hz)];show _=pure (if(y.2==NameKind.free)=true then bS env r ((y.1,(env.cells.lookup y.1).getD 0)::acc)else bS env r acc);rw[if_neg hy]
theorem CT{scope:Scope}{env:Env}(h:∀y∈scope.names,y.2=.free->∃c,env.cells.lookup y.1=some c):closureFor scope env=pure (bS env scope.names []):=by have q:=oM (env:=env) (names:=scope.names) (acc:=[]) h;unfold closureFor;exact(by first|(simp only[bind_pure];exact q)|(rw[bind_pure];exact q)|exact q)
theorem oO{env:Env}:∀{names:List (Str×NameKind)} {acc:List (Str×Addr)},(∀y∈names,y.2=.free->∃c,env.cells.lookup y.1=some c)->(∀x c,acc.lookup x=some c->env.cells.lookup x=some c) ->
  ∀x c,(bS env names acc).lookup x=some c->env.cells.lookup x=some c
 | [],_,_,ha=>ha
 |y::r,acc,h,ha=>by
  have hr:∀z∈r,z.2=.free->∃c,env.cells.lookup z.1=some c:=fun z hz=>h z (Zt _ hz);intro x c e;unfold bS at e;by_cases hy:(y.2==NameKind.free)=true
  ·rw[if_pos hy]at e;refine oO hr (fun x' c' e'=>?_) x c e;obtain⟨d,hd⟩:=h y Zv (by simpa using hy);rw[hd,Option.getD_some]at e';cases hx:x'==y.1 with
   |true =>simp only[ZU,hx]at e';have e1:x'=y.1:=eq_of_beq hx;rw[e1,hd];exact e'
   |false =>simp only[ZU,hx]at e';exact ha x' c' e'
  ·rw[if_neg hy]at e;exact oO hr ha x c e
theorem mD{env:Env}:∀{names:List (Str×NameKind)} {acc:List (Str×Addr)} {x:Str},(∃c,acc.lookup x=some c)->∃c,(bS env names acc).lookup x=some c
 | [],_,_,h=>h
 |y::r,acc,x,h=>by
  unfold bS;by_cases hy:(y.2==NameKind.free)=true
  ·rw[if_pos hy];refine mD ?_;cases hx:x==y.1 with
   |true=>exact⟨(env.cells.lookup y.1).getD 0,by simp only[ZU,hx]⟩
   |false =>obtain⟨c,e⟩:=h;exact⟨c,by simp only[ZU,hx];exact e⟩
  ·rw[if_neg hy];exact mD h
theorem oK{env:Env}:∀{names:List (Str×NameKind)} {acc:List (Str×Addr)} {x:Str},names.lookup x=some .free->∃c,(bS env names acc).lookup x=some c
 | [],_,_,h=>by simp at h
 |(n,k)::r,acc,x,h=>by
  unfold bS;cases hx:x==n with
  |true =>
   simp only[ZU,hx]at h;have hy:(k==NameKind.free)=true:=by rw[Zu h];rfl
   rw[if_pos hy];exact mD ⟨(env.cells.lookup n).getD 0,by simp only[ZU,hx]⟩
  |false =>
   simp only[ZU,hx]at h;by_cases hy:(k==NameKind.free)=true
   ·rw[if_pos hy];exact oK h
   ·rw[if_neg hy];exact oK h
abbrev aV(X:Cx)(scope:Scope)(N':List Str)(C:Addr)(s0:Shared)(H0:Hp)(ex:List Addr):Cx where
 prog:=X.prog
 w:=X.w
 K:=X.K
 mg:=X.mg
 base:=X.base
 A:=X.A
 N:=N'
 s₀:=s0
 H₀:=H0
 env:=compEnvC scope (bS X.env scope.names []) C X.env
 outer:=X.stack
 stack:=X.stack
 ex:=ex
 fn:=fun _=>false
 calm:=X.calm
 pn:=[]
 xe:=fun _ _=>False
def CapOk(X:Cx)(sc:Scope):List Nat->List Str->Prop
 | [],[]=>True
 |j::js,x::xs=>X.N[j]?=some x/\sc.names.lookup x=some .free/\CapOk X sc js xs
 |_,_=>False
theorem CapOk.get{X:Cx}{sc:Scope}:∀{js:List Nat} {xs:List Str} {i:Nat} {x:Str},CapOk X sc js xs->xs[i]?=some x ->
  ∃j,js[i]?=some j/\X.N[j]?=some x/\sc.names.lookup x=some .free
 | [],[],_,_,_,e=>by simp at e
 |j::js,y::xs,0,x,h,e=>by
  obtain⟨h1,h2,_⟩:=h;have e':y=x:=by simpa using e
  subst e';exact⟨j,rfl,h1,h2⟩
 |j::js,y::xs,i+1,x,h,e=>by obtain⟨_,_,h6⟩:=h;obtain⟨j',q⟩:=CapOk.get (i:=i) (x:=x) h6 (by simpa using e);exact⟨j',by simpa using q.1,q.2⟩
 | [],_::_,_,_,h,_=>h.elim
 |_::_,[],_,_,h,_=>h.elim
theorem CapOk.len{X:Cx}{sc:Scope}:∀{js:List Nat} {xs:List Str},CapOk X sc js xs->js.length=xs.length
 | [],[],_=>rfl
 |j::js,y::xs,h=>by obtain⟨_,_,h6⟩:=h;simp[CapOk.len h6]
 | [],_::_,h=>h.elim
 |_::_,[],h=>h.elim
structure CompOk(X:Cx)(scope:Scope)(cap:List Nat)(capN:List Str):Prop where
 kind:scope.kind=.function
 names:∀x∈scope.names,x.2=.local->scope.names.lookup x.1=some .local
 nocell:∀y∈scope.names,y.2≠.cell
 frees:(scope.names.all fun y=>!(y.2==NameKind.free) ||(X.env.kindOf y.1==some .cell ||X.env.kindOf y.1==some .free))=true
 cap:CapOk X scope cap capN
section
variable{X:Cx}{scope:Scope}{cap:List Nat}{capN:List Str}
theorem CompOk.around(O:CompOk X scope cap capN){y:Str×NameKind}(hy:y∈scope.names)(hf:y.2=.free):X.env.kindOf y.1=some .cell\/X.env.kindOf y.1=some .free:=by have q:=YM.mp O.frees y hy;rw[hf]at q;simpa using q
theorem CompOk.cells(O:CompOk X scope cap capN)(ok:X.Ok):∀y∈scope.names,y.2=.free->∃c,X.env.cells.lookup y.1=some c:=fun y hy hf=>ok.has _ (O.around hy hf)
theorem CompOk.clos(O:CompOk X scope cap capN)(ok:X.Ok):closureFor scope X.env=pure (bS X.env scope.names []):=CT (O.cells ok)
theorem CompOk.sub(O:CompOk X scope cap capN)(ok:X.Ok):∀x c,(bS X.env scope.names []).lookup x=some c->X.env.cells.lookup x=some c:=oO (O.cells ok) fun x c e=>by simp at e
theorem CompOk.has(_O:CompOk X scope cap capN){x:Str}(h:scope.names.lookup x=some .free):∃c,(bS X.env scope.names []).lookup x=some c:=oK h
end
def cK(n:Nat)(cap:List Nat)(σ:St):St:=List.replicate n none++cap.map (fun j=>(σ[j]?).join)
theorem wF{n:Nat}{cap:List Nat}{σ:St}:(cK n cap σ).length=n+cap.length:=by unfold cK;rw[Zk,Ye,Zf]
theorem nq{n:Nat}{cap:List Nat}{σ:St}{i:Nat}{v:V}(h:(cK n cap σ)[i]?=some (some v)):n<=i/\∃j,cap[i-n]?=some j/\σ[j]?=some (some v):=by
 unfold cK at h;by_cases hi:i<n
 ·rw[YQ (by simpa using hi),YY]at h;rw[if_pos hi]at h;cases h
 ·have hi':n<=i:=Nat.le_of_not_lt hi;rw[Z4 (by simpa using hi'),Ye,ZA]at h;refine⟨hi',?_⟩;cases e:cap[i-n]? with
  |none=>rw[e]at h;cases h
  |some j =>
   rw[e]at h;refine⟨j,rfl,?_⟩;have h':(σ[j]?).join=some v:=by simpa using h
   cases q:σ[j]? with
   |none=>rw[q]at h';cases h'
   |some o =>rw[q]at h';have:o=some v:=h';rw[this]
section
variable{X:Cx}{pins:List (Addr×Obj)}{σ:St}{H:Hp}{s:Shared}{scope:Scope}{cap:List Nat}{capN N':List Str}{C:Addr}{ex:List Addr}
theorem xV(I:Inv X pins σ H s)(O:CompOk X scope cap capN)(hC:s.heap.objs.size<=C)(hex:∀b∈ex,bC X pins H b/\b<s.heap.objs.size):(aV X scope N' C s H ex).Ok where
 mod:=I.ok.mod
 kind:=O.kind
 glob:=I.ok.glob
 blt:=I.ok.blt
 above:=hC
 inj:=fun x y c h1 h2=>I.ok.inj x y c (O.sub I.ok x c h1) (O.sub I.ok y c h2)
 has:=fun x hx=>by
  have hx':(relabel scope X.env).names.lookup x=some .cell\/(relabel scope X.env).names.lookup x=some .free:=hx;have key:∀k,(relabel scope X.env).names.lookup x=some k->(k=.cell\/k=.free)->scope.names.lookup x=some .free:=fun k e hk=>by
   obtain⟨k',e',q⟩:=jd (env:=X.env) e;rcases q with q|⟨q,_⟩
   ·subst q;rcases hk with z|z
    ·subst z;exact absurd rfl (O.nocell _ (YJ e'))
    ·subst z;exact e'
   ·subst q;exact e'
  rcases hx' with e|e
  ·exact O.has (key _ e (.inl rfl))
  ·exact O.has (key _ e (.inr rfl))
 cab:=fun x c h _=>by cases h
 hd:=I.ok.hd
 frames:=I.ok.frames
 stk:=.inl rfl
 exf:=fun b hb=>by obtain⟨⟨f0,f1,f2,f3,f4,f5⟩,lt⟩:=hex b hb;exact⟨ZD (ZB lt hC),fun x c e=>f4 x c (O.sub I.ok x c e)⟩
 bs:=I.bs
 bsz:=ZI I.ok.bsz I.sz
 noex:=fun b o e hb=>by
  obtain⟨⟨f0,f1,f2,f3,f4,f5⟩,lt⟩:=hex b hb;rcases f3 with z|z
  ·exact I.ok.noex b o e z
  ·exact absurd (ZB (Zn e) (ZI I.ok.bsz z)) (YL _)
 exfs:=fun b hb z=>by
  obtain⟨⟨f0,f1,f2,f3,f4,f5⟩,lt⟩:=hex b hb;rcases Zl.mp (I.stkSub b z)with e|e
  ·exact f1 e
  ·exact f2 e
 funs:=I.stack
 frf:=I.stkFree
theorem yE(I:Inv X pins σ H s){b:Addr}(hb:s.heap.objs.size<=b):b∉frs X.stack:=fun z=>by
 rcases Zl.mp (I.stkSub b z)with e|e
 ·exact absurd (ZB I.lt hb) (by rw[e];exact YL _)
 ·exact I.nofs hb e
theorem AR(I:Inv X pins σ H s){b:Addr}(hb:s.heap.objs.size<=b):∀x c,X.env.cells.lookup x=some c->c≠b:=fun x c e z=>by obtain⟨v,q⟩:=I.cell x c e;exact absurd (ZB q.lt (by rw[z];exact hb)) (YL _)
theorem wH{n:Nat}{h1:Heap}{m1:Str->Option Value}{tk:Nat}(I:Inv X pins σ H s)(O:CompOk X scope cap capN)(hN:N'.length=n+capN.length)(hN2:∀i x,n<=i->N'[i]?=some x->capN[i-n]?=some x)(hC:s.heap.objs.size<=C)(hex:∀b∈ex,bC X pins H b/\b<s.heap.objs.size)(hk:∀b o,s.heap.get? b=some o->h1.get? b=some o)(hn:h1.Ns C m1):Inv (aV X scope N' C s H ex) [] (cK n cap σ) H { s with heap:=h1,toks:=tk }:=by
 refine⟨xV I O hC hex,rfl,I.bare,Un.kept hk,⟨m1,hn,fun i x v e1 e2 e3=>?_⟩,fun x c e=>?_,I.hok.fresh hC,fun x c e=>I.freeC x c (O.sub I.ok x c e),fun p hp=>absurd (show p∈([]:List (Addr×Obj))from hp) (by simp),I.hok.kept hk,?_⟩
 ·obtain⟨hi,j,ej,es⟩:=nq e2;obtain⟨j',q1,q2,qf⟩:=O.cap.get (hN2 i x hi e1);have q3:=O.around (YJ qf) rfl;have q4:=kB (env:=X.env) qf;obtain⟨c,q5⟩:=O.has qf;have q6:=O.sub I.ok x c q5;rw[q1]at ej;cases ej;obtain⟨m0,hn0,hl0⟩:=I.loc;obtain⟨u,r,l⟩:=hl0 _ x v q2 es (by
   rcases q3 with z|z
   ·exact .inr (.inl z)
   ·exact .inr (.inr z))
  refine⟨u,r,.inr ⟨q4,c,q5,?_⟩⟩;rcases l with⟨k,_⟩|⟨_,c',e',z⟩
  ·rcases q3 with z|z
   ·have z':X.env.kindOf x=some .cell:=z;rw[z']at k;cases k
   ·have z':X.env.kindOf x=some .free:=z;rw[z']at k;cases k
  ·rw[q6]at e';cases e';obtain⟨o,ho,hd⟩:=z;exact⟨o,hk _ _ ho,hd⟩
 ·obtain⟨v,o,ho,hd⟩:=I.cell x c (O.sub I.ok x c e);exact⟨v,o,hk _ _ ho,hd⟩
 ·rw[wF,O.cap.len];exact hN.symm
end
def oJ(X:Cx)(ifs:List Expr)(t:TT):Prop :=
 ∀(pins:List (Addr×Obj)) (s:Shared) (σ:St) (H:Hp) (Q:Bool->Hp->Prop),Inv X pins σ H s->t σ H Q ->
  wpAny (model X.prog X.w) X.A (forIn ifs true fun c r=>if r=true then do let ok ←isTrue c X.env (eval c X.env);pure (ForInStep.yield ok)else pure (ForInStep.yield r)) (TP X pins σ Q) X.xe s
def lQ:TT:=fun _ H Q=>Q true H
theorem Bk{X:Cx}:oJ X [] lQ:=fun _ _ _ H _ I h=>wpAny_tests_nil ⟨H,I,h⟩
theorem Bl{X:Cx}{c:Expr}{t:TT}(h:PT X c t):oJ X [c] t:=fun pins s σ H Q I hw=>wpAny_tests_one (h pins s σ H Q I hw)
def GK(n:Nat)(g:TG):Prop:=∀x σ H Q,g x σ H Q->g x σ H (fun σ2 H2=>(σ2.length=σ.length/\∀i,n<=i->σ2[i]?=σ[i]?)/\Q σ2 H2)
theorem bf{n i:Nat}(hi:i<n):GK n (cL i):=fun x σ H Q h=>⟨⟨YG,fun j hj=>List.getElem?_set_ne (by omega)⟩,h⟩
def GKs(n:Nat)(g:TGs):Prop:=∀xs σ H Q,g xs σ H Q->g xs σ H (fun σ2 H2=>(σ2.length=σ.length/\∀i,n<=i->σ2[i]?=σ[i]?)/\Q σ2 H2)
theorem iX{n:Nat}:GKs n mH:=fun xs σ H Q h=>⟨h.1,⟨rfl,fun _ _=>rfl⟩,h.2⟩
def GM(g:TG):Prop:=∀x σ H Q Q',(∀σ2 H2,Q σ2 H2->Q' σ2 H2)->g x σ H Q->g x σ H Q'
def GMs(g:TGs):Prop:=∀xs σ H Q Q',(∀σ2 H2,Q σ2 H2->Q' σ2 H2)->g xs σ H Q->g xs σ H Q'
theorem aX{i:Nat}:GM (cL i):=fun _ _ _ _ _ f h=>f _ _ h
theorem ce:GMs mH:=fun _ _ _ _ _ f h=>⟨h.1,f _ _ h.2⟩
theorem cC{t:TG}{u:TGs}(a:GM t)(b:GMs u):GMs (fM t u):=fun xs σ H Q Q' f h=>by obtain⟨v,r,e,h⟩:=h;exact⟨v,r,e,a _ _ _ _ _ (fun σ2 H2 z=>b _ _ _ _ _ f z) h⟩
theorem bK{n:Nat}{t:TG}{u:TGs}(a:GK n t)(m:GM t)(b:GKs n u)(mb:GMs u):GKs n (fM t u):=fun xs σ H Q h=>by obtain⟨v,r,e,h⟩:=h;refine⟨v,r,e,m _ _ _ _ _ (fun σ2 H2 z=>?_) (a _ _ _ _ h)⟩;obtain⟨⟨l1,k1⟩,z⟩:=z;refine mb _ _ _ _ _ (fun σ3 H3 w=>?_) (b _ _ _ _ z);obtain⟨⟨l2,k2⟩,w⟩:=w;exact⟨⟨l2.trans l1,fun i hi=>(k2 i hi).trans (k1 i hi)⟩,w⟩
theorem kj{n m:Nat}{K:PySem.W.Frag}{t:TGs}(a:GKs n t):GK n (mI K m t):=fun x σ H Q h=>by obtain⟨b,xs,e,h1,h2,h3⟩:=h;exact⟨b,xs,e,h1,h2,a _ _ _ _ h3⟩
def iF(n:Nat)(cap:List Nat)(g:TG)(tc:TT)(te:TE)(σ:St)(J:It)(H1:Hp)(Q:VK):Prop :=
 ∃W:Nat->Nat->List V->Hp->Prop,(∃m,W 0 m [] H1)/\∀i m ys H,W i m ys H ->
  (J.stop i H/\∀p,H p=none->Q (.ref p) (upd H p (.lst ys))) \/
  (J.go i H/\ys.length<sizeLine/\∀ x H',J.yld i H x H'->g x (cK n cap σ) H' fun σ2 H2=>tc σ2 H2 fun b H3 =>
   if b=true then te σ2 H3 fun y H4=>∃ m',m'<m/\W (i+1) m' (ys++[y]) H4 else ∃ m',m'<m/\W (i+1) m' ys H3)
def rL(n:Nat)(cap:List Nat)(wi:TI)(g:TG)(tc:TT)(te:TE):TE:=fun σ H Q=>wi σ H fun J H1=>iF n cap g tc te σ J H1 Q
theorem jp{prog:Program}{w:World}{A:Around}{R:Result->Shared->Prop}{s:Shared}{elt target iter:Expr}{ifs:List Expr}{scope:Scope}{pos:Pos}{it acc:Value}{env:Env}(I:Nat->Shared->Prop)(turn:∀ n s,I n s->wpAny (model prog w) A (pyNext it) (fun r s₁=>match r with
   |none=>R (.ok .next) s₁
   | some v=>wpAny (model prog w) A (letOwnedTupleGo target it v) (fun _ s₁'=>wpAny (model prog w) A (assign target env v) (fun _ s₂ =>
     wpAny (model prog w) A (forIn ifs true fun c r=>if r=true then do let ok ←isTrue c env (eval c env);pure (ForInStep.yield ok) else pure (ForInStep.yield r)) (fun ok s₃ =>
      if ok=true then wpAny (model prog w) A (eval elt env) (fun x s₄ =>
       wpAny (model prog w) A (call (.builtin "list.append") [acc,x]) (fun _ s₅=>∃ m,m<n/\I m s₅) (fun _ _=>False) s₄) (fun _ _=>False) s₃
      else ∃ m,m<n/\I m s₃) (fun _ _=>False) s₂) (fun _ _=>False) s₁') (fun _ _=>False) s₁) (fun _ _=>False) s)(n:Nat)(h:I n s) :
  codeAny (model prog w) A (.compLoop (.ListComp elt [⟨target,iter,ifs,0⟩] scope pos) 0 it acc env) R s:=by
 refine codeAny_loop rfl I (fun n s hI=>?_) n h;show wpAny _ A ((compTurn (.ListComp elt [⟨target,iter,ifs,0⟩] scope pos) 0 it acc env).onRaise (fun x=>do noteFrame x env;theTreesLotGoes x)) _ _ s;refine wpAny_noted (wpAny_noRaise ?_);rw[compTurn_list];refine Za (wpAny_standAt (Za (ZS (turn n s hI) (fun r s₁ h₁=>?_) fun _ _ h'=>h')));cases r with
 |none=>exact Zh h₁
 |some v =>
  refine Za (ZS h₁ (fun _ s₁' h₁'=>?_) fun _ _ h'=>h');refine Za (ZS h₁' (fun _ s₂ h₂=>Za (ZS h₂ (fun ok s₃ h₃=>?_) fun _ _ h'=>h')) fun _ _ h'=>h');cases ok with
  |false=>exact Zh ⟨rfl,h₃⟩
  |true =>exact Za (Za (ZS h₃ (fun x s₄ h₄=>Za (ZS h₄ (fun _ s₅ h₅=>Zh (Zh ⟨rfl,h₅⟩)) fun _ _ h'=>h')) fun _ _ h'=>h'))
theorem Dm{own capN:List Str}:∀(i:Nat) (x:Str),own.length<=i->(own++capN)[i]?=some x->capN[i-own.length]?=some x:=fun i x hi e=>by rw[Z4 hi]at e;exact e
section
variable{X:Cx}{pins:List (Addr×Obj)}{σ:St}{H2:Hp}{s2:Shared}{scope:Scope}{cap:List Nat}{capN own:List Str}
variable{elt tg iter:Expr}{ifs:List Expr}{pos:Pos}{g:TG}{tc:TT}{te:TE}{Q:VK}
abbrev gi(its:List Value)(nn:Nat):Obj:={ cls:=.type "list",data:=.seq its.toArray nn }
theorem qr{J:It}{fp:List Addr}{it:Addr}{tn:Nat->Heap->Prop}{E:Value->Shared->Prop}{RR:Value->Addr->Result->Shared->Prop}(O:CompOk X scope cap capN)(hc:X.calm=true)(hg:∀C s0 H0 ex,PG (aV X scope (own++capN) C s0 H0 ex) tg g)(gk:GK own.length g)(ht:∀C s0 H0 ex,oJ (aV X scope (own++capN) C s0 H0 ex) ifs tc)(he:∀C s0 H0 ex,PE (aV X scope (own++capN) C s0 H0 ex) elt te)(I2:Inv X pins σ H2 s2)(T:Turn X.prog X.w X.K tg J fp it tn)(st2:tn 0 s2.heap)(f2:∀b∈fp,bC X pins H2 b)(hq:iF own.length cap g tc te σ J H2 Q)(fin:∀(D C:Addr) (s4:Shared) (H4:Hp) (ys:List V),Inv X pins σ (upd H4 D (.lst ys)) s4->(∃m,s4.heap.Ns C m)->bC X pins (upd H4 D (.lst ys)) C->Q (.ref D) (upd H4 D (.lst ys))->RR (.ref D) C (.ok .next) s4) :
  wpAny (model X.prog X.w) X.A (newList []) (fun acc s₃=>wpAny (model X.prog X.w) X.A (newFunctionEnv scope X.env.globals (bS X.env scope.names []) [] X.env.qual none .none (some X.env)) (fun cenv s₄ =>
   codeAny (model X.prog X.w) X.A (.compStart (.ListComp elt [⟨tg,iter,ifs,0⟩] scope pos) 0 (.ref it) acc { cenv with scope:=relabel scope X.env }) (RR acc cenv.locals) s₄) E s₃) E s2:=by
 obtain⟨W,⟨m0,w0⟩,turn⟩:=hq;refine Yg (wpAny_newFunctionEnv O.nocell (by intro y hy;simp at hy) (fun h₁ hns₁ hsb₁=>?_) O.kind);dsimp only at hns₁ hsb₁ ⊢;generalize hHp:s2.heap.push { cls:=.type "list",dict:=none,data:=.seq ([]:List Value).toArray }=Hp2 at hns₁ hsb₁ ⊢;have hC:Hp2.objs.size=s2.heap.objs.size+1:=by rw[<-hHp,Yq]
 have hDC:s2.heap.objs.size≠Hp2.objs.size:=by rw[hC];exact ZD (Nat.lt_succ_self _)
 have hCle:s2.heap.objs.size<=Hp2.objs.size:=by rw[hC];exact Nat.le_succ _
 have below:∀b,b<s2.heap.objs.size->b≠Hp2.objs.size/\b≠s2.heap.objs.size:=fun b hb=>⟨by rw[hC];exact ZD (Nat.lt_succ_of_lt hb),ZD hb⟩
 have old:∀b o,s2.heap.get? b=some o->h₁.get? b=some o:=fun b o e=>hsb₁.extBut b o (below b (Zn e)).1 (Zb _ (hHp▸Zb _ e));have hacc:h₁.get? s2.heap.objs.size=some (gi [] 0):=hsb₁.extBut _ _ hDC (Zb _ (hHp▸Zo _ rfl));generalize hDe:s2.heap.objs.size=D at *;generalize hCe:Hp2.objs.size=C at *;have hfpl:∀b∈fp,b<s2.heap.objs.size:=fun b hb=>by obtain⟨o,e,_⟩:=T.obj _ _ st2 b hb;exact Zn e
 have hex:∀b∈fp,bC X pins H2 b/\b<s2.heap.objs.size:=fun b hb=>⟨f2 b hb,hfpl b hb⟩
 have hCle':s2.heap.objs.size<=C:=by rw[hDe];exact hCle
 have hDle:s2.heap.objs.size<=D:=by rw[hDe];exact Ze _
 have hDfp:∀b∈fp,D≠b:=fun b hb z=>by have:=hfpl b hb;rw[<-z]at this;exact absurd this (Nat.not_lt.mpr hDle)
 have I0:∀tk,Inv (aV X scope (own++capN) C s2 H2 fp) [] (cK own.length cap σ) H2 { s2 with heap:=h₁,toks:=tk }:=fun tk=>wH I2 O (by simp) Dm hCle' hex old hns₁;have Dst:D∉frs X.stack:=yE I2 hDle;have Dcell:∀x c,(aV X scope (own++capN) C s2 H2 fp).env.cells.lookup x=some c->c≠D:=fun x c e=>AR I2 hDle x c (O.sub I2.ok x c e);have pinD:∀{σ':St} {H':Hp} {s':Shared} {its:List Value} {nn:Nat},Inv (aV X scope (own++capN) C s2 H2 fp) [] σ' H' s'->s'.heap.get? D=some (gi its nn)->H' D=none->Inv (aV X scope (own++capN) C s2 H2 fp) [(D,gi its nn)] σ' H' s':=fun{σ' H' s' its nn} I e hn =>
  I.pins_of fun p hp=>by
   have z:p=(D,gi its nn):=by simpa using hp
   subst z;exact⟨e,hn,hDC,Dst,fun v q=>by cases q⟩
 have loop:∀s₃:Shared,s₃={ s2 with heap:=h₁,toks:=s2.toks+([]:List (Str×Value)).length } ->
   codeAny (model X.prog X.w) X.A (.compLoop (.ListComp elt [⟨tg,iter,ifs,0⟩] scope pos) 0 (.ref it) (.ref D) (compEnvC scope (bS X.env scope.names []) C X.env)) (RR (.ref D) C) s₃:=by
  rintro s₃ rfl;refine jp (fun k s'=>∃(i:Nat) (ys:List V) (its:List Value) (nn:Nat) (H':Hp),Inv (aV X scope (own++capN) C s2 H2 fp) [(D,gi its nn)] (cK own.length cap σ) H' s'/\tn i s'.heap/\(∀b∈fp,H' b=none)/\Vals ys its/\ys.length<=sizeLine/\W i k ys H') ?_ m0
   ⟨0,[],[],0,H2,pinD (I0 _) hacc (I2.hok.fresh hDle),T.keep _ _ _ st2 (fun b hb o e=>old b o e),fun b hb=>(f2 b hb).1,.nil,y0 _,w0⟩
  rintro k s3 ⟨i,ys,its,nn,H3,I3,st3,fr3,rv,hz,w3⟩;have oD3:s3.heap.get? D=some (gi its nn):=(I3.pin (D,gi its nn) (by simp)).1;have fpY:∀{H':Hp},(∀b∈fp,H' b=none)->∀b∈fp,bC (aV X scope (own++capN) C s2 H2 fp) [(D,gi its nn)] H' b:=fun{H'} hn b hb=>by
   obtain⟨f0,f1,g2,f3,f4,f5⟩:=f2 b hb;refine⟨hn b hb,ZD (ZB (hfpl b hb) hCle'),fun z=>?_,.inl hb,fun x c e=>f4 x c (O.sub I2.ok x c e),fun p hp=>?_⟩
   ·rcases Zl.mp (I2.stkSub b z)with e|e
    ·exact f1 e
    ·exact g2 e
   ·have z:p=(D,gi its nn):=by simpa[aV]using hp
    subst z;exact hDfp b hb
  rcases turn i k ys H3 w3 with⟨stop,qn⟩|⟨go,hlt,step⟩
  ·refine thn (T.done (aV X scope (own++capN) C s2 H2 fp) rfl rfl rfl hc i _ s3 _ H3 _ I3 (fpY fr3) st3 stop) fun r s4 ⟨hr,I4⟩=>?_;subst hr;obtain⟨oD,nD,_⟩:=I4.pin (D,gi its nn) (by simp);have neD:∀{b:Addr} {u:HO},H3 b=some u->b≠D:=fun{b u} e=>au e nD;have JX:Inv X pins σ (upd H3 D (.lst ys)) s4:=by
    refine I2.call' (ch:=fp) I4.os ⟨I4.base.keep,I4.base.slot,fun b o e nb hx=>?_,I4.base.there,fun b xs e=>?_,fun b o u e=>?_,fun b ps e=>?_⟩ (fun b u e=>?_) I4.bare (fun b hb=>?_)
    ·rw[ah (by rw[<-hDe];exact ZD (Zn e))];exact I4.base.free b o e nb hx
    ·have q:=I4.base.tups b xs e;rw[ah (neD q)];exact q
    ·have q:=I4.base.frzs b o u e;rw[ah (neD q)];exact q
    ·obtain⟨more,q⟩:=I4.base.tbls b ps e;exact⟨more,by rw[ah (neD q)];exact q⟩
    ·by_cases hb:b=D
     ·subst hb;rw[ae]at e;cases e;exact⟨hz,its,nn,rv,oD⟩
     ·rw[ah hb]at e;exact(I4.hok b u e).stay (fun _ _ _ q=>q) (fun c q=>by rw[ah (neD q)];exact q) fun c xs q=>by rw[ah (neD q)];exact q
    ·obtain⟨f0,f1,g2,f3,f4,f5⟩:=f2 b hb;exact⟨f3,f1,f4,f5⟩
   obtain⟨m4,hn4,_⟩:=I4.loc;refine fin D C s4 H3 ys JX ⟨m4,hn4⟩ ?_ (qn D nD);refine I2.fpOk (b:=C) hCle' ?_;rw[ah (y9 hDC)];exact I4.free
  ·refine thn (T.item (aV X scope (own++capN) C s2 H2 fp) rfl rfl rfl hc i _ s3 _ H3 _ I3 (fpY fr3) st3 go) fun r s4 ⟨u,hr,h4⟩=>?_;subst hr;refine thn h4 fun _ s5 hz9=>?_;obtain⟨x,H5,I5,r5,y5,st5,fr5⟩:=hz9;have I5':=I5.pinned (fpY fr5) (T.obj _ _ st5);refine thn (hg C s2 H2 fp _ s5 _ H5 x u _ I5' r5 (gk _ _ _ _ (step x H5 y5))) fun _ s6 hz9=>?_;obtain⟨σ6,H6,I6,⟨l6,k6⟩,q6⟩:=hz9;refine thn (ht C s2 H2 fp _ s6 σ6 H6 _ I6 q6) fun ok s7 ⟨H7,I7,q7⟩=>?_;have wk:∀{H8:Hp} {s8:Shared} {pl:List (Addr×Obj)},Inv (aV X scope (own++capN) C s2 H2 fp) pl σ6 H8 s8->Inv (aV X scope (own++capN) C s2 H2 fp) pl (cK own.length cap σ) H8 s8:=fun I=>I.weak l6.symm fun j v e=>by obtain⟨hj,_⟩:=nq e;rw[k6 j hj];exact e
   have tn8:∀{σ8:St} {H8:Hp} {s8:Shared},Inv (aV X scope (own++capN) C s2 H2 fp) ([(D,gi its nn)]++kx fp s5.heap) σ8 H8 s8->(∀b∈fp,∀o,s5.heap.get? b=some o->s8.heap.get? b=some o)/\∀b∈fp,H8 b=none:=fun{σ8 H8 s8} I=>by refine⟨fun b hb o e=>(I.pin (b,o) (ZQ _ (ZQ _ (gG hb e)))).1,fun b hb=>?_⟩;obtain⟨o,e,d⟩:=T.obj _ _ st5 b hb;exact(I.pin (b,o) (ZQ _ (ZQ _ (gG hb e)))).2.1
   cases ok with
   |false =>rw[if_neg Zr]at q7 ⊢;obtain⟨m',hm,w7⟩:=q7;obtain⟨t1,t2⟩:=tn8 I7;exact⟨m',hm,i+1,ys,its,nn,H7,wk I7.unpinned,T.keep _ _ _ st5 t1,t2,rv,hz,w7⟩
   |true =>
    rw[if_pos rfl]at q7 ⊢;refine thn (he C s2 H2 fp _ s7 σ6 H7 _ I7 q7) fun y s8 hz9=>?_;obtain⟨yv,H8,I8,r8,m',hm,w8⟩:=hz9;obtain⟨t1,t2⟩:=tn8 I8;obtain⟨oD,nD,_⟩:=I8.pin (D,gi its nn) (by simp);have hil:=rv.length;refine call_meets F.slot_list_append ⟨_,oD,rfl⟩ F.entry_list_append (F.args_list_append_2 _ _) (PySem.list_append D its.toArray nn y (by rw[Zi];omega)) ⟨oD,?_⟩;have q:=PySem.IsL.update oD (fun x_1=>x_1.push y);have hf:its.toArray.push y=(its++[y]).toArray:=by simp
    rw[hf]at q;have keepO:∀b o,b≠D->s8.heap.get? b=some o->(s8.heap.update D (Obj.mapSeq fun x_1=>x_1.push y)).get? b=some o:=fun b o hb e=>(y8 s8.heap (Obj.mapSeq fun x_1=>x_1.push y) (y9 hb)).trans e;have I9:Inv (aV X scope (own++capN) C s2 H2 fp) [] σ6 H8 { s8 with heap:=s8.heap.update D (Obj.mapSeq fun x_1=>x_1.push y),toks:=s8.toks } :=
     (I8.pins_of (pins':=[]) fun p hp=>absurd hp (by simp)).turned (it:=D) keepO nD hDC (.inr hDle) Dcell (fun p hp=>absurd (show p∈([]:List (Addr×Obj))from hp) (by simp))
    refine⟨m',hm,i+1,ys++[yv],its++[y],_,H8,wk (pinD I9 q nD),T.keep _ _ _ st5 (fun b hb o e=>keepO b o (y9 (hDfp b hb)) (t1 b hb o e)),t2,rv.append (.cons r8 .nil),?_,w8⟩;rw[Zk,Yf];omega
 exact codeAny_compStart_list (loop _ rfl) (T.self _ 0 _ _ _ (T.keep _ _ _ st2 (fun b hb o e=>old b o e)) (loop _ rfl))
theorem Dr{wi:TI}(O:CompOk X scope cap capN)(hc:X.calm=true)(hi:PI X tg iter wi)(hg:∀C s0 H0 ex,PG (aV X scope (own++capN) C s0 H0 ex) tg g)(gk:GK own.length g)(ht:∀C s0 H0 ex,oJ (aV X scope (own++capN) C s0 H0 ex) ifs tc)(he:∀C s0 H0 ex,PE (aV X scope (own++capN) C s0 H0 ex) elt te)(hs:∀x,foldedSetIterable iter X.env x=pure x:=by intro _;rfl):PE X (.ListComp elt [⟨tg,iter,ifs,0⟩] scope pos) (rL own.length cap wi g tc te):=by intro pins s σ H Q I h;rw[eval_ListComp];refine wpAny_comprehension_free (use:=none) rfl hs (O.clos I.ok) O.kind O.names (thn (hi pins s σ H _ I h) fun v s1 h1=>thn h1 fun itv s2 h2=>?_);obtain⟨it,fp,tn,J,H2,e,I2,T,st2,f2,hq⟩:=h2;subst e;refine qr (RR:=fun acc C=>compPost (model X.prog X.w) X.A X.xe none (EP X pins σ Q) acc C) O hc hg gk ht he I2 T st2 f2 hq fun D C s4 H4 ys J4 hn4 fC q4=>?_;obtain⟨m,hn⟩:=hn4;obtain⟨f0,f1,g2,f3,f4,f5⟩:=fC;exact⟨m,hn,fun h' sb=>⟨.ref D,_,J4.turned (t':=s4.toks) (fun b o hb e=>(sb.2 b hb).trans e) f0 f1 f3 f4 f5,rfl,q4⟩⟩
theorem DH{wi:TI}{j:Nat}{y:Str}{py spos:Pos}(hN0:X.N.Nodup)(hj:X.N[j]?=some y)(hy:Loc X.env.scope y)(O:CompOk X scope cap capN)(hc:X.calm=true)(hi:PI X tg iter wi)(hg:∀C s0 H0 ex,PG (aV X scope (own++capN) C s0 H0 ex) tg g)(gk:GK own.length g)(ht:∀C s0 H0 ex,oJ (aV X scope (own++capN) C s0 H0 ex) ifs tc)(he:∀C s0 H0 ex,PE (aV X scope (own++capN) C s0 H0 ex) elt te)(hsw:swapsWith (.ListComp elt [⟨tg,iter,ifs,0⟩] scope pos) (some (.Name y py)) spos.line X.env=pure true:=by rfl)(hs:∀x,foldedSetIterable iter X.env x=pure x:=by intro _;rfl)(hf:X.fn y=true\/X.env.scope.names.lookup y=some .local:=by first|exact .inl rfl|exact .inr rfl|assumption) :
  PS X (.Assign [.Name y py] (.ListComp elt [⟨tg,iter,ifs,0⟩] scope pos) spos) (qd (rL own.length cap wi g tc te) (cL j)):=by
 intro pins s σ H D0 I h;rw[exec_Assign_Name_used _ _ _ _ hsw];refine Za (wpAny_standAt (Za ?_));show wpAny _ X.A (do let _ ←comprehension (.ListComp elt [⟨tg,iter,ifs,0⟩] scope pos) scope X.env _ (newList []) false (eval iter X.env) (some (assign (.Name y py) X.env))) _ _ s;refine Za (ZS (wpAny_comprehension_free (use:=some (assign (.Name y py) X.env)) (Q:=fun _ s'=>SP X pins D0 .next s') rfl hs (O.clos I.ok) O.kind O.names (thn (hi pins s σ H _ I h) fun v s1 h1=>thn h1 fun itv s2 h2=>?_)) (fun _ s' hq=>Zh (Zh hq)) fun _ _ e=>e);obtain⟨it,fp,tn,J,H2,e,I2,T,st2,f2,hq⟩:=h2;subst e;refine qr (RR:=fun acc C=>compPost (model X.prog X.w) X.A X.xe (some (assign (.Name y py) X.env)) (fun _ s'=>SP X pins D0 .next s') acc C) O hc hg gk ht he I2 T st2 f2 hq fun D C s4 H4 ys J4 hn4 fC q4=>?_;obtain⟨m,hn⟩:=hn4;obtain⟨f0,f1,g2,f3,f4,f5⟩:=fC;show wpAny _ X.A (assign (.Name y py) X.env (.ref D)) _ _ _;refine wpAny_assign_Name (qL J4 hN0 hj hy (v:=.ref D) rfl (fun s5 I5 ⟨a,sba,ha⟩=>?_) hf);have hCa:C≠a:=by
  rcases ha with z|z
  ·rw[z];exact f1
  ·exact y9 (f4 _ _ z)
 refine⟨m,hn.sameBut sba hCa,fun h' sb=>?_⟩;exact⟨_,_,I5.turned (t':=s5.toks) (fun b o hb e=>(sb.2 b hb).trans e) f0 f1 f3 f4 f5,q4⟩
end
open PySem PySem.Spec PyProof.Rows
structure Fn(P:Program)(w:World)(K:PySem.W.Frag)(mg:Str->Option Value)(base:Heap)(k:Nat)(x:Str)(ps:List Str)(sp:Sp):Prop where
 ex:∃f fd,FnOk P w K mg base CX0 k f fd ps sp/\mg x=some (.ref f)/\PySem.W.keepIn K (.ref f)=true/\Binds K fd ps []
section
variable{X:Cx}{k:Nat}{x:Str}{p pos:Pos}{e:Expr}{es:List Expr}{ps:List Str}{sp:Sp}{t:TA}
theorem Hu(F:Fn X.prog X.w X.K X.mg X.base k x ps sp)(hr:Room k X.A)(ha:PA X (e::es) t)(hg:Gl X x:=by rfl)(hdb:(x==("__debug__":Str))=false:=by decide)(he:starEach (e::es) X.env=(false,eval e X.env)::starEach es X.env:=by rfl)(hpl:(backTo pos (starEach es X.env)).any (·.1)=false:=by rfl) :
  PE X (.Call (.Name x p) (e::es) [] pos) (rK sp [] E0 t):=by
 obtain⟨f,fd,G,m,kp,b⟩:=F.ex;exact Dp G hr hg m kp b .nil lB ha hdb he hpl
end
theorem Ah:bootBuiltins "max" = some (.builtin "max"):=by decide +kernel
theorem wB:bootBuiltins "tuple" = some (.type "tuple"):=by decide +kernel
theorem qq:bootBuiltins "list" = some (.type "list"):=by decide +kernel
theorem ad{H:Hp}{p:Addr}(h:H p=none)(o:HO):Same H (upd H p o):=fun b u q=>by rw[ah (au q h)];exact q
theorem fj{n:Nat}(h:n<=1000):n<=sizeLine:=Nat.le_of_lt (aO h)
theorem sz{n:Nat}(h:Nat.ble n 1000=true):n<=sizeLine:=fj (Nat.le_of_ble_eq_true h)
theorem xW{J:It}{N n:Nat}{cap:List Nat}{te:TE}{σ:St}{H0:Hp}{Q:VK}(x0 f:Nat->V)(hz:N<=1000)(hgo:∀i H,i<N->Same H0 H->J.go i H)(hst:∀H,Same H0 H->J.stop N H)(hy:∀i H x H',i<N->Same H0 H->J.yld i H x H'->H'=H/\x=x0 i)(he:∀i H,i<N->Same H0 H->∀R:VK,(∀H',Same H H'->R (f i) H')->te ((cK n cap σ).set 0 (some (x0 i))) H R)(hq:∀p H,Same H0 H->H p=none->Q (.ref p) (upd H p (.lst ((List.range N).map f)))):iF n cap (cL 0) lQ te σ J H0 Q:=by
 refine⟨fun i m ys H=>m=N-i/\i<=N/\Same H0 H/\ys=(List.range i).map f,⟨N,by simp,y0 _,Same.refl _,rfl⟩,?_⟩;rintro i m ys H ⟨rfl,hi,sm,rfl⟩;by_cases hlt:i<N
 ·refine .inr ⟨hgo i H hlt sm,?_,fun x H' y=>?_⟩
  ·rw[Zf,List.length_range];exact aO (by omega)
  ·obtain⟨e1,e2⟩:=hy i H x H' hlt sm y;subst e1 e2;refine he i H' hlt sm _ fun H4 sm4=>⟨N-(i+1),by omega,rfl,hlt,sm.trans sm4,?_⟩
   rw[List.range_succ,ZO];rfl
 ·have e:i=N:=by omega
  subst e;exact .inl ⟨hst H sm,fun p hp=>hq p H sm hp⟩
theorem wG{N n:Nat}{lo:Int}{cap:List Nat}{te:TE}{σ:St}{H0:Hp}{Q:VK}(f:Nat->V)(hz:N<=1000)(he:∀i H,i<N->Same H0 H->∀R:VK,(∀H',Same H H'->R (f i) H')->te ((cK n cap σ).set 0 (some (.int (lo+i)))) H R)(hq:∀p H,Same H0 H->H p=none->Q (.ref p) (upd H p (.lst ((List.range N).map f)))):iF n cap (cL 0) lQ te σ (Itr lo N) H0 Q :=
 xW (N:=N) (fun i=>.int (lo+i)) f hz (fun _ _ hi _=>hi) (fun _ _=>Ze N) (fun _ _ _ _ _ _ y=>y) he hq
open PySem PySem.Spec PyProof.Rows
def aP:Expr->Bool
 |.Starred _ _=>false
 |_=>true
theorem aY{e:Expr}{es:List Expr}{env:Env}(h:aP e=true):starEach (e::es) env=(false,eval e env)::starEach es env:=by cases e<;>first|rfl|cases h
theorem br{env:Env}{pos:Pos}:∀{es:List Expr},es.all aP=true->(backTo pos (starEach es env)).any (·.1)=false
 | [],_=>rfl
 |e::es,h=>by rw[YW,ZK]at h;rw[aY h.1];show(false ||(backTo pos (starEach es env)).any (·.1))=false;rw[Bool.false_or];exact br h.2
section
variable{X:Cx}{x:Str}{p pos:Pos}{e:Expr}{es:List Expr}{te:TE}{t:TA}{id T:String}{r:List V->Hp->VK->Prop}{k:Nat}{ps:List Str}{sp:Sp}
theorem pa(ha:PE X e te)(hr:PA X es t)(hs:aP e=true:=by rfl):PA X (e::es) (lP te t):=Do ha hr (aY hs)
theorem pB(hc:eO X (.builtin id) r)(hm:X.mg x=none)(hv:bootBuiltins x=some (.builtin id))(ha:PA X (e::es) t)(hg:Gl X x:=by rfl)(hs:(e::es).all aP=true:=by rfl)(hn:x≠"__name__":=by decide)(hdb:(x==("__debug__":Str))=false:=by decide) :
  PE X (.Call (.Name x p) (e::es) [] pos) (tCB r t):=by
 rw[YW,ZK]at hs;exact Bb hc hg hm hv ha hn hdb (aY hs.1) (br hs.2)
theorem pTy(hc:eO X (.type T) r)(hm:X.mg x=none)(hv:bootBuiltins x=some (.type T))(ha:PA X (e::es) t)(hg:Gl X x:=by rfl)(hs:(e::es).all aP=true:=by rfl)(hn:x≠"__name__":=by decide)(hdb:(x==("__debug__":Str))=false:=by decide) :
  PE X (.Call (.Name x p) (e::es) [] pos) (tCB r t):=by
 rw[YW,ZK]at hs;exact yQ hc hg hm hv ha hn hdb (aY hs.1) (br hs.2)
theorem pfn(F:Fn X.prog X.w X.K X.mg X.base k x ps sp)(hr:Room k X.A)(ha:PA X (e::es) t)(hg:Gl X x:=by rfl)(hs:(e::es).all aP=true:=by rfl)(hdb:(x==("__debug__":Str))=false:=by decide) :
  PE X (.Call (.Name x p) (e::es) [] pos) (rK sp [] E0 t):=by
 rw[YW,ZK]at hs;exact Hu F hr ha hg hdb (aY hs.1) (br hs.2)
end
open PySem PySem.Spec PyProof.Rows
structure QE(X:Cx)(e:Expr)(t:TE):Prop where
 h:PE X e t
structure QT(X:Cx)(e:Expr)(t:TT):Prop where
 h:PT X e t
structure QW(X:Cx)(e:Expr)(t:TT):Prop where
 h:PW X e t
structure QA(X:Cx)(es:List Expr)(t:TA):Prop where
 h:PA X es t
structure QS(X:Cx)(st:Stmt)(t:TS):Prop where
 h:PS X st t
structure QB(X:Cx)(st:List Stmt)(t:TS):Prop where
 h:PSs X st t
structure QG(X:Cx)(tg:Expr)(g:TG):Prop where
 h:PG X tg g
structure QGs(X:Cx)(ts:List Expr)(g:TGs):Prop where
 h:PGs X ts g
structure QI(X:Cx)(tg iter:Expr)(wi:TI):Prop where
 h:PI X tg iter wi
structure QIf(X:Cx)(ifs:List Expr)(t:TT):Prop where
 h:oJ X ifs t
structure QO(X:Cx)(e:Option Expr)(t:TO):Prop where
 h:PO X e t
structure QOp(X:Cx)(f:Value->Value->Sem Value)(r:R2):Prop where
 h:OpR X f r
structure QCall(X:Cx)(f:Value)(r:List V->Hp->VK->Prop):Prop where
 h:eO X f r
structure QIx(X:Cx)(r:R2):Prop where
 h:IxR X r
structure QSl(X:Cx)(r:V->Option Int->Option Int->Hp->VK->Prop):Prop where
 h:SlR X r
structure QSet(X:Cx)(t:rX):Prop where
 h:Ad X t
structure QUn(X:Cx)(f:Value->Sem Value)(r:V->Hp->VK->Prop):Prop where
 h:UnR X f r
structure QIp(X:Cx)(op:Operator)(t:TIp):Prop where
 h:PIp X op t
section
variable{X:Cx}{pos p:Pos}{e a b c o:Expr}{es rest:List Expr}{te ta tb tc:TE}{t:TA}{tA tB':TT}{x:Str}
theorem q_v(i:Nat){x:Str}{pos:Pos}(hN:X.N[i]?=some x:=by rfl)(hv:Vis X.env.scope x:=by first|exact Or.inl rfl|exact Or.inr (Or.inl rfl)|exact Or.inr (Or.inr rfl))(hd:(x==("__debug__":Str))=false:=by decide)(hcd:(x==("__classdict__":Str))=false:=by decide):QE X (.Name x pos) (xC i):=⟨FD hN hv hd hcd⟩
theorem af{i:Int}{j:Nat}:QE X (.Constant (.int i) j pos) (tC (.int i)):=⟨Fu⟩
theorem kz{i:Bool}{j:Nat}:QE X (.Constant (.bool i) j pos) (tC (.bl i)):=⟨Hs⟩
theorem bU{j:Nat}:QE X (.Constant .none j pos) (tC .non):=⟨Fw⟩
theorem am{i:Str}{j:Nat}:QE X (.Constant (.str i) j pos) (tC (.str i)):=⟨FA⟩
theorem FU{i:Int}{tk:Tok}(hm:X.mg x=some (.int i tk))(hg:Gl X x:=by rfl)(hd:(x==("__debug__":Str))=false:=by decide):QE X (.Name x pos) (tC (.int i)):=⟨pH hg hm ⟨_,rfl⟩ hd⟩
theorem aM{op:Operator}{r:R2}(ho:QOp X (binaryOp op) r)(ha:QE X a ta)(hb:QE X b tb):QE X (.BinOp a op b pos) (tOp r ta tb):=⟨Hw ho.h ha.h hb.h⟩
theorem jP{op}(h:QE X a ta):QE X (.BoolOp op [a] pos) ta:=⟨Fz h.h⟩
theorem gI(ha:QE X a ta)(hb:QE X (.BoolOp .And (b::rest) pos) tb):QE X (.BoolOp .And (a::b::rest) pos) (Cr ta tb):=⟨Fp ha.h hb.h⟩
theorem lG(ha:QE X a ta):QE X (.UnaryOp .Not a pos) (Cw ta):=⟨Fy ha.h⟩
theorem eE{op:CmpOp}{r:R2}(ho:QOp X (compareOp op) r)(ha:QE X a ta)(hb:QE X b tb)(hm:behindInMarks op b=false:=by first|exact yD _|with_unfolding_all rfl):QE X (.Compare a [op] [b] pos) (tOp r ta tb):=⟨Dq ho.h ha.h hb.h hm⟩
theorem xp(hc:QT X c tA)(ha:QE X a ta)(hb:QE X b tb):QE X (.IfExp c a b pos) (tIf tA ta tb):=⟨Bf hc.h ha.h hb.h⟩
theorem cQ(h:QA X es t):QE X (.List es pos) (Gw t):=⟨Fv h.h⟩
theorem aE{x1}(h:QA X es t):QE X (.Tuple es x1 pos) (GB t):=⟨FB h.h⟩
theorem aj{r:R2}(hr:QIx X r)(ha:QE X a ta)(hb:QE X b tb)(hs:uP b:=by intro _ _;rfl):QE X (.Subscript a b pos) (tOp r ta tb):=⟨Hv hr.h ha.h hb.h hs⟩
theorem fD{r:V->Option Int->Option Int->Hp->VK->Prop}{lo hi:Option Expr}{tl th:TO}{p2:Pos}(hr:QSl X r)(he:QE X e te)(hl:QO X lo tl)(hu:QO X hi th):QE X (.Subscript e (.Slice lo hi none p2) pos) (tSl r te tl th):=⟨Bh hr.h he.h hl.h hu.h⟩
theorem gq:QO X none vU:=⟨DC⟩
theorem eX(h:QE X e te):QO X (some e) (Cy te):=⟨DD h.h⟩
theorem ag:QA X [] mX:=⟨yN⟩
theorem q_a(ha:QE X e te)(hr:QA X es t)(hs:aP e=true:=by rfl):QA X (e::es) (lP te t):=⟨pa ha.h hr.h hs⟩
theorem q_B{id:String}{r:List V->Hp->VK->Prop}(hc:QCall X (.builtin id) r)(hm:X.mg x=none)(hv:bootBuiltins x=some (.builtin id))(ha:QA X (e::es) t)(hg:Gl X x:=by rfl)(hs:(e::es).all aP=true:=by rfl)(hn:x≠"__name__":=by decide)(hdb:(x==("__debug__":Str))=false:=by decide) :
  QE X (.Call (.Name x p) (e::es) [] pos) (tCB r t):=⟨pB hc.h hm hv ha.h hg hs hn hdb⟩
theorem pJ{T:String}{r:List V->Hp->VK->Prop}(hc:QCall X (.type T) r)(hm:X.mg x=none)(hv:bootBuiltins x=some (.type T))(ha:QA X (e::es) t)(hg:Gl X x:=by rfl)(hs:(e::es).all aP=true:=by rfl)(hn:x≠"__name__":=by decide)(hdb:(x==("__debug__":Str))=false:=by decide) :
  QE X (.Call (.Name x p) (e::es) [] pos) (tCB r t):=⟨pTy hc.h hm hv ha.h hg hs hn hdb⟩
theorem aB{k:Nat}{ps:List Str}{sp:Sp}(F:Fn X.prog X.w X.K X.mg X.base k x ps sp)(hr:Room k X.A)(ha:QA X (e::es) t)(hg:Gl X x:=by rfl)(hs:(e::es).all aP=true:=by rfl)(hdb:(x==("__debug__":Str))=false:=by decide) :
  QE X (.Call (.Name x p) (e::es) [] pos) (rK sp [] E0 t):=⟨pfn F hr ha.h hg hs hdb⟩
theorem aG{op:CmpOp}{r:R2}(ho:QOp X (compareOp op) r)(ha:QE X a ta)(hb:QE X b tb)(hm:behindInMarks op b=false:=by first|exact yD _|with_unfolding_all rfl):QT X (.Compare a [op] [b] pos) (Cz (tOp r ta tb)):=⟨DK ho.h ha.h hb.h hm⟩
theorem HJ(ha:QT X a tA):QT X (.UnaryOp .Not a pos) (Gy tA):=⟨FP ha.h⟩
theorem dD(h:QE X e te)(he:∀whole,isTrue e X.env whole=(do let v ←whole;standAt e.pos;holding [v] (truthy v)):=by intro _;rfl):QT X e (tB te):=⟨FQ h.h he⟩
theorem cU(ha:QT X a tA):QW X (.BoolOp .And [a] pos) tA:=⟨DM ha.h⟩
theorem CA(ha:QT X a tA):QW X (.BoolOp .Or [a] pos) tA:=⟨FT ha.h⟩
theorem df(ha:QT X a tA)(hb:QW X (.BoolOp .And (b::rest) pos) tB'):QW X (.BoolOp .And (a::b::rest) pos) (Gr tA tB'):=⟨FS ha.h hb.h⟩
theorem BP(ha:QT X a tA)(hb:QW X (.BoolOp .Or (b::rest) pos) tB'):QW X (.BoolOp .Or (a::b::rest) pos) (tOr tA tB'):=⟨Hz ha.h hb.h⟩
theorem t_w(h:QW X e tA):QT X e tA:=⟨h.h.pt⟩
end
section
variable{X:Cx}{pos:Pos}{tg iter elt:Expr}{ifs:List Expr}{g:TG}{gs:TGs}{tc:TT}{te:TE}{scope:Scope}{cap:List Nat}{capN own:List Str}{wi:TI}
theorem aI{i:Nat}{x:Str}(hN:X.N.Nodup)(hi:X.N[i]?=some x:=by rfl)(hx:Loc X.env.scope x:=by first|exact Or.inl rfl|exact Or.inr rfl)(hf:X.fn x=true\/X.env.scope.names.lookup x=some .local:=by first|exact .inl rfl|exact .inr rfl):QG X (.Name x pos) (cL i):=⟨Dv hN hi hx hf⟩
theorem iN:QGs X [] mH:=⟨Dw⟩
theorem cD{e:Expr}{es:List Expr}(h1:QG X e g)(h2:QGs X es gs)(hs:(assignEach (e::es) X.env).map (·.2)=assign e X.env::(assignEach es X.env).map (·.2):=by rfl):QGs X (e::es) (fM g gs):=⟨Bi h1.h h2.h hs⟩
theorem kW{es:List Expr}{k n:Nat}(hc:X.calm=true)(h:QGs X es gs)(hn:(assignEach es X.env).length=n:=by rfl)(hst:(assignEach es X.env).findIdx? (·.1)=none:=by rfl):QG X (.Tuple es k pos) (mI X.K n gs):=⟨FF hc h.h hn hst⟩
theorem BW{o i:Expr}{to ti:TE}{t:rX}(ho:QE X o to)(hi:QE X i ti)(hs:QSet X t)(ha:∀ v,assign (.Subscript o i pos) X.env v=(do
   let ov ←holding [v] (eval o X.env)
   let iv ←holding [v,ov] (eval i X.env)
   standAt pos
   holding [v,ov,iv] (setItem ov iv v)
   release [v,ov,iv] []):=by intro _;rfl):QG X (.Subscript o i pos) (EH to ti t):=⟨FE ho.h hi.h hs.h ha⟩
theorem bu{l:Expr}(hl:QE X l te):QI X tg l (BZ X.K te):=⟨Dy hl.h⟩
theorem sH{a:Expr}{ta:TA}{p:Pos}(hm:X.mg "range" = none)(ha:QA X [a] ta)(hg:Gl X "range":=by rfl)(hs:aP a=true:=by rfl):QI X tg (.Call (.Name "range" p) [a] [] pos) (B7 ta):=⟨yR hg hm ha.h (aY hs)⟩
theorem sI:QIf X [] lQ:=⟨Bk⟩
theorem jG{c:Expr}{t:TT}(h:QT X c t):QIf X [c] t:=⟨Bl h.h⟩
theorem fU(O:CompOk X scope cap capN)(hc:X.calm=true)(hi:QI X tg iter wi)(hg:∀C s0 H0 ex,QG (aV X scope (own++capN) C s0 H0 ex) tg g)(gk:GK own.length g)(ht:∀C s0 H0 ex,QIf (aV X scope (own++capN) C s0 H0 ex) ifs tc)(he:∀C s0 H0 ex,QE (aV X scope (own++capN) C s0 H0 ex) elt te)(hs:∀x,foldedSetIterable iter X.env x=pure x:=by intro _;rfl):QE X (.ListComp elt [⟨tg,iter,ifs,0⟩] scope pos) (rL own.length cap wi g tc te) :=
 ⟨Dr O hc hi.h (fun C s0 H0 ex=>(hg C s0 H0 ex).h) gk (fun C s0 H0 ex=>(ht C s0 H0 ex).h) (fun C s0 H0 ex=>(he C s0 H0 ex).h) hs⟩
variable{st:Stmt}{rest:List Stmt}{t u:TS}{e c:Expr}
theorem b_0:QB X [] Cv:=⟨DI⟩
theorem b_1(h:QS X st t):QB X [st] t:=⟨DJ h.h⟩
theorem b_c(h1:QS X st t)(h2:QB X rest u):QB X (st::rest) (xA t u):=⟨Bo h1.h h2.h⟩
theorem aF(h:QE X e te):QS X (.Return (some e) pos) (Gz te):=⟨FN h.h⟩
theorem bP(h:QE X e te)(hs:swapsWith e none pos.line X.env=pure false:=by rfl):QS X (.Expr e pos) (Ct te):=⟨DG h.h hs⟩
theorem aW{body els:List Stmt}(hc:QT X c tc)(ht:QB X body t)(hu:QB X els u):QS X (.If c body els pos) (Gv tc t u):=⟨Hy hc.h ht.h hu.h⟩
theorem aH{i:Nat}{x:Str}{pos':Pos}(hN:X.N.Nodup)(he:QE X e te)(hi:X.N[i]?=some x:=by rfl)(hx:Loc X.env.scope x:=by first|exact Or.inl rfl|exact Or.inr rfl)(hs:swapsWith e (some (.Name x pos')) pos.line X.env=pure false:=by rfl)(hf:X.fn x=true\/X.env.scope.names.lookup x=some .local:=by first|exact .inl rfl|exact .inr rfl):QS X (.Assign [.Name x pos'] e pos) (qd te (cL i)):=⟨FO hN hi hx he.h hs hf⟩
theorem jg{j:Nat}{y:Str}{py spos:Pos}(hN0:X.N.Nodup)(O:CompOk X scope cap capN)(hc:X.calm=true)(hi:QI X tg iter wi)(hg:∀C s0 H0 ex,QG (aV X scope (own++capN) C s0 H0 ex) tg g)(gk:GK own.length g)(ht:∀C s0 H0 ex,QIf (aV X scope (own++capN) C s0 H0 ex) ifs tc)(he:∀C s0 H0 ex,QE (aV X scope (own++capN) C s0 H0 ex) elt te)(hj:X.N[j]?=some y:=by rfl)(hy:Loc X.env.scope y:=by first|exact Or.inl rfl|exact Or.inr rfl)(hsw:swapsWith (.ListComp elt [⟨tg,iter,ifs,0⟩] scope pos) (some (.Name y py)) spos.line X.env=pure true:=by rfl)(hs:∀x,foldedSetIterable iter X.env x=pure x:=by intro _;rfl)(hf:X.fn y=true\/X.env.scope.names.lookup y=some .local:=by first|exact .inl rfl|exact .inr rfl) :
  QS X (.Assign [.Name y py] (.ListComp elt [⟨tg,iter,ifs,0⟩] scope pos) spos) (qd (rL own.length cap wi g tc te) (cL j)) :=
 ⟨DH hN0 hj hy O hc hi.h (fun C s0 H0 ex=>(hg C s0 H0 ex).h) gk (fun C s0 H0 ex=>(ht C s0 H0 ex).h) (fun C s0 H0 ex=>(he C s0 H0 ex).h) hsw hs hf⟩
theorem Cn(he:QE X e te)(hg:QG X tg g)(hs:swapsWithSole [tg] e pos.line X.env=pure false:=by rfl)(hw:swappedStores [tg] e X.env=pure none:=by rfl)(h1:(assignEach [tg] X.env).map (·.2)=[assign tg X.env]:=by rfl):QS X (.Assign [tg] e pos) (qd te g):=⟨FK he.h hg.h hs hw h1⟩
theorem dC{body:List Stmt}(hp:PassesOwn (model X.prog X.w) X.A X.env X.xe)(hc:X.calm=true)(hi:QI X tg iter wi)(hg:QG X tg g)(hb:QB X body t)(hs:∀x,foldedSetIterable iter X.env x=pure x:=by intro _;rfl):QS X (.For tg iter body [] pos) (Gu wi g t):=⟨FM hp hc hi.h hg.h hb.h hs⟩
theorem DR{body:List Stmt}(hp:PassesOwn (model X.prog X.w) X.A X.env X.xe)(hc:QT X c tc)(hb:QB X body t):QS X (.While c body [] pos) (zH tc t):=⟨Bn hp hc.h hb.h⟩
end
theorem Fun.okQ{P:Program}{w:World}{K:PySem.W.Frag}{mg:Str->Option Value}{base:Heap}{x qual:Str}{st:Stmt}{f:Addr}{fd:FuncData}{N ps:List Str}{k:Nat}{sp:Sp}(F:Fun K x qual st f fd)(S:FnScope N ps (al st))(len:∀ vs H Q E,sp vs H Q E->vs.length=ps.length)(hbody:∀ (cdv:Value) (A:Around) (outer:List Env) (s:Shared) (H:Hp) (vs:List V) (Q:VK) (E:XK),Room k (A.deeper (envOfC qual (al st) s.heap.objs.size f cdv))->sp vs H Q E ->
   ∃ t,QB (fZ CX0 P w K mg base N qual (al st) f cdv A outer s H E).nox (bJ st) t/\t { nx:=fun _ H'=>Q .non H',rt:=Q } (start N vs) H):FnOk P w K mg base CX0 (k+1) f fd ps sp :=
 F.ok S len fun cdv A outer s H vs Q E hr hsp=>let⟨t,h,q⟩:=hbody cdv A outer s H vs Q E hr hsp;⟨t,h.h,q⟩
section
variable{X:Cx}
theorem fO:QOp X (binaryOp .Add) (rI0 fun i j=>.int (i+j)):=⟨Fe⟩
theorem nQ:QOp X (binaryOp .Sub) (rI0 fun i j=>.int (i-j)):=⟨Fm⟩
theorem lj:QOp X (binaryOp .Mult) (rI CMul fun i j=>.int (i*j)):=⟨Fj⟩
theorem iZ:QOp X (binaryOp .FloorDiv) (rI Ei fun i j=>.int (i / j)):=⟨Di⟩
theorem dZ:QOp X (binaryOp .Mod) (rI (fun _ j=>0<j) fun i j=>.int (i%j)):=⟨Fi⟩
theorem Cc:QOp X (binaryOp .Add) FW:=⟨Ff⟩
theorem bH:QOp X (compareOp .Eq) rEq:=⟨Hk⟩
theorem E8:QOp X (compareOp .NotEq) rNe:=⟨Ho⟩
theorem E7:QOp X (compareOp .Lt) (rI0 fun i j=>.bl (decide (i<j))):=⟨Hn⟩
theorem xf:QOp X (compareOp .Gt) (rI0 fun i j=>.bl (decide (j<i))):=⟨Hm⟩
theorem E6:QOp X (compareOp .GtE) (rI0 fun i j=>.bl (decide (j<=i))):=⟨Hl⟩
theorem jb:QOp X (compareOp .IsNot) (fun x y H Q=>y=.non/\Q (.bl (!decide (x=.non))) H):=⟨Dj⟩
theorem Hh(hu:X.A.units<cLine):QOp X (compareOp .Lt) (F7 X.K):=⟨Fh hu⟩
theorem dj:QIx X (Bq X.K):=⟨C2⟩
theorem ai:QIx X (pK X.K):=⟨EO⟩
theorem sL:QSl X (Ga X.K):=⟨DW⟩
theorem Cq:QSet X Ck:=⟨BD⟩
theorem rC:QCall X (.builtin "len") (fun xs H Q=>∃p ys,xs=[.ref p]/\(SqL X.K H p ys\/SqT X.K H p ys)/\Q (.int ys.length) H):=⟨rZ⟩
theorem GV(hc:X.calm=true):QCall X (.builtin "max") (fun xs H Q=>∃i j,xs=[.int i,.int j]/\Q (.int (if j>i then j else i)) H):=⟨xU hc⟩
theorem GW:QCall X (.type "tuple") (fun xs H Q=>∃p ys,xs=[.ref p]/\((SqL X.K H p ys/\∀l,H l=none->Q (.ref l) (upd H l (.tup ys)))\/(SqT X.K H p ys/\Q (.ref p) H))):=⟨qW⟩
theorem xT:QCall X (.type "list") (fun xs H Q=>∃p ys,xs=[.ref p]/\(SqL X.K H p ys\/SqT X.K H p ys)/\∀l,H l=none->Q (.ref l) (upd H l (.lst ys))):=⟨se⟩
end
open PySem PySem.Spec PyProof.Rows
mutual
def Dt(H:Hp):PyData->V->Prop
 |.none,v=>v=.non
 |.bool b,v=>v=.bl b
 |.int i,v=>v=.int i
 |.str x,v=>v=.str x
 |.list ds,v=>∃a xs,v=.ref a/\Rd H a (.lst xs)/\DtAll H ds xs
 |.tuple ds,v=>∃a xs,v=.ref a/\Rd H a (.tup xs)/\DtAll H ds xs
 |.dict _,_=>False
def DtAll(H:Hp):List PyData->List V->Prop
 | [],xs=>xs=[]
 |d::ds,xs=>∃y ys,xs=y::ys/\Dt H d y/\DtAll H ds ys
end
section
variable{P:Program}{w:World}{H:Hp}{h:Heap}
mutual
theorem Dt.reads(ok:HOk P w H h):∀(d:PyData) (x:V) (v:Value),Dt H d x->RelV x v->∃as,Reads h v d as
 |.none,x,v,e,r=>by
  have e':x=.non:=by simpa only[Dt]using e
  subst e';cases r;exact⟨_,.none⟩
 |.bool b,x,v,e,r=>by
  have e':x=.bl b:=by simpa only[Dt]using e
  subst e';cases r;exact⟨_,.bool b⟩
 |.int i,x,v,e,r=>by
  have e':x=.int i:=by simpa only[Dt]using e
  subst e';obtain⟨t,rfl⟩:=r;exact⟨_,.int i t⟩
 |.str z,x,v,e,r=>by
  have e':x=.str z:=by simpa only[Dt]using e
  subst e';obtain⟨t,rfl⟩:=r;exact⟨_,.str z t⟩
 |.list ds,x,v,e,r=>by
  have e':∃a xs,x=.ref a/\Rd H a (.lst xs)/\DtAll H ds xs:=by simpa only[Dt]using e
  obtain⟨a,xs,rfl,hr,hd⟩:=e';cases r;obtain⟨_,its,n,rv,eo⟩:=hr.ok ok;obtain⟨as,q⟩:=DtAll.reads ok ds xs its hd rv;exact⟨_,.list eo rfl rfl (by simpa using q)⟩
 |.tuple ds,x,v,e,r=>by
  have e':∃a xs,x=.ref a/\Rd H a (.tup xs)/\DtAll H ds xs:=by simpa only[Dt]using e
  obtain⟨a,xs,rfl,hr,hd⟩:=e';cases r;obtain⟨_,its,rv,o,eo,hc,n,hs⟩:=hr.ok ok;obtain⟨as,q⟩:=DtAll.reads ok ds xs its hd rv;exact⟨_,.tuple eo hc hs (by simpa using q)⟩
 |.dict kvs,x,v,e,r=>by
  have e':False:=by simpa only[Dt]using e
  exact e'.elim
theorem DtAll.reads(ok:HOk P w H h):∀(ds:List PyData) (xs:List V) (vs:List Value),DtAll H ds xs->Vals xs vs->∃as,ReadsAll h vs ds as
 | [],xs,vs,e,r=>by
  have e':xs=[]:=by simpa only[DtAll]using e
  subst e';cases r;exact⟨_,.nil⟩
 |d::ds,xs,vs,e,r=>by
  have e':∃y ys,xs=y::ys/\Dt H d y/\DtAll H ds ys:=by simpa only[DtAll]using e
  obtain⟨y,ys,rfl,h1,h2⟩:=e';cases r with
  |cons r1 r2 =>obtain⟨as,q1⟩:=Dt.reads ok d y _ h1 r1;obtain⟨bs,q2⟩:=DtAll.reads ok ds ys _ h2 r2;exact⟨_,.cons q1 q2⟩
end
end
theorem uY{H:Hp}:∀(ns:List Int),DtAll H (ns.map PyData.int) (ns.map V.int)
 | []=>by simp only[List.map_nil,DtAll]
 |n::ns=>by simp only[Zw,DtAll];exact⟨_,_,rfl,by simp only[Dt],uY ns⟩
section
variable{X:Cx}
def FX:R2:=fun x y H Q=>∃dx dy,Dt H dx x/\Dt H dy y/\SeqAt.shaped dx=true/\SeqAt.shaped dy=true/\Q (.bl (PyData.eqv dx dy)) H
def F8:R2:=fun x y H Q=>∃dx dy,Dt H dx x/\Dt H dy y/\SeqAt.shaped dx=true/\SeqAt.shaped dy=true/\Q (.bl (!PyData.eqv dx dy)) H
theorem yK(hu:X.A.units+64<cLine):OpR X (compareOp .Eq) FX:=by intro pins s σ H x y v u Q I rx ry h;obtain⟨dx,dy,h1,h2,s1,s2,q⟩:=h;obtain⟨as,r1⟩:=Dt.reads I.hok dx x v h1 rx;obtain⟨bs,r2⟩:=Dt.reads I.hok dy y u h2 ry;exact eq_dataH r1 r2 s1 s2 hu ⟨.bl _,H,I,rfl,q⟩
theorem yM(hu:X.A.units+64<cLine):OpR X (compareOp .NotEq) F8:=by intro pins s σ H x y v u Q I rx ry h;obtain⟨dx,dy,h1,h2,s1,s2,q⟩:=h;obtain⟨as,r1⟩:=Dt.reads I.hok dx x v h1 rx;obtain⟨bs,r2⟩:=Dt.reads I.hok dy y u h2 ry;exact ne_dataH r1 r2 s1 s2 hu ⟨.bl _,H,I,rfl,q⟩
theorem rF(hu:X.A.units+64<cLine):QOp X (compareOp .Eq) FX:=⟨yK hu⟩
theorem Hi(hu:X.A.units+64<cLine):QOp X (compareOp .NotEq) F8:=⟨yM hu⟩
end
section
variable{X:Cx}
variable{o e:Expr}{to te:TE}{apos cpos:Pos}
theorem gJ(ho:QE X o to)(he:QE X e te)(hs:aP e=true:=by rfl)(hbase:attributeBase o "append" X.env (eval o X.env)=eval o X.env:=by rfl)(hline:(apos.endLine==cpos.line)=true:=by rfl) :
  QE X (.Call (.Attribute o "append" apos) [e] [] cpos) (tBM X.K "list" vE to (lP te mX)):=by
 have h1:=aY (es:=[]) (env:=X.env) hs;have h2:starEach ([]:List Expr) X.env=[]:=rfl;refine⟨Ht PySem.F.plainAttrs_list PySem.F.slot_list_append PySem.F.type_list_append yA ho.h (pa he.h yN hs) hbase ?_ hline h1 (by rw[h2];rfl)⟩;rw[h1,h2];rfl
end
open PySem PySem.Spec PyProof.Rows
theorem bO{H H':Hp}{p:Addr}{o:HO}(e:Same H H')(h:H p=none):Same H (upd H' p o):=fun b u q=>by rw[ah (au q h)];exact e _ _ q
def aq(ns:List Int)(k:Nat):Int:=(ns[k]?).getD 0
theorem gS{ns:List Int}{k:Int}(h0:0<=k)(h1:k<ns.length):atI (ns.map V.int) k=some (.int (aq ns k.toNat)):=by
 have hk:k.toNat<ns.length:=by omega
 have ek:k=((k.toNat:Nat):Int):=by omega
 have q:atI (ns.map V.int) ((k.toNat:Nat):Int)=some (.int ns[k.toNat]):=eM (by rw[ZA,Zd hk]<;>rfl);rw[<-ek]at q;rw[q];unfold aq;rw[Zd hk];rfl
theorem Al{ns:List Int}{k:Int}(h0:0<=k)(h1:¬k<ns.length):aq ns k.toNat=0:=by unfold aq;rw[List.getElem?_eq_none (by omega)];rfl
open PySem PySem.Spec PyProof.Rows
section
variable{prog:Program}{w:World}{A:Around}
theorem fL(calm:A.handled=none)(it t:Addr)(apart:t≠it)(xs:Array Value) :
  Draws prog w A it [it,t] xs.size (fun i v=>xs[i]?=some v) (fun i h=>h.IsTupleIter it t i/\h.IsTuple t xs) where
 live:=fun _ _ q=>let⟨o,eo,_⟩:=q.1;⟨o,eo⟩
 frame:=fun _ _ _ q kp=>⟨let⟨o,eo,r⟩:=q.1;⟨o,kp it (by simp) o eo,r⟩,let⟨o,eo,r⟩:=q.2;⟨o,kp t (by simp) o eo,r⟩⟩
 item:=fun i s Q E lt q cont=>by
  have ei:xs[i]?=some xs[i]:=by simp[lt]
  obtain⟨o,eo,ec,ed⟩:=id q.1;obtain⟨p,ep,_,np,edp⟩:=id q.2;have ty:=q.1.typeIs;unfold Builtin.SmallTypes.nextOf;refine Za (Z7 (name:=Str.ofString "__next__") ty F.slot_tuple_iterator_next (Yy F.slot_tuple_iterator_next ty F.entry_tuple_iterator_next ?_ (F.args_tuple_iterator_next_1 _)));show wpAny _ _ (field (.ref it) 0 >>= _) _ _ s;refine Za (ZZ eo ed (x:=.ref t) rfl ?_);show wpAny _ _ (if(Value.ref t==Value.none)=true then _ else _) _ _ s;rw[if_neg (show¬((Value.ref t==Value.none)=true)from Zr)];show wpAny _ _ (field (.ref it) 1 >>= _) _ _ s;refine Za (ZZ eo ed (x:=.int i 0) rfl ?_);show wpAny _ _ (seqItems? (.ref t) >>= _) _ _ s;refine Za (Y2 ep edp ?_);simp only[Int.toNat_natCast,ei];have sb:=Yv s.heap it (fun ob=>ob.mapFields fun fs=>fs.setIfInBounds 1 (rawInt (i+1)));refine Za (wpAny_setField eo ed (by simp) (Zh ⟨xs[i],rfl,Zh (cont _ _ s.toks ei ⟨?_,?_⟩ (Yv ..))⟩))
  ·exact⟨_,Yx _ eo (Obj.isFreed_of_fields (YO ed _)),(Obj.cls_mapFields ..).trans ec,by rw[YO ed];simp[rawInt]⟩
  ·exact q.2.extBut (Yv ..).extBut apart
 done:=fun s Q E q cont=>by
  have ei:xs[xs.size]?=none:=by simp
  obtain⟨o,eo,ec,ed⟩:=id q.1;obtain⟨p,ep,_,np,edp⟩:=id q.2;have ty:=q.1.typeIs;unfold Builtin.SmallTypes.nextOf;refine Za (Z7 (name:=Str.ofString "__next__") ty F.slot_tuple_iterator_next (Yy F.slot_tuple_iterator_next ty F.entry_tuple_iterator_next ?_ (F.args_tuple_iterator_next_1 _)));show wpAny _ _ (field (.ref it) 0 >>= _) _ _ s;refine Za (ZZ eo ed (x:=.ref t) rfl ?_);show wpAny _ _ (if(Value.ref t==Value.none)=true then _ else _) _ _ s;rw[if_neg (show¬((Value.ref t==Value.none)=true)from Zr)];show wpAny _ _ (field (.ref it) 1 >>= _) _ _ s;refine Za (ZZ eo ed (x:=.int xs.size 0) rfl ?_);show wpAny _ _ (seqItems? (.ref t) >>= _) _ _ s;refine Za (Y2 ep edp ?_);simp only[Int.toNat_natCast,ei];refine Za (YC (Za (wpAny_setField eo ed (by simp) ?_)));show wpAny _ _ (newExc (.type "StopIteration") [] >>= _) _ _ _;refine Za ?_;simp only[newExc,newTuple];refine Za (Yg ?_ (by size_fits));refine Za (m:=firstArgMember _ _) (wpAny_of_eq (a:=Value.none) (by first|rfl|(simp only[firstArgMember];rfl)) (Yg ?_ (by size_fits)));simp only[raiseNew];refine Za (wpAny_handled ?_)
  first|rw[show A.in1.handled=none from calm]|rw[calm]
  exact Za (Zh (wpAny_throw (cont _ _ (((Yv ..).extBut.push _).push _) ⟨_,Zo _ rfl,rfl⟩)))
end
structure ZAp(z u v i j:Addr)(f g:List Addr):Prop where
 uz:u≠z
 vz:v≠z
 uv:u≠v
 ui:u≠i
 uj:u≠j
 vi:v≠i
 vj:v≠j
 iz:i≠z
 jz:j≠z
 ij:i≠j
 zf:z∉f
 zg:z∉g
 vf:v∉f
 vg:v∉g
 jf:j∉f
 ig:i∉g
section
variable{prog:Program}{w:World}{A:Around}{E:Value->Shared->Prop}{s:Shared}{z u v i j:Addr}{f g:List Addr}{n m k:Nat}{P1 P2:Nat->Value->Prop}{S1 S2:Nat->Heap->Prop}{a b:Value}
def wq(z v i j:Addr)(h h':Heap):Prop:=∀c o,c≠z->c≠v->c≠i->c≠j->h.get? c=some o->h'.get? c=some o
theorem dH{c:Addr}{f:List Addr}{d:Addr}(hc:c∈f)(hd:d∉f):c≠d:=fun e=>hd (e▸hc)
theorem um(d1:Draws prog w A i f n P1 S1)(d2:Draws prog w A j g m P2 S2)(ap:ZAp z u v i j f g)(hz:IsZip s.heap z u v .none)(hu:IsPair s.heap u (.ref i) (.ref j))(hv:IsPair s.heap v a b)(h1:S1 k s.heap)(h2:S2 k s.heap)(l1:k<n)(l2:k<m){Q:Value->Shared->Prop}(cont:∀h' tk x y,P1 k x->P2 k y->IsZip h' z u v (rawInt s.heap.objs.size)->IsPair h' v x y->S1 (k+1) h'->S2 (k+1) h'->IsPair h' s.heap.objs.size x y->wq z v i j s.heap h'->Q (.ref s.heap.objs.size) { s with heap:=h',toks:=tk }) :
  wpAny (model prog w) A (Builtin.«zip.__next__» ⟨[.ref z],[]⟩) (fun fin s'=>∃r,fin=.done (.ret r)/\Q r s') E s:=by
 show wpAny _ _ (field (.ref z) 2 >>= _) _ _ _;refine Za (ZZ hz rfl (x:=.bool false) rfl ?_);show wpAny _ _ (field (.ref z) 3 >>= _) _ _ _;refine Za (ZZ hz rfl (x:=.ref u) rfl (Za (Y2 hu rfl ?_)));show wpAny _ _ (Builtin.SmallTypes.ownedTupleIsFree (.ref z) >>= _) _ _ _;refine Za ?_;unfold Builtin.SmallTypes.ownedTupleIsFree;refine Za (ZZ hz rfl (x:=.none) rfl (Zh ?_));simp only[if_true];refine Za (YC (Za (ZZ hz rfl (x:=.ref v) rfl ?_)));refine Za (wpAny_setField_rec hz (by simp) fun q1 z1 b1=>?_)
 replace z1:IsZip q1 z u v .ellipsis:=z1
 refine Za ?_;simp only[List.zipIdx_cons,List.zipIdx_nil,List.forIn_cons,List.forIn_nil];refine Za (Za (wpAny_onRaise ?_));show wpAny _ _ (Builtin.SmallTypes.nextOf (.ref i) >>= _) _ _ _;refine Za (d1.item k { s with heap:=q1 } _ _ l1 (d1.frame _ _ _ h1 fun c hc o e=>b1.extBut c o (dH hc ap.zf) e) fun x q2 t2 px s2 b2=>Zh ?_);have v2:IsPair q2 v a b:=b2.extBut _ _ ap.vi (b1.extBut _ _ ap.vz hv);refine Za (Y2 v2 rfl (Za (wpAny_updateSeq_pair v2 fun q3 w3 b3=>?_)))
 replace w3:IsPair q3 v x b:=w3
 refine Za (wpAny_letGo (Zh ?_));refine Za (Za (wpAny_onRaise ?_));show wpAny _ _ (Builtin.SmallTypes.nextOf (.ref j) >>= _) _ _ _;refine Za (d2.item k { s with heap:=q3,toks:=t2 } _ _ l2 (d2.frame _ _ _ h2 fun c hc o e=>b3.extBut c o (dH hc ap.vg) (b2.extBut c o (dH hc ap.ig) (b1.extBut c o (dH hc ap.zg) e))) fun y q4 t4 py s4 b4=>Zh ?_);have v4:IsPair q4 v x b:=b4.extBut _ _ ap.vj w3;refine Za (Y2 v4 rfl (Za (wpAny_updateSeq_pair v4 fun q5 w5 b5=>?_)))
 replace w5:IsPair q5 v x y:=w5
 refine Za (wpAny_letGo (Zh (Zh (Za (Y2 w5 rfl (Za (wpAny_newTuple ?_)))))));have sz:q5.objs.size=s.heap.objs.size:=by rw[b5.1,b4.1,b3.1,b2.1,b1.1]
 have z5:IsZip q5 z u v .ellipsis:=b5.extBut _ _ ap.vz.symm (b4.extBut _ _ ap.jz.symm (b3.extBut _ _ ap.vz.symm (b2.extBut _ _ ap.iz.symm z1)));have k5:wq z v i j s.heap q5:=fun c o c1 c2 c3 c4 e=>b5.extBut _ _ c2 (b4.extBut _ _ c4 (b3.extBut _ _ c2 (b2.extBut _ _ c3 (b1.extBut _ _ c1 e))));have s5:S1 (k+1) q5:=d1.frame _ _ _ s2 fun c hc o e=>b5.extBut c o (dH hc ap.vf) (b4.extBut c o (dH hc ap.jf) (b3.extBut c o (dH hc ap.vf) e));have r5:S2 (k+1) q5:=d2.frame _ _ _ s4 fun c hc o e=>b5.extBut c o (dH hc ap.vg) e;have zlt:z<q5.objs.size:=Zn z5;show wpAny _ _ (Builtin.SmallTypes.ownedTupleHandOut (.ref z) (.ref q5.objs.size) >>= _) _ _ _;refine Za ?_;unfold Builtin.SmallTypes.ownedTupleHandOut;refine Za (wpAny_setField_rec (show IsZip (q5.push { cls:=.type "tuple",data:=.seq #[x,y] }) z u v .ellipsis from Zb _ z5) (by simp) fun q7 z7 b7=>?_)
 replace z7:IsZip q7 z u v (rawInt q5.objs.size):=z7
 refine wpAny_setField_rec z7 (by simp) fun q8 z8 b8=>?_
 replace z8:IsZip q8 z u v (rawInt q5.objs.size):=z8
 have up:∀c o,c≠z->q5.get? c=some o->q8.get? c=some o:=fun c o c1 e=>b8.extBut _ _ c1 (b7.extBut _ _ c1 (Zb _ e));have p8:IsPair q8 q5.objs.size x y:=b8.extBut _ _ (Z9 zlt) (b7.extBut _ _ (Z9 zlt) (Zo _ rfl));rw[sz]at z8 p8;refine Zh ⟨_,rfl,?_⟩;show Q (.ref q5.objs.size) _;rw[sz];exact cont q8 _ x y px py z8 (up _ _ ap.vz w5) (d1.frame _ _ _ s5 fun c hc o e=>up c o (dH hc ap.zf) e) (d2.frame _ _ _ r5 fun c hc o e=>up c o (dH hc ap.zg) e) p8 fun c o c1 c2 c3 c4 e=>up c o c1 (k5 c o c1 c2 c3 c4 e)
theorem vX(d1:Draws prog w A i f n P1 S1)(d2:Draws prog w A j g m P2 S2)(ap:ZAp z u v i j f g)(hz:IsZip s.heap z u v .none)(hu:IsPair s.heap u (.ref i) (.ref j))(hv:IsPair s.heap v a b)(h1:S1 n s.heap){Q:Fin->Shared->Prop}(cont:∀h' e,wq z v i j s.heap h'->(∃o,h'.get? e=some o/\o.cls=.type "StopIteration")->E (.ref e) { s with heap:=h' }):wpAny (model prog w) A (Builtin.«zip.__next__» ⟨[.ref z],[]⟩) Q E s:=by
 show wpAny _ _ (field (.ref z) 2 >>= _) _ _ _;refine Za (ZZ hz rfl (x:=.bool false) rfl ?_);show wpAny _ _ (field (.ref z) 3 >>= _) _ _ _;refine Za (ZZ hz rfl (x:=.ref u) rfl (Za (Y2 hu rfl ?_)));show wpAny _ _ (Builtin.SmallTypes.ownedTupleIsFree (.ref z) >>= _) _ _ _;refine Za ?_;unfold Builtin.SmallTypes.ownedTupleIsFree;refine Za (ZZ hz rfl (x:=.none) rfl (Zh ?_));simp only[if_true];refine Za (YC (Za (ZZ hz rfl (x:=.ref v) rfl ?_)));refine Za (wpAny_setField_rec hz (by simp) fun q1 z1 b1=>?_)
 replace z1:IsZip q1 z u v .ellipsis:=z1
 refine Za ?_;simp only[List.zipIdx_cons,List.zipIdx_nil,List.forIn_cons,List.forIn_nil];refine Za (Za (wpAny_onRaise ?_));show wpAny _ _ (Builtin.SmallTypes.nextOf (.ref i) >>= _) _ _ _;refine Za (d1.done { s with heap:=q1 } _ _ (d1.frame _ _ _ h1 fun c hc o e=>b1.extBut c o (dH hc ap.zf) e) fun q2 e b2 he=>?_);obtain⟨oe,hoe,hce⟩:=he;have z2:IsZip q2 z u v .ellipsis:=b2 _ _ ap.iz.symm z1;have ez:e≠z:=fun x=>by subst x;rw[z2]at hoe;cases hoe;simp at hce
 exact wpAny_setField_rec z2 (by simp) fun q3 _ b3=>cont q3 e (fun c o c1 _ c3 _ x=>b3.extBut _ _ c1 (b2 _ _ c3 (b1.extBut _ _ c1 x))) ⟨oe,b3.extBut _ _ ez hoe,hce⟩
end
section
variable{X:Cx}{pins:List (Addr×Obj)}{σ:St}{H:Hp}{s:Shared}{h':Heap}{ch:List Addr}{t':Nat}
theorem Inv.turnH{H':Hp}(I:Inv X pins σ H s)(hch:∀b∈ch,bC X pins H b)(kp:∀b o,b∉ch->s.heap.get? b=some o->h'.get? b=some o)(up:∀b u,H b=some u->H' b=some u)(dn:∀b o,s.heap.get? b=some o->H b=none->H' b=none)(hok:HOk X.prog X.w H' h') :
  Inv X pins σ H' { s with heap:=h',toks:=t' }:=by
 refine I.step (g':=s.gens) (d':=s.drawn) (ch:=ch) (fun b hb=>?_) (fun b o _ _ hc e _=>kp b o hc e) (fun b o _ _ hc e _=>⟨o.slots,kp b o hc e⟩) (fun b o _ e n=>dn b o e n) (fun b o hc e=>⟨o,kp b o hc e⟩) (fun b xs e=>up _ _ e) (fun b o u e=>up _ _ e) (fun b ps e=>⟨#[],by rw[up _ _ e];simp⟩) (fun m hm=>?_) hok I.bare
 ·obtain⟨f0,f1,f2,f3,f4,f5⟩:=hch b hb;exact⟨f3,f1,f4,f5⟩
 ·obtain⟨o,es,ep,ho,r⟩:=hm;exact⟨o,es,ep,kp _ o (fun z=>(hch _ z).2.1 rfl) ho,r⟩
theorem sG(I:Inv X pins σ H s)(hch:∀b∈ch,bC X pins H b)(kp:∀b o,b∉ch->s.heap.get? b=some o->h'.get? b=some o):HOk X.prog X.w H h':=fun b u e=>by
 have nin:∀{c:Addr} {q:HO},H c=some q->c∉ch:=fun{c q} e z=>by rw[(hch c z).1]at e;cases e
 refine(I.hok b u e).stay (fun c v hc q=>kp c v ?_ q) (fun _ q=>q) fun _ _ q=>q;rcases hc with z|z
 ·rw[z];exact nin e
 ·exact nin z
theorem Inv.turnM(I:Inv X pins σ H s)(hch:∀b∈ch,bC X pins H b)(kp:∀b o,b∉ch->s.heap.get? b=some o->h'.get? b=some o):Inv X pins σ H { s with heap:=h',toks:=t' } :=
 I.turnH hch kp (fun _ _ e=>e) (fun _ _ _ n=>n) (sG I hch kp)
theorem Inv.turnT{xs:List V}{its:List Value}(I:Inv X pins σ H s)(hch:∀b∈ch,bC X pins H b)(kp:∀b o,b∉ch->s.heap.get? b=some o->h'.get? b=some o)(hp:IsTup h' s.heap.objs.size its.toArray)(rv:Vals xs its)(hz:xs.length<=sizeLine) :
  Inv X pins σ (upd H s.heap.objs.size (.tup xs)) { s with heap:=h',toks:=t' }:=by
 have fr:=I.hok.fresh (Ze s.heap.objs.size);have ne:∀{b:Addr} {u:HO},H b=some u->b≠s.heap.objs.size:=fun{b u} e=>au e fr;have hk:=sG I hch kp;refine I.turnH hch kp (fun b u e=>by rw[ah (ne e)];exact e) (fun b o e n=>by rw[ah (ZD (Zn e))];exact n) fun b u e=>?_;by_cases hb:b=s.heap.objs.size
 ·subst hb;rw[ae]at e;cases e;exact⟨hz,its,rv,hp⟩
 ·rw[ah hb]at e;exact(hk b u e).stay (fun _ _ _ q=>q) (fun c q=>by rw[ah (ne q)];exact q) fun c ys q=>by rw[ah (ne q)];exact q
end
def Itz(K:PySem.W.Frag)(a b:Addr)(xs ys:List V):It :=
 ⟨fun i H=>i<xs.length/\SqT K H a xs/\SqT K H b ys,fun i H x H'=>∃T p q,H T=none/\xs[i]?=some p/\ys[i]?=some q/\x=.ref T/\H'=upd H T (.tup [p,q]),fun i H=>i=xs.length/\SqT K H a xs/\SqT K H b ys⟩
abbrev zTn(z u v i1 i2 a b:Addr):Nat->Heap->Prop:=fun i h=>IsZip h z u v .none/\IsPair h u (.ref i1) (.ref i2)/\(∃p q,IsPair h v p q)/\h.IsTupleIter i1 a i/\h.IsTupleIter i2 b i
theorem BL{P:Program}{w:World}{K:PySem.W.Frag}{elts:List Expr}{kt:Nat}{tp:Pos}{z u v i1 i2 a b:Addr}{xs ys:List V}(hl:xs.length=ys.length)(D:[z,u,v,i1,i2].Nodup)(ha:∀c∈[z,u,v,i1,i2],c≠a/\c≠b) :
  Turn P w K (.Tuple elts kt tp) (Itz K a b xs ys) [z,u,v,i1,i2] z (zTn z u v i1 i2 a b):=by
 have nd:(z≠u/\z≠v/\z≠i1/\z≠i2)/\(u≠v/\u≠i1/\u≠i2)/\(v≠i1/\v≠i2)/\i1≠i2:=by simpa using D
 obtain⟨⟨zu,zv,z1,z2⟩,⟨uv,u1,u2⟩,⟨v1,v2⟩,i12⟩:=nd;have az:=ha z (by simp);have av:=ha v (by simp);have a1:=ha i1 (by simp);have a2:=ha i2 (by simp);have ap:ZAp z u v i1 i2 [i1,a] [i2,b]:=⟨zu.symm,zv.symm,uv,u1,u2,v1,v2,z1.symm,z2.symm,i12,by simp[z1,az.1],by simp[z2,az.2],by simp[v1,av.1],by simp[v2,av.2],by simp[i12.symm,a2.1],by simp[i12,a1.2]⟩
 refine⟨by simp,fun i h st c hc=>?_,fun i h h' st k=>?_,?_,?_,fun A i s Q E st h=>wpAny_pyIter_zip st.1 h⟩
 ·obtain⟨e1,e2,⟨p,q,e3⟩,⟨o4,e4,_,d4⟩,⟨o5,e5,_,d5⟩⟩:=st;simp only[Zl,ZC,Z6]at hc;rcases hc with rfl|rfl|rfl|rfl|rfl
  ·exact⟨_,e1,fun v z=>nomatch z⟩
  ·exact⟨_,e2,fun v z=>nomatch z⟩
  ·exact⟨_,e3,fun v z=>nomatch z⟩
  ·exact⟨_,e4,fun v z=>by rw[d4]at z;cases z⟩
  ·exact⟨_,e5,fun v z=>by rw[d5]at z;cases z⟩
 ·obtain⟨e1,e2,⟨p,q,e3⟩,⟨o4,e4,r4⟩,⟨o5,e5,r5⟩⟩:=st;exact⟨k z (by simp) _ e1,k u (by simp) _ e2,⟨p,q,k v (by simp) _ e3⟩,⟨o4,k i1 (by simp) _ e4,r4⟩,⟨o5,k i2 (by simp) _ e5,r5⟩⟩
 ·intro X hP hw hK hc i pins s σ H E I hf st hg;subst hP hw hK;obtain⟨e1,e2,⟨p,q,e3⟩,e4,e5⟩:=st;obtain⟨hi,hx,hy⟩:=hg;obtain⟨its,rx,px,zx⟩:=I.tuple hx;obtain⟨jts,ry,py,zy⟩:=I.tuple hy;have lx:i<its.toArray.size:=by rw[Zi,<-rx.length];exact hi
  have ly:i<jts.toArray.size:=by rw[Zi,<-ry.length,<-hl];exact hi
  have hh:=I.ok.hd hc;have hT:s.TypeIs (.ref z) "zip":=⟨_,e1,rfl⟩
  unfold pyNext;refine Za (wpAny_attempt (Z7 (name:=Str.ofString "__next__") hT YS (Yy YS hT F.entry_zip_next
   (um (fL (A:=X.A.in1) hh i1 a a1.1.symm its.toArray) (fL (A:=X.A.in1) hh i2 b a2.2.symm jts.toArray) ap e1 e2 e3 ⟨e4,px⟩ ⟨e5,py⟩ lx ly fun h' tk x y qx qy zz vv s1 s2 pp kp=>Zh ?_) (F.args_zip_next_1 _))))
  refine⟨_,rfl,wpAny_letOwnedTupleGo_zip (s:={ s with heap:=h',toks:=tk }) zz fun h2 z2' sb=>?_⟩;obtain⟨xv,ex⟩:∃xv,xs[i]?=some xv:=⟨xs[i],by simp[hi]⟩
  obtain⟨yv,ey⟩:∃yv,ys[i]?=some yv:=⟨ys[i]'(by omega),by simp[show i<ys.length by omega]⟩
  obtain⟨x',gx,rxv⟩:=rx.get ex;obtain⟨y',gy,ryv⟩:=ry.get ey;have qx':its[i]?=some x:=by simpa using qx
  have qy':jts[i]?=some y:=by simpa using qy
  rw[gx]at qx';rw[gy]at qy';cases qx';cases qy';have ltz:z<s.heap.objs.size:=Zn e1;have kp2:∀c o,c∉[z,u,v,i1,i2]->s.heap.get? c=some o->h2.get? c=some o:=fun c o hc e=>by simp only[Zl,ZC,Z6,not_or]at hc;exact sb.extBut c o hc.1 (kp c o hc.1 hc.2.2.1 hc.2.2.2.1 hc.2.2.2.2 e)
  have tT:IsTup h2 s.heap.objs.size [x,y].toArray:=⟨_,sb.extBut _ _ (Z9 ltz) pp,rfl,_,rfl⟩
  refine⟨.ref s.heap.objs.size,upd H s.heap.objs.size (.tup [xv,yv]),I.turnT (t':=tk) hf kp2 tT (.cons rxv (.cons ryv .nil)) (sz rfl),rfl,⟨_,xv,yv,I.hok.fresh (Ze _),ex,ey,rfl,rfl⟩,?_,fun c hc=>?_⟩
  ·exact⟨z2',sb.extBut _ _ zu.symm (kp _ _ zu.symm uv u1 u2 e2),⟨_,_,sb.extBut _ _ zv.symm vv⟩,s1.1.extBut sb.extBut z1.symm,s2.1.extBut sb.extBut z2.symm⟩
  ·rw[ah]
   ·exact(hf c hc).1
   ·obtain⟨o,eo,_⟩:∃o,s.heap.get? c=some o/\True:=by
     simp only[Zl,ZC,Z6]at hc;rcases hc with rfl|rfl|rfl|rfl|rfl
     ·exact⟨_,e1,trivial⟩
     ·exact⟨_,e2,trivial⟩
     ·exact⟨_,e3,trivial⟩
     ·obtain⟨o,eo,_⟩:=e4;exact⟨o,eo,trivial⟩
     ·obtain⟨o,eo,_⟩:=e5;exact⟨o,eo,trivial⟩
    exact ZD (Zn eo)
 ·intro X hP hw hK hc i pins s σ H E I hf st hg;subst hP hw hK;obtain⟨e1,e2,⟨p,q,e3⟩,e4,e5⟩:=st;obtain⟨rfl,hx,hy⟩:=hg;obtain⟨its,rx,px,zx⟩:=I.tuple hx;obtain⟨jts,ry,py,zy⟩:=I.tuple hy;have lx:its.toArray.size=xs.length:=by rw[Zi,<-rx.length]
  have hh:=I.ok.hd hc;have hT:s.TypeIs (.ref z) "zip":=⟨_,e1,rfl⟩
  unfold pyNext;refine Za (wpAny_attempt (Z7 (name:=Str.ofString "__next__") hT YS (Yy YS hT F.entry_zip_next
   (vX (fL (A:=X.A.in1) hh i1 a a1.1.symm its.toArray) (fL (A:=X.A.in1) hh i2 b a2.2.symm jts.toArray) ap e1 e2 e3 ⟨by rw[lx];exact e4,px⟩ fun h' e kp he=>?_) (F.args_zip_next_1 _))))
  obtain⟨o,ho,hco⟩:=he;refine Za (wpAny_isInstance (T:="StopIteration") (b:=true) ⟨o,ho,hco⟩ isSubtype_stop (Zh ⟨rfl,?_⟩));exact I.turnM (t':=s.toks) hf fun c ob hc e=>by simp only[Zl,ZC,Z6,not_or]at hc;exact kp c ob hc.1 hc.2.2.1 hc.2.2.2.1 hc.2.2.2.2 e
theorem wY(l1 l2:Addr)(xs ys:Array Value) :
  Meets (Builtin.«zip.__new__» ⟨[.type "zip",.ref l1,.ref l2],[]⟩) (fun _ R s=>s.heap.IsTuple l1 xs/\s.heap.IsTuple l2 ys /\
   R (.ok (.ret (.ref ((((s.heap.push { cls:=.type "tuple_iterator",data:=.fields #[.ref l1,.int 0 0] }).push { cls:=.type "tuple_iterator",data:=.fields #[.ref l2,.int 0 0] }).push { cls:=.type "tuple",data:=.seq #[.ref s.heap.objs.size,.ref (s.heap.push { cls:=.type "tuple_iterator",data:=.fields #[.ref l1,.int 0 0] }).objs.size] }).push { cls:=.type "tuple",data:=.seq #[.none,.none] }).objs.size)))
    { s with heap:=((((s.heap.push { cls:=.type "tuple_iterator",data:=.fields #[.ref l1,.int 0 0] }).push { cls:=.type "tuple_iterator",data:=.fields #[.ref l2,.int 0 0] }).push { cls:=.type "tuple",data:=.seq #[.ref s.heap.objs.size,.ref (s.heap.push { cls:=.type "tuple_iterator",data:=.fields #[.ref l1,.int 0 0] }).objs.size] }).push { cls:=.type "tuple",data:=.seq #[.none,.none] }).push { cls:=.type "zip",data:=.fields #[.none,.bool false,.bool false,.ref ((s.heap.push { cls:=.type "tuple_iterator",data:=.fields #[.ref l1,.int 0 0] }).push { cls:=.type "tuple_iterator",data:=.fields #[.ref l2,.int 0 0] }).objs.size,.ref (((s.heap.push { cls:=.type "tuple_iterator",data:=.fields #[.ref l1,.int 0 0] }).push { cls:=.type "tuple_iterator",data:=.fields #[.ref l2,.int 0 0] }).push { cls:=.type "tuple",data:=.seq #[.ref s.heap.objs.size,.ref (s.heap.push { cls:=.type "tuple_iterator",data:=.fields #[.ref l1,.int 0 0] }).objs.size] }).objs.size] } }) :=
 .of_wp fun prog w A R s h=>by
  obtain⟨hp,g,d,tk,os⟩:=s;obtain⟨t1,t2,h⟩:=h;have hsub:=sub_zip;have T1:Heap.IsTuple (Shared.heap ⟨hp,g,d,tk,os⟩) l1 xs:=t1;have T2:Heap.IsTuple (Shared.heap ⟨hp.push { cls:=.type "tuple_iterator",data:=.fields #[.ref l1,.int 0 0] },g,d,tk,os⟩) l2 ys:=Heap.IsTuple.push t2 _
  wp_walk using wpAny_pyIter_tuple T1,wpAny_pyIter_tuple T2
  exact⟨_,rfl,h⟩
theorem yB(n:Nat):[n+4,n+2,n+3,n,n+1].Nodup:=by simp
def EK(K:PySem.W.Frag)(ta:TA):TI:=fun σ H R=>ta σ H fun vs H1=>∃a b xs ys,vs=[.ref a,.ref b]/\SqT K H1 a xs/\SqT K H1 b ys/\xs.length=ys.length/\R (Itz K a b xs ys) H1
section
variable{X:Cx}
theorem FG{e1 e2:Expr}{ta:TA}{p pos tp:Pos}{elts:List Expr}{kt:Nat}(hg:Gl X "zip")(hm:X.mg "zip" = none)(ha:PA X [e1,e2] ta)(n1:aP e1=true)(n2:aP e2=true):PI X (.Tuple elts kt tp) (.Call (.Name "zip" p) [e1,e2] [] pos) (EK X.K ta):=by
 intro pins s σ H R I h;refine Call_ (hU I hg hm boot_zip (YF (thn (ha pos pins s σ H _ I h) fun us s1 hz9=>?_) (aY n1) (br (by simp[n2]))));obtain⟨vs,H1,I1,r1,q1⟩:=hz9;obtain⟨a,b,xs,ys,e,hx,hy,hl,q⟩:=q1;subst e;obtain⟨ua,ub,rfl,ra,rb⟩:=xJ r1;cases ra;cases rb;obtain⟨its,rx,px,zx⟩:=I1.tuple hx;obtain⟨jts,ry,py,zy⟩:=I1.tuple hy;refine callType_new F.called_zip (by decide) (F.typeCall_zip_2 _ _) (F.newCall_zip_2 _ _) (fun obj=>F.args_object_init_3 obj _ _) F.entry_zip_new (wY a b its.toArray jts.toArray) ⟨px,py,?_⟩;generalize ea:({ cls:=.type "tuple_iterator",data:=.fields #[.ref a,.int 0 0] }:Obj)=oa;generalize eb:({ cls:=.type "tuple_iterator",data:=.fields #[.ref b,.int 0 0] }:Obj)=ob;have z1:(s1.heap.push oa).objs.size=s1.heap.objs.size+1:=Yq ..;have z2:((s1.heap.push oa).push ob).objs.size=s1.heap.objs.size+2:=by rw[Yq,z1]
 rw[z2,z1];generalize eu:({ cls:=.type "tuple",data:=.seq #[.ref s1.heap.objs.size,.ref (s1.heap.objs.size+1)] }:Obj)=ou;have z3:(((s1.heap.push oa).push ob).push ou).objs.size=s1.heap.objs.size+3:=by rw[Yq,z2]
 generalize ev:({ cls:=.type "tuple",data:=.seq #[.none,.none] }:Obj)=ov;have z4:((((s1.heap.push oa).push ob).push ou).push ov).objs.size=s1.heap.objs.size+4:=by rw[Yq,z3]
 rw[z4,z3];generalize ez:({ cls:=.type "zip",data:=.fields #[.none,.bool false,.bool false,.ref (s1.heap.objs.size+2),.ref (s1.heap.objs.size+3)] }:Obj)=oz;have g5:(((((s1.heap.push oa).push ob).push ou).push ov).push oz).get? (s1.heap.objs.size+4)=some oz:=by rw[<-z4];exact Zo _ (by rw[<-ez];rfl)
 have g4:(((((s1.heap.push oa).push ob).push ou).push ov).push oz).get? (s1.heap.objs.size+3)=some ov:=by rw[<-z3];exact Zb _ (Zo _ (by rw[<-ev];rfl))
 have g3:(((((s1.heap.push oa).push ob).push ou).push ov).push oz).get? (s1.heap.objs.size+2)=some ou:=by rw[<-z2];exact Zb _ (Zb _ (Zo _ (by rw[<-eu];rfl)))
 have g2:(((((s1.heap.push oa).push ob).push ou).push ov).push oz).get? (s1.heap.objs.size+1)=some ob:=by rw[<-z1];exact Zb _ (Zb _ (Zb _ (Zo _ (by rw[<-eb];rfl))))
 have g1:(((((s1.heap.push oa).push ob).push ou).push ov).push oz).get? s1.heap.objs.size=some oa:=Zb _ (Zb _ (Zb _ (Zb _ (Zo _ (by rw[<-ea];rfl)))));have kp:∀c o,s1.heap.get? c=some o->(((((s1.heap.push oa).push ob).push ou).push ov).push oz).get? c=some o:=fun c o e=>Zb _ (Zb _ (Zb _ (Zb _ (Zb _ e))));generalize((((s1.heap.push oa).push ob).push ou).push ov).push oz=hN at g1 g2 g3 g4 g5 kp ⊢;have I2:Inv X pins σ H1 { s1 with heap:=hN }:=I1.kept (t':=s1.toks) kp;have la:a<s1.heap.objs.size:=px.lt;have lb:b<s1.heap.objs.size:=py.lt;subst ea eb eu ev ez;have base:∀c∈[s1.heap.objs.size+4,s1.heap.objs.size+2,s1.heap.objs.size+3,s1.heap.objs.size,s1.heap.objs.size+1],s1.heap.objs.size<=c:=fun c hc=>by simp only[Zl,ZC,Z6]at hc;omega
 refine⟨⟨_,g5,rfl⟩,?_⟩;show wpAny (model X.prog X.w) X.A (pyIter (.ref (s1.heap.objs.size+4))) (PIE X pins σ (.Tuple elts kt tp) R) X.xe { s1 with heap:=hN };refine wpAny_pyIter_zip g5 ?_;refine⟨s1.heap.objs.size+4,[s1.heap.objs.size+4,s1.heap.objs.size+2,s1.heap.objs.size+3,s1.heap.objs.size,s1.heap.objs.size+1],zTn (s1.heap.objs.size+4) (s1.heap.objs.size+2) (s1.heap.objs.size+3) s1.heap.objs.size (s1.heap.objs.size+1) a b,_,H1,rfl,I2,
  BL hl ?_ (fun c hc=>⟨Z9 (ZB la (base c hc)),Z9 (ZB lb (base c hc))⟩),⟨g5,g3,⟨_,_,g4⟩,⟨_,g1,rfl,rfl⟩,⟨_,g2,rfl,rfl⟩⟩,fun c hc=>?_,q⟩
 ·exact yB s1.heap.objs.size
 ·exact I1.fpOk (base c hc) (I1.hok.fresh (base c hc))
theorem B9{e1 e2:Expr}{ta:TA}{p pos tp:Pos}{elts:List Expr}{kt:Nat}(hm:X.mg "zip" = none)(ha:QA X [e1,e2] ta)(hg:Gl X "zip":=by rfl)(n1:aP e1=true:=by rfl)(n2:aP e2=true:=by rfl):QI X (.Tuple elts kt tp) (.Call (.Name "zip" p) [e1,e2] [] pos) (EK X.K ta):=⟨FG hg hm ha.h n1 n2⟩
end
open PySem PySem.Spec PyProof.Rows
def Ci:R2:=fun x y H Q=>∃a b xs ys,x=.ref a/\y=.ref b/\H a=some (.tup xs)/\H b=some (.tup ys)/\xs.length+ys.length<=sizeLine/\∀p H',Same H H'->H' p=some (.tup (xs++ys))->Q (.ref p) H'
section
variable{X:Cx}
theorem Dg:OpR X (binaryOp .Add) Ci:=by
 intro pins s σ H x y v u Q I rx ry h;obtain⟨a,b,xs,ys,rfl,rfl,ha,hb,hz,q⟩:=h;by_cases hx:xs=[]
 ·cases rx;cases ry;obtain⟨its,r1,p1,_⟩:=I.tuple (SqT.of (K:=X.K) ha);obtain⟨its2,r2,p2,_⟩:=I.tuple (SqT.of (K:=X.K) hb);obtain⟨⟨cls,dd,data,sl⟩,ho,hc,n,hd⟩:=id p1;obtain⟨⟨cls2,dd2,data2,sl2⟩,ho2,hc2,n2,hd2⟩:=id p2;simp only at hc hd hc2 hd2;subst hc hd hc2 hd2;have e:its=[]:=r1.nil_iff.mpr hx;subst e;refine PySem.concat_meets ⟨_,ho,rfl⟩ ⟨_,ho2,rfl⟩ noFill_tuple_add seq_tuple_add PySem.F.slot_tuple_add PySem.F.entry_tuple_add (PySem.F.args_tuple_add_2 _ _)
   (tuple_addW0 a b _ its2.toArray n n2 dd dd2 sl sl2 (by simp)) ⟨ho,ho2,⟨.ref b,H,I,rfl,q b H (Same.refl H) ?_⟩⟩
  rw[hx];exact hb
 ·exact Dh pins s σ H _ _ v u Q I rx ry ⟨a,b,xs,ys,rfl,rfl,SqT.of ha,SqT.of hb,hx,hz,fun e=>q a H (Same.refl H) (by rw[e,ZL];exact ha),fun _ p hp=>q p _ (ad hp _) ae⟩
theorem fS:QOp X (binaryOp .Add) Ci:=⟨Dg⟩
theorem mL:fillsNumberSlot (.type "tuple") "mul" = pure false :=
 PySem.fillsNumberSlot_seq (id:="tuple.__mul__") (r:=some (.builtin "tuple.__rmul__")) F.slot_tuple_mul.lookup (by decide +kernel) F.slot_tuple_rmul.lookup (by decide +kernel)
theorem tL:seqRepeat? (.type "tuple")=pure (some (.builtin "tuple.__mul__")):=by unfold seqRepeat?;rw[PySem.seqSlot_of (T:="tuple") (name:="__mul__") (id:="tuple.__mul__") F.slot_tuple_mul.lookup (by decide +kernel),PySem.seqSlot_of (T:="tuple") (name:="__rmul__") (id:="tuple.__rmul__") F.slot_tuple_rmul.lookup (by decide +kernel)];rfl
theorem oX(a:Int)(t:Tok)(l:Addr)(items:Array Value)(n:Nat)(dd:Option Addr)(sl:Array (Option Value)) :
  Meets (Builtin.«int.__rmul__» ⟨[.int a t,.ref l],[]⟩) (fun _ R s=>s.heap.get? l=some { cls:=.type "tuple",dict:=dd,data:=.seq items n,slots:=sl }/\R (.ok (.ret Value.notImplemented)) s) :=
 .of_wp fun prog w A R s h=>by obtain⟨hp,g,d,tk,os⟩:=s;obtain⟨hl,h⟩:=h;wp_walk using YT hl;exact⟨_,rfl,h⟩
theorem rq(l:Addr)(items:Array Value)(n:Nat)(dd:Option Addr)(sl:Array (Option Value))(u:Tok) :
  Meets (Builtin.«tuple.__mul__» ⟨[.ref l,.int 1 u],[]⟩) (fun _ R s=>s.heap.get? l=some { cls:=.type "tuple",dict:=dd,data:=.seq items n,slots:=sl }/\R (.ok (.ret (.ref l))) s) :=
 .of_wp fun prog w A R s h=>by obtain⟨hp,g,d,tk,os⟩:=s;obtain⟨hl,h⟩:=h;have f1:=AutoSeq1.idx_int;wp_walk using YT hl;exact⟨_,rfl,h⟩
theorem qg(l:Addr)(items:Array Value)(n:Nat)(dd:Option Addr)(sl:Array (Option Value))(k:Int)(u:Tok)(c1:¬(k < -(2^63) ||k>=2^63)=true)(c2:¬(items.isEmpty ||k==1)=true)(c3:¬(decide (k<=0) ||items.isEmpty)=true)(c4:¬items.size*k>(2^63-1) / 8)(c5:¬Builtin.Tuple.tupleTooMany (items.size*k)=true)(c6:(List.foldl (fun x1 x2=>x1++x2) #[] (List.replicate k.toNat items)).size<=sizeLine) :
  Meets (Builtin.«tuple.__mul__» ⟨[.ref l,.int k u],[]⟩) (fun _ R s=>s.heap.get? l=some { cls:=.type "tuple",dict:=dd,data:=.seq items n,slots:=sl } /\
   R (.ok (.ret (.ref s.heap.objs.size))) { s with heap:=s.heap.push { cls:=.type "tuple",data:=.seq (List.foldl (fun x1 x2=>x1++x2) #[] (List.replicate k.toNat items)) } }) :=
 .of_wp fun prog w A R s h=>by obtain⟨hp,g,d,tk,os⟩:=s;obtain⟨hl,h⟩:=h;have f1:=AutoSeq1.idx_int;wp_walk using YT hl;rw[if_neg c1];wp_walk using YT hl;rw[if_neg c4];wp_walk using YT hl;exact⟨_,rfl,h⟩
def Cj:R2:=fun x y H Q=>∃a k xs,x=.ref a/\y=.int k/\H a=some (.tup xs)/\1<=k/\k<=1000/\xs≠[]/\xs.length*k.toNat<=sizeLine/\∀p H',Same H H'->H' p=some (.tup (List.replicate k.toNat xs).flatten)->Q (.ref p) H'
theorem Dk:OpR X (binaryOp .Mult) Cj:=by
 intro pins s σ H x y v u Q I rx ry h;obtain⟨a,k,xs,rfl,rfl,ha,k1,k2,hx,hz,q⟩:=h;cases rx;obtain⟨t,rfl⟩:=ry;obtain⟨its,r1,p1,_⟩:=I.tuple (SqT.of (K:=X.K) ha);obtain⟨⟨cls,dd,data,sl⟩,ho,hc,n,hd⟩:=id p1;simp only at hc hd;subst hc hd;have hne:its≠[]:=fun z=>hx (r1.nil_iff.mp z);refine wpAny_binaryOp_repeat_ref (T:="tuple") (U:="int") (by decide) ⟨_,ho,rfl⟩ (fun s'=>typeIs_int s' k t) mL F.fills_int_mul F.slot_int_rmul tL F.slot_int_index.lookup
  (call_meets F.slot_int_rmul (typeIs_int s k t) F.entry_int_rmul (F.args_int_rmul_2 _ _) (oX k t a its.toArray n dd sl) ⟨ho,rfl,⟨_,ho,rfl⟩,?_⟩)
 by_cases hk:k=1
 ·subst hk;refine call_meets F.slot_tuple_mul ⟨_,ho,rfl⟩ F.entry_tuple_mul (F.args_tuple_mul_2 _ _) (rq a its.toArray n dd sl t) ⟨ho,⟨.ref a,H,I,rfl,q a H (Same.refl H) ?_⟩⟩;have e:(List.replicate (1:Int).toNat xs).flatten=xs:=by simp
  rw[e];exact ha
 ·have hl:its.length=xs.length:=r1.length.symm;have hnew:List.foldl (fun x1 x2=>x1++x2) #[] (List.replicate k.toNat its.toArray)=(List.replicate k.toNat its).flatten.toArray:=by have:=kh its k.toNat [];rw[YH]at this;exact this
  have hlen:(List.replicate k.toNat its).flatten.length<=sizeLine:=by rw[oY,hl,Nat.mul_comm];exact hz
  have hzk:((its.toArray.size:Int)*k)<=(sizeLine:Int):=by
   have e:((its.toArray.size:Int)*k)=((xs.length*k.toNat:Nat):Int):=by rw[Zi,hl,Int.natCast_mul];congr 1;omega
   rw[e];exact Int.ofNat_le.mpr hz
  have hcap:(sizeLine:Int)<=(2^63-1) / 8:=by decide
  have hemp:its.toArray.isEmpty=false:=by
   cases its with
   |nil=>exact absurd rfl hne
   |cons _ _=>rfl
  refine call_meets F.slot_tuple_mul ⟨_,ho,rfl⟩ F.entry_tuple_mul (F.args_tuple_mul_2 _ _) (qg a its.toArray n dd sl k t ?_ ?_ ?_ (by omega) ?_ (by rw[hnew,Zi];exact hlen)) ⟨ho,?_⟩
  ·simp only[Bool.or_eq_true,decide_eq_true_eq,not_or];omega
  ·simp[hemp,hk]
  ·have h1:¬k<=0:=by omega
   simp[hemp,h1]
  ·unfold Builtin.Tuple.tupleTooMany;simp only[decide_eq_true_eq];omega
  ·rw[hnew];refine⟨.ref s.heap.objs.size,_,I.laid (t':=s.toks) (o:=.tup (List.replicate k.toNat xs).flatten) (fun b ob q=>Zb _ q) (Ze _) ?_,rfl,q _ _ (ad (I.hok.fresh (Ze _)) _) ae⟩;exact⟨by rw[oY,Nat.mul_comm];exact hz,_,r1.rep k.toNat,IsTup.new _ _⟩
theorem AE{ns:List Int}{i:Nat}{x:V}(h:(ns.map V.int)[i]?=some x):x=.int (aq ns i)/\i<ns.length:=by
 rw[ZA]at h;unfold aq;cases e:ns[i]? with
 |none=>rw[e]at h;cases h
 |some z =>rw[e]at h;cases h;exact⟨rfl,(Zx.mp e).1⟩
theorem zj{n d:Nat}{h:Int}(h0:0<=h):HT.sIx n d (some h)=min h.toNat n:=by have e:=HT.sIx_nat n d h.toNat;rw[show((h.toNat:Nat):Int)=h by omega]at e;exact e
variable{K:PySem.W.Frag}(hK:X.K=K)
include hK
theorem lT:QIx X (Bq K):=by subst hK;exact dj
theorem oB:QIx X (pK K):=by subst hK;exact ai
theorem ki{es:List Expr}{k n:Nat}{gs:TGs}{pos:Pos}(hc:X.calm=true)(h:QGs X es gs)(hn:(assignEach es X.env).length=n:=by rfl)(hst:(assignEach es X.env).findIdx? (·.1)=none:=by rfl):QG X (.Tuple es k pos) (mI K n gs):=by subst hK;exact kW hc h hn hst
omit hK
theorem E9:QOp X (binaryOp .Mult) Cj:=⟨Dk⟩
end
open PySem PySem.Spec PyProof.Rows PySem.W
section
variable{X:Cx}
theorem DQ{st:Stmt}:QS X st (fun _ _ _=>False):=⟨fun _ _ _ _ _ _ h=>h.elim⟩
variable{o e d:Expr}{to te td:TE}{apos cpos:Pos}
theorem ka{prog:Program}{w:World}{A:Around}{E:Value->Shared->Prop}{s:Shared}{t sl:Addr}{items:Array Value}{vl vu:Value}{lo hi:Option Int}{Q:Value->Shared->Prop}(ht:IsTup s.heap t items)(hs:s.heap.IsSliceOf sl vl vu .none)(pl:IsPart vl lo)(pu:IsPart vu hi)(hw:HT.sIx items.size 0 lo=0/\HT.sIx items.size items.size hi=items.size)(h:Q (.ref t) s):wpAny (model prog w) A (getItem (.ref t) (.ref sl)) Q E s:=by
 obtain⟨os,hos,hcs,hds⟩:=id hs;have hTs:s.TypeIs (.ref sl) "slice":=⟨os,hos,hcs⟩
 unfold getItem
 try with_reducible refine Z3 ?_
 first|refine Za (Zh ?_)|skip
 refine Za (wpAny_sequenceKey ht.typeIs (by decide) ?_);refine Za (Z7 (name:=Str.ofString "__getitem__") ht.typeIs Yh
  (Yy Yh ht.typeIs entry_tuple_getitem ?_ (args_tuple_getitem _ _)))
 show wpAny _ _ (Builtin.Tuple.tupleItemsOf (.ref t) >>= _) _ _ s;refine Za (tupleItemsOf_ ht ?_);refine Za (wpAny_typeOf hTs ?_);rw[if_pos (by decide)];refine Za (HT.sliceApplied_gen hs pl pu ?_);show wpAny _ _ (if(((HT.sIx items.size 0 lo:Nat):Int)==0&&(1:Int)==1&&(HT.sIx items.size items.size hi-HT.sIx items.size 0 lo)==items.size)=true then _ else _) _ _ s;rw[if_pos (by rw[hw.1,hw.2];simp)];refine Za (m:=Builtin.Tuple.tupleIsExact _) ?_;unfold Builtin.Tuple.tupleIsExact;refine Za (wpAny_typeOf ht.typeIs (Zh ?_));rw[if_pos (by decide)];exact Za (YC (Zh ⟨_,rfl,Zh h⟩))
def Ig:V->Option Int->Option Int->Hp->VK->Prop:=fun x lo hi H Q=>∃a xs,x=.ref a/\H a=some (.tup xs)/\∀p H',Same H H'->H' p=some (.tup (bY xs lo hi))->Q (.ref p) H'
theorem dR:QSl X Ig:=by
 refine⟨?_⟩;intro pins s σ H x v vl vu lo hi sl Q I rx hs pl pu h;obtain⟨a,xs,rfl,hx,q⟩:=h;by_cases hw:HT.sIx xs.length 0 lo=0/\HT.sIx xs.length xs.length hi=xs.length
 ·cases rx;obtain⟨its,r,ht,hz⟩:=I.tuple (SqT.of (K:=X.K) hx);have hlen:its.toArray.size=xs.length:=by rw[Zi];exact r.length.symm
  refine⟨"tuple",_,Yh.lookup,ht.typeIs,ka ht hs pl pu (by rw[hlen];exact hw) ⟨.ref a,H,I,rfl,q a H (Same.refl H) ?_⟩⟩;unfold bY;rw[hw.1,hw.2,List.drop_zero,Nat.sub_zero,ZN];exact hx
 ·exact Gi pins s σ H _ v vl vu lo hi sl Q I rx hs pl pu ⟨a,xs,rfl,SqT.of hx,hw,fun p hp=>q p _ (ad hp _) ae⟩
end
section
variable{prog:Program}{w:World}{A:Around}{s:Shared}{fin:Bool}{Q:Bool->Shared->Prop}
theorem uy(ns:List Int):∀(ms:List Int) (vs ws:List Value) (i:Nat),IntsAre vs ns->IntsAre ws ms->fin=decide (ns.length<ms.length)->Q (HT.lexLt ns ms) s->KatLex prog w A true fin Q (vs.zip ws) i s:=by
 induction ns with
 |nil =>
  intro ms vs ws i a b hf q;subst hf;cases a;cases b with
  |nil=>exact kat_nil q
  |cons _ _ _=>exact kat_nil (by rw[decide_eq_true (by simp)];exact q)
 |cons x ns ih =>
  intro ms vs ws i a b hf q;cases a with
  |cons _ t h1 =>
  cases b with
  |nil =>subst hf;exact kat_nil q
  |cons y u h2 =>
  obtain⟨e,he,iff⟩:=HT.eqAt_int A s x t y u;rw[HT.lexLt_cons]at q;refine kat_cons (he _ _ _ _ (kat_go (fun et=>?_) (fun ef=>?_)))
  ·rw[if_pos (iff.mp et)]at q;exact kat_yes (ih _ _ _ (i+1) h1 h2 (by rw[hf];simp) q)
  ·have hne:x≠y:=fun z=>by rw[iff.mpr z]at ef;cases ef
   rw[if_neg hne]at q;refine kat_no ?_;cases i with
   |zero=>exact oneLt_int q
   |succ i=>exact kat_one _ _ (PyProof.Rows.lt_int q)
end
section
variable{X:Cx}{pins:List (Addr×Obj)}{σ:St}{H:Hp}{s:Shared}{h':Heap}
theorem ic{P:Program}{w:World}{H:Hp}{h:Heap}{a:Addr}{o:HO}(x:ObjOk P w H h a o):∃ob,h.get? a=some ob:=by
 cases o with
 |lst xs =>obtain⟨_,_,_,_,e⟩:=x;exact⟨_,e⟩
 |tup xs =>obtain⟨_,_,_,ob,e,_⟩:=x;exact⟨ob,e⟩
 |dK kvs =>obtain⟨_,_,_,_,ob,_,_,e,_⟩:=x;exact⟨ob,e⟩
 |dT kvs =>obtain⟨_,_,_,_,ob,_,_,e,_⟩:=x;exact⟨ob,e⟩
 |set S n =>obtain⟨ob,_,_,_,e,_⟩:=x;exact⟨ob,e⟩
 |ins C dx fs =>obtain⟨_,_,_,e,_⟩:=x;exact⟨_,e⟩
 |own y=>exact x
 |xd fs =>obtain⟨_,⟨ob,_,_,e,_⟩,_⟩:=x;exact⟨ob,e⟩
 |rng lo hi =>obtain⟨_,_,_,e⟩:=x;exact⟨_,e⟩
 |frz ob u=>exact⟨ob,x.1⟩
 |tbl ps=>exact⟨_,x⟩
 |met f y=>exact⟨_,x⟩
 |ext φ=>exact x.2.1
theorem none_of(I:Inv X pins σ H s){a:Addr}(hg:s.heap.get? a=none):H a=none:=by
 cases q:H a with
 |none=>rfl
 |some u =>obtain⟨ob,e⟩:=ic (I.hok a u q);rw[hg]at e;cases e
def tM(base h:Heap)(L:Addr):List (Addr×Obj):=(List.range h.objs.size).filterMap fun b=>if b=L\/(base.get? b).isSome=true then none else(h.get? b).map fun o=>(b,o)
theorem mm(base h:Heap)(L:Addr):News base L h (tM base h L):=fun p hp=>by
 obtain⟨b,_,e⟩:=YN.mp hp;by_cases c:b=L\/(base.get? b).isSome=true
 ·rw[if_pos c]at e;cases e
 ·rw[if_neg c]at e;cases q:h.get? b with
  |none=>rw[q]at e;cases e
  |some o =>
   rw[q]at e;cases e;refine⟨q,fun z=>c (.inl z),?_⟩;cases z:base.get? b with
   |none=>rfl
   |some u=>exact absurd (.inr (by rw[z];rfl)) c
theorem gL{base h:Heap}{L b:Addr}{o:Obj}(e:h.get? b=some o)(hL:b≠L)(hb:base.get? b=none):(b,o)∈tM base h L:=by refine YN.mpr ⟨b,Y1.mpr (Zn e),?_⟩;rw[if_neg (by rintro(z|z);exact hL z;rw[hb]at z;cases z),e];rfl
end
theorem fP(ns:List Int):SeqAt.shaped (.tuple (ns.map .int))=true:=by
 unfold SeqAt.shaped;rw[ZK];refine⟨?_,?_⟩
 ·simp only[PyData.canLay0];exact PyProof.Rows.canLayAll_ints ns
 ·refine decide_eq_true ?_;simp only[PyData.depth];rw[PyProof.Rows.depthAll_ints ns];decide
theorem md:∀(ns ms:List Int),PyData.eqvAll (ns.map .int) (ms.map .int)=decide (ns=ms)
 | [],[]=>by simp[PyData.eqvAll]
 | [],_::_=>by simp[PyData.eqvAll]
 |_::_,[]=>by simp[PyData.eqvAll]
 |x::ns,y::ms=>by simp only[Zw,PyData.eqvAll,PyData.eqv];rw[md ns ms,Bool.eq_iff_iff];simp
theorem jw(ns ms:List Int):PyData.eqv (.tuple (ns.map .int)) (.tuple (ms.map .int))=decide (ns=ms):=by simp only[PyData.eqv];exact md ns ms
theorem kf{H:Hp}{a:Addr}{ns:List Int}(h:H a=some (.tup (ns.map V.int))):Dt H (.tuple (ns.map .int)) (.ref a):=by simp only[Dt];exact⟨a,_,rfl,Rd.of h,uY ns⟩
section
variable{X:Cx}
theorem E5(hu:X.A.units+64<cLine):QOp X (compareOp .Eq) (fun x y H Q=>∃(a b:Addr) (ns ms:List Int),x=.ref a/\y=.ref b/\H a=some (.tup (ns.map V.int))/\H b=some (.tup (ms.map V.int))/\Q (.bl (decide (ns=ms))) H):=by refine⟨?_⟩;intro pins s σ H x y v u Q I rx ry h;obtain⟨a,b,ns,ms,rfl,rfl,ha,hb,q⟩:=h;exact yK hu pins s σ H _ _ v u Q I rx ry ⟨_,_,kf ha,kf hb,fP ns,fP ms,by rw[jw];exact q⟩
theorem ja(hu:X.A.units+64<cLine):QOp X (compareOp .NotEq) (fun x y H Q=>∃(a b:Addr) (ns ms:List Int),x=.ref a/\y=.ref b/\H a=some (.tup (ns.map V.int))/\H b=some (.tup (ms.map V.int))/\Q (.bl (!decide (ns=ms))) H):=by refine⟨?_⟩;intro pins s σ H x y v u Q I rx ry h;obtain⟨a,b,ns,ms,rfl,rfl,ha,hb,q⟩:=h;exact yM hu pins s σ H _ _ v u Q I rx ry ⟨_,_,kf ha,kf hb,fP ns,fP ms,by rw[jw];exact q⟩
end
theorem kX{x:V}{A B:Prop}(h:x≠.non)(hA:A):if(!decide (x=.non))=true then A else B:=by rw[decide_eq_false h];exact aR hA
theorem Hf{c A B:Prop}[Decidable c](h:c)(hA:A):if decide c=true then A else B:=by rw[decide_eq_true h];exact aR hA
theorem gh{c A B:Prop}[Decidable c](h1:c->A)(h2:¬c->B):if decide c=true then A else B:=by
 by_cases h:c
 ·exact Hf h (h1 h)
 ·rw[decide_eq_false h];exact aJ (h2 h)
open PySem PySem.Spec PyProof.Rows
structure CompOk1(X:Cx)(scope:Scope)(cx:Str)(cap:List Nat)(capN:List Str):Prop where
 kind:scope.kind=.function
 names:∀x∈scope.names,x.2=.local->scope.names.lookup x.1=some .local
 onecell:∀y∈scope.names,y.2=.cell->y.1=cx
 own:scope.names.lookup cx=some .cell
 cf:∀(n:Nat) (acc:List (Str×Addr)),cellsFrom n scope.names acc=(cx,n)::acc
 pc:∀h:Heap,pushCells h scope.names=h.push { cls:=.type "cell",data:=.cell none }
 frees:(scope.names.all fun y=>!(y.2==NameKind.free) ||(X.env.kindOf y.1==some .cell ||X.env.kindOf y.1==some .free))=true
 cap:CapOk X scope cap capN
theorem nE:∀{vs:List Value} {ns:List Int},IntsAre vs ns->∃xs:List (Int×Tok),vs=xs.map (fun p=>.int p.1 p.2)/\ns=xs.map (·.1)
 |_,_,.nil=>⟨[],rfl,rfl⟩
 |_,_,.cons n t h=>by obtain⟨xs,e1,e2⟩:=nE h;exact⟨(n,t)::xs,by rw[e1];rfl,by rw[e2];rfl⟩
open PySem PySem.Spec PyProof.Rows PySem.W
def dE(h:Heap)(e:Addr)(dc:Option Addr):Prop:=∃o,h.get? e=some o/\o.dict=dc
theorem oR(f:Array Value->Array Value)(o:Obj):(Obj.mapFields f o).dict=o.dict:=by unfold Obj.mapFields;split<;>rfl
section
variable{M:Model}{A:Around}{E:Value->Shared->Prop}{s:Shared}{base:Heap}{env:Env}{outer l:List Env}{L e:Addr}
theorem mi{oe:Obj}{vs:Array Value}{hd0 a0:Value}{nx:Bool}{Q:Unit->Shared->Prop}(fr:A.frames=some (env::outer))(ff:s.heap.FunFrames base (env::outer))(ef:env.frame=some L)(he:s.heap.get? e=some oe)(kb:base.StaysIn s.heap)(en:base.get? e=none)(dt:oe.data=.fields vs)(sz:1<vs.size)(v0:vs[0]?=some a0)(k:∀h',Heap.NotedW base (env::outer) e oe.cls a0 (rawInt L) s.heap h'->dE h' e oe.dict->Q () { s with heap:=h' }) :
  wpAny M A (do let a ←frameOf env;let pl ←entryPlaceOf L nx;let b ←EntryCells.newEntry hd0 a .none (rawInt L) .none pl;setField (.ref e) 1 b) Q E s:=by
 have nf:e∉(env::outer).filterMap (·.frame):=fun hm=>by obtain⟨_,o,ho,hn⟩:=ff.mem hm;cases Zu (he.symm.trans ho);exact hn vs dt
 refine Za (wpAny_frameOf_fun fr ff ef fun h1 k1=>Za (wpAny_entryPlaceOf fun pl hpl=>?_));unfold EntryCells.newEntry newFields;refine Za (Yg ?_ (hpl.sizeOk5 _ _ _ _ _));have t3:([hd0,.ref L,.none,rawInt L,.none]++(if pl.isEmpty then List.replicate 6 Value.none else pl)).toArray[3]?=some (rawInt L):=by simp
 generalize([hd0,.ref L,.none,rawInt L,.none]++(if pl.isEmpty then List.replicate 6 Value.none else pl)).toArray=ts at t3 ⊢;have g1:h1.get? e=some oe:=(k1.2.1 e nf).trans he;have st1:base.StaysIn h1:=fun b o hb=>(k1.2.1 b fun hm=>nomatch(hb.symm.trans (ff.mem hm).1)).trans (kb b o hb);have gp:(h1.push { cls:=.type "traceback",data:=.fields ts }).get? e=some oe:=Zb _ g1;have ne:h1.objs.size≠e:=Z9 (Zn g1);have dm:=YO dt (·.setIfInBounds 1 (Value.ref h1.objs.size));have self:=Yx (Obj.mapFields (·.setIfInBounds 1 (Value.ref h1.objs.size))) gp (Obj.isFreed_of_fields dm);have atT:=(y8 (h1.push { cls:=.type "traceback",data:=.fields ts }) (Obj.mapFields (·.setIfInBounds 1 (Value.ref h1.objs.size))) (y9 ne)).trans (Zo h1 rfl);have oth:∀b o,b≠e->h1.get? b=some o->((h1.push { cls:=.type "traceback",data:=.fields ts }).update e (Obj.mapFields (·.setIfInBounds 1 (Value.ref h1.objs.size)))).get? b=some o:=fun b o n q=>(y8 _ _ (y9 n)).trans (Zb _ q);have nrec:∀b o,s.heap.get? b=some o->(∀ws,o.data≠.fields ws)->b≠e:=fun b o q hn z=>by subst z;cases Zu (he.symm.trans q);exact hn vs dt
 refine wpAny_setField gp dt sz (k _ ⟨fun b o q=>oth b o (fun z=>nomatch((z▸q).symm.trans en)) (st1 b o q),ff.of_keeps fun b o q hn=>?_,?_,fun b o q hn=>?_⟩ ⟨_,self,oR _ _⟩)
 ·obtain⟨sl,hs⟩:=k1.2.2 b o q;exact⟨_,oth b _ (nrec b o q hn) hs,rfl⟩
 ·exact⟨_,_,h1.objs.size,_,ts,self,⟨Obj.cls_mapFields _ _,by rw[Array.getElem?_setIfInBounds_ne (by decide)];exact v0⟩,dm,by simp[sz],st1.fresh,ne,atT,rfl,t3⟩
 ·obtain⟨sl,hs⟩:=k1.2.2 b o q;exact⟨sl,oth b _ (nrec b o q hn) hs⟩
theorem jC{cls a0 fl:Value}{dc:Option Addr}{Q:Unit->Shared->Prop}(kb:base.StaysIn s.heap)(ff:s.heap.FunFrames base l)(tr:s.heap.TracedAtW base e cls a0 fl)(dd:dE s.heap e dc)(k:∀h',base.StaysIn h'->h'.FunFrames base l->h'.TracedW base e cls a0->s.heap.UpToSlots h'->dE h' e dc->Q () { s with heap:=h' }):wpAny M A (setFlight (.ref e) none) Q E s:=by
 obtain⟨oe,vs,T,oT,ts,he,hc,dt,v1,nT,ne,hT,dT,t3⟩:=tr;have z3:3<ts.size:=(Array.getElem?_eq_some_iff.mp t3).1;have oth:∀b,b≠T->(s.heap.update T (Obj.mapFields (·.setIfInBounds 3 ((none:Option Addr).elim Value.none fun f=>rawInt f)))).get? b=s.heap.get? b:=fun b n=>y8 _ _ (y9 n);have nrec:∀b o,s.heap.get? b=some o->(∀ws,o.data≠.fields ws)->b≠T:=fun b o q hn z=>by subst z;cases Zu (hT.symm.trans q);exact hn ts dT
 unfold setFlight;refine Za (ZZ he dt v1 ?_);rw[if_pos (by simp:(Value.ref T != Value.none)=true)];refine wpAny_setField hT dT z3 (k _ (fun b o q=>(oth b fun z=>nomatch((z▸q).symm.trans nT)).trans (kb b o q)) (ff.of_keeps fun b o q hn=>⟨o,(oth b (nrec b o q hn)).trans q,rfl⟩) ?_ (fun b o q hn=>⟨o.slots,(oth b (nrec b o q hn)).trans q⟩) ?_)
 ·exact⟨oe,vs,T,_,_,(oth e (y9 ne)).trans he,hc,dt,v1,nT,ne,Yx _ hT (Obj.isFreed_of_fields (YO dT _)),YO dT _,by simp[z3]⟩
 ·obtain⟨o,q,d⟩:=dd;exact⟨o,(oth e (y9 ne)).trans q,d⟩
theorem nM{cls a0:Value}{dc:Option Addr}{Q:Unit->Shared->Prop}(fr:A.frames=some (env::outer))(ef:env.frame=some L)(fl:Heap.FlyingW base (env::outer) e cls a0 s.heap)(dd:dE s.heap e dc)(k:∀h',Heap.HeldW base (env::outer) e cls a0 L h'->s.heap.UpToSlots h'->dE h' e dc->Q () { s with heap:=h' }):wpAny M A (noteFrame (.ref e) env) Q E s:=by
 obtain⟨f1,f2,f3,oe,vs,T,oT,ts,he,hc,dt,v1,nT,ne,hT,dT,t3⟩:=fl;obtain⟨o2,q2,d2⟩:=dd;cases Zu (he.symm.trans q2);have z3:3<ts.size:=(Array.getElem?_eq_some_iff.mp t3).1;unfold noteFrame;simp only[ef];refine Za (ZZ he dt v1 ?_);rw[if_pos (by simp:(Value.ref T != Value.none)=true)];refine Za (ZZ hT dT t3 ?_);rw[if_neg (by simp[rawInt]:¬(Value.none==rawInt L)=true)];refine Za (wpAny_setField hT dT z3 ?_);have oth:∀b,b≠T->(s.heap.update T (Obj.mapFields (·.setIfInBounds 3 Value.none))).get? b=s.heap.get? b:=fun b n=>y8 _ _ (y9 n);have nrec:∀b o,s.heap.get? b=some o->(∀ws,o.data≠.fields ws)->b≠T:=fun b o q hn z=>by subst z;cases Zu (hT.symm.trans q);exact hn ts dT
 have sz:1<vs.size:=(Array.getElem?_eq_some_iff.mp v1).1;refine mi (s:={ s with heap:=s.heap.update T (Obj.mapFields (·.setIfInBounds 3 Value.none)) }) fr (f3.of_keeps fun b o q hn=>⟨o,(oth b (nrec b o q hn)).trans q,rfl⟩) ef ((oth e (y9 ne)).trans he) (fun b o q=>(oth b fun z=>nomatch((z▸q).symm.trans nT)).trans (f1 b o q)) f2 dt sz hc.2 fun h' nt dd=>?_;obtain⟨n1,n2,n3,n4⟩:=nt;rw[hc.1]at n3;rw[d2]at dd;exact k h' ⟨n1,f2,n2,n3⟩ (fun b o q hn=>n4 b o ((oth b (nrec b o q hn)).trans q) hn) dd
end
open PySem PySem.Spec PyProof.Rows PySem.W
section
variable{X:Cx}
theorem Eu:QCall X (.builtin "len") (fun xs H Q=>∃x:Str,xs=[.str x]/\x.length<=1000/\Q (.int (x.length:Int)) H):=by refine⟨?_⟩;intro pins s σ H xs us Q I r h;obtain⟨x,rfl,hz,q⟩:=h;obtain⟨u,rfl,rx⟩:=fq r;obtain⟨t,rfl⟩:=rx;exact PyProof.Rows.len_str (by omega) ⟨.int x.length,H,I.tok _,⟨_,rfl⟩,q⟩
end
theorem gW{v:V}{A B:Prop}(hA:A):if decide (v=v)=true then A else B:=by rw[decide_eq_true rfl];exact aR hA
theorem bZ{v u:V}{A B:Prop}(h:v≠u)(hB:B):if decide (v=u)=true then A else B:=by rw[decide_eq_false h];exact aJ hB
theorem Ai:bootBuiltins "str" = some (.type "str"):=by decide +kernel
theorem sw{P:Program}{w:World}{K:PySem.W.Frag}{mg:Str->Option Value}{base:Heap}{k:Nat}{f:Addr}{fd:FuncData}{ps:List Str}:FnOk P w K mg base CX0 k f fd ps (fun _ _ _ _=>False):=⟨fun _ _ _ _ h=>h.elim,fun _ _ _ _ _ _ _ _ _ _ _ _ _ h=>h.elim⟩
inductive TV where
 |flat (v:V)
 |tup (xs:List V)
def rM:V->Value->Bool
 |.non,.none=>true
 |.bl b,.bool c=>b==c
 |.int i,.int j _=>i==j
 |.str x,.str y _=>x==y
 |_,_=>false
theorem qP:∀{v:V} {u:Value},rM v u=true->RelV v u:=by
 intro v u h;unfold rM at h;split at h
 ·exact rfl
 ·obtain rfl:=Z0.mp h;exact rfl
 ·obtain rfl:=Z0.mp h;exact⟨_,rfl⟩
 ·obtain rfl:=Z0.mp h;exact⟨_,rfl⟩
 ·cases h
def uh:List V->List Value->Bool
 | [],[]=>true
 |v::vs,u::us=>rM v u&&uh vs us
 |_,_=>false
theorem my:∀{vs:List V} {us:List Value},uh vs us=true->Vals vs us
 | [],[],_=>.nil
 |_::_,_::_,h=>by have h:=(ZK _ _).mp h;exact .cons (qP h.1) (my h.2)
 | [],_::_,h=>nomatch h
 |_::_,[],h=>nomatch h
def kM(K:PySem.W.Frag):TV->Value->Bool
 |.flat v,u=>rM v u
 | .tup xs,.ref a=>(match K.lookup a with
  |some o=>o.cls == .type "tuple"&&(match o.data with|.seq its _=>decide (its.size<=1000)&&uh xs its.toList|_=>false)
  | none=>false)
 |_,_=>false
def Ep(K:PySem.W.Frag):TV->Value->Prop
 |.flat v,u=>RelV v u
 |.tup xs,u=>∃a,u=.ref a/\∀H,SqT K H a xs
theorem HL{K:PySem.W.Frag}(d:TV)(u:Value)(h:kM K d u=true):Ep K d u:=by
 unfold kM at h;split at h
 ·exact qP h
 ·rename_i xs a;split at h
  ·rename_i o ho;obtain⟨e1,e2⟩:=(ZK _ _).mp h;split at e2
   ·rename_i its n hd;obtain⟨e3,e4⟩:=(ZK _ _).mp e2;exact⟨a,rfl,fun H=>.inr ⟨o,its,n,ho,Z0.mp e1,hd,fj (of_decide_eq_true e3),my e4⟩⟩
   ·cases e2
  ·cases h
 ·cases h
structure Tab(K:PySem.W.Frag)(a:Addr)(D:List (Str×TV)):Prop where
 look:KTD.tabLook (kM K) (fun b=>K.lookup b) a D=true
theorem Tab.at{K:PySem.W.Frag}{a:Addr}{D:List (Str×TV)}(T:Tab K a D){h:Heap}(X:K.In h):KTD.TabOf (Ep K) h a D:=KTD.tab_of_look HL (fun b o e=>X b o e) T.look
section
variable{prog:Program}{w:World}{A:Around}{E:Value->Shared->Prop}{s:Shared}{d:Addr}{o:Obj}{es:Array DictEntry}{ep:Nat}{x:Str}{tx:Tok}
theorem D6{Q:Option Value->Shared->Prop}(ho:s.heap.get? d=some o)(hd:o.data=.dict es ep)(hall:(es.all fun e=>isExactStrKey e.key)=true)(h:Q ((es.toList.find? fun e=>e.key.isStr x).map (·.val)) { s with toks:=s.toks+1 }) :
  wpAny (model prog w) A (dictGet d (.str x tx)) Q E s:=by
 unfold dictGet;(try with_reducible (refine Z3 ?_))
 refine Za (wpAny_pyHash_str (Za (KTD.kt_dictFind_strs (s:={ s with toks:=s.toks+1 }) ho hd hall ?_)));have hq:Q (findBy (fun y v=>v.isStr y) es x) { s with toks:=s.toks+1 }:=by
  have hf:findBy (fun y v=>v.isStr y) es x=(es.toList.find? fun e=>e.key.isStr x).map (·.val):=by obtain⟨l⟩:=es;simp[findBy]
  rw[hf];exact h
 rw[findBy_of_findIdx?]at hq;cases hi:es.findIdx? fun e=>e.key.isStr x<;>rw[hi]at hq
 ·exact Zh hq
 ·exact Za (wpAny_dictEntries (s:={ s with toks:=s.toks+1 }) ho hd (Zh hq))
theorem BJ{Q:Value->Shared->Prop}{v:Value}(ex:o.ExactDict)(ho:s.heap.get? d=some o)(hd:o.data=.dict es ep)(hall:(es.all fun e=>isExactStrKey e.key)=true)(hv:(es.toList.find? fun e=>e.key.isStr x).map (·.val)=some v)(h:Q v { s with toks:=s.toks+1 }):wpAny (model prog w) A (getItem (.ref d) (.str x tx)) Q E s:=by
 have T:s.TypeIs (.ref d) "dict":=⟨o,ho,ex.1⟩
 unfold getItem;(try with_reducible (refine Z3 ?_))
 refine Za (wpAny_sequenceKey T (by decide) (Za (Z7 (name:=Str.ofString "__getitem__") T slot_dict_getitem (Yy slot_dict_getitem T entry_dict_getitem ?_ (args_dict_getitem _ _)))));show wpAny _ _ (dictGet d (.str x tx) >>= _) _ _ _;refine Za (D6 ho hd hall ?_);rw[hv];exact Zh ⟨v,rfl,Zh h⟩
end
section
variable{X:Cx}
def FZ(K:PySem.W.Frag):R2:=fun x y H Q=>∃a k D d,x=.ref a/\y=.str k/\Tab K a D/\KTD.datumAt k D=some d/\(match d with|.flat v=>Q v H|.tup xs=>∀t,(∀H',SqT K H' t xs)->Q (.ref t) H)
theorem CB:QIx X (FZ X.K):=by
 refine⟨?_⟩;intro value slice pins s σ H x y v u Q I rx ry h hs;obtain⟨a,k,D,d,rfl,rfl,T,hk,q⟩:=h;obtain⟨t,rfl⟩:=ry;cases rx;obtain⟨sy,o,es,ep,ho,ex,hd,hr⟩:=T.at I.kIn;obtain⟨v,hv,ok⟩:=hr.find_some hk;have fin:EP X pins σ Q v { s with toks:=s.toks+1 }:=by
  cases d with
  |flat z=>exact⟨z,H,I.tok _,ok,q⟩
  |tup xs =>obtain⟨t,rfl,e⟩:=ok;exact⟨.ref t,H,I.tok _,rfl,q t e⟩
 exact subscriptTail_builtinR (x:=v) (⟨o,ho,ex.1⟩:s.TypeIs (.ref a) "dict") slot_dict_getitem.lookup (BJ (Q:=fun r s'=>r=v/\EP X pins σ Q r s') ex ho hd (by obtain⟨l⟩:=es;simpa using hr.exact) hv ⟨rfl,fin⟩) hs
theorem FV{x:Str}{a:Addr}{pos:Pos}(hm:X.mg x=some (.ref a))(hg:Gl X x:=by rfl)(hd:(x==("__debug__":Str))=false:=by decide):QE X (.Name x pos) (tC (.ref a)):=⟨pH hg hm rfl hd⟩
end
open PySem PySem.Spec PyProof.Rows PySem.W
def CXr(P:Program)(w:World):CXT:=fun outer H s E e s' =>
 ∃(ea t:Addr) (C:Value) (vs:List Value) (B:Heap) (H':Hp) (dc:Option Addr),e=.ref ea/\s'.os=s.os/\AllBare s'.gens/\Un (frs outer) [] H H' s.heap s'.heap/\HOk P w H' s'.heap /\
  Heap.FlyingW B outer ea C (.ref t) s'.heap/\s'.heap.TupAt t vs/\B.get? t=none/\(∀b o,b∉frs outer->((∃u,H' b=some u)\/∃o0,s.heap.get? b=some o0)->s'.heap.get? b=some o->B.get? b=some o)/\dE s'.heap ea dc/\E C dc H'
structure ExCls(K:PySem.W.Frag)(C:Addr):Prop where
 cls:∀h,K.In h->∃nm q N bs bm hdct sn sub ab col dd k0 k1 k2 k3 k5 mN,h.get? C=some (excClassObj nm q C N bs bm hdct sn sub ab col dd k0 k1 k2 k3 k5 "ValueError.__new__")/\h.Ns N mN/\mN "__init__" = none/\bm.contains (.type "BaseException")=true /\
  OwnTail h [.type "ValueError",.type "Exception",.type "BaseException",.type "object"] bm
def xR(X:Cx)(EC:Value->Hp->Prop):Prop:=∀(pins:List (Addr×Obj)) (σ:St) (H1:Hp) (s1:Shared) (h2:Heap) (e:Addr) (C:Value) (vs:List Value),Inv X pins σ H1 s1->Heap.MadeExcOf s1.heap h2 e C vs->EC C H1->X.xe (.ref e) { s1 with heap:=h2 }
section
variable{X:Cx}{EC:Value->Hp->Prop}{C:Addr}{x:Str}{np cpos pos:Pos}{e:Expr}{es:List Expr}{ta:TA}
theorem lN(hR:xR X EC)(hc:X.calm=true)(cl:ExCls X.K C)(hm:X.mg x=some (.ref C))(ha:QA X (e::es) ta)(hg:Gl X x:=by rfl)(hs:(e::es).all aP=true:=by rfl)(hdb:(x==("__debug__":Str))=false:=by decide) :
  QS X (.Raise (some (.Call (.Name x np) (e::es) [] cpos)) none pos) (fun _ σ H=>ta σ H fun vs H1=>vs.length<=sizeLine/\EC (.ref C) H1):=by
 refine⟨?_⟩;intro pins s σ H D I h;obtain⟨nm,q,N,bs,bm,hdct,sn,sub,ab,col,dd,k0,k1,k2,k3,k5,mN,hC,hN,hni,hb,T⟩:=cl.cls X.base I.ok.mod.kin;have hs1:aP e=true:=by have:=YM.mp hs e (by simp);exact this
 have he:=aY (es:=es) (env:=X.env) hs1;have hpl:(backTo cpos (starEach es X.env)).any (·.1)=false:=br (by
  rw[YM];intro y hy;exact YM.mp hs y (Zt _ hy))
 refine wpAny_Raise_call_subT (nm:=nm) (q:=q) (C:=C) (N:=N) (bs:=bs) (hdct:=hdct) (sn:=sn) (sub:=sub) (ab:=ab) (col:=col) (dd:=dd) (k0:=k0) (k1:=k1) (k2:=k2) (k3:=k3) (k5:=k5) PySem.F.excBase_ValueError hb (I.ok.hd hc) ?_ hni (gP I hg hm ⟨rfl,?_⟩ hdb)
 ·rw[he];show(false ||(backTo cpos (starEach es X.env)).any (·.1))=false;rw[hpl];rfl
 ·have hA:=ha.h cpos pins s σ H _ I h;rw[he]at hA ⊢;refine Calls.evalArgs_plain (thn hA fun us s1 ⟨vs,H1,I1,r1,hz,hE⟩=>⟨rfl,by rw[<-r1.length];exact hz,I1.bk _ _ hC,hN.keeps I1.bk,T.keeps I1.bk,fun h' ea hm=>hR pins σ H1 s1 h' ea _ _ I1 hm hE⟩)
end
open PySem PySem.Spec PyProof.Rows PySem.W
theorem Fun.okX{P:Program}{w:World}{K:PySem.W.Frag}{mg:Str->Option Value}{base:Heap}{x qual:Str}{st:Stmt}{f:Addr}{fd:FuncData}{N ps:List Str}{k:Nat}{sp:Sp}(F:Fun K x qual st f fd)(S:FnScope N ps (al st))(len:∀ vs H Q E,sp vs H Q E->vs.length=ps.length)(hb:∀ (cdv:Value) (A:Around) (outer:List Env) (s:Shared) (H:Hp) (vs:List V) (Q:VK) (E:XK),Room k (A.deeper (envOfC qual (al st) s.heap.objs.size f cdv))->sp vs H Q E ->
   ∃ t,QB (fZ (CXr P w) P w K mg base N qual (al st) f cdv A outer s H E) (bJ st) t/\t { nx:=fun _ H'=>Q .non H',rt:=Q } (start N vs) H):FnOk P w K mg base (CXr P w) (k+1) f fd ps sp:=by
 obtain⟨oc,od,kV,doc,pm,an,cdv,ct,osl,rfl,lk,hcd⟩:=F.ex;exact BV lk hcd S len fun A outer s H vs Q E hr hsp=>let⟨t,h,q⟩:=hb cdv A outer s H vs Q E hr hsp;⟨t,h.h,q⟩
structure FnX(P:Program)(w:World)(K:PySem.W.Frag)(mg:Str->Option Value)(base:Heap)(k:Nat)(x:Str)(ps:List Str)(sp:Sp):Prop where
 ex:∃f fd,FnOk P w K mg base (CXr P w) k f fd ps sp/\mg x=some (.ref f)/\PySem.W.keepIn K (.ref f)=true/\Binds K fd ps []
def XP(X:Cx)(pins:List (Addr×Obj))(σ:St)(E:XK)(e:Value)(s':Shared):Prop:=∃s0 H0,Inv X pins σ H0 s0/\CXr X.prog X.w X.stack H0 s0 E e s'
abbrev TX:=St->Hp->VK->XK->Prop
structure QX(X:Cx)(e:Expr)(t:TX):Prop where
 h:∀(pins:List (Addr×Obj)) (s:Shared) (σ:St) (H:Hp) (Q:VK) (E:XK),Inv X pins σ H s->t σ H Q E->wpAny (model X.prog X.w) X.A (eval e X.env) (EP X pins σ Q) (XP X pins σ E) s
abbrev TSX:=Ends->St->Hp->XK->Prop
structure QSX(X:Cx)(st:Stmt)(t:TSX):Prop where
 h:∀(pins:List (Addr×Obj)) (s:Shared) (σ:St) (H:Hp) (D:Ends) (E:XK),Inv X pins σ H s->t D σ H E->wpAny (model X.prog X.w) X.A (exec st X.env) (SP X pins D) (XP X pins σ E) s
section
variable{X:Cx}{e:Expr}{tx:TX}{pos pos':Pos}{x:Str}
theorem D2(he:QX X e tx)(hs:swapsWith e none pos.line X.env=pure false:=by rfl):QSX X (.Expr e pos) (fun D σ H E=>tx σ H (fun _ H1=>D.nx σ H1) E):=by refine⟨?_⟩;intro pins s σ H D E I h;exact wpAny_Expr_any (thn (he.h pins s σ H _ E I h) fun v s1 ⟨y,H1,I1,r1,q1⟩=>⟨σ,H1,I1,q1⟩) I.quiet hs
end
structure Fl(X:Cx)(H0 H':Hp)(s0 s':Shared)(B:Heap):Prop where
 os:s'.os=s0.os
 bare:AllBare s'.gens
 un:Un (frs X.stack) [] H0 H' s0.heap s'.heap
 hok:HOk X.prog X.w H' s'.heap
 kb:∀b o,b∉frs X.stack->((∃u,H' b=some u)\/∃o0,s0.heap.get? b=some o0)->s'.heap.get? b=some o->B.get? b=some o
section
variable{X:Cx}{pins:List (Addr×Obj)}{σ:St}{H0 H':Hp}{s0 s':Shared}{B h':Heap}
theorem Fl.inv(F:Fl X H0 H' s0 s' B)(I:Inv X pins σ H0 s0):Inv X pins σ H' s':=I.call' F.os F.un F.hok F.bare fun _ z=>nomatch z
theorem Fl.nf(F:Fl X H0 H' s0 s' B)(I:Inv X pins σ H0 s0){b:Addr}{u:HO}(h:H' b=some u):b∉frs X.stack:=fun hm=>by have:=(F.inv I).stkFree b hm;rw[h]at this;cases this
theorem Fl.move{tk:Nat}(F:Fl X H0 H' s0 s' B)(I:Inv X pins σ H0 s0)(st:B.StaysIn h')(up:s'.heap.UpToSlots h'):Fl X H0 H' s0 { s' with heap:=h',toks:=tk } B:=by
 have kp:∀b o,b∉frs X.stack->((∃u,H' b=some u)\/∃o0,s0.heap.get? b=some o0)->s'.heap.get? b=some o->h'.get? b=some o:=fun b o h1 h2 h3=>st b o (F.kb b o h1 h2 h3);have sl:∀b o,b∈frs X.stack->s'.heap.get? b=some o->∃sl,h'.get? b=some { o with slots:=sl }:=fun b o hm q=>by obtain⟨_,o',ho',hd⟩:=(F.inv I).stack.mem hm;have e:s'.heap.get? b=some o':=ho';rw[q]at e;cases e;exact up b o q hd
 refine⟨F.os,F.bare,⟨fun b o q n hb hx=>kp b o hb (.inr ⟨o,q⟩) (F.un.keep b o q n hb hx),fun b o q n hb hx=>?_,F.un.free,fun b o q hx=>?_,F.un.tups,F.un.frzs,F.un.tbls⟩,fun b u q=>?_,fun b o hb ho q=>?_⟩
 ·obtain⟨s1,e1⟩:=F.un.slot b o q n hb hx;obtain⟨s2,e2⟩:=sl b _ hb e1;exact⟨s2,e2⟩
 ·obtain⟨o',e1⟩:=F.un.there b o q hx;by_cases hb:b∈frs X.stack
  ·obtain⟨s2,e2⟩:=sl b o' hb e1;exact⟨_,e2⟩
  ·exact⟨o',kp b o' hb (.inr ⟨o,q⟩) e1⟩
 ·refine(F.hok b u q).stay (fun c v hc z=>kp c v ?_ ?_ z) (fun _ z=>z) fun _ _ z=>z
  ·rcases hc with z'|z'
   ·rw[z'];exact F.nf I q
   ·exact F.nf I z'
  ·rcases hc with z'|z'
   ·rw[z'];exact .inl ⟨u,q⟩
   ·exact .inl ⟨_,z'⟩
 ·obtain⟨o1,q1⟩:∃o1,s'.heap.get? b=some o1:=by
   rcases ho with⟨u,z⟩|⟨o0,z⟩
   ·exact ic (F.hok b u z)
   ·exact F.un.there b o0 z (by simp)
  have q2:=kp b o1 hb ho q1;have q':h'.get? b=some o:=q;rw[q']at q2;cases q2;exact F.kb b o hb ho q1
end
structure ExC(K:PySem.W.Frag)(C:Addr)(bm:List Value):Prop where
 cls:∀h,K.In h->∃nm q N bs hdct sn sub ab col dd k0 k1 k2 k3 k5 ni,h.get? C=some (excClassObj nm q C N bs bm hdct sn sub ab col dd k0 k1 k2 k3 k5 ni)
 exc:bm.contains (.type "BaseException")=true
theorem ux{M:Model}{A:Around}{E:Value->Shared->Prop}{s:Shared}{e C T:Addr}{oe:Obj}{bmC bmT:List Value}{K:PySem.W.Frag}{Q:Bool->Shared->Prop}(hC:ExC K C bmC)(hT:ExC K T bmT)(hk:K.In s.heap)(he:s.heap.get? e=some oe)(hcls:oe.cls=.ref C)(hq:Q ((Value.ref C::bmC).contains (.ref T)) s):wpAny M A (excMatches (.ref e) (.ref T)) Q E s:=by
 obtain⟨nm,q,N,bs,hdct,sn,sub,ab,col,dd,k0,k1,k2,k3,k5,ni,oC⟩:=hC.cls _ hk;obtain⟨nm',q',N',bs',hdct',sn',sub',ab',col',dd',k0',k1',k2',k3',k5',ni',oT⟩:=hT.cls _ hk;obtain⟨hp,g,d,tk,os⟩:=s;have hcB:(Value.ref T::bmT).contains (.type "BaseException")=true:=by rw[Y5,hT.exc,Bool.or_true]
 have f:=tc_notTuple;unfold excMatches;generalize hr:(Value.ref C::bmC).contains (Value.ref T)=r at hq
 repeat(first|(with_reducible refine YV he ?_;rw[hcls])|with_reducible refine YV oT ?_|(with_reducible refine wpAny_isSubtype_exc oT ?_;rw[hcB])|(with_reducible refine wpAny_isSubtype_exc oC ?_;rw[hr])|wp_step)
 cases r<;>(first|exact hq|(wp_walk;exact hq))
def Cx.exc(X:Cx)(e:Value):Cx:={ X with A:=X.A.mark (some e),calm:=false,xe:=fun _ _=>False }
section
variable{X:Cx}{pins:List (Addr×Obj)}{σ:St}{H:Hp}{s:Shared}{e:Value}
theorem Inv.exc(I:Inv X pins σ H s)(e:Value):Inv (X.exc e) pins σ H s :=
 ⟨⟨I.ok.mod,I.ok.kind,I.ok.glob,I.ok.blt,I.ok.above,I.ok.inj,I.ok.has,I.ok.cab,fun z=>(nomatch z),I.ok.frames,I.ok.stk,I.ok.exf,I.ok.bs,I.ok.bsz,I.ok.noex,I.ok.exfs,I.ok.funs,I.ok.frf⟩,I.os,I.bare,I.base,I.loc,I.cell,I.free,I.freeC,I.pin,I.hok,I.len⟩
theorem Inv.unexc(ok:X.Ok)(I:Inv (X.exc e) pins σ H s):Inv X pins σ H s:=⟨ok,I.os,I.bare,I.base,I.loc,I.cell,I.free,I.freeC,I.pin,I.hok,I.len⟩
end
abbrev TH:=Ends->St->Value->Option Addr->Hp->Prop
structure QH(X:Cx)(hs:List ExceptHandler)(th:TH):Prop where
 h:∀(pins:List (Addr×Obj)) (s0:Shared) (H0:Hp) (σ:St) (D:Ends) (ea t:Addr) (C:Value) (B:Heap) (H':Hp) (dc:Option Addr) (s':Shared),Inv X pins σ H0 s0->Fl X H0 H' s0 s' B->Heap.FlyingW B X.stack ea C (.ref t) s'.heap->dE s'.heap ea dc->th D σ C dc H' ->
  wpAny (model X.prog X.w) X.A (handleBy (.ref ea) X.env hs) (SP X pins D) X.xe s'
section
variable{X:Cx}
def Ij(tb:TSX)(th:TH):TS:=fun D σ H=>tb D σ H fun C dc H1=>th D σ C dc H1
theorem Gg{st:Stmt}{tb:TSX}{th:TH}{h0:ExceptHandler}{hs:List ExceptHandler}{pos:Pos}(hst:X.stack=X.env::X.outer)(hfr:X.env.frame=some X.env.locals)(hb:QSX X st tb)(hh:QH X (h0::hs) th) :
  QS X (.Try [st] (h0::hs) [] [] pos) (Ij tb th):=by
 refine⟨?_⟩;intro pins s σ H D I h;refine wpAny_Try_except (wpAny_execs_cons (ZS (hb.h pins s σ H D _ I h) (fun f s1 q=>?_) (fun e s1 x=>?_)))
 ·cases f with
  |next=>exact wpAny_execs_nil (wpAny_execs_nil q)
  |brk=>exact q
  |cont=>exact q
  |ret v=>exact q
 ·obtain⟨s0,H0,I0,ea,t,C,vs,B,H',dc,rfl,os,bare,un,hok,fly,tup,hBt,kb,dd,q⟩:=x;have F:Fl X H0 H' s0 s1 B:=⟨os,bare,un,hok,kb⟩
  have fr:X.A.frames=some (X.env::X.outer):=by rw[<-hst];exact I.ok.frames
  rw[hst]at fly;refine nM fr hfr fly dd fun h4 held up4 dd4=>?_;obtain⟨f1,f2,f3,f4⟩:=held;refine jC f1 f3 f4 dd4 fun h5 k1 k2 k3 up5 dd5=>?_;have F5:=(F.move (tk:=s1.toks) I0 k1 (up4.trans up5))
  rw[<-hst]at k2;exact hh.h pins s0 H0 σ D ea t C B H' dc _ I0 F5 ⟨k1,f2,k2,k3⟩ dd5 q
end
open PySem PySem.Spec PyProof.Rows PySem.W
abbrev VE:List Value:=[.type "ValueError",.type "Exception",.type "BaseException",.type "object"]
structure ExcAt(K:PySem.W.Frag)(C:Addr)(bm:List Value):Prop where
 isIn:excIn K C VE "ValueError.__new__" = true
 mro:∃c d cd sl,K.lookup C=some ⟨c,d,.cls cd,sl⟩/\cd.mro=Value.ref C::bm
 exc:bm.contains (.type "BaseException")=true
theorem qu{K:PySem.W.Frag}{C:Addr}{bm:List Value}(q:ExcAt K C bm){h:Heap}(X:K.In h) :
  ∃nm qn N bs hdct sn sub ab col dd k0 k1 k2 k3 k5 mN,h.get? C=some (excClassObj nm qn C N bs bm hdct sn sub ab col dd k0 k1 k2 k3 k5 "ValueError.__new__")/\h.Ns N mN/\mN "__init__" = none/\OwnTail h VE bm:=by
 have q1:=q.isIn;obtain⟨c9,d9,cd9,sl9,l9,m9⟩:=q.mro;unfold excIn at q1;split at q1
 ·rename_i dd cd sl ho;split at q1
  ·rename_i C' bm' k0 k1 k2 k3 n k5 hm hs;have q2:cd.mro=Value.ref C::bm:=by have z:=ho.symm.trans l9;cases z;exact m9
   rw[hm]at q2;injection q2 with z1 z2;injection z1 with z1;cases z1;cases z2;simp only[ZK,Z0,Bool.not_eq_true']at q1;obtain⟨⟨⟨⟨⟨_,rfl⟩,nd⟩,ht⟩,ok⟩,ni⟩:=q1;have es:sl=#[k0,k1,k2,k3,some (.builtin "ValueError.__new__"),k5]:=by obtain⟨l⟩:=sl;simp only at hs;rw[hs]
   cases es;obtain⟨nm,bs,mro,ns,qn,hd,sn,sub,ab,col,del⟩:=cd;dsimp only at hm nd ok ni;cases hm;cases nd;exact⟨nm,qn,ns,bs,hd,sn,sub,ab,col,dd,k0,k1,k2,k3,k5,_,X _ _ ho,.of_isNs (isNs_of_in X ok),nsMap_none_of_in X ok ni,tail_of_in X ht⟩
  ·cases q1
 ·cases q1
theorem sr{K:PySem.W.Frag}{C:Addr}{bm:List Value}(q:ExcAt K C bm):ExC K C bm where
 cls:=fun h X=>by obtain⟨nm,qn,N,bs,hdct,sn,sub,ab,col,dd,k0,k1,k2,k3,k5,mN,e,_⟩:=qu q X;exact⟨nm,qn,N,bs,hdct,sn,sub,ab,col,dd,k0,k1,k2,k3,k5,_,e⟩
 exc:=q.exc
theorem mG{K:PySem.W.Frag}{C:Addr}{bm:List Value}(q:ExcAt K C bm):ExCls K C where
 cls:=fun h X=>by obtain⟨nm,qn,N,bs,hdct,sn,sub,ab,col,dd,k0,k1,k2,k3,k5,mN,e,e2,e3,e4⟩:=qu q X;exact⟨nm,qn,N,bs,bm,hdct,sn,sub,ab,col,dd,k0,k1,k2,k3,k5,mN,e,e2,e3,(sr q).exc,e4⟩
structure ExK(K:PySem.W.Frag)(c:Addr):Prop where
 hc:(clsIn K c).isSome=true
 hga:findIn K (.ref c) "__getattribute__" = some (some (.builtin "BaseException.__getattribute__"))
 hgh:findIn K (.ref c) "__getattr__" = some none
 ha:findIn K (.ref c) "__class__" = some (some (.builtin "object.__class__"))
 hb:mroIn K c (.type "BaseException")=some true
 hm:mroIn K c (.type "object")=some true
open PySem PySem.Spec PyProof.Rows PySem.W
def jH(i:Int):Str:=Str.ofString (toString i)
theorem si:∀(f k n:Nat) (ds:List Char),n<10^(k+1)->(Nat.toDigitsCore 10 f n ds).length<=k+1+ds.length
 |0,k,n,ds,_=>by unfold Nat.toDigitsCore;omega
 |f+1,k,n,ds,h=>by
  unfold Nat.toDigitsCore;dsimp only;split
  ·rw[Zm];omega
  ·rename_i hz;cases k with
   |zero =>have:n / 10=0:=Nat.div_eq_of_lt (by simpa using h);exact absurd this hz
   |succ k =>
    have h':n / 10<10^(k+1):=by rw[Nat.div_lt_iff_lt_mul (by decide)];rw[Nat.pow_succ]at h;exact h
    have:=si f k (n / 10) (Nat.digitChar (n%10)::ds) h';rw[Zm]at this;omega
theorem AD{i:Int}{k:Nat}(h:i.natAbs<10^(k+1)):(jH i).length<=k+2:=by
 unfold jH;rw[ofString_len];have nat:∀n:Nat,n<10^(k+1)->(Nat.repr n).length<=k+1:=fun n hn=>by unfold Nat.repr;rw[String.length_ofList];have:=si (n+1) k n [] hn;exact this
 cases i with
 |ofNat n =>have:=nat n h;show(Nat.repr n).length<=_;omega
 |negSucc n =>have:=nat (n+1) h;show("-"++Nat.repr (n+1)).length<=_;rw[String.length_append];have:("-":String).length=1:=rfl;omega
section
variable{X:Cx}{K:PySem.W.Frag}
theorem CQ(hK:X.K=K)(hc:X.calm=true)(dg:nsIn K cStatics "sys.int_max_str_digits" = some none):QCall X (.type "str") (fun xs H Q=>∃i:Int,xs=[.int i]/\i.natAbs<10^4300/\Q (.str (jH i)) H):=by refine⟨?_⟩;subst hK;intro pins s σ H xs us Q I r h;obtain⟨i,rfl,hi,q⟩:=h;obtain⟨u,rfl,rx⟩:=fq r;obtain⟨t,rfl⟩:=rx;obtain⟨mc,hn,_⟩:=I.nolimit;exact str_of_int_or (I.ok.hd hc) ⟨mc,hn,ns_none_of I.kIn hn dg⟩ (fun _=>⟨.str (jH i),H,I.tok _,⟨_,rfl⟩,q⟩) (fun z=>absurd hi (Nat.not_lt.mpr z))
end
theorem ve{K:PySem.W.Frag}{a b:Addr}{xs ys:List V}{i j:Nat}{tb:TS}{D:Ends}{σ:St}{H:Hp}(Pv:Nat->St->Hp->Prop)(h0:Pv 0 σ H)(ha:∀i σ H,i<=xs.length->Pv i σ H->SqT K H a xs)(hb:∀i σ H,i<=xs.length->Pv i σ H->SqT K H b ys)(hl:xs.length=ys.length)(hs:∀k x y σ H,xs[k]?=some x->ys[k]?=some y->Pv k σ H->∀T,H T=none->tb { D with nx:=Pv (k+1),ct:=Pv (k+1),bk:=D.nx } ((σ.set i (some x)).set j (some y)) (upd H T (.tup [x,y])))(hd:∀σ H,Pv xs.length σ H->D.nx σ H) :
  ∃W:Nat->Nat->St->Hp->Prop,(∃m,W 0 m σ H)/\∀k m σ H,W k m σ H ->
   ((Itz K a b xs ys).stop k H/\D.nx σ H)\/((Itz K a b xs ys).go k H/\∃N:St->Hp->Prop,(∀σ' H',N σ' H'->∃m',m'<m/\W (k+1) m' σ' H')/\∀x H',(Itz K a b xs ys).yld k H x H'->mI K 2 (fM (cL i) (fM (cL j) mH)) x σ H' fun σ2 H2=>tb { D with nx:=N,ct:=N,bk:=D.nx } σ2 H2):=by
 refine⟨fun k m σ H=>m=xs.length-k/\k<=xs.length/\Pv k σ H,⟨xs.length,by simp,y0 _,h0⟩,?_⟩;rintro k m σ H ⟨rfl,hk,pv⟩;by_cases hlt:k<xs.length
 ·refine .inr ⟨⟨hlt,ha k σ H hk pv,hb k σ H hk pv⟩,Pv (k+1),fun σ' H' z=>⟨xs.length-(k+1),by omega,rfl,hlt,z⟩,fun x H' y=>?_⟩;obtain⟨T,p,q,hT,hx,hy,rfl,rfl⟩:=y;exact⟨T,[p,q],rfl,SqT.of ae,rfl,p,[q],rfl,q,[],rfl,rfl,hs k p q σ H hx hy pv T hT⟩
 ·have e:k=xs.length:=by omega
  subst e;exact .inl ⟨⟨rfl,ha _ σ H hk pv,hb _ σ H hk pv⟩,hd σ H pv⟩
theorem Ao{J:It}{N n:Nat}{cap:List Nat}{g:TG}{te:TE}{σ:St}{H0:Hp}{Q:VK}(Pv:Nat->List V->Hp->Prop)(hz:N<=1000)(hn:∀i ys H,Pv i ys H->ys.length=i)(h0:Pv 0 [] H0)(hgo:∀i ys H,i<N->Pv i ys H->J.go i H)(hst:∀ys H,Pv N ys H->J.stop N H)(ht:∀i ys H x H',i<N->Pv i ys H->J.yld i H x H'->∀A:VK,(∀v H4,Pv (i+1) (ys++[v]) H4->A v H4)->g x (cK n cap σ) H' fun σ2 H2=>te σ2 H2 A)(hq:∀ys p H,Pv N ys H->H p=none->Q (.ref p) (upd H p (.lst ys))):iF n cap g lQ te σ J H0 Q:=by
 refine⟨fun i m ys H=>m=N-i/\i<=N/\Pv i ys H,⟨N,by simp,y0 _,h0⟩,?_⟩;rintro i m ys H ⟨rfl,hi,pv⟩;by_cases hlt:i<N
 ·refine .inr ⟨hgo i ys H hlt pv,by rw[hn i ys H pv];exact aO (by omega),fun x H' y=>?_⟩;have k:=ht i ys H x H' hlt pv y (fun v H4=>∃m',m'<N-i/\m'=N-(i+1)/\i+1<=N/\Pv (i+1) (ys++[v]) H4) (fun v H4 z=>⟨N-(i+1),by omega,rfl,hlt,z⟩);unfold lQ;simpa using k
 ·have e:i=N:=by omega
  subst e;exact .inl ⟨hst ys H pv,fun p hp=>hq ys p H pv hp⟩
open PySem PySem.Spec PyProof.Rows PySem.W
open PySem PySem.Spec PyProof.Rows PySem.W
open PySem PySem.Spec PyProof.Rows PySem.W
def POk(n:Nat)(p:Array Nat):Prop:=p.Perm (List.range n).toArray
theorem POk.lt{n:Nat}{p:Array Nat}(h:POk n p)(hn:0<n)(k:Nat):p.getD k 0<n:=by
 rw[Yn];cases e:p[k]? with
 |none=>exact hn
 |some x =>have hm:x∈p:=Array.mem_of_getElem? e;have:=(h.mem_iff).mp hm;simpa using this
theorem POk.rev{n:Nat}{p:Array Nat}(h:POk n p)(i j:Nat):POk n (kas_rev p i j):=(mirror_perm p i j _).trans h
theorem POk.bub{n:Nat}{p:Array Nat}(h:POk n p)(i j:Nat):POk n (bubble p i j):=(bubble_perm p i j).trans h
section
variable{X:Cx}
theorem Ev{K:PySem.W.Frag}(hK:X.K=K)(hc:X.calm=true):QCall X (.builtin "sum") (fun xs H Q=>∃(p:Addr) (ns:List Int),xs=[.ref p]/\SqT K H p (ns.map V.int)/\Q (.int ns.sum) H):=by
 subst hK;refine⟨?_⟩;intro pins s σ H xs us Q I r h;obtain⟨p,ns,rfl,hS,q⟩:=h;obtain⟨u,rfl,ru⟩:=fq r;cases ru;obtain⟨its,rv,pl,hz⟩:=I.tuple hS;obtain⟨ys,e1,e2⟩:=nE (dN rv);have hl:s.heap.IsTuple p (intItems ys.toArray):=by obtain⟨o,ho,hc',n,hd⟩:=pl;rw[e1]at hd;exact⟨o,ho,hc',n,by simpa[intItems]using hd⟩
 refine ktm_sumG (I.ok.hd hc) hl fun h' tk t' hk=>⟨.int ns.sum,H,I.kept (t':=tk) hk,⟨t',?_⟩,q⟩
 have e:preSum (numAt ys.toArray) ys.toArray.size=ns.sum:=by rw[preSum_eq,ZX (by simp),e2]
 rw[e]
theorem Hj:QOp X (binaryOp .Mult) F9:=⟨Fk⟩
theorem gH{K:PySem.W.Frag}(hK:X.K=K):QOp X (compareOp .In) (rIn K false):=by subst hK;exact⟨yL⟩
end
open PySem PySem.Spec PyProof.Rows PySem.W
def KW{α:Type}(lt:Nat->Nat->Bool)(Q:α->Prop):KasT α->Prop
 |.ret a=>Q a
 |.ask i j k=>KW lt Q (k (lt i j))
theorem KW.bind{α β:Type}{lt:Nat->Nat->Bool}{Q:β->Prop}{f:α->KasT β}:∀{t:KasT α},KW lt (fun a=>KW lt Q (f a)) t->KW lt Q (t.bind f)
 |.ret _,h=>h
 |.ask i j k,h=>KW.bind (t:=k (lt i j)) h
theorem KW.mono{α:Type}{lt:Nat->Nat->Bool}{Q R:α->Prop}(k:∀a,Q a->R a):∀{t:KasT α},KW lt Q t->KW lt R t
 |.ret _,h=>k _ h
 |.ask i j c,h=>KW.mono k (t:=c (lt i j)) h
structure LtOk(lt:Nat->Nat->Bool):Prop where
 as:∀{a b},lt a b=true->lt b a=false
 tr:∀{a b c},lt b a=false->lt c b=false->lt c a=false
def gA(p:Array Nat)(k:Nat):Nat:=p.getD k 0
def Lx(lt:Nat->Nat->Bool)(a b:Nat):Prop:=lt b a=false/\(lt a b=true\/a<b)
section
variable{lt:Nat->Nat->Bool}(O:LtOk lt)
include O
theorem LtOk.lt_le{a b c:Nat}(h:lt a b=true)(h2:lt c b=false):lt a c=true:=by
 cases e:lt a c with
 |true=>rfl
 |false=>rw[O.tr h2 e]at h;cases h
theorem LtOk.le_lt{a b c:Nat}(h:lt b a=false)(h2:lt b c=true):lt a c=true:=by
 cases e:lt a c with
 |true=>rfl
 |false=>rw[O.tr e h]at h2;cases h2
theorem Lx.trans{a b c:Nat}(h:Lx lt a b)(k:Lx lt b c):Lx lt a c:=by
 refine⟨O.tr h.1 k.1,?_⟩;rcases h.2 with x|x
 ·exact .inl (O.lt_le x k.1)
 ·rcases k.2 with y|y
  ·exact .inl (O.le_lt h.1 y)
  ·exact .inr (Nat.lt_trans x y)
theorem Lx.of_lt{a b:Nat}(h:lt a b=true):Lx lt a b:=⟨O.as h,.inl h⟩
end
structure Fx(N:Nat)(p:Array Nat)(m:Nat):Prop where
 sz:p.size=N
 hi:∀k,m<=k->k<N->gA p k=k
 lo:∀i,i<m->gA p i<m
def LS(lt:Nat->Nat->Bool)(p:Array Nat)(m:Nat):Prop:=∀i j,i<j->j<m->Lx lt (gA p i) (gA p j)
def AS(lt:Nat->Nat->Bool)(p:Array Nat)(m:Nat):Prop:=∀i j,i<j->j<m->Lx lt (gA p j) (gA p i)
theorem Fx.succ{N:Nat}{p:Array Nat}{m:Nat}(h:Fx N p m)(hm:m<N):Fx N p (m+1):=⟨h.sz,fun k h1 h2=>h.hi k (by omega) h2,fun i hi=>by
 rcases Z2 i m with h1|h1
 ·have:=h.lo i h1;omega
 ·have e:i=m:=by omega
  subst e;rw[h.hi i (Ze _) hm];omega⟩
theorem dh{p:Array Nat}{i j k:Nat}(hj:j<=p.size):gA (kas_rev p i j) k=if i<=k/\k<j then gA p (i+j-1-k)else gA p k:=by
 unfold gA kas_rev;rw[Yn,getElem?_mirror_all hj];split
 ·rw[Yn]
 ·rw[Yn]
theorem jE(p:Array Nat)(k:Nat):gA p k=(p[k]?).getD 0:=by unfold gA;rw[Yn]
theorem EG{p:Array Nat}{k d i:Nat}(hk:k<p.size)(hd:d<=k):gA (bubble p k d) i=if i=k-d then gA p k else if k-d<i/\i<=k then gA p (i-1)else gA p i:=by
 rw[jE,getElem?_bubble hk d hd];split
 ·rw[jE]
 ·split
  ·rw[jE]
  ·rw[jE]
theorem Fx.rev{N:Nat}{p:Array Nat}{m i j:Nat}(h:Fx N p m)(hj:j<=m)(hm:m<=N):Fx N (kas_rev p i j) m:=by
 have hs:j<=p.size:=by rw[h.sz];omega
 refine⟨by rw[kas_rev_size];exact h.sz,fun k h1 h2=>?_,fun k hk=>?_⟩
 ·rw[dh hs,if_neg (by omega)];exact h.hi k h1 h2
 ·rw[dh hs];split
  ·exact h.lo _ (by omega)
  ·exact h.lo _ hk
section
variable{lt:Nat->Nat->Bool}(O:LtOk lt){N:Nat}
include O
theorem LS.step{p:Array Nat}{n:Nat}(h:LS lt p n)(hx:Lx lt (gA p (n-1)) (gA p n))(h1:1<=n):LS lt p (n+1):=fun i j hij hj=>by
 rcases Z2 j n with h2|h2
 ·exact h i j hij h2
 ·have e:j=n:=by omega
  subst e;rcases Z2 i (j-1)with h3|h3
  ·exact(h i (j-1) h3 (by omega)).trans O hx
  ·have e:i=j-1:=by omega
   subst e;exact hx
theorem sK{p:Array Nat}:∀(f n:Nat),1<=n->n+f<=N->Fx N p n->LS lt p n->KW lt (fun m=>n<=m/\m<=n+f/\Fx N p m/\LS lt p m/\(m<n+f->lt (gA p m) (gA p (m-1))=true)) (kas_asc p f n)
 |0,n,_,_,hf,hs=>⟨Ze _,Ze _,hf,hs,fun h=>absurd h (by omega)⟩
 |f+1,n,h1,hN,hf,hs=>by
  show KW lt _ (if lt (gA p n) (gA p (n-1))=true then .ret n else kas_asc p f (n+1));by_cases c:lt (gA p n) (gA p (n-1))=true
  ·rw[if_pos c];exact⟨Ze _,by omega,hf,hs,fun _=>c⟩
  ·rw[if_neg c];have c':=Y7.mpr c;have hx:Lx lt (gA p (n-1)) (gA p n):=⟨c',.inr (by rw[hf.hi n (Ze _) (by omega)];exact hf.lo _ (by omega))⟩
   refine KW.mono (fun m hm=>?_) (sK f (n+1) (by omega) (by omega) (hf.succ (by omega)) (hs.step O hx h1));exact⟨by omega,by omega,hm.2.2.1,hm.2.2.2.1,fun z=>hm.2.2.2.2 (by omega)⟩
theorem AS.rev{p:Array Nat}{n:Nat}(h:AS lt p n)(hn:n<=p.size):LS lt (kas_rev p 0 n) n:=fun i j hij hj=>by rw[dh hn,dh hn,if_pos (by omega),if_pos (by omega)];exact h _ _ (by omega) (by omega)
theorem vx{p:Array Nat}{n:Nat}(h1:1<=n)(hN:n<=N)(hf:Fx N p n)(ha:AS lt p n):KW lt (fun r=>r.1<=N/\1<=r.1/\Fx N r.2 r.1/\LS lt r.2 r.1) (kas_tail3 n N p):=by refine KW.bind (KW.mono (fun m hm=>?_) (sK O (N:=N) (N-n) n h1 (by omega) (hf.rev (Ze _) hN) (ha.rev O (by rw[hf.sz];exact hN))));exact⟨by omega,by omega,hm.2.2.1,hm.2.2.2.1⟩
structure Dn(lt:Nat->Nat->Bool)(p:Array Nat)(n q:Nat):Prop where
 hq:q+1<=n
 up:∀i j,i<j->j<n-(q+1)->Lx lt (gA p j) (gA p i)
 cr:∀i j,i<n-(q+1)->n-(q+1)<=j->j<n->lt (gA p j) (gA p i)=true
 eq:∀i j,n-(q+1)<=i->i<j->j<n->lt (gA p i) (gA p j)=false/\lt (gA p j) (gA p i)=false/\gA p i<gA p j
theorem Dn.rev{p:Array Nat}{n q:Nat}(h:Dn lt p n q)(hn:n<=p.size):AS lt (kas_rev p (n-(q+1)) n) n:=fun i j hij hj=>by
 have hq:=h.hq;rw[dh hn,dh hn];by_cases c1:n-(q+1)<=i
 ·rw[if_pos (by omega),if_pos (by omega)];obtain⟨e1,e2,e3⟩:=h.eq (n-(q+1)+n-1-j) (n-(q+1)+n-1-i) (by omega) (by omega) (by omega);exact⟨e2,.inr e3⟩
 ·rw[if_neg (show¬(n-(q+1)<=i/\i<n) by omega)];by_cases c2:n-(q+1)<=j
  ·rw[if_pos (by omega)];exact Lx.of_lt O (h.cr _ _ (by omega) (by omega) (by omega))
  ·rw[if_neg (by omega)];exact h.up _ _ hij (by omega)
theorem Dn.zero{p:Array Nat}{n:Nat}(h:Dn lt p n 0):AS lt p n:=fun i j hij hj=>by
 rcases Z2 j (n-1)with c|c
 ·exact h.up i j hij c
 ·exact Lx.of_lt O (h.cr i j (by omega) (by omega) hj)
theorem Dn.start{p:Array Nat}{n:Nat}(h:AS lt p n)(h1:1<=n)(hl:lt (gA p n) (gA p (n-1))=true):Dn lt p (n+1) 0:=by
 refine⟨by omega,fun i j hij hj=>h i j hij (by omega),fun i j hi h2 h3=>?_,fun i j h2 h3 h4=>absurd h3 (by omega)⟩;have e:j=n:=by omega
 subst e;rcases Z2 i (j-1)with h3|h3
 ·exact O.lt_le hl (h i (j-1) h3 (by omega)).1
 ·have e:i=j-1:=by omega
  subst e;exact hl
theorem lf:∀(f:Nat) {p:Array Nat} {n q:Nat},n+f<=N->Fx N p n->Dn lt p n q->KW lt (fun r=>n<=r.2.1/\r.2.1<=n+f/\Fx N r.1 r.2.1/\Dn lt r.1 r.2.1 r.2.2) (kas_desc f p n q)
 |0,_,n,_,_,hf,hd=>⟨Ze _,Ze _,hf,hd⟩
 |f+1,p,n,q,hN,hf,hd=>by
  have hs:n<=p.size:=by rw[hf.sz];omega
  have hq:=hd.hq;show KW lt _ (if lt (gA p n) (gA p (n-1))=true then(if q>0 then kas_desc f (kas_rev p (n-(q+1)) n) (n+1) 0 else kas_desc f p (n+1) 0)else KasT.ask (gA p (n-1)) (gA p n) fun d=>if d=true then .ret (p,n,q)else kas_desc f p (n+1) (q+1));by_cases c:lt (gA p n) (gA p (n-1))=true
  ·rw[if_pos c];have wk:∀{r:Array Nat×Nat×Nat},(n+1<=r.2.1/\r.2.1<=n+1+f/\Fx N r.1 r.2.1/\Dn lt r.1 r.2.1 r.2.2)->n<=r.2.1/\r.2.1<=n+(f+1)/\Fx N r.1 r.2.1/\Dn lt r.1 r.2.1 r.2.2:=fun h=>⟨by omega,by omega,h.2.2.1,h.2.2.2⟩
   by_cases cq:q>0
   ·rw[if_pos cq];have fr:=hf.rev (i:=n-(q+1)) (Ze n) (by omega);have e1:gA (kas_rev p (n-(q+1)) n) n=gA p n:=by rw[dh hs,if_neg (by omega)]
    have e2:gA (kas_rev p (n-(q+1)) n) (n-1)=gA p (n-(q+1)):=by rw[dh hs,if_pos (by omega)];congr 1;omega
    have l2:lt (gA p n) (gA p (n-(q+1)))=true:=O.lt_le c (hd.eq (n-(q+1)) (n-1) (Ze _) (by omega) (by omega)).1;refine KW.mono (fun r h=>wk h) (lf f (by omega) (fr.succ (by omega)) (Dn.start O (hd.rev O hs) (by omega) (by rw[e1,e2];exact l2)))
   ·rw[if_neg cq];have e:q=0:=by omega
    subst e;exact KW.mono (fun r h=>wk h) (lf f (by omega) (hf.succ (by omega)) (Dn.start O (hd.zero O) (by omega) c))
  ·rw[if_neg c];have c':=Y7.mpr c;show KW lt _ (if lt (gA p (n-1)) (gA p n)=true then _ else _);by_cases d:lt (gA p (n-1)) (gA p n)=true
   ·rw[if_pos d];exact⟨Ze _,Nat.le_add_right _ _,hf,hd⟩
   ·rw[if_neg d];have d':=Y7.mpr d;have gn:gA p n=n:=hf.hi n (Ze _) (by omega);have same:∀i,n-(q+1)<=i->i<n->lt (gA p i) (gA p n)=false/\lt (gA p n) (gA p i)=false:=fun i h1 h2=>by
     rcases Z2 i (n-1)with h3|h3
     ·obtain⟨a1,a2,_⟩:=hd.eq i (n-1) h1 h3 (by omega);exact⟨O.tr d' a1,O.tr a2 c'⟩
     ·have e:i=n-1:=by omega
      subst e;exact⟨d',c'⟩
    refine KW.mono (fun r h=>⟨by omega,by omega,h.2.2.1,h.2.2.2⟩) (lf f (n:=n+1) (q:=q+1) (by omega) (hf.succ (by omega)) ⟨by omega,fun i j hij hj=>hd.up i j hij (by omega),fun i j hi h2 h3=>?_,fun i j h1 h2 h3=>?_⟩)
    ·rcases Z2 j n with h4|h4
     ·exact hd.cr i j (by omega) (by omega) h4
     ·have e:j=n:=by omega
      subst e;exact O.le_lt d' (hd.cr i (j-1) (by omega) (by omega) (by omega))
    ·rcases Z2 j n with h4|h4
     ·exact hd.eq i j (by omega) h2 h4
     ·have e:j=n:=by omega
      subst e;obtain⟨a1,a2⟩:=same i (by omega) h2;exact⟨a1,a2,by rw[gn];exact hf.lo _ h2⟩
theorem me{p:Array Nat}{n:Nat}(h1:1<=n)(hN:n<N)(hf:Fx N p n)(ha:AS lt p n)(hl:lt (gA p n) (gA p (n-1))=true):KW lt (fun r=>r.1<=N/\1<=r.1/\Fx N r.2 r.1/\LS lt r.2 r.1) (kas_descPart n N p):=by
 refine KW.bind (KW.mono (fun r hr=>?_) (lf O (N:=N) (N-(n+1)) (by omega) (hf.succ hN) (Dn.start O ha h1 hl)));obtain⟨r1,r2,r3,r4⟩:=hr;show KW lt _ (if r.2.2>0 then _ else _);by_cases c:r.2.2>0
 ·rw[if_pos c];exact vx O (by omega) (by omega) (r3.rev (Ze _) (by omega)) (r4.rev O (by rw[r3.sz];omega))
 ·rw[if_neg c];have e:r.2.2=0:=by omega
  rw[e]at r4;exact vx O (by omega) (by omega) r3 (r4.zero O)
theorem AG{p:Array Nat}(hN:1<=N)(hf:Fx N p 1):KW lt (fun r=>r.1<=N/\1<=r.1/\Fx N r.2 r.1/\LS lt r.2 r.1) (kas_count N p):=by
 refine KW.bind (KW.mono (fun n hn=>?_) (sK O (N:=N) (N-1) 1 (Ze _) (by omega) hf (fun i j h1 h2=>absurd h1 (by omega))));obtain⟨n1,n2,nf,ns,nl⟩:=hn;show KW lt _ (if(n==N)=true then KasT.ret (n,p)else if n>1 then KasT.ask (gA p 0) (gA p (n-1)) (fun c=>if c=true then .ret (n,p)else kas_descPart n N (kas_rev p 0 n))else kas_descPart n N p);by_cases c:(n==N)=true
 ·rw[if_pos c];exact⟨by omega,n1,nf,ns⟩
 ·rw[if_neg c];have nN:n<N:=by have:n≠N:=fun z=>c (Z0.mpr z);omega
  have hl:=nl (by omega);by_cases c2:n>1
  ·rw[if_pos c2];show KW lt _ (if lt (gA p 0) (gA p (n-1))=true then _ else _);by_cases c3:lt (gA p 0) (gA p (n-1))=true
   ·rw[if_pos c3];exact⟨by omega,n1,nf,ns⟩
   ·rw[if_neg c3];have c3':=Y7.mpr c3;have hs:n<=p.size:=by rw[nf.sz];omega
    have le0:∀i,i<n->lt (gA p i) (gA p 0)=false:=fun i hi=>by
     rcases Nat.eq_zero_or_pos i with z|z
     ·subst z;cases e:lt (gA p 0) (gA p 0)with
      |false=>rfl
      |true=>rw[O.as e]at e;cases e
     ·exact(ns 0 i z hi).1
    have leN:∀i,i<n->lt (gA p (n-1)) (gA p i)=false:=fun i hi=>by
     rcases Z2 i (n-1)with z|z
     ·exact(ns i (n-1) z (by omega)).1
     ·have e:i=n-1:=by omega
      subst e;cases e:lt (gA p (n-1)) (gA p (n-1))with
      |false=>rfl
      |true=>rw[O.as e]at e;cases e
    have all:∀i j,i<n->j<n->lt (gA p i) (gA p j)=false:=fun i j hi hj=>O.tr (leN j hj) (O.tr c3' (le0 i hi));refine me O n1 nN (nf.rev (Ze _) (by omega)) (fun i j hij hj=>?_) ?_
    ·rw[dh hs,dh hs,if_pos (by omega),if_pos (by omega)];have z:=ns (0+n-1-j) (0+n-1-i) (by omega) (by omega);refine⟨all _ _ (by omega) (by omega),?_⟩;rcases z.2 with y|y
     ·rw[all _ _ (by omega) (by omega)]at y;cases y
     ·exact .inr y
    ·rw[dh hs,dh hs,if_neg (by omega),if_pos (by omega)];exact O.lt_le hl (all _ _ (by omega) (by omega))
  ·rw[if_neg c2];have e:n=1:=by omega
   subst e;exact me O n1 nN nf (fun i j h1 h2=>absurd h1 (by omega)) hl
theorem mK{p:Array Nat}{k:Nat}(hs:LS lt p k):∀(f l r:Nat),r-l<=f->r<=k->(∀i,i<l->i<k->lt (gA p k) (gA p i)=false)->(∀i,r<=i->i<k->lt (gA p k) (gA p i)=true)->l<=r ->
  KW lt (fun m=>m<=k/\(∀i,i<m->lt (gA p k) (gA p i)=false)/\∀i,m<=i->i<k->lt (gA p k) (gA p i)=true) (kas_place p k f l r)
 |0,l,r,h1,h2,h3,h4,h5=>⟨by omega,fun i hi=>h3 i hi (by omega),fun i hi=>h4 i (by omega)⟩
 |f+1,l,r,h1,h2,h3,h4,h5=>by
  show KW lt _ (if l>=r then KasT.ret l else KasT.ask (gA p k) (gA p ((l+r) / 2)) fun c=>if c=true then kas_place p k f l ((l+r) / 2)else kas_place p k f ((l+r) / 2+1) r);by_cases c:l>=r
  ·rw[if_pos c];exact⟨by omega,fun i hi=>h3 i hi (by omega),fun i hi=>h4 i (by omega)⟩
  ·rw[if_neg c];show KW lt _ (if lt (gA p k) (gA p ((l+r) / 2))=true then _ else _);by_cases d:lt (gA p k) (gA p ((l+r) / 2))=true
   ·rw[if_pos d];refine mK hs f l ((l+r) / 2) (by omega) (by omega) h3 (fun i hi hk=>?_) (by omega);rcases Nat.eq_or_lt_of_le hi with e|e
    ·rw[<-e];exact d
    ·exact O.lt_le d (hs _ _ e hk).1
   ·rw[if_neg d];have d':=Y7.mpr d;refine mK hs f ((l+r) / 2+1) r (by omega) h2 (fun i hi hk=>?_) h4 (by omega);rcases Z2 i ((l+r) / 2)with e|e
    ·exact O.tr (hs _ _ e (by omega)).1 d'
    ·have e:i=(l+r) / 2:=by omega
     rw[e];exact d'
end
open PySem PySem.Spec PyProof.Rows PySem.W
def Ite(K:PySem.W.Frag)(a:Addr)(xs:List V):It :=
 ⟨fun i H=>i<xs.length/\SqL K H a xs,fun i H x H'=>∃T p,H T=none/\xs[i]?=some p/\x=.ref T/\H'=upd H T (.tup [.int i,p]),fun i H=>i=xs.length/\SqL K H a xs⟩
abbrev eTn(e it a:Addr):Nat->Heap->Prop:=fun i h=>(∃old,IsEnum h e it i old)/\h.IsListIter it a i
theorem zK{P:Program}{w:World}{K:PySem.W.Frag}{elts:List Expr}{kt:Nat}{tp:Pos}{e it a:Addr}{xs:List V}(ne:e≠it)(ha:e≠a/\it≠a) :
  Turn P w K (.Tuple elts kt tp) (Ite K a xs) [e,it] e (eTn e it a):=by
 refine⟨by simp,fun i h st c hc=>?_,fun i h h' st k=>?_,?_,?_,fun A i s Q E st h=>?_⟩
 ·obtain⟨⟨old,e1⟩,⟨o4,e4,_,d4⟩⟩:=st;simp only[Zl,ZC,Z6]at hc;rcases hc with rfl|rfl
  ·exact⟨_,e1,fun v z=>nomatch z⟩
  ·exact⟨_,e4,fun v z=>by rw[d4]at z;cases z⟩
 ·obtain⟨⟨old,e1⟩,⟨o4,e4,r4⟩⟩:=st;exact⟨⟨old,k e (by simp) _ e1⟩,⟨o4,k it (by simp) _ e4,r4⟩⟩
 ·intro X hP hw hK hc i pins s σ H E I hf st hg;subst hP hw hK;obtain⟨⟨old,e1⟩,e4⟩:=st;obtain⟨hi,hx⟩:=hg;obtain⟨its,rx,px,zx⟩:=I.list hx;have lx:i<its.toArray.size:=by rw[Zi,<-rx.length];exact hi
  have hh:=I.ok.hd hc;refine wpAny_pyNext_enum_itemD (Draws.list (A:=X.A.in1) hh it a ha.2.symm its.toArray) e1 ⟨e4,px.isList⟩ lx ne (by simp[ne,ha.1]) fun x h' tk qx ho hs' hT hsz hk=>?_;refine⟨_,rfl,wpAny_letOwnedTupleGo_enum (s:={ s with heap:=h',toks:=tk+1 }) ho fun h2 he2 sb=>?_⟩;obtain⟨xv,ex⟩:∃xv,xs[i]?=some xv:=⟨xs[i],by simp[hi]⟩
  obtain⟨x',gx,rxv⟩:=rx.get ex;have qx':its[i]?=some x:=by simpa using qx
  rw[gx]at qx';cases qx';have lte:e<s.heap.objs.size:=Zn e1;have kp2:∀c o,c∉[e,it]->s.heap.get? c=some o->h2.get? c=some o:=fun c o hc q=>by simp only[Zl,ZC,Z6,not_or]at hc;exact sb.extBut c o hc.1 (hk c o hc.1 hc.2 q)
  have tT:IsTup h2 s.heap.objs.size [.int i tk,x].toArray:=⟨_,sb.extBut _ _ (Z9 lte) hT,rfl,_,rfl⟩
  refine⟨.ref s.heap.objs.size,upd H s.heap.objs.size (.tup [.int i,xv]),I.turnT (t':=tk+1) hf kp2 tT (.cons ⟨tk,rfl⟩ (.cons rxv .nil)) (sz rfl),rfl,⟨_,xv,I.hok.fresh (Ze _),ex,rfl,rfl⟩,?_,fun c hc=>?_⟩
  ·exact⟨⟨_,by simpa using he2⟩,hs'.1.extBut sb.extBut ne.symm⟩
  ·rw[ah]
   ·exact(hf c hc).1
   ·obtain⟨o,eo⟩:∃o,s.heap.get? c=some o:=by
     simp only[Zl,ZC,Z6]at hc;rcases hc with rfl|rfl
     ·exact⟨_,e1⟩
     ·obtain⟨o,eo,_⟩:=e4;exact⟨o,eo⟩
    exact ZD (Zn eo)
 ·intro X hP hw hK hc i pins s σ H E I hf st hg;subst hP hw hK;obtain⟨⟨old,e1⟩,e4⟩:=st;obtain⟨rfl,hx⟩:=hg;obtain⟨its,rx,px,zx⟩:=I.list hx;have lx:its.toArray.size=xs.length:=by rw[Zi,<-rx.length]
  have hh:=I.ok.hd hc;refine wpAny_pyNext_enum_endD (Draws.list (A:=X.A.in1) hh it a ha.2.symm its.toArray) e1 ⟨by rw[lx];exact e4,px.isList⟩ fun h' kp=>⟨rfl,?_⟩
  exact I.turnM (t':=s.toks) hf fun c ob hc q=>by simp only[Zl,ZC,Z6,not_or]at hc;exact kp c ob hc.2 q
 ·obtain⟨⟨old,e1⟩,_⟩:=st;exact wpAny_pyIter_enum e1 h
def BY(K:PySem.W.Frag)(ta:TA):TI:=fun σ H R=>ta σ H fun vs H1=>∃a xs,vs=[.ref a]/\H1 a=some (.lst xs)/\R (Ite K a xs) H1
section
variable{X:Cx}
theorem Dx{e1:Expr}{ta:TA}{p pos tp:Pos}{elts:List Expr}{kt:Nat}(hg:Gl X "enumerate")(hm:X.mg "enumerate" = none)(ha:PA X [e1] ta)(n1:aP e1=true):PI X (.Tuple elts kt tp) (.Call (.Name "enumerate" p) [e1] [] pos) (BY X.K ta):=by
 intro pins s σ H R I h;refine Call_ (hU I hg hm boot_enumerate (YF (thn (ha pos pins s σ H _ I h) fun us s1 hz9=>?_) (aY n1) (br (by simp))));obtain⟨vs,H1,I1,r1,q1⟩:=hz9;obtain⟨a,xs,e,hx,q⟩:=q1;subst e;obtain⟨ua,rfl,ra⟩:=fq r1;cases ra;obtain⟨z,its,n,rx,hl',eo⟩:=I1.lstM hx;have la:a<s1.heap.objs.size:=Zn eo;refine call_enumerate_1 eo fun h' he hl hz hk=>wpAny_pyIter_enum he ?_;refine⟨s1.heap.objs.size+1,[s1.heap.objs.size+1,s1.heap.objs.size],eTn (s1.heap.objs.size+1) s1.heap.objs.size a,_,H1,rfl,I1.kept (t':=s1.toks) hk,zK (Nat.succ_ne_self _) ⟨Z9 (Nat.lt_succ_of_lt la),Z9 la⟩,⟨⟨_,he⟩,hl⟩,fun c hc=>?_,q⟩;have hc':s1.heap.objs.size<=c:=by
  simp only[Zl,ZC,Z6]at hc;rcases hc with rfl|rfl
  ·exact Nat.le_succ _
  ·exact Ze _
 exact I1.fpOk hc' (I1.hok.fresh hc')
theorem yl{e1:Expr}{ta:TA}{p pos tp:Pos}{elts:List Expr}{kt:Nat}(hm:X.mg "enumerate" = none)(ha:QA X [e1] ta)(hg:Gl X "enumerate":=by rfl)(n1:aP e1=true:=by rfl):QI X (.Tuple elts kt tp) (.Call (.Name "enumerate" p) [e1] [] pos) (BY X.K ta):=⟨Dx hg hm ha.h n1⟩
end
theorem Av{K:PySem.W.Frag}{a:Addr}{xs:List V}{i j:Nat}{tb:TS}{D:Ends}{σ:St}{H:Hp}(Pv:Nat->St->Hp->Prop)(h0:Pv 0 σ H)(ha:∀i σ H,i<=xs.length->Pv i σ H->SqL K H a xs)(hs:∀k x σ H,xs[k]?=some x->Pv k σ H->∀T,H T=none->tb { D with nx:=Pv (k+1),ct:=Pv (k+1),bk:=D.nx } ((σ.set i (some (.int k))).set j (some x)) (upd H T (.tup [.int k,x])))(hd:∀σ H,Pv xs.length σ H->D.nx σ H) :
  ∃W:Nat->Nat->St->Hp->Prop,(∃m,W 0 m σ H)/\∀k m σ H,W k m σ H ->
   ((Ite K a xs).stop k H/\D.nx σ H)\/((Ite K a xs).go k H/\∃N:St->Hp->Prop,(∀σ' H',N σ' H'->∃m',m'<m/\W (k+1) m' σ' H')/\∀x H',(Ite K a xs).yld k H x H'->mI K 2 (fM (cL i) (fM (cL j) mH)) x σ H' fun σ2 H2=>tb { D with nx:=N,ct:=N,bk:=D.nx } σ2 H2):=by
 refine⟨fun k m σ H=>m=xs.length-k/\k<=xs.length/\Pv k σ H,⟨xs.length,by simp,y0 _,h0⟩,?_⟩;rintro k m σ H ⟨rfl,hk,pv⟩;by_cases hlt:k<xs.length
 ·refine .inr ⟨⟨hlt,ha k σ H hk pv⟩,Pv (k+1),fun σ' H' z=>⟨xs.length-(k+1),by omega,rfl,hlt,z⟩,fun x H' y=>?_⟩;obtain⟨T,p,hT,hx,rfl,rfl⟩:=y;exact⟨T,[.int k,p],rfl,SqT.of ae,rfl,.int k,[p],rfl,p,[],rfl,rfl,hs k p σ H hx pv T hT⟩
 ·have e:k=xs.length:=by omega
  subst e;exact .inl ⟨⟨rfl,ha _ σ H hk pv⟩,hd σ H pv⟩
open PySem PySem.Spec PyProof.Rows PySem.W
section
variable{X:Cx}{pins:List (Addr×Obj)}{σ:St}{H:Hp}{s:Shared}{h':Heap}
theorem Inv.movedF{ch:List Addr}{t':Nat}(I:Inv X pins σ H s)(hch:∀b∈ch,bC X pins H b)(k:∀b u,b≠X.env.locals->b∉ch->s.heap.get? b=some u->h'.get? b=some u)(hn:∃m,s.heap.Ns X.env.locals m/\h'.Ns X.env.locals m):Inv X pins σ H { s with heap:=h',toks:=t' }:=by
 have neL:∀{b:Addr} {u:HO},H b=some u->b≠X.env.locals:=fun{b u} e=>au e I.free;have neC:∀{b:Addr} {u:HO},H b=some u->b∉ch:=fun{b u} e z=>by have:=(hch b z).1;rw[e]at this;cases this
 refine I.step (g':=s.gens) (d':=s.drawn) (ch:=ch) (fun b hb=>⟨(hch b hb).2.2.2.1,(hch b hb).2.1,(hch b hb).2.2.2.2.1,(hch b hb).2.2.2.2.2⟩) (fun b o hL _ hc e _=>k b o hL hc e) (fun b o hL _ hc e _=>⟨o.slots,k b o hL hc e⟩) (fun b o _ e n=>n) (fun b o hc e=>?_)
  (fun b xs e=>e) (fun b o u e=>e) (fun b ps e=>⟨#[],by rw[e];simp⟩) (fun m' hm'=>?_) (fun b u e=>?_) I.bare
 ·by_cases hL:b=X.env.locals
  ·obtain⟨m,_,o',_,_,e',_⟩:=hn;exact⟨o',by rw[hL];exact e'⟩
  ·exact⟨o,k b o hL hc e⟩
 ·obtain⟨m,h1,h2⟩:=hn;rw[hm'.eq_nsMap,<-h1.eq_nsMap];exact h2
 ·refine(I.hok b u e).stay (fun c v hc q=>k c v ?_ ?_ q) (fun c q=>q) fun c ys q=>q
  ·rcases hc with z|z
   ·rw[z];exact neL e
   ·exact neL z
  ·rcases hc with z|z
   ·rw[z];exact neC e
   ·exact neC z
theorem Inv.tookF{ch:List Addr}{a:Addr}{o:HO}{t':Nat}(I:Inv X pins σ H s)(ha:a∈ch)(hch:∀b∈ch,bC X pins H b)(k:∀b u,b≠X.env.locals->b∉ch->s.heap.get? b=some u->h'.get? b=some u)(hn:∃m,s.heap.Ns X.env.locals m/\h'.Ns X.env.locals m)(new:ObjOk X.prog X.w (upd H a o) h' a o):Inv X pins σ (upd H a o) { s with heap:=h',toks:=t' }:=by
 have fr:=(hch a ha).1;have ne:∀{b:Addr} {u:HO},H b=some u->b≠a:=fun{b u} e=>au e fr;have neL:∀{b:Addr} {u:HO},H b=some u->b≠X.env.locals:=fun{b u} e=>au e I.free;have neC:∀{b:Addr} {u:HO},H b=some u->b∉ch:=fun{b u} e z=>by have:=(hch b z).1;rw[e]at this;cases this
 refine I.step (g':=s.gens) (d':=s.drawn) (ch:=ch) (fun b hb=>⟨(hch b hb).2.2.2.1,(hch b hb).2.1,(hch b hb).2.2.2.2.1,(hch b hb).2.2.2.2.2⟩) (fun b o hL _ hc e _=>k b o hL hc e) (fun b o hL _ hc e _=>⟨o.slots,k b o hL hc e⟩) (fun b o hc e n=>by rw[ah (fun z:b=a=>hc (by rw[z];exact ha))];exact n) (fun b o hc e=>?_)
  (fun b xs e=>by rw[ah (ne e)];exact e) (fun b o u e=>by rw[ah (ne e)];exact e) (fun b ps e=>⟨#[],by rw[ah (ne e),e];simp⟩) (fun m' hm'=>?_) (fun b u e=>?_) I.bare
 ·by_cases hL:b=X.env.locals
  ·obtain⟨m,_,o',_,_,e',_⟩:=hn;exact⟨o',by rw[hL];exact e'⟩
  ·exact⟨o,k b o hL hc e⟩
 ·obtain⟨m,h1,h2⟩:=hn;rw[hm'.eq_nsMap,<-h1.eq_nsMap];exact h2
 ·by_cases hb:b=a
  ·subst hb;rw[ae]at e;cases e;exact new
  ·rw[ah hb]at e;refine(I.hok b u e).stay (fun c v hc q=>k c v ?_ ?_ q) (fun c q=>by rw[ah (ne q)];exact q) fun c ys q=>by rw[ah (ne q)];exact q
   ·rcases hc with z|z
    ·rw[z];exact neL e
    ·exact neL z
   ·rcases hc with z|z
    ·rw[z];exact neC e
    ·exact neC z
def gQ(base h:Heap)(L kS:Addr):List (Addr×Obj):=(tM base h L).filter fun p=>decide (p.1≠kS)
theorem im{base h:Heap}{L kS:Addr}{o:Obj}(e:h.get? kS=some o)(hL:kS≠L)(hb:base.get? kS=none):News base L h ((kS,o)::gQ base h L kS):=fun p hp=>by
 rcases Zl.mp hp with rfl|hp
 ·exact⟨e,hL,hb⟩
 ·exact mm base h L p (Yb.mp hp).1
theorem jQ{base h:Heap}{L kS:Addr}:∀p∈gQ base h L kS,p.1≠kS:=fun p hp=>of_decide_eq_true (Yb.mp hp).2
theorem il{base h h2:Heap}{L kS:Addr}{o':Obj}{m:Str->Option Value}(hbk:∀b o,base.get? b=some o->h.get? b=some o)(F:Fr base L h2 m)(N:News base L h2 ((kS,o')::gQ base h L kS)):∀b u,b≠L->b∉[kS]->h.get? b=some u->h2.get? b=some u:=fun b u hL hk e=>by
 cases q:base.get? b with
 |none=>exact(N (b,u) (.tail _ (Yb.mpr ⟨gL e hL q,decide_eq_true (fun z=>hk (Zs.mpr z))⟩))).1
 |some o =>have e':=hbk b o q;rw[e]at e';cases e';exact F.keep b u q
structure SK(X:Cx)(pins:List (Addr×Obj))(σ:St)(H1:Hp)(m:Str->Option Value)(kS D:Addr)(e1:Nat)(ks:List (List Int))(as:List Addr)(e:Nat)(H:Hp)(s:Shared):Prop where
 I:Inv X pins σ H s
 sm:Same H1 H
 fk:bC X pins H kS
 fd:bC X pins H D
 bk:X.base.get? kS=none
 bd:X.base.get? D=none
 hk:s.heap.get? kS=some (seqObj "list" (List.toArray (as.map Value.ref)) e)
 hd:s.heap.get? D=some (seqObj "list" #[] e1)
 ns:s.heap.Ns X.env.locals m
 keys:∀(i:Nat) (a:Addr) (k:List Int),as[i]?=some a->ks[i]?=some k->H a=some (.tup (k.map V.int))
end
open PySem PySem.Spec PyProof.Rows PySem.W
theorem yu:∀{a b:List Int},HT.lexLt a b=true->HT.lexLt b a=false
 | [],[],h=>by cases h
 | [],_::_,_=>rfl
 |_::_,[],h=>by cases h
 |x::a,y::b,h=>by
  rw[HT.lexLt_cons]at h ⊢;by_cases e:x=y
  ·subst e;rw[if_pos rfl]at h ⊢;exact yu h
  ·rw[if_neg e]at h;rw[if_neg (fun z=>e z.symm)];have:=of_decide_eq_true h;exact decide_eq_false (by omega)
theorem yw:∀{a b c:List Int},HT.lexLt b a=false->HT.lexLt c b=false->HT.lexLt c a=false
 | [],[],[],_,_=>rfl
 | [],[],_::_,_,_=>rfl
 | [],_::_,[],_,h=>by cases h
 | [],_::_,_::_,_,_=>rfl
 |_::_,[],_,h,_=>by cases h
 |_::_,_::_,[],_,h=>by cases h
 |x::a,y::b,z::c,h,k=>by
  rw[HT.lexLt_cons]at h k ⊢;by_cases e:y=x
  ·subst e;rw[if_pos rfl]at h;by_cases e2:z=y
   ·rw[if_pos e2]at k ⊢;exact yw h k
   ·rw[if_neg e2]at k ⊢;exact k
  ·rw[if_neg e]at h;have h':=of_decide_eq_false h;by_cases e2:z=y
   ·rw[if_neg (by omega)];exact decide_eq_false (by omega)
   ·rw[if_neg e2]at k;have k':=of_decide_eq_false k;rw[if_neg (by omega)];exact decide_eq_false (by omega)
theorem EU(ks:List (List Int)):LtOk (fun i j=>HT.lexLt (ks.getD i []) (ks.getD j [])):=⟨yu,yw⟩
section
variable{X:Cx}{pins:List (Addr×Obj)}{σ:St}{H:Hp}{s:Shared}
def wX(X:Cx)(l:List Addr):Cx:={ X with ex:=l++X.ex }
structure ExOk(X:Cx)(b:Addr):Prop where
 old:b∈X.ex\/X.s₀.heap.get? b=none
 loc:b≠X.env.locals
 cel:∀x c,X.env.cells.lookup x=some c->c≠b
 bas:X.base.get? b=none
 fs:b∉X.fs
theorem Inv.widen{l:List Addr}(I:Inv X pins σ H s)(hl:∀b∈l,ExOk X b):Inv (wX X l) pins σ H s:=by
 have ok:(wX X l).Ok:=by
  have o:=I.ok;refine⟨o.mod,o.kind,o.glob,o.blt,o.above,o.inj,o.has,o.cab,o.hd,o.frames,o.stk,fun b hb=>?_,o.bs,o.bsz,fun b ob hb z=>?_,fun b hb=>?_,o.funs,o.frf⟩
  ·rcases ZF.mp hb with h|h
   ·exact⟨(hl b h).loc,(hl b h).cel⟩
   ·exact o.exf b h
  ·rcases ZF.mp z with h|h
   ·have hb':X.base.get? b=some ob:=hb;rw[(hl b h).bas]at hb';cases hb'
   ·exact o.noex b ob hb h
  ·rcases ZF.mp hb with h|h
   ·exact(hl b h).fs
   ·exact o.exfs b h
 have ne:∀{b:Addr},b∉l++X.ex->b∉X.ex:=fun h z=>h (ZQ _ z);have u:=I.base;exact⟨ok,I.os,I.bare,⟨fun b o e n hb hx=>u.keep b o e n hb (ne hx),fun b o e n hb hx=>u.slot b o e n hb (ne hx),fun b o e n hx=>u.free b o e n (ne hx),fun b o e hx=>u.there b o e (ne hx),u.tups,u.frzs,u.tbls⟩,I.loc,I.cell,I.free,I.freeC,I.pin,I.hok,I.len⟩
theorem Inv.narrow{l:List Addr}(I:Inv (wX X l) pins σ H s)(ok:X.Ok)(hl:∀b∈l,b∈X.ex\/X.s₀.heap.get? b=none):Inv X pins σ H s:=by
 have ne:∀{b:Addr} {o:Obj},X.s₀.heap.get? b=some o->b∉X.ex->b∉l++X.ex:=fun{b o} e h z=>by
  rcases ZF.mp z with z|z
  ·rcases hl b z with y|y
   ·exact h y
   ·rw[y]at e;cases e
  ·exact h z
 have u:=I.base;exact⟨ok,I.os,I.bare,⟨fun b o e n hb hx=>u.keep b o e n hb (ne e hx),fun b o e n hb hx=>u.slot b o e n hb (ne e hx),fun b o e n hx=>u.free b o e n (ne e hx),fun b o e hx=>u.there b o e (ne e hx),u.tups,u.frzs,u.tbls⟩,I.loc,I.cell,I.free,I.freeC,I.pin,I.hok,I.len⟩
theorem Inv.exOk(I:Inv X pins σ H s){b:Addr}(hb:s.heap.get? b=none)(hL:b≠X.env.locals)(h0:X.base.get? b=none):ExOk X b:=by
 have old:b∈X.ex\/X.s₀.heap.get? b=none:=by
  by_cases hx:b∈X.ex
  ·exact .inl hx
  ·cases e:X.s₀.heap.get? b with
   |none=>exact .inr rfl
   |some o =>obtain⟨o',e'⟩:=I.base.there b o e hx;rw[hb]at e';cases e'
 refine⟨old,hL,fun x c e z=>?_,h0,fun z=>?_⟩
 ·obtain⟨v,o,ho,_⟩:=I.cell x c e;rw[z,hb]at ho;cases ho
 ·obtain⟨_,o,ho,_⟩:=I.ok.funs.mem z;rcases old with y|y
  ·exact I.ok.exfs b y z
  ·rw[y]at ho;cases ho
theorem Inv.fpW{l:List Addr}(I:Inv X pins σ H s){b:Addr}(hm:b∈l)(x:ExOk X b)(hb:s.heap.get? b=none):bC (wX X l) pins H b:=by refine⟨none_of I hb,x.loc,x.fs,.inl (List.mem_append_left _ hm),x.cel,fun p hp z=>?_⟩;have:=(I.pin p hp).1;rw[z,hb]at this;cases this
end
open PySem PySem.Spec PyProof.Rows PySem.W
section
variable{X:Cx}{o i value:Expr}{pos pos':Pos}{td ty tv:TE}
theorem jO:QE X (.Dict [] [] pos) zE:=⟨Be⟩
theorem di(hu:X.A.units+64<cLine)(ho:QE X o td)(hi:QE X i ty)(hs:Ab i:=by intro _ _;rfl):QE X (.Subscript o i pos) (Cs td ty):=⟨Ds (by omega) ho.h hi.h hs⟩
theorem Cg(hu:X.A.units+64<cLine)(hi:QE X i ty)(ho:QE X o td)(hm:behindInMarks .In o=false:=by with_unfolding_all rfl):QE X (.Compare i [.In] [o] pos) (BH ty td):=⟨Fs (yO (by omega) hi.h ho.h) hm⟩
theorem ow(hu:X.A.units+64<cLine)(hi:QE X i ty)(ho:QE X o td)(hm:behindInMarks .In o=false:=by with_unfolding_all rfl):QT X (.Compare i [.In] [o] pos) (tB (BH ty td)):=⟨yY (yO (by omega) hi.h ho.h) hm⟩
theorem BI(hu:X.A.units+64<cLine)(hi:QE X i ty)(ho:QE X o td)(hm:behindInMarks .NotIn o=false:=by with_unfolding_all rfl):QT X (.Compare i [.NotIn] [o] pos) (tB (vT ty td)):=⟨yY (yP (by omega) hi.h ho.h) hm⟩
theorem dU(hu:X.A.units+64<cLine)(ho:QE X o td)(hi:QE X i ty)(hv:QE X value tv)(hs:swapsWith value (some (.Subscript o i pos')) pos.line X.env=pure false:=by rfl):QS X (.Assign [.Subscript o i pos'] value pos) (Cm td ty tv):=⟨DF (by omega) ho.h hi.h hv.h hs⟩
end
open PySem PySem.Spec PyProof.Rows PySem.W
open PySem PySem.Spec PyProof.Rows PySem.W
open PySem PySem.Spec PyProof.Rows PySem.W
open Classical in
noncomputable def kg(h:Heap)(dx:PyData)(u:Value):Bool:=decide (∃d as,Reads h u d as/\PyData.canLay0 d=true/\PyData.eqv d dx=true)
open Classical in
theorem oS{h:Heap}{dx d:PyData}{u:Value}{as:List Addr}(r:Reads h u d as)(hl:d.canLay0=true):kg h dx u=PyData.eqv d dx:=by
 unfold kg;cases e:PyData.eqv d dx with
 |true=>exact decide_eq_true ⟨d,as,r,hl,e⟩
 |false =>refine decide_eq_false ?_;rintro⟨d',as',r',l',e'⟩;rw[SeqAt.Reads.unique d d' u as as' hl r r',e']at e;cases e
section
variable{P:Program}{w:World}{H:Hp}{h:Heap}
theorem jq(ok:HOk P w H h):∀{ds:List PyData} {xs:List V} {us:List Value},DtAll H ds xs->Vals xs us->PyData.canLayAll0 ds=true->∀dx:PyData,us.any (kg h dx)=ds.any (fun d=>PyData.eqv d dx)/\us.countP (kg h dx)=ds.countP (fun d=>PyData.eqv d dx)/\∀u∈us,∃d as,d∈ds/\Reads h u d as/\d.canLay0=true
 | [],xs,us,hd,r,_,dx=>by
  have e:xs=[]:=by simpa only[DtAll]using hd
  subst e;cases r;exact⟨rfl,rfl,fun u hu=>nomatch hu⟩
 |d::ds,xs,us,hd,r,hl,dx=>by
  have e:∃y ys,xs=y::ys/\Dt H d y/\DtAll H ds ys:=by simpa only[DtAll]using hd
  obtain⟨y,ys,rfl,h1,h2⟩:=e;cases r with
  |cons r1 r2 =>
   have hl':d.canLay0=true/\PyData.canLayAll0 ds=true:=by simpa[PyData.canLayAll0]using hl
   obtain⟨as,q1⟩:=Dt.reads ok d y _ h1 r1;obtain⟨i1,i2,i3⟩:=jq ok h2 r2 hl'.2 dx;refine⟨by rw[Y6,Y6,oS q1 hl'.1,i1],by rw[List.countP_cons,List.countP_cons,oS q1 hl'.1,i2],fun u hu=>?_⟩;rcases Zl.mp hu with rfl|hu
   ·exact⟨d,as,by simp,q1,hl'.1⟩
   ·obtain⟨d',as',m,z⟩:=i3 u hu;exact⟨d',as',by simp[m],z⟩
end
section
variable{X:Cx}
def FY(K:PySem.W.Frag)(neg:Bool):R2:=fun x y H Q=>∃(p:Addr) (xs:List V) (dx:PyData) (ds:List PyData),y=.ref p/\SqL K H p xs/\Dt H dx x/\DtAll H ds xs/\SeqAt.shaped dx=true/\PyData.canLayAll0 ds=true/\Q (.bl (if neg then !(ds.any fun d=>PyData.eqv d dx)else ds.any fun d=>PyData.eqv d dx)) H
theorem xZ{pins:List (Addr×Obj)}{σ:St}{H:Hp}{s:Shared}{A:Around}{dx:PyData}{x:V}{v:Value}{ds:List PyData}{xs:List V}{us:List Value}(I:Inv X pins σ H s)(hu:A.units+64<cLine)(h1:Dt H dx x)(rx:RelV x v)(h2:DtAll H ds xs)(r:Vals xs us)(s1:SeqAt.shaped dx=true)(s2:PyData.canLayAll0 ds=true):∀u∈us,SeqAt.EqAt A s u v (kg s.heap dx u):=fun u hu'=>by obtain⟨_,_,z⟩:=jq I.hok h2 r s2 dx;obtain⟨d,as,_,q1,q2⟩:=z u hu';obtain⟨bs,q3⟩:=Dt.reads I.hok dx x v h1 rx;rw[oS q1 q2];refine SeqAt.eqAt_reads d dx A s u v as bs q1 q3 q2 (SeqAt.canLay_of_shaped s1) ?_;have d1:=SeqAt.depth_of_shaped s1;have d2:min d.depth dx.depth<=dx.depth:=Nat.min_le_right _ _;omega
theorem Fg(hu:X.A.in1.units+64<cLine):OpR X (compareOp .In) (FY X.K false):=by intro pins s σ H x y v u Q I rx ry h;obtain⟨p,xs,dx,ds,rfl,hq,h1,h2,s1,s2,q⟩:=h;cases ry;obtain⟨its,r,pl,hz⟩:=I.list hq;refine SeqAt.in_listAt (kg s.heap dx) pl.isList (fun w hw=>xZ I hu h1 rx h2 r s1 s2 w (by simpa using hw)) ⟨.bl _,H,I,rfl,?_⟩;rw[show its.toArray.any (kg s.heap dx)=its.any (kg s.heap dx) by simp,(jq I.hok h2 r s2 dx).1];exact q
theorem Hg{k:Nat}(hr:Room k X.A):QOp X (compareOp .In) (FY X.K false):=⟨Fg (by have:=hr.un;show X.A.units+_+64<_;omega)⟩
end
open PySem PySem.Spec PyProof.Rows PySem.W
def Ej(K:PySem.W.Frag)(a b:Addr)(xs ys:List V):It :=
 ⟨fun i H=>i<xs.length/\SqL K H a xs/\SqL K H b ys,fun i H x H'=>∃T p q,H T=none/\xs[i]?=some p/\ys[i]?=some q/\x=.ref T/\H'=upd H T (.tup [p,q]),fun i H=>i=xs.length/\SqL K H a xs/\SqL K H b ys⟩
abbrev GI(z u v i1 i2 a b:Addr):Nat->Heap->Prop:=fun i h=>IsZip h z u v .none/\IsPair h u (.ref i1) (.ref i2)/\(∃p q,IsPair h v p q)/\h.IsListIter i1 a i/\h.IsListIter i2 b i
theorem zO{P:Program}{w:World}{K:PySem.W.Frag}{elts:List Expr}{kt:Nat}{tp:Pos}{z u v i1 i2 a b:Addr}{xs ys:List V}(hl:xs.length=ys.length)(D:[z,u,v,i1,i2].Nodup)(ha:∀c∈[z,u,v,i1,i2],c≠a/\c≠b) :
  Turn P w K (.Tuple elts kt tp) (Ej K a b xs ys) [z,u,v,i1,i2] z (GI z u v i1 i2 a b):=by
 have nd:(z≠u/\z≠v/\z≠i1/\z≠i2)/\(u≠v/\u≠i1/\u≠i2)/\(v≠i1/\v≠i2)/\i1≠i2:=by simpa using D
 obtain⟨⟨zu,zv,z1,z2⟩,⟨uv,u1,u2⟩,⟨v1,v2⟩,i12⟩:=nd;have az:=ha z (by simp);have av:=ha v (by simp);have a1:=ha i1 (by simp);have a2:=ha i2 (by simp);have ap:ZAp z u v i1 i2 [i1,a] [i2,b]:=⟨zu.symm,zv.symm,uv,u1,u2,v1,v2,z1.symm,z2.symm,i12,by simp[z1,az.1],by simp[z2,az.2],by simp[v1,av.1],by simp[v2,av.2],by simp[i12.symm,a2.1],by simp[i12,a1.2]⟩
 refine⟨by simp,fun i h st c hc=>?_,fun i h h' st k=>?_,?_,?_,fun A i s Q E st h=>wpAny_pyIter_zip st.1 h⟩
 ·obtain⟨e1,e2,⟨p,q,e3⟩,⟨o4,e4,_,d4⟩,⟨o5,e5,_,d5⟩⟩:=st;simp only[Zl,ZC,Z6]at hc;rcases hc with rfl|rfl|rfl|rfl|rfl
  ·exact⟨_,e1,fun v z=>nomatch z⟩
  ·exact⟨_,e2,fun v z=>nomatch z⟩
  ·exact⟨_,e3,fun v z=>nomatch z⟩
  ·exact⟨_,e4,fun v z=>by rw[d4]at z;cases z⟩
  ·exact⟨_,e5,fun v z=>by rw[d5]at z;cases z⟩
 ·obtain⟨e1,e2,⟨p,q,e3⟩,⟨o4,e4,r4⟩,⟨o5,e5,r5⟩⟩:=st;exact⟨k z (by simp) _ e1,k u (by simp) _ e2,⟨p,q,k v (by simp) _ e3⟩,⟨o4,k i1 (by simp) _ e4,r4⟩,⟨o5,k i2 (by simp) _ e5,r5⟩⟩
 ·intro X hP hw hK hc i pins s σ H E I hf st hg;subst hP hw hK;obtain⟨e1,e2,⟨p,q,e3⟩,e4,e5⟩:=st;obtain⟨hi,hx,hy⟩:=hg;obtain⟨its,rx,px,zx⟩:=I.list hx;obtain⟨jts,ry,py,zy⟩:=I.list hy;have lx:i<its.toArray.size:=by rw[Zi,<-rx.length];exact hi
  have ly:i<jts.toArray.size:=by rw[Zi,<-ry.length,<-hl];exact hi
  have hh:=I.ok.hd hc;have hT:s.TypeIs (.ref z) "zip":=⟨_,e1,rfl⟩
  unfold pyNext;refine Za (wpAny_attempt (Z7 (name:=Str.ofString "__next__") hT YS (Yy YS hT F.entry_zip_next
   (um (Draws.list (A:=X.A.in1) hh i1 a a1.1.symm its.toArray) (Draws.list (A:=X.A.in1) hh i2 b a2.2.symm jts.toArray) ap e1 e2 e3 ⟨e4,px.isList⟩ ⟨e5,py.isList⟩ lx ly fun h' tk x y qx qy zz vv s1 s2 pp kp=>Zh ?_) (F.args_zip_next_1 _))))
  refine⟨_,rfl,wpAny_letOwnedTupleGo_zip (s:={ s with heap:=h',toks:=tk }) zz fun h2 z2' sb=>?_⟩;obtain⟨xv,ex⟩:∃xv,xs[i]?=some xv:=⟨xs[i],by simp[hi]⟩
  obtain⟨yv,ey⟩:∃yv,ys[i]?=some yv:=⟨ys[i]'(by omega),by simp[show i<ys.length by omega]⟩
  obtain⟨x',gx,rxv⟩:=rx.get ex;obtain⟨y',gy,ryv⟩:=ry.get ey;have qx':its[i]?=some x:=by simpa using qx
  have qy':jts[i]?=some y:=by simpa using qy
  rw[gx]at qx';rw[gy]at qy';cases qx';cases qy';have ltz:z<s.heap.objs.size:=Zn e1;have kp2:∀c o,c∉[z,u,v,i1,i2]->s.heap.get? c=some o->h2.get? c=some o:=fun c o hc e=>by simp only[Zl,ZC,Z6,not_or]at hc;exact sb.extBut c o hc.1 (kp c o hc.1 hc.2.2.1 hc.2.2.2.1 hc.2.2.2.2 e)
  have tT:IsTup h2 s.heap.objs.size [x,y].toArray:=⟨_,sb.extBut _ _ (Z9 ltz) pp,rfl,_,rfl⟩
  refine⟨.ref s.heap.objs.size,upd H s.heap.objs.size (.tup [xv,yv]),I.turnT (t':=tk) hf kp2 tT (.cons rxv (.cons ryv .nil)) (sz rfl),rfl,⟨_,xv,yv,I.hok.fresh (Ze _),ex,ey,rfl,rfl⟩,?_,fun c hc=>?_⟩
  ·exact⟨z2',sb.extBut _ _ zu.symm (kp _ _ zu.symm uv u1 u2 e2),⟨_,_,sb.extBut _ _ zv.symm vv⟩,s1.1.extBut sb.extBut z1.symm,s2.1.extBut sb.extBut z2.symm⟩
  ·rw[ah]
   ·exact(hf c hc).1
   ·obtain⟨o,eo,_⟩:∃o,s.heap.get? c=some o/\True:=by
     simp only[Zl,ZC,Z6]at hc;rcases hc with rfl|rfl|rfl|rfl|rfl
     ·exact⟨_,e1,trivial⟩
     ·exact⟨_,e2,trivial⟩
     ·exact⟨_,e3,trivial⟩
     ·obtain⟨o,eo,_⟩:=e4;exact⟨o,eo,trivial⟩
     ·obtain⟨o,eo,_⟩:=e5;exact⟨o,eo,trivial⟩
    exact ZD (Zn eo)
 ·intro X hP hw hK hc i pins s σ H E I hf st hg;subst hP hw hK;obtain⟨e1,e2,⟨p,q,e3⟩,e4,e5⟩:=st;obtain⟨rfl,hx,hy⟩:=hg;obtain⟨its,rx,px,zx⟩:=I.list hx;obtain⟨jts,ry,py,zy⟩:=I.list hy;have lx:its.toArray.size=xs.length:=by rw[Zi,<-rx.length]
  have hh:=I.ok.hd hc;have hT:s.TypeIs (.ref z) "zip":=⟨_,e1,rfl⟩
  unfold pyNext;refine Za (wpAny_attempt (Z7 (name:=Str.ofString "__next__") hT YS (Yy YS hT F.entry_zip_next
   (vX (Draws.list (A:=X.A.in1) hh i1 a a1.1.symm its.toArray) (Draws.list (A:=X.A.in1) hh i2 b a2.2.symm jts.toArray) ap e1 e2 e3 ⟨by rw[lx];exact e4,px.isList⟩ fun h' e kp he=>?_) (F.args_zip_next_1 _))))
  obtain⟨o,ho,hco⟩:=he;refine Za (wpAny_isInstance (T:="StopIteration") (b:=true) ⟨o,ho,hco⟩ isSubtype_stop (Zh ⟨rfl,?_⟩));exact I.turnM (t':=s.toks) hf fun c ob hc e=>by simp only[Zl,ZC,Z6,not_or]at hc;exact kp c ob hc.1 hc.2.2.1 hc.2.2.2.1 hc.2.2.2.2 e
theorem wW(l1 l2:Addr)(xs ys:Array Value) :
  Meets (Builtin.«zip.__new__» ⟨[.type "zip",.ref l1,.ref l2],[]⟩) (fun _ R s=>s.heap.IsList l1 xs/\s.heap.IsList l2 ys /\
   R (.ok (.ret (.ref ((((s.heap.push { cls:=.type "list_iterator",data:=.fields #[.ref l1,.int 0 0] }).push { cls:=.type "list_iterator",data:=.fields #[.ref l2,.int 0 0] }).push { cls:=.type "tuple",data:=.seq #[.ref s.heap.objs.size,.ref (s.heap.push { cls:=.type "list_iterator",data:=.fields #[.ref l1,.int 0 0] }).objs.size] }).push { cls:=.type "tuple",data:=.seq #[.none,.none] }).objs.size)))
    { s with heap:=((((s.heap.push { cls:=.type "list_iterator",data:=.fields #[.ref l1,.int 0 0] }).push { cls:=.type "list_iterator",data:=.fields #[.ref l2,.int 0 0] }).push { cls:=.type "tuple",data:=.seq #[.ref s.heap.objs.size,.ref (s.heap.push { cls:=.type "list_iterator",data:=.fields #[.ref l1,.int 0 0] }).objs.size] }).push { cls:=.type "tuple",data:=.seq #[.none,.none] }).push { cls:=.type "zip",data:=.fields #[.none,.bool false,.bool false,.ref ((s.heap.push { cls:=.type "list_iterator",data:=.fields #[.ref l1,.int 0 0] }).push { cls:=.type "list_iterator",data:=.fields #[.ref l2,.int 0 0] }).objs.size,.ref (((s.heap.push { cls:=.type "list_iterator",data:=.fields #[.ref l1,.int 0 0] }).push { cls:=.type "list_iterator",data:=.fields #[.ref l2,.int 0 0] }).push { cls:=.type "tuple",data:=.seq #[.ref s.heap.objs.size,.ref (s.heap.push { cls:=.type "list_iterator",data:=.fields #[.ref l1,.int 0 0] }).objs.size] }).objs.size] } }) :=
 .of_wp fun prog w A R s h=>by
  obtain⟨hp,g,d,tk,os⟩:=s;obtain⟨t1,t2,h⟩:=h;have hsub:=sub_zip;have T1:Heap.IsList (Shared.heap ⟨hp,g,d,tk,os⟩) l1 xs:=t1;have T2:Heap.IsList (Shared.heap ⟨hp.push { cls:=.type "list_iterator",data:=.fields #[.ref l1,.int 0 0] },g,d,tk,os⟩) l2 ys:=Heap.IsList.push t2 _
  wp_walk using wpAny_pyIter_list T1,wpAny_pyIter_list T2
  exact⟨_,rfl,h⟩
def B8(K:PySem.W.Frag)(ta:TA):TI:=fun σ H R=>ta σ H fun vs H1=>∃a b xs ys,vs=[.ref a,.ref b]/\SqL K H1 a xs/\SqL K H1 b ys/\xs.length=ys.length/\R (Ej K a b xs ys) H1
section
variable{X:Cx}
theorem Dz{e1 e2:Expr}{ta:TA}{p pos tp:Pos}{elts:List Expr}{kt:Nat}(hg:Gl X "zip")(hm:X.mg "zip" = none)(ha:PA X [e1,e2] ta)(n1:aP e1=true)(n2:aP e2=true):PI X (.Tuple elts kt tp) (.Call (.Name "zip" p) [e1,e2] [] pos) (B8 X.K ta):=by
 intro pins s σ H R I h;refine Call_ (hU I hg hm boot_zip (YF (thn (ha pos pins s σ H _ I h) fun us s1 hz9=>?_) (aY n1) (br (by simp[n2]))));obtain⟨vs,H1,I1,r1,q1⟩:=hz9;obtain⟨a,b,xs,ys,e,hx,hy,hl,q⟩:=q1;subst e;obtain⟨ua,ub,rfl,ra,rb⟩:=xJ r1;cases ra;cases rb;obtain⟨its,rx,px,zx⟩:=I1.list hx;obtain⟨jts,ry,py,zy⟩:=I1.list hy;refine callType_new F.called_zip (by decide) (F.typeCall_zip_2 _ _) (F.newCall_zip_2 _ _) (fun obj=>F.args_object_init_3 obj _ _) F.entry_zip_new (wW a b its.toArray jts.toArray) ⟨px.isList,py.isList,?_⟩;generalize ea:({ cls:=.type "list_iterator",data:=.fields #[.ref a,.int 0 0] }:Obj)=oa;generalize eb:({ cls:=.type "list_iterator",data:=.fields #[.ref b,.int 0 0] }:Obj)=ob;have z1:(s1.heap.push oa).objs.size=s1.heap.objs.size+1:=Yq ..;have z2:((s1.heap.push oa).push ob).objs.size=s1.heap.objs.size+2:=by rw[Yq,z1]
 rw[z2,z1];generalize eu:({ cls:=.type "tuple",data:=.seq #[.ref s1.heap.objs.size,.ref (s1.heap.objs.size+1)] }:Obj)=ou;have z3:(((s1.heap.push oa).push ob).push ou).objs.size=s1.heap.objs.size+3:=by rw[Yq,z2]
 generalize ev:({ cls:=.type "tuple",data:=.seq #[.none,.none] }:Obj)=ov;have z4:((((s1.heap.push oa).push ob).push ou).push ov).objs.size=s1.heap.objs.size+4:=by rw[Yq,z3]
 rw[z4,z3];generalize ez:({ cls:=.type "zip",data:=.fields #[.none,.bool false,.bool false,.ref (s1.heap.objs.size+2),.ref (s1.heap.objs.size+3)] }:Obj)=oz;have g5:(((((s1.heap.push oa).push ob).push ou).push ov).push oz).get? (s1.heap.objs.size+4)=some oz:=by rw[<-z4];exact Zo _ (by rw[<-ez];rfl)
 have g4:(((((s1.heap.push oa).push ob).push ou).push ov).push oz).get? (s1.heap.objs.size+3)=some ov:=by rw[<-z3];exact Zb _ (Zo _ (by rw[<-ev];rfl))
 have g3:(((((s1.heap.push oa).push ob).push ou).push ov).push oz).get? (s1.heap.objs.size+2)=some ou:=by rw[<-z2];exact Zb _ (Zb _ (Zo _ (by rw[<-eu];rfl)))
 have g2:(((((s1.heap.push oa).push ob).push ou).push ov).push oz).get? (s1.heap.objs.size+1)=some ob:=by rw[<-z1];exact Zb _ (Zb _ (Zb _ (Zo _ (by rw[<-eb];rfl))))
 have g1:(((((s1.heap.push oa).push ob).push ou).push ov).push oz).get? s1.heap.objs.size=some oa:=Zb _ (Zb _ (Zb _ (Zb _ (Zo _ (by rw[<-ea];rfl)))));have kp:∀c o,s1.heap.get? c=some o->(((((s1.heap.push oa).push ob).push ou).push ov).push oz).get? c=some o:=fun c o e=>Zb _ (Zb _ (Zb _ (Zb _ (Zb _ e))));generalize((((s1.heap.push oa).push ob).push ou).push ov).push oz=hN at g1 g2 g3 g4 g5 kp ⊢;have I2:Inv X pins σ H1 { s1 with heap:=hN }:=I1.kept (t':=s1.toks) kp;have la:a<s1.heap.objs.size:=(let⟨_,ho,_⟩:=px.isList;Zn ho)
 have lb:b<s1.heap.objs.size:=(let⟨_,ho,_⟩:=py.isList;Zn ho)
 subst ea eb eu ev ez;have base:∀c∈[s1.heap.objs.size+4,s1.heap.objs.size+2,s1.heap.objs.size+3,s1.heap.objs.size,s1.heap.objs.size+1],s1.heap.objs.size<=c:=fun c hc=>by simp only[Zl,ZC,Z6]at hc;omega
 refine⟨⟨_,g5,rfl⟩,?_⟩;show wpAny (model X.prog X.w) X.A (pyIter (.ref (s1.heap.objs.size+4))) (PIE X pins σ (.Tuple elts kt tp) R) X.xe { s1 with heap:=hN };refine wpAny_pyIter_zip g5 ?_;refine⟨s1.heap.objs.size+4,[s1.heap.objs.size+4,s1.heap.objs.size+2,s1.heap.objs.size+3,s1.heap.objs.size,s1.heap.objs.size+1],GI (s1.heap.objs.size+4) (s1.heap.objs.size+2) (s1.heap.objs.size+3) s1.heap.objs.size (s1.heap.objs.size+1) a b,_,H1,rfl,I2,
  zO hl ?_ (fun c hc=>⟨Z9 (ZB la (base c hc)),Z9 (ZB lb (base c hc))⟩),⟨g5,g3,⟨_,_,g4⟩,⟨_,g1,rfl,rfl⟩,⟨_,g2,rfl,rfl⟩⟩,fun c hc=>?_,q⟩
 ·exact yB s1.heap.objs.size
 ·exact I1.fpOk (base c hc) (I1.hok.fresh (base c hc))
theorem EL{e1 e2:Expr}{ta:TA}{p pos tp:Pos}{elts:List Expr}{kt:Nat}(hm:X.mg "zip" = none)(ha:QA X [e1,e2] ta)(hg:Gl X "zip":=by rfl)(n1:aP e1=true:=by rfl)(n2:aP e2=true:=by rfl):QI X (.Tuple elts kt tp) (.Call (.Name "zip" p) [e1,e2] [] pos) (B8 X.K ta):=⟨Dz hg hm ha.h n1 n2⟩
end
section
variable{X:Cx}
structure QPs(X:Cx)(pos:Pos)(keys:List (Option Expr))(values:List Expr)(trs:List (TE×TE)):Prop where
 h:PPs X pos keys values trs
theorem AT{K:PySem.W.Frag}(hK:X.K=K):QOp X (compareOp .NotIn) (rIn K true):=by subst hK;exact⟨tD⟩
end
open PySem PySem.Spec PyProof.Rows PySem.W
section
variable{X:Cx}
theorem Aj(hc:X.calm=true):eO X (.builtin "any") (fun xs H Q=>∃(p:Addr) (bs:List Bool),xs=[.ref p]/\SqL X.K H p (bs.map V.bl)/\Q (.bl (bs.any id)) H):=by
 intro pins s σ H xs us Q I r h;obtain⟨p,bs,rfl,hq,q⟩:=h;obtain⟨u,rfl,rx⟩:=fq r;cases rx;obtain⟨its,rv,pl,hz⟩:=I.list hq;have hl:=pl.isList;have hlt:p<s.heap.objs.size:=by obtain⟨_,e,_⟩:=hl;exact Zn e
 have hh:=I.ok.hd hc;have hlen:bs.length=its.length:=by rw[<-rv.length,Zf]
 refine call_any_walk (wpAny_pyIter_list hl ?_);refine⟨s.heap.objs.size,[s.heap.objs.size,p],[s.heap.objs.size],its.toArray.size,_,_,fun i=>(bs[i]?).getD false,rfl,Walks.list (A:=X.A.in1) hh _ p (ZD hlt) its.toArray,
  ⟨⟨_,Zo _ rfl,rfl,rfl⟩,hl.push _⟩,fun i v s' Q' E' hP hQ=>?_,fun h' tk hk=>?_⟩
 ·have hv:its[i]?=some v:=by simpa using hP
  have hi:i<bs.length:=by rw[hlen];exact(Zx.mp hv).1
  obtain⟨u,hu,ru⟩:=rv.get (i:=i) (x:=.bl bs[i]) (by rw[ZA,Zd hi];rfl);rw[hv]at hu;cases hu;cases ru;have hQ':Q' ((bs[i]?).getD false) s':=hQ;rw[Zd hi]at hQ';exact wpAny_truthy_bool hQ'
 ·have e:((List.range its.toArray.size).any fun i=>(bs[i]?).getD false)=bs.any id:=by rw[Zi,<-hlen];exact LSm.range_any bs
  rw[e];exact⟨.bl _,H,I.kept (t':=tk) (LSm.kept_iter hk),rfl,q⟩
theorem GU(hc:X.calm=true):QCall X (.builtin "any") (fun xs H Q=>∃(p:Addr) (bs:List Bool),xs=[.ref p]/\SqL X.K H p (bs.map V.bl)/\Q (.bl (bs.any id)) H):=⟨Aj hc⟩
end
open PySem PySem.Spec PyProof.Rows PySem.W
structure MFn(P:Program)(w:World)(K:PySem.W.Frag)(mg:Str->Option Value)(base:Heap)(k:Nat)(C:Addr)(m:Str)(ps:List Str)(sp:Sp):Prop where
 cl:Cls K C
 ex:∃f fd,FnOk P w K mg base CX0 k f fd ps sp/\Meth K C m f/\Binds K fd ps []
structure MkFn(P:Program)(w:World)(K:PySem.W.Frag)(mg:Str->Option Value)(base:Heap)(k:Nat)(C:Addr)(x:Str)(ps:List Str)(sp:Sp):Prop where
 cl:Cls K C
 mgC:mg x=some (.ref C)
 ex:∃f fd,FnOk P w K mg base CX0 k f fd ps sp/\Mk K C f/\Binds K fd ps []
section
variable{X:Cx}{k:Nat}{C:Addr}{m x f:Str}{p pos pos' apos:Pos}{o e value:Expr}{es:List Expr}{ps:List Str}{sp:Sp}{t:TA}{ta tv:TE}
theorem iL(he:QE X e ta)(hb:attributeBase e f X.env (eval e X.env)=eval e X.env:=by rfl):QE X (.Attribute e f pos) (Gs X.K ta f):=⟨Ft he.h hb⟩
theorem Co(ha:QE X o ta)(hv:QE X value tv)(hs:swapsWith value (some (.Attribute o f pos')) pos.line X.env=pure false:=by rfl):QS X (.Assign [.Attribute o f pos'] value pos) (Gc X.K ta tv f):=⟨FL ha.h hv.h hs⟩
theorem eW{pl:Sem Bool}(F:MFn X.prog X.w X.K X.mg X.base k C m ps sp)(hr:Room k X.A)(he:QE X o ta)(ha:QA X (e::es) t)(hs:(e::es).all aP=true:=by rfl)(ht:eval (.Call (.Attribute o m apos) (e::es) [] pos) X.env=(do
   let ov ←eval o X.env
   standAt apos.atName
   let(f,first) ←holding [ov] (getMethod ov m pl)
   callWith pos f first (backTo pos (starEach (e::es) X.env)) (backToKw pos (keywordEach [] X.env))):=by rfl) :
  QE X (.Call (.Attribute o m apos) (e::es) [] pos) (xz C m sp [] E0 ta t):=by
 obtain⟨f,fd,G,hm,b⟩:=F.ex;rw[YW,ZK]at hs;exact⟨vB (pl:=pl) he.h F.cl hm G hr b .nil lB ha.h (aY hs.1) (br hs.2) ht⟩
theorem vD(F:MkFn X.prog X.w X.K X.mg X.base k C x ps sp)(hr:Room (k+1) X.A)(hg:Gl X x:=by rfl)(hdb:(x==("__debug__":Str))=false:=by decide):QE X (.Call (.Name x p) [] [] pos) (Cu C sp [] E0 mX):=by obtain⟨f,fd,G,hm,b⟩:=F.ex;exact⟨Bg hm G hr hg F.mgC b .nil lB hdb⟩
end
def HH(t:TS):TS:=fun D σ H=>∃Pv:St->Hp->Prop,t { D with nx:=Pv } σ H/\∀σ' H',Pv σ' H'->D.nx σ' H'
theorem kG{X:Cx}{st:Stmt}{t:TS}(h:QS X st t):QS X st (HH t):=⟨fun pins s σ H D I ⟨Pv,h1,h2⟩=>thn (h.h pins s σ H _ I h1) fun fl s' q=>by
 cases fl with
 |next =>obtain⟨σ',H',I',q'⟩:=q;exact⟨σ',H',I',h2 _ _ q'⟩
 | _=>exact q⟩
open PySem PySem.Spec PyProof.Rows PySem.W
open PySem PySem.Spec PyProof.Rows PySem.W
section
variable{prog:Program}{w:World}{A:Around}{E:Value->Shared->Prop}{h:Heap}{g:Array GenState}{d:Drawn}{t:Nat}{os:OsState}
variable{nm q:Str}{C N:Addr}{bs bm bmB:List Value}{hdct:Bool}{sn:List Str}{sub:List Value}{ab:Bool}{col:Option Bool}{dd:Option Addr}{k0 k1 k2 k3 k5:Option Value}{B newId initId:String}
theorem oy(F:ExcBaseFacts B newId initId bmB)(T:OwnTail h bmB bm){mN:Str->Option Value}{rest:List Value}{fI:Addr}{oI:Obj}{Q:PySem.Fin->Shared->Prop}(hC:h.get? C=some (excClassObj nm q C N bs bm hdct sn sub ab col dd k0 k1 k2 k3 k5 newId))(hn:h.Ns N mN)(hi:mN "__init__" = some (.ref fI))(hfI:h.get? fI=some oI)(hfc:oI.cls=.type "function")(hq:∀h' e,Heap.MadeExcOf h h' e (.ref C) rest->wpAny (model prog w) A (call (.ref fI) (.ref e::rest)) (fun r s'=>r=.none/\Q (.done (.ret (.ref e))) s') E ⟨h',g,d,t,os⟩)(hrest:rest.length<=sizeLine) :
  wpAny (model prog w) A (Builtin.«type.__call__» ⟨.ref C::rest,[]⟩) Q E ⟨h,g,d,t,os⟩:=by
 repeat(first|with_reducible refine YV hC ?_|with_reducible refine wpAny_madeBy_exc hC ?_|wp_step)
 refine codeAny_call_builtin_code (Code.quiet_builtin _ F.quiet) (wpAny_check_new_subT F T hC ?_);refine codeAny_exc_new_subT F T hC ?_ hrest;show wpAny _ _ _ _ _ _;have kp:∀b o,h.get? b=some o->((h.push { cls:=.type "tuple",data:=.seq rest.toArray }).push { cls:=.ref C,data:=.fields #[.ref h.objs.size,.none,.none,.none,.bool false,.none] }).get? b=some o :=
  fun b o e=>Zb _ (Zb _ e)
 have hn₁:((h.push { cls:=.type "tuple",data:=.seq rest.toArray }).push { cls:=.ref C,data:=.fields #[.ref h.objs.size,.none,.none,.none,.bool false,.none] }).Ns N mN:=hn.keeps kp;have hget:((h.push { cls:=.type "tuple",data:=.seq rest.toArray }).push { cls:=.ref C,data:=.fields #[.ref h.objs.size,.none,.none,.none,.bool false,.none] }).get? (h.objs.size+1) =
   some { cls:=.ref C,data:=.fields #[.ref h.objs.size,.none,.none,.none,.bool false,.none] }:=by heap_get
 have hcC:(Value.ref C::bm).contains (.ref C)=true:=by simp
 unfold isInstance
 repeat(first|with_reducible refine YV hget ?_|(with_reducible refine wpAny_isSubtype_exc (kp _ _ hC) ?_;rw[hcC])|wp_step)
 show wpAny _ _ (typeLookup (.ref C) _) _ _ _;refine wpAny_typeLookup_tail (kp _ _ hC) hn₁ (T.keeps kp) F.mroIs F.init.lookup ?_;rw[hi];refine Z3 (Za ?_);unfold bindSpecial;refine Za (wpAny_typeOf (T:="function") ⟨_,kp _ _ hfI,hfc⟩ ?_);rw[if_pos (by decide)];refine Zh (Za (ZS (hq _ (h.objs.size+1) ⟨kp,Heap.get?_none_of_le (Nat.le_succ _),h.objs.size,hget,Heap.get?_none_of_le (Ze _),?_⟩) (fun r s' hr=>?_) fun _ _ x=>x))
 ·exact Zb _ (Heap.get?_push_at rfl rfl)
 ·obtain⟨rfl,hQ⟩:=hr
  wp_walk
  exact hQ
theorem wE(F:ExcBaseFacts B newId initId bmB)(T:OwnTail h bmB bm){mN:Str->Option Value}{rest:List Value}{fI:Addr}{oI:Obj}{Q:Value->Shared->Prop}(hC:h.get? C=some (excClassObj nm q C N bs bm hdct sn sub ab col dd k0 k1 k2 k3 k5 newId))(hn:h.Ns N mN)(hi:mN "__init__" = some (.ref fI))(hfI:h.get? fI=some oI)(hfc:oI.cls=.type "function")(hq:∀h' e,Heap.MadeExcOf h h' e (.ref C) rest->wpAny (model prog w) (A.under (.builtin "type.__call__" ⟨.ref C::rest,[]⟩)) (call (.ref fI) (.ref e::rest)) (fun r s'=>r=.none/\Q (.ref e) s') E ⟨h',g,d,t,os⟩)(hrest:rest.length<=sizeLine) :
  wpAny (model prog w) A (call (.ref C) rest) Q E ⟨h,g,d,t,os⟩:=by
 have f1:=tc_lookup;have f2:=tc_bind (.ref C);have hT:(⟨h,g,d,t,os⟩:Shared).TypeIs (.ref C) "type":=⟨_,hC,rfl⟩
 refine wpAny_call (codeAny_of_tree ?_);show wpAny _ _ (callAny (.ref C) _) _ _ _
 repeat(any_goals(first|assumption|with_reducible refine YV hC ?_|wp_step))
 refine⟨rfl,?_⟩;exact codeAny_call_builtin_at (Code.quiet_builtin _ (by decide +kernel)) entry_typeCall (wpAny_check_type_call_sub hC (oy F T hC hn hi hfI hfc (fun h' e hm=>hq h' e hm) hrest))
end
section
variable{M:Model}{A:Around}{E:Value->Shared->Prop}{env:Env}{K:PySem.W.Frag}
theorem yZ{C:Addr}{bm:List Value}{s:Shared}{x:Sem Value}{Q:Flow->Shared->Prop}(hC:ExC K C bm)(hh:A.handled=none)(h:wpAny M A x (fun v s₁=>∃e oe,v=.ref e/\K.In s₁.heap/\s₁.heap.get? e=some oe/\oe.cls=.ref C/\(∃t,oe.data=.fields #[.ref t,.none,.none,.none,.bool false,.none])/\E (.ref e) s₁) E s):wpAny M A (raiseStmt env (some x) none) Q E s:=by
 have hcB:(Value.ref C::bm).contains (.type "BaseException")=true:=by rw[Y5,hC.exc,Bool.or_true]
 unfold raiseStmt;refine Za (ZS h (fun v s₁ h₁=>?_) fun _ _ x=>x);obtain⟨e,oe,rfl,hk,he,hcl,⟨vs,hd⟩,hE⟩:=h₁;obtain⟨nm,q,N,bs,hdct,sn,sub,ab,col,dd,k0,k1,k2,k3,k5,ni,oC⟩:=hC.cls _ hk;obtain⟨hp,g,d,tk,os⟩:=s₁;obtain⟨oc,od,odt,osl⟩:=oe;cases hcl;cases hd
 repeat(first|with_reducible refine YV he ?_|with_reducible refine YV oC ?_|(with_reducible refine wpAny_isSubtype_exc oC ?_;rw[hcB])|wp_step)
 exact wpAny_raiseNew_none hh hE
end
open PySem PySem.Spec PyProof.Rows PySem.W PySem.Builtin PySem.Builtin.ObjectAttr
theorem zd(self:Value):refuseLoop self "__setattr__" VE=pure ():=by kernel_rfl
def nU:List Value->Bool
 |.ref _::r=>nU r
 |l=>l==VE
theorem ml(self:Value):∀{l:List Value},nU l=true->refuseLoop self "__setattr__" l=pure ()
 |.ref c::r,e=>by rw[refuseLoop_ref];exact ml self e
 | [],e=>nomatch e
 |.type n::r,e=>by rw[show(Value.type n::r)=VE from Z0.mp e];exact zd self
 |.none::r,e=>by have:=(Z0 (α:=List Value)).mp e;cases this
 |.bool b::r,e=>by have:=(Z0 (α:=List Value)).mp e;cases this
 |.int b t::r,e=>by have:=(Z0 (α:=List Value)).mp e;cases this
 |.str b t::r,e=>by have:=(Z0 (α:=List Value)).mp e;cases this
 |.bytes b t::r,e=>by have:=(Z0 (α:=List Value)).mp e;cases this
 |.float b t::r,e=>by have:=(Z0 (α:=List Value)).mp e;cases this
 |.builtin b::r,e=>by have:=(Z0 (α:=List Value)).mp e;cases this
 |.ellipsis::r,e=>by have:=(Z0 (α:=List Value)).mp e;cases this
 |.notImplemented::r,e=>by have:=(Z0 (α:=List Value)).mp e;cases this
structure ExS(K:PySem.W.Frag)(c:Addr):Prop where
 sa:findIn K (.ref c) "__setattr__" = some (some (.builtin "object.__setattr__"))
 ov:((clsIn K c).any fun cd=>nU cd.mro&&cd.hasDict)=true
 ob:mroIn K c (.type "object")=some true
section
variable{prog:Program}{w:World}{K:PySem.W.Frag}{A:Around}{R:Result->Shared->Prop}{s:Shared}{x C:Addr}
theorem Dl{ox:Obj}{od:Option Obj}{name:Str}{tk:Tok}{v:Value}(X:K.In s.heap)(I:InstAt s.heap x ox C od)(S:ExS K C)(hn:findIn K (.ref C) name=some none)(h:wpAny (model prog w) A.in1 (storeInOwnDict (.ref x) (.ref C) (.str name tk) name v false)
   (fun fin s'=>match fin with|.done f=>R (.ok f) s'|.again c'=>c'.quiet=true/\codeAny (model prog w) A c' R s') (fun e s'=>R (.error e) s') s) :
  codeAny (model prog w) A (.call (.builtin "object.__setattr__") ⟨[.ref x,.str name tk,v],[]⟩) R s:=by
 have SF:=PySem.F.store_object;obtain⟨cd,hc,ho⟩:=any_some S.ov;rw[ZK]at ho;have sub:Looks (model prog w) s.heap (isInstance (.ref x) (.type "object")) true:=I.type.andThen (looks_mroIn X S.ob);refine codeAny_call_builtin SF.slot.plain SF.entry (@check_slot (model prog w) _ _ s "object.__setattr__" "object" "__setattr__" (.ref x) [.str name tk,v] [] _ SF.kind SF.split sub (SF.args (.ref x) (.str name tk) v) ?_);have hm:Looks (model prog w) s.heap (mroOf (.ref C)) cd.mro:=(looks_clsIn X hc).andThen .now;rw[osa_eq,refuse_eq];refine Za (Za (I.type.here (Za (hm.here ?_))));rw[ml _ ho.1];refine Zh (Za (I.type.here (Za ((looks_findIn X hn).here (Za (Looks.now.here ?_))))));exact h
end
def exN(ea c t:Addr)(dc:Option Addr):HO:=.ext fun h=>h.get? ea=some { cls:=.ref c,dict:=dc,data:=.fields #[.ref t,.none,.none,.none,.bool false,.none] }
theorem ye{P:Program}{w:World}{H:Hp}{h:Heap}{ea c t:Addr}{dc:Option Addr}(e:h.get? ea=some { cls:=.ref c,dict:=dc,data:=.fields #[.ref t,.none,.none,.none,.bool false,.none] }):ObjOk P w H h ea (exN ea c t dc) :=
 ⟨e,⟨_,e⟩,fun _ _ p k=>k _ p⟩
section
variable{X:Cx}{pins:List (Addr×Obj)}{σ:St}{H:Hp}{s:Shared}{a c t:Addr}{f:Str}{y:V}{u:Value}{A:Around}{E:Value->Shared->Prop}
theorem DU{Q:Unit->Shared->Prop}(I:Inv X pins σ H s)(e:H a=some (exN a c t none))(S:ExS X.K c)(n:NoAttr X.K c f)(ry:RelV y u)(h:∀d s',H d=none->Inv X pins σ (upd (upd H d (.xd [(f,y)])) a (exN a c t (some d))) s'->Q () s'):wpAny (model X.prog X.w) A (setAttr (.ref a) f u) Q E s:=by
 have hx:s.heap.get? a=some { cls:=.ref c,dict:=none,data:=.fields #[.ref t,.none,.none,.none,.bool false,.none] }:=(show ObjOk X.prog X.w H s.heap a (exN a c t none)from I.hok a _ e).1;have J:InstAt s.heap a { cls:=.ref c,dict:=none,data:=.fields #[.ref t,.none,.none,.none,.bool false,.none] } c none:=⟨hx,rfl,rfl,True.intro⟩
 obtain⟨cd,hc,ho⟩:=any_some S.ov;rw[ZK]at ho;refine PySem.W.set_plain I.kIn J S.sa (Dl (s:={ s with toks:=s.toks+1 }) I.kIn J S n ?_);refine Za (Zh (Za (Za (wpAny_loadPart hx (Za (PySem.W.Looks.here (s:={ s with toks:=s.toks+1 }) (PySem.W.looks_clsIn I.kIn hc) ?_))))));rw[ho.2];have hxs:a≠s.heap.objs.size:=ZD (Zn hx);have hx1:(s.heap.push { cls:=.type "dict",data:=.dict #[] }).get? a=some { cls:=.ref c,dict:=none,data:=.fields #[.ref t,.none,.none,.none,.bool false,.none] }:=Zb _ hx;show wpAny _ _ (alloc { cls:=.type "dict",data:=.dict #[] } >>= fun d=>update a (fun o=>{ cls:=o.cls,dict:=some d,data:=o.data,slots:=o.slots }) >>= fun _=>dictMade (.ref c) a d) _ _ _;refine Za (wpAny_alloc' ?_);refine Za (wpAny_update' hx1 ?_);refine Zh ?_;have hgd:((s.heap.push { cls:=.type "dict",data:=.dict #[] }).update a fun o=>{ cls:=o.cls,dict:=some s.heap.objs.size,data:=o.data,slots:=o.slots }).get? s.heap.objs.size=some { cls:=.type "dict",data:=.dict #[] } :=
  (Heap.get?_update_ne _ _ _ _ hxs.symm).trans (Heap.get?_push_at rfl rfl)
 have hnd:((s.heap.push { cls:=.type "dict",data:=.dict #[] }).update a fun o=>{ cls:=o.cls,dict:=some s.heap.objs.size,data:=o.data,slots:=o.slots }).Ns s.heap.objs.size (fun _=>none) :=
  ⟨_,#[],_,hgd,rfl,fun e he=>absurd he (by simp),fun _=>rfl⟩
 refine Za (Zh (Za (wpAny_nsSet1 (Heap.Ns1.of_empty hnd) fun h' hn' hs=>?_)));obtain⟨oD,esD,epD,hoD,hdD,hcD⟩:=hn'.count (Within.cons f u Within.nil);refine Za (wpAny_lookBehind hoD (by rw[hdD];exact pastItsLine_dict (ZI hcD (by rw[Zm,List.length_nil,sizeLine_eq];omega))) ?_);have hx':h'.get? a=some { cls:=.ref c,dict:=some s.heap.objs.size,data:=.fields #[.ref t,.none,.none,.none,.bool false,.none] }:=(hs.2 a hxs).trans (Yx _ hx1 rfl);have kp:∀b o,b≠a->s.heap.get? b=some o->h'.get? b=some o:=fun b o hb q=>(hs.2 b (ZD (Zn q))).trans ((Heap.get?_update_ne _ _ _ _ hb).trans (Zb _ q));have hd0:H s.heap.objs.size=none:=I.hok.fresh (Ze _);have nd:∀b o,s.heap.get? b=some o->b≠s.heap.objs.size:=fun b o q=>ZD (Zn q);have ne1:∀b v,H b=some v->v≠exN a c t none->b≠a:=fun b v q hv z=>by rw[z,e]at q;exact hv (Zu q).symm
 have ne2:∀b v,H b=some v->b≠s.heap.objs.size:=fun b v q=>au q hd0;have un:Un X.fs [] H (upd (upd H s.heap.objs.size (.xd [(f,y)])) a (exN a c t (some s.heap.objs.size))) s.heap h':=by
  refine⟨fun b o q m _ _=>kp b o (fun z=>by rw[z,e]at m;cases m) q,fun b o q m _ _=>⟨o.slots,kp b o (fun z=>by rw[z,e]at m;cases m) q⟩,fun b o q m _=>?_,fun b o q _=>?_,fun b xs q=>?_,fun b o v q=>?_,fun b ps q=>⟨#[],?_⟩⟩
  ·rw[ah (fun z=>by rw[z,e]at m;cases m),ah (nd b o q)];exact m
  ·by_cases hb:b=a
   ·exact⟨_,hb▸hx'⟩
   ·exact⟨o,kp b o hb q⟩
  ·rw[ah (ne1 _ _ q (by intro z;cases z)),ah (ne2 _ _ q)];exact q
  ·rw[ah (ne1 _ _ q (by intro z;cases z)),ah (ne2 _ _ q)];exact q
  ·rw[ah (ne1 _ _ q (by intro z;cases z)),ah (ne2 _ _ q),q];simp
 have hok:HOk X.prog X.w (upd (upd H s.heap.objs.size (.xd [(f,y)])) a (exN a c t (some s.heap.objs.size))) h':=fun b v q=>by
  by_cases hb:b=a
  ·subst hb;rw[ae]at q;cases q;exact ye hx'
  ·rw[ah hb]at q;by_cases hbd:b=s.heap.objs.size
   ·subst hbd;rw[ae]at q;cases q;refine⟨_,hn',fun g=>?_⟩;by_cases hg:g=f
    ·subst hg;rw[if_pos rfl];show RelO ([(g,y)].lookup g) (some u);rw[ZU,show(g==g)=true by simp];exact ry
    ·rw[if_neg hg];show RelO ([(f,y)].lookup g) none;rw[ZU,show(g==f)=false by simpa using hg];exact True.intro
   ·rw[ah hbd]at q;refine(I.hok b v q).stay (fun b' v' hb' q'=>kp b' v' ?_ q') (fun b' q'=>?_) fun b' xs q'=>?_
    ·rcases hb' with rfl|z
     ·exact hb
     ·exact ne1 _ _ z (by intro z;cases z)
    ·rw[ah (ne1 _ _ q' (by intro z;cases z)),ah (ne2 _ _ q')];exact q'
    ·rw[ah (ne1 _ _ q' (by intro z;cases z)),ah (ne2 _ _ q')];exact q'
 exact Zh (h _ _ hd0 (I.un un hok))
end
def HG(K:PySem.W.Frag)(ta tv:TE)(f:Str):TS:=fun D σ H=>tv σ H fun y H1=>ta σ H1 fun x H2=>∃a c t,x=.ref a/\H2 a=some (exN a c t none)/\ExS K c/\NoAttr K c f/\∀d,H2 d=none ->
 D.nx σ (upd (upd H2 d (.xd [(f,y)])) a (exN a c t (some d)))
theorem Gf{X:Cx}{o value:Expr}{f:Str}{pos pos':Pos}{ta tv:TE}(ha:QE X o ta)(hv:QE X value tv)(hs:swapsWith value (some (.Attribute o f pos')) pos.line X.env=pure false:=by rfl):QS X (.Assign [.Attribute o f pos'] value pos) (HG X.K ta tv f):=by refine⟨?_⟩;intro pins s σ H D I h;refine plainObj_wpAny_Assign_Attribute (thn (hv.h pins s σ H _ I h) fun u s1 ⟨y,H1,I1,ry,q⟩=>thn (ha.h pins s1 σ H1 _ I1 q) fun ov s2 hz9=>?_) hs;obtain⟨x,H2,I2,rx,a,c,t,ex,ea,S,n,q2⟩:=hz9;subst ex;obtain rfl:ov=Value.ref a:=rx;exact DU I2 ea S n ry fun d s3 hd I3=>⟨σ,_,I3,q2 d hd⟩
open PySem PySem.Spec PyProof.Rows PySem.W
def del(H:Hp)(a:Addr):Hp:=fun b=>if b=a then none else H b
theorem Ar{H:Hp}{a:Addr}:del H a a=none:=by unfold del;rw[if_pos rfl]
theorem eR{H:Hp}{a b:Addr}(h:b≠a):del H a b=H b:=by unfold del;rw[if_neg h]
theorem yG{H:Hp}{a b:Addr}{u:HO}(h:del H a b=some u):b≠a/\H b=some u:=by
 by_cases c:b=a
 ·rw[c,Ar]at h;cases h
 ·rw[eR c]at h;exact⟨c,h⟩
open PySem PySem.Spec PyProof.Rows PySem.W
def su(K:PySem.W.Frag)(C fI:Addr):Bool:=match K.lookup C with
 | some ⟨.type "type",_,.cls cd,sl⟩=>(match cd.mro,sl.toList with
  |.ref C'::bm,[_,_,_,_,some (.builtin n),_]=>C'==C&&n=="ValueError.__new__"&&!cd.hasDel&&tailIn K VE bm&&nsOkIn K cd.ns&&nsIn K cd.ns "__init__" == some (some (.ref fI))
  | _,_=>false)
 |_=>false
theorem wZ{K:PySem.W.Frag}{h:Heap}{N:Addr}{m:Str->Option Value}{n:Str}{v:Value}(X:K.In h)(G:h.Ns N m)(e:nsIn K N n=some (some v)):m n=some v:=by
 obtain⟨o,es,ep,ho,hd,_,hf⟩:=G;unfold nsIn at e;split at e
 ·rename_i c d es' n' sl q;have:=X _ _ q;rw[ho]at this;cases this;cases hd;split at e
  ·rename_i en he;cases e;rw[<-hf];unfold nsFind findBy;rw[<-Array.find?_toList,he];rfl
  ·split at e<;>cases e
 ·cases e
structure ExcAtI(K:PySem.W.Frag)(C fI:Addr)(bm:List Value):Prop where
 isIn:su K C fI=true
 mro:∃c d cd sl,K.lookup C=some ⟨c,d,.cls cd,sl⟩/\cd.mro=Value.ref C::bm
 exc:bm.contains (.type "BaseException")=true
 fn:∃oI,K.lookup fI=some oI/\oI.cls=.type "function"
theorem nB{K:PySem.W.Frag}{C fI:Addr}{bm:List Value}(q:ExcAtI K C fI bm){h:Heap}(X:K.In h) :
  ∃nm qn N bs hdct sn sub ab col dd k0 k1 k2 k3 k5 mN,h.get? C=some (excClassObj nm qn C N bs bm hdct sn sub ab col dd k0 k1 k2 k3 k5 "ValueError.__new__")/\h.Ns N mN/\mN "__init__" = some (.ref fI)/\OwnTail h VE bm:=by
 have q1:=q.isIn;obtain⟨c9,d9,cd9,sl9,l9,m9⟩:=q.mro;unfold su at q1;split at q1
 ·rename_i dd cd sl ho;split at q1
  ·rename_i C' bm' k0 k1 k2 k3 n k5 hm hs;have q2:cd.mro=Value.ref C::bm:=by have z:=ho.symm.trans l9;cases z;exact m9
   rw[hm]at q2;injection q2 with z1 z2;injection z1 with z1;cases z1;cases z2;simp only[ZK,Z0,Bool.not_eq_true']at q1;obtain⟨⟨⟨⟨⟨_,rfl⟩,nd⟩,ht⟩,ok⟩,ni⟩:=q1;have es:sl=#[k0,k1,k2,k3,some (.builtin "ValueError.__new__"),k5]:=by obtain⟨l⟩:=sl;simp only at hs;rw[hs]
   cases es;obtain⟨nm,bs,mro,ns,qn,hd,sn,sub,ab,col,del⟩:=cd;dsimp only at hm nd ok ni;cases hm;cases nd;have G:h.Ns ns _:=.of_isNs (isNs_of_in X ok);exact⟨nm,qn,ns,bs,hd,sn,sub,ab,col,dd,k0,k1,k2,k3,k5,_,X _ _ ho,G,wZ X G ni,tail_of_in X ht⟩
  ·cases q1
 ·cases q1
theorem vc{K:PySem.W.Frag}{C fI:Addr}{bm:List Value}(q:ExcAtI K C fI bm):ExC K C bm where
 cls:=fun h X=>by obtain⟨nm,qn,N,bs,hdct,sn,sub,ab,col,dd,k0,k1,k2,k3,k5,mN,e,_⟩:=nB q X;exact⟨nm,qn,N,bs,hdct,sn,sub,ab,col,dd,k0,k1,k2,k3,k5,_,e⟩
 exc:=q.exc
structure ExI(P:Program)(w:World)(K:PySem.W.Frag)(mg:Str->Option Value)(base:Heap)(k:Nat)(C:Addr)(bm:List Value)(ps:List Str)(sp:Sp):Prop where
 ex:∃fI fd,ExcAtI K C fI bm/\FnOk P w K mg base CX0 k fI fd ps sp/\Binds K fd ps []
section
variable{X:Cx}{pins:List (Addr×Obj)}{σ:St}{H:Hp}{s:Shared}
theorem Inv.excMade{h':Heap}{e c t:Addr}(I:Inv X pins σ H s)(kp:∀b o,s.heap.get? b=some o->h'.get? b=some o)(hn:s.heap.get? e=none)(he:h'.get? e=some { cls:=.ref c,data:=.fields #[.ref t,.none,.none,.none,.bool false,.none] }) :
  H e=none/\Inv X pins σ (upd H e (exN e c t none)) { s with heap:=h' }:=by
 have h0:H e=none:=by
  cases q:H e with
  |none=>rfl
  |some u =>obtain⟨o,z⟩:=ic (I.hok e u q);rw[hn]at z;cases z
 have nb:∀b o,s.heap.get? b=some o->b≠e:=fun b o q z=>by rw[z,hn]at q;cases q
 refine⟨h0,I.un (t':=s.toks) ⟨fun b o q _ _ _=>kp b o q,fun b o q _ _ _=>⟨o.slots,kp b o q⟩,fun b o q m _=>by rw[ah (nb b o q)];exact m,fun b o q _=>⟨o,kp b o q⟩,fun b xs q=>by rw[ah (au q h0)];exact q,fun b o v q=>by rw[ah (au q h0)];exact q,fun b ps q=>⟨#[],by rw[ah (au q h0),q];simp⟩⟩ fun b u q=>?_⟩;by_cases hb:b=e
 ·subst hb;rw[ae]at q;cases q;exact ye he
 ·rw[ah hb]at q;exact(I.hok b u q).stay (fun b' v _ q'=>kp b' v q') (fun b' z=>by rw[ah (au z h0)];exact z) fun b' xs z=>by rw[ah (au z h0)];exact z
end
section
variable{X:Cx}{EC:Value->Option Addr->Hp->Prop}{C:Addr}{bm:List Value}{k:Nat}{ps:List Str}{sp:Sp}{x:Str}{np cpos pos:Pos}{e:Expr}{es:List Expr}{ta:TA}
def D4(sp:Sp)(C:Addr)(EC:Value->Option Addr->Hp->Prop)(ta:TA):TS:=fun _ σ H=>ta σ H fun vs H1=>vs.length<=sizeLine/\∀ea t,H1 ea=none->H1 t=none->t≠ea ->
 sp (.ref ea::vs) (upd H1 ea (exN ea C t none)) (fun v H2=>v=.non/\∃dc,H2 ea=some (exN ea C t dc)/\EC (.ref C) dc (del H2 ea)) E0
end
open PySem PySem.Spec PyProof.Rows PySem.W
structure MFnX(P:Program)(w:World)(K:PySem.W.Frag)(mg:Str->Option Value)(base:Heap)(k:Nat)(C:Addr)(m:Str)(ps:List Str)(sp:Sp):Prop where
 cl:Cls K C
 ex:∃f fd,FnOk P w K mg base (CXr P w) k f fd ps sp/\Meth K C m f/\Binds K fd ps []
section
variable{X:Cx}{k:Nat}{C:Addr}{m x:Str}{p pos apos:Pos}{o e:Expr}{es:List Expr}{ps:List Str}{sp:Sp}{t:TA}{ta:TE}{E:XK}
theorem lF{pl:Sem Bool}(F:MFnX X.prog X.w X.K X.mg X.base k C m ps sp)(hx:eQ (CXr X.prog X.w) X E)(hr:Room k X.A)(he:QE X o ta)(ha:QA X (e::es) t)(hs:(e::es).all aP=true:=by rfl)(ht:eval (.Call (.Attribute o m apos) (e::es) [] pos) X.env=(do
   let ov ←eval o X.env
   standAt apos.atName
   let(f,first) ←holding [ov] (getMethod ov m pl)
   callWith pos f first (backTo pos (starEach (e::es) X.env)) (backToKw pos (keywordEach [] X.env))):=by rfl) :
  QE X (.Call (.Attribute o m apos) (e::es) [] pos) (xz C m sp [] E ta t):=by
 obtain⟨f,fd,G,hm,b⟩:=F.ex;rw[YW,ZK]at hs;exact⟨vB (pl:=pl) he.h F.cl hm G hr b .nil hx ha.h (aY hs.1) (br hs.2) ht⟩
def Gx(C:Addr)(m:Str)(sp:Sp)(ta:TE)(t:TA):TX:=fun σ H Q E=>ta σ H fun x H1=>∃a dx fs,x=.ref a/\H1 a=some (.ins C dx fs)/\fs.lookup m=none/\t σ H1 fun vs H2=>sp (x::vs) H2 Q E
theorem GE{pl:Sem Bool}(F:MFnX X.prog X.w X.K X.mg X.base k C m ps sp)(hr:Room k X.A)(he:QE X.nox o ta)(ha:QA X.nox (e::es) t)(hs:(e::es).all aP=true:=by rfl)(ht:eval (.Call (.Attribute o m apos) (e::es) [] pos) X.env=(do
   let ov ←eval o X.env
   standAt apos.atName
   let(f,first) ←holding [ov] (getMethod ov m pl)
   callWith pos f first (backTo pos (starEach (e::es) X.env)) (backToKw pos (keywordEach [] X.env))):=by rfl) :
  QX X (.Call (.Attribute o m apos) (e::es) [] pos) (Gx C m sp ta t):=by
 refine⟨?_⟩;intro pins s σ H Q E I h;obtain⟨f,fd,G,hm,b⟩:=F.ex;rw[YW,ZK]at hs;refine PySem.W.methodCall_KW (pl:=pl) (ZS (he.h pins s σ H _ (I.wish _) h) (fun u s1 hz9=>?_) fun _ _ z=>False.elim z) ht;obtain⟨y,H1,I1,rx,a,dx,fs,ex,ea,l,q⟩:=hz9;subst ex;obtain rfl:u=Value.ref a:=rx;have I1':=I1.unwish;refine nC I1' ea F.cl hm l ?_;refine PySem.W.callWith_K (first:=[.ref a]) (h₀:=X.base) I.ok.mod.kin hm.kp (ZS (ha.h pos pins s1 σ H1 _ I1 q) (fun us s2 ⟨vs,H2,I2,r,q2⟩=>⟨I2.kIn,?_⟩) fun _ _ z=>False.elim z) (aY hs.1) (br hs.2);have I3:=I2.unwish;have hb:=b s2 (.ref a::us) I3.kIn (by rw[ZL,<-G.len _ _ _ _ q2,Zm,Zm,r.length]);rw[ZL]at hb;refine wpAny_call (codeAny_mono (G.run X.A X.stack s2 H2 ⟨.ref a::us,[]⟩ (.ref a::us) (.ref a::vs) Q E hr I3.env0 hb (.cons rfl r) q2) fun r s' hq=>?_);cases r with
 |error e=>exact⟨s2,H2,I3,hq⟩
 |ok fl =>
  cases fl with
  |ret u=>exact I3.after hq
  |next=>exact False.elim hq
  |brk=>exact False.elim hq
  |cont=>exact False.elim hq
end
section
variable{X:Cx}
theorem Ha:QH X [] (fun _ _ _ _ _=>False):=⟨fun _ _ _ _ _ _ _ _ _ _ _ _ _ _ _ _ h=>h.elim⟩
def HI(K:PySem.W.Frag)(Ch:Addr)(ts:TS)(th:TH):TH:=fun D σ C dc H'=>∃c bm,C=.ref c/\ExC K c bm/\if(Value.ref c::bm).contains (.ref Ch)=true then ts D σ H' else th D σ C dc H'
theorem Ay{x:Str}{Ch:Addr}{bmh:List Value}{b0:Stmt}{suite:List Stmt}{ts:TS}{np pos:Pos}{rest:List ExceptHandler}{th:TH}(cl:ExC X.K Ch bmh)(hm:X.mg x=some (.ref Ch))(hs:∀e,QB (X.exc e) (b0::suite) ts)(hrest:QH X rest th)(hg:Gl X x:=by rfl)(hdb:(x==("__debug__":Str))=false:=by decide):QH X (.ExceptHandler (some (.Name x np)) none (b0::suite) pos::rest) (HI X.K Ch ts th):=by
 refine⟨?_⟩;rintro pins s0 H0 σ D ea t C B H' dc s' I0 F fly hd ⟨c,bm,rfl,ec,q⟩;have I:=F.inv I0;refine wpAny_handleBy_cons (codeAny_handlers_test ?_) (by intro z;cases z);refine gP (X:=X.exc (.ref ea)) (I.exc _) hg hm ?_ hdb;obtain⟨oe,he,hcl⟩:=fly.there;refine ux ec cl I.kIn he hcl ?_;cases hc:(Value.ref c::bm).contains (.ref Ch)with
 |true =>
  rw[hc,if_pos rfl]at q;refine codeAny_handlers_suite ?_;obtain⟨f1,f2,f3,f4⟩:=fly;refine jC f1 f3 f4.at hd fun h6 k1 k2 k3 up6 hd6=>?_;have F6:=F.move (tk:=s'.toks) I0 k1 up6;refine ZS ((hs (.ref ea)).h pins _ _ _ _ ((F6.inv I0).exc _) q) (fun f s8 sp=>?_) (fun _ _ z=>False.elim z);cases f with
  |next =>obtain⟨σ2,H2,I8,q8⟩:=sp;exact⟨_,H2,I8.unexc I0.ok,q8⟩
  |brk =>obtain⟨σ2,H2,I8,q8⟩:=sp;exact⟨_,H2,I8.unexc I0.ok,q8⟩
  |cont =>obtain⟨σ2,H2,I8,q8⟩:=sp;exact⟨_,H2,I8.unexc I0.ok,q8⟩
  |ret u =>obtain⟨v,σ2,H2,I8,r8,q8⟩:=sp;exact⟨v,_,H2,I8.unexc I0.ok,r8,q8⟩
 |false =>rw[hc,if_neg Zr]at q;exact hrest.h pins s0 H0 σ D ea t _ B H' dc _ I0 F fly hd q
end
open PySem PySem.Spec PyProof.Rows PySem.W
open PySem PySem.Spec PyProof.Rows PySem.W
def CN(X:Cx)(B:Heap)(ea:Addr)(C:Value)(t:Addr)(h:Heap):Prop :=
 (B.StaysIn h/\B.get? ea=none/\h.FunFrames B X.stack/\∃oe,h.get? ea=some oe/\oe.cls=C/\oe.data=.fields #[.ref t,.none,.none,.none,.bool false,.none]) \/
 Heap.FlyingW B X.stack ea C (.ref t) h\/Heap.HeldW B X.stack ea C (.ref t) X.env.locals h
def wc(X:Cx)(E:XK)(ea:Addr)(s':Shared):Prop:=∃(pins:List (Addr×Obj)) (σ:St) (H0 H':Hp) (s0:Shared) (B:Heap) (t:Addr) (C:Value) (vs:List Value) (dc:Option Addr),
 Inv X pins σ H0 s0/\Fl X H0 H' s0 s' B/\CN X B ea C t s'.heap/\s'.heap.TupAt t vs/\B.get? t=none/\dE s'.heap ea dc/\E C dc H'
section
variable{M:Model}{A:Around}{E:Value->Shared->Prop}{s:Shared}{base:Heap}{l:List Env}{L e:Addr}
theorem yf{cls a0 fl:Value}{dc:Option Addr}{Q:Unit->Shared->Prop}(kb:base.StaysIn s.heap)(ff:s.heap.FunFrames base l)(tr:s.heap.TracedAtW base e cls a0 fl)(dd:dE s.heap e dc)(k:∀h',base.StaysIn h'->h'.FunFrames base l->h'.TracedAtW base e cls a0 (rawInt L)->s.heap.UpToSlots h'->dE h' e dc->Q () { s with heap:=h' }):wpAny M A (setFlight (.ref e) (some L)) Q E s:=by
 obtain⟨oe,vs,T,oT,ts,he,hc,dt,v1,nT,ne,hT,dT,t3⟩:=tr;have z3:3<ts.size:=(Array.getElem?_eq_some_iff.mp t3).1;have oth:∀b,b≠T->(s.heap.update T (Obj.mapFields (·.setIfInBounds 3 ((some L:Option Addr).elim Value.none fun f=>rawInt f)))).get? b=s.heap.get? b:=fun b n=>y8 _ _ (y9 n);have nrec:∀b o,s.heap.get? b=some o->(∀ws,o.data≠.fields ws)->b≠T:=fun b o q hn z=>by subst z;cases Zu (hT.symm.trans q);exact hn ts dT
 unfold setFlight;refine Za (ZZ he dt v1 ?_);rw[if_pos (by simp:(Value.ref T != Value.none)=true)];refine wpAny_setField hT dT z3 (k _ (fun b o q=>(oth b fun z=>nomatch((z▸q).symm.trans nT)).trans (kb b o q)) (ff.of_keeps fun b o q hn=>⟨o,(oth b (nrec b o q hn)).trans q,rfl⟩) ?_ (fun b o q hn=>⟨o.slots,(oth b (nrec b o q hn)).trans q⟩) ?_)
 ·exact⟨oe,vs,T,_,_,(oth e (y9 ne)).trans he,hc,dt,v1,nT,ne,Yx _ hT (Obj.isFreed_of_fields (YO dT _)),YO dT _,by simp[z3]⟩
 ·obtain⟨o,q,d⟩:=dd;exact⟨o,(oth e (y9 ne)).trans q,d⟩
end
section
variable{X:Cx}{E:XK}{ea:Addr}{s':Shared}{EE:Value->Shared->Prop}
theorem nh{Q:Unit->Shared->Prop}(hst:X.stack=X.env::X.outer)(hfr:X.env.frame=some X.env.locals)(x:wc X E ea s')(k:∀ h',(∃ (pins:List (Addr×Obj)) (σ:St) (H0 H':Hp) (s0:Shared) (B:Heap) (t:Addr) (C:Value) (vs:List Value) (dc:Option Addr),
   Inv X pins σ H0 s0/\Fl X H0 H' s0 { s' with heap:=h' } B/\Heap.HeldW B X.stack ea C (.ref t) X.env.locals h'/\h'.TupAt t vs/\B.get? t=none/\dE h' ea dc/\E C dc H')->Q () { s' with heap:=h' }) :
  wpAny (model X.prog X.w) X.A (noteFrame (.ref ea) X.env) Q EE s':=by
 obtain⟨pins,σ,H0,H',s0,B,t,C,vs,dc,I0,F,st,tup,hBt,dd,q⟩:=x;have fr:X.A.frames=some (X.env::X.outer):=by rw[<-hst];exact I0.ok.frames
 rcases st with⟨f1,f2,f3,oe,he,rfl,hd⟩|fly|held
 ·unfold noteFrame;simp only[hfr];refine Za (ZZ he hd (show _=some Value.none from rfl) ?_);rw[if_neg (by decide)];rw[hst]at f3;refine mi (a0:=.ref t) fr f3 hfr he f1 f2 hd (by simp) rfl fun h1 nt dd1=>?_;obtain⟨n1,n2,n3,n4⟩:=nt;rw[<-hst]at n2;obtain⟨o9,q9,d9⟩:=dd;cases Zu (he.symm.trans q9);rw[d9]at dd1;exact k h1 ⟨pins,σ,H0,H',s0,B,t,_,vs,dc,I0,F.move (tk:=s'.toks) I0 n1 n4,⟨n1,f2,n2,n3⟩,tup.of_slots n4,hBt,dd1,q⟩
 ·rw[hst]at fly;refine nM fr hfr fly dd fun h1 held up dd1=>?_;rw[<-hst]at held;exact k h1 ⟨pins,σ,H0,H',s0,B,t,C,vs,dc,I0,F.move (tk:=s'.toks) I0 held.1 up,held,tup.of_slots up,hBt,dd1,q⟩
 ·exact wpAny_noteFrame_againW hfr held.2.2.2 (k s'.heap ⟨pins,σ,H0,H',s0,B,t,C,vs,dc,I0,F,held,tup,hBt,dd,q⟩)
def Mid(X:Cx)(E:XK):Value->Shared->Prop:=fun e s'=>∃ea,e=.ref ea/\wc X E ea s'
theorem nV(hst:X.stack=X.env::X.outer)(hfr:X.env.frame=some X.env.locals):PassesOwn (model X.prog X.w) X.A X.env (Mid X E):=by rintro e s' ⟨ea,rfl,x⟩;refine nh hst hfr x ?_;rintro h1 ⟨pins,σ,H0,H',s0,B,t,C,vs,dc,I0,F,held,tup,hBt,dd,q⟩;obtain⟨f1,f2,f3,f4⟩:=held;obtain⟨oe,us,T,oT,ts,he,hc,dt,v1,nT,ne,hT,dT,t3⟩:=id f4;unfold cameBackBy;refine Za (ZZ he dt v1 ?_);rw[if_neg (by simp)];rw[hfr];refine yf (s:={ s' with heap:=h1 }) f1 f3 f4 dd fun h2 k1 k2 k3 up dd2=>?_;exact⟨ea,rfl,pins,σ,H0,H',s0,B,t,C,vs,dc,I0,F.move (tk:=s'.toks) I0 k1 up,.inr (.inr ⟨k1,f2,k2,k3⟩),tup.of_slots up,hBt,dd2,q⟩
end
def gN(X:Cx)(E:XK):Prop:=∀ea s',wc X E ea s'->X.xe (.ref ea) s'
theorem mj{X:Cx}{E:XK}:gN (X.wish (Mid X E)) E:=by rintro ea s' ⟨pins,σ,H0,H',s0,B,t,C,vs,dc,I0,F,st,r⟩;exact⟨ea,rfl,pins,σ,H0,H',s0,B,t,C,vs,dc,I0.unwish,⟨F.os,F.bare,F.un,F.hok,F.kb⟩,st,r⟩
section
variable{P:Program}{w:World}{K:PySem.W.Frag}{mg:Str->Option Value}{base:Heap}{N:List Str}{qual:Str}{scope:Scope}{f:Addr}{cd:Value}{A:Around}{outer:List Env}{s:Shared}{H:Hp}{E:XK}
theorem cX:gN (fZ (CXr P w) P w K mg base N qual scope f cd A outer s H E) E:=by
 intro ea s' x;show wpAny (model P w) (A.deeper (envOfC qual scope s.heap.objs.size f cd)) (leaving (envOfC qual scope s.heap.objs.size f cd) (.ref ea)) _ _ _;unfold leaving;refine Za (nh (X:=fZ (CXr P w) P w K mg base N qual scope f cd A outer s H E) rfl rfl x ?_);rintro h1 ⟨pins,σ,H0,H',s0,B,t,C,vs,dc,I,F,held,tup,hBt,dd,q⟩;obtain⟨f1,f2,f3,f4⟩:=held;refine jC (s:={ s' with heap:=h1 }) f1 f3 f4 dd fun h2 k1 k2 k3 up dd2=>?_;have F2:=F.move (tk:=s'.toks) I k1 up;have I2:=F2.inv I;have hL:∀b o,s.heap.get? b=some o->b≠s.heap.objs.size:=fun b o q=>ZD (Zn q);have nfr:∀b,b∉frs outer->b≠s.heap.objs.size->b∉frs (envOfC qual scope s.heap.objs.size f cd::outer):=fun b h1 h2 hm=>by
  rcases Zl.mp (I.stkSub b hm)with z|z
  ·exact h2 z
  ·exact h1 z
 obtain⟨_,_,k2'⟩:=k2;refine⟨ea,t,C,vs,B,H',dc,rfl,I2.os,F2.bare,⟨fun b o q n hb _=>?_,fun b o q n hb _=>?_,fun b o q n _=>?_,fun b o q _=>?_,I2.base.tups,I2.base.frzs,I2.base.tbls⟩,F2.hok,⟨k1,f2,k2',k3⟩,tup.of_slots up,hBt,fun b o hb ho q=>?_,dd2,q⟩
 ·exact I2.base.keep b o q n hb (by intro z;cases z)
 ·exact I2.base.slot b o q n hb (by intro z;cases z)
 ·exact I2.base.free b o q n (by intro z;cases z)
 ·exact I2.base.there b o q (by intro z;cases z)
 ·refine F2.kb b o ?_ ?_ q
  ·rcases ho with⟨u,z⟩|⟨o0,z⟩
   ·exact F2.nf I z
   ·exact nfr b hb (hL b o0 z)
  ·rcases ho with⟨u,z⟩|⟨o0,z⟩
   ·exact .inl ⟨u,z⟩
   ·exact .inr (I.base.there b o0 z (by intro z;cases z))
end
section
variable{X:Cx}{E:XK}
theorem Cd(hR:gN X E):eQ (CXr X.prog X.w) X E:=fun pins σ H s e s' I x=>by obtain⟨ea,t,C,vs,B,H',dc,rfl,os,bare,un,hok,fly,tup,hBt,kb,dd,q⟩:=x;exact hR ea s' ⟨pins,σ,H,H',s,B,t,C,vs,dc,I,⟨os,bare,un,hok,kb⟩,.inr (.inl fly),tup,hBt,dd,q⟩
theorem eZ(hR:gN X E):xR X (fun C H1=>E C none H1):=fun pins σ H1 s1 h2 e C vs I hx hE=>by
 obtain⟨t,he,tn,tt⟩:=hx.there;have fr0:∀b,b∈frs X.stack->∃o,s1.heap.get? b=some o:=fun b hm=>by obtain⟨_,o',ho',_⟩:=I.stack.mem hm;exact⟨o',ho'⟩
 have hid:∀b o,s1.heap.get? b=some o->b∉frs X.stack->(hideAll s1.heap (frs X.stack)).get? b=some o:=fun b o q hb=>hideAll_get _ q hb;have none_of:∀b,s1.heap.get? b=none->(hideAll s1.heap (frs X.stack)).get? b=none:=fun b hb=>by
  cases q:(hideAll s1.heap (frs X.stack)).get? b with
  |none=>rfl
  |some o=>exact nomatch hb.symm.trans (of_hideAll _ q)
 have tr:∀b u,H1 b=some u->b∉frs X.stack:=fun b u q hm=>by have:=I.stkFree b hm;rw[q]at this;cases this
 have F:Fl X H1 H1 s1 { s1 with heap:=h2 } (hideAll s1.heap (frs X.stack)):=⟨rfl,I.bare,Un.kept hx.keeps,I.hok.kept hx.keeps,fun b o hb ho q=>by
  obtain⟨o1,q1⟩:∃o1,s1.heap.get? b=some o1:=by
   rcases ho with⟨u,z⟩|⟨o0,z⟩
   ·exact ic (I.hok b u z)
   ·exact⟨o0,z⟩
  have q2:=hx.keeps _ _ q1;have q':h2.get? b=some o:=q;rw[q']at q2;cases q2;exact hid b o q1 hb⟩
 have ff:h2.FunFrames (hideAll s1.heap (frs X.stack)) X.stack:=(funFrames_hide I.stack fun env he b hb=>YN.mpr ⟨env,he,hb⟩).of_keeps fun b o q _=>⟨o,hx.keeps b o q,rfl⟩
 exact hR e _ ⟨pins,σ,H1,H1,s1,_,t,C,vs,none,I,F,.inl ⟨fun b o q=>hx.keeps b o (of_hideAll _ q),none_of e hx.new,ff,_,he,rfl,rfl⟩,⟨_,_,tt,rfl,rfl⟩,none_of t tn,⟨_,he,rfl⟩,hE⟩
end
section
variable{X:Cx}{E:XK}{st:Stmt}{t:TS}
theorem Cp(hR:gN X E)(h:QS (X.wish (Mid X E)) st t):QS X st t:=⟨fun pins s σ H D I q=>ZS (h.h pins s σ H D (I.wish _) q) (fun _ _ z=>z.unwish) fun _ _ ⟨ea,e,x⟩=>by rw[e];exact hR ea _ x⟩
end
section
variable{X:Cx}{E:XK}{C:Addr}{bm:List Value}{k:Nat}{ps:List Str}{sp:Sp}{x:Str}{np cpos pos:Pos}{e:Expr}{es:List Expr}{ta:TA}
theorem Bv(hR:gN X E)(hc:X.calm=true)(F:ExI X.prog X.w X.K X.mg X.base k C bm ps sp)(hr:Room (k+1) X.A)(hm:X.mg x=some (.ref C))(ha:QA X (e::es) ta)(hg:Gl X x:=by rfl)(hs:(e::es).all aP=true:=by rfl)(hdb:(x==("__debug__":Str))=false:=by decide) :
  QS X (.Raise (some (.Call (.Name x np) (e::es) [] cpos)) none pos) (D4 sp C E ta):=by
 refine⟨?_⟩;intro pins s σ H D I h;obtain⟨fI,fd,xc,G,hb⟩:=F.ex;have hs1:aP e=true:=YM.mp hs e (by simp);have he:=aY (es:=es) (env:=X.env) hs1;have hpl:(backTo cpos (starEach es X.env)).any (·.1)=false:=br (by
  rw[YM];intro y hy;exact YM.mp hs y (Zt _ hy))
 have hpl':(backTo cpos (starEach (e::es) X.env)).any (·.1)=false:=by rw[he];show(false ||(backTo cpos (starEach es X.env)).any (·.1))=false;rw[hpl];rfl
 rw[arm_exec_Raise];refine Za (wpAny_standAt (yZ (K:=X.K) (vc xc) (I.ok.hd hc) (Za (ZS (wpAny_Call_ofName (gP I hg hm ?_ hdb)) (fun v s₃ h₃=>Za (wpAny_standAt (Zh h₃))) fun _ _ x=>x))));unfold callWith;have hA:=ha.h cpos pins s σ H _ I h;rw[he]at hA ⊢;refine Za (Z3 (Calls.evalArgs_plain (thn hA fun us s1 ⟨vs,H1,I1,r1,hz,hE⟩=>Za (wpAny_standAt ?_))));obtain⟨nm,q,N,bs,hdct,sn,sub,ab,col,dd,k0,k1,k2,k3,k5,mN,oC,hN,hi,T⟩:=nB xc I1.kIn;obtain⟨oI,lI,cI⟩:=xc.fn;obtain⟨hp,g,d,tk,os⟩:=s1;rw[<-he];simp only[hpl'];refine Za (wpAny_keeperOf_exc oC ?_);refine Za (wE PySem.F.excBase_ValueError T oC hN hi (I1.kIn _ _ lI) cI (fun h' ea mx=>?_) (show us.length<=sizeLine by rw[<-r1.length];exact hz));obtain⟨t,ht,tn,tt⟩:=mx.there;obtain⟨hea0,I2⟩:=I1.excMade mx.keeps mx.new ht;have nt:t≠ea:=fun z=>by rw[z,ht]at tt;cases tt
 have ht0:H1 t=none:=by
  cases q:H1 t with
  |none=>rfl
  |some u =>obtain⟨o,z⟩:=ic (I1.hok t u q);exact nomatch tn.symm.trans z
 have hq:=hE ea t hea0 ht0 nt;have hl:(Value.ref ea::us).length=ps.length:=by rw[<-G.len _ _ _ _ hq,Zm,Zm,r1.length]
 refine wpAny_call (codeAny_mono (G.run _ X.stack _ _ ⟨Value.ref ea::us,[]⟩ (Value.ref ea::us) (V.ref ea::vs) _ _ (hr.make C us []) (I2.env0.make C us []) (by have:=hb _ (Value.ref ea::us) I2.kIn (by rw[ZL];exact hl);rw[ZL]at this;exact this) (.cons rfl r1) hq) fun r s' hq'=>?_);cases r with
 |error e'=>exact False.elim hq'
 |ok fl =>
  cases fl with
  |next=>exact False.elim hq'
  |brk=>exact False.elim hq'
  |cont=>exact False.elim hq'
  |ret u =>
   obtain⟨v,H',os',bare,un,hok,r,rfl,dc,hd,hE'⟩:=hq';obtain rfl:u=Value.none:=r;have I3:Inv X pins σ H' s':=I2.call' os' un hok bare fun _ z=>nomatch z;have notin:∀b,hp.get? b=none->b∉frs X.stack:=fun b hb hm=>by obtain⟨_,o',ho',_⟩:=I1.stack.mem hm;exact nomatch hb.symm.trans ho'
   have hx:s'.heap.get? ea=some { cls:=.ref C,dict:=dc,data:=.fields #[.ref t,.none,.none,.none,.bool false,.none] }:=(show ObjOk X.prog X.w H' s'.heap ea (exN ea C t dc)from I3.hok ea _ hd).1;have ut:upd H1 ea (exN ea C t none) t=none:=by rw[ah nt];exact ht0
   have tt':=un.keep t _ tt ut (notin t tn) (by intro z;cases z);refine⟨rfl,Za (Z3 (wpAny_point (Zh ⟨ea,_,rfl,I3.kIn,hx,rfl,⟨t,rfl⟩,?_⟩)))⟩;have hy:s'.heap.get? ea=some { cls:=.ref C,dict:=dc,data:=.fields #[.ref t,.none,.none,.none,.bool false,.none] }:=hx;have ne:∀b v,H' b=some v->v≠exN ea C t dc->b≠ea:=fun b v q hv z=>by rw[z,hd]at q;exact hv (Zu q).symm
   have ft:=un.free t _ tt ut (by intro z;cases z);have tr2:∀b v,H' b=some v->b≠t:=fun b v q z=>by rw[z,ft]at q;cases q
   have tfr:∀b v,H' b=some v->b∉frs X.stack:=fun b v q hm=>by have:=I3.stkFree b hm;rw[q]at this;cases this
   have oe:∀b o,hp.get? b=some o->b≠ea:=fun b o q z=>by rw[z]at q;exact nomatch mx.new.symm.trans q
   have ot:∀b o,hp.get? b=some o->b≠t:=fun b o q z=>by rw[z]at q;exact nomatch tn.symm.trans q
   have un1:Un (frs X.stack) [] H1 (del H' ea) hp s'.heap:=by
    refine⟨fun b o q n hb hx'=>un.keep b o (mx.keeps b o q) (by rw[ah (oe b o q)];exact n) hb hx',fun b o q n hb hx'=>un.slot b o (mx.keeps b o q) (by rw[ah (oe b o q)];exact n) hb hx',fun b o q n hx'=>?_,fun b o q hx'=>un.there b o (mx.keeps b o q) hx',fun b xs q=>?_,fun b o v q=>?_,fun b ps' q=>?_⟩
    ·rw[eR (oe b o q)];exact un.free b o (mx.keeps b o q) (by rw[ah (oe b o q)];exact n) hx'
    ·have:=un.tups b xs (by rw[ah (au q hea0)];exact q);rw[eR (ne _ _ this (by intro z;cases z))];exact this
    ·have:=un.frzs b o v (by rw[ah (au q hea0)];exact q);rw[eR (ne _ _ this (by intro z;cases z))];exact this
    ·obtain⟨more,this⟩:=un.tbls b ps' (by rw[ah (au q hea0)];exact q);exact⟨more,by rw[eR (ne _ _ this (by intro z;cases z))];exact this⟩
   have hok1:HOk X.prog X.w (del H' ea) s'.heap:=fun b v q=>by obtain⟨hb,q⟩:=yG q;exact(I3.hok b v q).stay (fun _ _ _ z=>z) (fun b' z=>by rw[eR (ne _ _ z (by intro z;cases z))];exact z) fun b' xs z=>by rw[eR (ne _ _ z (by intro z;cases z))];exact z
   have hid:∀b o,s'.heap.get? b=some o->b≠ea->b≠t->b∉frs X.stack->(hideAll s'.heap (ea::t::frs X.stack)).get? b=some o:=fun b o q h1 h2 h3 =>
    hideAll_get _ q fun hm=>by
     rcases Zl.mp hm with z|hm
     ·exact h1 z
     rcases Zl.mp hm with z|hm
     ·exact h2 z
     ·exact h3 hm
   have Fx:Fl X H1 (del H' ea) ⟨hp,g,d,tk,os⟩ s' (hideAll s'.heap (ea::t::frs X.stack)):=⟨os',bare,un1,hok1,fun b o hb ho q=>by
    rcases ho with⟨v,z⟩|⟨o0,z⟩
    ·obtain⟨hb',z⟩:=yG z;exact hid b o q hb' (tr2 _ _ z) hb
    ·exact hid b o q (oe b o0 z) (ot b o0 z) hb⟩
   exact hR ea s' ⟨pins,σ,H1,del H' ea,_,_,t,.ref C,us,dc,I1,Fx,.inl ⟨fun b o q=>of_hideAll _ q,hideAll_none _ Zv,
    funFrames_hide I3.stack fun env he b hb=>Zt _ (Zt _ (YN.mpr ⟨env,he,hb⟩)),_,hy,rfl,rfl⟩,⟨_,_,tt',rfl,rfl⟩,hideAll_none _ (Zt _ Zv),⟨_,hy,rfl⟩,hE'⟩
end
open PySem PySem.Spec PyProof.Rows PySem.W
open PySem PySem.Spec PyProof.Rows PySem.W
def Ic(a:Addr)(o:Obj):HO:=.ext fun h=>h.get? a=some o
structure LamOk(P:Program)(w:World)(K:PySem.W.Frag)(mg:Str->Option Value)(base:Heap)(k:Nat)(qual:Str)(body:Expr)(scope:Scope)(x:Str)(sp:Sp):Prop where
 ex:∃N:List Str,FnScope N [x] scope/\(∀vs H Q E,sp vs H Q E->vs.length=1)/\∀(f c':Addr) (A:Around) (outer:List Env) (s:Shared) (H:Hp) (vs:List V) (Q:VK) (E:XK),Room k (A.deeper (envOfC qual scope s.heap.objs.size f (.ref c')))->sp vs H Q E ->
  ∃t,QE (fZ CX0 P w K mg base N qual scope f (.ref c') A outer s H E) body t/\t (start N vs) H Q
open PySem PySem.Spec PyProof.Rows PySem.W
open PySem PySem.Spec PyProof.Rows PySem.W
inductive SKey where
 |i (n:Int)|s (t:Str)|bi (b:Bool)(n:Int)
def SKey.at(H:Hp):SKey->V->Prop
 |.i n,v=>v=.int n
 |.s t,v=>v=.str t
 |.bi b n,v=>∃a,v=.ref a/\H a=some (.tup [.bl b,.int n])
section
variable{X:Cx}{pins:List (Addr×Obj)}{σ:St}{H:Hp}{s:Shared}{h':Heap}
def wm(X:Cx)(pins:List (Addr×Obj))(σ:St)(f:Addr)(sp:Sp):Prop:=∀(s:Shared) (H:Hp) (u:Value) (v:V) (Q:VK),Inv X pins σ H s->RelV v u->sp [v] H Q E0->codeAny (model X.prog X.w) X.A.in1.in1 (.call (.ref f) ⟨[u],[]⟩) (CR CX0 X.stack X.prog X.w H s Q E0) s
theorem DP{k:Nat}{f:Addr}{fd:FuncData}{x:Str}{sp:Sp}(F:FnOk X.prog X.w X.K X.mg X.base CX0 k f fd [x] sp)(hb:∀(s:Shared) (u:Value),X.K.In s.heap->BindsTo s fd ⟨[u],[]⟩ [(x,u)])(hr:Room k X.A.in1.in1):∀l,wm (wX X l) pins σ f sp:=fun l s H u v Q I ru hs=>by
 have env:Env0 X.prog X.w X.K X.mg X.base X.A.in1.in1 X.stack s H:=by have e0:=I.env0;exact⟨e0.frames,e0.mod,e0.bs,e0.bsz,e0.funs,e0.frf,e0.hok,e0.bare⟩
 exact F.run X.A.in1.in1 X.stack s H ⟨[u],[]⟩ [u] [v] Q E0 hr env (hb s u I.kIn) (.cons ru .nil) hs
structure SG(X:Cx)(pins:List (Addr×Obj))(σ:St)(H1:Hp)(m:Str->Option Value)(kS D:Addr)(e1:Nat)(ks:List SKey)(as:List V)(us:List Value)(e:Nat)(H:Hp)(s:Shared):Prop where
 I:Inv X pins σ H s
 sm:Same H1 H
 fk:bC X pins H kS
 fd:bC X pins H D
 bk:X.base.get? kS=none
 bd:X.base.get? D=none
 hk:s.heap.get? kS=some (seqObj "list" (List.toArray us) e)
 hd:s.heap.get? D=some (seqObj "list" #[] e1)
 ns:s.heap.Ns X.env.locals m
 vals:Vals as us
 keys:∀(i:Nat) (a:V) (k:SKey),as[i]?=some a->ks[i]?=some k->k.at H a
theorem ug(b:Bool){xs:List V}{us:List Value}(h:Vals xs us):Vals (katRev b xs) (katRev b us):=by
 cases b with
 |false=>exact h
 |true =>
  show Vals xs.reverse us.reverse;induction h with
  |nil=>exact .nil
  |cons r _ ih =>rw[List.reverse_cons,List.reverse_cons];exact ih.append (.cons r .nil)
theorem C6(n m:Int):HT.lexLt [n] [m]=decide (n<m):=by
 rw[HT.lexLt_cons,HT.lexLt_nil_nil];by_cases z:n=m
 ·rw[if_pos z,decide_eq_false (by omega)]
 ·rw[if_neg z]
end
open PySem PySem.Spec PyProof.Rows PySem.W
structure LamScope(x y:Str)(sc:Scope):Prop where
 kind:sc.kind=.function
 co:sc.isCoroutine=false
 gen:sc.isGenerator=false
 lx:sc.names.lookup x=some .local
 ly:sc.names.lookup y=some .free
 nc:∀z∈sc.names,z.2≠.cell
 nf:∀z∈sc.names,z.2=.free->z.1=y
 ne:x≠y
def cxX(CX:CXT)(P:Program)(w:World)(K:PySem.W.Frag)(mg:Str->Option Value)(base:Heap)(N:List Str)(qual:Str)(scope:Scope)(f:Addr)(cd:Value)(cl:List (Str×Addr))(A:Around)(outer:List Env)(s:Shared)(H:Hp)(E:XK):Cx where
 prog:=P
 w:=w
 K:=K
 mg:=mg
 base:=base
 A:=A.deeper (envX qual scope s.heap.objs.size f cd cl)
 N:=N
 s₀:=s
 H₀:=H
 env:=envX qual scope s.heap.objs.size f cd cl
 outer:=outer
 stack:=envX qual scope s.heap.objs.size f cd cl::outer
 ex:=[]
 calm:=true
 fn:=fun _=>false
 pn:=[]
 xe:=fun e s'=>wpAny (model P w) (A.deeper (envX qual scope s.heap.objs.size f cd cl)) (leaving (envX qual scope s.heap.objs.size f cd cl) e) (fun _ s''=>CX outer H s E e s'') (fun e' s''=>CX outer H s E e' s'') s'
open PySem PySem.Spec PyProof.Rows PySem.W
section
variable{X:Cx}{c P:Addr}{params:Arguments}{body:Expr}{scope:Scope}{pos:Pos}{cl:List (Str×Addr)}
structure LamOkX(P:Program)(w:World)(K:PySem.W.Frag)(mg:Str->Option Value)(base:Heap)(k:Nat)(qual:Str)(body:Expr)(scope:Scope)(x y:Str)(sp:V->Sp):Prop where
 sc:LamScope x y scope
 ex:∀(f c' c:Addr) (kv:V) (A:Around) (outer:List Env) (s:Shared) (H:Hp) (v:V) (Q:VK),Room k (A.deeper (envX qual scope s.heap.objs.size f (.ref c') [(y,c)]))->sp kv [v] H Q E0 ->
  ∃t,QE (cxX CX0 P w K mg base [x,y] qual scope f (.ref c') [(y,c)] A outer s H E0) body t/\t [some v,some kv] H Q
end
open PySem PySem.Spec PyProof.Rows PySem.W
open PySem PyProof.Rows PySem.W
def fK:Bool->Keyed->Array Keyed->Nat->Nat->Nat->StateT SortSt Sem (Option Nat):=sortPriv%PySem.Builtin.gallop
def zLo:Array Keyed->Array Keyed->StateT SortSt Sem (Array Keyed):=sortPriv%PySem.Builtin.mergeLo
def zHi:Array Keyed->Array Keyed->StateT SortSt Sem (Array Keyed):=sortPriv%PySem.Builtin.mergeHi
def kO:Nat->StateT SortSt Sem Unit:=sortPriv%PySem.Builtin.setMinGallop
def kN(le:Bool)(ky:Keyed)(ar:Array Keyed)(ba i:Nat):StateT SortSt Sem (Option Bool):=do
 let it ←elem' ar (ba+i)
 if le then lt' it ky else do
  let o ←lt' ky it
  pure (o.map (!·))
theorem Ed(le:Bool)(ky:Keyed)(ar:Array Keyed)(ba n at0:Nat):fK le ky ar ba n at0=(do
 let mut las:=0;let mut ofs:=1;let mut lo:=0;let mut hi:=0
 let some rig ←kN le ky ar ba at0|return none
 if rig then
  for _ in[0:n]do
   if ofs>=n-at0 then break
   let some mo ←kN le ky ar ba (at0+ofs)|return none
   if !mo then break
   las:=ofs;ofs:=2*ofs+1
  lo:=at0+las+1;hi:=at0+min ofs (n-at0)
 else
  for _ in[0:n]do
   if ofs>=at0+1 then break
   let some fo ←kN le ky ar ba (at0-ofs)|return none
   if fo then break
   las:=ofs;ofs:=2*ofs+1
  lo:=at0+1-min ofs (at0+1);hi:=at0-las
 for _ in[0:n]do
  if lo>=hi then break
  let some mo ←kN le ky ar ba (lo+(hi-lo) / 2)|return none
  if mo then lo:=lo+(hi-lo) / 2+1 else hi:=lo+(hi-lo) / 2
 return some hi):=rfl
theorem GH(a b:Array Keyed):zLo a b=(do
 liftM (rule "list.sort.merge-lo");let e0 ←elem' b 0;let mut out:Array Keyed:=#[e0];let mut ia:=0;let mut ib:=1
 if ib==b.size then return out++a.extract ia a.size++b.extract ib b.size
 if ia+1==a.size then return out++b.extract ib b.size++a.extract ia a.size
 let mut mg:=gallopOf (←get)
 for _ in[0:a.size+b.size]do
  let mut ac:=0;let mut bc:=0
  for _ in[0:a.size+b.size]do
   let y ←elem' b ib;let x ←elem' a ia
   let some won ←lt' y x|return out++a.extract ia a.size++b.extract ib b.size
   if won then
    let y ←elem' b ib;out:=out.push y;ib:=ib+1;bc:=bc+1;ac:=0
    if ib==b.size then return out++a.extract ia a.size++b.extract ib b.size
    if bc>=mg then break
   else
    let x ←elem' a ia;out:=out.push x;ia:=ia+1;ac:=ac+1;bc:=0
    if ia+1==a.size then return out++b.extract ib b.size++a.extract ia a.size
    if ac>=mg then break
  liftM (rule "list.sort.gallop");mg:=mg+1
  for _ in[0:a.size+b.size]do
   if mg>1 then mg:=mg-1
   kO mg;let y ←elem' b ib
   let some k ←fK false y a ia (a.size-ia) 0|return out++a.extract ia a.size++b.extract ib b.size
   ac:=k
   if k>0 then
    out:=out++a.extract ia (ia+k);ia:=ia+k
    if ia+1==a.size then return out++b.extract ib b.size++a.extract ia a.size
    if ia==a.size then return out++a.extract ia a.size++b.extract ib b.size
   let y ←elem' b ib;out:=out.push y;ib:=ib+1
   if ib==b.size then return out++a.extract ia a.size++b.extract ib b.size
   let x ←elem' a ia
   let some k ←fK true x b ib (b.size-ib) 0|return out++a.extract ia a.size++b.extract ib b.size
   bc:=k
   if k>0 then
    out:=out++b.extract ib (ib+k);ib:=ib+k
    if ib==b.size then return out++a.extract ia a.size++b.extract ib b.size
   let x ←elem' a ia;out:=out.push x;ia:=ia+1
   if ia+1==a.size then return out++b.extract ib b.size++a.extract ia a.size
   if ac<7&&bc<7 then break
  mg:=mg+1;kO mg
 unsupported "internal:list.sort.merge-bound"):=rfl
theorem GG(a b:Array Keyed):zHi a b=(do
 liftM (rule "list.sort.merge-hi");let mut na:=a.size-1;let mut nb:=b.size;let e0 ←elem' a na;let mut out:Array Keyed:=#[e0]
 if na==0 then return a.extract 0 na++b.extract 0 nb++out.reverse
 if nb==1 then return b.extract 0 nb++a.extract 0 na++out.reverse
 let mut mg:=gallopOf (←get)
 for _ in[0:a.size+b.size]do
  let mut ac:=0;let mut bc:=0
  for _ in[0:a.size+b.size]do
   let y ←elem' b (nb-1);let x ←elem' a (na-1)
   let some won ←lt' y x|return a.extract 0 na++b.extract 0 nb++out.reverse
   if won then
    na:=na-1;let x ←elem' a na;out:=out.push x;ac:=ac+1;bc:=0
    if na==0 then return a.extract 0 na++b.extract 0 nb++out.reverse
    if ac>=mg then break
   else
    nb:=nb-1;let y ←elem' b nb;out:=out.push y;bc:=bc+1;ac:=0
    if nb==1 then return b.extract 0 nb++a.extract 0 na++out.reverse
    if bc>=mg then break
  liftM (rule "list.sort.gallop");mg:=mg+1
  for _ in[0:a.size+b.size]do
   if mg>1 then mg:=mg-1
   kO mg;let y ←elem' b (nb-1)
   let some k ←fK false y a 0 na (na-1)|return a.extract 0 na++b.extract 0 nb++out.reverse
   ac:=na-k
   if na-k>0 then
    out:=out++(a.extract k na).reverse;na:=k
    if na==0 then return a.extract 0 na++b.extract 0 nb++out.reverse
   nb:=nb-1;let y ←elem' b nb;out:=out.push y
   if nb==1 then return b.extract 0 nb++a.extract 0 na++out.reverse
   let x ←elem' a (na-1)
   let some k ←fK true x b 0 nb (nb-1)|return a.extract 0 na++b.extract 0 nb++out.reverse
   bc:=nb-k
   if nb-k>0 then
    out:=out++(b.extract k nb).reverse;nb:=k
    if nb==1 then return b.extract 0 nb++a.extract 0 na++out.reverse
    if nb==0 then return a.extract 0 na++b.extract 0 nb++out.reverse
   na:=na-1;let x ←elem' a na;out:=out.push x
   if na==0 then return a.extract 0 na++b.extract 0 nb++out.reverse
   if ac<7&&bc<7 then break
  mg:=mg+1;kO mg
 unsupported "internal:list.sort.merge-bound"):=rfl
def mY(ar:Array Keyed)(at0:Nat)(xs:Array Keyed):Array Keyed:=xs.toList.zipIdx.foldl (fun a (p,j)=>a.setIfInBounds (at0+j) p) ar
theorem GF(i:Nat):mergeAt' i=(do
 let st ←get
 let(some (sa,na,pw),some (sb,nb,_)):=((pendingOf st)[i]?,(pendingOf st)[i+1]?)|unsupported "internal:list.sort.pending"
 set (setPending st (((pendingOf st).setIfInBounds i (sa,na+nb,pw)).eraseIdxIfInBounds (i+1)))
 let y ←elem' (arrOf st) sb
 let some k ←fK false y (arrOf st) sa na 0|return false
 if na-k==0 then return true
 let x ←elem' (arrOf st) (sa+k+(na-k)-1)
 let some nc ←fK true x (arrOf st) sb nb (nb-1)|return false
 if nc==0 then return true
 let mer ←if na-k<=nc then zLo ((arrOf st).extract (sa+k) sb) ((arrOf st).extract sb (sb+nc))else zHi ((arrOf st).extract (sa+k) sb) ((arrOf st).extract sb (sb+nc))
 modify fun st=>setArr st (mY (arrOf st) (sa+k) mer)
 return (failedOf (←get)).isNone):=rfl
open PySem PyProof.Rows PySem.W
section
variable{prog:Program}{w:World}{A:Around}{E:Value->Shared->Prop}{s:Shared}{κ:SortKind}{it:Array Keyed}{lt:Nat->Nat->Bool}{N:Nat}{st:SortSt}
def Zc(prog:Program)(w:World)(A:Around)(s:Shared)(κ:SortKind)(it:Array Keyed)(lt:Nat->Nat->Bool)(N:Nat):Prop :=
 ∀i j (C:Bool->Shared->Prop),i<N->j<N->C (lt i j) s->kas_cmp prog w A κ it i j C s
theorem ul(Z:Zc prog w A s κ it lt N){i j:Nat}{Q:Option Bool->SortSt->Prop}(hk:kindOf st=κ)(hi:i<N)(hj:j<N)(h:Q (some (lt i j)) st):wpS (model prog w) A E s (lt' (kas_item it i) (kas_item it j)) Q st:=by rw[lt'_eq];refine Zj (wpS_get ?_);rw[hk];refine Zj (wpS_lift (wpAny_attempt (ZS (Z i j (fun c s'=>c=lt i j/\s'=s) hi hj ⟨rfl,rfl⟩) (fun c s' hc=>?_) fun _ _ hF=>hF.elim)));obtain⟨rfl,rfl⟩:=hc;exact⟨rfl,Zq h⟩
theorem GJ{q:Array Nat}{i:Nat}(hi:i<q.size):elem' (q.map (kas_item it)) i=pure (kas_item it (gA q i)):=by
 rw[elem'_eq];have e:(q.map (kas_item it))[i]?=some (kas_item it (gA q i)):=by
  rw[Array.getElem?_map];have e1:gA q i=q[i]:=by unfold gA;simp[Array.getD,hi]
  rw[e1];simp[hi]
 rw[e]
def zB(lt:Nat->Nat->Bool)(le:Bool)(k x:Nat):Bool:=if le=true then lt x k else !lt k x
theorem HP(Z:Zc prog w A s κ it lt N){le:Bool}{k ba i:Nat}{q:Array Nat}{Q:Option Bool->SortSt->Prop}(hk:kindOf st=κ)(hK:k<N)(hi:ba+i<q.size)(hq:gA q (ba+i)<N)(h:Q (some (zB lt le k (gA q (ba+i)))) st) :
  wpS (model prog w) A E s (kN le (kas_item it k) (q.map (kas_item it)) ba i) Q st:=by
 unfold kN;rw[GJ hi];refine Zj (Zq ?_);cases le with
 |true =>simp only[if_true];exact ul Z hk hq hK h
 |false =>simp only[Bool.false_eq_true,if_false];exact Zj (ul Z hk hK hq (Zq h))
theorem GL{le:Bool}{ky:Keyed}{ar:Array Keyed}{ba n at0:Nat}{B:Nat->Bool}{Q:Option Nat->SortSt->Prop}(hb:∀i (Q:Option Bool->SortSt->Prop),i<n->Q (some (B i)) st->wpS (model prog w) A E s (kN le ky ar ba i) Q st)(h0:at0<n)(mono:∀i j,i<=j->j<n->B j=true->B i=true)(h:∀m,m<=n->(∀i,i<m->B i=true)->(∀i,m<=i->i<n->B i=false)->Q (some m) st):wpS (model prog w) A E s (fK le ky ar ba n at0) Q st:=by
 have fin:∀ lo hi,lo<=hi->hi<=n->(∀ i,i<lo->B i=true)->(∀ i,hi<=i->i<n->B i=false)->wpS (model prog w) A E s (do
   let mut lo:=lo;let mut hi:=hi
   for _ in[0:n]do
    if lo>=hi then break
    let some mo ←kN le ky ar ba (lo+(hi-lo) / 2)|return none
    if mo then lo:=lo+(hi-lo) / 2+1 else hi:=lo+(hi-lo) / 2
   return some hi) Q st:=fun lo hi h1 h2 h3 h4=>by
  refine Zj (Yi (Yd (I:=fun x c st'=>st'=st/\∃ lo hi,c=(none,lo,hi)/\lo<=hi/\hi<=n/\hi - lo<=n - x/\(∀ i,i<lo->B i=true)/\(∀ i,hi<=i->i<n->B i=false))
   (Q:=fun c st'=>st'=st/\∃ hi,c=(none,hi,hi)/\hi<=n/\(∀ i,i<hi->B i=true)/\(∀ i,hi<=i->i<n->B i=false)) ?step ?fin ⟨rfl,lo,hi,rfl,h1,h2,by omega,h3,h4⟩) ?post)
  case fin =>
   rintro c st' ⟨rfl,lo,hi,rfl,g1,g2,g3,g4,g5⟩;have e:lo=hi:=by omega
   subst e;exact⟨rfl,lo,rfl,g2,g4,g5⟩
  case post =>rintro c st' ⟨rfl,hi,rfl,g2,g4,g5⟩;exact Zq (h hi g2 g4 g5)
  case step =>
   rintro x c st' _ hx ⟨rfl,lo,hi,rfl,g1,g2,g3,g4,g5⟩;dsimp only;by_cases hge:lo>=hi
   ·rw[if_pos hge];have e:lo=hi:=by omega
    subst e;exact Zq ⟨rfl,lo,rfl,g2,g4,g5⟩
   ·rw[if_neg hge];refine Zj (hb _ _ (by omega) ?_);dsimp only;cases e:B (lo+(hi-lo) / 2)with
    |true =>rw[if_pos rfl];exact Zq ⟨rfl,_,_,rfl,by omega,g2,by omega,fun i hi'=>mono i (lo+(hi-lo) / 2) (by omega) (by omega) e,g5⟩
    |false =>
     rw[if_neg (by simp)];refine Zq ⟨rfl,_,_,rfl,by omega,by omega,by omega,g4,fun i hi1 hi2=>?_⟩;cases e':B i with
     |false=>rfl
     |true=>rw[mono _ i hi1 hi2 e']at e;cases e
 rw[Ed];refine Zj (hb at0 _ h0 ?_);dsimp only;cases e:B at0 with
 |true =>
  simp only[if_true];refine Zj (Yi (Yd (I:=fun x c st'=>st'=st/\∃ las ofs,c=(none,las,ofs)/\las<ofs/\x+1<=ofs/\las<n - at0/\B (at0+las)=true)
   (Q:=fun c st'=>st'=st/\∃ las ofs,c=(none,las,ofs)/\las<ofs/\las<n - at0/\B (at0+las)=true/\(ofs>=n - at0\/B (at0+ofs)=false)) ?step ?fin ⟨rfl,0,1,rfl,by omega,by omega,by omega,e⟩) ?post)
  case fin =>rintro c st' ⟨rfl,las,ofs,rfl,g1,g2,g3,g4⟩;exact⟨rfl,las,ofs,rfl,g1,g3,g4,.inl (by omega)⟩
  case post =>
   rintro c st' ⟨rfl,las,ofs,rfl,g1,g2,g3,g4⟩;refine fin (at0+las+1) (at0+min ofs (n-at0)) (by omega) (by omega) (fun i hi'=>mono i (at0+las) (by omega) (by omega) g3) fun i hi1 hi2=>?_;rcases g4 with g4|g4
   ·omega
   ·cases e':B i with
    |false=>rfl
    |true=>rw[mono _ i (by omega) hi2 e']at g4;cases g4
  case step =>
   rintro x c st' _ hx ⟨rfl,las,ofs,rfl,g1,g2,g3,g4⟩;dsimp only;by_cases hge:ofs>=n-at0
   ·rw[if_pos hge];exact Zq ⟨rfl,las,ofs,rfl,g1,g3,g4,.inl hge⟩
   ·rw[if_neg hge];refine Zj (hb _ _ (by omega) ?_);dsimp only;cases e:B (at0+ofs)with
    |true =>rw[if_neg (by simp)];exact Zq ⟨rfl,ofs,_,rfl,by omega,by omega,by omega,e⟩
    |false =>rw[if_pos (by simp)];exact Zq ⟨rfl,las,ofs,rfl,g1,g3,g4,.inr e⟩
 |false =>
  simp only[Bool.false_eq_true,if_false];refine Zj (Yi (Yd (I:=fun x c st'=>st'=st/\∃ las ofs,c=(none,las,ofs)/\las<ofs/\x+1<=ofs/\las<=at0/\B (at0 - las)=false)
   (Q:=fun c st'=>st'=st/\∃ las ofs,c=(none,las,ofs)/\las<ofs/\las<=at0/\B (at0 - las)=false/\(ofs>=at0+1\/B (at0 - ofs)=true)) ?step ?fin ⟨rfl,0,1,rfl,by omega,by omega,by omega,e⟩) ?post)
  case fin =>rintro c st' ⟨rfl,las,ofs,rfl,g1,g2,g3,g4⟩;exact⟨rfl,las,ofs,rfl,g1,g3,g4,.inl (by omega)⟩
  case post =>
   rintro c st' ⟨rfl,las,ofs,rfl,g1,g2,g3,g4⟩;refine fin (at0+1-min ofs (at0+1)) (at0-las) (by omega) (by omega) (fun i hi'=>?_) fun i hi1 hi2=>?_
   ·rcases g4 with g4|g4
    ·omega
    ·exact mono i (at0-ofs) (by omega) (by omega) g4
   ·cases e':B i with
    |false=>rfl
    |true=>rw[mono _ i hi1 hi2 e']at g3;cases g3
  case step =>
   rintro x c st' _ hx ⟨rfl,las,ofs,rfl,g1,g2,g3,g4⟩;dsimp only;by_cases hge:ofs>=at0+1
   ·rw[if_pos hge];exact Zq ⟨rfl,las,ofs,rfl,g1,g3,g4,.inl hge⟩
   ·rw[if_neg hge];refine Zj (hb _ _ (by omega) ?_);dsimp only;cases e:B (at0-ofs)with
    |true =>rw[if_pos rfl];exact Zq ⟨rfl,las,ofs,rfl,g1,g3,g4,.inr e⟩
    |false =>rw[if_neg (by simp)];exact Zq ⟨rfl,ofs,_,rfl,by omega,by omega,by omega,e⟩
theorem lU(Z:Zc prog w A s κ it lt N){le:Bool}{k ba n at0:Nat}{q:Array Nat}{Q:Option Nat->SortSt->Prop}(hk:kindOf st=κ)(hK:k<N)(hz:ba+n<=q.size)(hq:∀i,ba<=i->i<ba+n->gA q i<N)(h0:at0<n)(mono:∀i j,i<=j->j<n->zB lt le k (gA q (ba+j))=true->zB lt le k (gA q (ba+i))=true)(h:∀m,m<=n->(∀i,i<m->zB lt le k (gA q (ba+i))=true)->(∀i,m<=i->i<n->zB lt le k (gA q (ba+i))=false)->Q (some m) st):wpS (model prog w) A E s (fK le (kas_item it k) (q.map (kas_item it)) ba n at0) Q st :=
 GL (B:=fun i=>zB lt le k (gA q (ba+i))) (fun i _ hi hQ=>HP Z hk hK (by omega) (hq _ (by omega) (by omega)) hQ) h0 mono h
end
open PySem PyProof.Rows PySem.W
section
variable{lt:Nat->Nat->Bool}
theorem aU(p:Array Nat)(k:Nat):gA p k=p.toList.getD k 0:=by unfold gA;rw[Yn,Zg,Array.getElem?_toList]
theorem lg{l:List Nat}{i x:Nat}(h:x∈l.drop i):∃j,i<=j/\j<l.length/\l.getD j 0=x:=by obtain⟨n,hn,e⟩:=ZP.mp h;rw[Z5]at hn;refine⟨i+n,by omega,by omega,?_⟩;rw[List.getElem_drop]at e;rw[Zg,Zd (by omega)];exact e
theorem lh{l:List Nat}{i x:Nat}(h:x∈l.take i):∃j,j<i/\j<l.length/\l.getD j 0=x:=by obtain⟨n,hn,e⟩:=ZP.mp h;rw[ZM]at hn;refine⟨n,by omega,by omega,?_⟩;rw[List.getElem_take]at e;rw[Zg,Zd (by omega)];exact e
theorem yy{l:List Nat}{i k x:Nat}(h:x∈(l.drop i).take k):∃j,i<=j/\j<i+k/\j<l.length/\l.getD j 0=x:=by obtain⟨j,h1,h2,e⟩:=lh h;rw[Z5]at h2;refine⟨i+j,by omega,by omega,by omega,?_⟩;rw[<-e,Zg,Zg,List.getElem?_drop]
def Mg(lt:Nat->Nat->Bool)(T o A B:List Nat):Prop:=∀r:List Nat,r.Perm (A++B)->r.Pairwise (Lx lt)->(o++r).Pairwise (Lx lt)/\(o++r).Perm T
def Mh(lt:Nat->Nat->Bool)(T o A B:List Nat):Prop:=∀r:List Nat,r.Perm (A++B)->r.Pairwise (Lx lt)->(r++o).Pairwise (Lx lt)/\(r++o).Perm T
theorem Mg.step{T o A B c A' B':List Nat}(h:Mg lt T o A B)(hp:(c++(A'++B')).Perm (A++B))(hc:c.Pairwise (Lx lt))(hx:∀x∈c,∀y∈A'++B',Lx lt x y):Mg lt T (o++c) A' B':=fun r hr hs=>by rw[ZJ];exact h (c++r) ((hr.append_left c).trans hp) (ZG.mpr ⟨hc,hs,fun x hx' y hy=>hx x hx' y (hr.mem_iff.mp hy)⟩)
theorem Mh.step{T o A B c A' B':List Nat}(h:Mh lt T o A B)(hp:((A'++B')++c).Perm (A++B))(hc:c.Pairwise (Lx lt))(hx:∀y∈A'++B',∀x∈c,Lx lt y x):Mh lt T (c++o) A' B':=fun r hr hs=>by rw[<-ZJ];exact h (r++c) ((hr.append_right c).trans hp) (ZG.mpr ⟨hs,hc,fun y hy x hx'=>hx y (hr.mem_iff.mp hy) x hx'⟩)
structure MF(lt:Nat->Nat->Bool)(N:Nat)(a b:Array Nat):Prop where
 sa:∀i j,i<j->j<a.size->Lx lt (gA a i) (gA a j)
 sb:∀i j,i<j->j<b.size->Lx lt (gA b i) (gA b j)
 cr:∀i j,i<a.size->j<b.size->lt (gA b j) (gA a i)=false->Lx lt (gA a i) (gA b j)
 na:∀i,i<a.size->gA a i<N
 nb:∀i,i<b.size->gA b i<N
 a0:0<a.size
 b0:0<b.size
 fst:lt (gA b 0) (gA a 0)=true
 lst:∀j,j<b.size->lt (gA b j) (gA a (a.size-1))=true
theorem eC{p:Array Nat}(h:∀i j,i<j->j<p.size->Lx lt (gA p i) (gA p j)):p.toList.Pairwise (Lx lt):=by rw[ZH];intro i j hi hj hij;have:=h i j hij (by simpa using hj);rw[aU,aU,Zg,Zg,Zd hi,Zd hj]at this;exact this
theorem xg{p:Array Nat}(h:p.toList.Pairwise (Lx lt)):∀i j,i<j->j<p.size->Lx lt (gA p i) (gA p j):=fun i j hij hj=>by
 rw[ZH]at h;have hj':j<p.toList.length:=by simpa using hj
 have:=h i j (by omega) hj' hij;rw[aU,aU,Zg,Zg,Zd (show i<p.toList.length by omega),Zd hj'];exact this
variable{N:Nat}{a b:Array Nat}{f:Nat->Keyed}
theorem MF.leA(h:MF lt N a b)(O:LtOk lt){i j:Nat}(hij:i<=j)(hj:j<a.size){x:Nat}(hx:lt x (gA a i)=true):lt x (gA a j)=true:=by
 rcases Z2 i j with h1|h1
 ·exact O.lt_le hx (h.sa i j h1 hj).1
 ·have e:i=j:=by omega
  rw[<-e];exact hx
theorem MF.leB(h:MF lt N a b)(O:LtOk lt){i j:Nat}(hij:i<=j)(hj:j<b.size){x:Nat}(hx:lt (gA b j) x=true):lt (gA b i) x=true:=by
 rcases Z2 i j with h1|h1
 ·exact O.le_lt (h.sb i j h1 hj).1 hx
 ·have e:i=j:=by omega
  rw[e];exact hx
def Gd(lt:Nat->Nat->Bool)(f:Nat->Keyed)(a b:Array Nat)(r:Array Keyed):Prop:=∃q:Array Nat,r=q.map f/\q.toList.Pairwise (Lx lt)/\q.toList.Perm (a.toList++b.toList)
def LoM(lt:Nat->Nat->Bool)(f:Nat->Keyed)(a b:Array Nat)(out:Array Keyed)(ia ib:Nat):Prop:=∃o:Array Nat,out=o.map f/\Mg lt (a.toList++b.toList) o.toList (a.toList.drop ia) (b.toList.drop ib)
def HiM(lt:Nat->Nat->Bool)(f:Nat->Keyed)(a b:Array Nat)(out:Array Keyed)(na nb:Nat):Prop:=∃o:Array Nat,out=o.map f/\Mh lt (a.toList++b.toList) o.toList.reverse (a.toList.take na) (b.toList.take nb)
theorem bT(p:Array Nat)(i j:Nat):(p.map f).extract i j=(p.extract i j).map f:=by apply Array.toList_inj.mp;simp
theorem jy(p:Array Nat)(i k:Nat):(p.extract i (i+k)).toList=(p.toList.drop i).take k:=by rw[Array.toList_extract,List.extract_eq_take_drop,Z8]
theorem jx(p:Array Nat)(i:Nat):(p.extract i p.size).toList=p.toList.drop i:=by rw[Array.toList_extract,List.extract_eq_take_drop];exact ZX (by simp)
theorem jA(p:Array Nat)(i:Nat):(p.extract 0 i).toList=p.toList.take i:=by rw[Array.toList_extract,List.extract_eq_take_drop,List.drop_zero,Nat.sub_zero]
theorem LoM.chunkA(M:MF lt N a b)(O:LtOk lt){out:Array Keyed}{ia ib:Nat}(h:LoM lt f a b out ia ib)(k:Nat)(hk:ia+k<=a.size)(hb:ib<b.size)(hw:∀i,i<k->lt (gA b ib) (gA a (ia+i))=false):LoM lt f a b (out++(a.map f).extract ia (ia+k)) (ia+k) ib:=by
 obtain⟨o,rfl,h⟩:=h;refine⟨o++a.extract ia (ia+k),by rw[bT,Yj],?_⟩;rw[ZR,jy];have e:a.toList.drop ia=(a.toList.drop ia).take k++a.toList.drop (ia+k):=by rw[<-List.drop_drop,ZT]
 have pa:(a.toList.drop ia).Pairwise (Lx lt):=(eC M.sa).sublist (Yt _ _);refine h.step ?_ (pa.sublist (Z1 _ _)) fun x hx y hy=>?_
 ·rw[<-ZJ,<-e]
 ·rcases ZF.mp hy with hy|hy
  ·rw[e]at pa;exact(ZG.mp pa).2.2 x hx y hy
  ·obtain⟨i,h1,h2,h3,rfl⟩:=yy hx;obtain⟨j,g1,g2,rfl⟩:=lg hy;have h3':i<a.size:=by simpa using h3
   have g2':j<b.size:=by simpa using g2
   rw[<-aU,<-aU];have w:=hw (i-ia) (by omega);rw[show ia+(i-ia)=i by omega]at w;refine M.cr i j h3' g2' ?_;cases e':lt (gA b j) (gA a i)with
   |false=>rfl
   |true=>rw[M.leB O g1 g2' e']at w;cases w
theorem LoM.chunkB(M:MF lt N a b)(O:LtOk lt){out:Array Keyed}{ia ib:Nat}(h:LoM lt f a b out ia ib)(k:Nat)(hk:ib+k<=b.size)(hb:ia<a.size)(hw:∀i,i<k->lt (gA b (ib+i)) (gA a ia)=true):LoM lt f a b (out++(b.map f).extract ib (ib+k)) ia (ib+k):=by
 obtain⟨o,rfl,h⟩:=h;refine⟨o++b.extract ib (ib+k),by rw[bT,Yj],?_⟩;rw[ZR,jy];have e:b.toList.drop ib=(b.toList.drop ib).take k++b.toList.drop (ib+k):=by rw[<-List.drop_drop,ZT]
 have pb:(b.toList.drop ib).Pairwise (Lx lt):=(eC M.sb).sublist (Yt _ _);refine h.step ?_ (pb.sublist (Z1 _ _)) fun x hx y hy=>?_
 ·refine(List.perm_append_comm_assoc _ _ _).trans ?_;rw[<-e]
 ·rcases ZF.mp hy with hy|hy
  ·obtain⟨i,h1,h2,h3,rfl⟩:=yy hx;obtain⟨j,g1,g2,rfl⟩:=lg hy;have g2':j<a.size:=by simpa using g2
   rw[<-aU,<-aU];have w:=hw (i-ib) (by omega);rw[show ib+(i-ib)=i by omega]at w;exact Lx.of_lt O (M.leA O g1 g2' w)
  ·rw[e]at pb;exact(ZG.mp pb).2.2 x hx y hy
theorem mM{out:Array Keyed}{p:Array Nat}{i:Nat}(hi:i<p.size):out.push (f (gA p i))=out++(p.map f).extract i (i+1):=by
 apply Array.toList_inj.mp;rw[Array.toList_push,ZR,bT,Array.toList_map,jy];have hi':i<p.toList.length:=by simpa using hi
 have e:(p.toList.drop i).take 1=[gA p i]:=by rw[Yw hi',aU,Zg,Zd hi'];rfl
 rw[e];rfl
theorem LoM.pushA(M:MF lt N a b)(O:LtOk lt){out:Array Keyed}{ia ib:Nat}(h:LoM lt f a b out ia ib)(ha:ia<a.size)(hb:ib<b.size)(hw:lt (gA b ib) (gA a ia)=false):LoM lt f a b (out.push (f (gA a ia))) (ia+1) ib:=by rw[mM ha];refine h.chunkA M O 1 (by omega) hb fun i hi=>?_;rw[show ia+i=ia by omega];exact hw
theorem LoM.pushB(M:MF lt N a b)(O:LtOk lt){out:Array Keyed}{ia ib:Nat}(h:LoM lt f a b out ia ib)(ha:ia<a.size)(hb:ib<b.size)(hw:lt (gA b ib) (gA a ia)=true):LoM lt f a b (out.push (f (gA b ib))) ia (ib+1):=by rw[mM hb];refine h.chunkB M O 1 (by omega) ha fun i hi=>?_;rw[show ib+i=ib by omega];exact hw
theorem LoM.done(M:MF lt N a b){out:Array Keyed}{ia ib:Nat}(h:LoM lt f a b out ia ib)(he:ia=a.size\/ib=b.size):Gd lt f a b (out++(a.map f).extract ia a.size++(b.map f).extract ib b.size):=by
 obtain⟨o,rfl,h⟩:=h;have pa:(a.toList.drop ia).Pairwise (Lx lt):=(eC M.sa).sublist (Yt _ _);have pb:(b.toList.drop ib).Pairwise (Lx lt):=(eC M.sb).sublist (Yt _ _);refine⟨o++a.extract ia a.size++b.extract ib b.size,by rw[bT,bT,Yj,Yj],?_⟩;rw[ZR,ZR,jx,jx,ZJ];refine h _ (List.Perm.refl _) ?_;rcases he with rfl|rfl
 ·rw[Y4 (by simp),YH];exact pb
 ·rw[Y4 (l:=b.toList) (by simp),ZL];exact pa
theorem LoM.last(M:MF lt N a b)(O:LtOk lt){out:Array Keyed}{ia ib:Nat}(h:LoM lt f a b out ia ib)(he:ia+1=a.size):Gd lt f a b (out++(b.map f).extract ib b.size++(a.map f).extract ia a.size):=by
 obtain⟨o,rfl,h⟩:=h;have pa:(a.toList.drop ia).Pairwise (Lx lt):=(eC M.sa).sublist (Yt _ _);have pb:(b.toList.drop ib).Pairwise (Lx lt):=(eC M.sb).sublist (Yt _ _);refine⟨o++b.extract ib b.size++a.extract ia a.size,by rw[bT,bT,Yj,Yj],?_⟩;rw[ZR,ZR,jx,jx,ZJ];refine h _ List.perm_append_comm (ZG.mpr ⟨pb,pa,fun x hx y hy=>?_⟩);obtain⟨i,h1,h3,rfl⟩:=lg hx;obtain⟨j,g1,g2,rfl⟩:=lg hy;have g2':j<a.size:=by simpa using g2
 rw[<-aU,<-aU];have w:=M.lst i (by simpa using h3);rw[show j=a.size-1 by omega];exact Lx.of_lt O w
theorem LoM.start(M:MF lt N a b)(O:LtOk lt):LoM lt f a b #[f (gA b 0)] 0 1:=by
 have h:LoM lt f a b #[] 0 0:=⟨#[],by simp,fun r hr hs=>⟨hs,hr⟩⟩
 exact h.pushB M O M.a0 M.b0 M.fst
theorem vG{out:Array Keyed}(p:Array Nat)(i j:Nat)(o:Array Nat)(e:out=o.map f):out++((p.map f).extract i j).reverse=(o++(p.extract i j).reverse).map f:=by rw[e,bT,Yj,Array.map_reverse]
theorem oU(p:Array Nat)(i j:Nat):(p.extract i j).toList=(p.toList.take j).drop i:=by rw[Array.toList_extract,List.extract_eq_take_drop,List.drop_take]
theorem yz{l:List Nat}{i j x:Nat}(h:x∈(l.take j).drop i):∃k,i<=k/\k<j/\k<l.length/\l.getD k 0=x:=by obtain⟨k,h1,h2,e⟩:=lg h;rw[ZM]at h2;refine⟨k,h1,by omega,by omega,?_⟩;rw[<-e,Zg,Zg,List.getElem?_take,if_pos (by omega)]
theorem HiM.chunkA(M:MF lt N a b)(O:LtOk lt){out:Array Keyed}{na nb:Nat}(h:HiM lt f a b out na nb)(k:Nat)(hk:k<=na)(ha:na<=a.size)(hb1:0<nb)(hb:nb<=b.size)(hw:∀i,k<=i->i<na->lt (gA b (nb-1)) (gA a i)=true):HiM lt f a b (out++((a.map f).extract k na).reverse) k nb:=by
 obtain⟨o,e0,h⟩:=h;refine⟨o++(a.extract k na).reverse,vG a k na o e0,?_⟩;rw[ZR,Array.toList_reverse,List.reverse_append,List.reverse_reverse,oU];have e:a.toList.take na=a.toList.take k++(a.toList.take na).drop k:=by have:=ZT k (a.toList.take na);rw[List.take_take,YU hk]at this;exact this.symm
 have pa:(a.toList.take na).Pairwise (Lx lt):=(eC M.sa).sublist (Z1 _ _);refine h.step ?_ (pa.sublist (Yt _ _)) fun y hy x hx=>?_
 ·rw[ZJ];refine(List.perm_append_comm.append_left _).trans ?_;rw[<-ZJ,<-e]
 ·rcases ZF.mp hy with hy|hy
  ·rw[e]at pa;exact(ZG.mp pa).2.2 y hy x hx
  ·obtain⟨i,h1,h2,h3,rfl⟩:=yz hx;obtain⟨j,g1,g2,rfl⟩:=lh hy;rw[<-aU,<-aU];exact Lx.of_lt O (M.leB O (show j<=nb-1 by omega) (by omega) (hw i h1 h2))
theorem HiM.chunkB(M:MF lt N a b)(O:LtOk lt){out:Array Keyed}{na nb:Nat}(h:HiM lt f a b out na nb)(k:Nat)(hk:k<=nb)(ha:na<=a.size)(ha1:0<na)(hb:nb<=b.size)(hw:∀i,k<=i->i<nb->lt (gA b i) (gA a (na-1))=false):HiM lt f a b (out++((b.map f).extract k nb).reverse) na k:=by
 obtain⟨o,e0,h⟩:=h;refine⟨o++(b.extract k nb).reverse,vG b k nb o e0,?_⟩;rw[ZR,Array.toList_reverse,List.reverse_append,List.reverse_reverse,oU];have e:b.toList.take nb=b.toList.take k++(b.toList.take nb).drop k:=by have:=ZT k (b.toList.take nb);rw[List.take_take,YU hk]at this;exact this.symm
 have pb:(b.toList.take nb).Pairwise (Lx lt):=(eC M.sb).sublist (Z1 _ _);refine h.step ?_ (pb.sublist (Yt _ _)) fun y hy x hx=>?_
 ·rw[ZJ,<-e]
 ·rcases ZF.mp hy with hy|hy
  ·obtain⟨i,h1,h2,h3,rfl⟩:=yz hx;obtain⟨j,g1,g2,rfl⟩:=lh hy;have h3':i<b.size:=by simpa using h3
   have g2':j<a.size:=by simpa using g2
   rw[<-aU,<-aU];have w:=hw i h1 h2;refine M.cr j i g2' h3' ?_;cases e':lt (gA b i) (gA a j)with
   |false=>rfl
   |true=>rw[M.leA O (show j<=na-1 by omega) (by omega) e']at w;cases w
  ·rw[e]at pb;exact(ZG.mp pb).2.2 y hy x hx
theorem tG{out:Array Keyed}{p:Array Nat}{i:Nat}(hi:i<p.size):out.push (f (gA p i))=out++((p.map f).extract i (i+1)).reverse:=by
 have e:=mM (f:=f) (out:=#[]) hi;have e2:(p.map f).extract i (i+1)=#[f (gA p i)]:=by rw[<-Array.empty_append (xs:=(p.map f).extract i (i+1)),<-e];rfl
 rw[e2];rfl
theorem HiM.pushA(M:MF lt N a b)(O:LtOk lt){out:Array Keyed}{na nb:Nat}(h:HiM lt f a b out na nb)(ha1:0<na)(ha:na<=a.size)(hb1:0<nb)(hb:nb<=b.size)(hw:lt (gA b (nb-1)) (gA a (na-1))=true):HiM lt f a b (out.push (f (gA a (na-1)))) (na-1) nb:=by rw[tG (show na-1<a.size by omega),Nat.sub_add_cancel ha1];refine h.chunkA M O (na-1) (by omega) ha hb1 hb fun i h1 h2=>?_;rw[show i=na-1 by omega];exact hw
theorem HiM.pushB(M:MF lt N a b)(O:LtOk lt){out:Array Keyed}{na nb:Nat}(h:HiM lt f a b out na nb)(ha1:0<na)(ha:na<=a.size)(hb1:0<nb)(hb:nb<=b.size)(hw:lt (gA b (nb-1)) (gA a (na-1))=false):HiM lt f a b (out.push (f (gA b (nb-1)))) na (nb-1):=by rw[tG (show nb-1<b.size by omega),Nat.sub_add_cancel hb1];refine h.chunkB M O (nb-1) (by omega) ha ha1 hb fun i h1 h2=>?_;rw[show i=nb-1 by omega];exact hw
theorem HiM.done(M:MF lt N a b){out:Array Keyed}{na nb:Nat}(h:HiM lt f a b out na nb)(he:na=0\/nb=0):Gd lt f a b ((a.map f).extract 0 na++(b.map f).extract 0 nb++out.reverse):=by
 obtain⟨o,rfl,h⟩:=h;have pa:(a.toList.take na).Pairwise (Lx lt):=(eC M.sa).sublist (Z1 _ _);have pb:(b.toList.take nb).Pairwise (Lx lt):=(eC M.sb).sublist (Z1 _ _);refine⟨a.extract 0 na++b.extract 0 nb++o.reverse,by rw[bT,bT,Yj,Yj,Array.map_reverse],?_⟩;rw[ZR,ZR,jA,jA,Array.toList_reverse];refine h _ (List.Perm.refl _) ?_;rcases he with rfl|rfl
 ·exact pb
 ·rw[List.take_zero,ZL];exact pa
theorem HiM.first(M:MF lt N a b)(O:LtOk lt){out:Array Keyed}{na nb:Nat}(h:HiM lt f a b out na nb)(he:nb=1):Gd lt f a b ((b.map f).extract 0 nb++(a.map f).extract 0 na++out.reverse):=by
 obtain⟨o,rfl,h⟩:=h;have pa:(a.toList.take na).Pairwise (Lx lt):=(eC M.sa).sublist (Z1 _ _);have pb:(b.toList.take nb).Pairwise (Lx lt):=(eC M.sb).sublist (Z1 _ _);refine⟨b.extract 0 nb++a.extract 0 na++o.reverse,by rw[bT,bT,Yj,Yj,Array.map_reverse],?_⟩;rw[ZR,ZR,jA,jA,Array.toList_reverse];refine h _ List.perm_append_comm (ZG.mpr ⟨pb,pa,fun x hx y hy=>?_⟩);obtain⟨i,h1,h3,rfl⟩:=lh hx;obtain⟨j,g1,g2,rfl⟩:=lh hy;have g2':j<a.size:=by simpa using g2
 rw[<-aU,<-aU,show i=0 by omega];exact Lx.of_lt O (M.leA O (y0 _) g2' M.fst)
theorem HiM.start(M:MF lt N a b)(O:LtOk lt):HiM lt f a b #[f (gA a (a.size-1))] (a.size-1) b.size:=by
 have h:HiM lt f a b #[] a.size b.size:=⟨#[],by simp,fun r hr hs=>by
  rw[ZX (by simp),ZX (by simp)]at hr;have e:(#[]:Array Nat).toList.reverse=[]:=rfl;rw[e,ZL];exact⟨hs,hr⟩⟩
 exact h.pushA M O M.a0 (Ze _) M.b0 (Ze _) (M.lst _ (by have:=M.b0;omega))
end
open PySem PyProof.Rows PySem.W
abbrev LoC:=Option (Array Keyed)×Array Keyed×Nat×Nat×Nat×Nat×Nat
def jJ(a b out:Array Keyed)(ia ib:Nat):Array Keyed:=out++a.extract ia a.size++b.extract ib b.size
def nL(a b out:Array Keyed)(ia ib:Nat):Array Keyed:=out++b.extract ib b.size++a.extract ia a.size
def wR(a b out:Array Keyed)(ia ib mg ac bc:Nat):StateT SortSt Sem (ForInStep LoC):=do
 let x ←elem' a ia
 if(ia+1+1==a.size)=true then pure (.done (some (nL a b (out.push x) (ia+1) ib),out.push x,ia+1,ib,mg,ac,bc))
 else if(decide (ac<7)&&decide (bc<7))=true then pure (.done (none,out.push x,ia+1,ib,mg,ac,bc))else pure (.yield (none,out.push x,ia+1,ib,mg,ac,bc))
def wQ(a b out:Array Keyed)(ia ib mg ac bc:Nat):StateT SortSt Sem (ForInStep LoC):=do
 let y ←elem' b ib
 if(ib+1==b.size)=true then pure (.done (some (jJ a b (out.push y) ia (ib+1)),out.push y,ia,ib+1,mg,ac,bc))
 else do
  let x ←elem' a ia
  let some k ←fK true x b (ib+1) (b.size-(ib+1)) 0|pure (.done (some (jJ a b (out.push y) ia (ib+1)),out.push y,ia,ib+1,mg,ac,bc))
  if k>0 then
   if(ib+1+k==b.size)=true then pure (.done (some (jJ a b (out.push y++b.extract (ib+1) (ib+1+k)) ia (ib+1+k)),out.push y++b.extract (ib+1) (ib+1+k),ia,ib+1+k,mg,ac,k))
   else wR a b (out.push y++b.extract (ib+1) (ib+1+k)) ia (ib+1+k) mg ac k
  else wR a b (out.push y) ia (ib+1) mg ac k
def EV(a b out:Array Keyed)(ia ib mg ac bc:Nat):StateT SortSt Sem (ForInStep LoC):=do
 kO mg
 let y ←elem' b ib
 let some k ←fK false y a ia (a.size-ia) 0|pure (.done (some (jJ a b out ia ib),out,ia,ib,mg,ac,bc))
 if k>0 then
  if(ia+k+1==a.size)=true then pure (.done (some (nL a b (out++a.extract ia (ia+k)) (ia+k) ib),out++a.extract ia (ia+k),ia+k,ib,mg,k,bc))
  else if(ia+k==a.size)=true then pure (.done (some (jJ a b (out++a.extract ia (ia+k)) (ia+k) ib),out++a.extract ia (ia+k),ia+k,ib,mg,k,bc))
  else wQ a b (out++a.extract ia (ia+k)) (ia+k) ib mg k bc
 else wQ a b out ia ib mg k bc
section
variable{prog:Program}{w:World}{A:Around}{E:Value->Shared->Prop}{s:Shared}{κ:SortKind}{it:Array Keyed}{lt:Nat->Nat->Bool}{N:Nat}{st:SortSt}{a b:Array Nat}
def mR(st:SortSt)(g:Nat):SortSt:=SortSt.mk' (kindOf st) (arrOf st) (pendingOf st) g (failedOf st)
def SG'(st st':SortSt):Prop:=∃g,st'=mR st g
theorem SG'.refl:SG' st st:=⟨gallopOf st,rfl⟩
theorem SG'.set{st':SortSt}(h:SG' st st')(g:Nat):SG' st (mR st' g):=by obtain⟨g',rfl⟩:=h;exact⟨g,rfl⟩
theorem SG'.kind{st':SortSt}(h:SG' st st')(hk:kindOf st=κ):kindOf st'=κ:=by obtain⟨g',rfl⟩:=h;exact hk
theorem rO{g:Nat}{Q:Unit->SortSt->Prop}(h:Q () (mR st g)):wpS (model prog w) A E s (kO g) Q st:=by have e:kO g=modify fun st=>mR st g:=rfl;rw[e];exact wpS_modify h
theorem bp{q:Array Nat}{i:Nat}{Q:Keyed->SortSt->Prop}(hi:i<q.size)(h:Q (kas_item it (gA q i)) st):wpS (model prog w) A E s (elem' (q.map (kas_item it)) i) Q st:=by rw[GJ hi];exact Zq h
theorem aL{α:Type}{c:Prop}[Decidable c]{x y:StateT SortSt Sem α}{Q:α->SortSt->Prop}(h1:c->wpS (model prog w) A E s x Q st)(h2:¬c->wpS (model prog w) A E s y Q st):wpS (model prog w) A E s (if c then x else y) Q st:=by
 split
 ·exact h1 ‹_›
 ·exact h2 ‹_›
def LoI(lt:Nat->Nat->Bool)(f:Nat->Keyed)(a b:Array Nat)(n:Nat)(c:LoC):Prop:=∃out ia ib mg ac bc,c=(none,out,ia,ib,mg,ac,bc)/\LoM lt f a b out ia ib/\ia+1<a.size/\ib<b.size/\n<=ia+ib
def LoQ(lt:Nat->Nat->Bool)(f:Nat->Keyed)(a b:Array Nat)(st:SortSt)(n:Nat)(r:ForInStep LoC)(st':SortSt):Prop:=SG' st st'/\match r with
 |.done c=>(∃r d,c=(some r,d)/\Gd lt f a b r)\/LoI lt f a b n c
 |.yield c=>LoI lt f a b n c
theorem zW(O:LtOk lt)(M:MF lt N a b){out:Array Keyed}{ia ib mg ac bc n:Nat}{st0:SortSt}(g:SG' st0 st)(l:LoM lt (kas_item it) a b out ia ib)(h1:ia+1<a.size)(h2:ib<b.size)(hn:n<=ia+ib)(hw:lt (gA b ib) (gA a ia)=false) :
  wpS (model prog w) A E s (wR (a.map (kas_item it)) (b.map (kas_item it)) out ia ib mg ac bc) (LoQ lt (kas_item it) a b st0 n) st:=by
 unfold wR nL;rw[YD,YD];refine Zj (bp (by omega) ?_);have l3:=l.pushA M O (by omega) h2 hw;refine aL (fun e=>?_) fun e=>aL (fun _=>?_) fun _=>?_
 ·exact Zq ⟨g,.inl ⟨_,_,rfl,l3.last M O (by simpa using e)⟩⟩
 ·have e':ia+1+1≠a.size:=by simpa using e
  exact Zq ⟨g,.inr ⟨_,_,_,_,_,_,rfl,l3,by omega,h2,by omega⟩⟩
 ·have e':ia+1+1≠a.size:=by simpa using e
  exact Zq ⟨g,⟨_,_,_,_,_,_,rfl,l3,by omega,h2,by omega⟩⟩
theorem zV(Z:Zc prog w A s κ it lt N)(O:LtOk lt)(M:MF lt N a b){out:Array Keyed}{ia ib mg ac bc n:Nat}{st0:SortSt}(hk:kindOf st0=κ)(g:SG' st0 st)(l:LoM lt (kas_item it) a b out ia ib)(h1:ia+1<a.size)(h2:ib<b.size)(hn:n<=ia+ib)(hw:lt (gA b ib) (gA a ia)=true) :
  wpS (model prog w) A E s (wQ (a.map (kas_item it)) (b.map (kas_item it)) out ia ib mg ac bc) (LoQ lt (kas_item it) a b st0 n) st:=by
 unfold wQ jJ;rw[YD,YD];refine Zj (bp h2 ?_);have l3:=l.pushB M O (by omega) h2 hw;refine aL (fun e=>?_) fun e=>?_
 ·exact Zq ⟨g,.inl ⟨_,_,rfl,l3.done M (.inr (by simpa using e))⟩⟩
 have e':ib+1≠b.size:=by simpa using e
 refine Zj (bp (by omega) (Zj (lU Z (g.kind hk) (M.na _ (by omega)) (by omega) (fun i _ _=>M.nb i (by omega)) (by omega) (fun i j h3 h4 h5=>?_) fun k hk1 hk2 hk3=>?_)))
 ·exact M.leB O (by omega) (by omega) h5
 refine aL (fun hp=>aL (fun e=>?_) fun e=>?_) fun hp=>?_
 ·have l4:=l3.chunkB M O k (by omega) (by omega) hk2;exact Zq ⟨g,.inl ⟨_,_,rfl,l4.done M (.inr (by simpa using e))⟩⟩
 ·have l4:=l3.chunkB M O k (by omega) (by omega) hk2;have e2:ib+1+k≠b.size:=by simpa using e
  exact zW O M g l4 h1 (by omega) (by omega) (hk3 k (Ze _) (by omega))
 ·have e3:k=0:=by omega
  subst e3;exact zW O M g l3 h1 (by omega) (by omega) (hk3 0 (Ze _) (by omega))
theorem zU(Z:Zc prog w A s κ it lt N)(O:LtOk lt)(M:MF lt N a b){out:Array Keyed}{ia ib mg ac bc n:Nat}{st0:SortSt}(hk:kindOf st0=κ)(g:SG' st0 st)(l:LoM lt (kas_item it) a b out ia ib)(h1:ia+1<a.size)(h2:ib<b.size)(hn:n<=ia+ib) :
  wpS (model prog w) A E s (EV (a.map (kas_item it)) (b.map (kas_item it)) out ia ib mg ac bc) (LoQ lt (kas_item it) a b st0 n) st:=by
 unfold EV jJ nL;rw[YD,YD];have tf:∀{x y:Nat},zB lt false x y=true->lt x y=false:=fun{x y} z=>by have z':(!lt x y)=true:=z;simpa using z'
 have ft:∀{x y:Nat},zB lt false x y=false->lt x y=true:=fun{x y} z=>by have z':(!lt x y)=false:=z;simpa using z'
 refine Zj (rO (Zj (bp h2 (Zj (lU Z ((g.set _).kind hk) (M.nb _ h2) (by omega) (fun i _ _=>M.na i (by omega)) (by omega) (fun i j h3 h4 h5=>?_) fun k hk1 hk2 hk3=>?_)))))
 ·have z:=tf h5;show(!lt (gA b ib) (gA a (ia+i)))=true;cases e:lt (gA b ib) (gA a (ia+i))with
  |false=>rfl
  |true=>rw[M.leA O (show ia+i<=ia+j by omega) (by omega) e]at z;cases z
 refine aL (fun hp=>aL (fun e=>?_) fun e=>aL (fun e2=>?_) fun e2=>?_) fun hp=>?_
 ·have l4:=l.chunkA M O k (by omega) h2 fun i hi=>tf (hk2 i hi);exact Zq ⟨g.set _,.inl ⟨_,_,rfl,l4.last M O (by simpa using e)⟩⟩
 ·have l4:=l.chunkA M O k (by omega) h2 fun i hi=>tf (hk2 i hi);exact Zq ⟨g.set _,.inl ⟨_,_,rfl,l4.done M (.inl (by simpa using e2))⟩⟩
 ·have l4:=l.chunkA M O k (by omega) h2 fun i hi=>tf (hk2 i hi);have e':ia+k+1≠a.size:=by simpa using e
  have e2':ia+k≠a.size:=by simpa using e2
  exact zV Z O M hk (g.set _) l4 (by omega) h2 (by omega) (ft (hk3 k (Ze _) (by omega)))
 ·have e3:k=0:=by omega
  subst e3;exact zV Z O M hk (g.set _) l (by omega) h2 (by omega) (ft (hk3 0 (Ze _) (by omega)))
theorem Io(Z:Zc prog w A s κ it lt N)(O:LtOk lt)(M:MF lt N a b){Q:Array Keyed->SortSt->Prop}(hk:kindOf st=κ)(h:∀r st',Gd lt (kas_item it) a b r->SG' st st'->Q r st'):wpS (model prog w) A E s (zLo (a.map (kas_item it)) (b.map (kas_item it))) Q st:=by
 have a0:=M.a0;have b0:=M.b0;have za:(a.map (kas_item it)).size=a.size:=YD ..;have zb:(b.map (kas_item it)).size=b.size:=YD ..;rw[GH];refine Zj (wpS_lift (YC ⟨rfl,?_⟩));refine Zj (bp b0 ?_);have l0:=LoM.start (f:=kas_item it) M O;have dn:∀{out ia ib},LoM lt (kas_item it) a b out ia ib->ia=a.size\/ib=b.size->Gd lt (kas_item it) a b (out++(a.map (kas_item it)).extract ia (a.map (kas_item it)).size++(b.map (kas_item it)).extract ib (b.map (kas_item it)).size):=fun h e=>by rw[za,zb];exact h.done M e
 have ls:∀{out ia ib},LoM lt (kas_item it) a b out ia ib->ia+1=a.size->Gd lt (kas_item it) a b (out++(b.map (kas_item it)).extract ib (b.map (kas_item it)).size++(a.map (kas_item it)).extract ia (a.map (kas_item it)).size):=fun h e=>by rw[za,zb];exact h.last M O e
 have hit:∀{α:Type} {c:Prop} [Decidable c] {x y:StateT SortSt Sem α} {Q:α->SortSt->Prop} {st:SortSt},(c->wpS (model prog w) A E s x Q st)->(¬c->wpS (model prog w) A E s y Q st)->wpS (model prog w) A E s (if c then x else y) Q st:=fun h1 h2=>by
  split
  ·exact h1 ‹_›
  ·exact h2 ‹_›
 refine hit (fun e1=>?_) fun e1=>hit (fun e2=>?_) fun e2=>?_
 ·exact Zq (h _ _ (dn l0 (.inr (by rw[<-zb];simpa using e1))) .refl)
 ·exact Zq (h _ _ (ls l0 (by rw[<-za];simpa using e2)) .refl)
 have e1':1≠b.size:=by rw[<-zb];simpa using e1
 have e2':1≠a.size:=by rw[<-za];simpa using e2
 refine Zj (wpS_get ?_);have J:∀{γ:Type} {m:StateT SortSt Sem γ} {Q R:γ->SortSt->Prop} {st:SortSt},wpS (model prog w) A E s m R st->(∀c st,R c st->Q c st)->wpS (model prog w) A E s m Q st:=fun h k=>Yi h k;refine Zj (Yi (Yd (I:=fun x c st'=>SG' st st'/\∃ out ia ib mg,c=(none,out,ia,ib,mg)/\LoM lt (kas_item it) a b out ia ib/\ia+1<a.size/\ib<b.size/\x+1<=ia+ib)
  (Q:=fun c st'=>SG' st st'/\∃ r d,c=(some r,d)/\Gd lt (kas_item it) a b r) ?step ?fin ⟨.refl,_,0,1,_,rfl,l0,by omega,by omega,by omega⟩) ?post)
 case fin =>rintro c st' ⟨_,out,ia,ib,mg,rfl,_,h1,h2,h3⟩;rw[za,zb]at h3;omega
 case post =>rintro c st' ⟨g,r,d,rfl,hr⟩;exact Zq (h r st' hr g)
 case step =>
  rintro x c st1 _ hx ⟨g,out,ia,ib,mg,rfl,l1,h1,h2,h3⟩;refine Zj (Yi (Yd (I:=fun y c st'=>st'=st1/\∃ out ia' ib' ac bc,c=(none,out,ia',ib',ac,bc)/\LoM lt (kas_item it) a b out ia' ib'/\ia'+1<a.size/\ib'<b.size/\ia+ib+y<=ia'+ib')
   (Q:=fun c st'=>st'=st1/\((∃ r d,c=(some r,d)/\Gd lt (kas_item it) a b r)\/∃ out ia' ib' ac bc,c=(none,out,ia',ib',ac,bc)/\LoM lt (kas_item it) a b out ia' ib'/\ia'+1<a.size/\ib'<b.size/\ia+ib+1<=ia'+ib')) ?step1 ?fin1 ⟨rfl,_,ia,ib,_,_,rfl,l1,h1,h2,by omega⟩) ?post1)
  case fin1 =>rintro c st' ⟨rfl,out,ia',ib',ac,bc,rfl,l2,g1,g2,g3⟩;exact⟨rfl,.inr ⟨out,ia',ib',ac,bc,rfl,l2,g1,g2,by rw[za,zb]at g3;omega⟩⟩
  case step1 =>
   rintro y c st' _ hy ⟨rfl,out,ia',ib',ac,bc,rfl,l2,g1,g2,g3⟩;dsimp only;refine Zj (bp g2 (Zj (bp (show ia'<a.size by omega) (Zj (ul Z (g.kind hk) (M.nb _ g2) (M.na _ (by omega)) ?_)))));cases ew:lt (gA b ib') (gA a ia')with
   |true =>
    refine hit (fun _=>?_) (fun z=>absurd rfl z);refine Zj (bp g2 ?_);have l3:=l2.pushB M O (by omega) g2 ew;refine hit (fun e=>?_) fun e=>hit (fun _=>?_) fun _=>?_
    ·exact Zq ⟨rfl,.inl ⟨_,_,rfl,dn l3 (.inr (by rw[<-zb];simpa using e))⟩⟩
    ·exact Zq ⟨rfl,.inr ⟨_,_,_,_,_,rfl,l3,g1,by have:ib'+1≠b.size:=(by rw[<-zb];simpa using e);omega,by omega⟩⟩
    ·exact Zq ⟨rfl,_,_,_,_,_,rfl,l3,g1,by have:ib'+1≠b.size:=(by rw[<-zb];simpa using e);omega,by omega⟩
   |false =>
    refine hit (fun z=>absurd z (by simp)) fun _=>?_;refine Zj (bp (show ia'<a.size by omega) ?_);have l3:=l2.pushA M O (by omega) g2 ew;refine hit (fun e=>?_) fun e=>hit (fun _=>?_) fun _=>?_
    ·exact Zq ⟨rfl,.inl ⟨_,_,rfl,ls l3 (by rw[<-za];simpa using e)⟩⟩
    ·exact Zq ⟨rfl,.inr ⟨_,_,_,_,_,rfl,l3,by have:ia'+1+1≠a.size:=(by rw[<-za];simpa using e);omega,g2,by omega⟩⟩
    ·exact Zq ⟨rfl,_,_,_,_,_,rfl,l3,by have:ia'+1+1≠a.size:=(by rw[<-za];simpa using e);omega,g2,by omega⟩
  case post1 =>
   rintro c st' ⟨rfl,⟨r,d,rfl,hr⟩|⟨out,ia',ib',ac,bc,rfl,l2,g1,g2,g3⟩⟩
   ·exact Zq ⟨g,r,_,rfl,hr⟩
   refine Zj (wpS_lift (YC ⟨rfl,?_⟩));refine Zj (Yi (Yd (I:=fun y c st'=>SG' st st'/\∃ out ia1 ib1 mg ac bc,c=(none,out,ia1,ib1,mg,ac,bc)/\LoM lt (kas_item it) a b out ia1 ib1/\ia1+1<a.size/\ib1<b.size/\ia'+ib'<=ia1+ib1)
    (Q:=fun c st'=>SG' st st'/\((∃ r d,c=(some r,d)/\Gd lt (kas_item it) a b r)\/∃ out ia1 ib1 mg ac bc,c=(none,out,ia1,ib1,mg,ac,bc)/\LoM lt (kas_item it) a b out ia1 ib1/\ia1+1<a.size/\ib1<b.size/\ia'+ib'<=ia1+ib1)) ?step2 ?fin2 ⟨g,_,_,_,_,_,_,rfl,l2,g1,g2,Ze _⟩) ?post2)
   case fin2 =>rintro c st2 ⟨gg,hh⟩;exact⟨gg,.inr hh⟩
   case post2 =>
    rintro c st2 ⟨gg,⟨r,d,rfl,hr⟩|⟨out,ia1,ib1,mg,ac,bc,rfl,l3,k1,k2,k3⟩⟩
    ·exact Zq ⟨gg,r,_,rfl,hr⟩
    ·exact Zj (rO (Zq ⟨gg.set _,out,ia1,ib1,_,rfl,l3,k1,k2,by omega⟩))
   case step2 =>
    rintro y c st2 _ hy ⟨gg,out,ia1,ib1,mg,ac,bc,rfl,l3,k1,k2,k3⟩;dsimp only;refine aL (fun _=>?_) fun _=>?_
    ·exact Yi (zU (n:=ia'+ib') (mg:=mg-1) (ac:=ac) (bc:=bc) Z O M hk gg l3 k1 k2 k3) fun r st3 hr=>by
      cases r with
      |done c=>exact hr
      |yield c=>exact hr
    ·exact Yi (zU (n:=ia'+ib') (mg:=mg) (ac:=ac) (bc:=bc) Z O M hk gg l3 k1 k2 k3) fun r st3 hr=>by
      cases r with
      |done c=>exact hr
      |yield c=>exact hr
end
open PySem PyProof.Rows PySem.W
def iK(a b out:Array Keyed)(na nb:Nat):Array Keyed:=a.extract 0 na++b.extract 0 nb++out.reverse
def wM(a b out:Array Keyed)(na nb:Nat):Array Keyed:=b.extract 0 nb++a.extract 0 na++out.reverse
abbrev HiC:=Option (Array Keyed)×Nat×Nat×Array Keyed×Nat×Nat×Nat
def wO(a b:Array Keyed)(na nb:Nat)(out:Array Keyed)(mg ac bc:Nat):StateT SortSt Sem (ForInStep HiC):=do
 let x ←elem' a (na-1)
 if(na-1==0)=true then pure (.done (some (iK a b (out.push x) (na-1) nb),na-1,nb,out.push x,mg,ac,bc))
 else if(decide (ac<7)&&decide (bc<7))=true then pure (.done (none,na-1,nb,out.push x,mg,ac,bc))else pure (.yield (none,na-1,nb,out.push x,mg,ac,bc))
def wN(a b:Array Keyed)(na nb:Nat)(out:Array Keyed)(mg ac bc:Nat):StateT SortSt Sem (ForInStep HiC):=do
 let y ←elem' b (nb-1)
 if(nb-1==1)=true then pure (.done (some (wM a b (out.push y) na (nb-1)),na,nb-1,out.push y,mg,ac,bc))
 else do
  let x ←elem' a (na-1)
  let some k ←fK true x b 0 (nb-1) (nb-1-1)|pure (.done (some (iK a b (out.push y) na (nb-1)),na,nb-1,out.push y,mg,ac,bc))
  if nb-1-k>0 then
   if(k==1)=true then pure (.done (some (wM a b (out.push y++(b.extract k (nb-1)).reverse) na k),na,k,out.push y++(b.extract k (nb-1)).reverse,mg,ac,nb-1-k))
   else if(k==0)=true then pure (.done (some (iK a b (out.push y++(b.extract k (nb-1)).reverse) na k),na,k,out.push y++(b.extract k (nb-1)).reverse,mg,ac,nb-1-k))
   else wO a b na k (out.push y++(b.extract k (nb-1)).reverse) mg ac (nb-1-k)
  else wO a b na (nb-1) (out.push y) mg ac (nb-1-k)
def EJ(a b:Array Keyed)(na nb:Nat)(out:Array Keyed)(mg ac bc:Nat):StateT SortSt Sem (ForInStep HiC):=do
 kO mg
 let y ←elem' b (nb-1)
 let some k ←fK false y a 0 na (na-1)|pure (.done (some (iK a b out na nb),na,nb,out,mg,ac,bc))
 if na-k>0 then
  if(k==0)=true then pure (.done (some (iK a b (out++(a.extract k na).reverse) k nb),k,nb,out++(a.extract k na).reverse,mg,na-k,bc))
  else wN a b k nb (out++(a.extract k na).reverse) mg (na-k) bc
 else wN a b na nb out mg (na-k) bc
section
variable{prog:Program}{w:World}{A:Around}{E:Value->Shared->Prop}{s:Shared}{κ:SortKind}{it:Array Keyed}{lt:Nat->Nat->Bool}{N:Nat}{st:SortSt}{a b:Array Nat}
def HiI(lt:Nat->Nat->Bool)(f:Nat->Keyed)(a b:Array Nat)(n:Nat)(c:HiC):Prop:=∃na nb out mg ac bc,c=(none,na,nb,out,mg,ac,bc)/\HiM lt f a b out na nb/\1<=na/\na<=a.size/\2<=nb/\nb<=b.size/\na+nb<=n
def HiQ(lt:Nat->Nat->Bool)(f:Nat->Keyed)(a b:Array Nat)(st:SortSt)(n:Nat)(r:ForInStep HiC)(st':SortSt):Prop:=SG' st st'/\match r with
 |.done c=>(∃r d,c=(some r,d)/\Gd lt f a b r)\/HiI lt f a b n c
 |.yield c=>HiI lt f a b n c
theorem zT(O:LtOk lt)(M:MF lt N a b){out:Array Keyed}{na nb mg ac bc n:Nat}{st0:SortSt}(g:SG' st0 st)(l:HiM lt (kas_item it) a b out na nb)(h1:1<=na)(h1':na<=a.size)(h2:2<=nb)(h2':nb<=b.size)(hn:na+nb<=n)(hw:lt (gA b (nb-1)) (gA a (na-1))=true) :
  wpS (model prog w) A E s (wO (a.map (kas_item it)) (b.map (kas_item it)) na nb out mg ac bc) (HiQ lt (kas_item it) a b st0 n) st:=by
 unfold wO iK;refine Zj (bp (by omega) ?_);have l3:=l.pushA M O (by omega) h1' (by omega) h2' hw;refine aL (fun e=>?_) fun e=>aL (fun _=>?_) fun _=>?_
 ·exact Zq ⟨g,.inl ⟨_,_,rfl,l3.done M (.inl (by simpa using e))⟩⟩
 ·have e':na-1≠0:=by simpa using e
  exact Zq ⟨g,.inr ⟨_,_,_,_,_,_,rfl,l3,by omega,by omega,h2,h2',by omega⟩⟩
 ·have e':na-1≠0:=by simpa using e
  exact Zq ⟨g,⟨_,_,_,_,_,_,rfl,l3,by omega,by omega,h2,h2',by omega⟩⟩
theorem zS(Z:Zc prog w A s κ it lt N)(O:LtOk lt)(M:MF lt N a b){out:Array Keyed}{na nb mg ac bc n:Nat}{st0:SortSt}(hk:kindOf st0=κ)(g:SG' st0 st)(l:HiM lt (kas_item it) a b out na nb)(h1:1<=na)(h1':na<=a.size)(h2:2<=nb)(h2':nb<=b.size)(hn:na+nb<=n)(hw:lt (gA b (nb-1)) (gA a (na-1))=false) :
  wpS (model prog w) A E s (wN (a.map (kas_item it)) (b.map (kas_item it)) na nb out mg ac bc) (HiQ lt (kas_item it) a b st0 n) st:=by
 unfold wN iK wM;refine Zj (bp (by omega) ?_);have l3:=l.pushB M O (by omega) h1' (by omega) h2' hw;refine aL (fun e=>?_) fun e=>?_
 ·exact Zq ⟨g,.inl ⟨_,_,rfl,l3.first M O (by simpa using e)⟩⟩
 have e':nb-1≠1:=by simpa using e
 have z0:∀i,0+i=i:=fun i=>by omega
 refine Zj (bp (by omega) (Zj (lU Z (g.kind hk) (M.na _ (by omega)) (by omega) (fun i _ _=>M.nb i (by omega)) (by omega) (fun i j h3 h4 h5=>?_) fun k hk1 hk2 hk3=>?_)))
 ·rw[z0]at h5 ⊢;exact M.leB O (by omega) (by omega) h5
 have hk3':∀i,k<=i->i<nb-1->lt (gA b i) (gA a (na-1))=false:=fun i x y=>by have:=hk3 i x y;rw[z0]at this;exact this
 have hk2':∀i,i<k->lt (gA b i) (gA a (na-1))=true:=fun i x=>by have:=hk2 i x;rw[z0]at this;exact this
 refine aL (fun hp=>aL (fun e=>?_) fun e=>aL (fun e2=>?_) fun e2=>?_) fun hp=>?_
 ·have l4:=l3.chunkB M O k (by omega) h1' (by omega) (by omega) hk3';exact Zq ⟨g,.inl ⟨_,_,rfl,l4.first M O (by simpa using e)⟩⟩
 ·have l4:=l3.chunkB M O k (by omega) h1' (by omega) (by omega) hk3';exact Zq ⟨g,.inl ⟨_,_,rfl,l4.done M (.inr (by simpa using e2))⟩⟩
 ·have l4:=l3.chunkB M O k (by omega) h1' (by omega) (by omega) hk3';have q1:k≠1:=by simpa using e
  have q2:k≠0:=by simpa using e2
  exact zT O M g l4 h1 h1' (by omega) (by omega) (by omega) (hk2' (k-1) (by omega))
 ·have e3:k=nb-1:=by omega
  exact zT O M g l3 h1 h1' (by omega) (by omega) (by omega) (hk2' (nb-1-1) (by omega))
theorem zR(Z:Zc prog w A s κ it lt N)(O:LtOk lt)(M:MF lt N a b){out:Array Keyed}{na nb mg ac bc n:Nat}{st0:SortSt}(hk:kindOf st0=κ)(g:SG' st0 st)(l:HiM lt (kas_item it) a b out na nb)(h1:1<=na)(h1':na<=a.size)(h2:2<=nb)(h2':nb<=b.size)(hn:na+nb<=n) :
  wpS (model prog w) A E s (EJ (a.map (kas_item it)) (b.map (kas_item it)) na nb out mg ac bc) (HiQ lt (kas_item it) a b st0 n) st:=by
 unfold EJ iK;have z0:∀i,0+i=i:=fun i=>by omega
 have tf:∀{x y:Nat},zB lt false x y=true->lt x y=false:=fun{x y} z=>by have z':(!lt x y)=true:=z;simpa using z'
 have ft:∀{x y:Nat},zB lt false x y=false->lt x y=true:=fun{x y} z=>by have z':(!lt x y)=false:=z;simpa using z'
 refine Zj (rO (Zj (bp (by omega) (Zj (lU Z ((g.set _).kind hk) (M.nb _ (by omega)) (by omega) (fun i _ _=>M.na i (by omega)) (by omega) (fun i j h3 h4 h5=>?_) fun k hk1 hk2 hk3=>?_)))))
 ·rw[z0]at h5 ⊢;have z:=tf h5;show(!lt (gA b (nb-1)) (gA a i))=true;cases e:lt (gA b (nb-1)) (gA a i)with
  |false=>rfl
  |true=>rw[M.leA O h3 (by omega) e]at z;cases z
 have hk3':∀i,k<=i->i<na->lt (gA b (nb-1)) (gA a i)=true:=fun i x y=>by have:=ft (hk3 i x y);rw[z0]at this;exact this
 have hk2':∀i,i<k->lt (gA b (nb-1)) (gA a i)=false:=fun i x=>by have:=tf (hk2 i x);rw[z0]at this;exact this
 refine aL (fun hp=>aL (fun e=>?_) fun e=>?_) fun hp=>?_
 ·have l4:=l.chunkA M O k (by omega) h1' (by omega) h2' hk3';exact Zq ⟨g.set _,.inl ⟨_,_,rfl,l4.done M (.inl (by simpa using e))⟩⟩
 ·have l4:=l.chunkA M O k (by omega) h1' (by omega) h2' hk3';have q1:k≠0:=by simpa using e
  exact zS Z O M hk (g.set _) l4 (by omega) (by omega) h2 h2' (by omega) (hk2' (k-1) (by omega))
 ·have e3:k=na:=by omega
  exact zS Z O M hk (g.set _) l h1 h1' h2 h2' hn (hk2' (na-1) (by omega))
theorem Im(Z:Zc prog w A s κ it lt N)(O:LtOk lt)(M:MF lt N a b){Q:Array Keyed->SortSt->Prop}(hk:kindOf st=κ)(h:∀r st',Gd lt (kas_item it) a b r->SG' st st'->Q r st'):wpS (model prog w) A E s (zHi (a.map (kas_item it)) (b.map (kas_item it))) Q st:=by
 have a0:=M.a0;have b0:=M.b0;have za:(a.map (kas_item it)).size=a.size:=YD ..;have zb:(b.map (kas_item it)).size=b.size:=YD ..;rw[GG];refine Zj (wpS_lift (YC ⟨rfl,?_⟩));rw[za,zb];refine Zj (bp (by omega) ?_);have l0:=HiM.start (f:=kas_item it) M O;refine aL (fun e1=>?_) fun e1=>aL (fun e2=>?_) fun e2=>?_
 ·exact Zq (h _ _ (l0.done M (.inl (by simpa using e1))) .refl)
 ·exact Zq (h _ _ (l0.first M O (by simpa using e2)) .refl)
 have e1':a.size-1≠0:=by simpa using e1
 have e2':b.size≠1:=by simpa using e2
 refine Zj (wpS_get ?_);refine Zj (Yi (Yd (I:=fun x c st'=>SG' st st'/\∃ na nb out mg,c=(none,na,nb,out,mg)/\HiM lt (kas_item it) a b out na nb/\1<=na/\na<=a.size/\2<=nb/\nb<=b.size/\na+nb+x<=a.size+b.size)
  (Q:=fun c st'=>SG' st st'/\∃ r d,c=(some r,d)/\Gd lt (kas_item it) a b r) ?step ?fin ⟨.refl,_,_,_,_,rfl,l0,by omega,by omega,by omega,by omega,by omega⟩) ?post)
 case fin =>rintro c st' ⟨_,na,nb,out,mg,rfl,_,h1,h1',h2,h2',h3⟩;omega
 case post =>rintro c st' ⟨g,r,d,rfl,hr⟩;exact Zq (h r st' hr g)
 case step =>
  rintro x c st1 _ hx ⟨g,na,nb,out,mg,rfl,l1,h1,h1',h2,h2',h3⟩;refine Zj (Yi (Yd (I:=fun y c st'=>st'=st1/\∃ na' nb' out ac bc,c=(none,na',nb',out,ac,bc)/\HiM lt (kas_item it) a b out na' nb'/\1<=na'/\na'<=a.size/\2<=nb'/\nb'<=b.size/\na'+nb'+y<=na+nb)
   (Q:=fun c st'=>st'=st1/\((∃ r d,c=(some r,d)/\Gd lt (kas_item it) a b r)\/∃ na' nb' out ac bc,c=(none,na',nb',out,ac,bc)/\HiM lt (kas_item it) a b out na' nb'/\1<=na'/\na'<=a.size/\2<=nb'/\nb'<=b.size/\na'+nb'+1<=na+nb)) ?step1 ?fin1 ⟨rfl,na,nb,out,0,0,rfl,l1,h1,h1',h2,h2',by omega⟩) ?post1)
  case fin1 =>rintro c st' ⟨rfl,na',nb',out,ac,bc,rfl,l2,g1,g1',g2,g2',g3⟩;exact⟨rfl,.inr ⟨na',nb',out,ac,bc,rfl,l2,g1,g1',g2,g2',by omega⟩⟩
  case step1 =>
   rintro y c st' _ hy ⟨rfl,na',nb',out,ac,bc,rfl,l2,g1,g1',g2,g2',g3⟩;dsimp only;refine Zj (bp (by omega) (Zj (bp (by omega) (Zj (ul Z (g.kind hk) (M.nb _ (by omega)) (M.na _ (by omega)) ?_)))));cases ew:lt (gA b (nb'-1)) (gA a (na'-1))with
   |true =>
    refine aL (fun _=>?_) (fun z=>absurd rfl z);refine Zj (bp (by omega) ?_);have l3:=l2.pushA M O (by omega) g1' (by omega) g2' ew;refine aL (fun e=>?_) fun e=>aL (fun _=>?_) fun _=>?_
    ·exact Zq ⟨rfl,.inl ⟨_,_,rfl,l3.done M (.inl (by simpa using e))⟩⟩
    ·have e':na'-1≠0:=by simpa using e
     exact Zq ⟨rfl,.inr ⟨_,_,_,_,_,rfl,l3,by omega,by omega,g2,g2',by omega⟩⟩
    ·have e':na'-1≠0:=by simpa using e
     exact Zq ⟨rfl,_,_,_,_,_,rfl,l3,by omega,by omega,g2,g2',by omega⟩
   |false =>
    refine aL (fun z=>absurd z (by simp)) fun _=>?_;refine Zj (bp (by omega) ?_);have l3:=l2.pushB M O (by omega) g1' (by omega) g2' ew;refine aL (fun e=>?_) fun e=>aL (fun _=>?_) fun _=>?_
    ·exact Zq ⟨rfl,.inl ⟨_,_,rfl,l3.first M O (by simpa using e)⟩⟩
    ·have e':nb'-1≠1:=by simpa using e
     exact Zq ⟨rfl,.inr ⟨_,_,_,_,_,rfl,l3,g1,g1',by omega,by omega,by omega⟩⟩
    ·have e':nb'-1≠1:=by simpa using e
     exact Zq ⟨rfl,_,_,_,_,_,rfl,l3,g1,g1',by omega,by omega,by omega⟩
  case post1 =>
   rintro c st' ⟨rfl,⟨r,d,rfl,hr⟩|⟨na',nb',out,ac,bc,rfl,l2,g1,g1',g2,g2',g3⟩⟩
   ·exact Zq ⟨g,r,_,rfl,hr⟩
   refine Zj (wpS_lift (YC ⟨rfl,?_⟩));refine Zj (Yi (Yd (I:=fun y c st'=>SG' st st'/\HiI lt (kas_item it) a b (na'+nb') c)
    (Q:=fun c st'=>SG' st st'/\((∃ r d,c=(some r,d)/\Gd lt (kas_item it) a b r)\/HiI lt (kas_item it) a b (na'+nb') c)) ?step2 ?fin2 ⟨g,_,_,_,_,_,_,rfl,l2,g1,g1',g2,g2',Ze _⟩) ?post2)
   case fin2 =>rintro c st2 ⟨gg,hh⟩;exact⟨gg,.inr hh⟩
   case post2 =>
    rintro c st2 ⟨gg,⟨r,d,rfl,hr⟩|⟨na1,nb1,out,mg,ac,bc,rfl,l3,k1,k1',k2,k2',k3⟩⟩
    ·exact Zq ⟨gg,r,_,rfl,hr⟩
    ·exact Zj (rO (Zq ⟨gg.set _,na1,nb1,out,_,rfl,l3,k1,k1',k2,k2',by omega⟩))
   case step2 =>
    rintro y c st2 _ hy ⟨gg,na1,nb1,out,mg,ac,bc,rfl,l3,k1,k1',k2,k2',k3⟩;dsimp only;refine aL (fun _=>?_) fun _=>?_
    ·exact Yi (zR (n:=na'+nb') (mg:=mg-1) (ac:=ac) (bc:=bc) Z O M hk gg l3 k1 k1' k2 k2' k3) fun r st3 hr=>by
      cases r with
      |done c=>exact hr
      |yield c=>exact hr
    ·exact Yi (zR (n:=na'+nb') (mg:=mg) (ac:=ac) (bc:=bc) Z O M hk gg l3 k1 k1' k2 k2' k3) fun r st3 hr=>by
      cases r with
      |done c=>exact hr
      |yield c=>exact hr
end
open PySem PyProof.Rows PySem.W
theorem vW(at0:Nat):∀(l:List Keyed) (n:Nat) (ar:Array Keyed),at0+n+l.length<=ar.size->((l.zipIdx n).foldl (fun a (p,j)=>a.setIfInBounds (at0+j) p) ar).toList=ar.toList.take (at0+n)++(l++ar.toList.drop (at0+n+l.length))
 | [],n,ar,_=>by rw[YH,List.length_nil,Nat.add_zero,ZT];rfl
 |x::l,n,ar,h=>by
  rw[Zm]at h;rw[List.zipIdx_cons,List.foldl_cons];have hs:(ar.setIfInBounds (at0+n) x).size=ar.size:=Array.size_setIfInBounds;have ih:=vW at0 l (n+1) (ar.setIfInBounds (at0+n) x) (by omega);rw[ih,Array.toList_setIfInBounds];have hl:at0+n<ar.toList.length:=by rw[Zz];omega
  have e1:(ar.toList.set (at0+n) x).take (at0+(n+1))=ar.toList.take (at0+n)++[x]:=by rw[show at0+(n+1)=at0+n+1 by omega,List.take_add_one,List.take_set_of_le (Ze _)];rw[List.getElem?_set_self hl];rfl
  have e2:(ar.toList.set (at0+n) x).drop (at0+(n+1)+l.length)=ar.toList.drop (at0+n+(x::l).length):=by rw[List.drop_set_of_lt (by omega),Zm];congr 1;omega
  rw[e1,e2,ZJ];rfl
theorem Ee{f:Nat->Keyed}{p q:Array Nat}{at0:Nat}(h:at0+q.size<=p.size):∃p':Array Nat,mY (p.map f) at0 (q.map f)=p'.map f/\p'.toList=p.toList.take at0++(q.toList++p.toList.drop (at0+q.size)):=by refine⟨(p.toList.take at0++(q.toList++p.toList.drop (at0+q.size))).toArray,?_,by simp⟩;apply Array.toList_inj.mp;have e:=vW at0 (q.map f).toList 0 (p.map f) (by simpa using h);unfold mY;rw[e];simp
section
variable{prog:Program}{w:World}{A:Around}{E:Value->Shared->Prop}{s:Shared}{κ:SortKind}{it:Array Keyed}{lt:Nat->Nat->Bool}{N:Nat}{st:SortSt}{a b:Array Nat}
theorem vh{l:List Nat}(h:l.Pairwise (Lx lt)){i j:Nat}(hij:i<j)(hj:j<l.length):Lx lt (l.getD i 0) (l.getD j 0):=by rw[ZH]at h;have:=h i j (by omega) hj hij;rw[Zg,Zg,Zd (show i<l.length by omega),Zd hj];exact this
theorem dG{l:List Nat}{i:Nat}(h:i<l.length):l.getD i 0∈l:=by rw[Zg,Zd h];exact Zy h
theorem sS{l:List Nat}{x:Nat}(h:x∈l):∃i,i<l.length/\l.getD i 0=x:=by obtain⟨i,hi,e⟩:=ZP.mp h;refine⟨i,hi,?_⟩;rw[Zg,Zd hi];exact e
theorem sC(O:LtOk lt){l:List Nat}(h:l.Pairwise (Lx lt)){i j:Nat}(hij:i<=j)(hj:j<l.length){x:Nat}(hx:lt x (l.getD i 0)=true):lt x (l.getD j 0)=true:=by
 rcases Z2 i j with h1|h1
 ·exact O.lt_le hx (vh h h1 hj).1
 ·have e:i=j:=by omega
  rw[<-e];exact hx
theorem sE(O:LtOk lt){l:List Nat}(h:l.Pairwise (Lx lt)){i j:Nat}(hij:i<=j)(hj:j<l.length){x:Nat}(hx:lt (l.getD j 0) x=true):lt (l.getD i 0) x=true:=by
 rcases Z2 i j with h1|h1
 ·exact O.le_lt (vh h h1 hj).1 hx
 ·have e:i=j:=by omega
  rw[e];exact hx
theorem Il(Z:Zc prog w A s κ it lt N)(O:LtOk lt){p:Array Nat}{pre X Y post:List Nat}{i pw pw2:Nat}{Q:Bool->SortSt->Prop}(hk:kindOf st=κ)(hf:failedOf st=none)(ha:arrOf st=p.map (kas_item it))(hp:p.toList=pre++(X++(Y++post)))(hX:X.Pairwise (Lx lt))(hY:Y.Pairwise (Lx lt))(hX0:0<X.length)(hY0:0<Y.length)(hXY:∀ x∈X,∀ y∈Y,x<y)(hN:∀ x∈p.toList,x<N)(h1:(pendingOf st)[i]? = some (pre.length,X.length,pw))(h2:(pendingOf st)[i+1]? = some (pre.length+X.length,Y.length,pw2))(h:∀ (st':SortSt) (p':Array Nat) (W:List Nat),kindOf st'=κ->failedOf st'=none->arrOf st'=p'.map (kas_item it)->p'.toList=pre++(W++post)->W.Pairwise (Lx lt)->W.Perm (X++Y) ->
   pendingOf st'=((pendingOf st).setIfInBounds i (pre.length,X.length+Y.length,pw)).eraseIdxIfInBounds (i+1)->Q true st'):wpS (model prog w) A E s (mergeAt' i) Q st:=by
 have psz:p.size=pre.length+(X.length+(Y.length+post.length)):=by rw[<-Zz,hp];simp
 have gX:∀i,i<X.length->gA p (pre.length+i)=X.getD i 0:=fun i hi=>by rw[aU,hp,Zg,Zg,Z4 (by omega),Z8,YQ hi]
 have gY:∀i,i<Y.length->gA p (pre.length+X.length+i)=Y.getD i 0:=fun i hi=>by rw[aU,hp,Zg,Zg,Z4 (by omega),show pre.length+X.length+i-pre.length=X.length+i by omega,Z4 (by omega),Z8,YQ hi]
 have nX:∀x∈X,x<N:=fun x hx=>hN x (by rw[hp];simp[hx]);have nY:∀x∈Y,x<N:=fun x hx=>hN x (by rw[hp];simp[hx]);have tf:∀{x y:Nat},zB lt false x y=true->lt x y=false:=fun{x y} z=>by have z':(!lt x y)=true:=z;simpa using z'
 have ft:∀{x y:Nat},zB lt false x y=false->lt x y=true:=fun{x y} z=>by have z':(!lt x y)=false:=z;simpa using z'
 rw[GF];refine Zj (wpS_get ?_);rw[h1,h2];have hset:∀{st2:SortSt} {Q:PUnit->SortSt->Prop},Q ⟨⟩ st2->wpS (model prog w) A E s (set st2:StateT SortSt Sem PUnit) Q st:=fun{st2 Q} hq=>by have e:(set st2:StateT SortSt Sem PUnit)=modify fun _=>st2:=rfl;rw[e];exact wpS_modify hq
 refine Zj (hset ?_);rw[ha];refine Zj (bp (by omega) ?_);have eY:gA p (pre.length+X.length)=Y.getD 0 0:=gY 0 hY0;rw[eY];refine Zj (lU Z hk (nY _ (dG hY0)) (by omega) (fun i h3 h4=>?_) hX0 (fun i j h3 h4 h5=>?_) fun k hk1 hk2 hk3=>?_)
 ·obtain⟨d,rfl⟩:∃d,i=pre.length+d:=⟨i-pre.length,by omega⟩
  rw[gX d (by omega)];exact nX _ (dG (by omega))
 ·rw[gX _ (by omega)]at h5 ⊢;have z:=tf h5;show(!lt (Y.getD 0 0) (X.getD i 0))=true;cases e:lt (Y.getD 0 0) (X.getD i 0)with
  |false=>rfl
  |true=>rw[sC O hX h3 h4 e]at z;cases z
 have k2:∀i,i<k->lt (Y.getD 0 0) (X.getD i 0)=false:=fun i hi=>by have:=tf (hk2 i hi);rw[gX i (by omega)]at this;exact this
 have k3:∀i,k<=i->i<X.length->lt (Y.getD 0 0) (X.getD i 0)=true:=fun i hi hi2=>by have:=ft (hk3 i hi hi2);rw[gX i (by omega)]at this;exact this
 have low:∀x∈X.take k,∀y∈Y,Lx lt x y:=fun x hx y hy=>by
  have hm:=YE hx;obtain⟨i,i1,i2,rfl⟩:=lh hx;obtain⟨j,j1,rfl⟩:=sS hy;refine⟨?_,.inr (hXY _ hm _ hy)⟩;cases e:lt (Y.getD j 0) (X.getD i 0)with
  |false=>rfl
  |true=>rw[<-k2 i i1];exact(sE O hY (y0 j) j1 e).symm
 refine aL (fun e0=>?_) fun e0=>?_
 ·have e0':X.length-k=0:=by simpa using e0
  refine Zq (h _ p (X++Y) hk hf ha (by rw[hp,ZJ]) (ZG.mpr ⟨hX,hY,fun x hx y hy=>?_⟩) (List.Perm.refl _) rfl);exact low x (by rw[ZX (by omega)];exact hx) y hy
 have e0':X.length-k≠0:=by simpa using e0
 refine Zj (bp (by omega) ?_);have eXl:gA p (pre.length+k+(X.length-k)-1)=X.getD (X.length-1) 0:=by rw[show pre.length+k+(X.length-k)-1=pre.length+(X.length-1) by omega];exact gX _ (by omega)
 rw[eXl];refine Zj (lU Z hk (nX _ (dG (by omega))) (by omega) (fun i h3 h4=>?_) (by omega) (fun i j h3 h4 h5=>?_) fun c hc1 hc2 hc3=>?_)
 ·obtain⟨d,rfl⟩:∃d,i=pre.length+X.length+d:=⟨i-(pre.length+X.length),by omega⟩
  rw[gY d (by omega)];exact nY _ (dG (by omega))
 ·rw[gY _ (by omega)]at h5 ⊢;exact sE O hY h3 h4 h5
 have c2:∀i,i<c->lt (Y.getD i 0) (X.getD (X.length-1) 0)=true:=fun i hi=>by have:=hc2 i hi;rw[gY i (by omega)]at this;exact this
 have c3:∀i,c<=i->i<Y.length->lt (Y.getD i 0) (X.getD (X.length-1) 0)=false:=fun i hi hi2=>by have:=hc3 i hi hi2;rw[gY i (by omega)]at this;exact this
 refine aL (fun e1=>?_) fun e1=>?_
 ·have e1':c=0:=by simpa using e1
  have z1:=c3 0 (by omega) hY0;rw[k3 (X.length-1) (by omega) (by omega)]at z1;cases z1
 have e1':c≠0:=by simpa using e1
 have la:(p.extract (pre.length+k) (pre.length+X.length)).toList=X.drop k:=by rw[oU,hp,List.take_append,ZX (by omega),Z8,List.take_left,List.drop_append,Y4 (by omega),YH,Z8]
 have lb:(p.extract (pre.length+X.length) (pre.length+X.length+c)).toList=Y.take c:=by rw[jy,hp,<-ZJ,List.drop_append,Y4 (by simp),YH,Zk,Nat.sub_self,List.drop_zero,List.take_append,show c-Y.length=0 by omega,List.take_zero,ZL]
 have sza:(p.extract (pre.length+k) (pre.length+X.length)).size=X.length-k:=by rw[<-Zz,la,Z5]
 have szb:(p.extract (pre.length+X.length) (pre.length+X.length+c)).size=c:=by rw[<-Zz,lb,ZM];omega
 have ga:∀i,gA (p.extract (pre.length+k) (pre.length+X.length)) i=X.getD (k+i) 0:=fun i=>by rw[aU,la,Zg,Zg,List.getElem?_drop]
 have gb:∀i,i<c->gA (p.extract (pre.length+X.length) (pre.length+X.length+c)) i=Y.getD i 0:=fun i hi=>by rw[aU,lb,Zg,Zg,List.getElem?_take,if_pos hi]
 have M:MF lt N (p.extract (pre.length+k) (pre.length+X.length)) (p.extract (pre.length+X.length) (pre.length+X.length+c)):=by
  refine⟨xg (by rw[la];exact hX.sublist (Yt _ _)),xg (by rw[lb];exact hY.sublist (Z1 _ _)),fun i j hi hj e=>?_,fun i hi=>?_,fun i hi=>?_,by omega,by omega,?_,fun j hj=>?_⟩
  ·rw[ga,gb j (by omega)]at e ⊢;exact⟨e,.inr (hXY _ (dG (by omega)) _ (dG (by omega)))⟩
  ·rw[ga];exact nX _ (dG (by omega))
  ·rw[gb i (by omega)];exact nY _ (dG (by omega))
  ·rw[ga,gb 0 (by omega)];exact k3 _ (by omega) (by omega)
  ·rw[ga,gb j (by omega),sza,show k+(X.length-k-1)=X.length-1 by omega];exact c2 j (by omega)
 have fin:∀(r:Array Keyed) (st2 st3:SortSt),Gd lt (kas_item it) (p.extract (pre.length+k) (pre.length+X.length)) (p.extract (pre.length+X.length) (pre.length+X.length+c)) r->kindOf st2=κ->failedOf st2=none->arrOf st2=p.map (kas_item it)->pendingOf st2=((pendingOf st).setIfInBounds i (pre.length,X.length+Y.length,pw)).eraseIdxIfInBounds (i+1)->SG' st2 st3 ->
   wpS (model prog w) A E s (do
    modify fun st=>setArr st (mY (arrOf st) (pre.length+k) r)
    return (failedOf (←get)).isNone) Q st3:=fun r st2 st3 ⟨q,eq,qs,qp⟩ j1 j2 j3 j4 ⟨g,eg⟩=>by
  subst eg;subst eq;rw[la,lb]at qp;have ql:q.size=X.length-k+c:=by have:=qp.length_eq;rw[Zk,Z5,ZM,Zz]at this;omega
  obtain⟨p',ep,lp⟩:=Ee (f:=kas_item it) (p:=p) (q:=q) (at0:=pre.length+k) (by omega);have lp':p'.toList=pre++((X.take k++(q.toList++Y.drop c))++post):=by rw[lp,hp,List.take_append,ZX (by omega),Z8,List.take_append,show k-X.length=0 by omega,List.take_zero,ZL];rw[ZJ,ZJ,ZJ];congr 2;congr 1;rw[ql,show pre.length+k+(X.length-k+c)=pre.length+X.length+c by omega,<-ZJ,List.drop_append,Y4 (by simp),YH,Zk,Z8,List.drop_append,show c-Y.length=0 by omega,List.drop_zero]
  refine Zj (wpS_modify (Zj (wpS_get ?_)));have hcr:∀x∈X,∀y∈Y.drop c,Lx lt x y:=fun x hx y hy=>by
   have hm:=List.mem_of_mem_drop hy;obtain⟨j,d1,d2,rfl⟩:=lg hy;obtain⟨i,i1,rfl⟩:=sS hx;refine⟨?_,.inr (hXY _ hx _ hm)⟩;cases e:lt (Y.getD j 0) (X.getD i 0)with
   |false=>rfl
   |true=>rw[<-c3 j d1 d2];exact(sC O hX (show i<=X.length-1 by omega) (by omega) e).symm
  have sX:=ZG.mp (show(X.take k++X.drop k).Pairwise (Lx lt) by rw[ZT];exact hX);have sY:=ZG.mp (show(Y.take c++Y.drop c).Pairwise (Lx lt) by rw[ZT];exact hY);have pwW:(X.take k++(q.toList++Y.drop c)).Pairwise (Lx lt):=by
   refine ZG.mpr ⟨sX.1,ZG.mpr ⟨qs,sY.2.1,fun x hx y hy=>?_⟩,fun x hx y hy=>?_⟩
   ·rcases ZF.mp (qp.mem_iff.mp hx)with hx|hx
    ·exact hcr x (List.mem_of_mem_drop hx) y hy
    ·exact sY.2.2 x hx y hy
   ·rcases ZF.mp hy with hy|hy
    ·rcases ZF.mp (qp.mem_iff.mp hy)with hy|hy
     ·exact sX.2.2 x hx y hy
     ·exact low x hx y (YE hy)
    ·exact low x hx y (List.mem_of_mem_drop hy)
  have pmW:(X.take k++(q.toList++Y.drop c)).Perm (X++Y):=by refine((qp.append_right (Y.drop c)).append_left (X.take k)).trans ?_;rw[ZJ,ZT,<-ZJ,ZT]
  have ea:mY (arrOf (mR st2 g)) (pre.length+k) (q.map (kas_item it))=p'.map (kas_item it):=by show mY (arrOf st2) (pre.length+k) (q.map (kas_item it))=_;rw[j3];exact ep
  have eF:(failedOf (setArr (mR st2 g) (mY (arrOf (mR st2 g)) (pre.length+k) (q.map (kas_item it))))).isNone=true:=by show(failedOf st2).isNone=true;rw[j2];rfl
  rw[eF];exact Zq (h _ p' _ j1 j2 ea lp' pwW pmW j4)
 rw[bT,bT];refine aL (fun _=>?_) fun _=>?_
 ·exact Zj (Io Z O M hk fun r st3 hr g=>fin r (setPending st (((pendingOf st).setIfInBounds i (pre.length,X.length+Y.length,pw)).eraseIdxIfInBounds (i+1))) st3 hr hk hf ha rfl g)
 ·exact Zj (Im Z O M hk fun r st3 hr g=>fin r (setPending st (((pendingOf st).setIfInBounds i (pre.length,X.length+Y.length,pw)).eraseIdxIfInBounds (i+1))) st3 hr hk hf ha rfl g)
end
open PySem PyProof.Rows PySem.W
theorem KW.unbind{α β:Type}{lt:Nat->Nat->Bool}{Q:β->Prop}{f:α->KasT β}:∀{t:KasT α},KW lt Q (t.bind f)->KW lt (fun a=>KW lt Q (f a)) t
 |.ret _,h=>h
 |.ask i j k,h=>KW.unbind (t:=k (lt i j)) h
def pj(pre u:Array Nat):Array Nat:=pre++u.map (pre.size+·)
theorem lC(pre u:Array Nat):(pj pre u).size=pre.size+u.size:=by simp[pj]
theorem fT(pre u:Array Nat)(k:Nat):(pj pre u)[k]?=if k<pre.size then pre[k]? else(u[k-pre.size]?).map (pre.size+·):=by
 unfold pj;rw[Array.getElem?_append];split
 ·rfl
 ·rw[Array.getElem?_map]
theorem Ce{pre u:Array Nat}{k:Nat}(hk:k<u.size):gA (pj pre u) (pre.size+k)=pre.size+gA u k:=by rw[jE,jE,fT,if_neg (by omega),Z8];simp[hk]
theorem FI{pre u:Array Nat}{i j:Nat}(hj:j<=u.size):kas_rev (pj pre u) (pre.size+i) (pre.size+j)=pj pre (kas_rev u i j):=by
 apply Array.ext_getElem?;intro k;unfold kas_rev;rw[getElem?_mirror_all (by rw[lC];omega),fT,fT,fT,getElem?_mirror_all hj];by_cases h0:k<pre.size
 ·rw[if_neg (by omega),if_pos h0,if_pos h0]
 ·rw[if_neg h0,if_neg h0];by_cases h1:i<=k-pre.size/\k-pre.size<j
  ·rw[if_pos (by omega),if_neg (by omega),if_pos h1];congr 2;omega
  ·rw[if_neg (by omega),if_neg h1]
theorem FH{pre u:Array Nat}{k d:Nat}(hk:k<u.size)(hd:d<=k):bubble (pj pre u) (pre.size+k) d=pj pre (bubble u k d):=by
 apply Array.ext_getElem?;intro i;rw[getElem?_bubble (by rw[lC];omega) d (by omega),fT,fT,fT,fT,getElem?_bubble hk d hd];by_cases h0:i<pre.size
 ·rw[if_neg (by omega),if_neg (by omega),if_pos h0,if_pos h0]
 ·rw[if_neg h0,if_neg h0];by_cases h1:i-pre.size=k-d
  ·rw[if_pos (by omega),if_pos h1,if_neg (by omega),Z8]
  ·rw[if_neg (by omega),if_neg h1];by_cases h2:k-d<i-pre.size/\i-pre.size<=k
   ·rw[if_pos (by omega),if_pos h2,if_neg (by omega)];congr 2;omega
   ·rw[if_neg (by omega),if_neg h2]
section
variable{prog:Program}{w:World}{A:Around}{E:Value->Shared->Prop}{s:Shared}{κ:SortKind}{it:Array Keyed}{lt:Nat->Nat->Bool}{N:Nat}{st:SortSt}{pre u:Array Nat}
def stQ(it:Array Keyed)(st:SortSt)(q:Array Nat):SortSt:=setArr st (q.map (kas_item it))
structure Zp(prog:Program)(w:World)(A:Around)(s:Shared)(κ:SortKind)(it:Array Keyed)(lt:Nat->Nat->Bool)(N:Nat)(st:SortSt)(pre:Array Nat)(n:Nat):Prop where
 Z:Zc prog w A s κ it lt N
 hk:kindOf st=κ
 hN:pre.size+n=N
 n0:0<n
def ltS(lt:Nat->Nat->Bool)(lo:Nat):Nat->Nat->Bool:=fun i j=>lt (lo+i) (lo+j)
theorem oE{n:Nat}(P:Zp prog w A s κ it lt N st pre n)(hu:POk n u){i j:Nat}(hi:i<n)(hj:j<n){Q:Option Bool->SortSt->Prop}(h:Q (some (ltS lt pre.size (gA u i) (gA u j))) (stQ it st (pj pre u))):wpS (model prog w) A E s (ltAt' (pre.size+i) (pre.size+j)) Q (stQ it st (pj pre u)):=by
 have hz:u.size=n:=by have:=hu.size_eq;simpa using this
 have hN:=P.hN;rw[ltAt'_eq];refine Zj (wpS_get ?_);have ea:arrOf (stQ it st (pj pre u))=(pj pre u).map (kas_item it):=rfl;rw[ea];refine Zj (bp (by rw[lC];omega) (Zj (bp (by rw[lC];omega) ?_)));rw[Ce (by omega),Ce (by omega)];have b1:=hu.lt P.n0 i;have b2:=hu.lt P.n0 j;exact ul P.Z P.hk (by unfold gA;omega) (by unfold gA;omega) h
theorem rN{n:Nat}(hu:POk n u){i j:Nat}(hj:j<=n){Q:Unit->SortSt->Prop}(h:Q () (stQ it st (pj pre (kas_rev u i j)))):wpS (model prog w) A E s (reverseSlice' (pre.size+i) (pre.size+j)) Q (stQ it st (pj pre u)):=by
 have hz:u.size=n:=by have:=hu.size_eq;simpa using this
 rw[reverseSlice'_eq];refine wpS_modify ?_;have e1:mirror ((pj pre u).map (kas_item it)) (pre.size+i) (pre.size+j) ((pre.size+j-(pre.size+i)) / 2)=(kas_rev (pj pre u) (pre.size+i) (pre.size+j)).map (kas_item it):=kas_swaps_map (kas_item it) (fun k=>pre.size+i+k) (fun k=>pre.size+j-1-k) _ (pj pre u);have e2:setArr (stQ it st (pj pre u)) (mirror (arrOf (stQ it st (pj pre u))) (pre.size+i) (pre.size+j) ((pre.size+j-(pre.size+i)) / 2))=stQ it st (pj pre (kas_rev u i j)):=by show setArr st (mirror ((pj pre u).map (kas_item it)) (pre.size+i) (pre.size+j) ((pre.size+j-(pre.size+i)) / 2))=setArr st ((pj pre (kas_rev u i j)).map (kas_item it));rw[e1,FI (by omega)]
 rw[e2];exact h
theorem HS{n:Nat}(hu:POk n u){k l:Nat}(hk:k<n){Q:Unit->SortSt->Prop}(h:Q () (stQ it st (pj pre (bubble u k (k-l))))):wpS (model prog w) A E s (moveDown' (pre.size+k) (pre.size+l)) Q (stQ it st (pj pre u)):=by
 have hz:u.size=n:=by have:=hu.size_eq;simpa using this
 rw[moveDown'_eq];refine wpS_modify ?_;have e1:bubble ((pj pre u).map (kas_item it)) (pre.size+k) (pre.size+k-(pre.size+l))=(bubble (pj pre u) (pre.size+k) (pre.size+k-(pre.size+l))).map (kas_item it):=kas_swaps_map (kas_item it) (fun i=>pre.size+k-i) (fun i=>pre.size+k-i-1) _ (pj pre u);have e2:setArr (stQ it st (pj pre u)) (bubble (arrOf (stQ it st (pj pre u))) (pre.size+k) (pre.size+k-(pre.size+l)))=stQ it st (pj pre (bubble u k (k-l))):=by show setArr st (bubble ((pj pre u).map (kas_item it)) (pre.size+k) (pre.size+k-(pre.size+l)))=setArr st ((pj pre (bubble u k (k-l))).map (kas_item it));rw[e1,show pre.size+k-(pre.size+l)=k-l by omega,FH (by omega) (by omega)]
 rw[e2];exact h
def rB(lo m nr:Nat):StateT SortSt Sem (Option Nat):=do
 reverseSlice' lo (lo+m)
 let mut m:=m
 for _ in[m:nr]do
  let some sm ←ltAt' (lo+m) (lo+m-1)|return none
  if sm then break
  m:=m+1
 return some m
def BU(lo m nr:Nat):StateT SortSt Sem (Option Nat):=do
 liftM (rule "list.sort.descending-run");let mut m:=m+1;let mut qe:=0
 for _ in[m:nr]do
  let some sm ←ltAt' (lo+m) (lo+m-1)|return none
  if sm then
   if qe>0 then reverseSlice' (lo+m-(qe+1)) (lo+m)
   qe:=0
  else
   let some la ←ltAt' (lo+m-1) (lo+m)|return none
   if la then break
   qe:=qe+1
  m:=m+1
 if qe>0 then do
  reverseSlice' (lo+m-(qe+1)) (lo+m)
  rB lo m nr
 else rB lo m nr
theorem CC{n:Nat}(P:Zp prog w A s κ it lt N st pre n)(hu:POk n u){m0:Nat}(h0:1<=m0)(hm:m0<=n){R:Nat->Prop}(hr:KW (ltS lt pre.size) R (kas_asc u (n - m0) m0)){f:Nat->Option (Option Nat)×Nat->StateT SortSt Sem (ForInStep (Option (Option Nat)×Nat))}(ef:∀ i m,f i (none,m)=(do
   let r ←ltAt' (pre.size+m) (pre.size+m-1)
   match r with
   |some sm=>if sm=true then pure (ForInStep.done (none,m))else pure (ForInStep.yield (none,m+1))
   | _=>pure (ForInStep.done (some none,m)))){Q:Option (Option Nat)×Nat->SortSt->Prop}(h:∀ m,m0<=m->m<=n->R m->Q (none,m) (stQ it st (pj pre u))) :
  wpS (model prog w) A E s (forIn [m0:n] ((none,m0):Option (Option Nat)×Nat) f) Q (stQ it st (pj pre u)):=by
 refine Yd (I:=fun i c st'=>c=(none,i)/\st'=stQ it st (pj pre u)/\i<=n/\KW (ltS lt pre.size) R (kas_asc u (n-i) i)) ?_ ?_ ⟨rfl,rfl,hm,hr⟩
 ·rintro i c st' hi1 hi2 ⟨rfl,rfl,hi3,hkw⟩;rw[ef];rw[show n-i=(n-(i+1))+1 by omega]at hkw;have hkw':KW (ltS lt pre.size) R (if ltS lt pre.size (gA u i) (gA u (i-1))=true then .ret i else kas_asc u (n-(i+1)) (i+1)):=hkw;rw[show pre.size+i-1=pre.size+(i-1) by omega];refine Zj (oE P hu hi2 (by omega) ?_);refine aL (fun e=>?_) fun e=>?_
  ·rw[if_pos e]at hkw';exact Zq (h i hi1 hi3 hkw')
  ·rw[if_neg e]at hkw';exact Zq ⟨rfl,rfl,by omega,hkw'⟩
 ·rintro c st' ⟨rfl,rfl,hi3,hkw⟩;rw[Nat.max_eq_right hm]at hkw ⊢;rw[Nat.sub_self]at hkw;exact h n hm (Ze _) hkw
theorem zX{n:Nat}(P:Zp prog w A s κ it lt N st pre n)(hu:POk n u){m0:Nat}(h0:1<=m0)(hm:m0<=n){G:Nat×Array Nat->Prop}{Q:Option Nat->SortSt->Prop}(hr:KW (ltS lt pre.size) G (kas_tail3 m0 n u))(h:∀m u',POk n u'->1<=m->m<=n->G (m,u')->Q (some m) (stQ it st (pj pre u'))) :
  wpS (model prog w) A E s (rB pre.size m0 n) Q (stQ it st (pj pre u)):=by
 unfold rB;have hr':=KW.unbind hr;have z:=rN (prog:=prog) (w:=w) (A:=A) (E:=E) (s:=s) (it:=it) (st:=st) (pre:=pre) (i:=0) (j:=m0) hu hm (Q:=fun _ st'=>st'=stQ it st (pj pre (kas_rev u 0 m0))) rfl;rw[Nat.add_zero]at z;refine Zj (Yi z fun _ st' e=>?_);subst e;refine Zj (CC P (hu.rev 0 m0) h0 hm hr' (fun i m=>rfl) fun m h1 h2 h3=>?_);exact Zq (h m _ (hu.rev 0 m0) (by omega) h2 h3)
end
open PySem PyProof.Rows PySem.W
section
variable{lt:Nat->Nat->Bool}(O:LtOk lt){N:Nat}
include O
theorem vw:∀(f:Nat) {p:Array Nat} {k:Nat},k+f<=N->1<=k->Fx N p k->LS lt p k->KW lt (fun p=>Fx N p (k+f)/\LS lt p (k+f)) (kas_bin f p k)
 |0,p,k,e,_,hf,hs=>⟨hf,hs⟩
 |f+1,p,k,e,h1,hf,hs=>by
  refine KW.bind (KW.mono (fun m hm=>?_) (mK O hs k 0 k (by omega) (Ze _) (fun i hi=>absurd hi (by omega)) (fun i h2 h3=>absurd h2 (by omega)) (y0 _)));obtain⟨m1,m2,m3⟩:=hm;have hk:k<p.size:=by rw[hf.sz];omega
  have gk:gA p k=k:=hf.hi k (Ze _) (by omega);have ekm:k-(k-m)=m:=by omega
  have gb:∀i,gA (bubble p k (k-m)) i=if i=m then gA p k else if m<i/\i<=k then gA p (i-1)else gA p i:=fun i=>by rw[EG hk (by omega),ekm]
  rw[show k+(f+1)=k+1+f by omega];refine vw f (by omega) (by omega) ⟨by rw[bubble_size];exact hf.sz,fun i h2 h3=>?_,fun i hi=>?_⟩ (fun i j hij hj=>?_)
  ·rw[gb,if_neg (by omega),if_neg (by omega)];exact hf.hi i (by omega) h3
  ·rw[gb];split
   ·rw[gk];omega
   ·split
    ·have:=hf.lo (i-1) (by omega);omega
    ·have:=hf.lo i (by omega);omega
  ·have lk:∀i,i<m->Lx lt (gA p i) (gA p k):=fun i hi=>⟨m2 i hi,.inr (by rw[gk];exact hf.lo i (by omega))⟩
   have gt:∀i,m<=i->i<k->Lx lt (gA p k) (gA p i):=fun i h2 h3=>Lx.of_lt O (m3 i h2 h3);rw[gb,gb];by_cases a1:i=m
   ·rw[if_pos a1,if_neg (by omega),if_pos (by omega)];exact gt _ (by omega) (by omega)
   ·rw[if_neg a1];by_cases a2:m<i/\i<=k
    ·rw[if_pos a2,if_neg (by omega),if_pos (by omega)];exact hs _ _ (by omega) (by omega)
    ·rw[if_neg a2];by_cases b1:j=m
     ·rw[if_pos b1];exact lk i (by omega)
     ·rw[if_neg b1];by_cases b2:m<j/\j<=k
      ·rw[if_pos b2];exact hs _ _ (by omega) (by omega)
      ·rw[if_neg b2];exact hs _ _ hij (by omega)
end
section
variable{prog:Program}{w:World}{A:Around}{E:Value->Shared->Prop}{s:Shared}{κ:SortKind}{it:Array Keyed}{lt:Nat->Nat->Bool}{N:Nat}{st:SortSt}{pre u:Array Nat}
theorem zQ{n:Nat}(P:Zp prog w A s κ it lt N st pre n)(hu:POk n u){m0:Nat}(h0:1<=m0)(hm:m0+1<=n){G:Nat×Array Nat->Prop}{Q:Option Nat->SortSt->Prop}(hr:KW (ltS lt pre.size) G (kas_descPart m0 n u))(h:∀m u',POk n u'->1<=m->m<=n->G (m,u')->Q (some m) (stQ it st (pj pre u'))) :
  wpS (model prog w) A E s (BU pre.size m0 n) Q (stQ it st (pj pre u)):=by
 unfold BU;have hr':=KW.unbind hr;refine Zj (wpS_lift (YC ⟨rfl,?_⟩));refine Zj (Yi (Yd (I:=fun i c st'=>∃ u' q,c=(none,i,q)/\st'=stQ it st (pj pre u')/\POk n u'/\i<=n/\q+1<=i/\KW (ltS lt pre.size) (fun r=>KW (ltS lt pre.size) G (if r.2.2>0 then kas_tail3 r.2.1 n (kas_rev r.1 (r.2.1 - (r.2.2+1)) r.2.1) else kas_tail3 r.2.1 n r.1)) (kas_desc (n - i) u' i q))
  (Q:=fun c st'=>∃ u' m q,c=(none,m,q)/\st'=stQ it st (pj pre u')/\POk n u'/\1<=m/\m<=n/\q+1<=m/\KW (ltS lt pre.size) G (if q>0 then kas_tail3 m n (kas_rev u' (m - (q+1)) m) else kas_tail3 m n u')) ?step ?fin ⟨u,0,rfl,rfl,hu,hm,by omega,hr'⟩) ?post)
 case fin =>rintro c st' ⟨u',q,rfl,rfl,hu',h1,h2,h3⟩;rw[Nat.max_eq_right hm]at h1 h2 h3 ⊢;rw[Nat.sub_self]at h3;exact⟨u',n,q,rfl,rfl,hu',by omega,Ze _,h2,h3⟩
 case post =>
  rintro c st' ⟨u',m,q,rfl,rfl,hu',h1,h2,h3,h4⟩;dsimp only;refine aL (fun hq=>?_) fun hq=>?_
  ·rw[if_pos hq]at h4;rw[show pre.size+m-(q+1)=pre.size+(m-(q+1)) by omega];exact Zj (rN hu' h2 (zX P (hu'.rev _ _) h1 h2 h4 h))
  ·rw[if_neg hq]at h4;exact zX P hu' h1 h2 h4 h
 case step =>
  rintro i c st' hi1 hi2 ⟨u',q,rfl,rfl,hu',h1,h2,h3⟩;dsimp only;rw[show n-i=(n-(i+1))+1 by omega]at h3;generalize hR:(fun r:Array Nat×Nat×Nat=>KW (ltS lt pre.size) G (if r.2.2>0 then kas_tail3 r.2.1 n (kas_rev r.1 (r.2.1-(r.2.2+1)) r.2.1)else kas_tail3 r.2.1 n r.1))=R at h3 ⊢;have h3':KW (ltS lt pre.size) R (if ltS lt pre.size (gA u' i) (gA u' (i - 1))=true then (if q>0 then kas_desc (n - (i+1)) (kas_rev u' (i - (q+1)) i) (i+1) 0 else kas_desc (n - (i+1)) u' (i+1) 0)
   else KasT.ask (gA u' (i - 1)) (gA u' i) fun d=>if d=true then .ret (u',i,q) else kas_desc (n - (i+1)) u' (i+1) (q+1)):=h3
  rw[show pre.size+i-1=pre.size+(i-1) by omega];refine Zj (oE P hu' hi2 (by omega) ?_);refine aL (fun e=>?_) fun e=>?_
  ·rw[if_pos e]at h3';refine aL (fun hq=>?_) fun hq=>?_
   ·rw[if_pos hq]at h3';rw[show pre.size+i-(q+1)=pre.size+(i-(q+1)) by omega];exact Zj (rN hu' h1 (Zq ⟨_,0,rfl,rfl,hu'.rev _ _,by omega,by omega,h3'⟩))
   ·rw[if_neg hq]at h3';exact Zq ⟨_,0,rfl,rfl,hu',by omega,by omega,h3'⟩
  ·rw[if_neg e]at h3';have h3'':KW (ltS lt pre.size) R (if ltS lt pre.size (gA u' (i-1)) (gA u' i)=true then .ret (u',i,q)else kas_desc (n-(i+1)) u' (i+1) (q+1)):=h3';refine Zj (oE P hu' (by omega) hi2 ?_);refine aL (fun e2=>?_) fun e2=>?_
   ·rw[if_pos e2]at h3'';have h5:R (u',i,q):=h3'';rw[<-hR]at h5;exact Zq ⟨u',i,q,rfl,rfl,hu',by omega,h1,h2,h5⟩
   ·rw[if_neg e2]at h3'';exact Zq ⟨_,q+1,rfl,rfl,hu',by omega,by omega,h3''⟩
theorem Ef{n:Nat}(P:Zp prog w A s κ it lt N st pre n)(hu:POk n u){G:Nat×Array Nat->Prop}{Q:Option Nat->SortSt->Prop}(hr:KW (ltS lt pre.size) G (kas_count n u))(h:∀m u',POk n u'->1<=m->m<=n->G (m,u')->Q (some m) (stQ it st (pj pre u'))) :
  wpS (model prog w) A E s (countRun' pre.size n) Q (stQ it st (pj pre u)):=by
 have n0:=P.n0;have hr':=KW.unbind hr;rw[countRun'_eq];refine Zj (CC P hu (Ze 1) n0 hr' (fun i m=>rfl) fun m h1 h2 h3=>?_);dsimp only;refine aL (fun e=>?_) fun e=>?_
 ·rw[if_pos e]at h3;exact Zq (h m u hu h1 h2 h3)
 ·rw[if_neg e]at h3;have hlt:m+1<=n:=by
   have:m≠n:=by simpa using e
   omega
  refine aL (fun e2=>?_) fun e2=>?_
  ·rw[if_pos e2]at h3;have h3':KW (ltS lt pre.size) G (if ltS lt pre.size (gA u 0) (gA u (m-1))=true then .ret (m,u)else kas_descPart m n (kas_rev u 0 m)):=h3;have z:=oE (E:=E) P hu (i:=0) (j:=m-1) n0 (by omega) (Q:=fun r st'=>r=some (ltS lt pre.size (gA u 0) (gA u (m-1)))/\st'=stQ it st (pj pre u)) ⟨rfl,rfl⟩;rw[Nat.add_zero]at z;rw[show pre.size+m-1=pre.size+(m-1) by omega];refine Zj (Yi z fun r st' hz=>?_);obtain⟨rfl,rfl⟩:=hz;refine aL (fun e3=>?_) fun e3=>?_
   ·rw[if_pos e3]at h3';exact Zq (h m u hu h1 h2 h3')
   ·rw[if_neg e3]at h3';have z:=rN (prog:=prog) (w:=w) (A:=A) (E:=E) (s:=s) (it:=it) (st:=st) (pre:=pre) (i:=0) (j:=m) hu h2 (Q:=fun _ st'=>st'=stQ it st (pj pre (kas_rev u 0 m))) rfl;rw[Nat.add_zero]at z;refine Zj (Yi z fun _ st' ez=>?_);subst ez;exact zQ P (hu.rev 0 m) h1 hlt h3' h
  ·rw[if_neg e2]at h3;exact zQ P hu h1 hlt h3 h
theorem HQ{n nf ok:Nat}(P:Zp prog w A s κ it lt N st pre n)(hu:POk n u)(hn:nf<=n){G:Array Nat->Prop}{Q:Bool->SortSt->Prop}(hr:KW (ltS lt pre.size) G (kas_bin (nf-max ok 1) u (max ok 1)))(h:∀u',POk n u'->G u'->Q true (stQ it st (pj pre u'))) :
  wpS (model prog w) A E s (binarySort' pre.size nf ok) Q (stQ it st (pj pre u)):=by
 rw[binarySort'_eq];refine Zj (Yi (Yd (I:=fun k c st'=>∃ u',c=(none,())/\st'=stQ it st (pj pre u')/\POk n u'/\KW (ltS lt pre.size) G (kas_bin (nf - k) u' k))
  (Q:=fun c st'=>∃ u',c=(none,())/\st'=stQ it st (pj pre u')/\POk n u'/\G u') ?step ?fin ⟨u,rfl,rfl,hu,hr⟩) ?post)
 case fin =>rintro c st' ⟨u',rfl,rfl,hu',h1⟩;rw[show nf-max (max ok 1) nf=0 by omega]at h1;exact⟨u',rfl,rfl,hu',h1⟩
 case post =>rintro c st' ⟨u',rfl,rfl,hu',h1⟩;exact Zq (h u' hu' h1)
 case step =>
  rintro k c st' hk1 hk2 ⟨u',rfl,rfl,hu',h1⟩;dsimp only;rw[show nf-k=(nf-(k+1))+1 by omega]at h1;have h1':=KW.unbind (show KW (ltS lt pre.size) G ((kas_place u' k k 0 k).bind fun l=>kas_bin (nf-(k+1)) (bubble u' k (k-l)) (k+1))from h1);generalize hR:(fun l:Nat=>KW (ltS lt pre.size) G (kas_bin (nf-(k+1)) (bubble u' k (k-l)) (k+1)))=R at h1';refine Zj (Yi (Yd (I:=fun x c st'=>∃ l r,c=(none,l,r)/\st'=stQ it st (pj pre u')/\r<=k/\KW (ltS lt pre.size) R (kas_place u' k (k - x) l r))
   (Q:=fun c st'=>∃ l r,c=(none,l,r)/\st'=stQ it st (pj pre u')/\R l) ?istep ?ifin ⟨0,k,rfl,rfl,Ze _,h1'⟩) ?ipost)
  case ifin =>rintro c st' ⟨l,r,rfl,rfl,g1,g2⟩;rw[show k-max 0 k=0 by omega]at g2;exact⟨l,r,rfl,rfl,g2⟩
  case ipost =>rintro c st' ⟨l,r,rfl,rfl,g2⟩;rw[<-hR]at g2;exact Zj (HS hu' (by omega) (Zq ⟨_,rfl,rfl,hu'.bub _ _,g2⟩))
  case istep =>
   rintro x c st' _ hx ⟨l,r,rfl,rfl,g1,g2⟩;dsimp only;rw[show k-x=(k-(x+1))+1 by omega]at g2;have g2':KW (ltS lt pre.size) R (if l>=r then KasT.ret l else KasT.ask (gA u' k) (gA u' ((l+r) / 2)) fun c=>if c=true then kas_place u' k (k-(x+1)) l ((l+r) / 2)else kas_place u' k (k-(x+1)) ((l+r) / 2+1) r):=g2;refine aL (fun e=>?_) fun e=>?_
   ·rw[if_pos e]at g2';exact Zq ⟨l,r,rfl,rfl,g2'⟩
   ·rw[if_neg e]at g2';have g3:KW (ltS lt pre.size) R (if ltS lt pre.size (gA u' k) (gA u' ((l+r) / 2))=true then kas_place u' k (k-(x+1)) l ((l+r) / 2)else kas_place u' k (k-(x+1)) ((l+r) / 2+1) r):=g2';refine Zj (oE P hu' (by omega) (by omega) ?_);refine aL (fun e2=>?_) fun e2=>?_
    ·rw[if_pos e2]at g3;exact Zq ⟨l,(l+r) / 2,rfl,rfl,by omega,g3⟩
    ·rw[if_neg e2]at g3;exact Zq ⟨(l+r) / 2+1,r,rfl,rfl,by omega,g3⟩
end
open PySem PyProof.Rows PySem.W
section
variable{lt:Nat->Nat->Bool}
def RunsL(lt:Nat->Nat->Bool):Nat->List (List Nat)->List (Nat×Nat×Nat)->Prop
 |_,[],[]=>True
 |b,r::rs,t::ts=>t.1=b/\t.2.1=r.length/\0<r.length/\r.Pairwise (Lx lt)/\r.Perm (List.range' b r.length)/\RunsL lt (b+r.length) rs ts
 |_,_,_=>False
theorem RunsL.len:∀{b:Nat} {rs:List (List Nat)} {ts:List (Nat×Nat×Nat)},RunsL lt b rs ts->rs.length=ts.length/\rs.length<=rs.flatten.length
 |_,[],[],_=>⟨rfl,Ze _⟩
 |_,r::rs,t::ts,⟨_,_,h,_,_,k⟩=>by have:=RunsL.len k;rw[Zm,Zm,Ys,Zk];omega
theorem RunsL.snoc{r:List Nat}{x:Nat}(h0:0<r.length)(h1:r.Pairwise (Lx lt)):∀{b:Nat} {rs:List (List Nat)} {ts:List (Nat×Nat×Nat)},RunsL lt b rs ts->r.Perm (List.range' (b+rs.flatten.length) r.length)->RunsL lt b (rs++[r]) (ts++[(b+rs.flatten.length,r.length,x)])
 |_,[],[],_,hp=>⟨rfl,rfl,h0,h1,hp,trivial⟩
 |b,q::rs,t::ts,⟨e1,e2,e3,e4,e5,k⟩,hp=>by rw[Ys,Zk,<-Nat.add_assoc]at hp;have ih:=RunsL.snoc (x:=x) h0 h1 k hp;rw[Ys,Zk,<-Nat.add_assoc];exact⟨e1,e2,e3,e4,e5,ih⟩
theorem RunsL.pow{g:Nat×Nat×Nat->Nat×Nat×Nat}(hg:∀t,(g t).1=t.1/\(g t).2.1=t.2.1):∀(i:Nat) {b:Nat} {rs:List (List Nat)} {ts:List (Nat×Nat×Nat)},RunsL lt b rs ts->RunsL lt b rs (ts.modify i g)
 |_,_,[],[],_=>by rw[List.modify_nil];trivial
 |0,_,r::rs,t::ts,⟨e1,e2,e3,e4,e5,k⟩=>by rw[List.modify_zero_cons];exact⟨(hg t).1.trans e1,(hg t).2.trans e2,e3,e4,e5,k⟩
 |i+1,_,r::rs,t::ts,⟨e1,e2,e3,e4,e5,k⟩=>by rw[List.modify_succ_cons];exact⟨e1,e2,e3,e4,e5,RunsL.pow hg i k⟩
theorem RunsL.two:∀(i:Nat) {b:Nat} {rs:List (List Nat)} {ts:List (Nat×Nat×Nat)},RunsL lt b rs ts->i+1<ts.length->∃rs1 X Y rs2 pw pw2,rs=rs1++X::Y::rs2/\0<X.length/\0<Y.length/\X.Pairwise (Lx lt)/\Y.Pairwise (Lx lt)/\(∀x∈X,∀y∈Y,x<y) /\
  ts[i]?=some (b+rs1.flatten.length,X.length,pw)/\ts[i+1]?=some (b+rs1.flatten.length+X.length,Y.length,pw2) /\
  ∀W:List Nat,W.Pairwise (Lx lt)->W.Perm (X++Y)->RunsL lt b (rs1++W::rs2) ((ts.set i (b+rs1.flatten.length,X.length+Y.length,pw)).eraseIdx (i+1))
 |_,_,[],[],_,h=>absurd h (by simp)
 |0,b,X::[],t::[],_,h=>absurd h (by simp)
 |0,b,X::[],t::t2::ts,⟨_,_,_,_,_,k⟩,h=>k.elim
 |0,b,X::Y::rs,t::[],⟨_,_,_,_,_,k⟩,h=>k.elim
 |0,b,X::Y::rs,t::t2::ts,⟨e1,e2,e3,e4,e5,f1,f2,f3,f4,f5,k⟩,h=>by
  refine⟨[],X,Y,rs,t.2.2,t2.2.2,rfl,e3,f3,e4,f4,fun x hx y hy=>?_,?_,?_,fun W hw hp=>?_⟩
  ·have a1:=e5.mem_iff.mp hx;have a2:=f5.mem_iff.mp hy;rw[List.mem_range'_1]at a1 a2;omega
  ·show some t=some (b,X.length,t.2.2);rw[<-e1,<-e2]
  ·show some t2=some (b+X.length,Y.length,t2.2.2);rw[<-f1,<-f2]
  ·have hl:W.length=X.length+Y.length:=by rw[hp.length_eq,Zk]
   refine⟨rfl,hl.symm,by omega,hw,?_,?_⟩
   ·refine hp.trans ((e5.append f5).trans ?_);have:=List.range'_append (s:=b) (m:=X.length) (n:=Y.length) (step:=1);rw[Nat.one_mul]at this;rw[this,hl]
   ·rw[hl,<-Nat.add_assoc];exact k
 |i+1,b,r::rs,t::ts,⟨e1,e2,e3,e4,e5,k⟩,h=>by
  obtain⟨rs1,X,Y,rs2,pw,pw2,rfl,g1,g2,g3,g4,g5,g6,g7,g8⟩:=RunsL.two i k (by simpa using h);have el:b+(r::rs1).flatten.length=b+r.length+rs1.flatten.length:=by rw[Ys,Zk,Nat.add_assoc]
  refine⟨r::rs1,X,Y,rs2,pw,pw2,rfl,g1,g2,g3,g4,g5,?_,?_,fun W hw hp=>?_⟩
  ·rw[List.getElem?_cons_succ,el];exact g6
  ·rw[List.getElem?_cons_succ,el];exact g7
  ·rw[el,List.set_cons_succ,List.eraseIdx_cons_succ];exact⟨e1,e2,e3,e4,e5,g8 W hw hp⟩
variable{prog:Program}{w:World}{A:Around}{E:Value->Shared->Prop}{s:Shared}{κ:SortKind}{it:Array Keyed}{N:Nat}{st:SortSt}
structure RI(κ:SortKind)(it:Array Keyed)(lt:Nat->Nat->Bool)(N lo:Nat)(T:List Nat)(p:Array Nat)(rs:List (List Nat))(st:SortSt):Prop where
 hk:kindOf st=κ
 hf:failedOf st=none
 ha:arrOf st=p.map (kas_item it)
 hp:p.toList=rs.flatten++T
 pm:p.toList.Perm (List.range N)
 rl:RunsL lt 0 rs (pendingOf st).toList
 hl:rs.flatten.length=lo
theorem CD(Z:Zc prog w A s κ it lt N)(O:LtOk lt){lo i:Nat}{T:List Nat}{p:Array Nat}{rs:List (List Nat)}(R:RI κ it lt N lo T p rs st)(hi:i+1<(pendingOf st).size){Q:Bool->SortSt->Prop}(h:∀st' p' rs',RI κ it lt N lo T p' rs' st'->(pendingOf st').size+1=(pendingOf st).size->Q true st'):wpS (model prog w) A E s (mergeAt' i) Q st:=by
 obtain⟨rs1,X,Y,rs2,pw,pw2,e0,g1,g2,g3,g4,g5,g6,g7,g8⟩:=R.rl.two i (by rw[Zz];exact hi);rw[Nat.zero_add]at g6 g7 g8;rw[Array.getElem?_toList]at g6 g7;refine Il Z O (pre:=rs1.flatten) (X:=X) (Y:=Y) (post:=rs2.flatten++T) R.hk R.hf R.ha ?_ g3 g4 g1 g2 g5 (fun x hx=>Y1.mp (R.pm.mem_iff.mp hx)) g6 g7 fun st' p' W j1 j2 j3 j4 j5 j6 j7=>?_
 ·rw[R.hp,e0];simp
 ·refine h st' p' (rs1++W::rs2) ⟨j1,j2,j3,?_,?_,?_,?_⟩ ?_
  ·rw[j4];simp
  ·refine List.Perm.trans ?_ R.pm;rw[j4,R.hp,e0];have:(rs1.flatten++(W++(rs2.flatten++T))).Perm (rs1.flatten++((X++Y)++(rs2.flatten++T))):=(j6.append_right _).append_left _;refine this.trans (List.Perm.of_eq ?_);simp
  ·rw[j7];have:=g8 W j5 j6;rw[Array.eraseIdxIfInBounds,dif_pos (by rw[Array.size_setIfInBounds];exact hi),Array.toList_eraseIdx,Array.toList_setIfInBounds];exact this
  ·rw[<-R.hl,e0];have:=j6.length_eq;rw[Zk]at this;simp;omega
  ·rw[j7,Array.eraseIdxIfInBounds,dif_pos (by rw[Array.size_setIfInBounds];exact hi),Array.size_eraseIdx,Array.size_setIfInBounds];omega
theorem EW(O:LtOk lt)(lo:Nat):LtOk (ltS lt lo):=⟨fun h=>O.as h,fun h k=>O.tr h k⟩
theorem Aw{n:Nat}(hn:1<=n):Fx n (List.toArray (List.range n)) 1:=by
 have g:∀k,k<n->gA (List.toArray (List.range n)) k=k:=fun k hk=>by rw[jE];simp[hk]
 refine⟨by simp,fun k _ hk=>g k hk,fun i hi=>?_⟩;have e:i=0:=by omega
 subst e;rw[g 0 (by omega)];decide
theorem Gb{n m lo:Nat}{u pre:Array Nat}(hpre:pre.size=lo)(hu:POk n u)(F:Fx n u m)(S:LS (ltS lt lo) u m)(hm:m<=n):∃r:List Nat,r.length=m/\r.Pairwise (Lx lt)/\r.Perm (List.range' lo m)/\(pj pre u).toList=pre.toList++(r++List.range' (lo+m) (n-m)):=by
 have hz:u.toList.length=n:=by rw[Zz];exact F.sz
 have ed:u.toList.drop m=List.range' m (n-m):=by
  apply List.ext_getElem
  ·rw[Z5,List.length_range',hz]
  ·intro i h1 h2;rw[Z5,hz]at h1;rw[List.getElem_drop,List.getElem_range'];have:=F.hi (m+i) (by omega) (by omega);rw[aU,Zg,Zd (by omega)]at this;rw[Nat.one_mul];exact this
 have ep:u.toList.Perm (List.range n):=by have:=Array.perm_iff_toList_perm.mp hu;simpa using this
 have er:List.range n=List.range m++List.range' m (n-m):=by rw[List.range_eq_range',List.range_eq_range'];have:=List.range'_append (s:=0) (m:=m) (n:=n-m) (step:=1);rw[Nat.one_mul,Nat.zero_add]at this;rw[this];congr 1;omega
 have pt:(u.toList.take m).Perm (List.range m):=by have e:=ZT m u.toList;rw[ed]at e;rw[<-e,er]at ep;exact(List.perm_append_right_iff _).mp ep
 refine⟨(u.toList.take m).map (lo+·),by rw[Zf,ZM];omega,?_,?_,?_⟩
 ·rw[Yu];have hS:(u.toList.take m).Pairwise (Lx (ltS lt lo)):=by rw[ZH];intro i j hi hj hij;rw[ZM]at hi hj;have:=S i j hij (by omega);rw[aU,aU,Zg,Zg,Zd (by omega),Zd (by omega)]at this;rw[List.getElem_take,List.getElem_take];exact this
  refine hS.imp fun{a b} hab=>⟨hab.1,?_⟩
  rcases hab.2 with x|x
  ·exact .inl x
  ·exact .inr (by omega)
 ·rw[List.range'_eq_map_range];exact pt.map _
 ·unfold pj;rw[ZR,Array.toList_map,hpre];congr 1;have e:=ZT m u.toList;rw[ed]at e
  conv=>lhs;rw[<-e]
  rw[ZO];congr 1;rw[List.range'_eq_map_range,List.range'_eq_map_range,Yl];apply List.map_congr_left;intro x _;show lo+(m+x)=lo+m+x;omega
end
open PySem PyProof.Rows PySem.W
section
variable{lt:Nat->Nat->Bool}{prog:Program}{w:World}{A:Around}{E:Value->Shared->Prop}{s:Shared}{κ:SortKind}{it:Array Keyed}{N:Nat}{st:SortSt}
theorem GN(Z:Zc prog w A s κ it lt N)(O:LtOk lt){lo mr:Nat}{p:Array Nat}{rs:List (List Nat)}(R:RI κ it lt N lo (List.range' lo (N - lo)) p rs st)(hlo:lo<N){β:Type}{g:Nat->StateT SortSt Sem β}{Q:β->SortSt->Prop}(h:∀ (m:Nat) (r:List Nat) (p':Array Nat) (st':SortSt),1<=m->lo+m<=N->r.length=m->r.Pairwise (Lx lt)->r.Perm (List.range' lo m)->RI κ it lt N lo (r++List.range' (lo+m) (N - (lo+m))) p' rs st'->pendingOf st'=pendingOf st->wpS (model prog w) A E s (g m) Q st'){bad:StateT SortSt Sem β}{k:Option Nat->StateT SortSt Sem β}(hk:∀ m,k (some m)=(if m<mr then do
    liftM (rule "list.sort.binary-insertion")
    let ok ←binarySort' lo (min (N-lo) mr) m
    if(!ok)=true then bad else g (min (N-lo) mr)
   else g m)):wpS (model prog w) A E s (countRun' lo (N - lo) >>= k) Q st:=by
 have hl:=R.hl;have O':LtOk (ltS lt (List.toArray rs.flatten).size):=EW O _;have n0:1<=N-lo:=by omega
 have hz:(List.toArray rs.flatten).size=lo:=by rw[Zi];exact hl
 have pu:POk (N-lo) (List.toArray (List.range (N-lo))):=Array.Perm.refl _;have P:Zp prog w A s κ it lt N st (List.toArray rs.flatten) (N-lo):=⟨Z,R.hk,by omega,by omega⟩
 have ep:p=pj (List.toArray rs.flatten) (List.toArray (List.range (N-lo))):=by apply Array.toList_inj.mp;rw[R.hp];unfold pj;rw[ZR,Array.toList_map,Y0,Y0,hz,List.range'_eq_map_range]
 have est:st=stQ it st (pj (List.toArray rs.flatten) (List.toArray (List.range (N-lo)))):=by unfold stQ;rw[<-ep,<-R.ha]
 have fin:∀(m:Nat) (u':Array Nat),POk (N-lo) u'->1<=m->m<=N-lo->Fx (N-lo) u' m->LS (ltS lt (List.toArray rs.flatten).size) u' m->wpS (model prog w) A E s (g m) Q (stQ it st (pj (List.toArray rs.flatten) u')):=fun m u' hu h1 h2 h3 h4=>by
  rw[hz]at h4;obtain⟨r,r1,r2,r3,r4⟩:=Gb hz hu h3 h4 h2;refine h m r (pj (List.toArray rs.flatten) u') _ h1 (by omega) r1 r2 r3 ⟨R.hk,R.hf,rfl,?_,?_,R.rl,hl⟩ rfl
  ·rw[r4,Y0,show N-(lo+m)=N-lo-m by omega]
  ·refine List.Perm.trans ?_ R.pm;rw[r4,R.hp,Y0];refine List.Perm.append_left _ ?_;refine(r3.append_right _).trans (List.Perm.of_eq ?_);have:=List.range'_append (s:=lo) (m:=m) (n:=N-lo-m) (step:=1);rw[Nat.one_mul]at this;rw[this];congr 1;omega
 have kc:=AG O' (N:=N-lo) (p:=List.toArray (List.range (N-lo))) n0 (Aw n0);rw[est];have zc:=Ef (E:=E) (Q:=fun r st'=>wpS (model prog w) A E s (k r) Q st') P pu kc fun m u' hu h1 h2 hG=>by
  obtain⟨g1,g2,g3,g4⟩:=hG;rw[hk];refine aL (fun c=>?_) fun c=>?_
  ·refine Zj (wpS_lift (YC ⟨rfl,?_⟩));have em:max m 1=m:=by omega
   have kb:=vw O' (N:=N-lo) (min (N-lo) mr-max m 1) (p:=u') (k:=max m 1) (by omega) (by omega) (by rw[em];exact g3) (by rw[em];exact g4);have zb:=HQ (E:=E) (nf:=min (N-lo) mr) (ok:=m) (Q:=fun r st'=>wpS (model prog w) A E s (if(!r)=true then bad else g (min (N-lo) mr)) Q st') P hu (by omega) kb fun u2 hu2 hG2=>by
    rw[if_neg (by simp)];have e2:max m 1+(min (N-lo) mr-max m 1)=min (N-lo) mr:=by omega
    rw[e2]at hG2;exact fin _ u2 hu2 (by omega) (by omega) hG2.1 hG2.2
   rw[hz]at zb;exact Zj zb
  ·exact fin m u' hu h1 h2 g3 g4
 rw[hz]at zc;exact Zj zc
def sU(N pw:Nat):StateT SortSt Sem (Option Unit×Unit):=forIn [0:N] ((none,()):Option Unit×Unit) fun _ _=>do
 let st ←get
 match(if(pendingOf st).size>1 then(pendingOf st)[(pendingOf st).size-2]? else none)with
 |some (_,_,old)=>if old<=pw then pure (.done (none,()))else do
  let ok ←mergeAt' ((pendingOf st).size-2)
  if(!ok)=true then pure (.done (some (),()))else pure (.yield (none,()))
 |_=>pure (.done (none,()))
def sZ(N lo n:Nat):StateT SortSt Sem (ForInStep (Option Unit×Nat)):=do
 let st ←get
 match(pendingOf st).back? with
 |some (s1,n1,_)=>do
  let c ←sU N (power' N (2*s1+n1) (2*s1+n1+n1+n) N)
  match c.1 with
  |some r=>pure (.done (some r,lo))
  |none=>do
   modify fun st=>setPending st ((pendingOf st).modify ((pendingOf st).size-1) fun t=>(t.1,t.2.1,power' N (2*s1+n1) (2*s1+n1+n1+n) N))
   modify fun st=>setPending st ((pendingOf st).push (lo,n,0))
   pure (.yield (none,lo+n))
 |_=>do
  modify fun st=>setPending st ((pendingOf st).push (lo,n,0))
  pure (.yield (none,lo+n))
theorem HR(Z:Zc prog w A s κ it lt N)(O:LtOk lt){lo pw:Nat}{T:List Nat}{p:Array Nat}{rs:List (List Nat)}(R:RI κ it lt N lo T p rs st){Q:Option Unit×Unit->SortSt->Prop}(h:∀st' p' rs',RI κ it lt N lo T p' rs' st'->Q (none,()) st'):wpS (model prog w) A E s (sU N pw) Q st:=by
 unfold sU;refine Yd (I:=fun _ c st'=>c=(none,())/\∃p' rs',RI κ it lt N lo T p' rs' st') ?_ ?_ ⟨rfl,p,rs,R⟩
 ·rintro x c st' _ _ ⟨rfl,p',rs',R'⟩;refine Zj (wpS_get ?_);by_cases hs:(pendingOf st').size>1
  ·rw[if_pos hs];have e:(pendingOf st')[(pendingOf st').size-2]?=some ((pendingOf st')[(pendingOf st').size-2]'(by omega)):=Array.getElem?_eq_getElem (by omega);rw[e];refine aL (fun _=>Zq (h st' p' rs' R')) fun _=>?_;refine Zj (CD Z O R' (by omega) fun st2 p2 rs2 R2 _=>?_);refine aL (fun z=>absurd z (by simp)) fun _=>Zq ⟨rfl,p2,rs2,R2⟩
  ·rw[if_neg hs];exact Zq (h st' p' rs' R')
 ·rintro c st' ⟨rfl,p',rs',R'⟩;exact h st' p' rs' R'
theorem RI.push{lo m:Nat}{r:List Nat}{p:Array Nat}{rs:List (List Nat)}{T:List Nat}(R:RI κ it lt N lo (r++T) p rs st)(h1:1<=m)(hr:r.length=m)(hw:r.Pairwise (Lx lt))(hp:r.Perm (List.range' lo m)):RI κ it lt N (lo+m) T p (rs++[r]) (setPending st ((pendingOf st).push (lo,m,0))):=by
 have hl:=R.hl;refine⟨R.hk,R.hf,R.ha,?_,R.pm,?_,?_⟩
 ·rw[R.hp];simp
 ·show RunsL lt 0 (rs++[r]) ((pendingOf st).push (lo,m,0)).toList;rw[Array.toList_push];have:=R.rl.snoc (r:=r) (x:=0) (by omega) hw (by rw[Nat.zero_add,hl,hr];exact hp);rw[Nat.zero_add,hl,hr]at this;exact this
 ·simp;rw[<-List.length_flatten,hl,hr]
theorem HU(Z:Zc prog w A s κ it lt N)(O:LtOk lt){lo m:Nat}{r:List Nat}{p:Array Nat}{rs:List (List Nat)}{T:List Nat}(R:RI κ it lt N lo (r++T) p rs st)(h1:1<=m)(hr:r.length=m)(hw:r.Pairwise (Lx lt))(hp:r.Perm (List.range' lo m)){Q:ForInStep (Option Unit×Nat)->SortSt->Prop}(h:∀st' p' rs',RI κ it lt N (lo+m) T p' rs' st'->Q (.yield (none,lo+m)) st'):wpS (model prog w) A E s (sZ N lo m) Q st:=by
 unfold sZ;refine Zj (wpS_get ?_);cases hb:(pendingOf st).back? with
 |none=>exact Zj (wpS_modify (Zq (h _ _ _ (R.push h1 hr hw hp))))
 |some t =>obtain⟨s1,n1,o1⟩:=t;refine Zj (HR Z O R fun st' p' rs' R'=>?_);refine Zj (wpS_modify (Zj (wpS_modify (Zq (h _ p' (rs'++[r]) (RI.push (st:=setPending st' ((pendingOf st').modify ((pendingOf st').size-1) fun t=>(t.1,t.2.1,power' N (2*s1+n1) (2*s1+n1+n1+m) N))) ⟨R'.hk,R'.hf,R'.ha,R'.hp,R'.pm,?_,R'.hl⟩ h1 hr hw hp))))));show RunsL lt 0 rs' ((pendingOf st').modify ((pendingOf st').size-1) _).toList;rw[Array.toList_modify];exact R'.rl.pow (g:=fun t=>(t.1,t.2.1,power' N (2*s1+n1) (2*s1+n1+n1+m) N)) (fun t=>⟨rfl,rfl⟩) _
theorem GO(Z:Zc prog w A s κ it lt N)(O:LtOk lt)(h1:1<=N){Q:Unit->SortSt->Prop}(h:∀(p:Array Nat) (st':SortSt),POk N p->LS lt p N->p.size=N->arrOf st'=p.map (kas_item it)->failedOf st'=none->Q () st') :
  wpS (model prog w) A E s sortRuns' Q (SortSt.mk' κ ((List.toArray (List.range N)).map (kas_item it)) #[] 7 none):=by
 rw[sortRuns'_eq];refine Zj (wpS_get ?_);have esz:(arrOf (SortSt.mk' κ ((List.toArray (List.range N)).map (kas_item it)) #[] 7 none)).size=N:=by show((List.toArray (List.range N)).map (kas_item it)).size=N;simp
 rw[esz];have R0:RI κ it lt N 0 (List.range' 0 (N-0)) (List.toArray (List.range N)) [] (SortSt.mk' κ ((List.toArray (List.range N)).map (kas_item it)) #[] 7 none):=by refine⟨rfl,rfl,rfl,?_,List.Perm.refl _,trivial,rfl⟩;rw[Y0,List.range_eq_range',Nat.sub_zero];rfl
 refine Zj (Yi (Yd (I:=fun x c st'=>∃ lo p rs,c=(none,lo)/\RI κ it lt N lo (List.range' lo (N - lo)) p rs st'/\lo<=N/\x<=lo)
  (Q:=fun c st'=>c=(none,N)/\∃ p rs,RI κ it lt N N [] p rs st') ?step ?fin ⟨0,_,_,rfl,R0,by omega,Ze _⟩) ?post)
 case fin =>
  rintro c st' ⟨lo,p,rs,rfl,R,h2,h3⟩;have e:lo=N:=by omega
  subst e;refine⟨rfl,p,rs,?_⟩;rw[Nat.sub_self]at R;exact R
 case step =>
  rintro x c st' _ hx ⟨lo,p,rs,rfl,R,h2,h3⟩;dsimp -zeta only;refine aL (fun hge=>?_) fun hge=>?_
  ·have e:lo=N:=by omega
   subst e;rw[Nat.sub_self]at R;exact Zq ⟨rfl,p,rs,R⟩
  refine GN Z O R (by omega) (g:=sZ N lo) (mr:=minRun' N N 0) (bad:=pure (ForInStep.done (some (),lo))) (fun m r p' st2 m1 m2 r1 r2 r3 R2 _=>?_) (fun m=>by kernel_rfl);exact HU Z O R2 m1 r1 r2 r3 fun st3 p3 rs3 R3=>⟨lo+m,p3,rs3,rfl,R3,m2,by omega⟩
 case post =>
  rintro c st' ⟨rfl,p,rs,R⟩;dsimp only;have hle:∀{c:Prop} [Decidable c] (x:Nat),(if c then x-1 else x)<=x:=fun x=>by split<;>omega
  have hsz:(pendingOf st').size<=N:=by obtain⟨q1,q2⟩:=R.rl.len;have q3:(pendingOf st').toList.length=(pendingOf st').size:=Zz;have q4:=R.hl;omega
  refine Zj (Yi (Yd (I:=fun x c st'=>c=(none,())/\(∃ p rs,RI κ it lt N N [] p rs st')/\((pendingOf st').size+x<=N\/(pendingOf st').size<=1))
   (Q:=fun c st'=>c=(none,())/\(∃ p rs,RI κ it lt N N [] p rs st')/\(pendingOf st').size<=1) ?step2 ?fin2 ⟨rfl,⟨p,rs,R⟩,.inl hsz⟩) ?post2)
  case fin2 =>rintro c st2 ⟨rfl,hR,h2⟩;exact⟨rfl,hR,by omega⟩
  case step2 =>
   rintro x c st2 _ hx ⟨rfl,⟨p2,rs2,R2⟩,h2⟩;refine Zj (wpS_get ?_);refine aL (fun hge=>Zq ⟨rfl,⟨p2,rs2,R2⟩,hge⟩) fun hge=>?_;refine Zj (CD Z O R2 ?_ fun st3 p3 rs3 R3 e3=>?_)
   ·exact Nat.lt_of_le_of_lt (Nat.add_le_add_right (hle _) 1) (by omega)
   ·refine aL (fun z=>absurd z (by simp)) fun _=>Zq ⟨rfl,⟨p3,rs3,R3⟩,by omega⟩
  case post2 =>
   rintro c st2 ⟨rfl,⟨p2,rs2,R2⟩,h2⟩;have ln:=R2.rl.len;rw[Zz]at ln;have hl:=R2.hl;have hp:=R2.hp;have rl:=R2.rl
   match rs2,hl,hp,rl,ln with
   | [],hl,_,_,_=>exact absurd hl (by simp;omega)
   |r::r2::rs3,_,_,_,ln=>exact absurd ln.1 (by simp;omega)
   | [r],hl,hp,rl,_ =>
    rw[ZL,List.flatten_singleton]at hp
    match hpl:(pendingOf st2).toList,rl with
    | [],rl=>exact rl.elim
    |t::ts,⟨_,_,_,pw,_,_⟩ =>
     have hz:p2.size=N:=by rw[<-Zz,R2.pm.length_eq,List.length_range]
     refine Zq (h p2 st2 (Array.perm_iff_toList_perm.mpr (by simpa using R2.pm)) (fun i j hij hj=>xg (by rw[hp];exact pw) i j hij (by omega)) hz R2.ha R2.hf)
end
open PySem PySem.Spec PyProof.Rows PySem.W
theorem fi{n:Nat}(h:n<=4096):n<=sizeLine:=by rw[sizeLine_eq];omega
section
variable{prog:Program}{w:World}{A:Around}{E:Value->Shared->Prop}{s:Shared}{h₀:Heap}{L a kS:Addr}{m:Str->Option Value}{news:List (Addr×Obj)}{vs ks:List Value}
theorem oP{Q:List Value->Shared->Prop}{r:Addr}{lo hi:Int}{t u v:Tok}{n:Nat}(hh:A.handled=none)(hr:IsRange s.heap r lo hi 1 t u v)(hsmall:Builtin.Range.small lo hi 1=true)(hn:Builtin.Range.rangeSize lo hi 1=n)(hlen:n<=2^24)(h:∀h' tk acc,(∀b o,s.heap.get? b=some o->h'.get? b=some o)->ItemsOf (fun i v=>∃t,v=.int (lo+i*1) t) acc n->Q acc.toList { s with heap:=h',toks:=tk }):wpAny (model prog w) A (collect (.ref r)) Q E s:=by
 unfold collect;refine Za (wpAny_runValue (codeAny_builtin F.entry_proto_collect ?_));rw[Around.under_plainId F.plain_proto_collect _];show wpAny _ A.in1 (newList [] >>= fun q=>again (.builtin "list.__iadd__" ⟨[q,.ref r],[]⟩)) _ _ s;refine Za (Yg (Zh ⟨plainId_quiet F.plain_list_iadd _,codeAny_builtin F.entry_list_iadd ?_⟩));rw[Around.under_plainId F.plain_list_iadd _];show wpAny _ A.in1 (Builtin.List.listExtendWith (.ref s.heap.objs.size) (.ref r) (.ref s.heap.objs.size)) _ _ _;refine wpAny_extend_range (A:=A) (R:=fun r s'=>match r with
  | .ok (.ret v)=>wpAny (model prog w) A (match v with
   |.ref a=>do
    let o ←load a
    match o.data with
    |.seq xs _=>pure xs.toList
    |_=>unsupported "internal:collect"
   | _=>unsupported "internal:collect") Q E s'
  |.ok _=>False
  | .error e=>E e s') (s:={ s with heap:=s.heap.push { cls:=.type "list",data:=.seq ([]:List Value).toArray } }) hh (Zb _ hr) hsmall hn hlen s.heap.objs.size _ 0 (Zo _ rfl) fun h' tk acc c hk hS hacc=>?_
 show wpAny _ A (load s.heap.objs.size >>= _) _ _ _;refine Za (wpAny_load hS (Zh ?_));exact h h' tk acc (fun b o e=>hk b o (ZD (Zn e)) (Zb _ e)) hacc
def ZGo(prog:Program)(w:World)(A:Around)(b:Bool)(ks vs:List Value)(F:List Value->Shared->Prop)(κ:SortKind)(s:Shared):Prop :=
 ∃lt:Nat->Nat->Bool,LtOk lt/\(∀i j (C:Bool->Shared->Prop),i<vs.length->j<vs.length->C (lt i j) s->kas_ask prog w A κ (katRev b ks) i j C s) /\
  ∀p:Array Nat,POk vs.length p->LS lt p vs.length->F (katRev b (p.toList.map fun i=>(katRev b vs).getD i Value.none)) s
def wo(prog:Program)(w:World)(A:Around)(b:Bool)(ks vs:List Value)(F:List Value->Shared->Prop)(s:Shared):Prop :=
 (2<=vs.length->wpAny (model prog w) A (keyKind' (List.toArray ks)) (ZGo prog w A b ks vs F) (fun _ _=>False) s)/\(vs.length<2->F (katRev b ((List.range vs.length).map fun i=>(katRev b vs).getD i Value.none)) s)
theorem vZ{b:Bool}{st:SortSt}{e e1:Nat}{out:List Value}{P:PySem.Fin->Shared->Prop}(ho:(arrOf st).map (·.2)=List.toArray out)(hz:out.length<=4096)(hq:ks.length<=4096)(hf:failedOf st=none)(h:KatFin h₀ L m kS a ks e e1 (katRev b out) (fun s'=>P (.done (.ret .none)) s') s):wpAny (model prog w) A (ksk_tail a b e1 (.ref kS) st) P E s:=by
 obtain⟨nw,g,Fq,Nq,Uq,kq⟩:=h;obtain⟨l1,l2,e0,hg,x1,x2⟩:=Uq.split;rw[e0]at Nq;have ak:=Nq (kS,seqObj "list" (List.toArray ks) e) (ZQ _ (.head _));have s1:=Yv s.heap kS (Obj.mapSeq fun _=>(#[]:Array Value));obtain⟨ck,hck⟩:∃z,(s.heap.update kS (Obj.mapSeq fun _=>(#[]:Array Value))).get? kS=some (seqObj "list" #[] z):=⟨_,get?_update_seq ak.1 fun _=>#[]⟩
 have K2:=kq _ ck (kas_fr Fq s1 ak.2.1 ak.2.2) (by rw[hg];exact news_set Nq x1 x2 s1 hck);obtain⟨nw2,g2,F2,N2,U2,k2⟩:=K2;obtain⟨m1,m2,e2,hg2,y1,y2⟩:=U2.split;rw[e2]at N2;have aa:=N2 (a,seqObj "list" #[] e1) (ZQ _ (.head _));have s2:=Yv (s.heap.update kS (Obj.mapSeq fun _=>(#[]:Array Value))) a (Obj.mapSeq fun _=>List.toArray (katRev b out));have hsz:(List.toArray (katRev b out)).size=out.length:=by rw[Zi,kat_len]
 obtain⟨c2,hc2⟩:∃z,((s.heap.update kS (Obj.mapSeq fun _=>(#[]:Array Value))).update a (Obj.mapSeq fun _=>List.toArray (katRev b out))).get? a=some (seqObj "list" (List.toArray (katRev b out)) z):=⟨_,get?_update_seq aa.1 fun _=>List.toArray (katRev b out)⟩
 unfold ksk_tail;dsimp only;rw[ho,kat_outs];refine Za (listUpdate_at ak.1 rfl (Za (wpAny_letGo (Za (seqEpoch_at aa.1 rfl (Za (listUpdate_at aa.1 rfl ?_ (y0 _) (ZI (Nat.le_of_eq hsz) (Nat.le_succ_of_le (fi hz))))))))) (by rw[Zi];exact fi hq) (y0 _));rw[hf];simp only[bne_self_eq_false,Bool.false_eq_true,if_false];refine Zh (k2 _ c2 (kas_fr F2 s2 aa.2.1 aa.2.2) ?_);rw[hg2];exact news_set N2 y1 y2 s2 hc2
theorem GP{b:Bool}{e e1:Nat}{P:PySem.Fin->Shared->Prop}(hl:ks.length=vs.length)(hz:vs.length<=4096)(h:wo prog w A b ks vs (fun out=>KatFin h₀ L m kS a ks e e1 out (fun s3=>P (.done (.ret .none)) s3)) s) :
  wpAny (model prog w) A (ksk_end a b vs.toArray e1 (.ref kS) (List.toArray ks)) P E s:=by
 have lr:(katRev b ks).length=(katRev b vs).length:=by rw[kat_len,kat_len,hl]
 have lv:(katRev b vs).length=vs.length:=kat_len b vs;have step:∀t:Sem PySem.Fin,wpAny (model prog w) A t P E s->wpAny (model prog w) A (if b=true then(do let _ ←rule "list.sort.reverse";t)else t) P E s:=by
  intro t ht;split
  ·exact Za (YC ht)
  ·exact ht
 unfold ksk_end;dsimp only;refine step _ ?_;have er:∀κ,SortSt.mk' κ ((List.toArray (katRev b ks)).zip (List.toArray (katRev b vs))) #[] 7 none=SortSt.mk' κ ((List.toArray (List.range vs.length)).map (kas_item ((List.toArray (katRev b ks)).zip (List.toArray (katRev b vs))))) #[] 7 none:=fun κ=>by have e:=kas_range ((List.toArray (katRev b ks)).zip (List.toArray (katRev b vs)));rw[show((List.toArray (katRev b ks)).zip (List.toArray (katRev b vs))).size=vs.length by simp[lr,lv]]at e;rw[e]
 rw[kat_pairs b hl];by_cases n2:vs.toArray.size<2
 ·rw[if_pos n2,if_pos n2];have n2':vs.length<2:=by simpa using n2
  refine Za (Zh ?_);rw[er,StateT.run_pure];refine Za (Zh ?_);dsimp only;exact vZ (kat_snds lr (p:=List.toArray (List.range vs.length)) rfl) (by simpa using hz) (by omega) rfl (h.2 n2')
 rw[if_neg n2,if_neg n2];have n3:2<=vs.length:=by rw[Zi]at n2;omega
 refine Za (ZS (h.1 n3) (fun κ s0 hg=>?_) fun _ _ x=>x.elim);obtain⟨lt,O,ask,fin⟩:=hg;have Z:Zc prog w A s0 κ ((List.toArray (katRev b ks)).zip (List.toArray (katRev b vs))) lt vs.length:=fun i j C hi hj hC=>by have:=ask i j C hi hj hC;rw[kat_ask_eq lr]at this;exact this
 rw[er];refine Za (ZS (GO (E:=E) (Q:=fun _ st'=>∃p:Array Nat,POk vs.length p/\LS lt p vs.length/\p.size=vs.length/\arrOf st'=p.map (kas_item ((List.toArray (katRev b ks)).zip (List.toArray (katRev b vs))))/\failedOf st'=none) Z O (by omega) fun p st' a1 a2 a3 a4 a5=>⟨p,a1,a2,a3,a4,a5⟩) ?_ fun _ _ x=>x);rintro⟨⟨⟩,st'⟩ s' ⟨rfl,p,a1,a2,a3,a4,a5⟩;dsimp only;exact vZ (kat_snds lr a4) (by rw[Zf,Zz,a3];exact hz) (by omega) a5 (fin p a1 a2)
theorem vY{f:Value}{Fin:List Value->Nat->Shared->Prop}{n:Nat}{body:Value->PUnit->Sem (ForInStep PUnit)}(hn:n<=4096)(hb:∀ x ks e (s:Shared) (C:Value->Nat->Shared->Prop),List.length ks<4096->wpAny (model prog w) A (call f [x]) (KatBack h₀ L m kS ks e C) (fun _ _=>False) s ->
   wpAny (model prog w) A (body x ⟨⟩) (fun r s'=>r=.yield ⟨⟩/\∃ k c,s'.heap.get? kS=some (seqObj "list" (List.toArray (ks++[k])) c)/\C k c s') E s):∀ (r qs:List Value) (e:Nat) (s:Shared),qs.length+r.length=n ->
   s.heap.get? kS=some (seqObj "list" (List.toArray qs) e)->KatKeys prog w A h₀ L m kS f Fin r qs e s ->
   wpAny (model prog w) A (forIn r PUnit.unit body) (fun _ s'=>∃qs e,s'.heap.get? kS=some (seqObj "list" (List.toArray qs) e)/\qs.length=n/\Fin qs e s') E s
 | [],qs,e,s,hl,hq,h=>by rw[List.forIn_nil];exact Zh ⟨qs,e,hq,by simpa using hl,h⟩
 |x::r,qs,e,s,hl,hq,h=>by rw[Zm]at hl;rw[List.forIn_cons];refine Za (ZS (hb x qs e s (fun k c s'=>KatKeys prog w A h₀ L m kS f Fin r (qs++[k]) c s') (by omega) h) (fun z s' hz=>?_) fun _ _ x=>x);obtain⟨rfl,k,c,hk',h2⟩:=hz;exact vY hn hb r (qs++[k]) c s' (by rw[Zk,Yf];omega) hk' h2
theorem Eh{b:Bool}{f:Value}{e1:Nat}{P:PySem.Fin->Shared->Prop}(hq:s.heap.get? kS=some (seqObj "list" #[] 0))(hz:vs.length<=4096)(h:KatKeys prog w A h₀ L m kS f (fun ks e s'=>wo prog w A b ks vs (fun out=>KatFin h₀ L m kS a ks e e1 out (fun s3=>P (.done (.ret .none)) s3)) s') vs [] 0 s) :
  wpAny (model prog w) A (ksk_rest a f b vs.toArray e1 (.ref kS)) P E s:=by
 unfold ksk_rest;refine Za (YC ?_);rw[<-Array.forIn_toList];refine Za (ZS (vY hz (fun x qs e s' C hzz hx=>?_) vs [] 0 s (by simp) hq h) (fun _ s' hd=>?_) fun _ _ x=>x)
 ·refine Za (wpAny_attempt (ZS hx (fun k s2 hkk=>?_) fun _ _ hF=>hF.elim));obtain⟨nw,g,Fq,Nq,Uq,cq⟩:=hkk;obtain⟨l1,l2,e0,hg,x1,x2⟩:=Uq.split;rw[e0]at Nq;have ak:=Nq (kS,seqObj "list" (List.toArray qs) e) (ZQ _ (.head _));have s1:=Yv s2.heap kS (Obj.mapSeq (·.push k));have ea:(List.toArray qs).push k=List.toArray (qs++[k]):=by simp
  obtain⟨c2,hc2⟩:∃z,(s2.heap.update kS (Obj.mapSeq (·.push k))).get? kS=some (seqObj "list" (List.toArray (qs++[k])) z):=⟨_,by rw[<-ea];exact get?_update_seq ak.1 (·.push k)⟩
  dsimp only;refine Za (listUpdate_at ak.1 rfl (Zh ⟨rfl,k,c2,hc2,cq _ c2 (kas_fr Fq s1 ak.2.1 ak.2.2) (by rw[hg];exact news_set Nq x1 x2 s1 hc2)⟩) (by rw[Zi];exact fi (by omega)) (ZI (Nat.le_of_eq (Array.size_push ..)) (by rw[Zi];exact Nat.le_succ_of_le (fi (by omega)))))
 ·obtain⟨qs,e,hq',hl,fin⟩:=hd;exact Za (listItems_at hq' rfl (GP hl hz fin))
theorem BS{b:Bool}{f:Value}{n:Nat}{P:PySem.Fin->Shared->Prop}(F:Fr h₀ L s.heap m)(N:News h₀ L s.heap news)(ho:s.heap.get? a=some (seqObj "list" vs.toArray n))(haL:a≠L)(ha0:h₀.get? a=none)(hna:∀ p∈news,p.1≠a)(hz:vs.length<=4096)(h:∀ kS e1 h',Fr h₀ L h' m->News h₀ L h' ((kS,seqObj "list" #[] 0)::(a,seqObj "list" #[] e1)::news)->a<kS->(∀ q∈news,q.1<kS) ->
   KatKeys prog w A h₀ L m kS f (fun ks e s'=>wo prog w A b ks vs (fun out=>KatFin h₀ L m kS a ks e e1 out (fun s3=>P (.done (.ret .none)) s3)) s') vs [] 0 { s with heap:=h' }) :
  wpAny (model prog w) A (ksk_tree a f b) P E s:=by
 have la:a<s.heap.objs.size:=Zn ho;have s1:=Yv s.heap a (Obj.mapSeq fun _=>(#[]:Array Value));have F1:=kas_fr F s1 haL ha0;have N1:=kas_news N s1 hna;obtain⟨e1,ho1⟩:∃z,(s.heap.update a (Obj.mapSeq fun _=>(#[]:Array Value))).get? a=some (seqObj "list" #[] z):=⟨_,get?_update_seq ho fun _=>#[]⟩
 have zk:((s.heap.update a (Obj.mapSeq fun _=>(#[]:Array Value))).push (seqObj "tuple" vs.toArray 0)).objs.size=s.heap.objs.size+1:=by rw[size_push',Heap.size_update]
 have lk:L<((s.heap.update a (Obj.mapSeq fun _=>(#[]:Array Value))).push (seqObj "tuple" vs.toArray 0)).objs.size:=(F1.push _).ns.lt;unfold ksk_tree;refine Za (listItems_at ho rfl (Za (listUpdate_at ho rfl (Za (seqEpoch_at ho1 rfl (Za (wpAny_newTuple (Za (wpAny_newList (Z3 ?_) (y0 _))) (fi hz))))) (by rw[Zi];exact fi hz) (y0 _))));refine Eh (s:={ s with heap:=((s.heap.update a (Obj.mapSeq fun _=>(#[]:Array Value))).push (seqObj "tuple" vs.toArray 0)).push (seqObj "list" #[] 0) }) (kS:=((s.heap.update a (Obj.mapSeq fun _=>(#[]:Array Value))).push (seqObj "tuple" vs.toArray 0)).objs.size)
  (Zo _ rfl) hz (h _ e1 _ ((F1.push _).push _) (fun p hp=>?_) (by rw[zk];exact Nat.lt_succ_of_lt la) fun q hq=>by rw[zk];exact Nat.lt_succ_of_lt (Zn (N q hq).1))
 rcases Zl.mp hp with rfl|hp
 ·exact⟨Zo _ rfl,Z9 lk,Heap.get?_none_of_le (ZI F.above (Nat.le_of_lt lk))⟩
 ·rcases Zl.mp hp with rfl|hp
  ·exact⟨Zb _ (Zb _ ho1),haL,ha0⟩
  ·exact⟨Zb _ (Zb _ (N1 p hp).1),(N1 p hp).2⟩
theorem Eg{b:Bool}{f:Value}{kw:List (Str×Value)}{Q:Value->Shared->Prop}(F:Fr h₀ L s.heap m)(N:News h₀ L s.heap news)(hz:vs.length<=4096)(ha2:∀ x,argsOk "list.sort" ⟨[.ref x],kw⟩)(ht:∀ x,Builtin.«list.sort» ⟨[.ref x],kw⟩=ksk_tree x f b)(h:∀ D kS e1 h',Fr h₀ L h' m->News h₀ L h' ((kS,seqObj "list" #[] 0)::(D,seqObj "list" #[] e1)::news)->D<kS->(∀ q∈news,q.1<D) ->
   KatKeys prog w A.in1 h₀ L m kS f (fun ks e s'=>wo prog w A.in1 b ks vs (fun out=>KatFin h₀ L m kS D ks e e1 out (fun s4=>Q (.ref D) s4)) s') vs [] 0 { s with heap:=h' }) :
  wpAny (model prog w) A (do let l ←newList vs;let _ ←holding [l] (call (.builtin "list.sort") [l] kw);ret l) (fun fin s'=>∃v,fin=.done (.ret v)/\Q v s') E s:=by
 have hL:L<s.heap.objs.size:=F.ns.lt;have hoL:(s.heap.push (seqObj "list" vs.toArray 0)).get? s.heap.objs.size=some (seqObj "list" vs.toArray 0):=Zo _ rfl;refine Za (wpAny_newList ?_ (fi hz));refine Za (Z3 (wpAny_call_entry_kw slot_list_sort ⟨_,hoL,rfl⟩ entry_list_sort ?body (ha2 _)))
 case body =>
  show wpAny (model prog w) A.in1 (Builtin.«list.sort» ⟨[.ref s.heap.objs.size],kw⟩) _ _ _;rw[ht];refine BS (s:={ s with heap:=s.heap.push (seqObj "list" vs.toArray 0) }) (F.kept fun b o q=>Zb _ q) (N.grown fun b o q=>Zb _ q) hoL (Z9 hL) (Heap.get?_none_of_le (ZI F.above (Nat.le_of_lt hL))) (fun p hp=>ZD (Zn (N p hp).1)) hz fun kS e1 h' F' N' l0 l1=>?_;refine kat_keys_mono (h _ kS e1 h' F' N' l0 fun q hq=>Zn (N q hq).1) fun ks e s' _ hd=>⟨fun n2=>ZS (hd.1 n2) (fun κ s2 hk=>?_) fun _ _ x=>x,fun n2=>(hd.2 n2).mono fun s4 hq=>⟨_,rfl,Zh ⟨_,rfl,hq⟩⟩⟩
  obtain⟨lt,O,ask,fin⟩:=hk;exact⟨lt,O,ask,fun p a1 a2=>(fin p a1 a2).mono fun s4 hq=>⟨_,rfl,Zh ⟨_,rfl,hq⟩⟩⟩
end
open PySem PySem.Spec PyProof.Rows PySem.W
inductive ZKey where
 |i (n:Int)|t (ns:List Int)
def ZKey.nums:ZKey->List Int
 |.i n=>[n]
 |.t ns=>ns
def ZKey.at(H:Hp):ZKey->V->Prop
 |.i n,v=>v=.int n
 |.t ns,v=>∃a,v=.ref a/\H a=some (.tup (ns.map V.int))
theorem ZKey.at.same{H H':Hp}(sm:Same H H'):∀{k:ZKey} {v:V},k.at H v->k.at H' v
 |.i _,_,h=>h
 |.t _,_,⟨a,e,h⟩=>⟨a,e,sm _ _ h⟩
def xK(ks:List ZKey):Prop:=(∀k∈ks,∃n,k=.i n)\/∀k∈ks,∃ns,k=.t ns/\ns≠[]
section
variable{X:Cx}{pins:List (Addr×Obj)}{σ:St}{H:Hp}{s:Shared}{h':Heap}
def Ae(X:Cx)(s:Shared)(l:Addr)(xs:List V):Prop:=∀Q:List Value->Shared->Prop,(∀h' tk its,(∀b o,s.heap.get? b=some o->h'.get? b=some o)->Vals xs its->Q its { s with heap:=h',toks:=tk })->wpAny (model X.prog X.w) X.A.in1 (collect (.ref l)) Q X.xe s
theorem zw{l:Addr}{xs:List V}(I:Inv X pins σ H s)(hH:H l=some (.lst xs))(hz:xs.length<=4096):Ae X s l xs:=fun Q h=>by obtain⟨z,its,n,rv,hlen,e⟩:=I.lstM hH;have li:its.length=xs.length:=hlen.symm;refine collect_list ⟨_,e,rfl,n,rfl⟩ (h _ s.toks its (fun b o g=>?_) rv) (fi (by omega));rw[Heap.get?_update_ne _ _ _ _ (ZD (Zn g))];exact Zb _ g
structure SGZ(X:Cx)(pins:List (Addr×Obj))(σ:St)(H1:Hp)(m:Str->Option Value)(kS D:Addr)(e1:Nat)(ks:List ZKey)(as:List V)(us:List Value)(e:Nat)(H:Hp)(s:Shared):Prop where
 I:Inv X pins σ H s
 sm:Same H1 H
 fk:bC X pins H kS
 fd:bC X pins H D
 bk:X.base.get? kS=none
 bd:X.base.get? D=none
 hk:s.heap.get? kS=some (seqObj "list" (List.toArray us) e)
 hd:s.heap.get? D=some (seqObj "list" #[] e1)
 ns:s.heap.Ns X.env.locals m
 vals:Vals as us
 keys:∀(i:Nat) (a:V) (k:ZKey),as[i]?=some a->ks[i]?=some k->k.at H a
theorem SGZ.fr{H1:Hp}{m:Str->Option Value}{kS D:Addr}{e1:Nat}{ks:List ZKey}{as:List V}{us:List Value}{e:Nat}(S:SGZ X pins σ H1 m kS D e1 ks as us e H s):Fr X.base X.env.locals s.heap m:=⟨S.ns,S.I.bk,ZI S.I.ok.bsz S.I.ok.above⟩
theorem oo{H1:Hp}{m:Str->Option Value}{kS D:Addr}{e1:Nat}{ks:List ZKey}{xs:List V}{its:List Value}{f:Addr}{sp:Sp}{Fin:List Value->Nat->Shared->Prop}(hne:kS≠D)(rv:Vals xs its)(hl:ks.length=xs.length)(F:wm X pins σ f sp)(spec:∀(i:Nat) (v:V) (key:ZKey) (H':Hp),xs[i]?=some v->ks[i]?=some key->Same H1 H'->∀R:VK,(∀kv H'',Same H' H''->key.at H'' kv->R kv H'')->sp [v] H' R E0)(fin:∀(as:List V) (us:List Value) (e:Nat) (H:Hp) (s:Shared),SGZ X pins σ H1 m kS D e1 ks as us e H s->as.length=xs.length->Fin us e s) :
  ∀(r:List Value) (as:List V) (us:List Value) (e:Nat) (H:Hp) (s:Shared),SGZ X pins σ H1 m kS D e1 ks as us e H s->its=its.take as.length++r->as.length+r.length=xs.length ->
   KatKeys X.prog X.w X.A.in1.in1 X.base X.env.locals m kS (.ref f) Fin r us e s
 | [],as,us,e,H,s,S,_,hlen=>KatKeys.nil (fin as us e H s S (by simpa using hlen))
 |u::r,as,us,e,H,s,S,hits,hlen=>by
  have hi:as.length<xs.length:=by rw[Zm]at hlen;omega
  have hx:xs[as.length]?=some xs[as.length]:=Zd hi;obtain⟨u',gu,ru⟩:=rv.get hx;have hlt:as.length<its.length:=by rw[<-rv.length];exact hi
  have gu':its[as.length]?=some u:=by rw[hits,Z4 (by rw[ZM];omega),ZM,YU (by omega),Nat.sub_self];rfl
  rw[gu']at gu;cases gu;have hkey:ks[as.length]?=some (ks[as.length]'(by omega)):=Zd (by omega);generalize ks[as.length]'(by omega)=key at hkey;refine KatKeys.cons (wpAny_call (codeAny_mono (F s H u xs[as.length] (fun v H''=>Same H H''/\key.at H'' v) S.I ru (spec _ _ _ H hx hkey S.sm _ fun kv H'' s' q=>⟨s',q⟩)) fun res s' hq=>?_));cases res with
  |error e=>exact hq
  |ok fl =>
   cases fl with
   |next=>exact False.elim hq
   |brk=>exact False.elim hq
   |cont=>exact False.elim hq
   |ret uv =>
    obtain⟨v,H'',os,bare,un,hok,rvv,sm,ea⟩:=hq;obtain⟨hh,g,d,t,os'⟩:=s';obtain rfl:os'=s.os:=os;have I2:Inv X pins σ H'' { s with heap:=hh,gens:=g,drawn:=d,toks:=t }:=S.I.call (h':=hh) (g':=g) (d':=d) (t':=t) (ch:=[]) un hok bare (fun b z=>absurd z (by simp));have nstk:∀{b:Addr},bC X pins H b->b∉frs X.stack:=fun{b} fo z=>(Zl.mp (S.I.stkSub b z)).elim fo.2.1 fo.2.2.1;have hk2:hh.get? kS=some (seqObj "list" (List.toArray us) e):=un.keep kS _ S.hk S.fk.1 (nstk S.fk) (by simp);have hd2:hh.get? D=some (seqObj "list" #[] e1):=un.keep D _ S.hd S.fd.1 (nstk S.fd) (by simp);have ns2:hh.Ns X.env.locals m:=by obtain⟨o,es,ep,ho,rr⟩:=id S.ns;obtain⟨sl,hL⟩:=un.any ho S.I.free (by simp);exact⟨_,es,ep,hL,rr⟩
    have fk2:bC X pins H'' kS:=⟨un.free kS _ S.hk S.fk.1 (by simp),S.fk.2⟩
    have fd2:bC X pins H'' D:=⟨un.free D _ S.hd S.fd.1 (by simp),S.fd.2⟩
    have hkL:kS≠X.env.locals:=S.fk.2.1;refine KatBack.intro (news:=(kS,seqObj "list" (List.toArray us) e)::gQ X.base hh X.env.locals kS) ⟨ns2,I2.bk,ZI S.I.ok.bsz S.I.ok.above⟩ (im hk2 hkL S.bk) (.head jQ) fun h3 c F3 N3=>?_;have mv:=il (fun b o q=>I2.bk b o q) F3 N3;have I3:Inv X pins σ H'' { s with heap:=h3,gens:=g,drawn:=d,toks:=t }:=Inv.movedF (ch:=[kS]) (t':=t) I2 (fun b hb=>by rw[Zs.mp hb];exact fk2) mv ⟨m,ns2,F3.ns⟩;refine oo hne rv hl F spec fin r (as++[v]) (us++[uv]) c H'' _ ⟨I3,S.sm.trans sm,fk2,fd2,S.bk,S.bd,(N3 _ (.head _)).1,mv D _ S.fd.2.1 (fun z=>hne (Zs.mp z).symm) hd2,F3.ns,S.vals.append (.cons rvv .nil),fun i b key' h1 h2=>?_⟩ ?_ ?_
    ·by_cases hi2:i<as.length
     ·rw[YQ hi2]at h1;exact(S.keys i b key' h1 h2).same sm
     ·have hi3:=(Zx.mp h1).1;rw[Zk,Yf]at hi3;have e3:i=as.length:=by omega
      subst e3;rw[Z4 (Ze _),Nat.sub_self]at h1;cases h1;rw[hkey]at h2;cases h2;exact ea
    ·rw[Zk,Yf,List.take_add_one,gu',Option.toList_some,ZJ];exact hits
    ·rw[Zk,Yf,<-hlen,Zm];omega
theorem uK{b:Bool}{kw:List (Str×Value)}{ks:List ZKey}{xs:List V}{f l:Addr}{sp:Sp}{Q:VK}(I:Inv X pins σ H s)(src:Ae X s l xs)(hz:xs.length<=4096)(hl:ks.length=xs.length)(hne:xK ks)(hs1:argsOk "sorted" ⟨[.ref l],kw⟩)(hs2:∀x,argsOk "list.sort" ⟨[.ref x],kw⟩)(hs3:∀x,Builtin.«list.sort» ⟨[.ref x],kw⟩=ksk_tree x (.ref f) b)(F:∀l,wm (wX X l) pins σ f sp)(spec:∀(i:Nat) (v:V) (key:ZKey) (H':Hp),xs[i]?=some v->ks[i]?=some key->Same H H'->∀R:VK,(∀kv H'',Same H' H''->key.at H'' kv->R kv H'')->sp [v] H' R E0)(q:∀(p:Array Nat) (H2:Hp) (D:Addr),POk xs.length p->LS (fun i j=>HT.lexLt ((katRev b (ks.map ZKey.nums)).getD i []) ((katRev b (ks.map ZKey.nums)).getD j [])) p xs.length->Same H H2->H2 D=none->Q (.ref D) (upd H2 D (.lst (katRev b (p.toList.map fun i=>(katRev b xs).getD i .non))))) :
  wpAny (model X.prog X.w) X.A (call (.builtin "sorted") [.ref l] kw) (EP X pins σ Q) X.xe s:=by
 refine call_function_entry_kw kind_sorted plain_sorted entry_sorted hs1 ?_;unfold Builtin.«sorted»;refine Za (m:=checkCount "sorted" 1 1 _) (Zh (Za (src _ fun h0 tk its kp rv=>?_)));have I0:Inv X pins σ H { s with heap:=h0,toks:=tk }:=I.kept (t':=tk) kp;obtain⟨m,F0⟩:=I0.fr;have li:its.length=xs.length:=rv.length.symm;refine Eg (vs:=its) (b:=b) F0 (mm X.base h0 X.env.locals) (by omega) hs2 hs3 fun D kS e1 h1 F1 N1 hDk hD=>?_;have nD:=N1 (D,seqObj "list" #[] e1) (.tail _ (.head _));have nK:=N1 (kS,seqObj "list" #[] 0) (.head _);have hds:h0.get? D=none:=by
  cases g:h0.get? D with
  |none=>rfl
  |some o=>exact absurd (hD (D,o) (gL g nD.2.1 nD.2.2)) (YL _)
 have hks:h0.get? kS=none:=by
  cases g:h0.get? kS with
  |none=>rfl
  |some o=>exact absurd (Nat.lt_trans hDk (hD (kS,o) (gL g nK.2.1 nK.2.2))) (YL _)
 have xk:=I0.exOk hks nK.2.1 nK.2.2;have xd:=I0.exOk hds nD.2.1 nD.2.2;have hlx:∀b∈[kS,D],ExOk X b:=fun b' hb=>by
  simp only[Zl,ZC,Z6]at hb;rcases hb with rfl|rfl
  ·exact xk
  ·exact xd
 have fpk:=I0.fpW (l:=[kS,D]) (by simp) xk hks;have fpd:=I0.fpW (l:=[kS,D]) (by simp) xd hds;have mv0:∀b u,b≠X.env.locals->b∉([]:List Addr)->h0.get? b=some u->h1.get? b=some u:=fun b u hL _ g=>by
  cases qb:X.base.get? b with
  |none=>exact(N1 (b,u) (.tail _ (.tail _ (gL g hL qb)))).1
  |some o =>have e':=I0.bk b o qb;rw[g]at e';cases e';exact F1.keep b u qb
 have I1:Inv X pins σ H { s with heap:=h1,toks:=tk }:=Inv.movedF (ch:=[]) (s:={ s with heap:=h0,toks:=tk }) (t':=tk) I0 (fun b hb=>absurd hb (by simp)) mv0 ⟨m,F0.ns,F1.ns⟩;have I2:=I1.widen hlx;have hkd:kS≠D:=Z9 hDk;refine oo (X:=wX X [kS,D]) (H1:=H) (D:=D) (e1:=e1) (ks:=ks) (xs:=xs) (its:=its) hkd rv hl (F _) spec (fun as us e2 H' s' S la=>?_) its [] [] 0 H { s with heap:=h1,toks:=tk } ⟨I2,Same.refl H,fpk,fpd,nK.2.2,nD.2.2,nK.1,nD.1,F1.ns,.nil,fun i a k h=>by simp at h⟩ (by simp) (by simpa using li);have hN:its.length=xs.length:=li;have lu:us.length=xs.length:=by rw[<-S.vals.length,la]
 have rvR:Vals (katRev b xs) (katRev b its):=ug b rv;have lR:(katRev b xs).length=xs.length:=kat_len b xs;have gk:∀i,i<xs.length->∃(v:V) (u:Value) (k:ZKey),RelV v u/\(katRev b us).getD i Value.none=u/\k∈ks/\(katRev b (ks.map ZKey.nums)).getD i []=k.nums/\k.at H' v:=fun i hi=>by
  obtain⟨j,hj,e1⟩:∃j,j<xs.length/\∀{α:Type} (l:List α),l.length=xs.length->(katRev b l)[i]?=l[j]?:=by
   cases b with
   |false=>exact⟨i,hi,fun l _=>rfl⟩
   | true=>exact⟨xs.length - 1 - i,by omega,fun l hl'=>by
     show l.reverse[i]?=_;rw[List.getElem?_reverse (by omega),hl']⟩
  have h1:as[j]?=some (as[j]'(by omega)):=Zd (by omega);have h2:ks[j]?=some (ks[j]'(by omega)):=Zd (by omega);obtain⟨u,gu,ru⟩:=S.vals.get h1;refine⟨_,u,_,ru,?_,Zy (show j<ks.length by omega),?_,S.keys j _ _ h1 h2⟩
  ·rw[Zg,e1 us lu,gu];rfl
  ·rw[Zg,e1 (ks.map ZKey.nums) (by rw[Zf,hl]),ZA,h2];rfl
 have fin:∀p:Array Nat,POk xs.length p->p.size=xs.length/\LS (fun i j=>HT.lexLt ((katRev b (ks.map ZKey.nums)).getD i []) ((katRev b (ks.map ZKey.nums)).getD j [])) p xs.length ->
   KatFin X.base X.env.locals m kS D us e2 e1 (katRev b (p.toList.map fun i=>(katRev b its).getD i Value.none)) (fun s4=>EP X pins σ Q (.ref D) s4) s':=fun p hp hs=>by
  refine KatFin.intro (news:=(kS,seqObj "list" (List.toArray us) e2)::gQ X.base s'.heap X.env.locals kS) S.fr (im S.hk S.fk.2.1 S.bk) (.head jQ) fun h3 c F3 N3=>?_;have mv3:=il (fun b' o qb=>S.I.bk b' o qb) F3 N3;have hd3:h3.get? D=some (seqObj "list" #[] e1):=mv3 D _ S.fd.2.1 (fun zz=>hkd (Zs.mp zz).symm) S.hd;refine KasFin.intro (news:=(D,seqObj "list" #[] e1)::gQ X.base h3 X.env.locals D) (s:={ s' with heap:=h3 }) F3 (im hd3 S.fd.2.1 S.bd) (.head jQ) fun h4 c4 F4 N4=>?_;have mv4:=il (fun b' o qb=>F3.keep b' o qb) F4 N4;have hch:∀b∈[kS,D],bC (wX X [kS,D]) pins H' b:=fun b' hb=>by
   simp only[Zl,ZC,Z6]at hb;rcases hb with rfl|rfl
   ·exact S.fk
   ·exact S.fd
  have mv:∀b u,b≠X.env.locals->b∉[kS,D]->s'.heap.get? b=some u->h4.get? b=some u:=fun b' u hL hx g=>mv4 b' u hL (fun zz=>hx (by rw[Zs.mp zz];simp)) (mv3 b' u hL (fun zz=>hx (by rw[Zs.mp zz];simp)) g);have pl:∀i∈p.toList,i<xs.length:=fun i hi=>by have:=(hp.mem_iff).mp (Array.mem_toList_iff.mp hi);simpa using this
  have vals:∀(w:List Nat),(∀i∈w,i<xs.length)->Vals (w.map fun i=>(katRev b xs).getD i .non) (w.map fun i=>(katRev b its).getD i Value.none):=fun w=>by
   induction w with
   |nil=>intro _;exact .nil
   |cons i w ih =>intro hw;have hi:=hw i Zv;have hx:(katRev b xs)[i]?=some ((katRev b xs)[i]'(by omega)):=Zd (by omega);obtain⟨u,gu,ru⟩:=rvR.get hx;refine .cons ?_ (ih fun j hj=>hw j (Zt _ hj));show RelV ((katRev b xs).getD i V.non) ((katRev b its).getD i Value.none);rw[Zg,Zg,hx,gu];exact ru
  have lp:p.toList.length=xs.length:=by have:=hs.1;simpa using this
  have new:ObjOk X.prog X.w (upd H' D (.lst (katRev b (p.toList.map fun i=>(katRev b xs).getD i .non)))) h4 D (.lst (katRev b (p.toList.map fun i=>(katRev b xs).getD i .non))):=⟨by rw[kat_len,Zf,lp];exact fi (by omega),_,c4,ug b (vals _ pl),(N4 _ (.head _)).1⟩
  have I4:=Inv.tookF (X:=wX X [kS,D]) (ch:=[kS,D]) (a:=D) (o:=.lst (katRev b (p.toList.map fun i=>(katRev b xs).getD i .non))) (t':=s'.toks) S.I (by simp) hch mv ⟨m,S.ns,F4.ns⟩ new;exact⟨.ref D,_,I4.narrow I.ok (fun b' hb=>(hlx b' hb).old),rfl,q p H' D hp hs.2 S.sm S.fd.1⟩
 have go:∀κ:SortKind,(∀(i j:Nat) (C:Bool->Shared->Prop),i<xs.length->j<xs.length->C (HT.lexLt ((katRev b (ks.map ZKey.nums)).getD i []) ((katRev b (ks.map ZKey.nums)).getD j [])) s'->kas_ask X.prog X.w X.A.in1.in1 κ (katRev b us) i j C s') ->
   ZGo X.prog X.w X.A.in1.in1 b us its (fun out=>KatFin X.base X.env.locals m kS D us e2 e1 out (fun s4=>EP X pins σ Q (.ref D) s4)) κ s':=fun κ hask=>by
  refine⟨_,EU (katRev b (ks.map ZKey.nums)),?_,?_⟩
  ·rw[hN];exact hask
  ·rw[hN];exact fun p hp hs=>fin p hp ⟨by have:=hp.size_eq;simpa using this,hs⟩
 refine⟨fun n2=>?_,fun n2=>?_⟩
 rotate_left
 ·have:=fin (List.toArray (List.range its.length)) (by rw[hN];exact Array.Perm.refl _) ⟨by simpa using hN,fun i j h1 h2=>by omega⟩;rw[Y0]at this;exact this
 rcases hne with hI|hB
 ·refine kas_kind (T:=.type "int") (by omega) (fun u hu=>?_) rfl rfl (go _ fun i j C hi hj hC=>?_)
  ·obtain⟨j,hj,rfl⟩:=List.getElem_of_mem hu;have h1:as[j]?=some (as[j]'(by omega)):=Zd (by omega);have h2:ks[j]?=some (ks[j]'(by omega)):=Zd (by omega);obtain⟨u,gu,ru⟩:=S.vals.get h1;have ky:=S.keys j _ _ h1 h2;obtain⟨n',en⟩:=hI _ (Zy (show j<ks.length by omega));rw[en]at ky;rw[show as[j]'(by omega)=V.int n' from ky]at ru;obtain⟨t,rfl⟩:=ru;rw[Zd hj]at gu;rw[Zu gu];exact .now
  ·obtain⟨v,u,k1,ru,eu,m1,en,at1⟩:=gk i hi;obtain⟨v2,u2,k2,ru2,eu2,m2,en2,at2⟩:=gk j hj;obtain⟨n1,rfl⟩:=hI _ m1;obtain⟨n2,rfl⟩:=hI _ m2;rw[show v=V.int n1 from at1]at ru;rw[show v2=V.int n2 from at2]at ru2;obtain⟨t,rfl⟩:=ru;obtain⟨t2,rfl⟩:=ru2;unfold kas_ask;rw[eu,eu2];rw[en,en2]at hC;refine kat_lt_int ?_;have e1':HT.lexLt (ZKey.i n1).nums (ZKey.i n2).nums=decide (n1<n2):=C6 n1 n2;rw[e1']at hC;exact hC
 ·have tups:∀(vs:List V) (ws:List Value) (n:Nat),Vals vs ws->n+vs.length=ks.length->(∀(i:Nat) (v:V) (k:ZKey),vs[i]?=some v->ks[n+i]?=some k->k.at H' v)->∃fs:List Value,KatTups s'.heap ws fs/\fs.length=ws.length/\∀v∈fs,∃i t,v=.int i t:=fun vs=>by
   induction vs with
   |nil =>intro ws n hv _ _;cases hv;exact⟨[],KatTups.nil,rfl,fun v h=>nomatch h⟩
   |cons v vs ih =>
    intro ws n hv hl' h;cases hv with
    |cons rv1 hv =>
     rw[Zm]at hl';have hkn:ks[n]?=some (ks[n]'(by omega)):=Zd (by omega);obtain⟨ns,en,ne⟩:=hB _ (Zy (show n<ks.length by omega));rw[en]at hkn;obtain⟨a,rfl,ea⟩:=h 0 v _ rfl (by rw[Nat.add_zero];exact hkn);cases rv1;obtain⟨ia,ra,pa,za⟩:=S.I.tuple (SqT.of (K:=X.K) ea);obtain⟨oa,eo,ca,n1,da⟩:=id pa;obtain⟨x,t,ia',rfl⟩:∃x t r,ia=.int x t::r:=by
      cases dN ra with
      |nil=>exact absurd rfl ne
      |cons x t r=>exact⟨x,t,_,rfl⟩
     obtain⟨fs,f1,f2,f3⟩:=ih _ (n+1) hv (by omega) (fun i w k' h1 h2=>h (i+1) w k' h1 (by rw[show n+(i+1)=n+1+i by omega];exact h2));refine⟨.int x t::fs,KatTups.cons eo ca da rfl f1,by rw[Zm,Zm,f2],fun v hv=>?_⟩;rcases Zl.mp hv with rfl|hv
     ·exact⟨_,_,rfl⟩
     ·exact f3 v hv
  obtain⟨fs,t1,t2,t3⟩:=tups as us 0 S.vals (by omega) (fun i v k h1 h2=>S.keys i v k h1 (by rw[Nat.zero_add]at h2;exact h2));refine kat_kind (T:=.type "int") t1 (by omega) (fun v hv=>?_) rfl (go _ fun i j C hi hj hC=>?_)
  ·obtain⟨i,t,rfl⟩:=t3 v hv;exact .now
  ·obtain⟨v,u,k1,ru,eu,m1,en,at1⟩:=gk i hi;obtain⟨v2,u2,k2,ru2,eu2,m2,en2,at2⟩:=gk j hj;obtain⟨n1,rfl,_⟩:=hB _ m1;obtain⟨n2,rfl,_⟩:=hB _ m2;obtain⟨a1,rfl,ha1⟩:=at1;obtain⟨a2,rfl,ha2⟩:=at2;cases ru;cases ru2;obtain⟨ia,ra,pa,za⟩:=S.I.tuple (SqT.of (K:=X.K) ha1);obtain⟨ib,rb,pb,zb⟩:=S.I.tuple (SqT.of (K:=X.K) ha2);obtain⟨oa,eoa,ca,q1,da⟩:=id pa;obtain⟨ob,eob,cb,q2,db⟩:=id pb;unfold kas_ask;rw[eu,eu2];rw[en,en2]at hC;exact kat_lt eoa da eob db (uy _ _ _ _ 0 (dN ra) (dN rb) (by rw[Zi,Zi,<-ra.length,<-rb.length,Zf,Zf]) hC)
end
open PySem PySem.Spec PyProof.Rows PySem.W
def Ii(j:Int)(t u v:Tok):Obj:={ cls:=.type "range",data:=.fields #[.int 0 t,.int j u,.int 1 v] }
def Eo(H:Hp)(l:Addr)(xs:List V):Prop:=H l=some (.lst xs)\/∃(n:Nat) (t u v:Tok),n<=4096/\H l=some (Ic l (Ii (n:Int) t u v))/\xs=(List.range n).map fun i:Nat=>V.int (i:Int)
section
variable{X:Cx}{pins:List (Addr×Obj)}{σ:St}{H:Hp}{s:Shared}
theorem DX{l:Addr}{xs:List V}(hc:X.calm=true)(I:Inv X pins σ H s)(h:Eo H l xs)(hz:xs.length<=4096):Ae X s l xs:=by
 rcases h with h|⟨n,t,u,v,hn,h,rfl⟩
 ·exact zw I h hz
 ·intro Q hq;have hr:IsRange s.heap l 0 (n:Int) 1 t u v:=(I.hok l _ h).1;have hh:X.A.in1.handled=none:=I.ok.hd hc;have h1:Builtin.Range.rangeSize 0 (n:Int) 1=((n:Nat):Int):=by rw[rangeSize_one];split<;>omega
  refine oP hh hr (small_one (by omega) (by omega) (by omega) (by omega)) h1 (by omega) fun h' tk acc kp hI=>hq h' tk acc.toList kp ?_;have go:∀(its:List Value) (k:Nat),(∀(i:Nat) (v:Value),its[i]?=some v->∃t,v=.int ((k+i:Nat):Int) t)->Vals ((List.range' k its.length).map fun i:Nat=>V.int (i:Int)) its:=by
   intro its;induction its with
   |nil=>intro k _;exact .nil
   |cons x its ih =>
    intro k hx;obtain⟨t,rfl⟩:=hx 0 x rfl;rw[Zm,List.range'_succ,Zw];refine .cons ⟨t,?_⟩ (ih (k+1) fun i v hv=>?_)
    ·rfl
    ·obtain⟨t,e⟩:=hx (i+1) v hv;exact⟨t,by rw[e];congr 2;omega⟩
  have e:=go acc.toList 0 fun i v hv=>by obtain⟨t,e⟩:=hI.2 i v (by rw[<-hv,Array.getElem?_toList]);refine⟨t,by rw[e];congr 1;omega⟩
  rw[Zz,hI.1]at e;rw[List.range_eq_range'];exact e
end
def GA(sp:Hp->List V->Hp->VK->Prop)(sm:Hp->Hp->Prop)(end':Hp->Prop)(H:Hp)(xs:List V)(ks:List ZKey)(Q:VK):Prop :=
 xs.length<=4096/\ks.length=xs.length/\xK ks /\
 (∀(i:Nat) (v:V) (key:ZKey) (H':Hp),xs[i]?=some v->ks[i]?=some key->sm H H'->∀R:VK,(∀kv H'',Same H' H''->key.at H'' kv->R kv H'')->sp H' [v] H' R) /\
 ∀(p:Array Nat) (H2:Hp) (D:Addr),POk xs.length p->LS (fun i j=>HT.lexLt ((ks.map ZKey.nums).getD i []) ((ks.map ZKey.nums).getD j [])) p xs.length->sm H H2->end' H2->H2 D=none->Q (.ref D) (upd H2 D (.lst (p.toList.map fun i=>xs.getD i .non)))
def D5(sp:Sp)(ta:TA):TE:=fun σ H0 Q=>ta σ H0 fun vs H=>∃(l:Addr) (xs:List V) (ks:List ZKey),vs=[.ref l]/\Eo H l xs/\GA (fun _ vs H Q=>sp vs H Q E0) Same (fun _=>True) H xs ks Q
section
variable{X:Cx}{c P:Addr}{pins:List (Addr×Obj)}{σ:St}
theorem Bp{k:Nat}{fx x:Str}{sp:Sp}{e:Expr}{ta:TA}{p fp kpos pos:Pos}(hc:X.calm=true)(hm:X.mg "sorted" = none)(F:Fn X.prog X.w X.K X.mg X.base k fx [x] sp)(hr:Room (k+2) X.A)(ha:QA X [e] ta)(hg:Gl X "sorted":=by rfl)(hgf:Gl X fx:=by rfl)(hn:aP e=true:=by rfl)(hdb:(fx==("__debug__":Str))=false:=by decide):QE X (.Call (.Name "sorted" p) [e] [⟨some "key",.Name fx fp,kpos⟩] pos) (D5 sp ta):=by refine⟨?_⟩;intro pins s σ H0 Q I h;obtain⟨f,fd,F1,m1,kp,bn⟩:=F.ex;refine wpAny_Call_Name_kw (hU I hg hm PyProof.Rows.boot_sorted ?_);have h1:=aY (es:=[]) (env:=X.env) hn;refine PyProof.Rows.callWith_kw (thn (ha.h pos pins s σ H0 _ I h) fun us s1 hz9=>?_) (he:=by rw[h1];rfl) (hplain:=by rw[h1];rfl) (hall:=rfl) (hkw:=rfl);obtain⟨vs,H1,I1,r1,q1⟩:=hz9;obtain⟨l,xs,ks,rfl,hH,hz,hl,hne,spec,q⟩:=q1;obtain⟨u,rfl,ru⟩:=fq r1;cases ru;have hk:PK X [⟨some "key",.Name fx fp,kpos⟩] (lP (tC (.ref f)) mX):=DB (pH hgf m1 rfl hdb) FJ;refine thn (hk pos pins s1 σ H1 (fun zs H2=>zs=[.ref f]/\H2=H1) I1 ⟨rfl,rfl⟩) fun ws s2 hz9=>?_;obtain⟨zs,H2,I2,rz,e1,h2e⟩:=hz9;subst e1 h2e;obtain⟨u,rfl,ru⟩:=fq rz;cases ru;exact uK (b:=false) I2 (DX hc I2 hH hz) hz hl hne (ksk_s1 _ _) (fun x=>ksk_l1 _ _) (fun x=>ksk_t1 f x) (DP F1 (fun s u kin=>bn s [u] kin rfl) (hr.mono (by omega) |>.in1 |>.in1)) spec fun p H3 D a1 a2 a3 a4=>q p H3 D a1 a2 a3 trivial a4
end
open PySem PySem.Spec PyProof.Rows PySem.W
open PySem PySem.Spec PyProof.Rows PySem.W
open PySem PySem.Spec PyProof.Rows PySem.W
section
variable{X:Cx}
theorem DO{o e f:Expr}{apos cpos:Pos}{td ty tx:TE}(hu:X.A.units+64<cLine)(ho:QE X o td)(he:QE X e ty)(hf:QE X f tx)(hs:aP e=true:=by rfl)(hs2:aP f=true:=by rfl)(hbase:attributeBase o "get" X.env (eval o X.env)=eval o X.env:=by rfl)(hline:(apos.endLine==cpos.line)=true:=by rfl):QE X (.Call (.Attribute o "get" apos) [e,f] [] cpos) (zD td ty tx):=by
 have h1:=aY (es:=[f]) (env:=X.env) hs;have h2:=aY (es:=[]) (env:=X.env) hs2;have h3:starEach ([]:List Expr) X.env=[]:=rfl;refine⟨Bc (by omega) ho.h he.h hf.h ⟨hbase,?_,hline,?_⟩⟩
 ·rw[h1,h2,h3];rfl
 ·rw[h1,h2,h3];rfl
end
end L2
set_option maxHeartbeats 4000000
namespace PySem
open Sem (wp)
section
variable{prog:Program}{w:World}{A:Around}{E:Value->Shared->Prop}{s:Shared}
theorem mV:isSubtype (.type "AttributeError") (.type "AttributeError")=pure true:=by rw[isSubtype_type];kernel_rfl
theorem xq{α:Type}{self:Value}{name msg:Str}{Q:α->Shared->Prop}(hm:msg.length<=sizeLine)(hh:A.handled=none)(hE:∀a h',(∃o,Heap.get? h' a=some o/\o.cls=.type "AttributeError")->(∀b o,s.heap.get? b=some o->h'.get? b=some o)->E (.ref a) { s with heap:=h',toks:=s.toks+1+1 }) :
  wpAny (model prog w) A (raiseAttrError self name msg) Q E s:=by
 unfold raiseAttrError;refine Za (wpAny_mkStr ?_ hm);refine Za ?_;simp only[newExc,newTuple];refine Za (Yg ?_ (by size_fits));refine Za (m:=firstArgMember _ _) (wpAny_of_eq (a:=Value.none) (by first|rfl|(simp only[firstArgMember];rfl)) ?_);refine Yg ?_ (by size_fits);refine Za (wpAny_mkText ?_);refine Za ?_;unfold noteAttr;dsimp only;refine Za ?_;unfold lacksNameAndObj;dsimp only;refine Za (wpAny_isInstance (T:="AttributeError") (b:=true) ⟨_,Zo _ rfl,rfl⟩ mV ?_);simp only[Bool.not_true,Bool.false_eq_true,if_false];refine Za (wpAny_load (Zo _ rfl) ?_);show wpAny _ _ (pure true) _ _ _;refine Zh ?_;simp only[if_true];refine Za (YC ?_);refine Za (wpAny_typeOf ⟨_,Zo _ rfl,rfl⟩ ?_);dsimp only;unfold layMembers;refine Za (wpAny_load (Zo _ rfl) ?_);dsimp only;refine wpAny_update (Zo _ rfl) ?_;unfold raiseNew;refine Za (wpAny_handled ?_);rw[hh];dsimp only;refine Za (Zh (wpAny_throw ?_));refine hE _ _ ⟨_,Yx _ (Zo _ rfl) rfl,rfl⟩ fun b o e=>?_;have e1:(s.heap.push { cls:=Value.type "tuple",data:=Data.seq #[Value.str msg s.toks] }).get? b=some o:=Zb _ e;exact(y8 _ _ (y9 (ZD (Zn e1)))).trans (Zb _ e1)
variable{a:Addr}{o:Obj}
theorem sP:typeLookup (.type "list") "keys" = pure none:=by rw[typeLookup_type,builtinLookup_eq_fast];kernel_rfl
theorem nJ:typeLookup (.type "list") "__getattr__" = pure none:=by rw[typeLookup_type,builtinLookup_eq_fast];kernel_rfl
def oF(s:Shared)(E:Value->Shared->Prop):Prop:=∀a h' t',(∃o,Heap.get? h' a=some o/\o.cls=.type "AttributeError")->(∀b o,s.heap.get? b=some o->h'.get? b=some o)->E (.ref a) { s with heap:=h',toks:=t' }
theorem sW{tk:Tok}{Q:Fin->Shared->Prop}(hx:s.heap.get? a=some o)(hc:o.cls=.type "list")(hdd:o.dict=none){its:Array Value}{n:Nat}(hdat:o.data=.seq its n)(hh:A.handled=none)(hE:oF s E) :
  wpAny (model prog w) A (Builtin.«object.__getattribute__» ⟨[.ref a,.str "keys" tk],[]⟩) Q E s:=by
 obtain⟨h,g,d,t,os⟩:=s;have hT:(⟨h,g,d,t,os⟩:Shared).TypeIs (.ref a) "list":=⟨_,hx,hc⟩
 have f4:=sP
 repeat(any_goals(first|assumption|wp_step))
 rw[hdat];dsimp only;unfold instanceDict
 repeat(any_goals(first|assumption|wp_step))
 rw[hc,hdd];dsimp only;rw[if_pos (by rfl)]
 repeat(any_goals(first|assumption|wp_step))
 refine xq (by decide +kernel) hh fun a h' ho hk=>hE a h' _ ho hk
theorem uC{tk:Tok}{R:Result->Shared->Prop}(hx:s.heap.get? a=some o)(hc:o.cls=.type "list")(hdd:o.dict=none){its:Array Value}{n:Nat}(hdat:o.data=.seq its n)(hh:A.handled=none)(hE:oF s fun e s'=>R (.error e) s') :
  codeAny (model prog w) A (.call (.builtin "list.__getattribute__") ⟨[.ref a,.str "keys" tk],[]⟩) R s:=by
 refine codeAny_call_builtin F.slot_list_getattribute.plain F.entry_list_ga (F.slot_list_getattribute.check _ _ _ _ _ _ _ _ (show s.TypeIs (.ref a) "list" from⟨_,hx,hc⟩) (F.args_list_getattribute_2 _ _) (sW hx hc hdd hdat ?_ hE));exact hh
theorem yC{tk:Tok}{Q:Value->Shared->Prop}(hx:s.heap.get? a=some o)(hc:o.cls=.type "list")(hdd:o.dict=none){its:Array Value}{n:Nat}(hdat:o.data=.seq its n)(hh:A.handled=none)(hE:oF s E) :
  wpAny (model prog w) A (getAttrBy (.ref a) (.str "keys" tk) false) Q E s:=by
 have hT:s.TypeIs (.ref a) "list":=⟨_,hx,hc⟩
 have f2:=F.slot_list_getattribute.lookup;have f3:=F.slot_list_getattribute.bind (.ref a);unfold getAttrBy;refine Z3 (Za (wpAny_typeOf hT (Za (wpAny_of_eq f2 ?_))));show wpAny _ _ (getAttrByItsOwn _ _ _ _ _ _) _ _ _;unfold getAttrByItsOwn;refine Za ?_;show wpAny _ _ (pure none) _ _ _;refine Zh (Za (wpAny_attempt (Z3 ?_)));show wpAny _ _ (boundAndCalled _ _ _) _ _ _;unfold boundAndCalled;refine Za (wpAny_of_eq f3 ?_);refine wpAny_call (uC hx hc hdd hdat hh ?_);rintro a' h' t' ⟨o',e1,e2⟩ hk;show wpAny _ _ (getattributeRaised _ _ _ _ _ _ _) _ _ _;unfold getattributeRaised;refine Za (wpAny_isInstance (T:="AttributeError") (b:=true) ⟨_,e1,e2⟩ mV ?_);rw[if_pos rfl];refine Za ?_;show wpAny _ _ (typeLookup (.type "list") "__getattr__") _ _ _;refine wpAny_of_eq nJ ?_;show wpAny _ _ (throw _) _ _ _;exact wpAny_throw (hE a' h' t' ⟨o',e1,e2⟩ hk)
theorem E2{Q:Option Value->Shared->Prop}(hx:s.heap.get? a=some o)(hc:o.cls=.type "list")(hdd:o.dict=none){its:Array Value}{n:Nat}(hdat:o.data=.seq its n)(hh:A.handled=none)(hQ:∀h' t',(∀b o,s.heap.get? b=some o->h'.get? b=some o)->Q none { s with heap:=h',toks:=t' }):wpAny (model prog w) A (getAttr? (.ref a) "keys") Q E s:=by unfold getAttr? getAttrBy?;refine Za (wpAny_mkText (Za (wpAny_attempt (yC (s:={ s with toks:=s.toks+1 }) hx hc hdd hdat hh ?_))));rintro a' h' t' ⟨o',e1,e2⟩ hk;dsimp only;refine Za (wpAny_isInstance (T:="AttributeError") (b:=true) ⟨_,e1,e2⟩ mV ?_);rw[if_pos rfl];exact Zh (hQ h' t' hk)
end
section
variable{prog:Program}{w:World}{K:Type}[DecidableEq K]{knd:KeyKind prog w K}
theorem iI:entryFor table "dict.update.loop" = some Builtin.«dict.update.loop»:=entryFor_of_tree (by kernel_rfl)
theorem dB:plainId "dict.update.loop" = true:=by decide +kernel
structure PairAt(knd:KeyKind prog w K)(h:Heap)(p:Addr×List K×Addr×Value):Prop where
 tup:∃o n,h.get? p.1=some o/\o.cls=.type "tuple"/\o.data=.seq #[.ref p.2.2.1,p.2.2.2] n
 key:IsTupleKey knd h p.2.1 p.2.2.1
theorem PairAt.keeps{h h':Heap}{p:Addr×List K×Addr×Value}(x:PairAt knd h p){B:List Addr}(hB:∀b∈B,∃o,h.get? b=some o/\o.cls≠.type "tuple")(hk:∀b o,¬b∈B->h.get? b=some o->h'.get? b=some o):PairAt knd h' p:=by
 obtain⟨⟨o,n,e1,e2,e3⟩,o',its,n',f1,f2,f3,f4⟩:=x;refine⟨⟨o,n,hk _ _ (fun z=>?_) e1,e2,e3⟩,o',its,n',hk _ _ (fun z=>?_) f1,f2,f3,f4⟩
 ·obtain⟨q,q1,q2⟩:=hB _ z;rw[e1]at q1;cases q1;exact q2 e2
 ·obtain⟨q,q1,q2⟩:=hB _ z;rw[f1]at q1;cases q1;exact q2 f2
theorem uL(xs:List (List K×Addr×Value))(k:List K)(a:Addr)(v:Value):(storedH xs k a v).length<=xs.length+1:=by
 unfold storedH;split
 ·rw[Zf];omega
 ·rw[Zk];exact Ze _
def oq(xs:List (List K×Addr×Value))(ps:List (Addr×List K×Addr×Value)):List (List K×Addr×Value):=ps.foldl (fun xs p=>storedH xs p.2.1 p.2.2.1 p.2.2.2) xs
variable{A:Around}{R:Result->Shared->Prop}
theorem yc{d it l:Addr}{items:Array Value}{ps:List (Addr×List K×Addr×Value)}(hps:items.toList=ps.map fun p=>Value.ref p.1)(hu:(tupleKind knd).room A.in1)(hh:A.in1.handled=none)(res:Value)(nl:l≠it)(nld:l≠d)(ndi:d≠it) :
  ∀(k i:Nat) (s:Shared) (xs:List (List K×Addr×Value)),ps.length-i=k->i<=ps.length->s.heap.IsListIter it l i->s.heap.IsList l items->s.heap.DictOfH (tupleKind knd) d xs->(∀p∈ps,PairAt knd s.heap p)->xs.length+k<=sizeLine ->
  (∀h' t',h'.DictOfH (tupleKind knd) d (oq xs (ps.drop i))->(∀b o,b≠d->b≠it->s.heap.get? b=some o->h'.get? b=some o)->R (.ok (.ret res)) { s with heap:=h',toks:=t' }) ->
  codeAny (model prog w) A (.builtin "dict.update.loop" ⟨[.ref d,.ref it,rawInt i,res],[]⟩) R s:=by
 intro k;have hsz:items.size=ps.length:=by rw[<-Zz,hps,Zf]
 induction k with
 |zero =>
  intro i s xs hk hi hit hl hd hp hz hR;have hin:i=ps.length:=by omega
  subst hin;refine codeAny_builtin iI ?_;rw[Around.under_plainId dB _];show wpAny _ A.in1 (pyNext (.ref it) >>= _) _ _ s;refine Za (wpAny_pyNext_list_end hh hit hl (by rw[<-hsz];simp) fun h' he=>?_);show wpAny _ _ (Builtin.Dict.addKeywords d [] >>= _) _ _ _;refine Za (Zh (Zh ?_));obtain⟨o,es,ep,q1,q2,q3,q4,q5,q6⟩:=hd;refine hR h' s.toks ⟨o,es,ep,he _ _ ndi q1,q2,q3,?_,fun x hx=>?_,?_⟩ fun b o _ hb e=>he b o hb e
  ·rw[List.drop_length];exact q4
  ·rw[List.drop_length]at hx;obtain⟨o',its',n',f1,f2,f3,f4⟩:=q5 x hx;obtain⟨oi,i1,i2,i3⟩:=hit;exact⟨o',its',n',he _ _ (fun z=>by rw[z,i1]at f1;cases f1;rw[i2]at f2;exact absurd f2 (by decide)) f1,f2,f3,f4⟩
  ·rw[List.drop_length];exact q6
 |succ k ih =>
  intro i s xs hk hi hit hl hd hp hz hR;have hlt:i<ps.length:=by omega
  have hx:items[i]?=some (.ref ps[i].1):=by rw[<-Array.getElem?_toList,hps,ZA,Zd hlt];rfl
  refine codeAny_builtin iI ?_;rw[Around.under_plainId dB _];show wpAny _ A.in1 (pyNext (.ref it) >>= _) _ _ s;refine Za (wpAny_pyNext_list_item hit hl hx fun h1 hit1 hs1=>?_);have hitc:∃o,s.heap.get? it=some o/\o.cls≠.type "tuple":=by obtain⟨oi,i1,i2,i3⟩:=hit;exact⟨oi,i1,by rw[i2];decide⟩
  have hp1:∀p∈ps,PairAt knd h1 p:=fun p hm=>(hp p hm).keeps (B:=[it]) (fun b hb=>by rw[Zs.mp hb];exact hitc) fun b o hb e=>hs1.extBut b o (fun z=>hb (Zs.mpr z)) e;have hl1:h1.IsList l items:=hl.extBut hs1.extBut nl;have hd1:h1.DictOfH (tupleKind knd) d xs:=by obtain⟨o,es,ep,q1,q2,q3,q4,q5,q6⟩:=hd;refine⟨o,es,ep,hs1.extBut _ _ ndi q1,q2,q3,q4,fun x hx=>?_,q6⟩;obtain⟨o',its',n',f1,f2,f3,f4⟩:=q5 x hx;obtain⟨oi,i1,i2⟩:=hitc;exact⟨o',its',n',hs1.extBut _ _ (fun z=>by rw[z,i1]at f1;cases f1;exact i2 f2) f1,f2,f3,f4⟩
  obtain⟨⟨ot,nt,t1,t2,t3⟩,hkey⟩:=hp1 ps[i] (Zy hlt);have hT:Shared.TypeIs { s with heap:=h1 } (.ref ps[i].1) "tuple":=⟨ot,t1,t2⟩
  dsimp only;refine Za (Z3 ?_);refine Za (wpAny_tryCatch ?_);unfold Builtin.Dict.pairItems;refine Za (wpAny_typeOf hT ?_);rw[if_pos (by decide)];refine Za (Y2 t1 t3 (Zh ?_));show wpAny _ _ (holding [.ref ps[i].2.2.1,ps[i].2.2.2] (dictSet d (.ref ps[i].2.2.1) ps[i].2.2.2)) _ _ _;refine Z3 (wpAny_dictSet_heap (s:={ s with heap:=h1 }) (hsz:=by omega) hu hkey hd1 fun h2 hd2 hs2=>?_);have hdc:∃o,h1.get? d=some o/\o.cls≠.type "tuple":=by obtain⟨o,es,ep,q1,q2,_⟩:=hd1;exact⟨o,q1,by rw[q2.1];decide⟩
  have hit2:h2.IsListIter it l (i+1):=by obtain⟨oi,i1,i2,i3⟩:=hit1;exact⟨oi,hs2.extBut _ _ (y9 ndi) i1,i2,i3⟩
  have hp2:∀p∈ps,PairAt knd h2 p:=fun p hm=>(hp1 p hm).keeps (B:=[d]) (fun b hb=>by rw[Zs.mp hb];exact hdc) fun b o hb e=>hs2.extBut b o (fun z=>hb (Zs.mpr z)) e;refine Zh ⟨plainId_quiet dB _,?_⟩;have:=uL xs ps[i].2.1 ps[i].2.2.1 ps[i].2.2.2;refine ih (i+1) { s with heap:=h2,toks:=s.toks+(tupleKind knd).draws ps[i].2.1 } _ (by omega) (by omega) hit2 (hl1.extBut hs2.extBut nld) hd2 hp2 (by omega) fun h' t' hd' hk'=>?_;refine hR h' t' ?_ fun b o hb1 hb2 e=>hk' b o hb1 hb2 (hs2.extBut b o hb1 (hs1.extBut b o hb2 e));rw[Yw hlt];exact hd'
end
section
variable{prog:Program}{w:World}{K:Type}[DecidableEq K]{knd:KeyKind prog w K}{A:Around}{E:Value->Shared->Prop}{s:Shared}
theorem nj{l:Addr}{o:Obj}{items:Array Value}{n:Nat}{ps:List (Addr×List K×Addr×Value)}{Q:Value->Shared->Prop}(hx:s.heap.get? l=some o)(hc:o.cls=.type "list")(hdd:o.dict=none)(hdat:o.data=.seq items n)(hps:items.toList=ps.map fun p=>Value.ref p.1)(hp:∀p∈ps,PairAt knd s.heap p)(hsz:ps.length<=sizeLine)(hu:A.units+5<cLine)(hh:A.handled=none)(h:∀h' t',h'.DictOfH (tupleKind knd) s.heap.objs.size (oq [] ps)->(∀b o,s.heap.get? b=some o->h'.get? b=some o)->Q (.ref s.heap.objs.size) { s with heap:=h',toks:=t' }) :
  wpAny (model prog w) A (call (.type "dict") [.ref l]) Q E s:=by
 refine callType_codes (Q₁:=fun obj s₁=>obj=.ref s.heap.objs.size/\s₁={ s with heap:=s.heap.push { cls:=.type "dict",data:=.dict #[] } }) F.kt_called_dict (F.kt_typeCall_dict_1 _) F.entry_dict_init (kt_code_dict_new _ ⟨rfl,rfl⟩) ?_;rintro obj s₁ ⟨rfl,rfl⟩;have hnew:(s.heap.push { cls:=.type "dict",data:=.dict #[] }).DictOfH (tupleKind knd) s.heap.objs.size []:=Heap.DictOfH.new s.heap;refine⟨hnew.typeIs,F.args_dict_init_2 _ _,?_⟩;unfold Builtin.«dict.__init__»;refine Za ?_;unfold Builtin.Dict.selfAndRest;refine Za (wpAny_notOrdered_dict hnew.typeIs ?_);show wpAny _ _ (pure (s.heap.objs.size,[Value.ref l])) _ _ _;refine Zh ?_;show wpAny _ _ (Builtin.Dict.updateFrom "dict.__init__" s.heap.objs.size (.ref l) [] .none) _ _ _;have hx1:(s.heap.push { cls:=.type "dict",data:=.dict #[] }).get? l=some o:=Zb _ hx;unfold Builtin.Dict.updateFrom;refine Za (wpAny_typeOf (T:="list") ⟨o,hx1,hc⟩ ?_);rw[if_pos (by decide)];refine Za (E2 (s:={ s with heap:=s.heap.push { cls:=.type "dict",data:=.dict #[] } }) hx1 hc hdd hdat hh fun h2 t2 hk2=>?_);rw[if_pos (show(none:Option Value).isNone=true from rfl)];refine Za (YC ?_);have hx2:h2.get? l=some o:=hk2 _ _ hx1;have hl2:h2.IsList l items:=⟨o,hx2,hc,n,hdat⟩
 obtain⟨od,es,ep,d1,d2,d3,d4,d5,d6⟩:=hnew;have k02:∀b q,s.heap.get? b=some q->h2.get? b=some q:=fun b q e=>hk2 _ _ (Zb _ e);have hd2:h2.DictOfH (tupleKind knd) s.heap.objs.size []:=⟨od,es,ep,hk2 _ _ d1,d2,d3,d4,fun x hx=>(nomatch hx),d6⟩
 refine Za (wpAny_pyIter_list (s:={ s with heap:=h2,toks:=t2 }) hl2 ?_);have hp3:∀p∈ps,PairAt knd (h2.push { cls:=.type "list_iterator",data:=.fields #[.ref l,.int 0 0] }) p:=fun p hm=>(hp p hm).keeps (B:=[]) (fun b hb=>(nomatch hb)) fun b q _ e=>Zb _ (k02 _ _ e);obtain⟨od',es',ep',d1',d2',d3',d4',_,d6'⟩:=id hd2;have hd3:(h2.push { cls:=.type "list_iterator",data:=.fields #[.ref l,.int 0 0] }).DictOfH (tupleKind knd) s.heap.objs.size []:=⟨od',es',ep',Zb _ d1',d2',d3',d4',fun x hx=>(nomatch hx),d6'⟩
 have nsz:∀{b q},h2.get? b=some q->b≠h2.objs.size:=fun e=>ZD (Zn e);have nld:l≠s.heap.objs.size:=ZD (Zn hx);refine Zh ⟨plainId_quiet dB _,yc (A:=A.in1) (knd:=knd) (ps:=ps) hps (by show A.units+1+1<cLine;omega) hh .none (nsz hx2) nld (nsz d1') ps.length 0 { s with heap:=h2.push { cls:=.type "list_iterator",data:=.fields #[.ref l,.int 0 0] },toks:=t2 } [] (Nat.sub_zero _) (y0 _) ⟨_,Zo _ rfl,rfl,rfl⟩ ⟨o,Zb _ hx2,hc,n,hdat⟩ hd3 hp3 (by show 0+ps.length<=sizeLine;omega) fun h' t' hd' hk'=>⟨rfl,?_⟩⟩;refine h h' t' hd' fun b q e=>hk' b q (ZD (Zn e)) (nsz (k02 _ _ e)) (Zb _ (k02 _ _ e))
end
end PySem
namespace L2
open PySem PySem.Spec PyProof.Rows PySem.W
def bh(kvs:List (List Key×V))(ps:List (List Key×V)):List (List Key×V):=ps.foldl (fun kvs p=>aK kvs p.1 p.2) kvs
def rW(H:Hp)(v:V)(p:List Key×V):Prop:=∃t a,v=.ref t/\H t=some (.tup [.ref a,p.2])/\H a=some (.tup (p.1.map kV))
theorem Bm{H:Hp}:∀{qs:List (List Key×V)} {ps:List (Addr×List Key×Addr×Value)} {kvs:List (List Key×V)} {xs:List (List Key×Addr×Value)},KT H kvs xs->Paired (fun q (p:Addr×List Key×Addr×Value)=>q.1=p.2.1/\H p.2.2.1=some (.tup (q.1.map kV))/\RelV q.2 p.2.2.2) qs ps->KT H (bh kvs qs) (oq xs ps):=by
 intro qs ps kvs xs r h;induction h generalizing kvs xs with
 |nil=>exact r
 |@cons q p _ _ z _ ih =>show KT H (bh (aK kvs q.1 q.2) _) (oq (storedH xs p.2.1 p.2.2.1 p.2.2.2) _);refine ih ?_;rw[<-z.1];exact r.put q.1 z.2.1 z.2.2
theorem yW(ps:List (List Key×V)):∀kvs:List (List Key×V),(bh kvs ps).length<=kvs.length+ps.length:=by
 induction ps with
 |nil=>intro kvs;exact Ze _
 |cons p ps ih =>intro kvs;have h1:=ih (aK kvs p.1 p.2);have h2:=iO kvs p.1 p.2;show(bh (aK kvs p.1 p.2) ps).length<=_;rw[Zm];omega
section
variable{X:Cx}
theorem wC(hc:X.calm=true)(hu:X.A.units+64<cLine):eO X (.type "dict") (fun xs H Q=>∃l vs qs,xs=[.ref l]/\H l=some (.lst vs)/\Paired (rW H) vs qs/\vs.length<=1000/\∀d,H d=none->Q (.ref d) (upd H d (.dT (bh [] qs)))):=by
 intro pins s σ H xs us Q I r h;obtain⟨l,vs,qs,rfl,hl,hq,lv,q⟩:=h;obtain⟨u,rfl,rx⟩:=fq r;cases rx;obtain⟨its,rv,⟨o,n',e,c1,c2,d1⟩,hz⟩:=I.list (SqL.of hl);have gen:∀{vs:List V} {its:List Value} {qs:List (List Key×V)},Paired (rW H) vs qs->Vals vs its->∃ps:List (Addr×List Key×Addr×Value),its=ps.map (fun p=>Value.ref p.1)/\(∀p∈ps,PairAt (bw X.prog X.w) s.heap p)/\ps.length=qs.length/\Paired (fun q (p:Addr×List Key×Addr×Value)=>q.1=p.2.1/\H p.2.2.1=some (.tup (q.1.map kV))/\RelV q.2 p.2.2.2) qs ps:=by
  intro vs its qs hp rv;induction hp generalizing its with
  |nil=>cases rv;exact⟨[],rfl,fun p hp=>(nomatch hp),rfl,.nil⟩
  |@cons v p _ _ hv _ ih =>
   cases rv with
   |@cons _ u _ us ru rr =>
   obtain⟨ps,i1,i2,i3,i4⟩:=ih rr;obtain⟨t,a,rfl,e1,e2⟩:=hv;cases(show u=Value.ref t from ru);obtain⟨_,its2,r2,o2,g1,g2,n2,g3⟩:=(show ObjOk X.prog X.w H s.heap t (.tup [.ref a,p.2])from I.hok t _ e1)
   cases r2 with
   |cons ra r2 =>
    cases r2 with
    |cons rb r2 =>
     cases r2;cases(show _=Value.ref a from ra);rename_i wv;refine⟨(t,p.1,a,wv)::ps,by rw[i1];rfl,fun x hx=>?_,by rw[Zm,Zm,i3],.cons ⟨rfl,e2,rb⟩ i4⟩;rcases Zl.mp hx with rfl|hx
     ·exact⟨⟨o2,n2,g1,g2,g3⟩,hJ I.hok e2⟩
     ·exact i2 x hx
 obtain⟨ps,p1,p2,p3,p4⟩:=gen hq rv;have lq:=ZV hq;refine nj (knd:=bw X.prog X.w) (ps:=ps) e c1 c2 d1 (by simpa using p1) p2 (by rw[p3,<-lq];exact ZI lv (by decide)) (by omega) (I.ok.hd hc) fun h' t' hd hk=>?_;have hz0:=yW qs [];have hnew:H s.heap.objs.size=none:=I.hok.fresh (Ze _);obtain⟨q0,es,ep,hq0,h2,h3,h4,_,h5⟩:=hd;have kt:KT (upd H s.heap.objs.size (.dT (bh [] qs))) (bh [] qs) (oq [] ps):=(Bm (H:=H) .nil p4).keeps fun b ys eb=>by rw[ah (au eb hnew)];exact eb
 refine⟨.ref s.heap.objs.size,_,I.laid (a:=s.heap.objs.size) (o:=.dT (bh [] qs)) (t':=t') hk (Ze _) (show ObjOk X.prog X.w _ h' _ (.dT (bh [] qs))from⟨ZI hz0 (by rw[<-lq];show 0+vs.length<=sizeLine;exact ZI (by omega) (show 1000<=sizeLine by decide)),?_,_,kt,q0,es,ep,hq0,h2,h3,h4,h5⟩),rfl,q _ hnew⟩;have:=I.big;exact YZ.mpr (Z9 this)
theorem uS(hc:X.calm=true)(hu:X.A.units+64<cLine):QCall X (.type "dict") (fun xs H Q=>∃l vs qs,xs=[.ref l]/\H l=some (.lst vs)/\Paired (rW H) vs qs/\vs.length<=1000/\∀d,H d=none->Q (.ref d) (upd H d (.dT (bh [] qs)))):=⟨wC hc hu⟩
end
open PySem PySem.Spec PyProof.Rows PySem.W
end L2
set_option maxRecDepth 100000
set_option maxHeartbeats 4000000
namespace K38
open PySem L2
open PyProof.Rows (envOfC)
def top(i:Nat):Stmt:=PySem.Challenge.pw_limb_k38_kept_and_off.main.body.getD i (.Pass ⟨0,0,0,0⟩)
def tw(l:List Str):TV:=.tup (l.map V.str)
theorem cxK{CX:CXT}{N:List Str}{qual:Str}{scope:Scope}{f:Addr}{cd:Value}{A:Around}{outer:List Env}{s:Shared}{H:Hp}{E:XK}:(fZ CX P w K mg base N qual scope f cd A outer s H E).nox.K=K:=rfl
theorem vix{K:PySem.W.Frag}{i:Nat}{n:Int}{σ:St}{H:Hp}{Q:VK}{a:Addr}{xs:List V}{v:V}(hv:σ[i]?=some (some (.ref a)))(hs:SqT K H a xs)(ha:atI xs n=some v)(q:Q v H):tOp (pK K) (xC i) (tC (.int n)) σ H Q:=⟨_,hv,a,_,_,_,rfl,rfl,hs,ha,q⟩
theorem de{K:PySem.W.Frag}{i:Nat}{n m:Int}{σ:St}{H:Hp}{Q:VK}{a b:Addr}{xs ys:List V}{v:V}(hv:σ[i]?=some (some (.ref a)))(hs:SqT K H a xs)(ha:atI xs n=some (.ref b))(ht:SqT K H b ys)(hb:atI ys m=some v)(q:Q v H):tOp (pK K) (tOp (pK K) (xC i) (tC (.int n))) (tC (.int m)) σ H Q:=⟨_,hv,a,_,_,_,rfl,rfl,hs,ha,b,_,_,_,rfl,rfl,ht,hb,q⟩
theorem fR{K:PySem.W.Frag}{a:Addr}{xs:List V}{g:TG}{tb:L2.TS}{D:Ends}{σ:St}{H:Hp}(Pv:Nat->St->Hp->Prop)(h0:Pv 0 σ H)(hl:∀i σ H,i<=xs.length->Pv i σ H->SqL K H a xs)(hs:∀i x σ H,xs[i]?=some x->Pv i σ H->∀D':Ends,(∀σ' H',Pv (i+1) σ' H'->D'.nx σ' H')->g x σ H fun σ2 H2=>tb D' σ2 H2)(hd:∀σ H,Pv xs.length σ H->D.nx σ H) :
  ∃W:Nat->Nat->St->Hp->Prop,(∃m,W 0 m σ H)/\∀i m σ H,W i m σ H ->
   ((Itl K a).stop i H/\D.nx σ H)\/((Itl K a).go i H/\∃N:St->Hp->Prop,(∀σ' H',N σ' H'->∃m',m'<m/\W (i+1) m' σ' H')/\∀x H',(Itl K a).yld i H x H'->g x σ H' fun σ2 H2=>tb { D with nx:=N,ct:=N,bk:=D.nx } σ2 H2) :=
 jD Pv h0 hl (fun i x σ H a b=>hs i x σ H a b _ fun _ _ z=>z) hd
theorem qw{K:PySem.W.Frag}{a:Addr}{xs:List V}{j:Nat}{tb:L2.TS}{D:Ends}{σ:St}{H:Hp}(Pv:Nat->St->Hp->Prop)(h0:Pv 0 σ H)(hl:∀i σ H,i<=xs.length->Pv i σ H->SqL K H a xs)(hs:∀i x σ H,xs[i]?=some x->Pv i σ H->∀D':Ends,(∀σ' H',Pv (i+1) σ' H'->D'.nx σ' H')->tb D' (σ.set j (some x)) H)(hd:∀σ H,Pv xs.length σ H->D.nx σ H) :
  ∃W:Nat->Nat->St->Hp->Prop,(∃m,W 0 m σ H)/\∀i m σ H,W i m σ H ->
   ((Itl K a).stop i H/\D.nx σ H)\/((Itl K a).go i H/\∃N:St->Hp->Prop,(∀σ' H',N σ' H'->∃m',m'<m/\W (i+1) m' σ' H')/\∀x H',(Itl K a).yld i H x H'->cL j x σ H' fun σ2 H2=>tb { D with nx:=N,ct:=N,bk:=D.nx } σ2 H2) :=
 fR Pv h0 hl hs hd
theorem wI{lo:Int}{n:Nat}{g:TG}{tb:L2.TS}{D:Ends}{σ:St}{H:Hp}(Pv:Nat->St->Hp->Prop)(h0:Pv 0 σ H)(hs:∀i σ H,i<n->Pv i σ H->∀D':Ends,(∀σ' H',Pv (i+1) σ' H'->D'.nx σ' H')->g (.int (lo+i)) σ H fun σ2 H2=>tb D' σ2 H2)(hd:∀σ H,Pv n σ H->D.nx σ H) :
  ∃W:Nat->Nat->St->Hp->Prop,(∃m,W 0 m σ H)/\∀i m σ H,W i m σ H ->
   ((Itr lo n).stop i H/\D.nx σ H)\/((Itr lo n).go i H/\∃N:St->Hp->Prop,(∀σ' H',N σ' H'->∃m',m'<m/\W (i+1) m' σ' H')/\∀x H',(Itr lo n).yld i H x H'->g x σ H' fun σ2 H2=>tb { D with nx:=N,ct:=N,bk:=D.nx } σ2 H2) :=
 yg Pv h0 (fun i σ H a b=>hs i σ H a b _ fun _ _ z=>z) hd
theorem gZ{A:(St->Hp->Prop)->Prop}{B:St->Hp->Prop}(J:St->Hp->Prop)(h1:∀R:St->Hp->Prop,(∀σ H,J σ H->R σ H)->A R)(h2:∀σ H,J σ H->B σ H):∃R,A R/\∀σ H,R σ H->B σ H:=⟨J,h1 J fun _ _ z=>z,h2⟩
theorem aC{t u:L2.TS}{D:Ends}{σ:St}{H:Hp}(h:∀R:Ends,(∀σ' H',u D σ' H'->R.nx σ' H')->t R σ H):xA t u D σ H:=h { D with nx:=u D } fun _ _ z=>z
theorem qv{K:PySem.W.Frag}{a:Addr}{xs:List V}{i j:Nat}{tb:L2.TS}{D:Ends}{σ:St}{H:Hp}(Pv:Nat->St->Hp->Prop)(h0:Pv 0 σ H)(ha:∀i σ H,i<=xs.length->Pv i σ H->SqL K H a xs)(hs:∀k x σ H,xs[k]?=some x->Pv k σ H->∀D':Ends,(∀σ' H',Pv (k+1) σ' H'->D'.nx σ' H')->∀T,H T=none->tb D' ((σ.set i (some (.int k))).set j (some x)) (upd H T (.tup [.int k,x])))(hd:∀σ H,Pv xs.length σ H->D.nx σ H) :
  ∃W:Nat->Nat->St->Hp->Prop,(∃m,W 0 m σ H)/\∀k m σ H,W k m σ H ->
   ((Ite K a xs).stop k H/\D.nx σ H)\/((Ite K a xs).go k H/\∃N:St->Hp->Prop,(∀σ' H',N σ' H'->∃m',m'<m/\W (k+1) m' σ' H')/\∀x H',(Ite K a xs).yld k H x H'->mI K 2 (fM (cL i) (fM (cL j) mH)) x σ H' fun σ2 H2=>tb { D with nx:=N,ct:=N,bk:=D.nx } σ2 H2) :=
 Av Pv h0 ha (fun k x σ H a b T c=>hs k x σ H a b _ (fun _ _ z=>z) T c) hd
def ST:List (Str×TV):=[("put",tw ["new","up","place","text"]),("move",tw ["item","up","place"]),("write",tw ["item","text"]),("mark",tw ["item","truth"]),("due",tw ["item","whom"]),("fold",tw ["item","truth"]),("part",tw ["item","at","new","place"]),("join",tw ["item","item"]),("gone",tw ["item"])]
def FC:List (Str×TV):=[("move",.flat (.int 0)),("write",.flat (.int 2)),("mark",.flat (.int 3)),("due",.flat (.int 4)),("fold",.flat (.int 5))]
theorem at0{x:V}{r:List V}:atI (x::r) 0=some x:=eM (xs:=x::r) (j:=0) rfl
theorem at1{x y:V}{r:List V}:atI (x::y::r) 1=some y:=eM (xs:=x::y::r) (j:=1) rfl
theorem at2{x y z:V}{r:List V}:atI (x::y::z::r) 2=some z:=eM (xs:=x::y::z::r) (j:=2) rfl
theorem at3{x y z u:V}{r:List V}:atI (x::y::z::u::r) 3=some u:=eM (xs:=x::y::z::u::r) (j:=3) rfl
theorem at4{x y z u v:V}{r:List V}:atI (x::y::z::u::v::r) 4=some v:=eM (xs:=x::y::z::u::v::r) (j:=4) rfl
theorem Hb:¬(("held":Str)="away"):=by decide +kernel
def oV(h a:Addr):List (Str×V):=dw "away" (.ref a) (dw "held" (.ref h) [])
theorem dF(h a:Addr):(oV h a).lookup ("held":Str)=some (.ref h):=by unfold oV;rw[dq,if_neg Hb,dq,if_pos rfl]
theorem CY(h a:Addr){m:Str}(h1:¬m="away")(h2:¬m="held"):(oV h a).lookup m=none:=by
 unfold oV;rw[dq,if_neg h1,dq,if_neg h2]
 all_goals rfl
structure PlainAt(C:Addr)(H:Hp)(p d g:Addr)(kvs gvs:List (List Key×V)):Prop where
 ob:∃dx,H p=some (.ins C dx (oV d g))
 dc:H d=some (.dT kvs)
 gc:H g=some (.dT gvs)
 ne:d≠g
theorem PlainAt.same{C:Addr}{H H':Hp}{p d g:Addr}{kvs gvs:List (List Key×V)}(x:PlainAt C H p d g kvs gvs)(s:Same H H'):PlainAt C H' p d g kvs gvs:=by obtain⟨⟨dx,h1⟩,h2,h3,h4⟩:=x;exact⟨⟨dx,s _ _ h1⟩,s _ _ h2,s _ _ h3,h4⟩
theorem PlainAt.put{C:Addr}{H:Hp}{p d g:Addr}{kvs gvs kvs':List (List Key×V)}(x:PlainAt C H p d g kvs gvs):PlainAt C (upd H d (.dT kvs')) p d g kvs' gvs:=by obtain⟨⟨dx,h1⟩,h2,h3,h4⟩:=x;exact⟨⟨dx,by rw[ah (cM h1 h2 (by intro z;cases z))];exact h1⟩,ae,by rw[ah (y9 h4)];exact h3,h4⟩
def But(d:Addr)(H H':Hp):Prop:=∀b o,H b=some o->b≠d->H' b=some o
def NameIs(H:Hp)(v:V)(k:List Key):Prop:=∃b,v=.ref b/\H b=some (.tup (k.map kV))
theorem NameIs.same{H H':Hp}{v:V}{k:List Key}(x:NameIs H v k)(s:Same H H'):NameIs H' v k:=by obtain⟨b,h1,h2⟩:=x;exact⟨b,h1,s _ _ h2⟩
def vO(K:PySem.W.Frag):Sp:=fun vs H Q _=>∃(k:Str) (ws:List Str),vs=[.str k]/\PyProof.Rows.KTD.datumAt k ST=some (tw ws)/\∀t,(∀H',SqT K H' t (ws.map V.str))->Q (.ref t) H
def tV(C:Addr):Sp:=fun vs H Q _=>∃(p dx:Addr),vs=[.ref p]/\H p=some (.ins C dx [])/\∀(d g:Addr) (H':Hp),H d=none->H g=none->PlainAt C H' p d g [] []->(∀b o,H b=some o->b≠p->H' b=some o)->Q .non H'
def vJ(C:Addr):Sp:=fun vs H Q _=>∃(p d g:Addr) (kvs gvs:List (List Key×V)) (nm up pl tx:V) (k:List Key),vs=[.ref p,nm,up,pl,tx]/\PlainAt C H p d g kvs gvs/\NameIs H nm k/\kvs.length<=500 /\
 ∀(t:Addr) (H':Hp),Same H H'->H' t=some (.tup [up,pl,tx,.bl false,.non,.bl false])->Q .non (upd H' d (.dT (aK kvs k (.ref t))))
def tS(C:Addr):Sp:=fun vs H Q _=>∃(p d g it va:Addr) (kvs gvs:List (List Key×V)) (nm:V) (k:List Key) (i:Nat) (xs ys:List V),vs=[.ref p,nm,.int (i:Int),.ref va]/\PlainAt C H p d g kvs gvs/\NameIs H nm k/\kvs.length<=500 /\
 aS kvs k=some (.ref it)/\H it=some (.tup xs)/\H va=some (.tup ys)/\i+ys.length<=xs.length/\xs.length<=100 /\
 ∀(t:Addr) (H':Hp),Same H H'->H' t=some (.tup (xs.take i++ys++xs.drop (i+ys.length)))->Q .non (upd H' d (.dT (aK kvs k (.ref t))))
def zq(K:PySem.W.Frag):Sp:=fun vs H Q _=>∃(a:Addr) (ns:List Int) (k:Int),vs=[.ref a,.int k]/\SqL K H a (ns.map V.int)/\0<=k/\Q (.int (aq ns k.toNat)) H
def rJ(K:PySem.W.Frag):Sp:=fun vs H Q _=>∃(a:Addr) (ns:List Int),vs=[.ref a]/\SqL K H a (ns.map V.int)/\ns.length<=63/\∀H',Q (.bl true) H'
structure Txt(K:PySem.W.Frag)(C:Addr):Prop where
 cl:Cls K C
 nH:NoAttr K C "held"
 nA:NoAttr K C "away"
section
variable{P:Program}{w:World}{K:PySem.W.Frag}{mg:Str->Option Value}{base:Heap}
abbrev iw:Stmt:=top 5
abbrev rS:List Str:=["word"]
theorem rj:FnScope rS ["word"] (al iw):=⟨rfl,rfl,rfl,by decide +kernel,rfl,by decide +kernel,by decide +kernel⟩
theorem qZ{f:Addr}{fd:FuncData}(F:Fun K "step_parts" "step_parts" iw f fd){dd:Addr}(g_STEP_PARTS:mg "STEP_PARTS" = some (.ref dd))(T:Tab K dd ST):FnOk P w K mg base CX0 1 f fd ["word"] (vO K):=by
 refine F.okQ rj (fun vs H Q E h=>?_) (fun cdv A outer s H vs Q E hr h=>?_)
 ·obtain⟨k,ws,rfl,_⟩:=h;rfl
 obtain⟨k,ws,rfl,hk,q⟩:=h;refine⟨_,(b_1 (aF (aj CB (FV g_STEP_PARTS) (q_v 0)))),?_⟩
 try rw[cxK]
 exact⟨_,rfl,dd,k,ST,tw ws,rfl,rfl,T,hk,q⟩
abbrev iq:Stmt:=cR (top 18) 0
abbrev rP:List Str:=["self"]
theorem rh:FnScope rP ["self"] (al iq):=⟨rfl,rfl,rfl,by decide +kernel,rfl,by decide +kernel,by decide +kernel⟩
theorem qX{f C:Addr}{fd:FuncData}(F:Fun K "__init__" "Plain.__init__" iq f fd)(T:Txt K C):FnOk P w K mg base CX0 1 f fd ["self"] (tV C):=by
 refine F.okQ rh (fun vs H Q E h=>?_) (fun cdv A outer s H vs Q E hr h=>?_)
 ·obtain⟨p,dx,rfl,_⟩:=h;rfl
 obtain⟨p,dx,rfl,hp,k⟩:=h;refine⟨_,(b_c (Co (q_v 0) jO)
   (b_1 (Co (q_v 0) jO))),?_⟩
 try rw[cxK]
 intro d hd;have npd:p≠d:=au hp hd;refine⟨_,rfl,p,C,dx,[],rfl,(by rw[ah npd];exact hp),T.cl,T.nH,(by show 0<1000;decide),?_⟩;intro g hg;have hg0:H g=none:=by
  cases e:H g with
  |none=>rfl
  |some o =>
   have:g≠d:=au e hd;by_cases c:g=p
   ·subst c;rw[ae]at hg;cases hg
   ·rw[ah c,ah this,e]at hg;cases hg
 have ngp:g≠p:=fun z=>by rw[z,hp]at hg0;cases hg0
 have ngd:g≠d:=fun z=>by rw[z,ah npd.symm,ae]at hg;cases hg
 refine⟨_,rfl,p,C,dx,_,rfl,(by rw[ah ngp.symm,ae]),T.cl,T.nA,(by show 1<1000;decide),?_⟩;refine k d g _ hd hg0 ⟨⟨dx,ae⟩,by rw[ah npd.symm,ah ngd.symm,ah npd.symm,ae],by rw[ah ngp,ae],ngd.symm⟩ fun b o e hb=>?_;rw[ah hb,ah (au e hg0),ah hb,ah (au e hd)];exact e
abbrev eJ:Stmt:=cR (top 18) 4
abbrev mB:List Str:=["self","name","up","place","text"]
theorem lZ:FnScope mB ["self","name","up","place","text"] (al eJ):=⟨rfl,rfl,rfl,by decide +kernel,rfl,by decide +kernel,by decide +kernel⟩
theorem lX{f C:Addr}{fd:FuncData}(F:Fun K "bring_in" "Plain.bring_in" eJ f fd)(T:Txt K C):FnOk P w K mg base CX0 1 f fd ["self","name","up","place","text"] (vJ C):=by
 refine F.okQ lZ (fun vs H Q E h=>?_) (fun cdv A outer s H vs Q E hr h=>?_)
 ·obtain⟨p,d,g,kvs,gvs,nm,up,pl,tx,k,rfl,_⟩:=h;rfl
 obtain⟨p,d,g,kvs,gvs,nm,up,pl,tx,k,rfl,S,hn,hl,q⟩:=h;obtain⟨⟨dx,h1⟩,h2,h3,h4⟩:=id S;refine⟨_,(b_1 (dU hr.units (iL (q_v 0)) (q_v 1) (aE (q_a (q_v 2) (q_a (q_v 3) (q_a (q_v 4) (q_a kz (q_a bU (q_a kz ag))))))))),?_⟩
 try rw[cxK]
 refine⟨_,rfl,_,rfl,_,rfl,sz rfl,fun t ht=>?_⟩;have sm:=ad ht (.tup [up,pl,tx,.bl false,.non,.bl false]);obtain⟨b,rfl,hb⟩:=hn;exact⟨_,rfl,p,C,dx,_,_,rfl,sm _ _ h1,T.cl,T.nH,dF _ _,_,rfl,d,_,rfl,DPut.t (sm _ _ h2) (sm _ _ hb) (aO (by omega)),q t _ sm ae⟩
abbrev fF:Stmt:=cR (top 18) 5
abbrev oG:List Str:=["self","name","first","values","item"]
theorem iM:FnScope oG ["self","name","first","values"] (al fF):=⟨rfl,rfl,rfl,by decide +kernel,rfl,by decide +kernel,by decide +kernel⟩
theorem nR{f C:Addr}{fd:FuncData}(F:Fun K "change" "Plain.change" fF f fd)(T:Txt K C)(z_len:mg "len" = none):FnOk P w K mg base CX0 1 f fd ["self","name","first","values"] (tS C):=by
 refine F.okQ iM (fun vs H Q E h=>?_) (fun cdv A outer s H vs Q E hr h=>?_)
 ·obtain⟨p,d,g,it,va,kvs,gvs,nm,k,i,xs,ys,rfl,_⟩:=h;rfl
 obtain⟨p,d,g,it,va,kvs,gvs,nm,k,i,xs,ys,rfl,S,hn,hl,hv,hit,hva,hi,hx,q⟩:=h;obtain⟨⟨dx,h1⟩,h2,h3,h4⟩:=id S;obtain⟨b,rfl,hb⟩:=hn;refine⟨_,(b_c (aH (i:=4) iM.nd (di hr.units (iL (q_v 0)) (q_v 1)))
   (b_1 (dU hr.units (iL (q_v 0)) (q_v 1) (aM fS (aM fS (fD dR (q_v 4) gq (eX (q_v 2))) (q_v 3)) (fD dR (q_v 4) (eX (aM fO (q_v 2) (q_B rC z_len PySem.boot_len (q_a (q_v 3) ag)))) gq))))),?_⟩
 try rw[cxK]
 refine⟨_,rfl,p,C,dx,_,_,rfl,h1,T.cl,T.nH,dF _ _,_,rfl,d,_,rfl,hv▸DGet.t h2 hb,?_⟩;refine⟨_,rfl,_,rfl,_,rfl,it,xs,rfl,hit,fun t1 H1 s1 e1=>?_⟩;have c1:bY xs none (some (i:Int))=xs.take i:=by unfold bY;rw[HT.sIx_none,HT.sIx_nat,List.drop_zero,Nat.sub_zero,YU (by omega)]
 rw[c1]at e1;refine⟨_,rfl,t1,va,_,_,rfl,rfl,e1,s1 _ _ hva,fj (by rw[ZM];omega),fun t2 H2 s2 e2=>?_⟩;refine⟨_,rfl,_,rfl,_,rfl,va,ys,rfl,.inr (SqT.of (s2 _ _ (s1 _ _ hva))),_,_,rfl,rfl,_,rfl,it,xs,rfl,s2 _ _ (s1 _ _ hit),fun t3 H3 s3 e3=>?_⟩;have c2:bY xs (some ((i:Int)+(ys.length:Int))) none=xs.drop (i+ys.length):=by unfold bY;rw[HT.sIx_none,show(i:Int)+(ys.length:Int)=((i+ys.length:Nat):Int) by omega,HT.sIx_nat,YU hi,ZX (by rw[Z5];omega)]
 rw[c2]at e3;refine⟨t2,t3,_,_,rfl,rfl,s3 _ _ e2,e3,fj (by rw[Zk,ZM,Z5];omega),fun t4 H4 s4 e4=>?_⟩;have sm:Same H H4:=s1.trans (s2.trans (s3.trans s4));exact⟨_,rfl,p,C,dx,_,_,rfl,sm _ _ h1,T.cl,T.nH,dF _ _,_,rfl,d,_,rfl,DPut.t (sm _ _ h2) (sm _ _ hb) (aO (by omega)),q t4 _ sm e4⟩
theorem Hc(w:Str):inV (.str w) [.str "item",.str "up"]=decide (w="item"\/w="up"):=by
 unfold inV eqV;by_cases h1:w="item"
 ·subst h1;simp
 ·by_cases h2:w="up"
  ·subst h2;simp
  ·simp[h1,h2,y9 h1,y9 h2]
abbrev dA:Stmt:=cR (top 18) 2
abbrev jZ:List Str:=["self","step","kinds","kind","name"]
theorem bj:FnScope jZ ["self","step"] (al dA):=⟨rfl,rfl,rfl,by decide +kernel,rfl,by decide +kernel,by decide +kernel⟩
def Gn(cN:Addr):Sp:=fun vs H Q _=>∃(e t:Addr) (v:V),vs=[.ref e,v]/\H e=some (exN e cN t none)/\∀d,H d=none->Q .non (upd (upd H d (.xd [("name",v)])) e (exN e cN t (some d)))
abbrev gv:Stmt:=cR (top 9) 0
abbrev qS:List Str:=["self","name"]
theorem pS:FnScope qS ["self","name"] (al gv):=⟨rfl,rfl,rfl,by decide +kernel,rfl,by decide +kernel,by decide +kernel⟩
theorem pC{f cN:Addr}{fd:FuncData}(F:Fun K "__init__" "NoItem.__init__" gv f fd)(S:ExS K cN)(n:NoAttr K cN "name"):FnOk P w K mg base CX0 1 f fd ["self","name"] (Gn cN):=by
 refine F.okQ pS (fun vs H Q E h=>?_) (fun cdv A outer s H vs Q E hr h=>?_)
 ·obtain⟨e,t,v,rfl,_⟩:=h;rfl
 obtain⟨e,t,v,rfl,he,q⟩:=h;refine⟨_,(b_1 (Gf (q_v 0) (q_v 1))),?_⟩
 try rw[cxK]
 exact⟨_,rfl,_,rfl,e,cN,t,rfl,he,S,n,q⟩
theorem Af{H1:Hp}{ea t d cN:Addr}{v:V}(h1:H1 ea=none)(hd:upd H1 ea (exN ea cN t none) d=none) :
  Same H1 (del (upd (upd (upd H1 ea (exN ea cN t none)) d (.xd [("name",v)])) ea (exN ea cN t (some d))) ea)/\del (upd (upd (upd H1 ea (exN ea cN t none)) d (.xd [("name",v)])) ea (exN ea cN t (some d))) ea d=some (.xd [("name",v)]):=by
 have nde:d≠ea:=fun z=>by rw[z,ae]at hd;cases hd
 refine⟨fun b o e=>?_,?_⟩
 ·have hb:b≠ea:=au e h1;have hbd:b≠d:=fun z=>by rw[<-z,ah hb,e]at hd;cases hd
  rw[eR hb,ah hb,ah hbd,ah hb];exact e
 ·rw[eR nde,ah nde,ae]
def PartB(H:Hp)(kvs:List (List Key×V))(w:Str)(v:V)(b:Bool):Prop :=
 (w="new"->∃k,NameIs H v k/\b=!(aS kvs k).isSome)/\((w="item"\/w="up")->(v=.non/\b=true)\/∃k,NameIs H v k/\b=(aS kvs k).isSome)
theorem PartB.same{H H':Hp}{kvs:List (List Key×V)}{w:Str}{v:V}{b:Bool}(x:PartB H kvs w v b)(s:Same H H'):PartB H' kvs w v b :=
 ⟨fun e=>let⟨k,a,c⟩:=x.1 e;⟨k,a.same s,c⟩,fun e=>(x.2 e).imp id fun⟨k,a,c⟩=>⟨k,a.same s,c⟩⟩
def isI(w:Str):Prop:=w="item"\/w="up"
def tU(C cT cN:Addr):Sp:=fun vs H Q E=>∃(p d g st:Addr) (kvs gvs:List (List Key×V)) (w:Str) (ws:List Str) (ps:List V) (bs:List Bool),vs=[.ref p,.ref st]/\PlainAt C H p d g kvs gvs/\H st=some (.tup (.str w::ps)) /\
 PyProof.Rows.KTD.datumAt w ST=some (tw ws)/\ws.length=ps.length/\bs.length=ps.length/\(∀(i:Nat) (w:Str) (v:V) (b:Bool),ws[i]?=some w->ps[i]?=some v->bs[i]?=some b->PartB H kvs w v b) /\
 ((∃i:Nat,ws[i]?=some "new"/\bs[i]?=some false)->∀H',Same H H'->E (.ref cT) none H') /\
 ((∀ i:Nat,ws[i]? = some "new"->bs[i]? = some true)->((∀ (i:Nat) (w:Str),ws[i]? = some w->isI w->bs[i]? = some true)->∀ H',Same H H'->Q .non H') /\
  ∀ (i:Nat) (w:Str) (v:V),ws[i]? = some w->ps[i]? = some v->isI w->bs[i]? = some false->(∀ (j:Nat) (w':Str),j<i->ws[j]? = some w'->isI w'->bs[j]? = some true)->∀ H' dd,Same H H'->H' dd=some (.xd [("name",v)])->E (.ref cN) (some dd) H')
theorem jc{f C cT cN:Addr}{fd:FuncData}{bm:List Value}(F:Fun K "check_names" "Plain.check_names" dA f fd)(T:Txt K C)(F_step_parts:Fn P w K mg base 1 "step_parts" ["word"] (vO K))(z_zip:mg "zip" = none)(x_Taken:ExCls K cT)(g_Taken:mg "Taken" = some (.ref cT))(xi_NoItem:ExI P w K mg base 1 cN bm ["self","name"] (Gn cN))(g_NoItem:mg "NoItem" = some (.ref cN)):FnOk P w K mg base (CXr P w) 3 f fd ["self","step"] (tU C cT cN):=by
 refine F.okX bj (fun vs H Q E h=>?_) (fun cdv A outer s H vs Q E hr h=>?_)
 ·obtain⟨p,d,g,st,kvs,gvs,wd,ws,ps,bs,rfl,_⟩:=h;rfl
 obtain⟨p,d,g,st,kvs,gvs,wd,ws,ps,bs,rfl,S,hst,hk,l1,l2,ok,qT,qN⟩:=h;obtain⟨⟨dx,h1⟩,h2,h3,h4⟩:=id S;refine⟨_,(b_c (aH (i:=2) bj.nd (aB F_step_parts (hr.mono (by decide)) (q_a (aj ai (q_v 1) af) ag)))
   (b_c (Cp cX (dC (nV rfl rfl) rfl (B9 z_zip (q_a (q_v 2) (q_a (fD dR (q_v 1) (eX af) gq) ag))) (kW rfl (cD (aI (i:=3) bj.nd) (cD (aI (i:=4) bj.nd) iN))) (b_1 (aW (t_w (df (aG bH (q_v 3) am) (cU (ow hr.units (q_v 4) (iL (q_v 0)))))) (b_1 (lN (eZ mj) rfl x_Taken g_Taken (q_a am ag))) b_0))))
   (b_1 (Cp cX (dC (nV rfl rfl) rfl (B9 z_zip (q_a (q_v 2) (q_a (fD dR (q_v 1) (eX af) gq) ag))) (kW rfl (cD (aI (i:=3) bj.nd) (cD (aI (i:=4) bj.nd) iN))) (b_1 (aW (t_w (df (aG (gH (K:=K) rfl) (q_v 3) (aE (q_a am (q_a am ag)))) (df (aG jb (q_v 4) bU) (cU (BI hr.units (q_v 4) (iL (q_v 0))))))) (b_1 (Bv mj rfl xi_NoItem (hr.mono (by decide)) g_NoItem (q_a (q_v 4) ag))) b_0))))))),?_⟩
 try rw[cxK]
 refine(vix rfl (SqT.of hst) at0 ⟨wd,ws,rfl,hk,fun t ht=>?_⟩);have c1:bY (V.str wd::ps) (some 1) none=ps:=by unfold bY;rw[HT.sIx_none,show(1:Int)=((1:Nat):Int)from rfl,HT.sIx_nat];simp
 have lw:(ws.map V.str).length=ps.length:=by rw[Zf];exact l1
 have item:∀{i:Nat} {x:V},(ws.map V.str)[i]?=some x->∃w',ws[i]?=some w'/\x=.str w':=fun{i x} hx=>by rw[ZA]at hx;obtain⟨w',e1,e2⟩:=Y3.mp hx;exact⟨w',e1,e2.symm⟩
 have bat:∀{i:Nat} {v:V},ps[i]?=some v->∃b,bs[i]?=some b:=fun{i v} hv=>by
  have hi:i<bs.length:=by rw[l2];exact(Zx.mp hv).1
  exact⟨_,Zd hi⟩
 refine⟨_,rfl,_,rfl,_,rfl,st,_,rfl,hst,fun z H1 s1 e1=>?_⟩;rw[c1]at e1;refine⟨t,z,_,_,rfl,ht _,SqT.of e1,lw,?_⟩;refine ve (i:=3) (j:=4) (fun i σ H'=>Same H H'/\H' z=some (.tup ps)/\(∀j:Nat,j<i->ws[j]?=some "new"->bs[j]?=some true)/\∃o3 o4,σ=[some (.ref p),some (.ref st),some (.ref t),o3,o4]) ⟨s1,e1,(fun j hj=>by omega),none,none,rfl⟩ (fun _ _ _ _ _=>ht _) (fun _ _ _ _ v=>SqT.of v.2.1) lw ?_ ?_
 ·rintro i x v σ H' hx hv ⟨sm,ez,pre,o3,o4,rfl⟩ T' gT;have wT:=ad gT (.tup [x,v]);obtain⟨w',hw,rfl⟩:=item hx;obtain⟨b,hb⟩:=bat hv;have sm':=sm.trans wT;have pb:=(ok i w' v b hw hv hb).same sm';refine⟨_,rfl,rfl,_,rfl,gh (fun c=>?_) (fun c=>?_)⟩
  ·injection c with c;subst c;obtain⟨k,⟨nb,rfl,hnb⟩,hbv⟩:=pb.1 rfl;refine⟨_,rfl,_,rfl,p,C,dx,_,_,rfl,sm' _ _ h1,T.cl,T.nH,dF _ _,d,_,rfl,DGet.t (sm' _ _ h2) hnb,_,rfl,?_⟩;cases hs:(aS kvs k).isSome with
   |true =>rw[hs]at hbv;subst hbv;refine aR ?_;exact⟨sz rfl,qT ⟨i,hw,hb⟩ _ sm'⟩
   |false =>
    rw[hs]at hbv;subst hbv;refine aJ ⟨sm',wT _ _ ez,fun j hj hw'=>?_,_,_,rfl⟩;by_cases c2:j=i
    ·rw[c2];exact hb
    ·exact pre j (by omega) hw'
  ·refine aJ ⟨sm',wT _ _ ez,fun j hj hw'=>?_,_,_,rfl⟩;by_cases c2:j=i
   ·rw[c2,hw]at hw';exact absurd (ZW V.str (Zu hw')) c
   ·exact pre j (by omega) hw'
 ·rintro σ H' ⟨sm,ez,pre,o3,o4,rfl⟩;have all:∀i:Nat,ws[i]?=some "new"->bs[i]?=some true:=fun i hi=>pre i (by rw[Zf];exact(Zx.mp hi).1) hi;obtain⟨qok,qni⟩:=qN all;refine⟨_,rfl,_,rfl,_,rfl,st,_,rfl,sm _ _ hst,fun z' H2 s2 e2=>?_⟩;rw[c1]at e2;refine⟨t,z',_,_,rfl,ht _,SqT.of e2,lw,?_⟩;refine ve (i:=3) (j:=4) (fun i σ H'=>Same H H'/\H' z'=some (.tup ps)/\(∀(j:Nat) (w':Str),j<i->ws[j]?=some w'->isI w'->bs[j]?=some true)/\∃o3 o4,σ=[some (.ref p),some (.ref st),some (.ref t),o3,o4]) ⟨sm.trans s2,e2,(fun j _ hj=>by omega),o3,o4,rfl⟩ (fun _ _ _ _ _=>ht _) (fun _ _ _ _ v=>SqT.of v.2.1) lw ?_ ?_
  ·rintro i x v σ H' hx hv ⟨sm,ez,pre2,o3,o4,rfl⟩ T' gT;have wT:=ad gT (.tup [x,v]);obtain⟨w',hw,rfl⟩:=item hx;obtain⟨b,hb⟩:=bat hv;have sm':=sm.trans wT;refine⟨_,rfl,sz rfl,fun u gu=>?_⟩;have wu:=ad gu (.tup [.str "item",.str "up"]);have sm2:=sm'.trans wu;have pb:=(ok i w' v b hw hv hb).same sm2;refine⟨u,_,rfl,.inr (SqT.of ae),rfl,rfl,_,rfl,?_⟩;have ei:(if false=true then !inV (V.str w') [.str "item",.str "up"]else inV (V.str w') [.str "item",.str "up"])=decide (w'="item"\/w'="up"):=Hc w';have step:bs[i]?=some true->∀(j:Nat) (w'':Str),j<i+1->ws[j]?=some w''->isI w''->bs[j]?=some true:=fun hbt j w'' hj hw'' hi=>by
    by_cases c2:j=i
    ·rw[c2];exact hbt
    ·exact pre2 j w'' (by omega) hw'' hi
   rw[ei];refine gh (fun c=>?_) (fun c=>?_)
   ·rcases pb.2 c with⟨rfl,rfl⟩|⟨k,⟨nb,rfl,hnb⟩,hbv⟩
    ·refine⟨_,rfl,rfl,_,rfl,nG rfl ?_⟩;exact aJ ⟨sm2,wu _ _ (wT _ _ ez),step hb,_,_,rfl⟩
    ·refine⟨_,rfl,rfl,_,rfl,kX (by intro z;cases z) ?_⟩;refine⟨_,rfl,_,rfl,p,C,dx,_,_,rfl,sm2 _ _ h1,T.cl,T.nH,dF _ _,d,_,rfl,DGet.t (sm2 _ _ h2) hnb,_,rfl,?_⟩;cases hs:(aS kvs k).isSome with
     |true =>rw[hs]at hbv;subst hbv;exact aJ ⟨sm2,wu _ _ (wT _ _ ez),step hb,_,_,rfl⟩
     |false =>rw[hs]at hbv;subst hbv;refine aR ?_;refine⟨_,rfl,sz rfl,fun ea tt' e1 e2 nt=>⟨ea,tt',_,rfl,ae,fun dd hdd=>⟨rfl,some dd,ae,?_⟩⟩⟩;obtain⟨a1,a2⟩:=Af (v:=V.ref nb) e1 hdd;exact qni i w' _ hw hv c hb pre2 _ dd (sm2.trans a1) a2
   ·refine aJ ⟨sm2,wu _ _ (wT _ _ ez),fun j w'' hj hw'' hi=>?_,_,_,rfl⟩;by_cases c2:j=i
    ·rw[c2,hw]at hw'';cases hw'';exact absurd hi c
    ·exact pre2 j w'' (by omega) hw'' hi
  ·rintro σ H' ⟨sm,ez,pre2,o3,o4,rfl⟩;exact qok (fun i w' hw hi=>pre2 i w' (by rw[Zf];exact(Zx.mp hw).1) hw hi) H' sm
abbrev cS:Stmt:=cR (top 18) 12
abbrev iT:List Str:=["self","one","other"]
theorem dW:FnScope iT ["self","one","other"] (al cS):=⟨rfl,rfl,rfl,by decide +kernel,rfl,by decide +kernel,by decide +kernel⟩
abbrev cY:Stmt:=cR (top 18) 3
abbrev jo:List Str:=["self","step"]
theorem jh:FnScope jo ["self","step"] (al cY):=⟨rfl,rfl,rfl,by decide +kernel,rfl,by decide +kernel,by decide +kernel⟩
theorem hZ(h a:Addr){m:Str}(h1:¬m="away":=by decide +kernel)(h2:¬m="held":=by decide +kernel):(oV h a).lookup m=none:=CY h a h1 h2
def TS(H H':Hp):Prop:=∀a zs,H a=some (.tup zs)->H' a=some (.tup zs)
theorem Same.ts{H H':Hp}(e:Same H H'):TS H H':=fun a zs h=>e a _ h
theorem iG{H:Hp}{d:Addr}{kvs kvs':List (List Key×V)}(h:H d=some (.dT kvs)):TS H (upd H d (.dT kvs')):=fun a zs e=>by rw[ah (cM e h (by intro z;cases z))];exact e
theorem sO:∀ns:List Int,PyData.canLayAll0 (ns.map PyData.int)=true/\PyData.depthAll (ns.map PyData.int)=0
 | []=>⟨rfl,rfl⟩
 |n::ns=>by obtain⟨h1,h2⟩:=sO ns;simp only[Zw,PyData.canLayAll0,PyData.canLay0,PyData.depthAll,PyData.depth,h1,h2];exact⟨rfl,rfl⟩
theorem dM{d:PyData}(h1:d.canLay0=true)(h2:d.depth<=10):SeqAt.shaped d=true:=by unfold SeqAt.shaped;rw[ZK];exact⟨h1,decide_eq_true (by omega)⟩
theorem mh{l:List (List Key×V)}{k:List Key}(h:¬k∈l.map (·.1)):aS l k=none:=by
 cases e:aS l k with
 |none=>rfl
 |some v=>exact absurd (vV e) h
theorem om{l:List (List Key×V)}{k:List Key}(h:k∈l.map (·.1)):(aS l k).isSome=true:=by
 cases e:aS l k with
 |none=>exact absurd h (BN e)
 |some v=>rfl
theorem tI{l:List (List Key×V)}{k:List Key}(v:V)(h:k∈l.map (·.1)):aK l k v=l.map (fun kv=>if kv.1=k then(kv.1,v)else kv):=by unfold aK;rw[if_pos];rw[fJ];exact om h
abbrev Nm:=Int×Int
structure It where
 up:Option Nm
 pl:List Int
 tx:Str
 dn:Bool
 wh:Option Int
 fo:Bool
abbrev Ol:=List (Nm×It)
def nk(n:Nm):List Key:=[.inl n.1,.inl n.2]
theorem nP{n m:Nm}(h:nk n=nk m):n=m:=by unfold nk at h;injection h with h1 h2;injection h2 with h2 _;injection h1 with h1;injection h2 with h2;exact Prod.ext h1 h2
abbrev As(β:Type):=List (Nm×β)
def look{β:Type}:As β->Nm->Option β
 | [],_=>none
 |p::l,n=>if p.1=n then some p.2 else look l n
def bo{β:Type}(l:As β)(n:Nm)(i:β):As β:=if(look l n).isSome=true then l.map (fun p=>if p.1=n then(p.1,i)else p)else l++[(n,i)]
def UpAt(H:Hp)(v:V):Option Nm->Prop
 |none=>v=.non
 |some n=>NameIs H v (nk n)
def PlAt(H:Hp)(v:V)(ns:List Int):Prop:=∃b,v=.ref b/\H b=some (.tup (ns.map V.int))
def whV:Option Int->V
 |none=>.non
 |some i=>.int i
def ItAt(H:Hp)(v:V)(it:It):Prop:=∃(a:Addr) (uv pv:V),v=.ref a/\H a=some (.tup [uv,pv,.str it.tx,.bl it.dn,whV it.wh,.bl it.fo])/\UpAt H uv it.up/\PlAt H pv it.pl
theorem NameIs.ts'{H H':Hp}{v:V}{k:List Key}(x:NameIs H v k)(s:TS H H'):NameIs H' v k:=by obtain⟨b,h1,h2⟩:=x;exact⟨b,h1,s _ _ h2⟩
theorem UpAt.ts{H H':Hp}{v:V}{u:Option Nm}(x:UpAt H v u)(s:TS H H'):UpAt H' v u:=by
 cases u with
 |none=>exact x
 |some n=>exact NameIs.ts' x s
theorem PlAt.ts{H H':Hp}{v:V}{ns:List Int}(x:PlAt H v ns)(s:TS H H'):PlAt H' v ns:=by obtain⟨b,h1,h2⟩:=x;exact⟨b,h1,s _ _ h2⟩
theorem ItAt.ts{H H':Hp}{v:V}{it:It}(x:ItAt H v it)(s:TS H H'):ItAt H' v it:=by obtain⟨a,uv,pv,h1,h2,h3,h4⟩:=x;exact⟨a,uv,pv,h1,s _ _ h2,h3.ts s,h4.ts s⟩
abbrev Rws{β:Type}(R:V->β->Prop)(kvs:List (List Key×V))(ol:As β):Prop:=Paired (fun p q=>p.1=nk q.1/\R p.2 q.2) kvs ol
abbrev Rows(H:Hp)(kvs:List (List Key×V))(ol:Ol):Prop:=Rws (ItAt H) kvs ol
theorem Rows.ts{H H':Hp}{kvs:List (List Key×V)}{ol:Ol}(x:Rows H kvs ol)(s:TS H H'):Rows H' kvs ol:=Paired.mapP x fun _ _ z=>⟨z.1,z.2.ts s⟩
section
variable{β:Type}{R:V->β->Prop}{kvs:List (List Key×V)}{ol:As β}{n:Nm}{it:β}{v:V}
theorem cV(x:Rws R kvs ol)(h:look ol n=none):aS kvs (nk n)=none:=by
 induction x with
 |nil=>rfl
 |@cons p q _ _ r _ ih =>
  unfold look at h;by_cases c:q.1=n
  ·rw[if_pos c]at h;cases h
  ·rw[if_neg c]at h;rw[bL fun z=>c (nP (r.1.symm.trans z))];exact ih h
theorem bq(x:Rws R kvs ol)(h:look ol n=some it):∃v,aS kvs (nk n)=some v/\R v it:=by
 induction x with
 |nil=>cases h
 |@cons p q _ _ r _ ih =>
  unfold look at h;by_cases c:q.1=n
  ·rw[if_pos c]at h;cases h;exact⟨p.2,bX (r.1.trans (ZW nk c)),r.2⟩
  ·rw[if_neg c]at h;rw[bL fun z=>c (nP (r.1.symm.trans z))];exact ih h
theorem lH(x:Rws R kvs ol):(aS kvs (nk n)).isSome=(look ol n).isSome:=by
 cases e:look ol n with
 |none=>rw[cV x e];rfl
 |some it =>obtain⟨v,h,_⟩:=bq x e;rw[h];rfl
theorem dL(x:Rws R kvs ol)(hv:R v it):Rws R (aK kvs (nk n) v) (bo ol n it):=by
 unfold bo;cases e:look ol n with
 |none =>rw[tH _ (cV x e),if_neg (by simp)];exact Yr x ⟨rfl,hv⟩
 |some it0 =>
  obtain⟨v0,h0,_⟩:=bq x e;rw[tI _ (vV h0),if_pos (show(some it0).isSome=true from rfl)];clear e h0;induction x with
  |nil=>exact .nil
  |@cons p q _ _ r _ ih =>
   rw[Zw,Zw];refine .cons ?_ ih;by_cases c:p.1=nk n
   ·rw[if_pos c,if_pos (nP (r.1.symm.trans c))];exact⟨r.1,hv⟩
   ·rw[if_neg c,if_neg fun z=>c (r.1.trans (ZW nk z))];exact r
theorem dJ(x:Rws R kvs ol):kvs.length=ol.length:=ZV x
end
def OlAt(C:Addr)(H:Hp)(p d g:Addr)(ol:Ol):Prop:=∃kvs,PlainAt C H p d g kvs []/\Rows H kvs ol
theorem OlAt.same{C:Addr}{H H':Hp}{p d g:Addr}{ol:Ol}(x:OlAt C H p d g ol)(s:Same H H'):OlAt C H' p d g ol:=by obtain⟨kvs,h1,h2⟩:=x;exact⟨kvs,h1.same s,h2.ts (Same.ts s)⟩
theorem But.ts{d:Addr}{H H':Hp}{kvs:List (List Key×V)}(x:But d H H')(h:H d=some (.dT kvs)):TS H H':=fun a zs e=>x a _ e (cM e h (by intro z;cases z))
theorem But.put{d:Addr}{H H':Hp}(s:Same H H')(o:HO):But d H (upd H' d o):=fun b u h n=>by rw[ah n];exact s _ _ h
theorem But.trans{d:Addr}{H H' H2:Hp}(x:But d H H')(y:But d H' H2):But d H H2:=fun b u h n=>y b u (x b u h n) n
theorem But.of{d:Addr}{H H':Hp}(s:Same H H'):But d H H':=fun b u h _=>s b u h
theorem tz{C:Addr}{H H':Hp}{p d g t:Addr}{kvs:List (List Key×V)}{ol:Ol}{n:Nm}{it:It}(S:PlainAt C H p d g kvs [])(R:Rows H kvs ol)(s:Same H H')(hi:ItAt H' (.ref t) it):OlAt C (upd H' d (.dT (aK kvs (nk n) (.ref t)))) p d g (bo ol n it):=by have td:TS H' (upd H' d (.dT (aK kvs (nk n) (.ref t)))):=iG (s _ _ S.dc);exact⟨_,(S.same s).put,Rows.ts (dL (Rows.ts R (Same.ts s)) hi) td⟩
inductive Und(ol:Ol)(o:Nm):Nat->Option Nm->Bool->Prop
 |none:Und ol o 0 none false
 |self:Und ol o 0 (some o) true
 |up {k:Nat} {n:Nm} {it:It} {b:Bool}:n≠o->look ol n=some it->Und ol o k it.up b->Und ol o (k+1) (some n) b
def qa(C:Addr):Sp:=fun vs H Q _=>∃(p d g:Addr) (ol:Ol) (u v:V) (one:Option Nm) (o:Nm) (k:Nat) (b:Bool),vs=[.ref p,u,v]/\OlAt C H p d g ol/\UpAt H u one/\NameIs H v (nk o)/\Und ol o k one b/\Q (.bl b) H
theorem iP{f C:Addr}{fd:FuncData}(F:Fun K "at_or_beneath" "Plain.at_or_beneath" cS f fd)(T:Txt K C){tk:Tok}(g_UP:mg "UP" = some (.int 0 tk)):FnOk P w K mg base CX0 1 f fd ["self","one","other"] (qa C):=by
 refine F.okQ dW (fun vs H Q E h=>?_) (fun cdv A outer s H vs Q E hr h=>?_)
 ·obtain⟨p,d,g,ol,u,v,one,o,k,b,rfl,_⟩:=h;rfl
 obtain⟨p,d,g,ol,u,v,one,o,k,b,rfl,⟨kvs,S,R⟩,hu,hv,un,q⟩:=h;obtain⟨⟨dx,h1⟩,h2,h3,h4⟩:=id S;obtain⟨vb,rfl,hvb⟩:=id hv;refine⟨_,(b_c (DR Yc (t_w (df (aG jb (q_v 1) bU) (cU (aG (ja hr.units) (q_v 1) (q_v 2))))) (b_1 (aH (i:=1) dW.nd (aj ai (di hr.units (iL (q_v 0)) (q_v 1)) (FU g_UP)))))
   (b_1 (aF (eE jb (q_v 1) bU)))),?_⟩
 try rw[cxK]
 refine⟨fun m σ H'=>H'=H/\∃(u:V) (one:Option Nm),UpAt H u one/\Und ol o m one b/\σ=[some (.ref p),some u,some (.ref vb)],⟨k,rfl,u,one,hu,un,rfl⟩,?_⟩;rintro m σ H' ⟨rfl,u,one,hu,un,rfl⟩;cases un with
 |none =>obtain rfl:u=.non:=hu;refine⟨_,rfl,rfl,_,rfl,nG rfl (aJ ?_)⟩;exact⟨_,rfl,rfl,q⟩
 |self =>obtain⟨ub,rfl,hub⟩:=id hu;refine⟨_,rfl,rfl,_,rfl,kX (by intro z;cases z) ?_⟩;refine⟨_,rfl,_,rfl,ub,vb,[o.1,o.2],[o.1,o.2],rfl,rfl,hub,hvb,_,rfl,?_⟩;rw[decide_eq_true rfl];refine aJ ?_;exact⟨_,rfl,rfl,q⟩
 |@up m n it _ hn hl un =>
  obtain⟨ub,rfl,hub⟩:=id hu;obtain⟨iv,e1,ia,uv,pv,rfl,e2,e3,e4⟩:=bq R hl;refine⟨_,rfl,rfl,_,rfl,kX (by intro z;cases z) ?_⟩;refine⟨_,rfl,_,rfl,ub,vb,[n.1,n.2],[o.1,o.2],rfl,rfl,hub,hvb,_,rfl,?_⟩;have:¬ ([n.1,n.2]=[o.1,o.2]):=fun z=>hn (by
   injection z with z1 z2;injection z2 with z2 _;exact Prod.ext z1 z2)
  rw[decide_eq_false this];refine aR ?_;refine⟨fun σ H2=>H2=H'/\σ=[some (.ref p),some uv,some (.ref vb)],?_,?_⟩
  ·rintro σ' H2 ⟨rfl,rfl⟩;exact⟨m,Nat.lt_succ_self m,rfl,uv,it.up,e3,un,rfl⟩
  ·refine⟨_,rfl,p,C,dx,_,_,rfl,h1,T.cl,T.nH,dF _ _,_,rfl,d,.ref ia,rfl,e1▸DGet.t (k:=nk n) h2 hub,?_⟩;exact⟨ia,_,_,_,rfl,rfl,SqT.of e2,at0,rfl,rfl⟩
inductive Sd
 |put (n:Nm)(u:Option Nm)(pl:List Int)(tx:Str)
 |write (n:Nm)(tx:Str)
 |mark (n:Nm)(b:Bool)
def StAt(H:Hp)(st:Addr):Sd->Prop
 |.put n u pl tx=>∃nv uv pv,H st=some (.tup [.str "put",nv,uv,pv,.str tx])/\NameIs H nv (nk n)/\UpAt H uv u/\PlAt H pv pl
 |.write n tx=>∃nv,H st=some (.tup [.str "write",nv,.str tx])/\NameIs H nv (nk n)
 |.mark n b=>∃nv,H st=some (.tup [.str "mark",nv,.bl b])/\NameIs H nv (nk n)
theorem StAt.ts{H H':Hp}{st:Addr}{s:Sd}(x:StAt H st s)(t:TS H H'):StAt H' st s:=by
 cases s with
 |put=>obtain⟨nv,uv,pv,h1,h2,h3,h4⟩:=x;exact⟨nv,uv,pv,t _ _ h1,h2.ts' t,h3.ts t,h4.ts t⟩
 |write=>obtain⟨nv,h1,h2⟩:=x;exact⟨nv,t _ _ h1,h2.ts' t⟩
 |mark=>obtain⟨nv,h1,h2⟩:=x;exact⟨nv,t _ _ h1,h2.ts' t⟩
def Sd.items:Sd->List Nm
 |.put _ u _ _=>u.toList
 |.write n _=>[n]
 |.mark n _=>[n]
def Sd.news:Sd->List Nm
 |.put n _ _ _=>[n]
 |_=>[]
inductive Bd(ol:Ol):Sd->Option Bool->Prop
 |put {n u pl tx}:Bd ol (.put n u pl tx) none
 |write {n tx}:Bd ol (.write n tx) none
 |mark {n b}:Bd ol (.mark n b) none
inductive Ap(ol:Ol):Sd->Ol->Prop
 |put {n u pl tx}:Ap ol (.put n u pl tx) (bo ol n ⟨u,pl,tx,false,none,false⟩)
 |write {n tx it}:look ol n=some it->Ap ol (.write n tx) (bo ol n { it with tx:=tx })
 |mark {n b it}:look ol n=some it->Ap ol (.mark n b) (bo ol n { it with dn:=b })
theorem CP{H:Hp}{st:Addr}{ol:Ol}{s:Sd}{r:Option Bool}(hs:StAt H st s)(hb:Bd ol s r):r=none/\∃wd ps,H st=some (.tup (.str wd::ps))/\V.str wd≠V.str "move"/\V.str wd≠V.str "join"/\V.str wd≠V.str "part":=by
 cases hb with
 |put=>obtain⟨nv,uv,pv,h1,_⟩:=hs;exact⟨rfl,_,_,h1,by decide +kernel,by decide +kernel,by decide +kernel⟩
 |write=>obtain⟨nv,h1,_⟩:=hs;exact⟨rfl,_,_,h1,by decide +kernel,by decide +kernel,by decide +kernel⟩
 |mark=>obtain⟨nv,h1,_⟩:=hs;exact⟨rfl,_,_,h1,by decide +kernel,by decide +kernel,by decide +kernel⟩
def qG(C cB cF:Addr):Sp:=fun vs H Q E=>∃(p d g st:Addr) (ol:Ol) (s:Sd) (r:Option Bool),vs=[.ref p,.ref st]/\OlAt C H p d g ol/\StAt H st s/\Bd ol s r/\(∀n it,look ol n=some it->it.tx.length<=400)/\(r=some true->E (.ref cB) none H)/\(r=some false->E (.ref cF) none H)/\(r=none->Q .non H)
theorem iQ{f C cB cF:Addr}{fd:FuncData}(F:Fun K "check_bounds" "Plain.check_bounds" cY f fd)(T:Txt K C)(M_at_or_beneath:MFn P w K mg base 1 C "at_or_beneath" ["self","one","other"] (qa C)){tk:Tok}(g_TEXT:mg "TEXT" = some (.int 2 tk))(z_len:mg "len" = none)(x_Beneath:ExCls K cB)(g_Beneath:mg "Beneath" = some (.ref cB))(x_Far:ExCls K cF)(g_Far:mg "Far" = some (.ref cF)):FnOk P w K mg base (CXr P w) 2 f fd ["self","step"] (qG C cB cF):=by
 refine F.okX jh (fun vs H Q E h=>?_) (fun cdv A outer s H vs Q E hr h=>?_)
 ·obtain⟨p,d,g,st,ol,sd,r,rfl,_⟩:=h;rfl
 obtain⟨p,d,g,st,ol,sd,r,rfl,O,hs,hb,htx,q1,q2,q3⟩:=h;obtain⟨kvs,S,R⟩:=id O;obtain⟨⟨dx,h1⟩,h2,h3,h4⟩:=id S;refine⟨_,(b_c (aW (t_w (df (aG bH (aj ai (q_v 1) af) am) (cU (dD (eW M_at_or_beneath (hr.mono (by decide)) (q_v 0) (q_a (aj ai (q_v 1) af) (q_a (aj ai (q_v 1) af) ag))))))) (b_1 (lN (eZ cX) rfl x_Beneath g_Beneath (q_a am ag))) b_0)
   (b_c (aW (t_w (df (aG bH (aj ai (q_v 1) af) am) (cU (dD (eW M_at_or_beneath (hr.mono (by decide)) (q_v 0) (q_a (aj ai (q_v 1) af) (q_a (aj ai (q_v 1) af) ag))))))) (b_1 (lN (eZ cX) rfl x_Beneath g_Beneath (q_a am ag))) b_0)
   (b_1 (aW (t_w (df (aG bH (aj ai (q_v 1) af) am) (cU (aG xf (aj ai (q_v 1) af) (q_B Eu z_len PySem.boot_len (q_a (aj ai (di hr.units (iL (q_v 0)) (aj ai (q_v 1) af)) (FU g_TEXT)) ag)))))) (b_1 (lN (eZ cX) rfl x_Far g_Far (q_a am ag))) b_0)))),?_⟩
 try rw[cxK]
 obtain⟨hr',wd,ps,hst,n1,n2,n3⟩:=CP hs hb;refine(vix rfl (SqT.of hst) at0 ⟨rfl,_,rfl,bZ n1 (aJ ?_)⟩);refine(vix rfl (SqT.of hst) at0 ⟨rfl,_,rfl,bZ n2 (aJ ?_)⟩);exact(vix rfl (SqT.of hst) at0 ⟨rfl,_,rfl,bZ n3 (aJ (q3 hr'))⟩)
def vL(C:Addr):Sp:=fun vs H Q _=>∃(p d g:Addr) (ol:Ol) (nv:V) (n:Nm),vs=[.ref p,nv]/\OlAt C H p d g ol/\NameIs H nv (nk n)/\Q (.bl (look ol n).isSome) H
abbrev gw:Stmt:=cR (top 18) 9
abbrev qU:List Str:=["self","name"]
theorem pT:FnScope qU ["self","name"] (al gw):=⟨rfl,rfl,rfl,by decide +kernel,rfl,by decide +kernel,by decide +kernel⟩
theorem pD{f C:Addr}{fd:FuncData}(F:Fun K "holds" "Plain.holds" gw f fd)(T:Txt K C):FnOk P w K mg base CX0 1 f fd ["self","name"] (vL C):=by
 refine F.okQ pT (fun vs H Q E h=>?_) (fun cdv A outer s H vs Q E hr h=>?_)
 ·obtain⟨p,d,g,ol,nv,n,rfl,_⟩:=h;rfl
 obtain⟨p,d,g,ol,nv,n,rfl,⟨kvs,S,R⟩,⟨b,rfl,hb⟩,q⟩:=h;obtain⟨⟨dx,h1⟩,h2,h3,h4⟩:=id S;refine⟨_,(b_1 (aF (Cg hr.units (q_v 1) (iL (q_v 0))))),?_⟩
 try rw[cxK]
 refine⟨_,rfl,_,rfl,p,C,dx,_,_,rfl,h1,T.cl,T.nH,dF _ _,d,_,rfl,DGet.t (k:=nk n) h2 hb,?_⟩;rw[lH R];exact q
theorem fH{β:Type}(l:As β)(n:Nm)(i:β):(bo l n i).length<=l.length+1:=by
 unfold bo;split
 ·rw[Zf];omega
 ·rw[Zk];exact Ze _
abbrev lY:Stmt:=cR (top 18) 6
def xH:Option Nm->PyData
 |none=>.none
 |some n=>.tuple [.int n.1,.int n.2]
theorem zP(u v:Option Nm):PyData.eqv (xH u) (xH v)=decide (u=v):=by
 cases u with
 |none=>cases v<;>rfl
 |some n =>
  cases v with
  |none=>rfl
  |some m =>
   have:=jw [n.1,n.2] [m.1,m.2];show PyData.eqv (.tuple ([n.1,n.2].map PyData.int)) (.tuple ([m.1,m.2].map PyData.int))=_;rw[this,decide_eq_decide];constructor
   ·intro z;injection z with z1 z2;injection z2 with z2 _;exact ZW some (Prod.ext z1 z2)
   ·intro z;rw[Zu z]
theorem AL{β:Type}{l:As β}{n m:Nm}{i:β}:(look (l.map fun p=>if p.1=n then(p.1,i)else p) m)=if m=n then(look l m).map (fun _=>i)else look l m:=by
 induction l with
 |nil=>split<;>rfl
 |cons p l ih =>
  rw[Zw];unfold look;by_cases c:p.1=n
  ·rw[if_pos c];by_cases c2:p.1=m
   ·rw[if_pos c2,if_pos c2,if_pos (c2▸c)];rfl
   ·rw[if_neg c2,if_neg c2,ih]
  ·rw[if_neg c];by_cases c2:p.1=m
   ·rw[if_pos c2,if_pos c2,if_neg (fun z=>c (c2.trans z))]
   ·rw[if_neg c2,if_neg c2,ih]
theorem AK{β:Type}{l:As β}{n m:Nm}{i:β}(h:look l n=none):look (l++[(n,i)]) m=if m=n then some i else look l m:=by
 induction l with
 |nil =>
  show(if n=m then some i else none)=_;by_cases c:n=m
  ·rw[if_pos c,if_pos c.symm]
  ·rw[if_neg c,if_neg fun z=>c z.symm];rfl
 |cons p l ih =>
  rw[List.cons_append];unfold look at h ⊢;by_cases c:p.1=n
  ·rw[if_pos c]at h;cases h
  ·rw[if_neg c]at h;by_cases c2:p.1=m
   ·rw[if_pos c2,if_pos c2,if_neg fun z=>c (c2.trans z)]
   ·rw[if_neg c2,if_neg c2];exact ih h
theorem aZ{β:Type}{l:As β}{n m:Nm}{i:β}:look (bo l n i) m=if m=n then some i else look l m:=by
 unfold bo;cases e:look l n with
 |none =>rw[if_neg (by simp)];exact AK e
 |some j =>
  rw[if_pos (show(some j).isSome=true from rfl),AL];by_cases c:m=n
  ·rw[if_pos c,if_pos c,c,e];rfl
  ·rw[if_neg c,if_neg c]
theorem zo{β:Type}{l:As β}{n:Nm}{i j:β}(h:look l n=some j):(bo l n i).length=l.length:=by unfold bo;rw[h,if_pos (show(some j).isSome=true from rfl),Zf]
abbrev kC:Stmt:=cR (top 18) 7
def All3(H:Hp)(kvs:List (List Key×V))(ws:List Str)(ps:List V)(bs:List Bool):Prop:=∀(i:Nat) (w:Str) (v:V) (b:Bool),ws[i]?=some w->ps[i]?=some v->bs[i]?=some b->PartB H kvs w v b
theorem All3.nil{H:Hp}{kvs:List (List Key×V)}:All3 H kvs [] [] []:=fun i w v b h=>by simp at h
theorem All3.cons{H:Hp}{kvs:List (List Key×V)}{ws:List Str}{ps:List V}{bs:List Bool}{w:Str}{v:V}{b:Bool}(h:PartB H kvs w v b)(t:All3 H kvs ws ps bs):All3 H kvs (w::ws) (v::ps) (b::bs):=fun i w' v' b' h1 h2 h3=>by
 cases i with
 |zero=>cases h1;cases h2;cases h3;exact h
 |succ i=>exact t i _ _ _ h1 h2 h3
def we(ws:List Str)(bs:List Bool):Prop:=∀(i:Nat) (w:Str),ws[i]?=some w->isI w->bs[i]?=some true
def rA(ws:List Str)(bs:List Bool):Prop:=∀i:Nat,ws[i]?=some "new"->bs[i]?=some true
theorem mJ:we [] []↔True:=⟨fun _=>trivial,fun _ i w h=>by simp at h⟩
theorem kn{w:Str}{b:Bool}{ws:List Str}{bs:List Bool}:we (w::ws) (b::bs)↔(isI w->b=true)/\we ws bs:=by
 constructor
 ·intro h;exact⟨fun z=>Zu (h 0 w rfl z),fun i w' e z=>h (i+1) w' e z⟩
 ·rintro⟨h1,h2⟩ i w' e z;cases i with
  |zero=>cases e;exact ZW some (h1 z)
  |succ i=>exact h2 i w' e z
theorem kr:rA [] []↔True:=⟨fun _=>trivial,fun _ i h=>by simp at h⟩
theorem jL{w:Str}{b:Bool}{ws:List Str}{bs:List Bool}:rA (w::ws) (b::bs)↔(w="new"->b=true)/\rA ws bs:=by
 constructor
 ·intro h;exact⟨fun z=>Zu (h 0 (ZW some z)),fun i e=>h (i+1) e⟩
 ·rintro⟨h1,h2⟩ i e;cases i with
  |zero=>exact ZW some (h1 (Zu e))
  |succ i=>exact h2 i e
def upB(ol:Ol):Option Nm->Bool
 |none=>true
 |some n=>(look ol n).isSome
section
variable{H:Hp}{kvs:List (List Key×V)}{ol:Ol}{v:V}{n:Nm}{u:Option Nm}
theorem Fo(R:Rows H kvs ol)(h:NameIs H v (nk n)):PartB H kvs "new" v (!(look ol n).isSome):=⟨fun _=>⟨nk n,h,by rw[lH R]⟩,fun z=>absurd z (by decide +kernel)⟩
theorem vA(R:Rows H kvs ol)(h:NameIs H v (nk n)):PartB H kvs "item" v (look ol n).isSome:=⟨fun z=>absurd z (by decide +kernel),fun _=>.inr ⟨nk n,h,by rw[lH R]⟩⟩
theorem Hr(R:Rows H kvs ol)(h:UpAt H v u):PartB H kvs "up" v (upB ol u):=⟨fun z=>absurd z (by decide +kernel),fun _=>by
 cases u with
 |none=>exact .inl ⟨h,rfl⟩
 | some n=>exact .inr ⟨nk n,h,by rw[lH R];rfl⟩⟩
theorem nW{w:Str}(h1:w≠"new")(h2:¬isI w):PartB H kvs w v true:=⟨fun z=>absurd z h1,fun z=>absurd z h2⟩
end
theorem ym:isI "item":=.inl rfl
theorem Ib:isI "up":=.inr rfl
theorem jl{w:Str}(h:w="place"\/w="text"\/w="truth"\/w="whom"\/w="at"):w≠"new"/\¬isI w:=by rcases h with rfl|rfl|rfl|rfl|rfl<;>exact⟨by decide +kernel,by unfold isI;decide +kernel⟩
theorem HN:¬isI "new":=by unfold isI;decide +kernel
theorem BO:¬(("item":Str)="new")/\¬(("up":Str)="new"):=by decide +kernel
theorem BF{H:Hp}{kvs:List (List Key×V)}{ol:Ol}{st:Addr}{s:Sd}(R:Rows H kvs ol)(h:StAt H st s):∃(wd:Str) (ws:List Str) (ps:List V) (bs:List Bool),H st=some (.tup (.str wd::ps))/\PyProof.Rows.KTD.datumAt wd ST=some (tw ws)/\ws.length=ps.length/\bs.length=ps.length/\All3 H kvs ws ps bs /\
  ((∀n∈s.news,look ol n=none)->rA ws bs)/\((∀n∈s.items,(look ol n).isSome=true)↔we ws bs):=by
 have wp:=jl (w:="place") (.inl rfl);have wt:=jl (w:="text") (.inr (.inl rfl));have wr:=jl (w:="truth") (.inr (.inr (.inl rfl)));have ww:=jl (w:="whom") (.inr (.inr (.inr (.inl rfl))));have wa:=jl (w:="at") (.inr (.inr (.inr (.inr rfl))));cases s with
 |put n u pl tx =>
  obtain⟨nv,uv,pv,h1,h2,h3,h4⟩:=h;refine⟨_,_,_,[!(look ol n).isSome,upB ol u,true,true],h1,rfl,rfl,rfl,.cons (Fo R h2) (.cons (Hr R h3) (.cons (nW wp.1 wp.2) (.cons (nW wt.1 wt.2) .nil))),?_,?_⟩
  ·intro z;simp[jL,kr,BO.2,wp.1,wt.1,z n (by simp[Sd.news])]
  ·cases u<;>simp[kn,mJ,Ib,HN,wp.2,wt.2,Sd.items,upB]
 |write n tx =>
  obtain⟨nv,h1,h2⟩:=h;refine⟨_,_,_,[(look ol n).isSome,true],h1,rfl,rfl,rfl,.cons (vA R h2) (.cons (nW wt.1 wt.2) .nil),?_,?_⟩
  ·intro _;simp[jL,kr,BO.1,wt.1]
  ·simp[kn,mJ,ym,wt.2,Sd.items]
 |mark n b =>
  obtain⟨nv,h1,h2⟩:=h;refine⟨_,_,_,[(look ol n).isSome,true],h1,rfl,rfl,rfl,.cons (vA R h2) (.cons (nW wr.1 wr.2) .nil),?_,?_⟩
  ·intro _;simp[jL,kr,BO.1,wr.1]
  ·simp[kn,mJ,ym,wr.2,Sd.items]
def lO(C cN cB cF:Addr):Sp:=fun vs H Q E=>∃(p d g st:Addr) (ol:Ol) (s:Sd),vs=[.ref p,.ref st]/\OlAt C H p d g ol/\ol.length<=300/\StAt H st s/\(∀n∈s.news,look ol n=none)/\(∀n it,look ol n=some it->it.tx.length<=400) /\
 ((¬ (∀ n∈s.items,(look ol n).isSome=true)/\∀ H' dd,Same H H'->E (.ref cN) (some dd) H') \/
  ((∀ n∈s.items,(look ol n).isSome=true)/\∃ r,Bd ol s r/\(r=some true->∀ H',Same H H'->E (.ref cB) none H')/\(r=some false->∀ H',Same H H'->E (.ref cF) none H')/\(r=none->∀ H' ol',But d H H'->OlAt C H' p d g ol'->Ap ol s ol'->Q .non H')))
abbrev ir:Stmt:=cR (top 18) 1
abbrev rQ:List Str:=["self","step","word"]
theorem jX:FnScope rQ ["self","step"] (al ir):=⟨rfl,rfl,rfl,by decide +kernel,rfl,by decide +kernel,by decide +kernel⟩
theorem pE{f C cT cN cB cF:Addr}{fd:FuncData}(F:Fun K "step" "Plain.step" ir f fd)(MX_check_names:MFnX P w K mg base 3 C "check_names" ["self","step"] (tU C cT cN))(MX_check_bounds:MFnX P w K mg base 2 C "check_bounds" ["self","step"] (qG C cB cF))(M_bring_in:MFn P w K mg base 1 C "bring_in" ["self","name","up","place","text"] (vJ C))(M_part_item:MFn P w K mg base 1 C "part_item" ["self","name","at","new","place"] (fun _ _ _ _=>False))(M_join_items:MFn P w K mg base 1 C "join_items" ["self","name","other"] (fun _ _ _ _=>False))(M_change:MFn P w K mg base 1 C "change" ["self","name","first","values"] (tS C)){dd:Addr}(g_FIRST_CHANGED:mg "FIRST_CHANGED" = some (.ref dd))(TF:Tab K dd FC):FnOk P w K mg base (CXr P w) 4 f fd ["self","step"] (lO C cN cB cF):=by
 refine F.okX jX (fun vs H Q E h=>?_) (fun cdv A outer s H vs Q E hr h=>?_)
 ·obtain⟨p,d,g,st,ol,sd,rfl,_⟩:=h;rfl
 obtain⟨p,d,g,st,ol,sd,rfl,O,l3,hs,hnew,htx,h⟩:=h;obtain⟨kvs,S,R⟩:=id O;obtain⟨⟨dx,h1⟩,h2,h3,h4⟩:=id S;have lk:=dJ R;obtain⟨wd,ws,ps,bs,hst,dat,l1,l2,a3,nok,iff⟩:=BF R hs;refine⟨_,(b_c (bP (lF MX_check_names (Cd cX) (hr.mono (by decide)) (q_v 0) (q_a (q_v 1) ag)))
   (b_c (bP (lF MX_check_bounds (Cd cX) (hr.mono (by decide)) (q_v 0) (q_a (q_v 1) ag)))
   (b_c (aH (i:=2) jX.nd (aj ai (q_v 1) af))
   (b_1 (aW (aG bH (q_v 2) am) (b_1 (bP (eW M_bring_in (hr.mono (by decide)) (q_v 0) (q_a (aj ai (q_v 1) af) (q_a (aj ai (q_v 1) af) (q_a (aj ai (q_v 1) af) (q_a (aj ai (q_v 1) af) ag))))))) (b_1 (aW (aG bH (q_v 2) am) (b_1 (bP (eW M_part_item (hr.mono (by decide)) (q_v 0) (q_a (aj ai (q_v 1) af) (q_a (aj ai (q_v 1) af) (q_a (aj ai (q_v 1) af) (q_a (aj ai (q_v 1) af) ag))))))) (b_1 (aW (aG bH (q_v 2) am) (b_1 (bP (eW M_join_items (hr.mono (by decide)) (q_v 0) (q_a (aj ai (q_v 1) af) (q_a (aj ai (q_v 1) af) ag))))) (b_1 (aW (aG bH (q_v 2) am) (b_1 DQ) (b_1 (bP (eW M_change (hr.mono (by decide)) (q_v 0) (q_a (aj ai (q_v 1) af) (q_a (aj CB (FV g_FIRST_CHANGED) (q_v 2)) (q_a (fD dR (q_v 1) (eX af) gq) ag))))))))))))))))),?_⟩
 try rw[cxK]
 refine⟨_,rfl,p,dx,_,rfl,h1,hZ _ _,_,rfl,p,d,g,st,kvs,[],wd,ws,ps,bs,rfl,S,hst,dat,l1,l2,a3,fun⟨i,e1,e2⟩=>?_,fun _=>⟨fun all H1 s1=>?_,fun i w' v e1 e2 hi e3 pre H' dd sm hd=>?_⟩⟩
 ·rw[nok hnew i e1]at e2;cases e2
 ·rcases h with⟨hm,q⟩|⟨hall,r,hb,qB,qF,q⟩
  ·exact absurd (iff.mpr all) hm
  have hs1:=hs.ts (Same.ts s1);refine⟨_,rfl,p,dx,_,rfl,s1 _ _ h1,hZ _ _,_,rfl,p,d,g,st,ol,sd,r,rfl,O.same s1,hs1,hb,htx,fun e=>qB e H1 s1,fun e=>qF e H1 s1,fun e=>?_⟩;have q':=q e;have S1:=S.same s1;have R1:=R.ts (Same.ts s1);have y1:=s1 _ _ h1;have ch:∀{n:Nm} {it:It} {ia:Addr} {xs:List V},look ol n=some it->∃ia uv pv,aS kvs (nk n)=some (.ref ia)/\H1 ia=some (.tup [uv,pv,.str it.tx,.bl it.dn,whV it.wh,.bl it.fo])/\UpAt H1 uv it.up/\PlAt H1 pv it.pl:=fun{n it _ _} hl=>by obtain⟨iv,e1,ia,uv,pv,rfl,e2,e3,e4⟩:=bq R1 hl;exact⟨ia,uv,pv,e1,e2,e3,e4⟩
  cases sd with
  |put n u pl tx =>obtain⟨nv,uv,pv,hst,hn,hu,hp⟩:=hs1;have e1:=SqT.of (K:=K) hst;refine(vix rfl e1 at0 ?_);refine⟨_,rfl,rfl,_,rfl,gW ?_⟩;exact⟨_,rfl,p,dx,_,rfl,y1,hZ _ _,vix rfl e1 at1 (vix rfl e1 at2 (vix rfl e1 at3 (vix rfl e1 at4 ⟨p,d,g,kvs,[],nv,uv,pv,.str tx,nk n,rfl,S1,hn,by omega,fun t H2 s2 e2=>q' _ _ (But.put (s1.trans s2) _) (tz S1 R1 s2 ⟨t,uv,pv,rfl,e2,hu.ts (Same.ts s2),hp.ts (Same.ts s2)⟩) .put⟩)))⟩
  |write n tx =>obtain⟨nv,hst,hn⟩:=hs1;have e1:=SqT.of (K:=K) hst;obtain⟨it,hl⟩:=ZY.mp (hall n (by simp[Sd.items]));obtain⟨ia,uw,pw,c1,c2,c3,c4⟩:=ch (ia:=st) (xs:=[]) hl;refine(vix rfl e1 at0 ?_);refine⟨_,rfl,rfl,_,rfl,bZ (by decide +kernel) ?_⟩;refine⟨_,rfl,rfl,_,rfl,bZ (by decide +kernel) ?_⟩;refine⟨_,rfl,rfl,_,rfl,bZ (by decide +kernel) ?_⟩;refine⟨_,rfl,rfl,_,rfl,bZ (by decide +kernel) ?_⟩;refine⟨_,rfl,p,dx,_,rfl,y1,hZ _ _,vix rfl e1 at1 ⟨_,rfl,dd,"write",FC,_,rfl,rfl,TF,rfl,?_⟩⟩;refine⟨_,rfl,_,rfl,st,_,rfl,hst,fun va H2 s2 e2=>?_⟩;exact⟨p,d,g,ia,va,kvs,[],nv,nk n,2,_,[_],rfl,S1.same s2,hn.same s2,by omega,c1,s2 _ _ c2,e2,show 2+1<=6 by decide,show 6<=100 by decide,fun t H3 s3 e3=>q' _ _ (But.put (s1.trans (s2.trans s3)) _) (tz (it:={ it with tx:=tx }) S1 R1 (s2.trans s3) ⟨t,uw,pw,rfl,e3,c3.ts (Same.ts (s2.trans s3)),c4.ts (Same.ts (s2.trans s3))⟩) (.write hl)⟩
  |mark n b =>obtain⟨nv,hst,hn⟩:=hs1;have e1:=SqT.of (K:=K) hst;obtain⟨it,hl⟩:=ZY.mp (hall n (by simp[Sd.items]));obtain⟨ia,uw,pw,c1,c2,c3,c4⟩:=ch (ia:=st) (xs:=[]) hl;refine(vix rfl e1 at0 ?_);refine⟨_,rfl,rfl,_,rfl,bZ (by decide +kernel) ?_⟩;refine⟨_,rfl,rfl,_,rfl,bZ (by decide +kernel) ?_⟩;refine⟨_,rfl,rfl,_,rfl,bZ (by decide +kernel) ?_⟩;refine⟨_,rfl,rfl,_,rfl,bZ (by decide +kernel) ?_⟩;refine⟨_,rfl,p,dx,_,rfl,y1,hZ _ _,vix rfl e1 at1 ⟨_,rfl,dd,"mark",FC,_,rfl,rfl,TF,rfl,?_⟩⟩;refine⟨_,rfl,_,rfl,st,_,rfl,hst,fun va H2 s2 e2=>?_⟩;exact⟨p,d,g,ia,va,kvs,[],nv,nk n,3,_,[_],rfl,S1.same s2,hn.same s2,by omega,c1,s2 _ _ c2,e2,show 3+1<=6 by decide,show 6<=100 by decide,fun t H3 s3 e3=>q' _ _ (But.put (s1.trans (s2.trans s3)) _) (tz (it:={ it with dn:=b }) S1 R1 (s2.trans s3) ⟨t,uw,pw,rfl,e3,c3.ts (Same.ts (s2.trans s3)),c4.ts (Same.ts (s2.trans s3))⟩) (.mark hl)⟩
 ·rcases h with⟨hm,q⟩|⟨hall,_⟩
  ·exact q H' dd sm
  ·rw[iff.mp hall i w' e1 hi]at e3;cases e3
theorem lB{X:Cx}:eQ (CXr X.prog X.w) X E0:=fun pins σ H s e s' I x=>by obtain⟨ea,t,C,vs,B,H',dc,rfl,os,bare,un,hok,fly,tup,hBt,kb,dd,q⟩:=x;exact q.elim
theorem qt{J:L2.It}{N n:Nat}{cap:List Nat}{g:TG}{tc:TT}{te:TE}{σ:St}{H0:Hp}{Q:VK}(Pv:Nat->List V->Hp->Prop)(hz:N<=1000)(hn:∀i ys H,Pv i ys H->ys.length<=i)(h0:Pv 0 [] H0)(hgo:∀i ys H,i<N->Pv i ys H->J.go i H)(hst:∀ys H,Pv N ys H->J.stop N H)(ht:∀i ys H x H',i<N->Pv i ys H->J.yld i H x H'->∀Y:List V->Hp->Prop,(∀zs H4,Pv (i+1) zs H4->Y zs H4)->g x (cK n cap σ) H' fun σ2 H2=>tc σ2 H2 fun b H3=>if b=true then te σ2 H3 fun y H4=>Y (ys++[y]) H4 else Y ys H3)(hq:∀ys p H,Pv N ys H->H p=none->Q (.ref p) (upd H p (.lst ys))):iF n cap g tc te σ J H0 Q:=by
 refine⟨fun i m ys H=>m=N-i/\i<=N/\Pv i ys H,⟨N,by simp,y0 _,h0⟩,?_⟩;rintro i m ys H ⟨rfl,hi,pv⟩;by_cases hlt:i<N
 ·refine .inr ⟨hgo i ys H hlt pv,?_,fun x H' y=>?_⟩
  ·have:=hn i ys H pv;exact Nat.lt_of_le_of_lt (ZI this (by omega)) (show 1000<sizeLine by decide)
  ·exact ht i ys H x H' hlt pv y (fun ys H4=>∃m',m'<N-i/\m'=N-(i+1)/\i+1<=N/\Pv (i+1) ys H4) fun zs H4 z=>⟨N-(i+1),by omega,rfl,hlt,z⟩
 ·have e:i=N:=by omega
  subst e;exact .inl ⟨hst ys H pv,fun p hp=>hq ys p H pv hp⟩
inductive Wd
 |put (u:Option Nm)(pl:List Int)(tx:Str)
 |write (n:Nm)(tx:Str)
 |mark (n:Nm)(b:Bool)
 |take (n:Nm)
 |back (n:Nm)
 |off (k:Int)
 |on (k:Int)
 |none
def Wd.word:Wd->Str
 |.put _ _ _=>"put"
 |.write _ _=>"write"
 |.mark _ _=>"mark"
 |.take _=>"take"
 |.back _=>"back"
 |.off _=>"off"
 |.on _=>"on"
 |.none=>"none"
def Wd.isTurn:Wd->Bool
 |.off _=>true
 |.on _=>true
 |_=>false
def RsAt(H:Hp)(r:List V):Wd->Prop
 |.put u pl tx=>∃uv pv,r=[uv,pv,.str tx]/\UpAt H uv u/\PlAt H pv pl
 |.write n tx=>∃nv,r=[nv,.str tx]/\NameIs H nv (nk n)
 |.mark n b=>∃nv,r=[nv,.bl b]/\NameIs H nv (nk n)
 |.take n=>∃nv,r=[nv]/\NameIs H nv (nk n)
 |.back n=>∃nv,r=[nv]/\NameIs H nv (nk n)
 |.off k=>r=[.int k]
 |.on k=>r=[.int k]
 |.none=>r=[]
theorem RsAt.ts{H H':Hp}{r:List V}{wd:Wd}(x:RsAt H r wd)(t:TS H H'):RsAt H' r wd:=by
 cases wd with
 |put=>obtain⟨uv,pv,h1,h3,h4⟩:=x;exact⟨uv,pv,h1,h3.ts t,h4.ts t⟩
 |write=>obtain⟨nv,h1,h2⟩:=x;exact⟨nv,h1,h2.ts' t⟩
 |mark=>obtain⟨nv,h1,h2⟩:=x;exact⟨nv,h1,h2.ts' t⟩
 |take=>obtain⟨nv,h1,h2⟩:=x;exact⟨nv,h1,h2.ts' t⟩
 |back=>obtain⟨nv,h1,h2⟩:=x;exact⟨nv,h1,h2.ts' t⟩
 |off=>exact x
 |on=>exact x
 |none=>exact x
def WhAt(H:Hp)(wa:Addr)(wd:Wd):Prop:=∃r,H wa=some (.tup (.str wd.word::r))/\RsAt H r wd
abbrev Dd:=Nm×Wd
def DdAt(H:Hp)(v:V)(d:Dd):Prop:=∃(dd c wa:Addr) (cs:List V),v=.ref dd/\H dd=some (.tup [.int d.1.1,.ref c,.ref wa])/\H c=some (.tup cs)/\atI cs d.1.1=some (.int d.1.2)/\WhAt H wa d.2
theorem DdAt.ts{H H':Hp}{v:V}{d:Dd}(x:DdAt H v d)(t:TS H H'):DdAt H' v d:=by obtain⟨dd,c,wa,cs,h1,h2,h3,h4,r,h5,h6⟩:=x;exact⟨dd,c,wa,cs,h1,t _ _ h2,t _ _ h3,h4,r,t _ _ h5,h6.ts t⟩
def bW:Sp:=fun vs H Q _=>∃(v:V) (d:Dd),vs=[v]/\DdAt H v d/\∀t H',Same H H'->H' t=some (.tup [.int d.1.1,.int d.1.2])->Q (.ref t) H'
abbrev kI:Stmt:=top 13
abbrev xO:List Str:=["deed"]
theorem xx:FnScope xO ["deed"] (al kI):=⟨rfl,rfl,rfl,by decide +kernel,rfl,by decide +kernel,by decide +kernel⟩
theorem xl{f:Addr}{fd:FuncData}(F:Fun K "name_of" "name_of" kI f fd):FnOk P w K mg base CX0 1 f fd ["deed"] bW:=by
 refine F.okQ xx (fun vs H Q E h=>?_) (fun cdv A outer s H vs Q E hr h=>?_)
 ·obtain⟨v,d,rfl,_⟩:=h;rfl
 obtain⟨v,d,rfl,⟨dd,c,wa,cs,rfl,h2,h3,h4,r,h5,h6⟩,q⟩:=h;refine⟨_,(b_1 (aF (aE (q_a (aj ai (q_v 0) af) (q_a (aj ai (aj ai (q_v 0) af) (aj ai (q_v 0) af)) ag))))),?_⟩
 try rw[cxK]
 have e1:=SqT.of (K:=K) h2;exact(vix rfl e1 at0 (vix rfl e1 at1 (vix rfl e1 at0 ⟨c,_,_,_,rfl,rfl,SqT.of h3,h4,sz rfl,fun t g=>q t _ (ad g _) ae⟩)))
theorem C0(wd:Wd):inV (.str wd.word) [.str "off",.str "on"]=wd.isTurn:=by cases wd<;>rfl
def jW:Sp:=fun vs H Q _=>∃(v:V) (d:Dd),vs=[v]/\DdAt H v d/\∀H',Same H H'->Q (.bl d.2.isTurn) H'
abbrev kF:Stmt:=top 22
abbrev xN:List Str:=["deed"]
theorem xw:FnScope xN ["deed"] (al kF):=⟨rfl,rfl,rfl,by decide +kernel,rfl,by decide +kernel,by decide +kernel⟩
theorem xj{f:Addr}{fd:FuncData}(F:Fun K "is_turn" "is_turn" kF f fd):FnOk P w K mg base CX0 1 f fd ["deed"] jW:=by
 refine F.okQ xw (fun vs H Q E h=>?_) (fun cdv A outer s H vs Q E hr h=>?_)
 ·obtain⟨v,d,rfl,_⟩:=h;rfl
 obtain⟨v,d,rfl,⟨dd,c,wa,cs,rfl,h2,h3,h4,r,h5,h6⟩,q⟩:=h;refine⟨_,(b_1 (aF (eE (gH (K:=K) rfl) (aj ai (aj ai (q_v 0) af) af) (aE (q_a am (q_a am ag)))))),?_⟩
 try rw[cxK]
 refine(de rfl (SqT.of h2) at2 (SqT.of h5) at0 ⟨sz rfl,fun u gu=>?_⟩);refine⟨u,_,rfl,.inr (SqT.of ae),rfl,rfl,?_⟩;have ei:(if false=true then !inV (V.str d.2.word) [.str "off",.str "on"]else inV (V.str d.2.word) [.str "off",.str "on"])=d.2.isTurn:=C0 d.2;rw[ei];exact q _ (ad gu _)
def mU:Sp:=fun vs H Q _=>∃(v:V) (d:Dd) (k:Int),vs=[v]/\DdAt H v d/\(d.2=.off k\/d.2=.on k)/\∀t H',Same H H'->H' t=some (.tup [.int d.1.1,.int k])->Q (.ref t) H'
abbrev gB:Stmt:=top 23
abbrev qV:List Str:=["deed"]
theorem pU:FnScope qV ["deed"] (al gB):=⟨rfl,rfl,rfl,by decide +kernel,rfl,by decide +kernel,by decide +kernel⟩
theorem pF{f:Addr}{fd:FuncData}(F:Fun K "turned_name" "turned_name" gB f fd):FnOk P w K mg base CX0 1 f fd ["deed"] mU:=by
 refine F.okQ pU (fun vs H Q E h=>?_) (fun cdv A outer s H vs Q E hr h=>?_)
 ·obtain⟨v,d,k,rfl,_⟩:=h;rfl
 obtain⟨v,⟨n,wd⟩,k,rfl,⟨dd,c,wa,cs,rfl,h2,h3,h4,r,h5,h6⟩,hw,q⟩:=h;refine⟨_,(b_1 (aF (aE (q_a (aj ai (q_v 0) af) (q_a (aj ai (aj ai (q_v 0) af) af) ag))))),?_⟩
 try rw[cxK]
 have e1:=SqT.of (K:=K) h2;rcases hw with rfl|rfl
 ·obtain rfl:r=[.int k]:=h6;exact(vix rfl e1 at0 (de rfl e1 at2 (SqT.of h5) at1 ⟨sz rfl,fun t g=>q t _ (ad g _) ae⟩))
 ·obtain rfl:r=[.int k]:=h6;exact(vix rfl e1 at0 (de rfl e1 at2 (SqT.of h5) at1 ⟨sz rfl,fun t g=>q t _ (ad g _) ae⟩))
def cZ(ts:As Dd)(d:Dd):As Dd:=match d.2 with
 |.off k=>bo ts (d.1.1,k) d
 |.on k=>bo ts (d.1.1,k) d
 |_=>ts
def ao(ds:List Dd):As Dd:=ds.foldl cZ []
theorem D7{ts:As Dd}{d:Dd}(h:d.2.isTurn=false):cZ ts d=ts:=by obtain⟨n,wd⟩:=d;cases wd<;>first|rfl|cases h
theorem BK(ts:As Dd)(d:Dd):(cZ ts d).length<=ts.length+1:=by obtain⟨n,wd⟩:=d;cases wd<;>first|exact fH _ _ _|exact Nat.le_succ _
theorem uO(ds:List Dd):(ao ds).length<=ds.length:=by
 have gen:∀(ds:List Dd) (ts:As Dd),(ds.foldl cZ ts).length<=ts.length+ds.length:=fun ds=>by
  induction ds with
  |nil=>intro ts;exact Ze _
  |cons d ds ih =>intro ts;have h1:=ih (cZ ts d);have h2:=BK ts d;rw[List.foldl_cons,Zm];omega
 have:=gen ds [];unfold ao;simpa using this
theorem bG{α β:Type}{R:α->β->Prop}{xs:List α}{ys:List β}(x:Paired R xs ys):∀{i:Nat} {a:α},xs[i]?=some a->∃b,ys[i]?=some b/\R a b:=by
 induction x with
 |nil=>intro i a h;simp at h
 |@cons p q _ _ r _ ih =>
  intro i a h;cases i with
  |zero=>cases h;exact⟨q,rfl,r⟩
  |succ i=>exact ih h
abbrev mZ(H:Hp)(vs:List V)(ds:List Dd):Prop:=Paired (DdAt H) vs ds
abbrev TsAt(H:Hp)(kvs:List (List Key×V))(ts:As Dd):Prop:=Rws (DdAt H) kvs ts
theorem TsAt.ts{H H':Hp}{kvs:List (List Key×V)}{ts:As Dd}(x:TsAt H kvs ts)(t:TS H H'):TsAt H' kvs ts:=Paired.mapP x fun _ _ z=>⟨z.1,z.2.ts t⟩
def tW:Sp:=fun vs H Q _=>∃(l:Addr) (xs:List V) (ds:List Dd),vs=[.ref l]/\H l=some (.lst xs)/\mZ H xs ds/\ds.length<=300/\∀a tvs H',Same H H'->H' a=some (.dT tvs)->TsAt H' tvs (ao ds)->Q (.ref a) H'
abbrev iu:Stmt:=top 24
abbrev rR:List Str:=["ready","turns","deed"]
theorem gC:FnScope rR ["ready"] (al iu):=⟨rfl,rfl,rfl,by decide +kernel,rfl,by decide +kernel,by decide +kernel⟩
theorem qY{f:Addr}{fd:FuncData}(F:Fun K "last_turns" "last_turns" iu f fd)(F_is_turn:Fn P w K mg base 1 "is_turn" ["deed"] jW)(F_turned_name:Fn P w K mg base 1 "turned_name" ["deed"] mU):FnOk P w K mg base CX0 2 f fd ["ready"] tW:=by
 refine F.okQ gC (fun vs H Q E h=>?_) (fun cdv A outer s H vs Q E hr h=>?_)
 ·obtain⟨l,xs,ds,rfl,_⟩:=h;rfl
 obtain⟨l,xs,ds,rfl,hl,hd,l3,q⟩:=h;have ll:=ZV hd;refine⟨_,(b_c (aH (i:=1) gC.nd jO)
   (b_c (dC Yc rfl (bu (q_v 0)) (aI (i:=2) gC.nd) (b_1 (aW (dD (aB F_is_turn (hr.mono (by decide)) (q_a (q_v 2) ag))) (b_1 (dU hr.units (q_v 1) (aB F_turned_name (hr.mono (by decide)) (q_a (q_v 2) ag)) (q_v 2))) b_0)))
   (b_1 (aF (q_v 1))))),?_⟩
 try rw[cxK]
 intro a ga;have wa:=ad ga (.dT []);refine⟨_,rfl,l,rfl,⟨_,SqL.of (wa _ _ hl)⟩,?_⟩;refine jD (K:=K) (a:=l) (xs:=xs) (fun i σ H'=>Same H H'/\∃(tvs:List (List Key×V)) (o2:Option V),H' a=some (.dT tvs)/\TsAt H' tvs (ao (ds.take i))/\σ=[some (.ref l),some (.ref a),o2])
  ⟨wa,[],none,ae,.nil,rfl⟩ (fun i σ H' _ z=>SqL.of (z.1 _ _ hl)) ?_ ?_
 ·rintro i v σ H' hv ⟨sm,tvs,o2,ha,ht,rfl⟩;obtain⟨d,hdi,hdd⟩:=bG hd hv;have hi:i<ds.length:=(Zx.mp hdi).1;have et:ao (ds.take (i+1))=cZ (ao (ds.take i)) d:=by unfold ao;rw[List.take_succ,hdi,List.foldl_append];rfl
  have tl:tvs.length<=300:=by have:=uO (ds.take i);rw[ZM]at this;have:=dJ ht;omega
  refine⟨_,rfl,v,d,rfl,hdd.ts (Same.ts sm),fun H1 s1=>⟨_,rfl,?_⟩⟩;cases c:d.2.isTurn with
  |false =>refine aJ ⟨sm.trans s1,tvs,_,s1 _ _ ha,?_,rfl⟩;rw[et,D7 c];exact ht.ts (Same.ts s1)
  |true =>
   obtain⟨k,hk⟩:∃k,d.2=.off k\/d.2=.on k:=by
    obtain⟨n,wd⟩:=d;cases wd with
    |off k=>exact⟨k,.inl rfl⟩
    |on k=>exact⟨k,.inr rfl⟩
    |_=>cases c
   have es:cZ (ao (ds.take i)) d=bo (ao (ds.take i)) (d.1.1,k) d:=by obtain⟨n,wd⟩:=d;rcases hk with hk|hk<;>(dsimp only at hk;subst hk;rfl)
   refine aR ⟨_,rfl,_,rfl,_,rfl,v,d,k,rfl,hdd.ts (Same.ts (sm.trans s1)),hk,fun t H2 s2 e2=>⟨a,_,rfl,DPut.t (k:=nk (d.1.1,k)) (s2 _ _ (s1 _ _ ha)) e2 (aO (by omega)),?_⟩⟩;have s12:=sm.trans (s1.trans s2);have td:TS H2 (upd H2 a (.dT (aK tvs (nk (d.1.1,k)) v))):=iG (s2 _ _ (s1 _ _ ha));refine⟨bO s12 ga,_,_,ae,?_,rfl⟩;rw[et,es];exact TsAt.ts (dL (ht.ts (Same.ts (s1.trans s2))) (hdd.ts (Same.ts s12))) td
 ·rintro σ H' ⟨sm,tvs,o2,ha,ht,rfl⟩;rw[ll,ZN]at ht;exact⟨_,rfl,q a tvs H' sm ha ht⟩
def bA:Option Dd->Bool
 |some (_,.off _)=>true
 |_=>false
def bg(d:Dd)(ts:As Dd):Bool:=!d.2.isTurn&&bA (look ts d.1)
def vM:Sp:=fun vs H Q _=>∃(v:V) (d:Dd) (a:Addr) (tvs:List (List Key×V)) (ts:As Dd),vs=[v,.ref a]/\DdAt H v d/\H a=some (.dT tvs)/\TsAt H tvs ts/\∀H',Same H H'->Q (.bl (bg d ts)) H'
theorem AV(d:Dd):decide (V.str d.2.word=V.str "off")=bA (some d):=by obtain⟨n,wd⟩:=d;cases wd<;>rfl
abbrev mP:Stmt:=top 25
abbrev zZ:List Str:=["deed","turns","name"]
theorem qE:FnScope zZ ["deed","turns"] (al mP):=⟨rfl,rfl,rfl,by decide +kernel,rfl,by decide +kernel,by decide +kernel⟩
theorem yI{f:Addr}{fd:FuncData}(F:Fun K "is_off" "is_off" mP f fd)(F_name_of:Fn P w K mg base 1 "name_of" ["deed"] bW)(F_is_turn:Fn P w K mg base 1 "is_turn" ["deed"] jW):FnOk P w K mg base CX0 2 f fd ["deed","turns"] vM:=by
 refine F.okQ qE (fun vs H Q E h=>?_) (fun cdv A outer s H vs Q E hr h=>?_)
 ·obtain⟨v,d,a,tvs,ts,rfl,_⟩:=h;rfl
 obtain⟨v,d,a,tvs,ts,rfl,hd,ha,ht,q⟩:=h;refine⟨_,(b_c (aH (i:=2) qE.nd (aB F_name_of (hr.mono (by decide)) (q_a (q_v 0) ag)))
   (b_1 (aF (gI (lG (aB F_is_turn (hr.mono (by decide)) (q_a (q_v 0) ag))) (gI (Cg hr.units (q_v 2) (q_v 1)) (jP (eE bH (aj ai (aj ai (di hr.units (q_v 1) (q_v 2)) af) af) am))))))),?_⟩
 try rw[cxK]
 refine⟨_,rfl,v,d,rfl,hd,fun t H1 s1 e1=>?_⟩;refine⟨_,rfl,v,d,rfl,hd.ts (Same.ts s1),fun H2 s2=>?_⟩;have s12:=s1.trans s2;have q':=fun H' s=>q H' s;unfold bg at q';cases c:d.2.isTurn with
 |true =>rw[c]at q';exact⟨_,rfl,_,rfl,aJ (q' H2 s12)⟩
 |false =>
  rw[c]at q';refine⟨_,rfl,_,rfl,aR ?_⟩;refine⟨_,rfl,_,rfl,a,_,rfl,DGet.t (k:=nk d.1) (s12 _ _ ha) (s2 _ _ e1),?_⟩;cases e:look ts d.1 with
  |none =>rw[cV ht e];rw[e]at q';exact⟨_,rfl,aJ (q' H2 s12)⟩
  |some d' =>obtain⟨v',f1,dd,c',wa,cs,rfl,h2,h3,h4,r,h5,h6⟩:=bq ht e;rw[f1];rw[e]at q';refine⟨_,rfl,aR ?_⟩;refine⟨_,rfl,_,rfl,a,.ref dd,rfl,f1▸DGet.t (k:=nk d.1) (s12 _ _ ha) (s2 _ _ e1),dd,_,_,_,rfl,rfl,SqT.of (s12 _ _ h2),at2,wa,_,_,_,rfl,rfl,SqT.of (s12 _ _ h5),at0,rfl,?_⟩;rw[AV];exact q' H2 s12
def iE(n:Nm):Wd->Option Sd
 |.put u pl tx=>some (.put n u pl tx)
 |.write m tx=>some (.write m tx)
 |.mark m b=>some (.mark m b)
 |_=>none
def tX:Sp:=fun vs H Q _=>∃(v:V) (d:Dd) (s:Sd),vs=[v]/\DdAt H v d/\iE d.1 d.2=some s/\∀st H',Same H H'->StAt H' st s->Q (.ref st) H'
theorem BQ{wd:Wd}(h:∀u pl tx,wd≠.put u pl tx):V.str wd.word≠V.str "put"/\V.str wd.word≠V.str "part":=by
 cases wd with
 |put u pl tx=>exact absurd rfl (h u pl tx)
 |_=>exact⟨by simp only[Wd.word,ne_eq];decide +kernel,by simp only[Wd.word,ne_eq];decide +kernel⟩
theorem BG{H:Hp}{wa:Addr}{n:Nm}{wd:Wd}{s:Sd}(h:∀u pl tx,wd≠.put u pl tx)(hs:iE n wd=some s)(x:WhAt H wa wd):StAt H wa s:=by
 obtain⟨r,h5,h6⟩:=x;cases wd with
 |put u pl tx=>exact absurd rfl (h u pl tx)
 |write=>cases hs;obtain⟨nv,rfl,a1⟩:=h6;exact⟨nv,h5,a1⟩
 |mark=>cases hs;obtain⟨nv,rfl,a1⟩:=h6;exact⟨nv,h5,a1⟩
 |_=>cases hs
abbrev kJ:Stmt:=top 28
abbrev xP:List Str:=["deed","what"]
theorem og:FnScope xP ["deed"] (al kJ):=⟨rfl,rfl,rfl,by decide +kernel,rfl,by decide +kernel,by decide +kernel⟩
theorem xm{f:Addr}{fd:FuncData}(F:Fun K "step_of" "step_of" kJ f fd)(F_name_of:Fn P w K mg base 1 "name_of" ["deed"] bW):FnOk P w K mg base CX0 2 f fd ["deed"] tX:=by
 refine F.okQ og (fun vs H Q E h=>?_) (fun cdv A outer s H vs Q E hr h=>?_)
 ·obtain⟨v,d,sd,rfl,_⟩:=h;rfl
 obtain⟨v,⟨n,wd⟩,sd,rfl,hd,hs,q⟩:=h;obtain⟨dd,c,wa,cs,rfl,h2,h3,h4,r,h5,h6⟩:=id hd;refine⟨_,(b_c (aH (i:=1) og.nd (aj ai (q_v 0) af))
   (b_c (aW (aG bH (aj ai (q_v 1) af) am) (b_1 (aF (aM fS (aE (q_a am (q_a (aB F_name_of (hr.mono (by decide)) (q_a (q_v 0) ag)) ag))) (fD dR (q_v 1) (eX af) gq)))) b_0)
   (b_c (aW (aG bH (aj ai (q_v 1) af) am) (b_1 (aF (aM fS (aM fS (fD dR (q_v 1) gq (eX af)) (aE (q_a (aB F_name_of (hr.mono (by decide)) (q_a (q_v 0) ag)) ag))) (fD dR (q_v 1) (eX af) gq)))) b_0)
   (b_1 (aF (q_v 1)))))),?_⟩
 try rw[cxK]
 have e5:=SqT.of (K:=K) h5;refine(vix rfl (SqT.of h2) at2 ?_);by_cases c1:∃u pl tx,wd=.put u pl tx
 ·obtain⟨u,pl,tx,rfl⟩:=c1;cases hs;obtain⟨uv,pv,rfl,a1,a2⟩:=h6;refine(vix rfl e5 at0 ⟨rfl,_,rfl,gW ?_⟩);refine⟨_,rfl,_,_,rfl,hd,fun t H1 s1 e1=>⟨sz rfl,fun y gy=>?_⟩⟩;have wy:=ad gy (.tup [.str "put",.ref t]);refine⟨_,rfl,_,rfl,wa,_,rfl,wy _ _ (s1 _ _ h5),fun z H2 s2 e2=>⟨y,z,_,_,rfl,rfl,s2 _ _ ae,e2,sz rfl,fun st H3 s3 e3=>?_⟩⟩;have sm:Same H H3:=s1.trans (wy.trans (s2.trans s3));exact q st H3 sm ⟨.ref t,uv,pv,e3,⟨t,rfl,s3 _ _ (s2 _ _ (wy _ _ e1))⟩,a1.ts (Same.ts sm),a2.ts (Same.ts sm)⟩
 have n1:∀u pl tx,wd≠.put u pl tx:=fun u pl tx z=>c1 ⟨u,pl,tx,z⟩;obtain⟨w1,w2⟩:=BQ n1;refine(vix rfl e5 at0 ⟨rfl,_,rfl,bZ w1 ?_⟩);refine(vix rfl e5 at0 ⟨rfl,_,rfl,bZ w2 ?_⟩);exact⟨_,rfl,q wa H (Same.refl H) (BG n1 hs ⟨r,h5,h6⟩)⟩
theorem pW(c:Addr)(b:List Value):(Value.ref c::b).contains (.ref c)=true:=by simp
structure ErF(K:PySem.W.Frag)(cN cB cF:Addr)(bN bB bF:List Value):Prop where
 eN:ExC K cN bN
 eB:ExC K cB bB
 eF:ExC K cF bF
 bn:(Value.ref cB::bB).contains (.ref cN)=false
 fn:(Value.ref cF::bF).contains (.ref cN)=false
 fb:(Value.ref cF::bF).contains (.ref cB)=false
def fu(ol:Ol)(s:Sd):Prop:=∀n∈s.items,(look ol n).isSome=true
structure Ready(ol:Ol)(s:Sd):Prop where
 nw:∀n∈s.news,look ol n=none
 bd:fu ol s->∃r,Bd ol s r
structure Small(ol:Ol):Prop where
 len:ol.length<=300
 txt:∀n it,look ol n=some it->it.tx.length<=400
inductive WordR(ol:Ol)(s:Sd):Str->Ol->Prop
 |none:¬fu ol s->WordR ol s "none" ol
 |beneath:fu ol s->Bd ol s (some true)->WordR ol s "beneath" ol
 |far:fu ol s->Bd ol s (some false)->WordR ol s "far" ol
 |done {ol':Ol}:fu ol s->Bd ol s none->Ap ol s ol'->WordR ol s "done" ol'
def tY(C:Addr):Sp:=fun vs H Q _=>∃(p d g st:Addr) (ol:Ol) (s:Sd),vs=[.ref p,.ref st]/\OlAt C H p d g ol/\Small ol/\StAt H st s/\Ready ol s/\∀w ol' H',WordR ol s w ol'->But d H H'->OlAt C H' p d g ol'->Q (.str w) H'
abbrev fG:Stmt:=top 29
abbrev oH:List Str:=["outline","step"]
theorem oh:FnScope oH ["outline","step"] (al fG):=⟨rfl,rfl,rfl,by decide +kernel,rfl,by decide +kernel,by decide +kernel⟩
theorem nS{f C cN cB cF:Addr}{fd:FuncData}{bN bB bF:List Value}(F:Fun K "word_of_step" "word_of_step" fG f fd)(MX_step:MFnX P w K mg base 4 C "step" ["self","step"] (lO C cN cB cF))(R:ErF K cN cB cF bN bB bF)(g_NoItem:mg "NoItem" = some (.ref cN))(g_Beneath:mg "Beneath" = some (.ref cB))(g_Far:mg "Far" = some (.ref cF)):FnOk P w K mg base CX0 5 f fd ["outline","step"] (tY C):=by
 have xc_NoItem:=R.eN;have xc_Beneath:=R.eB;have xc_Far:=R.eF;refine F.okQ oh (fun vs H Q E h=>?_) (fun cdv A outer s H vs Q E hr h=>?_)
 ·obtain⟨p,d,g,st,ol,sd,rfl,_⟩:=h;rfl
 obtain⟨p,d,g,st,ol,sd,rfl,O,sm,hs,rd,q⟩:=h;obtain⟨kvs,S,_⟩:=id O;obtain⟨⟨dx,h1⟩,h2,h3,h4⟩:=id S;refine⟨_,(b_c (Gg rfl rfl (D2 (GE MX_step (hr.mono (by decide)) (q_v 0) (q_a (q_v 1) ag))) (Ay xc_NoItem g_NoItem (fun _=>(b_1 (aF am))) (Ay xc_Beneath g_Beneath (fun _=>(b_1 (aF am))) (Ay xc_Far g_Far (fun _=>(b_1 (aF am))) Ha))))
   (b_1 (aF am))),?_⟩
 try rw[cxK]
 refine⟨_,rfl,p,dx,_,rfl,h1,hZ _ _,_,rfl,p,d,g,st,ol,sd,rfl,O,sm.len,hs,rd.nw,sm.txt,?_⟩;by_cases c:fu ol sd
 ·obtain⟨r,hb⟩:=rd.bd c;refine .inr ⟨c,r,hb,fun e H1 s1=>?_,fun e H1 s1=>?_,fun e H1 ol' b1 o1 ap=>?_⟩
  ·subst e;exact⟨cB,bB,rfl,R.eB,by rw[R.bn];exact aJ ⟨cB,bB,rfl,R.eB,by rw[pW];exact aR (q _ _ _ (.beneath c hb) (But.of s1) (O.same s1))⟩⟩
  ·subst e;exact⟨cF,bF,rfl,R.eF,by rw[R.fn];exact aJ ⟨cF,bF,rfl,R.eF,by rw[R.fb];exact aJ ⟨cF,bF,rfl,R.eF,by rw[pW];exact aR (q _ _ _ (.far c hb) (But.of s1) (O.same s1))⟩⟩⟩
  ·subst e;exact q _ _ _ (.done c hb ap) b1 o1
 ·refine .inl ⟨c,fun H1 dd s1=>?_⟩;exact⟨cN,bN,rfl,R.eN,by rw[pW];exact aR (q _ _ _ (.none c) (But.of s1) (O.same s1))⟩
def SoAt(H:Hp)(sv:V):Option Sd->Prop
 |none=>sv=.non
 |some s=>∃st,sv=.ref st/\StAt H st s
theorem SoAt.ts{H H':Hp}{sv:V}{so:Option Sd}(x:SoAt H sv so)(t:TS H H'):SoAt H' sv so:=by
 cases so with
 |none=>exact x
 |some s=>obtain⟨st,h1,h2⟩:=x;exact⟨st,h1,h2.ts t⟩
def rE(ol:Ol):Wd->Bool
 |.put (some m) _ _=>!(look ol m).isSome
 |_=>false
inductive PlayR(ol:Ol)(n:Nm):Wd->Str->Option Sd->Ol->Prop
 |none:PlayR ol n .none "done" none ol
 |take {m:Nm}:PlayR ol n (.take m) (if(look ol m).isSome=true then"done" else"none") none ol
 |back {m:Nm}:PlayR ol n (.back m) (if(look ol m).isSome=true then"done" else"none") none ol
 |top {m:Nm} {pl:List Int} {tx:Str}:look ol m=none->PlayR ol n (.put (some m) pl tx) "top" (some (.put n none pl tx)) (bo ol n ⟨none,pl,tx,false,none,false⟩)
 |step {wd:Wd} {s:Sd} {w:Str} {ol':Ol}:iE n wd=some s->rE ol wd=false->WordR ol s w ol'->PlayR ol n wd w (if w="done" then some s else none) ol'
def zt(C:Addr):Sp:=fun vs H Q _=>∃(v:V) (dd:Dd) (p d g:Addr) (ol:Ol),vs=[v,.ref p]/\DdAt H v dd/\OlAt C H p d g ol/\Small ol/\dd.2.isTurn=false/\(∀s,iE dd.1 dd.2=some s->Ready ol s) /\
 ∀w so ol' t sv H',PlayR ol dd.1 dd.2 w so ol'->But d H H'->OlAt C H' p d g ol'->H' t=some (.tup [.str w,sv])->SoAt H' sv so->Q (.ref t) H'
theorem uk{n:Nm}{wd:Wd}(h:wd.isTurn=false):wd=.none\/(∃m,wd=.take m\/wd=.back m)\/∃s,iE n wd=some s:=by
 cases wd with
 |none=>exact .inl rfl
 |take m=>exact .inr (.inl ⟨m,.inl rfl⟩)
 |back m=>exact .inr (.inl ⟨m,.inr rfl⟩)
 |off k=>cases h
 |on k=>cases h
 |_=>exact .inr (.inr ⟨_,rfl⟩)
theorem Eb{n:Nm}{wd:Wd}{s:Sd}(h:iE n wd=some s):V.str wd.word≠V.str "none"/\inV (.str wd.word) [.str "take",.str "back"]=false:=by cases wd<;>first|exact⟨by simp only[Wd.word,ne_eq];decide +kernel,rfl⟩|cases h
theorem Ec{ol ol':Ol}{s:Sd}{w:Str}(h:WordR ol s w ol'):w="done"\/V.str w≠V.str "done":=by
 cases h with
 |done=>exact .inl rfl
 |_=>exact .inr (by decide +kernel)
abbrev tP:Stmt:=top 27
abbrev Em:List Str:=["deed","outline","what","step","word"]
theorem jj:FnScope Em ["deed","outline"] (al tP):=⟨rfl,rfl,rfl,by decide +kernel,rfl,by decide +kernel,by decide +kernel⟩
theorem De{f C cN cB cF:Addr}{fd:FuncData}(F:Fun K "play" "play" tP f fd)(M_holds:MFn P w K mg base 1 C "holds" ["self","name"] (vL C))(MX_step:MFnX P w K mg base 4 C "step" ["self","step"] (lO C cN cB cF))(F_step_of:Fn P w K mg base 2 "step_of" ["deed"] tX)(F_word_of_step:Fn P w K mg base 5 "word_of_step" ["outline","step"] (tY C)) :
  FnOk P w K mg base CX0 6 f fd ["deed","outline"] (zt C):=by
 refine F.okQ jj (fun vs H Q E h=>?_) (fun cdv A outer s H vs Q E hr h=>?_)
 ·obtain⟨v,dd,p,d,g,ol,rfl,_⟩:=h;rfl
 obtain⟨v,⟨n,wd⟩,p,d,g,ol,rfl,hd,O,sm,nt,rd,q⟩:=h;obtain⟨da,c,wa,cs,rfl,h2,h3,h4,r,h5,h6⟩:=id hd;obtain⟨kvs,S,_⟩:=id O;obtain⟨⟨dx,y1⟩,y2,y3,y4⟩:=id S;refine⟨_,(b_c (aH (i:=2) jj.nd (aj ai (q_v 0) af))
   (b_c (aW (aG bH (aj ai (q_v 2) af) am) (b_1 (aF (aE (q_a am (q_a bU ag))))) b_0)
   (b_c (aW (aG (gH (K:=K) rfl) (aj ai (q_v 2) af) (aE (q_a am (q_a am ag)))) (b_1 (aF (aE (q_a (xp (dD (eW M_holds (hr.mono (by decide)) (q_v 1) (q_a (aj ai (q_v 2) af) ag))) am am) (q_a bU ag))))) b_0)
   (b_c (aH (i:=3) jj.nd (aB F_step_of (hr.mono (by decide)) (q_a (q_v 0) ag)))
   (b_c (kG (aW (t_w (df (aG bH (aj ai (q_v 2) af) am) (df (aG jb (aj ai (q_v 2) af) bU) (cU (HJ (dD (eW M_holds (hr.mono (by decide)) (q_v 1) (q_a (aj ai (q_v 2) af) ag)))))))) (b_c (aH (i:=3) jj.nd (aE (q_a am (q_a (aj ai (q_v 3) af) (q_a bU (q_a (aj ai (q_v 3) af) (q_a (aj ai (q_v 3) af) ag)))))))
   (b_c (bP (lF MX_step lB (hr.mono (by decide)) (q_v 1) (q_a (q_v 3) ag)))
   (b_1 (aF (aE (q_a am (q_a (q_v 3) ag))))))) b_0))
   (b_c (aH (i:=4) jj.nd (aB F_word_of_step (hr.mono (by decide)) (q_a (q_v 1) (q_a (q_v 3) ag))))
   (b_1 (aF (aE (q_a (q_v 4) (q_a (xp (aG bH (q_v 4) am) (q_v 3) bU) ag))))))))))),?_⟩
 try rw[cxK]
 have e5:=SqT.of (K:=K) h5;refine(vix rfl (SqT.of h2) at2 ?_);rcases uk (n:=n) nt with rfl|⟨m,hm⟩|⟨sd,hs⟩
 ·refine(vix rfl e5 at0 ⟨rfl,_,rfl,gW ?_⟩);exact⟨sz rfl,fun t gt=>q _ _ _ t _ _ .none (But.of (ad gt _)) (O.same (ad gt _)) ae rfl⟩
 ·have key:∃nv,r=[nv]/\NameIs H nv (nk m)/\V.str wd.word≠V.str "none"/\inV (.str wd.word) [.str "take",.str "back"]=true/\PlayR ol n wd (if(look ol m).isSome=true then"done" else"none") none ol:=by
   rcases hm with rfl|rfl
   ·obtain⟨nv,e,hn⟩:=h6;exact⟨nv,e,hn,by simp only[Wd.word,ne_eq];decide +kernel,rfl,.take⟩
   ·obtain⟨nv,e,hn⟩:=h6;exact⟨nv,e,hn,by simp only[Wd.word,ne_eq];decide +kernel,rfl,.back⟩
  obtain⟨nv,rfl,hn,w1,w2,pr⟩:=key;refine(vix rfl e5 at0 ⟨rfl,_,rfl,bZ w1 ?_⟩);refine(vix rfl e5 at0 ⟨sz rfl,fun u gu=>?_⟩);have wu:=ad gu (.tup [.str "take",.str "back"]);refine⟨u,_,rfl,.inr (SqT.of ae),rfl,rfl,_,rfl,?_⟩;have ei:(if false=true then !inV (V.str wd.word) [.str "take",.str "back"]else inV (V.str wd.word) [.str "take",.str "back"])=true:=w2;rw[ei];refine aR ?_;refine⟨_,rfl,p,dx,_,rfl,wu _ _ y1,hZ _ _,vix rfl (SqT.of (wu _ _ h5)) at1 ⟨p,d,g,ol,nv,m,rfl,O.same wu,hn.same wu,_,rfl,?_⟩⟩;cases c:(look ol m).isSome with
  |true =>rw[c]at pr;exact aR ⟨sz rfl,fun t gt=>q _ _ _ t _ _ pr (But.of (wu.trans (ad gt _))) (O.same (wu.trans (ad gt _))) ae rfl⟩
  |false =>rw[c]at pr;exact aJ ⟨sz rfl,fun t gt=>q _ _ _ t _ _ pr (But.of (wu.trans (ad gt _))) (O.same (wu.trans (ad gt _))) ae rfl⟩
 ·obtain⟨w1,w2⟩:=Eb hs;have ready:=rd sd hs;refine(vix rfl e5 at0 ⟨rfl,_,rfl,bZ w1 ?_⟩);refine(vix rfl e5 at0 ⟨sz rfl,fun u gu=>?_⟩);have wu:=ad gu (.tup [.str "take",.str "back"]);refine⟨u,_,rfl,.inr (SqT.of ae),rfl,rfl,_,rfl,?_⟩;have ei:(if false=true then !inV (V.str wd.word) [.str "take",.str "back"]else inV (V.str wd.word) [.str "take",.str "back"])=false:=w2;rw[ei];refine aJ ?_;refine⟨_,rfl,_,_,sd,rfl,hd.ts (Same.ts wu),hs,fun st H2 s2 hst=>?_⟩;have s02:Same H H2:=wu.trans s2;have O2:=O.same s02;have y2':=s02 _ _ y1;have e52:=SqT.of (K:=K) (s02 _ _ h5);refine gZ (fun σ H'=>Same H H'/\StAt H' st sd/\rE ol wd=false/\σ=[some (.ref da),some (.ref p),some (.ref wa),some (.ref st),none]) ?_ ?_
  ·intro RJ hRJ;by_cases c1:∃u pl tx,wd=.put u pl tx
   ·obtain⟨u,pl,tx,rfl⟩:=c1;cases hs;obtain⟨uv,pv,rfl,a1,a2⟩:=h6;refine(vix rfl e52 at0 ⟨rfl,_,rfl,gW ?_⟩);cases u with
    |none =>obtain rfl:uv=.non:=a1;exact(vix rfl e52 at1 ⟨rfl,_,rfl,nG rfl (aJ (hRJ _ _ ⟨s02,hst,rfl,rfl⟩))⟩)
    |some m =>
     obtain⟨mb,rfl,hmb⟩:=id a1;refine(vix rfl e52 at1 ⟨rfl,_,rfl,kX (by intro z;cases z) ?_⟩);refine⟨_,rfl,p,dx,_,rfl,y2',hZ _ _,vix rfl e52 at1 ⟨p,d,g,ol,_,m,rfl,O2,⟨mb,rfl,s02 _ _ hmb⟩,_,rfl,?_⟩⟩;cases c:look ol m with
     |some it=>exact aJ (hRJ _ _ ⟨s02,hst,(by show(!(look ol m).isSome)=false;rw[c];rfl),rfl⟩)
     |none =>
      refine aR ?_;obtain⟨nv,uv',pv',f1,f2,f3,f4⟩:=id hst;have ef:=SqT.of (K:=K) f1;refine(vix rfl ef at1 (vix rfl ef at3 (vix rfl ef at4 ⟨sz rfl,fun s' gs=>?_⟩)));have ws:=ad gs (.tup [.str "put",nv,.non,pv',.str tx]);have s03:=s02.trans ws;have est:StAt (upd H2 s' (.tup [.str "put",nv,.non,pv',.str tx])) s' (.put n none pl tx):=⟨nv,.non,pv',ae,f2.same ws,rfl,f4.ts (Same.ts ws)⟩
      refine⟨_,rfl,p,dx,_,rfl,ws _ _ y2',hZ _ _,_,rfl,p,d,g,s',ol,.put n none pl tx,rfl,O.same s03,sm.len,est,ready.nw,sm.txt,.inr ⟨(fun m hm=>by simp[Sd.items]at hm),none,.put,(fun z=>nomatch z),(fun z=>nomatch z),fun _ H3 ol' b3 o3 ap=>?_⟩⟩;cases ap;refine⟨_,rfl,sz rfl,fun t gt=>?_⟩;have wt:=ad gt (.tup [.str "top",.ref s']);have t3:=b3.ts (s03 _ _ y2);exact q _ _ _ t _ _ (.top c) (((But.of s03).trans b3).trans (But.of wt)) (o3.same wt) ae ⟨s',rfl,(est.ts t3).ts (Same.ts wt)⟩
   ·have nn:V.str wd.word≠V.str "put"/\rE ol wd=false:=by
     cases wd with
     |put u pl tx=>exact absurd ⟨u,pl,tx,rfl⟩ c1
     |_=>exact⟨by simp only[Wd.word,ne_eq];decide +kernel,rfl⟩
    exact(vix rfl e52 at0 ⟨rfl,_,rfl,bZ nn.1 (aJ (hRJ _ _ ⟨s02,hst,nn.2,rfl⟩))⟩)
  ·rintro σ H3 ⟨s03,hst3,nt',rfl⟩;refine⟨_,rfl,_,rfl,p,d,g,st,ol,sd,rfl,O.same s03,sm,hst3,ready,fun w ol' H4 wr b4 o4=>?_⟩;have pr:=PlayR.step hs nt' wr;have t4:=b4.ts (s03 _ _ y2);rcases Ec wr with rfl|nw
   ·rw[if_pos rfl]at pr;refine⟨_,rfl,_,rfl,rfl,_,rfl,gW ?_⟩;exact⟨_,rfl,sz rfl,fun t gt=>q _ _ _ t _ _ pr (((But.of s03).trans b4).trans (But.of (ad gt _))) (o4.same (ad gt _)) ae ⟨st,rfl,(hst3.ts t4).ts (Same.ts (ad gt _))⟩⟩
   ·rw[if_neg fun z=>nw (ZW V.str z)]at pr;refine⟨_,rfl,_,rfl,rfl,_,rfl,bZ nw ?_⟩;exact⟨sz rfl,fun t gt=>q _ _ _ t _ _ pr (((But.of s03).trans b4).trans (But.of (ad gt _))) (o4.same (ad gt _)) ae rfl⟩
abbrev Out:=Nm×Str×Option Sd
def turned:Dd->Nm
 |((i,_),.off k)=>(i,k)
 |((i,_),.on k)=>(i,k)
 |(n,_)=>n
def ay(ds:List Dd):List Nm:=(ds.filter (fun d=>d.2.isTurn)).map (·.1)
inductive Runs(ts:As Dd)(tn:List Nm):Ol->List Dd->List Out->Prop
 |nil {ol:Ol}:Runs ts tn ol [] []
 |off {ol:Ol} {d:Dd} {ds:List Dd} {rs:List Out}:bg d ts=true->Runs ts tn ol ds rs->Runs ts tn ol (d::ds) ((d.1,"off",none)::rs)
 |turn {ol:Ol} {d:Dd} {ds:List Dd} {rs:List Out}:bg d ts=false->d.2.isTurn=true->Runs ts tn ol ds rs->Runs ts tn ol (d::ds) ((d.1,if turned d∈tn then"turn" else"done",none)::rs)
 |play {ol ol':Ol} {d:Dd} {ds:List Dd} {rs:List Out} {w:Str} {so:Option Sd}:bg d ts=false->d.2.isTurn=false->PlayR ol d.1 d.2 w so ol'->Runs ts tn ol' ds rs->Runs ts tn ol (d::ds) ((d.1,w,so)::rs)
def eI(ts:As Dd):Ol->List Dd->Prop
 |_,[]=>True
 |ol,d::ds=>((bg d ts=true\/d.2.isTurn=true)->eI ts ol ds)/\(bg d ts=false->d.2.isTurn=false->Small ol/\(∀s,iE d.1 d.2=some s->Ready ol s)/\∀w so ol',PlayR ol d.1 d.2 w so ol'->eI ts ol' ds)
def RoAt(H:Hp)(v:V)(r:Out):Prop:=∃(t:Addr) (nv sv:V),v=.ref t/\H t=some (.tup [nv,.str r.2.1,sv])/\NameIs H nv (nk r.1)/\SoAt H sv r.2.2
theorem RoAt.ts{H H':Hp}{v:V}{r:Out}(x:RoAt H v r)(t:TS H H'):RoAt H' v r:=by obtain⟨a,nv,sv,h1,h2,h3,h4⟩:=x;exact⟨a,nv,sv,h1,t _ _ h2,h3.ts' t,h4.ts t⟩
def mT:Sp:=fun vs H Q _=>∃(l:Addr) (xs:List V) (ds:List Dd),vs=[.ref l]/\H l=some (.lst xs)/\mZ H xs ds/\ds.length<=300/\eI (ao ds) [] ds /\
 ∀a ys rs H',Same H H'->H' a=some (.lst ys)->Paired (RoAt H') ys rs->Runs (ao ds) (ay ds) [] ds rs->Q (.ref a) H'
theorem jM{H:Hp}{v:V}{n:Nm}(h:NameIs H v (nk n)):Dt H (.tuple [.int n.1,.int n.2]) v:=by obtain⟨b,rfl,e⟩:=h;simp only[Dt,DtAll];exact⟨b,_,rfl,.inl e,_,_,rfl,rfl,_,_,rfl,rfl,rfl⟩
def nmD(n:Nm):PyData:=.tuple [.int n.1,.int n.2]
theorem EZ{H:Hp}{vs:List V}{ns:List Nm}(x:Paired (fun v n=>NameIs H v (nk n)) vs ns):DtAll H (ns.map nmD) vs/\PyData.canLayAll0 (ns.map nmD)=true:=by
 induction x with
 |nil=>exact⟨by simp[DtAll],rfl⟩
 |@cons p q _ _ r _ ih =>
  refine⟨?_,?_⟩
  ·simp only[Zw,DtAll];exact⟨_,_,rfl,jM r,ih.1⟩
  ·simp only[Zw,PyData.canLayAll0,ih.2];simp[nmD,PyData.canLay0,PyData.canLayAll0]
theorem EY(k:Nm)(ns:List Nm):((ns.map nmD).any fun d=>PyData.eqv d (nmD k))=decide (k∈ns):=by
 induction ns with
 |nil=>rfl
 |cons n ns ih =>
  rw[Zw,Y6,ih];have:PyData.eqv (nmD n) (nmD k)=decide (k=n):=by
   have:=jw [n.1,n.2] [k.1,k.2];unfold nmD;rw[show([PyData.int n.1,.int n.2]:List PyData)=[n.1,n.2].map PyData.int from rfl,show([PyData.int k.1,.int k.2]:List PyData)=[k.1,k.2].map PyData.int from rfl,this,decide_eq_decide];constructor
   ·intro z;injection z with z1 z2;injection z2 with z2 _;exact Prod.ext z1.symm z2.symm
   ·rintro rfl;rfl
  rw[this,Bool.eq_iff_iff];simp
theorem bD{K:PySem.W.Frag}{a:Addr}{xs:List V}{n:Nat}{cap:List Nat}{g:TG}{tc:TT}{te:TE}{σ:St}{H0:Hp}{Q:VK}(Pv:Nat->List V->Hp->Prop)(hz:xs.length<=1000)(hn:∀i ys H,Pv i ys H->ys.length<=i)(h0:Pv 0 [] H0)(hl:∀i ys H,Pv i ys H->SqL K H a xs)(ht:∀i ys H x,xs[i]?=some x->Pv i ys H->∀Y:List V->Hp->Prop,(∀zs H4,Pv (i+1) zs H4->Y zs H4)->g x (cK n cap σ) H fun σ2 H2=>tc σ2 H2 fun b H3=>if b=true then te σ2 H3 fun y H4=>Y (ys++[y]) H4 else Y ys H3)(hq:∀ys p H,Pv xs.length ys H->H p=none->Q (.ref p) (upd H p (.lst ys))):iF n cap g tc te σ (Itl K a) H0 Q:=by refine qt (N:=xs.length) Pv hz hn h0 (fun i ys H hi z=>⟨xs,xs[i],hl i ys H z,by simp[hi]⟩) (fun ys H z=>⟨xs,hl _ ys H z,Ze _⟩) (fun i ys H x H' hi z y Y hY=>?_) hq;obtain rfl:H'=H:=y.1;exact ht i ys H' x (y.2 xs (hl i ys H' z)) z Y hY
theorem jK{ds:List Dd}{i:Nat}{d:Dd}(h:ds[i]?=some d):ay (ds.take (i+1))=ay (ds.take i)++if d.2.isTurn=true then[d.1]else[]:=by unfold ay;rw[List.take_succ,h,Yz,ZO];show _++(List.filter _ [d]).map _=_;cases c:d.2.isTurn<;>simp[c]
abbrev mQ:Stmt:=top 26
abbrev Aa:List Str:=["ready","turns","turning","outline","told","deed","outcome"]
theorem cO:FnScope Aa ["ready"] (al mQ):=⟨rfl,rfl,rfl,by decide +kernel,rfl,by decide +kernel,by decide +kernel⟩
theorem yJ{f C:Addr}{fd:FuncData}(F:Fun K "played" "played" mQ f fd)(F_last_turns:Fn P w K mg base 2 "last_turns" ["ready"] tW)(F_is_turn:Fn P w K mg base 1 "is_turn" ["deed"] jW)(F_name_of:Fn P w K mg base 1 "name_of" ["deed"] bW)(F_turned_name:Fn P w K mg base 1 "turned_name" ["deed"] mU)(F_is_off:Fn P w K mg base 2 "is_off" ["deed","turns"] vM)(F_play:Fn P w K mg base 6 "play" ["deed","outline"] (zt C))(Mk_Plain:MkFn P w K mg base 1 C "Plain" ["self"] (tV C)):FnOk P w K mg base CX0 7 f fd ["ready"] mT:=by
 refine F.okQ cO (fun vs H Q E h=>?_) (fun cdv A outer s H vs Q E hr h=>?_)
 ·obtain⟨l,xs,ds,rfl,_⟩:=h;rfl
 obtain⟨l,xs,ds,rfl,hl,hd,l3,safe,q⟩:=h;have ll:=ZV hd;refine⟨_,(b_c (aH (i:=1) cO.nd (aB F_last_turns (hr.mono (by decide)) (q_a (q_v 0) ag)))
   (b_c (jg (j:=2) cO.nd (own:=["deed"]) (⟨rfl,by decide +kernel,by decide +kernel,rfl,trivial⟩:CompOk _ _ [] []) rfl (bu (q_v 0)) (fun _ _ _ _=>aI (i:=0) (show (["deed"]:List Str).Nodup by decide +kernel)) (bf (by decide)) (fun _ _ _ _=>(jG (dD (aB F_is_turn (hr.mono (by decide)) (q_a (q_v 0) ag))))) (fun _ _ _ _=>(aB F_name_of (hr.mono (by decide)) (q_a (q_v 0) ag))))
   (b_c (aH (i:=3) cO.nd (vD Mk_Plain (hr.mono (by decide))))
   (b_c (aH (i:=4) cO.nd (cQ ag))
   (b_c (dC Yc rfl (bu (q_v 0)) (aI (i:=5) cO.nd) (b_c (kG (aW (dD (aB F_is_off (hr.mono (by decide)) (q_a (q_v 5) (q_a (q_v 1) ag)))) (b_1 (aH (i:=6) cO.nd (aE (q_a am (q_a bU ag))))) (b_1 (aW (dD (aB F_is_turn (hr.mono (by decide)) (q_a (q_v 5) ag))) (b_1 (aH (i:=6) cO.nd (aE (q_a (xp (aG (Hg hr) (aB F_turned_name (hr.mono (by decide)) (q_a (q_v 5) ag)) (q_v 2)) am am) (q_a bU ag))))) (b_1 (aH (i:=6) cO.nd (aB F_play (hr.mono (by decide)) (q_a (q_v 5) (q_a (q_v 3) ag)))))))))
   (b_1 (bP (gJ (q_v 4) (aM fS (aE (q_a (aB F_name_of (hr.mono (by decide)) (q_a (q_v 5) ag)) ag)) (q_v 6)))))))
   (b_1 (aF (q_v 4)))))))),?_⟩
 try rw[cxK]
 refine aC fun R0 hR0=>?_;refine⟨_,rfl,l,xs,ds,rfl,hl,hd,l3,fun a tvs H1 s1 ha ht=>hR0 _ _ ?_⟩;clear hR0 R0;refine aC fun R0 hR0=>?_;refine⟨_,rfl,l,rfl,⟨_,SqL.of (s1 _ _ hl)⟩,?_⟩;refine bD (fun i ys H'=>Same H1 H'/\ys.length<=i/\Paired (fun v n=>NameIs H' v (nk n)) ys (ay (ds.take i))) (by omega) (fun _ _ _ z=>z.2.1) ⟨Same.refl _,Ze _,.nil⟩ (fun i ys H' z=>SqL.of (z.1 _ _ (s1 _ _ hl))) ?_ ?_
 ·rintro i ys H' v hv ⟨sm,ly,pr⟩ Y hY;obtain⟨d,hdi,hdd⟩:=bG hd hv;have s1':=s1.trans sm;refine⟨_,rfl,v,d,rfl,hdd.ts (Same.ts s1'),fun H2 s2=>⟨_,rfl,?_⟩⟩;cases c:d.2.isTurn with
  |false =>refine aJ (hY _ _ ⟨sm.trans s2,by omega,?_⟩);rw[jK hdi,c,if_neg (by decide),ZL];exact Paired.mapP pr fun _ _ z=>z.same s2
  |true =>refine aR ⟨_,rfl,v,d,rfl,hdd.ts (Same.ts (s1'.trans s2)),fun t H3 s3 e3=>hY _ _ ⟨sm.trans (s2.trans s3),by rw[Zk];exact Yk ly,?_⟩⟩;rw[jK hdi,c,if_pos rfl];exact Yr (Paired.mapP pr fun _ _ z=>z.same (s2.trans s3)) ⟨t,rfl,e3⟩
 rintro nvs tl H2 ⟨sm2,lnv,prn⟩ gtl;rw[ll,ZN]at prn;have wtl:=ad gtl (.lst nvs);have etl:upd H2 tl (.lst nvs) tl=some (.lst nvs):=ae;have s02:Same H (upd H2 tl (.lst nvs)):=s1.trans (sm2.trans wtl);have ha2:=wtl _ _ (sm2 _ _ ha);have ht2:=ht.ts (Same.ts (sm2.trans wtl));have prn2:=Paired.mapP prn fun _ _ (z:NameIs _ _ _)=>z.same wtl;generalize upd H2 tl (.lst nvs)=H3 at etl s02 ha2 ht2 prn2 ⊢;clear ht prn ha sm2 wtl gtl;refine hR0 _ _ ?_;clear hR0 R0;refine aC fun R0 hR0=>?_;intro x dx nx ndx nex;refine⟨x,dx,rfl,ae,fun d g H4 fd0 fg0 S4 kp4=>⟨rfl,?_⟩⟩;have s34:Same H3 H4:=fun b o e=>kp4 b o (by rw[ah (au e nx),ah (au e ndx)];exact e) (au e nx);have s00:Same H3 (upd (upd H3 dx (.own x)) x (.ins C dx [])):=fun b o e=>by rw[ah (au e nx),ah (au e ndx)];exact e
 have d3:H3 d=none:=s00.free fd0;refine hR0 _ _ ?_;clear hR0 R0;refine aC fun R0 hR0=>?_;refine⟨sz rfl,fun to gto=>?_⟩;have wto:=ad gto (.lst []);have eto:upd H4 to (.lst []) to=some (.lst []):=ae;have s35:Same H3 (upd H4 to (.lst [])):=s34.trans wto;have O5:OlAt C (upd H4 to (.lst [])) x d g []:=⟨[],S4.same wto,.nil⟩
 have ndt:d≠to:=fun z=>by have:=S4.dc;rw[z,gto]at this;cases this
 have t3:H3 to=none:=s34.free gto;generalize upd H4 to (.lst [])=H5 at eto s35 O5 ⊢;refine hR0 _ _ ?_;clear hR0 R0;have kH:∀{H'},(∀b o,H3 b=some o->H' b=some o)->Same H H':=fun k b o e=>k b o (s02 _ _ e);refine aC fun R0 hR0=>?_;refine⟨_,rfl,l,rfl,⟨_,SqL.of (s35 _ _ (s02 _ _ hl))⟩,?_⟩;refine fR (K:=K) (a:=l) (xs:=xs) (fun i σ H'=>Same H3 H'/\∃ (ol:Ol) (ys:List V) (rs:List Out) (o5 o6:Option V),OlAt C H' x d g ol/\eI (ao ds) ol (ds.drop i)/\H' to=some (.lst ys)/\ys.length=i/\Paired (RoAt H') ys rs/\(∀ rs',Runs (ao ds) (ay ds) ol (ds.drop i) rs'->Runs (ao ds) (ay ds) [] ds (rs++rs')) /\
   σ=[some (.ref l),some (.ref a),some (.ref tl),some (.ref x),some (.ref to),o5,o6])
  ⟨s35,[],[],[],none,none,O5,safe,eto,rfl,.nil,fun rs' z=>z,rfl⟩ (fun i σ H' _ z=>SqL.of (z.1 _ _ (s02 _ _ hl))) ?_ ?_
 ·rintro i v σ H' hv ⟨sm,ol,ys,rs,o5,o6,O,sf,hto,ly,pr,run,rfl⟩ DL hDL;obtain⟨dd,hdi,hdd⟩:=bG hd hv;have hi:i<ds.length:=(Zx.mp hdi).1;have hdr:ds.drop i=dd::ds.drop (i+1):=by rw[Yw hi];rw[Zd hi]at hdi;rw[Zu hdi]
  rw[hdr]at sf run;have hd3:DdAt H3 v dd:=hdd.ts (Same.ts s02);have ddt:d≠to:=ndt;obtain⟨kvs0,S0,_⟩:=id O;refine gZ (fun σ H2=>∃ (u:Addr) (w:Str) (sv:V) (so:Option Sd) (ol':Ol),Same H3 H2/\H2 to=some (.lst ys)/\Paired (RoAt H2) ys rs/\OlAt C H2 x d g ol'/\eI (ao ds) ol' (ds.drop (i+1))/\H2 u=some (.tup [.str w,sv])/\SoAt H2 sv so /\
    (∀ rs',Runs (ao ds) (ay ds) ol' (ds.drop (i+1)) rs'->Runs (ao ds) (ay ds) ol (dd::ds.drop (i+1)) ((dd.1,w,so)::rs'))/\σ=[some (.ref l),some (.ref a),some (.ref tl),some (.ref x),some (.ref to),some v,some (.ref u)]) ?_ ?_
  ·intro RJ hRJ;refine⟨_,rfl,_,rfl,v,dd,a,tvs,ao ds,rfl,hd3.ts (Same.ts sm),sm _ _ ha2,ht2.ts (Same.ts sm),fun H6 s6=>⟨_,rfl,?_⟩⟩;have s36:=sm.trans s6;have prs:∀{H7},Same H' H7->Paired (RoAt H7) ys rs:=fun s7=>Paired.mapP pr fun _ _ z=>z.ts (Same.ts s7);cases c:bg dd (ao ds)with
   |true=>exact aR ⟨sz rfl,fun u gu=>hRJ _ _ ⟨u,"off",.non,none,ol,s36.trans (ad gu _),ad gu _ _ _ (s6 _ _ hto),prs (s6.trans (ad gu _)),O.same (s6.trans (ad gu _)),sf.1 (.inl c),ae,rfl,fun rs' z=>.off c z,rfl⟩⟩
   |false =>
    refine aJ ?_;refine⟨_,rfl,v,dd,rfl,hd3.ts (Same.ts s36),fun H7 s7=>⟨_,rfl,?_⟩⟩;have s67:=s6.trans s7;have s37:=sm.trans s67;cases c2:dd.2.isTurn with
    |true =>
     refine aR ?_;obtain⟨k,hk⟩:∃k,dd.2=.off k\/dd.2=.on k:=by
      obtain⟨n,wd⟩:=dd;cases wd with
      |off k=>exact⟨k,.inl rfl⟩
      |on k=>exact⟨k,.inr rfl⟩
      |_=>cases c2
     have tk:turned dd=(dd.1.1,k):=by obtain⟨⟨i,j⟩,wd⟩:=dd;rcases hk with hk|hk<;>(dsimp only at hk;subst hk;rfl)
     refine⟨_,rfl,v,dd,k,rfl,hd3.ts (Same.ts s37),hk,fun t H8 s8 e8=>?_⟩;have s78:=s67.trans s8;have s38:=sm.trans s78;obtain⟨dt1,dt2⟩:=EZ (Paired.mapP prn2 fun _ _ (z:NameIs _ _ _)=>z.same s38);refine⟨_,rfl,tl,nvs,nmD (dd.1.1,k),_,rfl,SqL.of (s38 _ _ etl),jM (n:=(dd.1.1,k)) ⟨t,rfl,e8⟩,dt1,by simp[SeqAt.shaped,nmD,PyData.canLay0,PyData.canLayAll0,PyData.depth,PyData.depthAll],dt2,_,rfl,?_⟩;have en:(if false=true then !((ay ds).map nmD).any (fun d=>PyData.eqv d (nmD (dd.1.1,k)))else((ay ds).map nmD).any (fun d=>PyData.eqv d (nmD (dd.1.1,k))))=decide (turned dd∈ay ds):=by rw[tk];exact EY _ _
     rw[en];refine gh (fun c3=>?_) (fun c3=>?_)
     ·exact⟨sz rfl,fun u gu=>hRJ _ _ ⟨u,"turn",.non,none,ol,s38.trans (ad gu _),ad gu _ _ _ (s78 _ _ hto),prs (s78.trans (ad gu _)),O.same (s78.trans (ad gu _)),sf.1 (.inr c2),ae,rfl,fun rs' z=>by have:=Runs.turn c c2 z;rw[if_pos c3]at this;exact this,rfl⟩⟩
     ·exact⟨sz rfl,fun u gu=>hRJ _ _ ⟨u,"done",.non,none,ol,s38.trans (ad gu _),ad gu _ _ _ (s78 _ _ hto),prs (s78.trans (ad gu _)),O.same (s78.trans (ad gu _)),sf.1 (.inr c2),ae,rfl,fun rs' z=>by have:=Runs.turn c c2 z;rw[if_neg c3]at this;exact this,rfl⟩⟩
    |false =>refine aJ ?_;obtain⟨small,rdy,nxt⟩:=sf.2 c c2;refine⟨_,rfl,_,rfl,v,dd,x,d,g,ol,rfl,hd3.ts (Same.ts s37),O.same s67,small,c2,rdy,fun w so ol' t sv H8 pl b8 o8 e8 so8=>?_⟩;have k8:Same H3 H8:=fun b o e=>b8 b o (s37 _ _ e) (au e d3);have t8:=b8.ts (s67 _ _ S0.dc);exact hRJ _ _ ⟨t,w,sv,so,ol',k8,b8 _ _ (s67 _ _ hto) (y9 ndt),Paired.mapP (prs s67) fun _ _ z=>z.ts t8,o8,nxt _ _ _ pl,e8,so8,fun rs' z=>.play c c2 pl z,rfl⟩
  ·rintro σ H2 ⟨u,w,sv,so,ol',s32,hto2,pr2,O2,sf2,eu,eso,run2,rfl⟩;refine⟨_,rfl,.inl ⟨rfl,_,SqL.of hto2⟩,_,rfl,v,dd,rfl,hd3.ts (Same.ts s32),fun t H6 s6 e6=>⟨sz rfl,fun y gy=>?_⟩⟩;have wy:=ad gy (.tup [.ref t]);refine⟨_,rfl,y,u,_,_,rfl,rfl,ae,wy _ _ (s6 _ _ eu),sz rfl,fun z H7 s7 e7=>?_⟩;have s27:Same H2 H7:=s6.trans (wy.trans s7);refine⟨to,_,_,rfl,rfl,s27 _ _ hto2,aO (by omega),?_⟩;have tl':TS H7 (upd H7 to (.lst (ys++[.ref z]))):=fun b zs e=>by rw[ah (cM e (s27 _ _ hto2) (by intro z;cases z))];exact e
   have T2:TS H2 (upd H7 to (.lst (ys++[.ref z]))):=fun b zs e=>tl' _ _ (s27 _ _ e);refine hDL _ _ ⟨fun b o e=>by rw[ah (au e t3)];exact s27 _ _ (s32 _ _ e),ol',ys++[.ref z],rs++[(dd.1,w,so)],_,_,?_,sf2,ae,by rw[Zk,ly];rfl,Yr (Paired.mapP pr2 fun _ _ q=>q.ts T2) ⟨z,.ref t,sv,rfl,tl' _ _ e7,⟨t,rfl,tl' _ _ (s7 _ _ (wy _ _ e6))⟩,eso.ts T2⟩,fun rs' q=>by rw[ZJ];exact run _ (run2 rs' q),rfl⟩;obtain⟨kvs',S',R'⟩:=O2;obtain⟨⟨dz,z1⟩,z2,z3,z4⟩:=S'.same s27;exact⟨kvs',⟨⟨dz,by rw[ah (cM z1 (s27 _ _ hto2) (by intro z;cases z))];exact z1⟩,by rw[ah ndt];exact z2,by rw[ah (cM z3 (s27 _ _ hto2) (by intro z;cases z))];exact z3,z4⟩,R'.ts T2⟩
 ·rintro σ H' ⟨sm,ol,ys,rs,o5,o6,O,sf,hto,ly,pr,run,rfl⟩;rw[ll,List.drop_length]at run;refine hR0 _ _ ?_;have:=run [] .nil;rw[ZL]at this;exact⟨_,rfl,q to ys rs H' (s02.trans sm) hto pr this⟩
def WoAt(H:Hp)(v:V)(r:Out):Prop:=∃(t:Addr) (nv:V),v=.ref t/\H t=some (.tup [nv,.str r.2.1])/\NameIs H nv (nk r.1)
def qc:Sp:=fun vs H Q _=>∃(l:Addr) (xs:List V) (ds:List Dd),vs=[.ref l]/\H l=some (.lst xs)/\mZ H xs ds/\ds.length<=300/\eI (ao ds) [] ds /\
 ∀a ys rs H',Same H H'->H' a=some (.lst ys)->Paired (WoAt H') ys rs->Runs (ao ds) (ay ds) [] ds rs->Q (.ref a) H'
theorem WoAt.ts{H H':Hp}{v:V}{r:Out}(x:WoAt H v r)(t:TS H H'):WoAt H' v r:=by obtain⟨a,nv,h1,h2,h3⟩:=x;exact⟨a,nv,h1,t _ _ h2,h3.ts' t⟩
theorem bt{α:Type}{l:List α}{i:Nat}{x:α}(h:l[i]?=some x):l.take (i+1)=l.take i++[x]:=by rw[List.take_succ,h];rfl
theorem gR{ts:As Dd}{tn:List Nm}{ol:Ol}{ds:List Dd}{rs:List Out}(h:Runs ts tn ol ds rs):rs.length=ds.length:=by
 induction h with
 |nil=>rfl
 |off _ _ ih=>rw[Zm,Zm,ih]
 |turn _ _ _ ih=>rw[Zm,Zm,ih]
 |play _ _ _ _ ih=>rw[Zm,Zm,ih]
abbrev jU:Stmt:=top 20
abbrev wj:List Str:=["ready"]
theorem uJ:FnScope wj ["ready"] (al jU):=⟨rfl,rfl,rfl,by decide +kernel,rfl,by decide +kernel,by decide +kernel⟩
theorem uG{f:Addr}{fd:FuncData}(F:Fun K "words_of" "words_of" jU f fd)(F_played:Fn P w K mg base 7 "played" ["ready"] mT):FnOk P w K mg base CX0 8 f fd ["ready"] qc:=by
 refine F.okQ uJ (fun vs H Q E h=>?_) (fun cdv A outer s H vs Q E hr h=>?_)
 ·obtain⟨l,xs,ds,rfl,_⟩:=h;rfl
 obtain⟨l,xs,ds,rfl,hl,hd,l3,safe,q⟩:=h;refine⟨_,(b_1 (aF (fU (own:=["name","word","step"]) (⟨rfl,by decide +kernel,by decide +kernel,rfl,trivial⟩:CompOk _ _ [] []) rfl (bu (aB F_played (hr.mono (by decide)) (q_a (q_v 0) ag))) (fun _ _ _ _=>ki (K:=K) (n:=3) rfl rfl (cD (aI (i:=0) (show(["name","word","step"]:List Str).Nodup by decide +kernel)) (cD (aI (i:=1) (show(["name","word","step"]:List Str).Nodup by decide +kernel)) (cD (aI (i:=2) (show(["name","word","step"]:List Str).Nodup by decide +kernel)) iN)))) (kj (bK (bf (by decide)) aX (bK (bf (by decide)) aX (bK (bf (by decide)) aX iX ce) (cC aX ce)) (cC aX (cC aX ce)))) (fun _ _ _ _=>sI) (fun _ _ _ _=>(aE (q_a (q_v 0) (q_a (q_v 1) ag))))))),?_⟩
 try rw[cxK]
 refine⟨_,rfl,l,xs,ds,rfl,hl,hd,l3,safe,fun a ys rs H1 s1 ea pr run=>⟨a,rfl,⟨_,SqL.of ea⟩,?_⟩⟩;have ln:ys.length=ds.length:=(ZV pr).trans (gR run);refine bD (fun i zs H'=>Same H1 H'/\zs.length<=i/\Paired (WoAt H') zs (rs.take i)) (by omega) (fun _ _ _ z=>z.2.1) ⟨Same.refl _,Ze _,.nil⟩ (fun i zs H' z=>SqL.of (z.1 _ _ ea)) ?_ ?_
 ·rintro i zs H' v hv ⟨sm,lz,pz⟩ Y hY;obtain⟨r,hr',t,nv,sv,rfl,e1,e2,e3⟩:=bG pr hv;refine⟨t,_,rfl,SqT.of (sm _ _ e1),rfl,_,_,rfl,_,_,rfl,_,_,rfl,rfl,?_⟩;refine⟨_,rfl,_,rfl,sz rfl,fun u gu=>hY _ _ ⟨sm.trans (ad gu _),by rw[Zk];exact Yk lz,?_⟩⟩;rw[bt hr'];exact Yr (Paired.mapP pz fun _ _ z=>z.ts (Same.ts (ad gu _))) ⟨u,nv,rfl,ae,e2.same (sm.trans (ad gu _))⟩
 ·rintro zs b H' ⟨sm,lz,pz⟩ gb;rw[(ZV pr),ZN]at pz;exact q b zs rs _ (s1.trans (sm.trans (ad gb _))) ae (Paired.mapP pz fun _ _ z=>z.ts (Same.ts (ad gb _))) run
def ci(rs:List Out):List (Nm×Sd):=rs.filterMap fun r=>r.2.2.map fun s=>(r.1,s)
def SsAt(H:Hp)(v:V)(r:Nm×Sd):Prop:=∃(t st:Addr) (nv:V),v=.ref t/\H t=some (.tup [nv,.ref st])/\NameIs H nv (nk r.1)/\StAt H st r.2
theorem SsAt.ts{H H':Hp}{v:V}{r:Nm×Sd}(x:SsAt H v r)(t:TS H H'):SsAt H' v r:=by obtain⟨a,st,nv,h1,h2,h3,h4⟩:=x;exact⟨a,st,nv,h1,t _ _ h2,h3.ts' t,h4.ts t⟩
def vP:Sp:=fun vs H Q _=>∃(l:Addr) (xs:List V) (ds:List Dd),vs=[.ref l]/\H l=some (.lst xs)/\mZ H xs ds/\ds.length<=300/\eI (ao ds) [] ds /\
 ∀a ys rs H',Same H H'->H' a=some (.lst ys)->Paired (SsAt H') ys (ci rs)->Runs (ao ds) (ay ds) [] ds rs->Q (.ref a) H'
abbrev jT:Stmt:=top 21
abbrev wg:List Str:=["ready"]
theorem uI:FnScope wg ["ready"] (al jT):=⟨rfl,rfl,rfl,by decide +kernel,rfl,by decide +kernel,by decide +kernel⟩
theorem uF{f:Addr}{fd:FuncData}(F:Fun K "steps_of" "steps_of" jT f fd)(F_played:Fn P w K mg base 7 "played" ["ready"] mT):FnOk P w K mg base CX0 8 f fd ["ready"] vP:=by
 refine F.okQ uI (fun vs H Q E h=>?_) (fun cdv A outer s H vs Q E hr h=>?_)
 ·obtain⟨l,xs,ds,rfl,_⟩:=h;rfl
 obtain⟨l,xs,ds,rfl,hl,hd,l3,safe,q⟩:=h;refine⟨_,(b_1 (aF (fU (own:=["name","word","step"]) (⟨rfl,by decide +kernel,by decide +kernel,rfl,trivial⟩:CompOk _ _ [] []) rfl (bu (aB F_played (hr.mono (by decide)) (q_a (q_v 0) ag))) (fun _ _ _ _=>ki (K:=K) (n:=3) rfl rfl (cD (aI (i:=0) (show(["name","word","step"]:List Str).Nodup by decide +kernel)) (cD (aI (i:=1) (show(["name","word","step"]:List Str).Nodup by decide +kernel)) (cD (aI (i:=2) (show(["name","word","step"]:List Str).Nodup by decide +kernel)) iN)))) (kj (bK (bf (by decide)) aX (bK (bf (by decide)) aX (bK (bf (by decide)) aX iX ce) (cC aX ce)) (cC aX (cC aX ce)))) (fun _ _ _ _=>(jG (aG jb (q_v 2) bU))) (fun _ _ _ _=>(aE (q_a (q_v 0) (q_a (q_v 2) ag))))))),?_⟩
 try rw[cxK]
 refine⟨_,rfl,l,xs,ds,rfl,hl,hd,l3,safe,fun a ys rs H1 s1 ea pr run=>⟨a,rfl,⟨_,SqL.of ea⟩,?_⟩⟩;have ln:ys.length=ds.length:=(ZV pr).trans (gR run);refine bD (fun i zs H'=>Same H1 H'/\zs.length<=i/\Paired (SsAt H') zs (ci (rs.take i))) (by omega) (fun _ _ _ z=>z.2.1) ⟨Same.refl _,Ze _,.nil⟩ (fun i zs H' z=>SqL.of (z.1 _ _ ea)) ?_ ?_
 ·rintro i zs H' v hv ⟨sm,lz,pz⟩ Y hY;obtain⟨r,hr',t,nv,sv,rfl,e1,e2,e3⟩:=bG pr hv;have es:ci (rs.take (i+1))=ci (rs.take i)++(r.2.2.map fun s=>(r.1,s)).toList:=by unfold ci;rw[bt hr',List.filterMap_append];obtain⟨n,w',so⟩:=r;cases so<;>rfl
  refine⟨t,_,rfl,SqT.of (sm _ _ e1),rfl,_,_,rfl,_,_,rfl,_,_,rfl,rfl,?_⟩;obtain⟨n,w',so⟩:=r;cases so with
  |none =>obtain rfl:sv=.non:=e3;refine⟨_,rfl,rfl,_,rfl,nG rfl (hY _ _ ⟨sm,by omega,?_⟩)⟩;rw[es];simpa using pz
  |some sd =>obtain⟨st,rfl,est⟩:=e3;refine⟨_,rfl,rfl,_,rfl,kX (by intro z;cases z) ?_⟩;refine⟨_,rfl,_,rfl,sz rfl,fun u gu=>hY _ _ ⟨sm.trans (ad gu _),by rw[Zk];exact Yk lz,?_⟩⟩;rw[es];exact Yr (Paired.mapP pz fun _ _ z=>z.ts (Same.ts (ad gu _))) ⟨u,st,nv,rfl,ae,e2.same (sm.trans (ad gu _)),est.ts (Same.ts (sm.trans (ad gu _)))⟩
 ·rintro zs b H' ⟨sm,lz,pz⟩ gb;rw[(ZV pr),ZN]at pz;exact q b zs rs _ (s1.trans (sm.trans (ad gb _))) ae (Paired.mapP pz fun _ _ z=>z.ts (Same.ts (ad gb _))) run
def upD:Option Nm->PyData
 |none=>.none
 |some n=>nmD n
def plD(ns:List Int):PyData:=.tuple (ns.map PyData.int)
theorem xI{H:Hp}{v:V}{u:Option Nm}(h:UpAt H v u):Dt H (upD u) v:=by
 cases u with
 |none =>obtain rfl:v=.non:=h;simp only[upD,Dt]
 |some n=>exact jM h
theorem Hx{H:Hp}{v:V}{ns:List Int}(h:PlAt H v ns):Dt H (plD ns) v:=by obtain⟨b,rfl,e⟩:=h;exact kf e
theorem fw{H:Hp}{st:Addr}{vs:List V}{ds:List PyData}(h:H st=some (.tup vs))(hd:DtAll H ds vs):Dt H (.tuple ds) (.ref st):=by unfold Dt;exact⟨st,_,rfl,.inl h,hd⟩
theorem fQ{H:Hp}:DtAll H [] []:=by simp[DtAll]
theorem bI{H:Hp}{d:PyData}{ds:List PyData}{v:V}{vs:List V}(h:Dt H d v)(t:DtAll H ds vs):DtAll H (d::ds) (v::vs):=by unfold DtAll;exact⟨_,_,rfl,h,t⟩
theorem gU{H:Hp}(s:Str):Dt H (.str s) (.str s):=by simp only[Dt]
theorem G5{H:Hp}(b:Bool):Dt H (.bool b) (.bl b):=by simp only[Dt]
theorem EB{H:Hp}(i:Int):Dt H (.int i) (.int i):=by simp only[Dt]
theorem dS(n:Nm):(nmD n).canLay0=true/\(nmD n).depth=1:=by simp[nmD,PyData.canLay0,PyData.canLayAll0,PyData.depth,PyData.depthAll]
theorem iY(u:Option Nm):(upD u).canLay0=true/\(upD u).depth<=1:=by
 cases u with
 |none=>exact⟨rfl,by decide⟩
 |some n=>exact⟨(dS n).1,Nat.le_of_eq (dS n).2⟩
theorem yt(ns:List Int):(plD ns).canLay0=true/\(plD ns).depth=1:=by obtain⟨h1,h2⟩:=sO ns;exact⟨by simpa[plD,PyData.canLay0]using h1,by simp[plD,PyData.depth,h2]⟩
theorem jI{H:Hp}{α:Type}{R:V->α->Prop}{D:α->PyData}{l:Addr}{vs:List V}{rs:List α}(hl:H l=some (.lst vs))(x:Paired R vs rs)(hD:∀v r,r∈rs->R v r->Dt H (D r) v/\(D r).canLay0=true/\(D r).depth<=3) :
  Dt H (.list (rs.map D)) (.ref l)/\SeqAt.shaped (.list (rs.map D))=true/\PyData.eqv (.list (rs.map D)) (.list (rs.map D))=true:=by
 have gen:DtAll H (rs.map D) vs/\PyData.canLayAll0 (rs.map D)=true/\PyData.depthAll (rs.map D)<=3:=by
  clear hl;induction x with
  |nil=>exact⟨fQ,rfl,by simp[PyData.depthAll]⟩
  |@cons p q _ _ r _ ih =>obtain⟨h1,h2,h3⟩:=hD p q Zv r;obtain⟨i1,i2,i3⟩:=ih fun v r hr=>hD v r (Zt _ hr);refine⟨bI h1 i1,by simp[PyData.canLayAll0,h2,i2],?_⟩;simp only[Zw,PyData.depthAll];omega
 obtain⟨g1,g2,g3⟩:=gen;have c:(PyData.list (rs.map D)).canLay0=true:=by simpa[PyData.canLay0]using g2
 refine⟨?_,dM c (by simp only[PyData.depth];omega),SeqAt.eqv_refl _ c⟩;simp only[Dt];exact⟨l,vs,rfl,.inl hl,g1⟩
section
variable{ts:As Dd}{tn:List Nm}{ol:Ol}{d:Dd}{ds:List Dd}{rs:List Out}
theorem io(c:bg d ts=false)(c2:d.2.isTurn=false)(h:Runs ts tn ol (d::ds) rs):∃w so ol' rs',rs=(d.1,w,so)::rs'/\PlayR ol d.1 d.2 w so ol'/\Runs ts tn ol' ds rs':=by
 cases h with
 |off z _=>rw[c]at z;cases z
 |turn _ z _=>rw[c2]at z;cases z
 |play _ _ p r=>exact⟨_,_,_,_,rfl,p,r⟩
theorem je(c:bg d ts=true)(h:Runs ts tn ol (d::ds) rs):∃rs':List Out,rs=((d.1,"off",none):Out)::rs'/\Runs ts tn ol ds rs':=by
 cases h with
 |off _ r=>exact⟨_,rfl,r⟩
 |turn z _ _=>rw[c]at z;cases z
 |play z _ _ _=>rw[c]at z;cases z
theorem ip(c:bg d ts=false)(c2:d.2.isTurn=true)(h:Runs ts tn ol (d::ds) rs):∃rs':List Out,rs=((d.1,if turned d∈tn then"turn" else"done",none):Out)::rs'/\Runs ts tn ol ds rs':=by
 cases h with
 |off z _=>rw[c]at z;cases z
 |turn _ _ r=>exact⟨_,rfl,r⟩
 |play _ z _ _=>rw[c2]at z;cases z
theorem lJ(h:Runs ts tn ol [] rs):rs=[]:=by cases h;rfl
theorem zl(c:bg d ts=false)(c2:d.2.isTurn=false)(h1:Small ol)(h2:∀s,iE d.1 d.2=some s->Ready ol s)(h3:∀w so ol',PlayR ol d.1 d.2 w so ol'->eI ts ol' ds):eI ts ol (d::ds):=by unfold eI;exact⟨fun z=>(by rw[c,c2]at z;rcases z with z|z<;>cases z),fun _ _=>⟨h1,h2,h3⟩⟩
theorem qD(c:bg d ts=true\/d.2.isTurn=true)(h:eI ts ol ds):eI ts ol (d::ds):=by unfold eI;exact⟨fun _=>h,fun z1 z2=>by rw[z1,z2]at c;rcases c with c|c<;>cases c⟩
end
theorem D9{ol:Ol}{o:Nm}{k k':Nat}{u:Option Nm}{b b':Bool}(h:Und ol o k u b):Und ol o k' u b'->b=b':=by
 induction h generalizing k' b' with
 |none=>intro h';cases h';rfl
 |self=>intro h';cases h' with
  |self=>rfl
  |up ne _ _=>exact absurd rfl ne
 |up ne e _ ih=>intro h';cases h' with
  |self=>exact absurd rfl ne
  |up _ e' h2 =>rw[e]at e';cases e';exact ih h2
theorem yU{ol ol':Ol}{n:Nm}{w:Str}{so:Option Sd}(h:PlayR ol n .none w so ol'):w="done"/\so=none/\ol'=ol:=by
 cases h with
 |none=>exact⟨rfl,rfl,rfl⟩
 |step hs _ _=>cases hs
inductive Ch(ol:Ol):Nat->Option Nm->Prop
 |none:Ch ol 0 none
 |up {k:Nat} {n:Nm} {it:It}:look ol n=some it->Ch ol k it.up->Ch ol (k+1) (some n)
def Ter(ol:Ol):Prop:=∀n it,look ol n=some it->∃k,Ch ol k (some n)
theorem GD{ol:Ol}{k:Nat}{u:Option Nm}(h:Ch ol k u)(o:Nm):∃k' b,Und ol o k' u b:=by
 induction h with
 |none=>exact⟨0,false,.none⟩
 |@up k n it hl _ ih =>
  by_cases c:n=o
  ·exact⟨0,true,c▸.self⟩
  ·obtain⟨k',b,x⟩:=ih;exact⟨k'+1,b,.up c hl x⟩
def wt(ol:Ol)(x:Nm):Nat:=match look ol x with
 |some it=>it.tx.length
 |none=>0
structure Inv(ol:Ol)(B:Nat):Prop where
 ter:Ter ol
 wgt:∃L:List Nm,L.Nodup/\(∀x,(look ol x).isSome=true↔x∈L)/\(L.map (wt ol)).sum<=B
def Er(t:Str):Prop:=PyData.strOk t=true/\t.length<=5
def DOk:Wd->Prop
 |.put _ _ tx=>Er tx
 |.write _ tx=>Er tx
 |_=>True
def Wd.mk:Wd->Bool
 |.put _ _ _=>true
 |_=>false
theorem vI{n:Nm}{wd:Wd}{s:Sd}(h:iE n wd=some s):s.news=if wd.mk=true then[n]else[]:=by cases wd<;>cases h<;>rfl
structure Kept(ol ol':Ol)(new:List Nm)(B:Nat):Prop where
 inv:Inv ol' B
 len:ol'.length<=ol.length+1
 non:∀x,¬x∈new->look ol x=none->look ol' x=none
structure Fresh(ol:Ol)(ds:List Dd):Prop where
 ok:∀d∈ds,DOk d.2
 non:∀d∈ds,d.2.mk=true->look ol d.1=none
 pw:ds.Pairwise fun d e=>d.2.mk=true->e.2.mk=true->d.1≠e.1
def Eqo(a b:Ol):Prop:=∀x,look a x=look b x
theorem D8{a b:Ol}(e:Eqo a b){o:Nm}{k:Nat}{u:Option Nm}{c:Bool}(h:Und a o k u c):Und b o k u c:=by
 induction h with
 |none=>exact .none
 |self=>exact .self
 |up hn hl _ ih=>exact .up hn (by rw[<-e];exact hl) ih
theorem iW{a b:Ol}(e:Eqo a b){s:Sd}{r r':Option Bool}(h:Bd a s r)(h':Bd b s r'):r=r':=by
 cases h with
 |put=>cases h';rfl
 |write=>cases h';rfl
 |mark=>cases h';rfl
theorem kU{a b:Ol}(e:Eqo a b)(n:Nm)(it:It):Eqo (bo a n it) (bo b n it):=fun x=>by rw[aZ,aZ,e x]
theorem Et{a b a' b':Ol}(e:Eqo a b){s:Sd}(h:Ap a s a')(h':Ap b s b'):Eqo a' b':=by
 cases h with
 |put=>cases h';exact kU e _ _
 |write hl=>cases h' with|write hl'=>rw[e,hl']at hl;cases hl;exact kU e _ _
 |mark hl=>cases h' with|mark hl'=>rw[e,hl']at hl;cases hl;exact kU e _ _
theorem AA{a b:Ol}(e:Eqo a b)(s:Sd):fu a s↔fu b s:=by unfold fu;exact⟨fun h n hn=>by rw[<-e];exact h n hn,fun h n hn=>by rw[e];exact h n hn⟩
theorem BR{a b a' b':Ol}(e:Eqo a b){s:Sd}{w w':Str}(h:WordR a s w a')(h':WordR b s w' b'):w=w'/\Eqo a' b':=by
 have hh:=AA e s;cases h with
 |none c =>
  cases h' with
  |none _=>exact⟨rfl,e⟩
  |beneath c' _=>exact absurd (hh.mpr c') c
  |far c' _=>exact absurd (hh.mpr c') c
  |done c' _ _=>exact absurd (hh.mpr c') c
 |beneath c b1 =>
  cases h' with
  |none c'=>exact absurd (hh.mp c) c'
  |beneath _ _=>exact⟨rfl,e⟩
  |far _ b2=>cases iW e b1 b2
  |done _ b2 _=>cases iW e b1 b2
 |far c b1 =>
  cases h' with
  |none c'=>exact absurd (hh.mp c) c'
  |beneath _ b2=>cases iW e b1 b2
  |far _ _=>exact⟨rfl,e⟩
  |done _ b2 _=>cases iW e b1 b2
 |done c b1 ap =>
  cases h' with
  |none c'=>exact absurd (hh.mp c) c'
  |beneath _ b2=>cases iW e b1 b2
  |far _ b2=>cases iW e b1 b2
  |done _ _ ap'=>exact⟨rfl,Et e ap ap'⟩
theorem jN{a b a' b':Ol}(e:Eqo a b){n:Nm}{wd:Wd}{w w':Str}{so so':Option Sd}(h:PlayR a n wd w so a')(h':PlayR b n wd w' so' b'):w=w'/\so=so'/\Eqo a' b':=by
 cases h with
 |none =>obtain⟨rfl,rfl,rfl⟩:=yU h';exact⟨rfl,rfl,e⟩
 |@take m =>
  cases h' with
  |take=>rw[e];exact⟨rfl,rfl,e⟩
  |step hs _ _=>cases hs
 |@back m =>
  cases h' with
  |back=>rw[e];exact⟨rfl,rfl,e⟩
  |step hs _ _=>cases hs
 |@top m pl tx hm =>
  cases h' with
  |top _=>exact⟨rfl,rfl,kU e _ _⟩
  |step _ ht _ =>have:(!(look b m).isSome)=false:=ht;rw[<-e,hm]at this;cases this
 |@step _ s w a' hs ht wr =>
  generalize hso:(if w'=("done":Str)then some s else none)=so2;cases h' with
  |none=>cases hs
  |take=>cases hs
  |back=>cases hs
  |@top m pl tx hm =>have:(!(look a m).isSome)=false:=ht;rw[e,hm]at this;cases this
  |step hs' _ wr' =>rw[hs]at hs';cases hs';obtain⟨rfl,x⟩:=BR e wr wr';exact⟨rfl,rfl,x⟩
theorem AU{d:Dd}{ts:As Dd}(h:d.2.isTurn=true):bg d ts=false:=by unfold bg;rw[h];rfl
theorem WhAt.ts{H H':Hp}{t:Addr}{wd:Wd}(x:WhAt H t wd)(s:TS H H'):WhAt H' t wd:=by obtain⟨r,h1,h2⟩:=x;exact⟨r,s _ _ h1,h2.ts s⟩
theorem BT{xs:List V}{i:Int}(h0:0<=i)(h1:i<xs.length):∃v,atI xs i=some v/\xs[i.toNat]?=some v:=by
 have hk:i.toNat<xs.length:=by omega
 have:=eM (xs:=xs) (j:=i.toNat) (Zd hk);rw[show((i.toNat:Nat):Int)=i by omega]at this;exact⟨_,this,Zd hk⟩
theorem An{c:List Int}{k i:Nat}{v:Int}(hk:k<c.length):aq (c.set k v) i=if i=k then v else aq c i:=by
 unfold aq;rw[List.getElem?_set];by_cases e:i=k
 ·subst e;rw[if_pos rfl,if_pos rfl,if_pos hk];rfl
 ·rw[if_neg (fun z=>e z.symm),if_neg e]
def clk(cl:List (List Int))(g:Nat):List Int:=(cl[g]?).getD []
theorem bR{cl:List (List Int)}{k g:Nat}{c:List Int}(hk:k<cl.length):clk (cl.set k c) g=if g=k then c else clk cl g:=by
 unfold clk;rw[List.getElem?_set];by_cases e:g=k
 ·subst e;rw[if_pos rfl,if_pos rfl,if_pos hk];rfl
 ·rw[if_neg (fun z=>e z.symm),if_neg e]
theorem Am(n i:Nat):aq (List.replicate n (0:Int)) i=0:=by unfold aq;rw[YY];split<;>rfl
def mx(a b:List Int)(n:Nat):List Int:=(List.range n).map fun j=>if aq b j>aq a j then aq b j else aq a j
theorem C8{a b:List Int}{n i:Nat}(h:i<n):aq (mx a b n) i=if aq b i>aq a i then aq b i else aq a i:=by
 unfold mx
 conv=>lhs;unfold aq
 rw[ZA,List.getElem?_range h];rfl
theorem nO{a b:List Int}{n:Nat}:(mx a b n).length=n:=by unfold mx;simp
theorem TS.trans{H H' H2:Hp}(e:TS H H')(f:TS H' H2):TS H H2:=fun a zs h=>f a zs (e a zs h)
theorem iH{H:Hp}{p:Addr}{o:HO}(hp:∀zs,H p≠some (.tup zs)):TS H (upd H p o):=fun a zs h=>by rw[ah (fun z=>hp zs (by rw[<-z];exact h))];exact h
theorem fB{ns:List Int}{k:Nat}(h:k<ns.length):atI (ns.map V.int) (k:Int)=some (.int (aq ns k)):=by have:=gS (ns:=ns) (k:=(k:Int)) (by omega) (by omega);rw[show((k:Int)).toNat=k by omega]at this;exact this
def CK(H:Hp)(cA:Addr)(n:Nat)(as:List Addr)(cl:List (List Int)):Prop:=H cA=some (.lst (as.map V.ref))/\as.length=n/\as.Nodup/\∀(g:Nat) (hg:g<as.length),H as[g]=some (.lst ((clk cl g).map V.int))
theorem CK.same{H H':Hp}{cA:Addr}{n:Nat}{as:List Addr}{cl:List (List Int)}(x:CK H cA n as cl)(s:Same H H'):CK H' cA n as cl:=⟨s _ _ x.1,x.2.1,x.2.2.1,fun g hg=>s _ _ (x.2.2.2 g hg)⟩
theorem kP{as:List Addr}{k:Nat}(hk:k<as.length):atI (as.map V.ref) (k:Int)=some (.ref as[k]):=eM (by rw[ZA,Zd hk];rfl)
theorem sQ{H:Hp}{a b:Addr}{xs ys:List V}(h1:H a=some (.lst xs))(h2:H b=some (.lst ys))(h:xs≠ys):a≠b:=fun z=>by rw[z,h2]at h1;injection h1 with h1;injection h1 with h1;exact h h1.symm
theorem km{ns:List Int}{as:List Addr}(h:0<ns.length):as.map V.ref≠ns.map V.int:=fun e=>by
 cases ns with
 |nil=>exact absurd h (by simp)
 |cons n ns =>
  cases as with
  |nil=>cases e
  |cons a as=>cases e
theorem tK:∀n:Nat,(List.replicate n [V.int 0]).flatten=(List.replicate n (0:Int)).map V.int
 |0=>rfl
 |n+1=>by rw[YK,Ys,tK n];rfl
theorem EX{as:List Addr}{k:Nat}{p:Addr}(h:as.Nodup)(hp:p∉as):(as.set k p).Nodup:=by
 rw[List.nodup_iff_pairwise_ne,ZH]at h ⊢;intro i j hi hj hij;rw[YG]at hi hj;rw[List.getElem_set,List.getElem_set];by_cases c1:k=i
 ·rw[if_pos c1,if_neg (by omega)];exact fun z=>hp (z▸Zy hj)
 ·rw[if_neg c1];by_cases c2:k=j
  ·rw[if_pos c2];exact fun z=>hp (z▸Zy hi)
  ·rw[if_neg c2];exact h i j hi hj hij
theorem wJ{α:Type}(L:List α)(z:α):(List.range L.length).map (fun i=>L.getD i z)=L:=by
 apply List.ext_getElem
 ·simp
 ·intro i h1 h2;simp[h2]
abbrev D3:=Nat×List Int×Wd
def DA(H:Hp)(a:Addr)(d:D3):Prop:=∃c wa,H a=some (.tup [.int (d.1:Int),.ref c,.ref wa])/\H c=some (.tup (d.2.1.map V.int))/\WhAt H wa d.2.2/\d.1<d.2.1.length/\d.2.1.length<=8
theorem DA.ts{H H':Hp}{a:Addr}{d:D3}(x:DA H a d)(s:TS H H'):DA H' a d:=by obtain⟨c,wa,h1,h2,h3,h4⟩:=x;exact⟨c,wa,s _ _ h1,s _ _ h2,h3.ts s,h4⟩
def toD(d:D3):Dd:=(((d.1:Int),aq d.2.1 d.1),d.2.2)
theorem DA.dd{H:Hp}{a:Addr}{d:D3}(x:DA H a d):DdAt H (.ref a) (toD d):=by obtain⟨c,wa,h1,h2,h3,h4,_⟩:=x;exact⟨a,c,wa,_,rfl,h1,h2,fB h4,h3⟩
abbrev L3:=List (Addr×D3)
def ax(L:L3):List V:=L.map fun x=>V.ref x.1
theorem aD(L:L3):(ax L).length=L.length:=Zf ..
def LR3(H:Hp)(l:Addr)(L:L3):Prop:=H l=some (.lst (ax L))/\∀x∈L,DA H x.1 x.2
theorem LR3.same{H H':Hp}{l:Addr}{L:L3}(x:LR3 H l L)(s:Same H H'):LR3 H' l L:=⟨s _ _ x.1,fun y hy=>(x.2 y hy).ts (Same.ts s)⟩
theorem bx{L:L3}{k:Nat}{x:V}(h:(ax L)[k]?=some x):∃hk:k<L.length,x=.ref L[k].1:=by
 have hk:k<L.length:=by have:=(Zx.mp h).1;rw[aD]at this;exact this
 refine⟨hk,?_⟩;unfold ax at h;rw[ZA,Zd hk]at h;exact(Zu h).symm
def pZ:Sp:=fun vs H Q _=>∃(a:Addr) (d:D3),vs=[.ref a]/\DA H a d/\∀p H',Same H H'->H' p=some (.tup ([d.2.1.sum,(d.1:Int)].map V.int))->Q (.ref p) H'
abbrev pP:Stmt:=top 44
abbrev CJ:List Str:=["_law_deed"]
theorem BA:FnScope CJ ["_law_deed"] (al pP):=⟨rfl,rfl,rfl,by decide +kernel,rfl,by decide +kernel,by decide +kernel⟩
theorem A0{f:Addr}{fd:FuncData}(F:Fun K "_law_order" "_law_order" pP f fd)(z_sum:mg "sum" = none):FnOk P w K mg base CX0 1 f fd ["_law_deed"] pZ:=by
 refine F.okQ BA (fun vs H Q E h=>?_) (fun cdv A outer s H vs Q E hr h=>?_)
 ·obtain⟨a,d,rfl,_⟩:=h;rfl
 obtain⟨a,d,rfl,⟨c,wa,e1,e2,e3,e4,e5⟩,q⟩:=h;refine⟨_,(b_1 (aF (aE (q_a (q_B (Ev (K:=K) rfl rfl) z_sum PyProof.Rows.boot_sum (q_a (aj ai (q_v 0) af) ag)) (q_a (aj ai (q_v 0) af) ag))))),?_⟩
 try rw[cxK]
 refine(vix rfl (SqT.of e1) at1 ⟨c,d.2.1,rfl,SqT.of e2,vix rfl (SqT.of e1) at0 ⟨sz rfl,fun p g=>?_⟩⟩);exact q p _ (ad g _) ae
theorem Du{L:L3}{p:Array Nat}(hp:POk L.length p):(p.toList.map fun i=>L.getD i (0,0,[],.none)).Perm L/\(p.toList.map fun i=>(ax L).getD i .non)=ax (p.toList.map fun i=>L.getD i (0,0,[],.none)):=by
 have ep:p.toList.Perm (List.range L.length):=by have:=Array.perm_iff_toList_perm.mp hp;simpa using this
 refine⟨?_,?_⟩
 ·have:=ep.map fun i=>L.getD i (0,0,[],Wd.none);rw[wJ]at this;exact this
 ·unfold ax;rw[Yl];apply List.map_congr_left;intro i hi;have:i<L.length:=Y1.mp (ep.mem_iff.mp hi);simp[this]
def nm3(d:D3):Nm:=(toD d).1
def kL(c:List Int)(n:Nm):Bool:=decide (aq c n.1.toNat>=n.2)
def aA(d:D3)(n:Nm):Bool:=(!decide (n=nm3 d))&&kL d.2.1 n
def cz(d e:D3):Bool:=if nm3 d=nm3 e then false else !aA d (nm3 e)&&!aA e (nm3 d)
theorem dI(a b:Nm):([a.1,a.2]=[b.1,b.2])↔a=b:=by
 constructor
 ·intro z;injection z with z1 z2;injection z2 with z2 _;exact Prod.ext z1 z2
 ·rintro rfl;rfl
def vR:Sp:=fun vs H Q _=>∃(c:Addr) (nv:V) (cs:List Int) (n:Nm),vs=[.ref c,nv]/\H c=some (.tup (cs.map V.int))/\NameIs H nv (nk n)/\0<=n.1/\n.1<cs.length/\Q (.bl (kL cs n)) H
abbrev pQ:Stmt:=top 2
abbrev CL:List Str:=["clock","name"]
theorem BB:FnScope CL ["clock","name"] (al pQ):=⟨rfl,rfl,rfl,by decide +kernel,rfl,by decide +kernel,by decide +kernel⟩
theorem A8{f:Addr}{fd:FuncData}(F:Fun K "tells" "tells" pQ f fd):FnOk P w K mg base CX0 1 f fd ["clock","name"] vR:=by
 refine F.okQ BB (fun vs H Q E h=>?_) (fun cdv A outer s H vs Q E hr h=>?_)
 ·obtain⟨c,nv,cs,n,rfl,_⟩:=h;rfl
 obtain⟨c,nv,cs,n,rfl,hc,⟨nb,rfl,hnb⟩,h0,h1,q⟩:=h;refine⟨_,(b_1 (aF (eE E6 (aj ai (q_v 0) (aj ai (q_v 1) af)) (aj ai (q_v 1) af)))),?_⟩
 try rw[cxK]
 exact⟨_,rfl,vix rfl (SqT.of hnb) at0 ⟨c,_,_,_,rfl,rfl,SqT.of hc,gS h0 h1,vix rfl (SqT.of hnb) at1 ⟨_,_,rfl,rfl,q⟩⟩⟩
def pY:Sp:=fun vs H Q _=>∃(a:Addr) (nv:V) (d:D3) (n:Nm),vs=[.ref a,nv]/\DA H a d/\NameIs H nv (nk n)/\0<=n.1/\n.1<d.2.1.length/\∀H',Same H H'->Q (.bl (aA d n)) H'
abbrev pO:Stmt:=top 31
abbrev CI:List Str:=["deed","name"]
theorem Bz:FnScope CI ["deed","name"] (al pO):=⟨rfl,rfl,rfl,by decide +kernel,rfl,by decide +kernel,by decide +kernel⟩
theorem AZ{f:Addr}{fd:FuncData}(F:Fun K "hears" "hears" pO f fd)(F_name_of:Fn P w K mg base 1 "name_of" ["deed"] bW)(F_tells:Fn P w K mg base 1 "tells" ["clock","name"] vR):FnOk P w K mg base CX0 2 f fd ["deed","name"] pY:=by
 refine F.okQ Bz (fun vs H Q E h=>?_) (fun cdv A outer s H vs Q E hr h=>?_)
 ·obtain⟨a,nv,d,n,rfl,_⟩:=h;rfl
 obtain⟨a,nv,d,n,rfl,hd,hn,h0,h1,q⟩:=h;obtain⟨nb,rfl,hnb⟩:=id hn;refine⟨_,(b_1 (aF (gI (eE (ja hr.units) (q_v 1) (aB F_name_of (hr.mono (by decide)) (q_a (q_v 0) ag))) (jP (aB F_tells (hr.mono (by decide)) (q_a (aj ai (q_v 0) af) (q_a (q_v 1) ag))))))),?_⟩
 try rw[cxK]
 refine⟨_,rfl,_,rfl,.ref a,toD d,rfl,hd.dd,fun p H1 s1 e1=>?_⟩;refine⟨nb,p,[n.1,n.2],[(nm3 d).1,(nm3 d).2],rfl,rfl,s1 _ _ hnb,e1,_,rfl,?_⟩;unfold aA at q;by_cases c:n=nm3 d
 ·rw[decide_eq_true c]at q;rw[decide_eq_true ((dI _ _).mpr c)];exact aJ (q H1 s1)
 ·rw[decide_eq_false c]at q;rw[decide_eq_false fun z=>c ((dI _ _).mp z)];refine aR ?_;obtain⟨c',wa,f1,f2,f3,f4,f5⟩:=hd.ts (Same.ts s1);exact(vix rfl (SqT.of f1) at1 ⟨_,rfl,c',.ref nb,d.2.1,n,rfl,f2,hn.same s1,h0,h1,q H1 s1⟩)
def pX:Sp:=fun vs H Q _=>∃(a b:Addr) (d e:D3),vs=[.ref a,.ref b]/\DA H a d/\DA H b e/\d.2.1.length=e.2.1.length/\∀H',Same H H'->Q (.bl (cz d e)) H'
abbrev pL:Stmt:=top 32
abbrev CF:List Str:=["one","other"]
theorem Bw:FnScope CF ["one","other"] (al pL):=⟨rfl,rfl,rfl,by decide +kernel,rfl,by decide +kernel,by decide +kernel⟩
theorem AW{f:Addr}{fd:FuncData}(F:Fun K "apart" "apart" pL f fd)(F_name_of:Fn P w K mg base 1 "name_of" ["deed"] bW)(F_hears:Fn P w K mg base 2 "hears" ["deed","name"] pY):FnOk P w K mg base CX0 3 f fd ["one","other"] pX:=by
 refine F.okQ Bw (fun vs H Q E h=>?_) (fun cdv A outer s H vs Q E hr h=>?_)
 ·obtain⟨a,b,d,e,rfl,_⟩:=h;rfl
 obtain⟨a,b,d,e,rfl,hd,he,hl,q⟩:=h;have bd:0<=(nm3 d).1/\(nm3 d).1<e.2.1.length:=by obtain⟨_,_,_,_,_,z,_⟩:=hd;show 0<=((d.1:Nat):Int)/\((d.1:Nat):Int)<_;omega
 have be:0<=(nm3 e).1/\(nm3 e).1<d.2.1.length:=by obtain⟨_,_,_,_,_,z,_⟩:=he;show 0<=((e.1:Nat):Int)/\((e.1:Nat):Int)<_;omega
 refine⟨_,(b_c (aW (aG (E5 hr.units) (aB F_name_of (hr.mono (by decide)) (q_a (q_v 0) ag)) (aB F_name_of (hr.mono (by decide)) (q_a (q_v 1) ag))) (b_1 (aF kz)) b_0)
   (b_1 (aF (gI (lG (aB F_hears (hr.mono (by decide)) (q_a (q_v 0) (q_a (aB F_name_of (hr.mono (by decide)) (q_a (q_v 1) ag)) ag)))) (jP (lG (aB F_hears (hr.mono (by decide)) (q_a (q_v 1) (q_a (aB F_name_of (hr.mono (by decide)) (q_a (q_v 0) ag)) ag))))))))),?_⟩
 try rw[cxK]
 refine⟨_,rfl,.ref a,toD d,rfl,hd.dd,fun p1 H1 s1 e1=>?_⟩;refine⟨_,rfl,.ref b,toD e,rfl,(he.ts (Same.ts s1)).dd,fun p2 H2 s2 e2=>?_⟩;refine⟨p1,p2,[(nm3 d).1,(nm3 d).2],[(nm3 e).1,(nm3 e).2],rfl,rfl,s2 _ _ e1,e2,_,rfl,?_⟩;have S2:=s1.trans s2;unfold cz at q;by_cases c:nm3 d=nm3 e
 ·rw[if_pos c]at q;rw[decide_eq_true ((dI _ _).mpr c)];exact aR (q H2 S2)
 ·rw[if_neg c]at q;rw[decide_eq_false fun z=>c ((dI _ _).mp z)];refine aJ ?_;refine⟨_,rfl,_,rfl,.ref b,toD e,rfl,(he.ts (Same.ts S2)).dd,fun p3 H3 s3 e3=>?_⟩;have S3:=S2.trans s3;refine⟨a,.ref p3,d,nm3 e,rfl,hd.ts (Same.ts S3),⟨p3,rfl,e3⟩,be.1,be.2,fun H4 s4=>?_⟩;have S4:=S3.trans s4;refine⟨_,rfl,?_⟩;cases b1:aA d (nm3 e)with
  |true =>rw[b1]at q;exact⟨_,rfl,aJ (q H4 S4)⟩
  |false =>rw[b1]at q;refine⟨_,rfl,aR ?_⟩;refine⟨_,rfl,_,rfl,.ref a,toD d,rfl,(hd.ts (Same.ts S4)).dd,fun p5 H5 s5 e5=>?_⟩;have S5:=S4.trans s5;exact⟨b,.ref p5,e,nm3 d,rfl,he.ts (Same.ts S5),⟨p5,rfl,e5⟩,bd.1,bd.2,fun H6 s6=>⟨_,rfl,q H6 (S5.trans s6)⟩⟩
def Da(H:Hp)(n:Nat)(v:V):Prop:=∃d,Dt H d v/\d.canLay0=true/\d.depth<=n
theorem sq{H:Hp}{a:Addr}{vs:List V}{n:Nat}(h:H a=some (.tup vs))(hv:∀v∈vs,Da H n v):Da H (n+1) (.ref a):=by
 have gen:∃ds,DtAll H ds vs/\PyData.canLayAll0 ds=true/\PyData.depthAll ds<=n:=by
  clear h;induction vs with
  |nil=>exact⟨[],fQ,rfl,by simp[PyData.depthAll]⟩
  |cons v vs ih =>obtain⟨ds,i1,i2,i3⟩:=ih fun x hx=>hv x (Zt _ hx);obtain⟨d,h1,h2,h3⟩:=hv v Zv;refine⟨d::ds,bI h1 i1,by simp[PyData.canLayAll0,h2,i2],?_⟩;simp only[PyData.depthAll];omega
 obtain⟨ds,i1,i2,i3⟩:=gen;exact⟨.tuple ds,fw h i1,by simpa[PyData.canLay0]using i2,by simp only[PyData.depth];omega⟩
theorem Da.mono{H:Hp}{n m:Nat}{v:V}(x:Da H n v)(h:n<=m):Da H m v:=by obtain⟨d,h1,h2,h3⟩:=x;exact⟨d,h1,h2,by omega⟩
theorem nu{H:Hp}(i:Int)(n:Nat):Da H n (.int i):=⟨_,EB i,rfl,by simp[PyData.depth]⟩
theorem GY{H:Hp}(b:Bool)(n:Nat):Da H n (.bl b):=⟨_,G5 b,rfl,by simp[PyData.depth]⟩
theorem sk{H:Hp}{s:Str}(h:PyData.strOk s=true)(n:Nat):Da H n (.str s):=⟨_,gU s,by simpa[PyData.canLay0]using h,by simp[PyData.depth]⟩
theorem rD{H:Hp}{v:V}{n:Nm}(h:NameIs H v (nk n)):Da H 1 v:=⟨_,jM h,(dS n).1,Nat.le_of_eq (dS n).2⟩
theorem G0{H:Hp}{v:V}{u:Option Nm}(h:UpAt H v u):Da H 1 v:=⟨_,xI h,(iY u).1,(iY u).2⟩
theorem GZ{H:Hp}{v:V}{ns:List Int}(h:PlAt H v ns):Da H 1 v:=⟨_,Hx h,(yt ns).1,Nat.le_of_eq (yt ns).2⟩
def Wd.ok:Wd->Prop
 |.put _ _ tx=>PyData.strOk tx=true
 |.write _ tx=>PyData.strOk tx=true
 |_=>True
theorem lS(wd:Wd):PyData.strOk wd.word=true:=by cases wd<;>(simp only[Wd.word];decide +kernel)
theorem mE{H:Hp}{r:List V}{wd:Wd}(h6:RsAt H r wd)(ok:wd.ok){v:V}(hm:v∈r):Da H 1 v:=by
 cases wd with
 |put =>
  obtain⟨uv,pv,rfl,a1,a2⟩:=h6;simp only[Zl,ZC,Z6]at hm;rcases hm with rfl|rfl|rfl
  ·exact G0 a1
  ·exact GZ a2
  ·exact sk ok 1
 |write =>
  obtain⟨nv,rfl,a0⟩:=h6;simp only[Zl,ZC,Z6]at hm;rcases hm with rfl|rfl
  ·exact rD a0
  ·exact sk ok 1
 |mark =>
  obtain⟨nv,rfl,a0⟩:=h6;simp only[Zl,ZC,Z6]at hm;rcases hm with rfl|rfl
  ·exact rD a0
  ·exact GY _ 1
 |take =>obtain⟨nv,rfl,a0⟩:=h6;simp only[Zl,ZC,Z6]at hm;subst hm;exact rD a0
 |back =>obtain⟨nv,rfl,a0⟩:=h6;simp only[Zl,ZC,Z6]at hm;subst hm;exact rD a0
 |off =>obtain rfl:=h6;simp only[Zl,ZC,Z6]at hm;subst hm;exact nu _ 1
 |on =>obtain rfl:=h6;simp only[Zl,ZC,Z6]at hm;subst hm;exact nu _ 1
 |none=>obtain rfl:=h6;exact absurd hm (ZC)
theorem CV{H:Hp}{wa:Addr}{wd:Wd}(h:WhAt H wa wd)(ok:wd.ok):Da H 2 (.ref wa):=by
 obtain⟨r,h5,h6⟩:=h;refine sq h5 fun v hv=>?_;rcases Zl.mp hv with rfl|hm
 ·exact sk (lS wd) 1
 exact mE h6 ok hm
theorem oQ{H:Hp}{n:Nat}:∀{vs:List V},(∀v∈vs,Da H n v)->∃ds,DtAll H ds vs/\PyData.canLayAll0 ds=true/\PyData.depthAll ds<=n
 | [],_=>⟨[],fQ,rfl,by simp[PyData.depthAll]⟩
 |v::vs,hv=>by obtain⟨ds,i1,i2,i3⟩:=oQ (vs:=vs) fun x hx=>hv x (Zt _ hx);obtain⟨d,h1,h2,h3⟩:=hv v Zv;refine⟨d::ds,bI h1 i1,by simp[PyData.canLayAll0,h2,i2],?_⟩;simp only[PyData.depthAll];omega
def iV:Wd->Option Nm
 |.back n=>some n
 |_=>none
theorem EF(n m:Nm):PyData.eqv (nmD n) (nmD m)=decide (n=m):=by
 have e:=zP (some n) (some m);have e0:∀u:Option Nm,xH u=upD u:=fun u=>by cases u<;>rfl
 rw[e0,e0]at e;have e1:∀n:Nm,upD (some n)=nmD n:=fun _=>rfl;rw[e1,e1]at e;rw[e];simp only[Y8]
theorem xS{H:Hp}{wa:Addr}{wd:Wd}(it:Nm)(h:WhAt H wa wd)(ok:wd.ok):∃dx,Dt H dx (.ref wa)/\SeqAt.shaped dx=true/\PyData.eqv dx (.tuple [.str "back",nmD it])=decide (iV wd=some it):=by
 obtain⟨r,h5,h6⟩:=h;by_cases e:wd.word="back"
 ·cases wd with
  |back n =>
   obtain⟨nv,rfl,a⟩:=h6;refine⟨.tuple [.str "back",nmD n],fw h5 (bI (gU _) (bI (jM a) fQ)),dM ?_ ?_,?_⟩
   ·have:PyData.strOk "back" = true:=by decide +kernel
    simp[PyData.canLay0,PyData.canLayAll0,this,(dS n).1]
   ·have:=(dS n).2;simp only[PyData.depth,PyData.depthAll];omega
   ·simp only[PyData.eqv,PyData.eqvAll,EF,Bool.and_true,iV,Y8];rw[show(("back":Str)=="back")=true from by decide +kernel,YX]
  |_=>exact absurd e (by simp only[Wd.word];decide +kernel)
 ·obtain⟨ds,i1,i2,i3⟩:=oQ fun v hv=>mE h6 ok hv;refine⟨.tuple (.str wd.word::ds),fw h5 (bI (gU _) i1),dM ?_ ?_,?_⟩
  ·simp[PyData.canLay0,PyData.canLayAll0,lS wd,i2]
  ·simp only[PyData.depth,PyData.depthAll];omega
  ·have e2:iV wd≠some it:=fun z=>by
    cases wd with
    |back=>exact e rfl
    |_=>cases z
   rw[decide_eq_false e2];have e3:(wd.word=="back")=false:=by simpa using e
   simp only[PyData.eqv,PyData.eqvAll];rw[e3,Ya]
theorem CW{H:Hp}{u:Addr}{iv:V}{it:Nm}(h:H u=some (.tup [.str "back",iv]))(hi:NameIs H iv (nk it)):Dt H (.tuple [.str "back",nmD it]) (.ref u)/\SeqAt.shaped (.tuple [.str "back",nmD it])=true:=by
 refine⟨fw h (bI (gU _) (bI (jM hi) fQ)),dM ?_ ?_⟩
 ·have:PyData.strOk "back" = true:=by decide +kernel
  simp[PyData.canLay0,PyData.canLayAll0,this,(dS it).1]
 ·have:=(dS it).2;simp only[PyData.depth,PyData.depthAll];omega
abbrev GS(H:Hp)(xs:List V)(ns:List Nm):Prop:=Paired (fun v m=>NameIs H v (nk m)) xs ns
def dY:Wd->Option Nm
 |.take n=>some n
 |_=>none
def cu(d:D3):List Nm:=match d.2.2 with
 |.put _ _ _=>[nm3 d]
 |.write n _=>[n]
 |.mark n _=>[n]
 |.back n=>[n]
 |.take _=>[]
 |.off _=>[]
 |.on _=>[]
 |.none=>[]
noncomputable def iS(ol:Ol)(o x:Nm):Bool:=@decide (∃k,Und ol o k (some x) true) (Classical.propDecidable _)
theorem qh{ol:Ol}{o x:Nm}{k:Nat}{b:Bool}(h:Und ol o k (some x) b):iS ol o x=b:=by
 unfold iS;cases b with
 |true=>exact@decide_eq_true _ (Classical.propDecidable _) ⟨k,h⟩
 |false =>refine@decide_eq_false _ (Classical.propDecidable _) fun⟨k',h'⟩=>?_;cases D9 h h'
noncomputable def gsB(ol:Ol)(d t:D3)(item:Nm):Bool:=(decide (iV d.2.2=some item)&&aA d (nm3 t)) ||(cz d t&&(cu d).any fun x=>iS ol item x)
noncomputable def eU(ol:Ol)(D:List D3)(t:D3)(item:Nm):Option Nm:=(D.find? fun d=>gsB ol d t item).map nm3
abbrev Tk:=Nm×Nm×Option Nm
noncomputable def fm(ol:Ol)(D:List D3)(d:D3):List Tk:=match dY d.2.2 with
 |some it=>[(nm3 d,it,eU ol D d it)]
 |none=>[]
noncomputable def eG(ol:Ol)(D:List D3):List Tk:=D.flatMap fun d=>fm ol D d
def TkAt(H:Hp)(v:V)(r:Tk):Prop:=∃(t:Addr) (nv iv bv:V),v=.ref t/\H t=some (.tup [nv,iv,bv])/\NameIs H nv (nk r.1)/\NameIs H iv (nk r.2.1)/\UpAt H bv r.2.2
theorem TkAt.ts{H H':Hp}{v:V}{r:Tk}(x:TkAt H v r)(s:TS H H'):TkAt H' v r:=by obtain⟨t,nv,iv,bv,h1,h2,h3,h4,h5⟩:=x;exact⟨t,nv,iv,bv,h1,s _ _ h2,h3.ts' s,h4.ts' s,h5.ts s⟩
theorem He(wd:Wd):inV (.str wd.word) [.str "take",.str "join"]=(dY wd).isSome:=by cases wd<;>rfl
def vQ:Sp:=fun vs H Q _=>∃(a:Addr) (d:D3) (it:Nm),vs=[.ref a]/\DA H a d/\dY d.2.2=some it/\∀iv,NameIs H iv (nk it)->Q iv H
abbrev iA:Stmt:=top 36
abbrev rT:List Str:=["deed"]
theorem rm:FnScope rT ["deed"] (al iA):=⟨rfl,rfl,rfl,by decide +kernel,rfl,by decide +kernel,by decide +kernel⟩
theorem rc{f:Addr}{fd:FuncData}(F:Fun K "taken_item" "taken_item" iA f fd):FnOk P w K mg base CX0 1 f fd ["deed"] vQ:=by
 refine F.okQ rm (fun vs H Q E h=>?_) (fun cdv A outer s H vs Q E hr h=>?_)
 ·obtain⟨a,d,it,rfl,_⟩:=h;rfl
 obtain⟨a,⟨hn,cs,wd⟩,it,rfl,⟨c,wa,h1,h2,⟨r,h3,h4⟩,_⟩,ht,q⟩:=h;refine⟨_,(b_1 (aF (xp (aG bH (aj ai (aj ai (q_v 0) af) af) am) (aj ai (aj ai (q_v 0) af) af) (aj ai (aj ai (q_v 0) af) af)))),?_⟩
 try rw[cxK]
 have e1:=SqT.of (K:=K) h1;have e3:=SqT.of (K:=K) h3;cases wd with
 |take n =>cases ht;obtain⟨nv,rfl,a1⟩:=h4;exact(vix rfl e1 at2 ⟨wa,_,_,_,rfl,rfl,e3,at0,rfl,_,rfl,gW (vix rfl e1 at2 ⟨wa,_,_,_,rfl,rfl,e3,at1,q _ a1⟩)⟩)
 |_=>cases ht
def qK:Sp:=fun vs H Q _=>∃(a:Addr) (d:D3),vs=[.ref a]/\DA H a d/\∀l vs H',Same H H'->H' l=some (.lst vs)->GS H' vs (cu d)->Q (.ref l) H'
theorem uM(hn:Nat)(cs:List Int)(wd:Wd):(∃ u pl tx,wd=.put u pl tx)\/(V.str wd.word≠V.str "put"/\V.str wd.word≠V.str "part"/\V.str wd.word≠V.str "join" /\
  ((inV (.str wd.word) [.str "take",.str "off",.str "on",.str "none"]=true/\cu (hn,cs,wd)=[])\/(inV (.str wd.word) [.str "take",.str "off",.str "on",.str "none"]=false/\∀ (H:Hp) r,RsAt H r wd->∃ nv r' n,r=nv::r'/\NameIs H nv (nk n)/\cu (hn,cs,wd)=[n]))):=by
 cases wd with
 |put u pl tx=>exact .inl ⟨u,pl,tx,rfl⟩
 |write n tx=>exact .inr ⟨by simp only[Wd.word,ne_eq];decide +kernel,by simp only[Wd.word,ne_eq];decide +kernel,by simp only[Wd.word,ne_eq];decide +kernel,.inr ⟨rfl,fun H r ⟨nv,h,a⟩=>⟨nv,_,n,h,a,rfl⟩⟩⟩
 |mark n tx=>exact .inr ⟨by simp only[Wd.word,ne_eq];decide +kernel,by simp only[Wd.word,ne_eq];decide +kernel,by simp only[Wd.word,ne_eq];decide +kernel,.inr ⟨rfl,fun H r ⟨nv,h,a⟩=>⟨nv,_,n,h,a,rfl⟩⟩⟩
 |back n=>exact .inr ⟨by simp only[Wd.word,ne_eq];decide +kernel,by simp only[Wd.word,ne_eq];decide +kernel,by simp only[Wd.word,ne_eq];decide +kernel,.inr ⟨rfl,fun H r ⟨nv,h,a⟩=>⟨nv,_,n,h,a,rfl⟩⟩⟩
 |_=>exact .inr ⟨by simp only[Wd.word,ne_eq];decide +kernel,by simp only[Wd.word,ne_eq];decide +kernel,by simp only[Wd.word,ne_eq];decide +kernel,.inl ⟨rfl,rfl⟩⟩
abbrev iC:Stmt:=top 39
abbrev rV:List Str:=["deed","what"]
theorem jY:FnScope rV ["deed"] (al iC):=⟨rfl,rfl,rfl,by decide +kernel,rfl,by decide +kernel,by decide +kernel⟩
theorem rg{f:Addr}{fd:FuncData}(F:Fun K "touched_by" "touched_by" iC f fd)(F_name_of:Fn P w K mg base 1 "name_of" ["deed"] bW):FnOk P w K mg base CX0 2 f fd ["deed"] qK:=by
 refine F.okQ jY (fun vs H Q E h=>?_) (fun cdv A outer s H vs Q E hr h=>?_)
 ·obtain⟨a,d,rfl,_⟩:=h;rfl
 obtain⟨a,d,rfl,hd,q⟩:=h;have hdd:=hd.dd;obtain⟨c,wa,h1,h2,⟨r,h3,h4⟩,h5,h6⟩:=id hd;refine⟨_,(b_c (aH (i:=1) jY.nd (aj ai (q_v 0) af))
   (b_c (aW (aG bH (aj ai (q_v 1) af) am) (b_1 (aF (cQ (q_a (aB F_name_of (hr.mono (by decide)) (q_a (q_v 0) ag)) ag)))) b_0)
   (b_c (aW (aG bH (aj ai (q_v 1) af) am) (b_1 (aF (cQ (q_a (aj ai (q_v 1) af) (q_a (aB F_name_of (hr.mono (by decide)) (q_a (q_v 0) ag)) ag))))) b_0)
   (b_c (aW (aG bH (aj ai (q_v 1) af) am) (b_1 (aF (cQ (q_a (aj ai (q_v 1) af) (q_a (aj ai (q_v 1) af) ag))))) b_0)
   (b_c (aW (aG (gH (K:=K) rfl) (aj ai (q_v 1) af) (aE (q_a am (q_a am (q_a am (q_a am ag)))))) (b_1 (aF (cQ ag))) b_0)
   (b_1 (aF (cQ (q_a (aj ai (q_v 1) af) ag))))))))),?_⟩
 try rw[cxK]
 have e3:=SqT.of (K:=K) h3;refine(vix rfl (SqT.of h1) at2 ?_);obtain⟨hn,cs,wd⟩:=d;refine(vix rfl e3 at0 ⟨rfl,_,rfl,?_⟩);rcases uM hn cs wd with⟨u,pl,tx,rfl⟩|⟨n1,n2,n3,n4⟩
 ·refine gW ⟨_,rfl,.ref a,_,rfl,hdd,fun t H1 s1 e1=>⟨sz rfl,fun l gl=>?_⟩⟩;have wl:=ad gl (.lst [.ref t]);exact q l _ _ (s1.trans wl) ae (.cons ⟨t,rfl,wl _ _ e1⟩ .nil)
 ·refine bZ n1 ?_;refine(vix rfl e3 at0 ⟨rfl,_,rfl,bZ n2 ?_⟩);refine(vix rfl e3 at0 ⟨rfl,_,rfl,bZ n3 ?_⟩);refine(vix rfl e3 at0 ⟨sz rfl,fun u gu=>?_⟩);have wu:=ad gu (.tup [.str "take",.str "off",.str "on",.str "none"]);refine⟨u,_,rfl,.inr (SqT.of ae),rfl,rfl,_,rfl,?_⟩;rcases n4 with⟨n4,et⟩|⟨n4,hx⟩
  ·have ei:(if false=true then !inV (V.str wd.word) [.str "take",.str "off",.str "on",.str "none"]else inV (V.str wd.word) [.str "take",.str "off",.str "on",.str "none"])=true:=n4;rw[ei];refine aR ⟨sz rfl,fun l gl=>?_⟩;exact q l [] _ (wu.trans (ad gl (.lst []))) ae (by rw[et];exact .nil)
  ·obtain⟨nv,r',n,rfl,hnv,et⟩:=hx H r h4;have ei:(if false=true then !inV (V.str wd.word) [.str "take",.str "off",.str "on",.str "none"]else inV (V.str wd.word) [.str "take",.str "off",.str "on",.str "none"])=false:=n4;rw[ei];refine aJ (vix rfl (SqT.of (wu _ _ h3)) at1 ⟨sz rfl,fun l gl=>?_⟩);have wl:=wu.trans (ad gl (.lst [nv]));exact q l [nv] _ wl ae (by rw[et];exact .cons (hnv.ts' (Same.ts wl)) .nil)
def gE(Φ:Ol->Prop):Ol->List Sd->Prop
 |ol,[]=>Φ ol
 |ol,s::ss=>Small ol/\(∀n∈s.news,look ol n=none)/\fu ol s/\Bd ol s none/\∀ol',Ap ol s ol'->gE Φ ol' ss
def StV(H:Hp)(v:V)(s:Sd):Prop:=∃st,v=.ref st/\StAt H st s
theorem StV.ts{H H':Hp}{v:V}{s:Sd}(x:StV H v s)(t:TS H H'):StV H' v s:=by obtain⟨st,h1,h2⟩:=x;exact⟨st,h1,h2.ts t⟩
def qI(C:Addr):Sp:=fun vs H Q _=>∃(l:Addr) (xs:List V) (ss:List Sd) (Φ:Ol->Prop),vs=[.ref l]/\H l=some (.lst xs)/\Paired (StV H) xs ss/\gE Φ [] ss/\∀p d g ol H',Same H H'->OlAt C H' p d g ol->Φ ol->Q (.ref p) H'
abbrev kK:Stmt:=top 35
abbrev xQ:List Str:=["steps","outline","step"]
theorem jV:FnScope xQ ["steps"] (al kK):=⟨rfl,rfl,rfl,by decide +kernel,rfl,by decide +kernel,by decide +kernel⟩
theorem xn{f C cN cB cF:Addr}{fd:FuncData}(F:Fun K "stepped" "stepped" kK f fd)(Mk_Plain:MkFn P w K mg base 1 C "Plain" ["self"] (tV C))(MX_step:MFnX P w K mg base 4 C "step" ["self","step"] (lO C cN cB cF)):FnOk P w K mg base CX0 5 f fd ["steps"] (qI C):=by
 refine F.okQ jV (fun vs H Q E h=>?_) (fun cdv A outer s H vs Q E hr h=>?_)
 ·obtain⟨l,xs,ss,Φ,rfl,_⟩:=h;rfl
 obtain⟨l,xs,ss,Φ,rfl,hl,px,safe,q⟩:=h;have ll:=ZV px;refine⟨_,(b_c (aH (i:=1) jV.nd (vD Mk_Plain (hr.mono (by decide))))
   (b_c (dC Yc rfl (bu (q_v 0)) (aI (i:=2) jV.nd) (b_1 (bP (lF MX_step lB (hr.mono (by decide)) (q_v 1) (q_a (q_v 2) ag)))))
   (b_1 (aF (q_v 1))))),?_⟩
 try rw[cxK]
 intro x dx nx ndx nex;refine⟨x,dx,rfl,ae,fun d g H4 fd0 fg0 S4 kp4=>⟨rfl,?_⟩⟩;have s34:Same H H4:=fun b o e=>kp4 b o (by rw[ah (au e nx),ah (au e ndx)];exact e) (au e nx);have s00:Same H (upd (upd H dx (.own x)) x (.ins C dx [])):=fun b o e=>by rw[ah (au e nx),ah (au e ndx)];exact e
 have d3:H d=none:=s00.free fd0;refine⟨_,rfl,l,rfl,⟨_,SqL.of (s34 _ _ hl)⟩,?_⟩;refine jD (K:=K) (a:=l) (xs:=xs) (fun i σ H'=>Same H H'/\∃(ol:Ol) (o2:Option V),OlAt C H' x d g ol/\gE Φ ol (ss.drop i)/\σ=[some (.ref l),some (.ref x),o2])
  ⟨s34,[],none,⟨[],S4,.nil⟩,safe,rfl⟩ (fun i σ H' _ z=>SqL.of (z.1 _ _ hl)) ?_ ?_
 ·rintro i v σ H' hv ⟨sm,ol,o2,O,sf,rfl⟩;obtain⟨sd,hsi,st,rfl,hst⟩:=bG px hv;have hi:i<ss.length:=(Zx.mp hsi).1;have hdr:ss.drop i=sd::ss.drop (i+1):=by rw[Yw hi];rw[Zd hi]at hsi;rw[Zu hsi]
  rw[hdr]at sf;obtain⟨small,nw,hh,hb,nxt⟩:=sf;obtain⟨kvs,S,_⟩:=id O;obtain⟨⟨dz,y1⟩,y2,y3,y4⟩:=id S;refine⟨_,rfl,x,dz,_,rfl,y1,hZ _ _,_,rfl,x,d,g,st,ol,sd,rfl,O,small.len,hst.ts (Same.ts sm),nw,small.txt,.inr ⟨hh,none,hb,(fun z=>nomatch z),(fun z=>nomatch z),fun _ H5 ol' b5 o5 ap=>?_⟩⟩;exact⟨fun b o e=>b5 b o (sm _ _ e) (au e d3),ol',_,o5,nxt ol' ap,rfl⟩
 ·rintro σ H' ⟨sm,ol,o2,O,sf,rfl⟩;rw[ll,List.drop_length]at sf;exact⟨_,rfl,q x d g ol H' sm O sf⟩
theorem uf{kvs:List (List Key×V)}{k k':List Key}{v:V}:aS (aK kvs k v) k'=if k'=k then some v else aS kvs k':=by
 have gen:∀l:List (List Key×V),aS (l.map fun kv=>if kv.1=k then(kv.1,v)else kv) k'=if k'=k then(aS l k').map (fun _=>v)else aS l k':=fun l=>by
  induction l with
  |nil=>split<;>rfl
  |cons p l ih =>
   rw[Zw];by_cases c:p.1=k
   ·rw[if_pos c];by_cases c2:p.1=k'
    ·have h1:∀r,aS ((p.1,v)::r) k'=some v:=fun r=>bX (p:=(p.1,v)) c2;rw[h1,bX c2,if_pos (c2.symm.trans c)];rfl
    ·have h1:∀r,aS ((p.1,v)::r) k'=aS r k':=fun r=>bL (p:=(p.1,v)) c2;rw[h1,bL c2,ih]
   ·rw[if_neg c];by_cases c2:p.1=k'
    ·rw[bX c2,bX c2,if_neg (fun z=>c (c2.trans z))]
    ·rw[bL c2,bL c2,ih]
 by_cases hk:k∈kvs.map (·.1)
 ·rw[tI v hk,gen];split
  ·rename_i e;obtain⟨u,hu⟩:=ZY.mp (om hk);rw[e,hu];rfl
  ·rfl
 ·rw[tH _ (mh hk)];have app:∀l:List (List Key×V),aS l k=none->aS (l++[(k,v)]) k'=if k'=k then some v else aS l k':=fun l=>by
   induction l with
   |nil =>
    intro _;by_cases c:k=k'
    ·rw[if_pos c.symm,YH,bX c]
    ·rw[if_neg (fun z=>c z.symm),YH,bL c]
   |cons p l ih =>
    intro h;by_cases c:p.1=k
    ·rw[bX c]at h;cases h
    ·rw[bL c]at h;rw[List.cons_append];by_cases c2:p.1=k'
     ·rw[bX c2,bX c2,if_neg (fun z=>c (c2.trans z))]
     ·rw[bL c2,bL c2,ih h]
  exact app kvs (mh hk)
theorem qo:bootBuiltins "dict" = some (.type "dict"):=by decide +kernel
def aw(L:L3):List Dd:=L.map fun x=>toD x.2
theorem ke{H:Hp}:∀{L:L3},(∀x∈L,DA H x.1 x.2)->mZ H (ax L) (aw L)
 | [],_=>.nil
 |x::L,h=>.cons (h x Zv).dd (ke fun y hy=>h y (Zt _ hy))
theorem BC{t u:L2.TS}{D:Ends}{σ:St}{H:Hp}(h:∀R:St->Hp->Prop,(∀σ' H',u D σ' H'->R σ' H')->t { D with nx:=R } σ H):xA t u D σ H:=h _ fun _ _ z=>z
def zY(ol:Ol)(ns:List Nm)(o:Nm):Prop:=∀x∈ns,∃k b,Und ol o k (some x) b
def Gm(C:Addr):Sp:=fun vs H Q _=>∃(a b:Addr) (iv:V) (p d g:Addr) (e t:D3) (it:Nm) (ol:Ol),vs=[.ref a,.ref b,iv,.ref p]/\DA H a e/\DA H b t/\NameIs H iv (nk it)/\OlAt C H p d g ol/\e.2.1.length=t.2.1.length/\e.2.2.ok/\zY ol (cu e) it/\∀H',Same H H'->Q (.bl (gsB ol e t it)) H'
theorem uN(d:D3):(cu d).length<=2:=by obtain⟨hn,cs,wd⟩:=d;cases wd<;>(unfold cu;simp)
abbrev jR:Stmt:=top 38
abbrev ng:List Str:=["deed","taking","item","whole"]
theorem uH:FnScope ng ["deed","taking","item","whole"] (al jR):=⟨rfl,rfl,rfl,by decide +kernel,rfl,by decide +kernel,by decide +kernel⟩
theorem uD{f C:Addr}{fd:FuncData}(F:Fun K "gainsays" "gainsays" jR f fd)(F_name_of:Fn P w K mg base 1 "name_of" ["deed"] bW)(F_hears:Fn P w K mg base 2 "hears" ["deed","name"] pY)(F_apart:Fn P w K mg base 3 "apart" ["one","other"] pX)(F_touched_by:Fn P w K mg base 2 "touched_by" ["deed"] qK)(M_at_or_beneath:MFn P w K mg base 1 C "at_or_beneath" ["self","one","other"] (qa C))(z_any:mg "any" = none):FnOk P w K mg base CX0 4 f fd ["deed","taking","item","whole"] (Gm C):=by
 refine F.okQ uH (fun vs H Q E h=>?_) (fun cdv A outer s H vs Q E hr h=>?_)
 ·obtain⟨a,b,iv,p,d,g,e,t,it,ol,rfl,_⟩:=h;rfl
 obtain⟨a,b,iv,p,dd,g,e,t,it,ol,rfl,ha,hb,hi,hO,ln,ok,hh,q⟩:=h;refine⟨_,(b_c (aW (t_w (df (aG (rF hr.units) (aj ai (q_v 0) af) (aE (q_a am (q_a (q_v 2) ag)))) (cU (dD (aB F_hears (hr.mono (by decide)) (q_a (q_v 0) (q_a (aB F_name_of (hr.mono (by decide)) (q_a (q_v 1) ag)) ag))))))) (b_1 (aF kz)) b_0)
   (b_1 (aF (gI (aB F_apart (hr.mono (by decide)) (q_a (q_v 0) (q_a (q_v 1) ag))) (jP (q_B (GU rfl) z_any PyProof.Rows.boot_any (q_a (fU (own:=["each"]) (⟨rfl,by decide +kernel,by decide +kernel,rfl,⟨rfl,rfl,⟨rfl,rfl,trivial⟩⟩⟩:CompOk _ _ [3,2] ["whole","item"]) rfl (bu (aB F_touched_by (hr.mono (by decide)) (q_a (q_v 0) ag))) (fun _ _ _ _=>aI (i:=0) (show (["each","whole","item"]:List Str).Nodup by decide +kernel)) (bf (by decide)) (fun _ _ _ _=>sI) (fun _ _ _ _=>(eW M_at_or_beneath (hr.mono (by decide)) (q_v 1) (q_a (q_v 0) (q_a (q_v 2) ag))))) ag))))))),?_⟩
 try rw[cxK]
 obtain⟨c,wa,h1,h2,hw,h5,h6⟩:=id ha;obtain⟨_,_,_,_,_,t5,_⟩:=id hb;refine BC fun R hR=>?_;have rest:∀ (H1:Hp),Same H H1->(decide (iV e.2.2=some it)&&aA e (nm3 t))=false->R (L2.start ng [.ref a,.ref b,iv,.ref p]) H1:=fun H1 s1 hf=>hR _ _ (by
  have q1:∀H',Same H H'->Q (.bl (cz e t&&(cu e).any fun x=>iS ol it x)) H':=fun H' s'=>by have:=q H' s';unfold gsB at this;rw[hf,Bool.false_or]at this;exact this
  refine⟨_,rfl,_,rfl,a,b,e,t,rfl,ha.ts (Same.ts s1),hb.ts (Same.ts s1),ln,fun H2 s2=>⟨_,rfl,?_⟩⟩;cases hc:cz e t with
  |false =>rw[hc]at q1;exact aJ (q1 H2 (s1.trans s2))
  |true =>
   rw[hc]at q1;refine aR ?_;refine⟨_,rfl,a,e,rfl,ha.ts (Same.ts (s1.trans s2)),fun l vs H3 s3 el pv=>⟨l,rfl,⟨_,SqL.of el⟩,?_⟩⟩;have S3:=s1.trans (s2.trans s3);have lv:vs.length<=2:=by rw[ZV pv];exact uN e
   refine bD (xs:=vs) (fun i zs H'=>H'=H3/\zs=(((cu e).take i).map fun x=>iS ol it x).map V.bl) (by omega) (fun i zs _ z=>by rw[z.2,Zf,Zf,ZM];omega) ⟨rfl,rfl⟩ (fun i zs H' z=>by rw[z.1];exact SqL.of el) ?_ ?_
   ·rintro i zs H' v hv ⟨rfl,rfl⟩ Y hY;obtain⟨x,hx,hn⟩:=bG pv hv;obtain⟨k,bb,hu⟩:=hh x (Yo hx);have O3:=hO.same S3;obtain⟨kvs,⟨⟨dz,y1⟩,_⟩,_⟩:=id O3;refine⟨_,rfl,p,dz,_,rfl,y1,hZ _ _,_,rfl,_,rfl,p,dd,g,ol,v,iv,some x,it,k,bb,rfl,O3,hn,hi.ts' (Same.ts S3),hu,hY _ _ ⟨rfl,?_⟩⟩;rw[bt hx,ZO,ZO,<-qh hu];rfl
   rintro zs lz H4 ⟨rfl,rfl⟩ glz;rw[ZV pv,ZN];have wlz:=ad glz (.lst (((cu e).map fun x=>iS ol it x).map V.bl));refine⟨lz,_,rfl,SqL.of ae,?_⟩;have q2:=q1 _ (S3.trans wlz);rw[YX]at q2;rw[List.any_map];exact q2)
 refine(vix rfl (SqT.of h1) at2 ⟨_,rfl,sz rfl,fun u gu=>?_⟩);have wu:=ad gu (.tup [.str "back",iv]);obtain⟨dx,x1,x2,x3⟩:=xS it (hw.ts (Same.ts wu)) ok;obtain⟨y1,y2⟩:=CW (u:=u) (it:=it) ae (hi.ts' (Same.ts wu));refine⟨dx,_,x1,y1,x2,y2,?_⟩;rw[x3];generalize upd H u (.tup [.str "back",iv])=H1 at wu ⊢;refine⟨_,rfl,?_⟩;cases hb1:decide (iV e.2.2=some it)with
 |false =>refine aJ (rest H1 wu ?_);rw[hb1];rfl
 |true =>
  refine aR ?_;refine⟨_,rfl,_,rfl,.ref b,toD t,rfl,(hb.ts (Same.ts wu)).dd,fun tn H2 s2 e2=>?_⟩;refine⟨a,.ref tn,e,nm3 t,rfl,ha.ts (Same.ts (wu.trans s2)),⟨tn,rfl,e2⟩,Int.ofNat_nonneg _,by rw[ln];exact Int.ofNat_lt.mpr t5,fun H3 s3=>⟨_,rfl,?_⟩⟩;have S3:=wu.trans (s2.trans s3);cases hb2:aA e (nm3 t)with
  |false =>refine aJ (rest H3 S3 ?_);rw[hb1,hb2];rfl
  |true =>refine aR ?_;have q1:=q H3 S3;unfold gsB at q1;rw[hb1,hb2]at q1;exact q1
def Gk(C:Addr):Sp:=fun vs H Q _=>∃(b:Addr) (iv:V) (l p d g:Addr) (L:L3) (t:D3) (it:Nm) (ol:Ol),vs=[.ref b,iv,.ref l,.ref p]/\DA H b t/\NameIs H iv (nk it)/\LR3 H l L/\OlAt C H p d g ol/\(∀x∈L,x.2.2.1.length=t.2.1.length/\x.2.2.2.ok/\zY ol (cu x.2) it)/\∀v H',Same H H'->UpAt H' v (eU ol (L.map Prod.snd) t it)->Q v H'
abbrev dQ:Stmt:=top 37
abbrev lV:List Str:=["taking","item","lasting","whole","deed"]
theorem fX:FnScope lV ["taking","item","lasting","whole"] (al dQ):=⟨rfl,rfl,rfl,by decide +kernel,rfl,by decide +kernel,by decide +kernel⟩
theorem ku{f C:Addr}{fd:FuncData}(F:Fun K "first_gainsayer" "first_gainsayer" dQ f fd)(F_gainsays:Fn P w K mg base 4 "gainsays" ["deed","taking","item","whole"] (Gm C))(F_name_of:Fn P w K mg base 1 "name_of" ["deed"] bW):FnOk P w K mg base CX0 5 f fd ["taking","item","lasting","whole"] (Gk C):=by
 refine F.okQ fX (fun vs H Q E h=>?_) (fun cdv A outer s H vs Q E hr h=>?_)
 ·obtain⟨b,iv,l,p,d,g,L,t,it,ol,rfl,_⟩:=h;rfl
 obtain⟨b,iv,l,p,d,g,L,t,it,ol,rfl,hb,hi,hL,hO,hx,q⟩:=h;refine⟨_,(b_c (dC Yc rfl (bu (q_v 2)) (aI (i:=4) fX.nd) (b_1 (aW (dD (aB F_gainsays (hr.mono (by decide)) (q_a (q_v 4) (q_a (q_v 0) (q_a (q_v 1) (q_a (q_v 3) ag)))))) (b_1 (aF (aB F_name_of (hr.mono (by decide)) (q_a (q_v 4) ag)))) b_0)))
   (b_1 (aF bU))),?_⟩
 try rw[cxK]
 refine⟨_,rfl,l,rfl,⟨_,SqL.of hL.1⟩,?_⟩;refine jD (K:=K) (a:=l) (xs:=ax L) (fun i σ H'=>Same H H'/\(∀x∈L.take i,gsB ol x.2 t it=false)/\∃o4,σ=[some (.ref b),some iv,some (.ref l),some (.ref p),o4])
  ⟨Same.refl _,(fun x hx=>by rw[List.take_zero]at hx;cases hx),none,rfl⟩ (fun i σ H' _ z=>SqL.of (z.1 _ _ hL.1)) ?_ ?_
 ·rintro i v σ H' hv ⟨sm,no,o4,rfl⟩;obtain⟨hl,rfl⟩:=bx hv;have hm:=Zy hl;obtain⟨g1,g2,g3⟩:=hx _ hm;have hd:=(hL.2 _ hm).ts (Same.ts sm);refine⟨_,rfl,_,rfl,_,rfl,_,rfl,_,b,iv,p,d,g,L[i].2,t,it,ol,rfl,hd,hb.ts (Same.ts sm),hi.ts' (Same.ts sm),hO.same sm,g1,g2,g3,fun H2 s2=>⟨_,rfl,?_⟩⟩;cases hc:gsB ol L[i].2 t it with
  |false =>
   refine aJ ⟨sm.trans s2,fun x hx'=>?_,_,rfl⟩;rw[List.take_add_one,Zd hl,ZF]at hx';rcases hx' with hx'|hx'
   ·exact no x hx'
   ·rcases Zs.mp hx' with rfl;exact hc
  |true =>
   refine aR ⟨_,rfl,_,_,rfl,(hd.ts (Same.ts s2)).dd,fun tn H3 s3 e3=>q (.ref tn) H3 (sm.trans (s2.trans s3)) ?_⟩;have ef:eU ol (L.map Prod.snd) t it=some (nm3 L[i].2):=by
    unfold eU;have hs:L.map Prod.snd=(L.take i).map Prod.snd++L[i].2::(L.drop (i+1)).map Prod.snd:=by rw[<-Zw (f:=Prod.snd) (a:=L[i]),<-Yw hl,<-ZO,ZT]
    rw[hs,List.find?_append,List.find?_eq_none.mpr,Option.none_or,List.find?_cons_of_pos (p:=fun d=>gsB ol d t it) (by simpa using hc)]
    ·rfl
    ·intro y hy;obtain⟨x,h1,rfl⟩:=ZE.mp hy;rw[no x h1];exact Zr
   rw[ef];exact⟨tn,rfl,e3⟩
 ·rintro σ H' ⟨sm,no,o4,rfl⟩;refine q .non H' sm ?_;rw[show eU ol (L.map Prod.snd) t it=none from ?_]
  ·rfl
  ·unfold eU;rw[List.find?_eq_none.mpr]
   ·rfl
   ·intro y hy;obtain⟨x,h1,rfl⟩:=ZE.mp hy;rw[aD,ZN]at no;rw[no x h1];exact Zr
theorem nZ{k:List Key}:∀{ps kvs:List (List Key×V)},k∉ps.map Prod.fst->aS (bh kvs ps) k=aS kvs k
 | [],_,_=>rfl
 |p::ps,kvs,h=>by show aS (bh (aK kvs p.1 p.2) ps) k=_;rw[Zw,Zl,not_or]at h;rw[nZ h.2,uf,if_neg h.1]
theorem tF{k:List Key}{v:V}:∀{ps kvs:List (List Key×V)},(ps.map Prod.fst).Nodup->(k,v)∈ps->aS (bh kvs ps) k=some v
 |p::ps,kvs,hn,h=>by
  show aS (bh (aK kvs p.1 p.2) ps) k=_;rw[Zw,List.nodup_cons]at hn;rcases Zl.mp h with rfl|h
  ·rw[nZ hn.1,uf,if_pos rfl]
  ·exact tF hn.2 h
def dO(w:Str):Bool:=inV (.str w) [.str "done",.str "top"]
def bz(Z:List ((Addr×D3)×Str)):L3:=(Z.filter fun z=>dO z.2).map Prod.fst
theorem fV(A B:L3):ax (A++B)=ax A++ax B:=ZO
structure Tkn(L:L3)(W:List Str)(n:Nat)(Φ:Ol->Prop):Prop where
 len:L.length<=100
 safe:eI (ao (aw L)) [] (aw L)
 nod:((aw L).map Prod.fst).Nodup
 words:∀rs,Runs (ao (aw L)) (ay (aw L)) [] (aw L) rs->rs.map (fun r:Out=>r.2.1)=W/\rs.map (fun r:Out=>r.1)=(aw L).map Prod.fst
 steps:∀rs,Runs (ao (aw L)) (ay (aw L)) [] (aw L) rs->gE Φ [] ((ci rs).map Prod.snd)
 cl:∀x∈L,x.2.2.1.length=n/\x.2.2.2.ok
 asks:∀ol,Φ ol->∀x∈bz (L.zip W),∀t∈bz (L.zip W),∀it,dY t.2.2.2=some it->zY ol (cu x.2) it
def qJ:Sp:=fun vs H Q _=>∃(l:Addr) (L:L3) (W:List Str) (n:Nat) (Φ:Ol->Prop),vs=[.ref l]/\LR3 H l L/\Tkn L W n Φ/\∀ol a vs H',Φ ol->Same H H'->H' a=some (.lst vs)->Paired (TkAt H') vs (eG ol ((bz (L.zip W)).map Prod.snd))->Q (.ref a) H'
theorem zJ(ol:Ol)(D:List D3):∀E:List D3,(E.flatMap fun d=>fm ol D d).length<=E.length
 | []=>Ze _
 |d::E=>by
  rw[List.flatMap_cons,Zk,Zm];have:=zJ ol D E;have h1:(fm ol D d).length<=1:=by unfold fm;split<;>simp
  omega
theorem OlAt.but{C:Addr}{H H':Hp}{p d g l:Addr}{xs:List V}{ol:Ol}(x:OlAt C H p d g ol)(hl:H l=some (.lst xs))(kp:∀b o,b≠l->H b=some o->H' b=some o):OlAt C H' p d g ol:=by obtain⟨kvs,⟨⟨dx,h1⟩,h2,h3,h4⟩,h5⟩:=x;exact⟨kvs,⟨⟨dx,kp _ _ (cM h1 hl (by intro z;cases z)) h1⟩,kp _ _ (cM h2 hl (by intro z;cases z)) h2,kp _ _ (cM h3 hl (by intro z;cases z)) h3,h4⟩,h5.ts fun b ws e=>kp b _ (cM e hl (by intro z;cases z)) e⟩
abbrev iB:Stmt:=top 34
abbrev rU:List Str:=["ready","words","whole","lasting","takings","deed","item"]
theorem bV:FnScope rU ["ready"] (al iB):=⟨rfl,rfl,rfl,by decide +kernel,rfl,by decide +kernel,by decide +kernel⟩
theorem rf{f C:Addr}{fd:FuncData}(F:Fun K "takings_of" "takings_of" iB f fd)(F_words_of:Fn P w K mg base 8 "words_of" ["ready"] qc)(F_steps_of:Fn P w K mg base 8 "steps_of" ["ready"] vP)(F_stepped:Fn P w K mg base 5 "stepped" ["steps"] (qI C))(F_name_of:Fn P w K mg base 1 "name_of" ["deed"] bW)(F_taken_item:Fn P w K mg base 1 "taken_item" ["deed"] vQ)(F_first_gainsayer:Fn P w K mg base 5 "first_gainsayer" ["taking","item","lasting","whole"] (Gk C))(z_dict:mg "dict" = none):FnOk P w K mg base CX0 9 f fd ["ready"] qJ:=by
 refine F.okQ bV (fun vs H Q E h=>?_) (fun cdv A outer s H vs Q E hr h=>?_)
 ·obtain⟨l,L,W,n,Φ,rfl,_⟩:=h;rfl
 obtain⟨l,L,W,n,Φ,rfl,⟨hl,hL⟩,T,q⟩:=h;have ll:(aw L).length=L.length:=Zf ..;have l1:=T.len;refine⟨_,(b_c (aH (i:=1) bV.nd (pJ (uS rfl hr.units) z_dict qo (q_a (aB F_words_of (hr.mono (by decide)) (q_a (q_v 0) ag)) ag)))
   (b_c (aH (i:=2) bV.nd (aB F_stepped (hr.mono (by decide)) (q_a (fU (own:=["name","step"]) (⟨rfl,by decide +kernel,by decide +kernel,rfl,trivial⟩:CompOk _ _ [] []) rfl (bu (aB F_steps_of (hr.mono (by decide)) (q_a (q_v 0) ag))) (fun _ _ _ _=>ki (K:=K) (n:=2) rfl rfl (cD (aI (i:=0) (show (["name","step"]:List Str).Nodup by decide +kernel)) (cD (aI (i:=1) (show (["name","step"]:List Str).Nodup by decide +kernel)) iN))) (kj (bK (bf (by decide)) aX (bK (bf (by decide)) aX iX ce) (cC aX ce))) (fun _ _ _ _=>sI) (fun _ _ _ _=>(q_v 1))) ag)))
   (b_c (jg (j:=3) bV.nd (own:=["deed"]) (⟨rfl,by decide +kernel,by decide +kernel,rfl,⟨rfl,rfl,trivial⟩⟩:CompOk _ _ [1] ["words"]) rfl (bu (q_v 0)) (fun _ _ _ _=>aI (i:=0) (show (["deed","words"]:List Str).Nodup by decide +kernel)) (bf (by decide)) (fun _ _ _ _=>(jG (aG (gH (K:=K) rfl) (di hr.units (q_v 1) (aB F_name_of (hr.mono (by decide)) (q_a (q_v 0) ag))) (aE (q_a am (q_a am ag)))))) (fun _ _ _ _=>(q_v 0)))
   (b_c (aH (i:=4) bV.nd (cQ ag))
   (b_c (dC Yc rfl (bu (q_v 3)) (aI (i:=5) bV.nd) (b_1 (aW (aG (gH (K:=K) rfl) (aj ai (aj ai (q_v 5) af) af) (aE (q_a am (q_a am ag)))) (b_c (aH (i:=6) bV.nd (aB F_taken_item (hr.mono (by decide)) (q_a (q_v 5) ag)))
   (b_1 (bP (gJ (q_v 4) (aE (q_a (aB F_name_of (hr.mono (by decide)) (q_a (q_v 5) ag)) (q_a (q_v 6) (q_a (aB F_first_gainsayer (hr.mono (by decide)) (q_a (q_v 5) (q_a (q_v 6) (q_a (q_v 3) (q_a (q_v 2) ag))))) ag)))))))) b_0)))
   (b_1 (aF (q_v 4)))))))),?_⟩
 try rw[cxK]
 refine aC fun R0 hR0=>?_;refine⟨_,rfl,l,ax L,aw L,rfl,hl,ke hL,by omega,T.safe,fun a ys rs H1 s1 ea pr run=>?_⟩;have lrs:rs.length=L.length:=by rw[gR run,ll]
 obtain⟨hW,hN⟩:=T.words rs run;have lW:W.length=L.length:=by rw[<-hW,Zf,lrs]
 have prs:Paired (rW H1) ys (rs.map fun r:Out=>(nk r.1,V.str r.2.1)):=by
  clear run lrs ea hW hN;induction pr with
  |nil=>exact .nil
  |cons h _ ih =>obtain⟨t,nv,rfl,e1,b,rfl,e2⟩:=h;exact .cons ⟨t,b,rfl,e1,e2⟩ ih
 refine⟨a,ys,_,rfl,ea,prs,by rw[ZV pr,lrs];omega,fun wd gwd=>?_⟩;have wwd:=ad gwd (.dT (bh [] (rs.map fun r:Out=>(nk r.1,V.str r.2.1))));have ewd:upd H1 wd (.dT (bh [] (rs.map fun r:Out=>(nk r.1,V.str r.2.1)))) wd=some (.dT (bh [] (rs.map fun r:Out=>(nk r.1,V.str r.2.1)))):=ae;have S2:Same H (upd H1 wd (.dT (bh [] (rs.map fun r:Out=>(nk r.1,V.str r.2.1))))):=s1.trans wwd;have wv:∀(i:Nat) (x:Addr×D3) (w0:Str),L[i]?=some x->W[i]?=some w0->aS (bh [] (rs.map fun r:Out=>(nk r.1,V.str r.2.1))) (nk (toD x.2).1)=some (.str w0):=fun i x w0 hx hw=>by
  have hi:i<rs.length:=by have:=(Zx.mp hx).1;omega
  have h1:rs[i].1=(toD x.2).1:=by have h:=ZW (fun l=>l[i]?) hN;simp only[ZA,aw,hx,Zd hi,Option.map_some,Y8]at h;exact h
  have h2:rs[i].2.1=w0:=by have h:=ZW (fun l=>l[i]?) hW;simp only[ZA,hw,Zd hi,Option.map_some,Y8]at h;exact h
  refine tF ?_ (ZE.mpr ⟨rs[i],Zy hi,by rw[h1,h2]⟩);rw[Yl,show(Prod.fst∘fun r:Out=>(nk r.1,V.str r.2.1))=nk∘fun r:Out=>r.1 from rfl,<-Yl,hN];exact T.nod.map _ fun a b hab z=>hab (nP z)
 generalize bh [] (rs.map fun r:Out=>(nk r.1,V.str r.2.1))=kvw at ewd S2 wv ⊢;generalize upd H1 wd (.dT kvw)=H2 at ewd S2 ⊢;clear wwd gwd prs pr ea s1;refine hR0 _ _ ?_;clear hR0 R0;refine aC fun R0 hR0=>?_;refine⟨_,rfl,l,ax L,aw L,rfl,S2 _ _ hl,ke fun x hx=>(hL x hx).ts (Same.ts S2),by omega,T.safe,fun a2 ys2 rs2 H3 s3 ea2 pa2 run2=>⟨a2,rfl,⟨_,SqL.of ea2⟩,?_⟩⟩;have ly2:ys2.length<=100:=by have h1:=ZV pa2;have h2:(ci rs2).length<=rs2.length:=List.length_filterMap_le ..;rw[gR run2,ll]at h2;omega
 refine bD (fun i zs H'=>Same H3 H'/\zs.length<=i/\Paired (StV H') zs (((ci rs2).take i).map Prod.snd)) (by omega) (fun _ _ _ z=>z.2.1) ⟨Same.refl _,Ze _,.nil⟩ (fun i zs H' z=>SqL.of (z.1 _ _ ea2)) ?_ ?_
 ·rintro i zs H' v hv ⟨sm,lz,pz⟩ Y hY;obtain⟨r,hr',t,st',nv,rfl,e1,e2,e3⟩:=bG pa2 hv;refine⟨t,_,rfl,SqT.of (sm _ _ e1),rfl,_,_,rfl,_,_,rfl,rfl,?_⟩;refine⟨_,rfl,hY _ _ ⟨sm,by rw[Zk];exact Yk lz,?_⟩⟩;rw[bt hr',ZO];exact Yr pz ⟨st',rfl,e3.ts (Same.ts sm)⟩
 rintro zs lz H4 ⟨sm,lzs,pz⟩ glz;rw[ZV pa2,ZN]at pz;have wlz:=ad glz (.lst zs);refine⟨lz,zs,_,Φ,rfl,ae,Paired.mapP pz fun _ _ (z:StV _ _ _)=>z.ts (Same.ts wlz),T.steps rs2 run2,fun p d g ol H5 s5 O5 hΦ=>?_⟩;have S25:Same H2 H5:=s3.trans (sm.trans (wlz.trans s5));have S5:=S2.trans S25;have ewd5:=S25 _ _ ewd;clear pz wlz glz sm ea2 pa2 s3 s5 run2;refine hR0 _ _ ?_;clear hR0 R0;refine aC fun R0 hR0=>?_;refine⟨_,rfl,l,rfl,⟨_,SqL.of (S5 _ _ hl)⟩,?_⟩;have lzw:(L.zip W).length=L.length:=by rw[List.length_zip,lW,Nat.min_self]
 refine bD (xs:=ax L) (fun i zs H'=>Same H5 H'/\zs=ax (bz ((L.zip W).take i))) (by rw[aD];omega) (fun i zs _ z=>by
  rw[z.2,aD,bz,Zf];exact ZI (List.length_filter_le ..) (by rw[ZM];omega)) ⟨Same.refl _,rfl⟩ (fun i zs H' z=>SqL.of (z.1 _ _ (S5 _ _ hl))) ?_ ?_
 ·rintro i zs H' v hv ⟨sm,rfl⟩ Y hY;obtain⟨hi,rfl⟩:=bx hv;have hx:=Zy hi;have hd:=(hL _ hx).ts (Same.ts (S5.trans sm));have hiW:i<W.length:=by omega
  have hz:(L.zip W)[i]?=some (L[i],W[i]):=by rw[Zd (by omega),List.getElem_zip]
  refine⟨_,rfl,_,rfl,_,_,rfl,hd.dd,fun t H6 s6 e6=>?_⟩;refine⟨wd,.str W[i],rfl,wv i _ _ (Zd hi) (Zd hiW)▸DGet.t (k:=nk (toD L[i].2).1) (s6 _ _ (sm _ _ ewd5)) e6,sz rfl,fun u gu=>?_⟩;have wu:=s6.trans (ad gu (.tup [.str "done",.str "top"]));refine⟨u,_,rfl,.inr (SqT.of ae),rfl,rfl,_,rfl,?_⟩;have et:bz ((L.zip W).take (i+1))=bz ((L.zip W).take i)++bz [(L[i],W[i])]:=by rw[bt hz,bz,Yz,ZO];rfl
  cases hb:dO W[i]with
  |true =>have ei:(if false=true then !inV (V.str W[i]) [.str "done",.str "top"]else inV (V.str W[i]) [.str "done",.str "top"])=true:=hb;rw[ei];refine aR ⟨_,rfl,hY _ _ ⟨sm.trans wu,?_⟩⟩;rw[et,fV];simp[bz,hb,ax]
  |false =>have ei:(if false=true then !inV (V.str W[i]) [.str "done",.str "top"]else inV (V.str W[i]) [.str "done",.str "top"])=false:=hb;rw[ei];refine aJ (hY _ _ ⟨sm.trans wu,?_⟩);rw[et,fV];simp[bz,hb,ax]
 rintro zs la H6 ⟨sm,rfl⟩ gla;rw[aD,<-lzw,ZN];have mem:∀x∈bz (L.zip W),x∈L:=fun x hx=>by obtain⟨z,h1,rfl⟩:=ZE.mp hx;exact(List.of_mem_zip (Yb.mp h1).1).1
 have lD:(bz (L.zip W)).length<=L.length:=by rw[bz,Zf];exact ZI (List.length_filter_le ..) (by omega)
 have asks:=T.asks ol hΦ;have q':=fun a vs H'=>q ol a vs H' hΦ;generalize bz (L.zip W)=D at asks q' mem lD ⊢;have wla:=ad gla (.lst (ax D));have ela:upd H6 la (.lst (ax D)) la=some (.lst (ax D)):=ae;have S57:=sm.trans wla;have S7:=S5.trans S57;generalize upd H6 la (.lst (ax D))=H7 at ela S7 S57 ⊢;refine hR0 _ _ ?_;clear hR0 R0;refine aC fun R0 hR0=>?_;refine⟨sz rfl,fun tl gtl=>?_⟩;have wtl:=ad gtl (.lst []);have etl:upd H7 tl (.lst []) tl=some (.lst []):=ae;have S8:=S7.trans wtl;have gtl0:H tl=none:=S7.free gtl;have ela8:=wtl _ _ ela;have nla:la≠tl:=fun z=>by rw[z,gtl]at ela;cases ela
 have O8:=O5.same (S57.trans wtl);have hD:∀x∈D,DA (upd H7 tl (.lst [])) x.1 x.2:=fun x hx=>(hL x (mem x hx)).ts (Same.ts S8);generalize upd H7 tl (.lst [])=H8 at etl S8 ela8 O8 hD ⊢;refine hR0 _ _ ?_;clear hR0 R0;refine aC fun R0 hR0=>?_;refine⟨_,rfl,la,rfl,⟨_,SqL.of ela8⟩,?_⟩;refine fR (K:=K) (a:=la) (xs:=ax D) (fun i σ H'=>(∀b o,b≠tl->H8 b=some o->H' b=some o)/\∃(zs:List V) (o5 o6:Option V),H' tl=some (.lst zs)/\zs.length<=i/\Paired (TkAt H') zs (((D.take i).map Prod.snd).flatMap fun d=>fm ol (D.map Prod.snd) d)/\σ=[some (.ref l),some (.ref wd),some (.ref p),some (.ref la),some (.ref tl),o5,o6])
  ⟨fun b o _ e=>e,[],none,none,etl,Ze _,.nil,rfl⟩ (fun i σ H' _ z=>SqL.of (z.1 _ _ nla ela8)) ?_ ?_
 ·rintro i v σ H' hv ⟨kp,zs,o5,o6,hz,lz,pz,rfl⟩ DL hDL;obtain⟨hi,rfl⟩:=bx hv;have hx:=Zy hi;have tp:TS H8 H':=fun b ws e=>kp b _ (cM e etl (by intro z;cases z)) e;have hd:=(hD _ hx).ts tp;have er:((D.take (i+1)).map Prod.snd).flatMap (fun d=>fm ol (D.map Prod.snd) d)=((D.take i).map Prod.snd).flatMap (fun d=>fm ol (D.map Prod.snd) d)++fm ol (D.map Prod.snd) D[i].2:=by rw[bt (Zd hi),ZO,List.flatMap_append];simp
  have hi1:i<100:=by omega
  obtain⟨c,wa,e1,e2,⟨r,e3,e4⟩,_⟩:=id hd;refine(de rfl (SqT.of e1) at2 (SqT.of e3) at0 ⟨sz rfl,fun u gu=>?_⟩);have wu:=ad gu (.tup [.str "take",.str "join"]);refine⟨u,_,rfl,.inr (SqT.of ae),rfl,rfl,_,rfl,?_⟩;have ei:(if false=true then !inV (V.str D[i].2.2.2.word) [.str "take",.str "join"]else inV (V.str D[i].2.2.2.word) [.str "take",.str "join"])=(dY D[i].2.2.2).isSome:=He _;rw[ei];generalize upd H' u (.tup [.str "take",.str "join"])=H9 at wu ⊢;cases ht:dY D[i].2.2.2 with
  |none =>refine aJ (hDL _ _ ⟨fun b o hb e=>wu _ _ (kp b o hb e),zs,_,_,wu _ _ hz,Nat.le_succ_of_le lz,?_,rfl⟩);rw[er,show fm ol (D.map Prod.snd) D[i].2=[]from by unfold fm;rw[ht],ZL];exact Paired.mapP pz fun _ _ (z:TkAt _ _ _)=>z.ts (Same.ts wu)
  |some it =>
   refine aR ?_;refine aC fun R hR=>?_;refine⟨_,rfl,_,_,it,rfl,hd.ts (Same.ts wu),ht,fun iv hiv=>hR _ _ ?_⟩;clear hR R;refine⟨_,rfl,.inl ⟨rfl,_,SqL.of (wu _ _ hz)⟩,_,rfl,_,_,rfl,(hd.ts (Same.ts wu)).dd,fun tn H10 s10 e10=>?_⟩;have w10:=wu.trans s10;have kp10:∀b o,b≠tl->H8 b=some o->H10 b=some o:=fun b o hb e=>w10 _ _ (kp b o hb e);have tp10:TS H8 H10:=TS.trans tp (Same.ts w10);refine⟨_,rfl,_,rfl,_,rfl,_,rfl,_,rfl,_,iv,la,p,d,g,D,D[i].2,it,ol,rfl,hd.ts (Same.ts w10),hiv.ts' (Same.ts s10),⟨kp10 _ _ nla ela8,fun x hx'=>(hD x hx').ts tp10⟩,O8.but etl kp10,fun x hx'=>⟨by rw[(T.cl x (mem x hx')).1,(T.cl _ (mem _ hx)).1],(T.cl x (mem x hx')).2,asks x hx' _ hx it ht⟩,fun bv H11 s11 hu=>⟨sz rfl,fun tr gtr=>?_⟩⟩;have w12:=w10.trans (s11.trans (ad gtr (.tup [.ref tn,iv,bv])));have wtr:=ad gtr (.tup [.ref tn,iv,bv]);have etr:upd H11 tr (.tup [.ref tn,iv,bv]) tr=some (.tup [.ref tn,iv,bv]):=ae;generalize upd H11 tr (.tup [.ref tn,iv,bv])=H12 at w12 wtr etr ⊢;refine⟨tl,_,_,rfl,rfl,w12 _ _ hz,aO (by omega),?_⟩;have t13:TS H12 (upd H12 tl (.lst (zs++[.ref tr]))):=iH fun ws e'=>by rw[w12 _ _ hz]at e';cases e'
   refine hDL _ _ ⟨fun b o hb e=>by rw[ah hb];exact w12 _ _ (kp b o hb e),zs++[.ref tr],_,_,ae,by rw[Zk];exact Yk lz,?_,rfl⟩;rw[er,show fm ol (D.map Prod.snd) D[i].2=[(nm3 D[i].2,it,eU ol (D.map Prod.snd) D[i].2 it)]from by unfold fm;rw[ht]];exact Yr (Paired.mapP pz fun _ _ (z:TkAt _ _ _)=>z.ts (TS.trans (Same.ts w12) t13)) ⟨tr,.ref tn,iv,bv,rfl,t13 _ _ etr,⟨tn,rfl,t13 _ _ (wtr _ _ (s11 _ _ e10))⟩,hiv.ts' (TS.trans (Same.ts (s10.trans (s11.trans wtr))) t13),(hu.ts (Same.ts wtr)).ts t13⟩
 ·rintro σ H' ⟨kp,zs,o5,o6,hz,lz,pz,rfl⟩;refine hR0 _ _ ?_;rw[aD,ZN]at pz;exact⟨_,rfl,q' tl zs H' (fun b o e=>kp b o (au e gtl0) (S8 _ _ e)) hz pz⟩
def fN:Wd->Option Nm
 |.write n _=>some n
 |.mark n _=>some n
 |_=>none
def fz:Wd->Bool
 |.write _ _=>true
 |.mark _ _=>true
 |_=>false
theorem wP(wd:Wd):inV (.str wd.word) [.str "move",.str "write",.str "mark",.str "due",.str "fold"]=fz wd:=by cases wd<;>rfl
def iD(a b:Wd):Bool:=decide (a.word=b.word)&&decide (fN a=fN b)
def eV(wd:Wd):PyData:=.tuple [.str wd.word,upD (fN wd)]
theorem Au(a b:Wd):PyData.eqv (eV a) (eV b)=iD a b:=by
 have e:=zP (fN a) (fN b);have e0:∀u:Option Nm,xH u=upD u:=fun u=>by cases u<;>rfl
 rw[e0,e0]at e;unfold eV iD;simp only[PyData.eqv,PyData.eqvAll,e,Bool.and_true];congr 1
theorem Ew(x:V)(r:List V):bY (x::r) none (some 2)=x::r.take 1:=by
 unfold bY;rw[HT.sIx_none,show(2:Int)=((2:Nat):Int)from rfl,HT.sIx_nat,List.drop_zero,Nat.sub_zero];cases r with
 |nil=>rfl
 |cons y r =>rw[YU (by simp)];rfl
theorem sF(wd:Wd):SeqAt.shaped (eV wd)=true:=by refine dM (by simp[eV,PyData.canLay0,PyData.canLayAll0,lS wd,(iY (fN wd)).1]) ?_;have:=(iY (fN wd)).2;simp only[eV,PyData.depth,PyData.depthAll];omega
theorem vk{H:Hp}{t:Addr}{wd:Wd}{r:List V}(hf:fz wd=true)(h6:RsAt H r wd)(h7:H t=some (.tup (bY (.str wd.word::r) none (some 2)))):Dt H (eV wd) (.ref t):=by
 rw[Ew]at h7;have fin:∀(y:V) (r':List V),r=y::r'->UpAt H y (fN wd)->Dt H (eV wd) (.ref t):=fun y r' e hu=>by rw[e]at h7;exact fw h7 (bI (gU _) (bI (xI hu) fQ))
 cases wd with
 |write m tx=>obtain⟨nv,rfl,a0⟩:=h6;exact fin _ _ rfl a0
 |mark m tx=>obtain⟨nv,rfl,a0⟩:=h6;exact fin _ _ rfl a0
 |_=>cases hf
theorem Az{H:Hp}{t:Addr}{wd d:Wd}{r:List V}(h6:RsAt H r wd)(ok:wd.ok)(h7:H t=some (.tup (bY (.str wd.word::r) none (some 2))))(hd:fz d=true):∃dx,Dt H dx (.ref t)/\SeqAt.shaped dx=true/\PyData.eqv dx (eV d)=iD wd d:=by
 cases c:fz wd with
 |true=>exact⟨eV wd,vk c h6 h7,sF wd,Au wd d⟩
 |false =>
  have hw:wd.word≠d.word:=fun z=>by rw[<-wP wd,z,wP d,hd]at c;cases c
  rw[Ew]at h7;obtain⟨ds,i1,i2,i3⟩:=oQ (vs:=r.take 1) fun v hv=>mE h6 ok (YE hv);refine⟨.tuple (.str wd.word::ds),fw h7 (bI (gU _) i1),dM ?_ ?_,?_⟩
  ·simp[PyData.canLay0,PyData.canLayAll0,lS wd,i2]
  ·simp only[PyData.depth,PyData.depthAll];omega
  ·have e3:(wd.word==d.word)=false:=by simpa using hw
   unfold eV iD;simp only[PyData.eqv,PyData.eqvAll];rw[e3,decide_eq_false hw,Ya,Ya]
def cW(e d:D3):Bool:=iD e.2.2 d.2.2&&cz e d
def ovJ(D:List D3)(k:Nat):Option Nm:=match D[k]? with
 |some d=>if fz d.2.2=true then((D.drop (k+1)).find? fun e=>cW e d).map nm3 else none
 |none=>none
theorem Aq(L:L3)(k:Nat):bY (ax L) (some ((k:Int)+1)) none=ax (L.drop (k+1)):=by
 unfold bY;rw[HT.sIx_none,show(k:Int)+1=((k+1:Nat):Int) by omega,HT.sIx_nat,aD];unfold ax;rw[List.map_drop];rcases Nat.le_total (k+1) L.length with c|c
 ·rw[YU c,ZX (by rw[Z5,Zf];omega)]
 ·rw[Nat.min_eq_right c,List.drop_eq_nil_of_le (by rw[Zf];omega),List.drop_eq_nil_of_le (by rw[Zf];exact c)];simp
abbrev NsAt(H:Hp)(kvs:List (List Key×V))(ov:As Nm):Prop:=Rws (fun v n=>NameIs H v (nk n)) kvs ov
theorem NsAt.ts{H H':Hp}{kvs:List (List Key×V)}{ov:As Nm}(x:NsAt H kvs ov)(t:TS H H'):NsAt H' kvs ov:=Paired.mapP x fun _ _ z=>⟨z.1,z.2.ts' t⟩
def vN:Sp:=fun vs H Q _=>∃(l:Addr) (L:L3) (n:Nat),vs=[.ref l]/\H l=some (.lst (ax L))/\(∀x∈L,DA H x.1 x.2)/\(∀x∈L,x.2.2.1.length=n/\x.2.2.2.ok)/\L.length<=100/\(L.Pairwise fun x y=>nm3 x.2≠nm3 y.2) /\
 ∀d kvs ov H',Same H H'->H' d=some (.dT kvs)->NsAt H' kvs ov->(∀(j:Nat) (hj:j<L.length),look ov (nm3 L[j].2)=ovJ (L.map Prod.snd) j)->(∀n,(∀x∈L,nm3 x.2≠n)->look ov n=none)->Q (.ref d) H'
abbrev jS:Stmt:=top 41
abbrev wf:List Str:=["done","overs","at","deed","later"]
theorem dX:FnScope wf ["done"] (al jS):=⟨rfl,rfl,rfl,by decide +kernel,rfl,by decide +kernel,by decide +kernel⟩
theorem uE{f:Addr}{fd:FuncData}(F:Fun K "overs_of" "overs_of" jS f fd)(F_name_of:Fn P w K mg base 1 "name_of" ["deed"] bW)(F_apart:Fn P w K mg base 3 "apart" ["one","other"] pX)(z_enumerate:mg "enumerate" = none)(z_len:mg "len" = none):FnOk P w K mg base CX0 4 f fd ["done"] vN:=by
 refine F.okQ dX (fun vs H Q E h=>?_) (fun cdv A outer s H vs Q E hr h=>?_)
 ·obtain⟨l,L,n,rfl,_⟩:=h;rfl
 obtain⟨l,L,n,rfl,hl,hL,hn,l1,pw,q⟩:=h;refine⟨_,(b_c (aH (i:=1) dX.nd jO)
   (b_c (dC Yc rfl (yl z_enumerate (q_a (q_v 0) ag)) (kW rfl (cD (aI (i:=2) dX.nd) (cD (aI (i:=3) dX.nd) iN))) (b_1 (aW (aG (gH (K:=K) rfl) (aj ai (aj ai (q_v 3) af) af) (aE (q_a am (q_a am (q_a am (q_a am (q_a am ag))))))) (b_c (jg (j:=4) dX.nd (own:=["each"]) (⟨rfl,by decide +kernel,by decide +kernel,rfl,⟨rfl,rfl,trivial⟩⟩:CompOk _ _ [3] ["deed"]) rfl (bu (fD sL (q_v 0) (eX (aM fO (q_v 2) af)) gq)) (fun _ _ _ _=>aI (i:=0) (show (["each","deed"]:List Str).Nodup by decide +kernel)) (bf (by decide)) (fun _ _ _ _=>(jG (t_w (df (aG (rF hr.units) (fD dR (aj (oB (K:=K) rfl) (q_v 0) af) gq (eX af)) (fD dR (aj (oB (K:=K) rfl) (q_v 1) af) gq (eX af))) (cU (dD (aB F_apart (hr.mono (by decide)) (q_a (q_v 0) (q_a (q_v 1) ag))))))))) (fun _ _ _ _=>(q_v 0)))
   (b_1 (aW (aG xf (q_B rC z_len PySem.boot_len (q_a (q_v 4) ag)) af) (b_1 (dU hr.units (q_v 1) (aB F_name_of (hr.mono (by decide)) (q_a (q_v 3) ag)) (aB F_name_of (hr.mono (by decide)) (q_a (aj dj (q_v 4) af) ag)))) b_0))) b_0)))
   (b_1 (aF (q_v 1))))),?_⟩
 try rw[cxK]
 refine aC fun R0 hR0=>?_;intro od god;have w0:=ad god (.dT []);refine hR0 _ _ ?_;clear hR0 R0;refine aC fun R0 hR0=>?_;refine⟨_,rfl,l,_,rfl,w0 _ _ hl,?_⟩;refine qv (i:=2) (j:=3) (fun k σ H'=>Same H H'/\∃(kvs:List (List Key×V)) (ov:As Nm) (o2 o3 o4:Option V),H' od=some (.dT kvs)/\NsAt H' kvs ov/\ov.length<=k/\(∀(j:Nat) (hj:j<L.length),look ov (nm3 L[j].2)=if j<k then ovJ (L.map Prod.snd) j else none)/\(∀n,(∀x∈L,nm3 x.2≠n)->look ov n=none)/\σ=[some (.ref l),some (.ref od),o2,o3,o4])
  ⟨w0,[],[],none,none,none,ae,.nil,Ze _,fun j hj=>rfl,fun _ _=>rfl,rfl⟩ (fun i σ H' _ z=>SqL.of (z.1 _ _ hl)) ?_ ?_
 ·rintro k x σ H3 hx ⟨S3,kvs,ov,o2,o3,o4,eod,hns,lov,hlk,hno,eσ⟩ DE hDE T hT;subst eσ;obtain⟨hk,rfl⟩:=bx hx;have hm:=Zy hk;have wT:=ad hT (.tup [.int (k:Int),.ref L[k].1]);have S4:=S3.trans wT;have eod4:=wT _ _ eod;have ns4:=hns.ts (Same.ts wT);generalize upd H3 T (.tup [.int (k:Int),.ref L[k].1])=H4 at S4 eod4 ns4 ⊢;clear wT hT S3 eod hns;obtain⟨c,wa,e1,e2,⟨r,e3,e4⟩,e5,e6⟩:=(hL _ hm).ts (Same.ts S4);refine(de rfl (SqT.of e1) at2 (SqT.of e3) at0 ⟨sz rfl,fun u gu=>?_⟩);have wu:=ad gu (.tup [.str "move",.str "write",.str "mark",.str "due",.str "fold"]);have eu:upd H4 u (.tup [.str "move",.str "write",.str "mark",.str "due",.str "fold"]) u=_:=ae;generalize upd H4 u (.tup [.str "move",.str "write",.str "mark",.str "due",.str "fold"])=H5 at wu eu ⊢;refine⟨u,_,rfl,.inr (SqT.of eu),rfl,rfl,_,rfl,?_⟩;have ei:(if false=true then !inV (V.str L[k].2.2.2.word) [.str "move",.str "write",.str "mark",.str "due",.str "fold"]else inV (V.str L[k].2.2.2.word) [.str "move",.str "write",.str "mark",.str "due",.str "fold"])=fz L[k].2.2.2:=wP _;rw[ei];have S5:=S4.trans wu;have eod5:=wu _ _ eod4;have ns5:=ns4.ts (Same.ts wu);have ek:(L.map Prod.snd)[k]?=some L[k].2:=by rw[ZA,Zd hk];rfl
  have ej:ovJ (L.map Prod.snd) k=if fz L[k].2.2.2=true then(((L.drop (k+1)).map Prod.snd).find? fun e=>cW e L[k].2).map nm3 else none:=by unfold ovJ;rw[ek,List.map_drop]
  have kept:∀{H':Hp},Same H5 H'->ovJ (L.map Prod.snd) k=none->∀j (hj:j<L.length),look ov (nm3 L[j].2)=if j<k+1 then ovJ (L.map Prod.snd) j else none:=fun _ e j hj=>by
   rw[hlk j hj];by_cases c1:j<k
   ·rw[if_pos c1,if_pos (by omega)]
   ·rw[if_neg c1];by_cases c2:j=k
    ·subst c2;rw[if_pos (by omega),e]
    ·rw[if_neg (by omega)]
  cases cf:fz L[k].2.2.2 with
  |false =>rw[cf,if_neg (by decide)]at ej;exact aJ (hDE _ _ ⟨S5,kvs,ov,_,_,_,eod5,ns5,by omega,kept (Same.refl _) ej,hno,rfl⟩)
  |true =>
   rw[cf,if_pos rfl]at ej;refine aR ?_;refine aC fun R hR=>?_;refine⟨_,rfl,_,rfl,_,_,rfl,rfl,_,rfl,l,_,rfl,SqL.of (S5 _ _ hl),fun pc gpc=>⟨pc,rfl,⟨_,SqL.of ae⟩,?_⟩⟩;have ecut:=Aq L k;dsimp only;rw[ecut];have wpc:=ad gpc (.lst (ax (L.drop (k+1))));have epc:upd H5 pc (.lst (ax (L.drop (k+1)))) pc=some (.lst (ax (L.drop (k+1)))):=ae;have S6:=S5.trans wpc;have eod6:=wpc _ _ eod5;have ns6:=ns5.ts (Same.ts wpc);generalize upd H5 pc (.lst (ax (L.drop (k+1))))=H6 at epc S6 eod6 ns6 ⊢;refine bD (xs:=ax (L.drop (k+1))) (fun i zs H'=>Same H6 H'/\zs.length<=i/\zs=ax (((L.drop (k+1)).take i).filter fun y=>cW y.2 L[k].2)) (by rw[aD,Z5];omega) (fun _ _ _ z=>z.2.1) ⟨Same.refl _,Ze _,rfl⟩ (fun i zs H' z=>SqL.of (z.1 _ _ epc)) ?_ ?_
   ·rintro i zs H' v hv ⟨sm,lz,ez⟩ Y hY;obtain⟨hi,rfl⟩:=bx hv;have hy:(L.drop (k+1))[i]∈L:=List.mem_of_mem_drop (Zy hi);generalize hyy:(L.drop (k+1))[i]=y at hy hv ⊢;have ti:(L.drop (k+1)).take (i+1)=(L.drop (k+1)).take i++[y]:=bt (by rw[Zd hi,hyy]);have S7:=S6.trans sm;have dy:=(hL _ hy).ts (Same.ts S7);have dk:=(hL _ hm).ts (Same.ts S7);obtain⟨cy,wy,y1,y2,y3,_⟩:=id dy;obtain⟨ck,wk,k1,k2,k3,_⟩:=id dk;obtain⟨ry,y5,y6⟩:=id y3;obtain⟨rk,k5,k6⟩:=id k3;refine(vix rfl (SqT.of y1) at2 ⟨_,rfl,wy,_,rfl,y5,fun t1 H8 s8 e8=>?_⟩);refine(vix rfl (SqT.of (s8 _ _ k1)) at2 ⟨_,rfl,wk,_,rfl,s8 _ _ k5,fun t2 H9 s9 e9=>?_⟩);have s89:=s8.trans s9;have p3:=vk (r:=rk) cf (k6.ts (Same.ts s89)) e9;obtain⟨dx,p1,p2,px⟩:=Az (r:=ry) (d:=L[k].2.2.2) (y6.ts (Same.ts s89)) (hn y hy).2 (s9 _ _ e8) cf;refine⟨dx,_,p1,p3,p2,sF _,_,rfl,?_⟩;rw[px];have drop:cW y.2 L[k].2=false->∀{H'':Hp},Same H' H''->Y zs H'':=fun eo {H''} s''=>hY _ _ ⟨sm.trans s'',by omega,by rw[ti,Yz,List.filter_cons,if_neg (by rw[eo];decide),List.filter_nil,ZL];exact ez⟩;cases cs:iD y.2.2.2 L[k].2.2.2 with
    |false=>exact aJ (aJ (drop (by unfold cW;rw[cs];rfl) s89))
    |true =>
     refine aR ?_;refine⟨_,rfl,_,rfl,y.1,L[k].1,y.2,L[k].2,rfl,dy.ts (Same.ts s89),dk.ts (Same.ts s89),by rw[(hn y hy).1,(hn _ hm).1],fun HA sA=>⟨_,rfl,?_⟩⟩;cases ca:cz y.2 L[k].2 with
     |false=>exact aJ (drop (by unfold cW;rw[ca,Ym]) (s89.trans sA))
     |true =>refine aR (⟨_,rfl,hY _ _ ⟨sm.trans (s89.trans sA),by rw[Zk];exact Yk lz,?_⟩⟩);rw[ti,Yz,List.filter_cons,if_pos (by show cW y.2 L[k].2=true;unfold cW;rw[cs,ca];rfl),List.filter_nil,ez];unfold ax;rw[ZO];rfl
   ·rintro zs lt H7 ⟨sm,lz,ez⟩ glt;rw[aD,ZN]at ez;have wlt:=ad glt (.lst zs);have elt:upd H7 lt (.lst zs) lt=some (.lst zs):=ae;have S8:=S6.trans (sm.trans wlt);have eod8:=wlt _ _ (sm _ _ eod6);have ns8:=ns6.ts (Same.ts (sm.trans wlt));generalize upd H7 lt (.lst zs)=H8 at elt S8 eod8 ns8 ⊢;refine hR _ _ ?_;clear hR R;have ef:(((L.drop (k+1)).map Prod.snd).find? fun e=>cW e L[k].2)=(((L.drop (k+1)).filter fun y=>cW y.2 L[k].2).head?).map Prod.snd:=by rw[List.head?_filter,List.find?_map];rfl
    refine⟨_,rfl,lt,_,rfl,.inl (SqL.of elt),_,_,rfl,rfl,_,rfl,?_⟩;cases hF:(L.drop (k+1)).filter (fun y=>cW y.2 L[k].2)with
    |nil =>rw[hF]at ez ef;subst ez;rw[ef]at ej;refine aJ (hDE _ _ ⟨S8,kvs,ov,_,_,_,eod8,ns8,by omega,fun j hj=>kept (Same.refl _) ej j hj,hno,rfl⟩)
    |cons y ys =>
     rw[hF]at ez ef;subst ez;have hy:y∈L:=by
      have:y∈(L.drop (k+1)).filter fun y=>cW y.2 L[k].2:=by rw[hF];exact Zv
      exact List.mem_of_mem_drop (Yb.mp this).1
     rw[ef]at ej;refine gh (fun _=>?_) (fun z=>absurd (show(0:Int)<((ax (y::ys)).length:Int) by rw[aD,Zm];omega) z);have dy:=(hL _ hy).ts (Same.ts S8);have dk:=(hL _ hm).ts (Same.ts S8);have lkv:=dJ ns8;refine⟨_,rfl,lt,_,_,_,rfl,rfl,SqL.of elt,at0,_,_,rfl,dy.dd,fun t1 H9 s9 e9=>?_⟩;refine⟨_,rfl,_,rfl,_,_,rfl,(dk.ts (Same.ts s9)).dd,fun t2 HA sA eA=>⟨od,_,rfl,DPut.t (k:=nk (nm3 L[k].2)) (sA _ _ (s9 _ _ eod8)) eA (aO (by omega)),?_⟩⟩;have s9A:=s9.trans sA;have td:TS HA (upd HA od (.dT (aK kvs (nk (nm3 L[k].2)) (.ref t1)))):=iG (s9A _ _ eod8);refine hDE _ _ ⟨bO (S8.trans s9A) god,_,bo ov (nm3 L[k].2) (nm3 y.2),_,_,_,ae,NsAt.ts (dL (ns8.ts (Same.ts s9A)) (n:=nm3 L[k].2) (it:=nm3 y.2) ⟨t1,rfl,sA _ _ e9⟩) td,by have:=fH ov (nm3 L[k].2) (nm3 y.2);omega,fun j hj=>?_,fun m hm'=>by rw[aZ,if_neg fun z=>hm' _ hm z.symm];exact hno m hm',rfl⟩;rw[aZ];by_cases c2:j=k
     ·subst c2;rw[if_pos rfl,if_pos (by omega),ej];rfl
     ·have ne:nm3 L[j].2≠nm3 L[k].2:=by
       have p:=ZH.mp pw;rcases Z2 j k with c|c
       ·exact p j k hj hk c
       ·exact fun z=>p k j hk hj (by omega) z.symm
      rw[if_neg ne,hlk j hj];by_cases c1:j<k
      ·rw[if_pos c1,if_pos (by omega)]
      ·rw[if_neg c1,if_neg (by omega)]
 ·rintro σ H3 ⟨S3,kvs,ov,o2,o3,o4,eod,hns,lov,hlk,hno,eσ⟩;refine hR0 _ _ ?_;subst eσ;rw[aD]at lov hlk;exact⟨_,rfl,q od kvs ov H3 S3 eod hns (fun j hj=>by rw[hlk j hj,if_pos hj]) hno⟩
abbrev Rp:=Nm×Str×Option Nm
def RpAt(H:Hp)(v:V)(r:Rp):Prop:=∃(t:Addr) (nv bv:V),v=.ref t/\H t=some (.tup [nv,.str r.2.1,bv])/\NameIs H nv (nk r.1)/\UpAt H bv r.2.2
theorem RpAt.ts{H H':Hp}{v:V}{r:Rp}(x:RpAt H v r)(s:TS H H'):RpAt H' v r:=by obtain⟨t,nv,bv,h1,h2,h3,h4⟩:=x;exact⟨t,nv,bv,h1,s _ _ h2,h3.ts' s,h4.ts s⟩
def fh(acc:As Nm)(qs:List (Nm×Nm)):As Nm:=qs.foldl (fun acc q=>bo acc q.1 q.2) acc
def cg(T:List Tk):List (Nm×Nm):=T.filterMap fun r=>r.2.2.map fun b=>(r.1,b)
def gF(T:List Tk):As Nm:=fh [] (cg T)
def fc(kp ov:As Nm)(ts:As Dd)(n:Nm)(w:Str):Rp:=if w="off" then(n,"off",(look ts n).map fun d=>d.1)else match look kp n with
 |some b=>(n,"kept",some b)
 |none=>match look ov n with
  |some b=>(n,"over",some b)
  |none=>(n,w,none)
def gK(kp ov:As Nm)(ts:As Dd)(Z:List ((Addr×D3)×Str)):List Rp:=Z.map fun z=>fc kp ov ts (nm3 z.1.2) z.2
def bE(w:Str):Bool:=decide (w="done")
def cG(Z:List ((Addr×D3)×Str)):L3:=(Z.filter fun z=>bE z.2).map Prod.fst
def OvR(D:List D3)(ov:As Nm):Prop:=(∀(j:Nat) (d:D3),D[j]?=some d->look ov (nm3 d)=ovJ D j)/\∀n,(∀d∈D,nm3 d≠n)->look ov n=none
theorem yT{ol ol':Ol}{n:Nm}{wd:Wd}{w:Str}{so:Option Sd}(p:PlayR ol n wd w so ol'):w≠"off":=by
 cases p with
 |none=>decide +kernel
 |take=>split<;>decide +kernel
 |back=>split<;>decide +kernel
 |top _=>decide +kernel
 |step _ _ wr=>cases wr<;>decide +kernel
theorem Bu{ts:As Dd}{tn:List Nm}{ol:Ol}{ds:List Dd}{rs:List Out}(h:Runs ts tn ol ds rs):∀(i:Nat) (d:Dd) (r:Out),ds[i]?=some d->rs[i]?=some r->r.2.1="off"->∃dd,look ts d.1=some dd:=by
 induction h with
 |nil=>intro i d r h;simp at h
 |@off ol d0 ds rs c _ ih =>
  intro i d r h1 h2 h3;cases i with
  |zero =>
   cases h1;cases e:look ts d0.1 with
   |some dd=>exact⟨dd,rfl⟩
   |none =>unfold bg at c;rw[e]at c;have c':(!d0.2.isTurn&&false)=true:=c;rw[Ym]at c';cases c'
  |succ i=>exact ih i d r h1 h2 h3
 |turn _ _ _ ih =>
  intro i d r h1 h2 h3;cases i with
  |zero =>cases h2;dsimp only at h3;split at h3<;>exact absurd h3 (by decide +kernel)
  |succ i=>exact ih i d r h1 h2 h3
 |play _ _ p _ ih =>
  intro i d r h1 h2 h3;cases i with
  |zero =>cases h2;exact absurd h3 (yT p)
  |succ i=>exact ih i d r h1 h2 h3
def PrN(H:Hp)(v:V)(q:Nm×Nm):Prop:=∃(t b:Addr) (bv:V),v=.ref t/\H t=some (.tup [.ref b,bv])/\H b=some (.tup ((nk q.1).map kV))/\NameIs H bv (nk q.2)
theorem PrN.ts{H H':Hp}{v:V}{q:Nm×Nm}(x:PrN H v q)(s:TS H H'):PrN H' v q:=by obtain⟨t,b,bv,h1,h2,h3,h4⟩:=x;exact⟨t,b,bv,h1,s _ _ h2,s _ _ h3,h4.ts' s⟩
theorem yX{H:Hp}{zs:List V}{qs:List (Nm×Nm)}(x:Paired (PrN H) zs qs):∃ps,Paired (rW H) zs ps/\Paired (fun(p:List Key×V) (q:Nm×Nm)=>p.1=nk q.1/\NameIs H p.2 (nk q.2)) ps qs:=by
 induction x with
 |nil=>exact⟨[],.nil,.nil⟩
 |@cons v q _ _ h _ ih =>obtain⟨ps,i1,i2⟩:=ih;obtain⟨t,b,bv,rfl,h2,h3,h4⟩:=h;exact⟨(nk q.1,bv)::ps,.cons ⟨t,b,rfl,h2,h3⟩ i1,.cons ⟨rfl,h4⟩ i2⟩
theorem E4{H:Hp}{ps:List (List Key×V)}{qs:List (Nm×Nm)}(x:Paired (fun(p:List Key×V) (q:Nm×Nm)=>p.1=nk q.1/\NameIs H p.2 (nk q.2)) ps qs):∀{kvs:List (List Key×V)} {acc:As Nm},NsAt H kvs acc->NsAt H (bh kvs ps) (fh acc qs):=by
 induction x with
 |nil=>intro kvs acc a;exact a
 |@cons p q ps qs h _ ih =>intro kvs acc a;show NsAt H (bh (aK kvs p.1 p.2) ps) (fh (bo acc q.1 q.2) qs);rw[h.1];exact ih (dL a h.2)
def qH:Sp:=fun vs H Q _=>∃(l:Addr) (L:L3) (W:List Str) (n:Nat) (Φ:Ol->Prop),vs=[.ref l]/\LR3 H l L/\Tkn L W n Φ/\∀ol ov a ys H',Φ ol->OvR ((cG (L.zip W)).map Prod.snd) ov->Same H H'->H' a=some (.lst ys)->Paired (RpAt H') ys (gK (gF (eG ol ((bz (L.zip W)).map Prod.snd))) ov (ao (aw L)) (L.zip W))->Q (.ref a) H'
abbrev iR:Stmt:=top 40
abbrev ur:List Str:=["ready","words","turns","kept","over","report","name","word"]
theorem bQ:FnScope ur ["ready"] (al iR):=⟨rfl,rfl,rfl,by decide +kernel,rfl,by decide +kernel,by decide +kernel⟩
theorem tj{f:Addr}{fd:FuncData}(F:Fun K "report_of" "report_of" iR f fd)(F_words_of:Fn P w K mg base 8 "words_of" ["ready"] qc)(F_last_turns:Fn P w K mg base 2 "last_turns" ["ready"] tW)(F_takings_of:Fn P w K mg base 9 "takings_of" ["ready"] qJ)(F_overs_of:Fn P w K mg base 4 "overs_of" ["done"] vN)(F_name_of:Fn P w K mg base 1 "name_of" ["deed"] bW)(z_dict:mg "dict" = none)(z_zip:mg "zip" = none):FnOk P w K mg base CX0 10 f fd ["ready"] qH:=by
 refine F.okQ bQ (fun vs H Q E h=>?_) (fun cdv A outer s H vs Q E hr h=>?_)
 ·obtain⟨l,L,W,n,Φ,rfl,_⟩:=h;rfl
 obtain⟨l,L,W,n,Φ,rfl,lr,T,q⟩:=h;have ll:(aw L).length=L.length:=Zf ..;have l1:=T.len;refine⟨_,(b_c (aH (i:=1) bQ.nd (aB F_words_of (hr.mono (by decide)) (q_a (q_v 0) ag)))
   (b_c (aH (i:=2) bQ.nd (aB F_last_turns (hr.mono (by decide)) (q_a (q_v 0) ag)))
   (b_c (aH (i:=3) bQ.nd (pJ (uS rfl hr.units) z_dict qo (q_a (fU (own:=["name","item","by"]) (⟨rfl,by decide +kernel,by decide +kernel,rfl,trivial⟩:CompOk _ _ [] []) rfl (bu (aB F_takings_of (hr.mono (by decide)) (q_a (q_v 0) ag))) (fun _ _ _ _=>ki (K:=K) (n:=3) rfl rfl (cD (aI (i:=0) (show (["name","item","by"]:List Str).Nodup by decide +kernel)) (cD (aI (i:=1) (show (["name","item","by"]:List Str).Nodup by decide +kernel)) (cD (aI (i:=2) (show (["name","item","by"]:List Str).Nodup by decide +kernel)) iN)))) (kj (bK (bf (by decide)) aX (bK (bf (by decide)) aX (bK (bf (by decide)) aX iX ce) (cC aX ce)) (cC aX (cC aX ce)))) (fun _ _ _ _=>(jG (aG jb (q_v 2) bU))) (fun _ _ _ _=>(aE (q_a (q_v 0) (q_a (q_v 2) ag))))) ag)))
   (b_c (aH (i:=4) bQ.nd (aB F_overs_of (hr.mono (by decide)) (q_a (fU (own:=["deed","named"]) (⟨rfl,by decide +kernel,by decide +kernel,rfl,trivial⟩:CompOk _ _ [] []) rfl (EL z_zip (q_a (q_v 0) (q_a (q_v 1) ag))) (fun _ _ _ _=>ki (K:=K) (n:=2) rfl rfl (cD (aI (i:=0) (show (["deed","named"]:List Str).Nodup by decide +kernel)) (cD (aI (i:=1) (show (["deed","named"]:List Str).Nodup by decide +kernel)) iN))) (kj (bK (bf (by decide)) aX (bK (bf (by decide)) aX iX ce) (cC aX ce))) (fun _ _ _ _=>(jG (aG bH (aj (oB (K:=K) rfl) (q_v 1) af) am))) (fun _ _ _ _=>(q_v 0))) ag)))
   (b_c (aH (i:=5) bQ.nd (cQ ag))
   (b_c (dC Yc rfl (bu (q_v 1)) (kW rfl (cD (aI (i:=6) bQ.nd) (cD (aI (i:=7) bQ.nd) iN))) (b_1 (aW (aG bH (q_v 7) am) (b_1 (bP (gJ (q_v 5) (aE (q_a (q_v 6) (q_a am (q_a (aB F_name_of (hr.mono (by decide)) (q_a (di hr.units (q_v 2) (q_v 6)) ag)) ag))))))) (b_1 (aW (ow hr.units (q_v 6) (q_v 3)) (b_1 (bP (gJ (q_v 5) (aE (q_a (q_v 6) (q_a am (q_a (di hr.units (q_v 3) (q_v 6)) ag))))))) (b_1 (aW (ow hr.units (q_v 6) (q_v 4)) (b_1 (bP (gJ (q_v 5) (aE (q_a (q_v 6) (q_a am (q_a (di hr.units (q_v 4) (q_v 6)) ag))))))) (b_1 (bP (gJ (q_v 5) (aE (q_a (q_v 6) (q_a (q_v 7) (q_a bU ag))))))))))))))
   (b_1 (aF (q_v 5))))))))),?_⟩
 try rw[cxK]
 refine aC fun R0 hR0=>?_;refine⟨_,rfl,l,ax L,aw L,rfl,lr.1,ke lr.2,by omega,T.safe,fun a ys rs H1 s1 ea pr run=>hR0 _ _ ?_⟩;clear hR0 R0;obtain⟨hW,hN⟩:=T.words rs run;have lrs:rs.length=L.length:=by rw[gR run,ll]
 have lys:ys.length=L.length:=by rw[ZV pr,lrs]
 have lW:W.length=L.length:=by rw[<-hW,Zf,lrs]
 have lzw:(L.zip W).length=L.length:=by rw[List.length_zip,lW,Nat.min_self]
 have lr1:=lr.same s1;refine aC fun R0 hR0=>?_;refine⟨_,rfl,l,ax L,aw L,rfl,lr1.1,ke lr1.2,by omega,fun ta tvs H2 s2 hta hts=>hR0 _ _ ?_⟩;clear hR0 R0;have lr2:=lr1.same s2;refine aC fun R0 hR0=>?_;refine⟨_,rfl,l,L,W,n,Φ,rfl,lr2,T,fun ol a3 vs3 H3 hol s3 ea3 pk=>⟨a3,rfl,⟨_,SqL.of ea3⟩,?_⟩⟩;have lvs:vs3.length<=100:=by
  rw[ZV pk];have:=zJ ol ((bz (L.zip W)).map Prod.snd) ((bz (L.zip W)).map Prod.snd);rw[Zf]at this;have h2:(bz (L.zip W)).length<=(L.zip W).length:=by unfold bz;rw[Zf];exact List.length_filter_le ..
  exact ZI this (by omega)
 have q':=fun ov a ys H'=>q ol ov a ys H' hol;generalize eG ol ((bz (L.zip W)).map Prod.snd)=TK at pk q';refine bD (xs:=vs3) (fun i zs H'=>Same H3 H'/\zs.length<=i/\Paired (PrN H') zs (cg (TK.take i))) (by omega) (fun _ _ _ z=>z.2.1) ⟨Same.refl _,Ze _,.nil⟩ (fun i zs H' z=>SqL.of (z.1 _ _ ea3)) ?_ ?_
 ·rintro i zs H' v hv ⟨sm,lz,pz⟩ Y hY;obtain⟨r,hri,t,nv,iv,bv,rfl,e1,e2,e3,e4⟩:=bG pk hv;have et:cg (TK.take (i+1))=cg (TK.take i)++cg [r]:=by rw[bt hri];unfold cg;rw[List.filterMap_append]
  have tm:=Same.ts sm;refine⟨t,[nv,iv,bv],rfl,SqT.of (sm _ _ e1),rfl,nv,_,rfl,iv,_,rfl,bv,_,rfl,rfl,?_⟩;obtain⟨nb,rfl,hnb⟩:=id e2;cases hb:r.2.2 with
  |none =>rw[hb]at e4;obtain rfl:bv=.non:=e4;refine⟨_,rfl,rfl,_,rfl,nG rfl (hY _ _ ⟨sm,by omega,?_⟩)⟩;rw[et,show cg [r]=[]from by unfold cg;rw[List.filterMap_cons,hb];rfl,ZL];exact pz
  |some b =>rw[hb]at e4;obtain⟨bb,rfl,hbb⟩:=id e4;refine⟨_,rfl,rfl,_,rfl,kX (by intro z;cases z) ?_⟩;refine⟨_,rfl,_,rfl,sz rfl,fun tp gtp=>?_⟩;have wtp:=ad gtp (.tup [.ref nb,.ref bb]);refine hY _ _ ⟨sm.trans wtp,by rw[Zk];exact Yk lz,?_⟩;rw[et,show cg [r]=[(r.1,b)]from by unfold cg;rw[List.filterMap_cons,hb];rfl];exact Yr (Paired.mapP pz fun _ _ (z:PrN _ _ _)=>z.ts (Same.ts wtp)) ⟨tp,nb,.ref bb,rfl,ae,wtp _ _ (sm _ _ hnb),bb,rfl,wtp _ _ (sm _ _ hbb)⟩
 rintro zs pk4 H4 ⟨s4,lz,pz⟩ gpk;rw[ZV pk,ZN]at pz;have w4:=ad gpk (.lst zs);obtain⟨ps,ip1,ip2⟩:=yX (Paired.mapP pz fun _ _ (z:PrN _ _ _)=>z.ts (Same.ts w4));refine⟨pk4,zs,ps,rfl,ae,ip1,by omega,fun kd gkd=>?_⟩;have w5:=ad gkd (.dT (bh [] ps));have ekd:upd (upd H4 pk4 (.lst zs)) kd (.dT (bh [] ps)) kd=some (.dT (bh [] ps)):=ae;have hkp:NsAt (upd (upd H4 pk4 (.lst zs)) kd (.dT (bh [] ps))) (bh [] ps) (gF TK):=(E4 ip2 .nil).ts (Same.ts w5);have s25:Same H2 (upd (upd H4 pk4 (.lst zs)) kd (.dT (bh [] ps))):=s3.trans (s4.trans (w4.trans w5));generalize bh [] ps=kvk at ekd hkp s25 ⊢;generalize upd (upd H4 pk4 (.lst zs)) kd (.dT kvk)=H5 at ekd hkp s25 ⊢;clear w4 w5 gpk gkd s3 s4 ea3 ip1 ip2 pz lz pk;generalize gF TK=kp at hkp q';refine hR0 _ _ ?_;clear hR0 R0;have s15:=s2.trans s25;have lr5:=lr1.same s15;have ea5:=s15 _ _ ea;have pr5:=Paired.mapP pr fun _ _ (z:WoAt _ _ _)=>z.ts (Same.ts s15);have hta5:=s25 _ _ hta;have hts5:TsAt H5 tvs (ao (aw L)):=Paired.mapP hts fun _ _ z=>⟨z.1,z.2.ts (Same.ts s25)⟩
 have hwi:∀(i:Nat) (r:Out),rs[i]?=some r->∃hi:i<L.length,W[i]?=some r.2.1/\r.1=nm3 L[i].2:=fun i r hri=>by
  have hi:i<L.length:=by have:=(Zx.mp hri).1;omega
  refine⟨hi,?_,?_⟩
  ·rw[<-hW,ZA,hri];rfl
  ·have h:=ZW (fun l=>l[i]?) hN;simp only[ZA,aw,hri,Zd hi,Option.map_some,Y8]at h;exact h
 refine aC fun R0 hR0=>?_;refine⟨_,rfl,_,rfl,l,a,_,_,rfl,SqL.of lr5.1,SqL.of ea5,by rw[aD,lys],?_⟩;refine qt (N:=(ax L).length) (fun i zs H'=>Same H5 H'/\zs.length<=i/\zs=ax (cG ((L.zip W).take i))) (by rw[aD];omega) (fun i zs _ z=>z.2.1) ⟨Same.refl _,Ze _,rfl⟩ (fun i zs H' hi z=>⟨hi,SqL.of (z.1 _ _ lr5.1),SqL.of (z.1 _ _ ea5)⟩) (fun zs H' z=>⟨rfl,SqL.of (z.1 _ _ lr5.1),SqL.of (z.1 _ _ ea5)⟩) ?_ ?_
 ·rintro i zs H' x H6 hi ⟨sm,lz,rfl⟩ ⟨T',p,y,hT,hp,hy,rfl,rfl⟩ Y hY;have wT:=ad hT (.tup [p,y]);obtain⟨r,hri,t,nv,rfl,e1,e2⟩:=bG pr5 hy;obtain⟨hiL,hw,_⟩:=hwi i r hri;obtain⟨_,rfl⟩:=bx hp;have hz:(L.zip W)[i]?=some (L[i],r.2.1):=by rw[List.getElem?_zip_eq_some];exact⟨Zd hiL,hw⟩
  have et:cG ((L.zip W).take (i+1))=cG ((L.zip W).take i)++cG [(L[i],r.2.1)]:=by rw[bt hz];unfold cG;rw[Yz,ZO]
  refine⟨T',_,rfl,SqT.of ae,rfl,_,_,rfl,_,_,rfl,rfl,?_⟩;refine(vix rfl (SqT.of (wT _ _ (sm _ _ e1))) at1 ⟨rfl,_,rfl,?_⟩);by_cases c:r.2.1="done"
  ·rw[c];refine gW ⟨_,rfl,hY _ _ ⟨sm.trans wT,by rw[Zk];exact Yk lz,?_⟩⟩;rw[et,fV,c];rfl
  ·refine bZ (fun z=>c (V.str.inj z)) (hY _ _ ⟨sm.trans wT,by omega,?_⟩);rw[et,fV];have:cG [(L[i],r.2.1)]=[]:=by unfold cG bE;simp[c]
   rw[this];exact(ZL _).symm
 rintro zs pz H6 ⟨s6,lz,rfl⟩ gpz;have hzl:(ax L).length=(L.zip W).length:=by rw[aD,lzw]
 rw[hzl,ZN]at lz ⊢;have w6:=ad gpz (.lst (ax (cG (L.zip W))));have lr6:=lr5.same (s6.trans w6);have mem:∀x∈cG (L.zip W),x∈L:=fun x hx=>by obtain⟨z,h1,rfl⟩:=ZE.mp hx;exact(List.of_mem_zip (Yb.mp h1).1).1
 have pwL:L.Pairwise fun x y=>nm3 x.2≠nm3 y.2:=by have:=T.nod;unfold aw at this;rw[Yl]at this;exact Yu.mp this
 have pwD:(cG (L.zip W)).Pairwise fun x y=>nm3 x.2≠nm3 y.2:=by
  have hs:(cG (L.zip W)).Sublist L:=by unfold cG;have h1:((L.zip W).filter fun z=>bE z.2).Sublist (L.zip W):=List.filter_sublist;have h2:=h1.map Prod.fst;rw[List.map_fst_zip (by omega)]at h2;exact h2
  exact pwL.sublist hs
 refine⟨pz,cG (L.zip W),n,rfl,ae,fun x hx=>lr6.2 x (mem x hx),fun x hx=>T.cl x (mem x hx),?_,pwD,fun od kvs ov H7 s7 eod hns hlk hno=>?_⟩
 ·rw[aD]at lz;omega
 have hov:OvR ((cG (L.zip W)).map Prod.snd) ov:=by refine⟨fun j d hd=>?_,fun m hm=>hno m fun x hx=>hm x.2 (ZE.mpr ⟨x,hx,rfl⟩)⟩;rw[ZA]at hd;obtain⟨x,hx,rfl⟩:=Y3.mp hd;obtain⟨hj,rfl⟩:=Zx.mp hx;exact hlk j hj
 have s57:Same H5 H7:=s6.trans (w6.trans s7);have q2:=fun a ys H'=>q' ov a ys H' hov;have ekd7:=s57 _ _ ekd;have hkp7:=hkp.ts (Same.ts s57);have ea7:=s57 _ _ ea5;have hta7:=s57 _ _ hta5;have hts7:TsAt H7 tvs (ao (aw L)):=Paired.mapP hts5 fun _ _ z=>⟨z.1,z.2.ts (Same.ts s57)⟩
 have pr7:=Paired.mapP pr5 fun _ _ (z:WoAt _ _ _)=>z.ts (Same.ts s57);have S7:Same H H7:=s1.trans (s15.trans s57);have offs:=Bu run;clear w6 gpz s6 s7 lr6 ea5 pr5 ekd hkp s57 s15 hta5 hts5 hov hlk hno q q';refine hR0 _ _ ?_;clear hR0 R0;refine aC fun R0 hR0=>?_;refine⟨sz rfl,fun rl grl=>?_⟩;have w8:=ad grl (.lst []);have S8:=S7.trans w8;have erl:upd H7 rl (.lst []) rl=some (.lst []):=ae;have grl0:H rl=none:=S7.free grl;have ea8:=w8 _ _ ea7;have ekd8:=w8 _ _ ekd7;have hkp8:=hkp7.ts (Same.ts w8);have eod8:=w8 _ _ eod;have ns8:=hns.ts (Same.ts w8);have hta8:=w8 _ _ hta7;have hts8:TsAt (upd H7 rl (.lst [])) tvs (ao (aw L)):=Paired.mapP hts7 fun _ _ z=>⟨z.1,z.2.ts (Same.ts w8)⟩
 have pr8:=Paired.mapP pr7 fun _ _ (z:WoAt _ _ _)=>z.ts (Same.ts w8);have nar:a≠rl:=fun z=>by rw[z,grl]at ea7;cases ea7
 generalize upd H7 rl (.lst [])=H8 at S8 erl ea8 ekd8 hkp8 eod8 ns8 hta8 hts8 pr8 ⊢;clear w8 grl ea7 ekd7 hkp7 eod hns hta7 hts7 pr7;refine hR0 _ _ ?_;clear hR0 R0;generalize ao (aw L)=trn at hts8 offs q2;have ezr:∀i:Nat,gK kp ov trn ((L.zip W).take i)=((L.zip W).take i).map fun z=>fc kp ov trn (nm3 z.1.2) z.2:=fun _=>rfl;refine aC fun R0 hR0=>?_;refine⟨_,rfl,a,rfl,⟨_,SqL.of ea8⟩,?_⟩;refine fR (K:=K) (a:=a) (xs:=ys) (fun i σ H'=>(∀b o,b≠rl->H8 b=some o->H' b=some o)/\∃(zs:List V) (o6 o7:Option V),H' rl=some (.lst zs)/\zs.length=i/\Paired (RpAt H') zs (gK kp ov trn ((L.zip W).take i))/\σ=[some (.ref l),some (.ref a),some (.ref ta),some (.ref kd),some (.ref od),some (.ref rl),o6,o7])
  ⟨fun b o _ e=>e,[],none,none,erl,rfl,.nil,rfl⟩ (fun i σ H' _ z=>SqL.of (z.1 _ _ nar ea8)) ?_ ?_
 ·rintro i v σ H' hv ⟨kp8,zs,o6,o7,hrl,lz,pz,rfl⟩ DL hDL;have tp:TS H8 H':=fun b ws e=>kp8 b _ (cM e erl (by intro z;cases z)) e;obtain⟨r,hri,t,nv,rfl,e1,nb,rfl,e2⟩:=bG pr8 hv;obtain⟨hiL,hw,hn3⟩:=hwi i r hri;have hz:(L.zip W)[i]?=some (L[i],r.2.1):=by rw[List.getElem?_zip_eq_some];exact⟨Zd hiL,hw⟩
  have er:gK kp ov trn ((L.zip W).take (i+1))=gK kp ov trn ((L.zip W).take i)++[fc kp ov trn r.1 r.2.1]:=by rw[bt hz];unfold gK;rw[ZO,hn3];rfl
  have nkr:kd≠rl:=cM ekd8 erl (by intro z;cases z);have nor:od≠rl:=cM eod8 erl (by intro z;cases z);have ntr:ta≠rl:=cM hta8 erl (by intro z;cases z);have n1:=kp8 _ _ nkr ekd8;have n2:=kp8 _ _ nor eod8;have n4:=kp8 _ _ ntr hta8;have n3:=ns8.ts tp;have n5:=hkp8.ts tp;have e2':=tp _ _ e2;have add:∀{H9:Hp} {tr:Addr} {bv:V} {w0:Str} {u:Option Nm},Same H' H9->H9 tr=some (.tup [.ref nb,.str w0,bv])->fc kp ov trn r.1 r.2.1=(r.1,w0,u)->UpAt H9 bv u->∀(R:St->Hp->Prop),(∀σ' H'',((∀b o,b≠rl->H8 b=some o->H'' b=some o)/\∃(zs:List V) (o6 o7:Option V),H'' rl=some (.lst zs)/\zs.length=i+1/\Paired (RpAt H'') zs (gK kp ov trn ((L.zip W).take (i+1)))/\σ'=[some (.ref l),some (.ref a),some (.ref ta),some (.ref kd),some (.ref od),some (.ref rl),o6,o7])->R σ' H'')->R [some (.ref l),some (.ref a),some (.ref ta),some (.ref kd),some (.ref od),some (.ref rl),some (.ref nb),some (.str r.2.1)] (upd H9 rl (.lst (zs++[.ref tr]))):=fun{H9 tr bv w0 u} s9 etr erp hu R hR=>by
   have tr9:TS H9 (upd H9 rl (.lst (zs++[.ref tr]))):=iH fun ws e'=>by rw[s9 _ _ hrl]at e';cases e'
   refine hR _ _ ⟨fun b o hb e=>by rw[ah hb];exact s9 _ _ (kp8 b o hb e),zs++[.ref tr],_,_,ae,by rw[Zk,lz];rfl,?_,rfl⟩;rw[er,erp];exact Yr (Paired.mapP pz fun _ _ (z:RpAt _ _ _)=>z.ts (TS.trans (Same.ts s9) tr9)) ⟨tr,.ref nb,bv,rfl,tr9 _ _ etr,⟨nb,rfl,tr9 _ _ (s9 _ _ e2')⟩,hu.ts tr9⟩
  refine⟨t,_,rfl,SqT.of (tp _ _ e1),rfl,_,_,rfl,_,_,rfl,rfl,?_⟩;refine⟨_,rfl,rfl,_,rfl,?_⟩;by_cases co:r.2.1="off"
  ·have hdi:(aw L)[i]?=some (toD L[i].2):=by unfold aw;rw[ZA,Zd hiL];rfl
   obtain⟨dd,hdd⟩:=offs i _ r hdi hri co;have hdd':look trn r.1=some dd:=by rw[hn3];exact hdd
   have er1:fc kp ov trn r.1 r.2.1=(r.1,("off":Str),some dd.1):=by unfold fc;rw[if_pos co,hdd'];rfl
   obtain⟨dv,t1,t2⟩:=bq hts8 hdd';rw[show V.str r.2.1=V.str "off" from by rw[co]];refine gW ?_;refine⟨_,rfl,.inl ⟨rfl,_,SqL.of hrl⟩,_,rfl,_,rfl,_,rfl,ta,dv,rfl,t1▸DGet.t (k:=nk r.1) n4 e2',dv,dd,rfl,t2.ts tp,fun tn H9 s9 e9=>⟨sz rfl,fun tr gtr=>⟨rl,_,_,rfl,rfl,ad gtr _ _ _ (s9 _ _ hrl),aO (by omega),?_⟩⟩⟩;have wtr:=ad gtr (.tup [.ref nb,.str "off",.ref tn]);have:=add (s9.trans wtr) ae er1 ⟨tn,rfl,wtr _ _ e9⟩ _ hDL;rw[co]at this;exact this
  refine bZ (fun z=>co (V.str.inj z)) ?_;cases ck:look kp r.1 with
  |some b =>
   have er1:fc kp ov trn r.1 r.2.1=(r.1,("kept":Str),some b):=by unfold fc;rw[if_neg co,ck]
   obtain⟨bv,hb1,bb,rfl,hb2⟩:=bq n5 ck;refine⟨_,rfl,_,rfl,kd,_,rfl,DGet.t (k:=nk r.1) n1 e2',_,rfl,?_⟩;rw[hb1];refine aR ⟨_,rfl,.inl ⟨rfl,_,SqL.of hrl⟩,_,rfl,_,rfl,_,rfl,kd,.ref bb,rfl,hb1▸DGet.t (k:=nk r.1) n1 e2',sz rfl,fun tr gtr=>⟨rl,_,_,rfl,rfl,ad gtr _ _ _ hrl,aO (by omega),?_⟩⟩;exact add (ad gtr _) ae er1 ⟨bb,rfl,ad gtr _ _ _ hb2⟩ _ hDL
  |none =>
  have hk':aS kvk (nk r.1)=none:=cV n5 ck;refine⟨_,rfl,_,rfl,kd,_,rfl,DGet.t (k:=nk r.1) n1 e2',_,rfl,?_⟩;rw[hk'];refine aJ ?_;cases cv:look ov r.1 with
  |none =>
   have er1:fc kp ov trn r.1 r.2.1=(r.1,r.2.1,none):=by unfold fc;rw[if_neg co,ck,cv]
   have hv':aS kvs (nk r.1)=none:=cV n3 cv;refine⟨_,rfl,_,rfl,od,_,rfl,DGet.t (k:=nk r.1) n2 e2',_,rfl,?_⟩;rw[hv'];refine aJ ⟨_,rfl,.inl ⟨rfl,_,SqL.of hrl⟩,_,rfl,_,rfl,sz rfl,fun tr gtr=>⟨rl,_,_,rfl,rfl,ad gtr _ _ _ hrl,aO (by omega),?_⟩⟩;exact add (ad gtr _) ae er1 rfl _ hDL
  |some m =>
   have er1:fc kp ov trn r.1 r.2.1=(r.1,("over":Str),some m):=by unfold fc;rw[if_neg co,ck,cv]
   obtain⟨bv,hb1,bb,rfl,hb2⟩:=bq n3 cv;refine⟨_,rfl,_,rfl,od,_,rfl,DGet.t (k:=nk r.1) n2 e2',_,rfl,?_⟩;rw[hb1];refine aR ⟨_,rfl,.inl ⟨rfl,_,SqL.of hrl⟩,_,rfl,_,rfl,_,rfl,od,.ref bb,rfl,hb1▸DGet.t (k:=nk r.1) n2 e2',sz rfl,fun tr gtr=>⟨rl,_,_,rfl,rfl,ad gtr _ _ _ hrl,aO (by omega),?_⟩⟩;exact add (ad gtr _) ae er1 ⟨bb,rfl,ad gtr _ _ _ hb2⟩ _ hDL
 ·rintro σ H' ⟨kp8,zs,o6,o7,hrl,lz,pz,rfl⟩;refine hR0 _ _ ?_;have:ys.length=(L.zip W).length:=by rw[lys,lzw]
  refine⟨_,rfl,q2 rl zs H' (fun b o e=>kp8 b o (au e grl0) (S8 _ _ e)) hrl ?_⟩;rw[this,ZN]at pz;exact pz
def cE(n:Nm):Wd->List Nm
 |.put _ _ _=>[n]
 |.write m _=>[m]
 |.mark m _=>[m]
 |.back m=>[m]
 |_=>[]
theorem mw(d:D3):cu d=cE (nm3 d) d.2.2:=by obtain⟨hn,cs,wd⟩:=d;cases wd<;>rfl
theorem mO{ts:As Dd}{tn:List Nm}{ds:List Dd}:∀{ol ol':Ol} {rs rs':List Out},Eqo ol ol'->Runs ts tn ol ds rs->Runs ts tn ol' ds rs'->rs=rs':=by
 induction ds with
 |nil =>intro ol ol' rs rs' e h h';rw[lJ h,lJ h']
 |cons d ds ih =>
  intro ol ol' rs rs' e h h';cases c:bg d ts with
  |true =>obtain⟨r1,rfl,x1⟩:=je c h;obtain⟨r2,rfl,x2⟩:=je c h';rw[ih e x1 x2]
  |false =>
   cases c2:d.2.isTurn with
   |true =>obtain⟨r1,rfl,x1⟩:=ip c c2 h;obtain⟨r2,rfl,x2⟩:=ip c c2 h';rw[ih e x1 x2]
   |false =>obtain⟨w,so,o1,r1,rfl,p1,x1⟩:=io c c2 h;obtain⟨w',so',o2,r2,rfl,p2,x2⟩:=io c c2 h';obtain⟨rfl,rfl,e2⟩:=jN e p1 p2;rw[ih e2 x1 x2]
theorem GT{ol:Ol}{s:Sd}(h:fu ol s):∃ol',Ap ol s ol':=by
 have g:∀n∈s.items,∃it,look ol n=some it:=fun n hn=>ZY.mp (h n hn);cases s with
 |put=>exact⟨_,.put⟩
 |write n tx=>obtain⟨it,e⟩:=g n (by simp[Sd.items]);exact⟨_,.write e⟩
 |mark n b=>obtain⟨it,e⟩:=g n (by simp[Sd.items]);exact⟨_,.mark e⟩
theorem vC{ol:Ol}{n:Nm}{wd:Wd}(nt:wd.isTurn=false)(rd:∀s,iE n wd=some s->Ready ol s):∃w so ol',PlayR ol n wd w so ol':=by
 rcases uk (n:=n) nt with rfl|⟨m,rfl|rfl⟩|⟨s,hs⟩
 ·exact⟨_,_,_,.none⟩
 ·exact⟨_,_,_,.take⟩
 ·exact⟨_,_,_,.back⟩
 ·cases ct:rE ol wd with
  |true =>
   cases wd with
   |put u pl tx =>
    cases u with
    |none=>cases ct
    |some m =>
     have:look ol m=none:=by
      have z:(!(look ol m).isSome)=true:=ct;cases e:look ol m with
      |none=>rfl
      |some it=>rw[e]at z;cases z
     exact⟨_,_,_,.top this⟩
   |_=>cases ct
  |false =>
   have r:=rd s hs;by_cases hh:fu ol s
   ·obtain⟨b,hb⟩:=r.bd hh;rcases b with _|_|_
    ·obtain⟨ol',ap⟩:=GT hh;exact⟨_,_,_,.step hs ct (.done hh hb ap)⟩
    ·exact⟨_,_,_,.step hs ct (.far hh hb)⟩
    ·exact⟨_,_,_,.step hs ct (.beneath hh hb)⟩
   ·exact⟨_,_,_,.step hs ct (.none hh)⟩
def eP(ts:As Dd):Ol->List Dd->Ol->Prop
 |ol,[],e=>e=ol
 |ol,d::ds,e=>((bg d ts=true\/d.2.isTurn=true)->eP ts ol ds e)/\(bg d ts=false->d.2.isTurn=false->∃w so ol',PlayR ol d.1 d.2 w so ol'/\eP ts ol' ds e)
theorem kQ{ts:As Dd}:∀{ds:List Dd} {ol ol' e e':Ol},Eqo ol ol'->eP ts ol ds e->eP ts ol' ds e'->Eqo e e'
 | [],ol,ol',e,e',q,h,h'=>by have h1:e=ol:=h;have h2:e'=ol':=h';rw[h1,h2];exact q
 |d::ds,ol,ol',e,e',q,h,h'=>by
  cases c:bg d ts with
  |true=>exact kQ q (h.1 (.inl c)) (h'.1 (.inl c))
  |false =>
   cases c2:d.2.isTurn with
   |true=>exact kQ q (h.1 (.inr c2)) (h'.1 (.inr c2))
   |false =>obtain⟨w,so,o1,p1,x1⟩:=h.2 c c2;obtain⟨w',so',o2,p2,x2⟩:=h'.2 c c2;exact kQ (jN q p1 p2).2.2 x1 x2
theorem jv{ts:As Dd}{d:Dd}{ds:List Dd}{ol e:Ol}(c:bg d ts=true\/d.2.isTurn=true)(h:eP ts ol ds e):eP ts ol (d::ds) e:=⟨fun _=>h,fun z1 z2=>by
 rcases c with c|c
 ·rw[c]at z1;cases z1
 ·rw[c]at z2;cases z2⟩
theorem mF{ts:As Dd}{d:Dd}{ds:List Dd}{ol ol' e:Ol}{w:Str}{so:Option Sd}(c:bg d ts=false)(c2:d.2.isTurn=false)(p:PlayR ol d.1 d.2 w so ol')(h:eP ts ol' ds e):eP ts ol (d::ds) e:=by
 refine⟨fun z=>?_,fun _ _=>⟨w,so,ol',p,h⟩⟩;rcases z with z|z
 ·rw[c]at z;cases z
 ·rw[c2]at z;cases z
theorem qC{ol ol':Ol}{n:Nm}{wd:Wd}{w:Str}{so:Option Sd}(p:PlayR ol n wd w so ol'):(so=none/\ol'=ol)\/∃s,so=some s/\fu ol s/\Bd ol s none/\Ap ol s ol'/\(∀x∈s.news,x=n/\wd.mk=true)/\∀o2,Ap ol s o2->PlayR ol n wd w so o2:=by
 cases p with
 |none=>exact .inl ⟨rfl,rfl⟩
 |take=>exact .inl ⟨rfl,rfl⟩
 |back=>exact .inl ⟨rfl,rfl⟩
 |@top m pl tx hm=>exact .inr ⟨_,rfl,fun x hx=>by simp[Sd.items]at hx,.put,.put,fun x hx=>⟨by simpa[Sd.news]using hx,rfl⟩,fun o2 ap=>by cases ap;exact .top hm⟩
 |@step _ s w _ hs ht wr =>
  cases wr with
  |none _=>exact .inl ⟨by rw[if_neg (by decide +kernel)],rfl⟩
  |beneath _ _=>exact .inl ⟨by rw[if_neg (by decide +kernel)],rfl⟩
  |far _ _=>exact .inl ⟨by rw[if_neg (by decide +kernel)],rfl⟩
  |done hh hb ap =>
   refine .inr ⟨s,by rw[if_pos rfl],hh,hb,ap,fun x hx=>?_,fun o2 ap2=>.step hs ht (.done hh hb ap2)⟩;rw[vI hs]at hx;by_cases c:wd.mk=true
   ·rw[if_pos c]at hx;exact⟨Zs.mp hx,c⟩
   ·rw[if_neg c]at hx;cases hx
structure Gd(G:Ol->List Dd->Prop):Prop where
 skip:∀{ol:Ol} {d:Dd} {ds:List Dd},G ol (d::ds)->G ol ds
 play:∀{ol ol':Ol} {d:Dd} {ds:List Dd} {w:Str} {so:Option Sd},G ol (d::ds)->PlayR ol d.1 d.2 w so ol'->G ol' ds
 small:∀{ol:Ol} {d:Dd} {ds:List Dd},G ol (d::ds)->Small ol
 new:∀{ol:Ol} {d:Dd} {ds:List Dd},G ol (d::ds)->d.2.mk=true->look ol d.1=none
 ready:∀{ol:Ol} {d:Dd} {ds:List Dd},G ol (d::ds)->∀s,iE d.1 d.2=some s->Ready ol s
 ter:∀{ol:Ol} {ds:List Dd},G ol ds->Ter ol
theorem fE{G:Ol->List Dd->Prop}(gd:Gd G){ts:As Dd}{tn:List Nm}:∀{ds:List Dd} {ol:Ol},G ol ds->∃rs,Runs ts tn ol ds rs
 | [],_,_=>⟨[],.nil⟩
 |d::ds,ol,g=>by
  cases c:bg d ts with
  |true =>obtain⟨rs,h⟩:=fE gd (ts:=ts) (tn:=tn) (gd.skip g);exact⟨_,.off c h⟩
  |false =>
   cases c2:d.2.isTurn with
   |true =>obtain⟨rs,h⟩:=fE gd (ts:=ts) (tn:=tn) (gd.skip g);exact⟨_,.turn c c2 h⟩
   |false =>obtain⟨w,so,ol',p⟩:=vC c2 (gd.ready g);obtain⟨rs,h⟩:=fE gd (ts:=ts) (tn:=tn) (gd.play g p);exact⟨_,.play c c2 p h⟩
theorem rH{G:Ol->List Dd->Prop}(gd:Gd G){ts:As Dd}:∀{ds:List Dd} {ol:Ol},G ol ds->eI ts ol ds
 | [],_,_=>trivial
 |d::ds,ol,g=>by
  cases c:bg d ts with
  |true=>exact qD (.inl c) (rH gd (gd.skip g))
  |false =>
   cases c2:d.2.isTurn with
   |true=>exact qD (.inr c2) (rH gd (gd.skip g))
   |false=>exact zl c c2 (gd.small g) (gd.ready g) fun w so ol' p=>rH gd (gd.play g p)
theorem fW{G:Ol->List Dd->Prop}(gd:Gd G){ts:As Dd}{tn:List Nm}{Φ:Ol->Prop}:∀{ds:List Dd} {ol:Ol} {rs:List Out},G ol ds->Runs ts tn ol ds rs->(∀e,eP ts ol ds e->Φ e)->gE Φ ol ((ci rs).map Prod.snd)
 | [],ol,rs,g,r,h=>by rw[lJ r];exact h _ rfl
 |d::ds,ol,rs,g,r,h=>by
  cases c:bg d ts with
  |true =>obtain⟨r1,rfl,x1⟩:=je c r;show gE Φ ol ((ci r1).map Prod.snd);exact fW gd (gd.skip g) x1 fun e he=>h e (jv (.inl c) he)
  |false =>
   cases c2:d.2.isTurn with
   |true =>obtain⟨r1,rfl,x1⟩:=ip c c2 r;show gE Φ ol ((ci r1).map Prod.snd);exact fW gd (gd.skip g) x1 fun e he=>h e (jv (.inr c2) he)
   |false =>
    obtain⟨w,so,o1,r1,rfl,p1,x1⟩:=io c c2 r;rcases qC p1 with⟨rfl,rfl⟩|⟨s,rfl,hh,hb,ap,nw,again⟩
    ·show gE Φ _ ((ci r1).map Prod.snd);exact fW gd (gd.play g p1) x1 fun e he=>h e (mF c c2 p1 he)
    ·show gE Φ ol (s::(ci r1).map Prod.snd);refine⟨gd.small g,fun x hx=>?_,hh,hb,fun o2 ap2=>?_⟩
     ·obtain⟨rfl,hm⟩:=nw x hx;exact gd.new g hm
     ·have p2:=again o2 ap2;obtain⟨r2,x2⟩:=fE gd (ts:=ts) (tn:=tn) (gd.play g p2);obtain rfl:=mO (jN (fun _=>rfl) p1 p2).2.2 x1 x2;exact fW gd (gd.play g p2) x2 fun e he=>h e (mF c c2 p2 he)
theorem zh{ts:As Dd}{tn:List Nm}{ol:Ol}{ds:List Dd}{rs:List Out}(h:Runs ts tn ol ds rs):rs.map (fun r:Out=>r.1)=ds.map Prod.fst:=by
 induction h with
 |nil=>rfl
 |off _ _ ih=>rw[Zw,Zw,ih]
 |turn _ _ _ ih=>rw[Zw,Zw,ih]
 |play _ _ _ _ ih=>rw[Zw,Zw,ih]
theorem zp{ol:Ol}{n x:Nm}{it:It}(h:(look ol x).isSome=true):(look (bo ol n it) x).isSome=true:=by
 rw[aZ];split
 ·rfl
 ·exact h
theorem uQ{ol ol':Ol}{s:Sd}(ap:Ap ol s ol')(x:Nm)(h:(look ol x).isSome=true):(look ol' x).isSome=true:=by
 cases ap with
 |_=>exact zp h
theorem yS{ol ol':Ol}{n:Nm}{wd:Wd}{w:Str}{so:Option Sd}(p:PlayR ol n wd w so ol')(x:Nm)(h:(look ol x).isSome=true):(look ol' x).isSome=true:=by
 rcases qC p with⟨_,rfl⟩|⟨s,_,_,_,ap,_⟩
 ·exact h
 ·exact uQ ap x h
theorem qA:dO "none" = false:=by decide +kernel
theorem sM:dO "beneath" = false:=by decide +kernel
theorem AH:dO "far" = false:=by decide +kernel
theorem yr:dO "done" = true:=by decide +kernel
theorem xD{ol ol':Ol}{n:Nm}{wd:Wd}{w:Str}{so:Option Sd}(p:PlayR ol n wd w so ol')(hw:dO w=true):∀x∈cE n wd,(look ol' x).isSome=true:=by
 cases p with
 |none=>intro x hx;cases hx
 |take=>intro x hx;cases hx
 |@back m =>
  intro x hx;rw[Zs.mp hx];by_cases c:(look ol m).isSome=true
  ·exact c
  ·rw[if_neg c,qA]at hw;cases hw
 |top _ =>intro x hx;rw[Zs.mp hx,aZ,if_pos rfl];rfl
 |@step _ s w _ hs ht wr =>
  cases wr with
  |none _=>rw[qA]at hw;cases hw
  |beneath _ _=>rw[sM]at hw;cases hw
  |far _ _=>rw[AH]at hw;cases hw
  |done hh hb ap =>
   have mono:=uQ ap;cases wd with
   |put u pl tx =>cases hs;cases ap;intro x hx;rw[Zs.mp hx,aZ,if_pos rfl];rfl
   |write m tx=>cases hs;intro x hx;rw[Zs.mp hx];exact mono _ (hh _ (by simp[Sd.items]))
   |mark m tx=>cases hs;intro x hx;rw[Zs.mp hx];exact mono _ (hh _ (by simp[Sd.items]))
   |_=>cases hs
theorem nz{G:Ol->List Dd->Prop}(gd:Gd G){ts:As Dd}:∀{ds:List Dd} {ol e:Ol},G ol ds->eP ts ol ds e->G e []
 | [],ol,e,g,h=>by have h1:e=ol:=h;rw[h1];exact g
 |d::ds,ol,e,g,h=>by
  cases c:bg d ts with
  |true=>exact nz gd (gd.skip g) (h.1 (.inl c))
  |false =>
   cases c2:d.2.isTurn with
   |true=>exact nz gd (gd.skip g) (h.1 (.inr c2))
   |false =>obtain⟨w,so,o1,p1,x1⟩:=h.2 c c2;exact nz gd (gd.play g p1) x1
theorem kT{G:Ol->List Dd->Prop}(gd:Gd G){ts:As Dd}:∀{ds:List Dd} {ol:Ol},G ol ds->∃e,eP ts ol ds e
 | [],ol,_=>⟨ol,rfl⟩
 |d::ds,ol,g=>by
  cases c:bg d ts with
  |true =>obtain⟨e,h⟩:=kT gd (ts:=ts) (gd.skip g);exact⟨e,jv (.inl c) h⟩
  |false =>
   cases c2:d.2.isTurn with
   |true =>obtain⟨e,h⟩:=kT gd (ts:=ts) (gd.skip g);exact⟨e,jv (.inr c2) h⟩
   |false =>obtain⟨w,so,ol',p⟩:=vC c2 (gd.ready g);obtain⟨e,h⟩:=kT gd (ts:=ts) (gd.play g p);exact⟨e,mF c c2 p h⟩
theorem ju{ts:As Dd}{x:Nm}:∀{ds:List Dd} {ol e:Ol},eP ts ol ds e->(look ol x).isSome=true->(look e x).isSome=true
 | [],ol,e,h,hx=>by have h1:e=ol:=h;rw[h1];exact hx
 |d::ds,ol,e,h,hx=>by
  cases c:bg d ts with
  |true=>exact ju (h.1 (.inl c)) hx
  |false =>
   cases c2:d.2.isTurn with
   |true=>exact ju (h.1 (.inr c2)) hx
   |false =>obtain⟨w,so,o1,p1,x1⟩:=h.2 c c2;exact ju x1 (yS p1 x hx)
theorem xE{n:Nm}{wd:Wd}(h:wd.isTurn=true):cE n wd=[]:=by cases wd<;>first|rfl|cases h
theorem AI:dO "off" = false:=by decide +kernel
theorem fe{G:Ol->List Dd->Prop}(gd:Gd G){ts:As Dd}{tn:List Nm}:∀{ds:List Dd} {ol e:Ol} {rs:List Out},G ol ds->Runs ts tn ol ds rs->eP ts ol ds e->∀z∈ds.zip rs,dO z.2.2.1=true->∀x∈cE z.1.1 z.1.2,(look e x).isSome=true
 | [],ol,e,rs,g,r,h=>by intro z hz;cases hz
 |d::ds,ol,e,rs,g,r,h=>by
  cases c:bg d ts with
  |true =>
   obtain⟨r1,rfl,x1⟩:=je c r;intro z hz hl x hx;rcases Zl.mp hz with rfl|hz
   ·have hl':dO "off" = true:=hl;rw[AI]at hl';cases hl'
   ·exact fe gd (gd.skip g) x1 (h.1 (.inl c)) z hz hl x hx
  |false =>
   cases c2:d.2.isTurn with
   |true =>
    obtain⟨r1,rfl,x1⟩:=ip c c2 r;intro z hz hl x hx;rcases Zl.mp hz with rfl|hz
    ·have hx':x∈cE d.1 d.2:=hx;rw[xE c2]at hx';cases hx'
    ·exact fe gd (gd.skip g) x1 (h.1 (.inr c2)) z hz hl x hx
   |false =>
    obtain⟨w,so,o1,r1,rfl,p1,x1⟩:=io c c2 r;obtain⟨w',so',o2,p2,x2⟩:=h.2 c c2;have e12:=(jN (fun _=>rfl) p1 p2).2.2;obtain⟨r2,y2⟩:=fE gd (ts:=ts) (tn:=tn) (gd.play g p2);obtain rfl:=mO e12 x1 y2;intro z hz hl x hx;rcases Zl.mp hz with rfl|hz
    ·refine ju x2 ?_;rw[<-e12 x];exact xD p1 hl x hx
    ·exact fe gd (gd.play g p2) y2 x2 z hz hl x hx
theorem HK{G:Ol->List Dd->Prop}(gd:Gd G){L:L3}{n:Nat}(g0:G [] (aw L))(ln:L.length<=100)(nod:((aw L).map Prod.fst).Nodup)(cl:∀x∈L,x.2.2.1.length=n/\x.2.2.2.ok){rs:List Out}(run:Runs (ao (aw L)) (ay (aw L)) [] (aw L) rs){e:Ol}(he:eP (ao (aw L)) [] (aw L) e):Tkn L (rs.map fun r:Out=>r.2.1) n (Eqo e):=by
 refine⟨by omega,rH gd g0,nod,fun r' h=>?_,fun r' h=>?_,cl,fun ol hol x hx t ht it hit=>?_⟩
 ·obtain rfl:=mO (fun _=>rfl) run h;exact⟨rfl,zh run⟩
 ·exact fW gd g0 h fun e' he'=>kQ (fun _=>rfl) he he'
 ·obtain⟨z,hz,rfl⟩:=ZE.mp hx;obtain⟨hz1,hz2⟩:=Yb.mp hz;rw[List.zip_map_right]at hz1;obtain⟨⟨x,r⟩,hxr,rfl⟩:=ZE.mp hz1;have hm:(toD x.2,r)∈(aw L).zip rs:=by unfold aw;rw[List.zip_map_left];exact ZE.mpr ⟨(x,r),hxr,rfl⟩
  intro y hy;have hy':y∈cE (toD x.2).1 (toD x.2).2:=by have:=hy;rw[mw]at this;exact this
  have held:=fe gd g0 run he _ hm hz2 y hy';obtain⟨i,ei⟩:=ZY.mp held;obtain⟨k,c⟩:=gd.ter (nz gd g0 he) y i ei;obtain⟨k',b,un⟩:=GD c it;exact⟨k',b,D8 hol un⟩
def wn(t:Str):Prop:=PyData.strOk t=true/\t.length<=12
def K8:Wd->Prop
 |.put u _ tx=>u=none/\wn tx
 |.take _=>True
 |.back _=>True
 |.mark _ _=>True
 |.write _ tx=>wn tx
 |.off _=>True
 |.on _=>True
 |_=>False
def cH:Wd->Option Nm
 |.take n=>some n
 |.back n=>some n
 |.mark n _=>some n
 |.write n _=>some n
 |_=>none
def G8(ol:Ol)(ds:List Dd):Prop:=(∀n it,look ol n=some it->it.up=none/\it.tx.length<=12)/\ol.length+ds.length<=300/\(∀d∈ds,K8 d.2)/\(∀d∈ds,d.2.mk=true->look ol d.1=none)/\ds.Pairwise fun d e=>d.1≠e.1
theorem pI{ol ol':Ol}{n:Nm}{pl:List Int}{tx:Str}{w:Str}{so:Option Sd}(p:PlayR ol n (.put none pl tx) w so ol'):w="done"/\ol'=bo ol n ⟨none,pl,tx,false,none,false⟩:=by
 cases p with
 |step hs ht wr =>
  cases hs;cases wr with
  |none hh=>exact absurd (fun m hm=>by simp[Sd.items]at hm) hh
  |beneath _ hb=>cases hb
  |far _ hb=>cases hb
  |done _ _ ap=>cases ap;exact⟨rfl,rfl⟩
theorem sR{ol ol':Ol}{n m:Nm}{b:Bool}{w:Str}{so:Option Sd}(p:PlayR ol n (.mark m b) w so ol'):((look ol m).isSome=false/\w="none"/\ol'=ol)\/∃it,look ol m=some it/\w="done"/\ol'=bo ol m { it with dn:=b }:=by
 cases p with
 |step hs ht wr =>
  cases hs;cases wr with
  |none hh =>
   refine .inl ⟨?_,rfl,rfl⟩;cases c:(look ol m).isSome with
   |false=>rfl
   |true=>exact absurd (fun x hx=>by rw[show x=m by simpa[Sd.items]using hx];exact c) hh
  |beneath _ hb=>cases hb
  |far _ hb=>cases hb
  |done _ _ ap =>
   cases ap with
   |mark hl=>exact .inr ⟨_,hl,rfl,rfl⟩
theorem qR{ol ol':Ol}{n m:Nm}{tx:Str}{w:Str}{so:Option Sd}(p:PlayR ol n (.write m tx) w so ol'):((look ol m).isSome=false/\w="none"/\ol'=ol)\/∃it,look ol m=some it/\w="done"/\ol'=bo ol m { it with tx:=tx }:=by
 cases p with
 |step hs ht wr =>
  cases hs;cases wr with
  |none hh =>
   refine .inl ⟨?_,rfl,rfl⟩;cases c:(look ol m).isSome with
   |false=>rfl
   |true=>exact absurd (fun x hx=>by rw[show x=m by simpa[Sd.items]using hx];exact c) hh
  |beneath _ hb=>cases hb
  |far _ hb=>cases hb
  |done _ _ ap =>
   cases ap with
   |write hl=>exact .inr ⟨_,hl,rfl,rfl⟩
theorem ud{ol ol':Ol}{n m:Nm}{w:Str}{so:Option Sd}(p:PlayR ol n (.take m) w so ol'):w=(if(look ol m).isSome=true then("done":Str)else"none")/\ol'=ol:=by
 cases p with
 |take=>exact⟨rfl,rfl⟩
 |step hs _ _=>cases hs
theorem rY{ol ol':Ol}{n m:Nm}{w:Str}{so:Option Sd}(p:PlayR ol n (.back m) w so ol'):w=(if(look ol m).isSome=true then("done":Str)else"none")/\ol'=ol:=by
 cases p with
 |back=>exact⟨rfl,rfl⟩
 |step hs _ _=>cases hs
theorem ue{ol ol':Ol}{n:Nm}{wd:Wd}{w:Str}{so:Option Sd}(h:wd.isTurn=true)(p:PlayR ol n wd w so ol'):ol'=ol:=by
 cases wd with
 |off k =>
  cases p with
  |step hs _ _=>cases hs
 |on k =>
  cases p with
  |step hs _ _=>cases hs
 |_=>cases h
theorem Cf{ol ol':Ol}{d:Dd}{w:Str}{so:Option Sd}(k:K8 d.2)(p:PlayR ol d.1 d.2 w so ol'):ol'=ol\/∃n it,ol'=bo ol n it/\((d.2.mk=true/\n=d.1/\it.up=none/\it.tx.length<=12)\/(d.2.mk=false/\∃i0,look ol n=some i0/\it.up=i0.up/\(it.tx.length<=12\/it.tx=i0.tx))):=by
 obtain⟨n,wd⟩:=d;cases wd with
 |put u pl tx =>obtain⟨rfl,ht⟩:=k;obtain⟨_,e⟩:=pI p;exact .inr ⟨n,_,e,.inl ⟨rfl,rfl,rfl,ht.2⟩⟩
 |mark m b =>
  rcases sR p with⟨_,_,e⟩|⟨it,hl,_,e⟩
  ·exact .inl e
  ·exact .inr ⟨m,_,e,.inr ⟨rfl,it,hl,rfl,.inr rfl⟩⟩
 |write m tx =>
  rcases qR p with⟨_,_,e⟩|⟨it,hl,_,e⟩
  ·exact .inl e
  ·exact .inr ⟨m,_,e,.inr ⟨rfl,it,hl,rfl,.inl k.2⟩⟩
 |take m=>exact .inl (ud p).2
 |back m=>exact .inl (rY p).2
 |off k=>exact .inl (ue rfl p)
 |on k=>exact .inl (ue rfl p)
 |_=>exact k.elim
theorem gd8:Gd G8 where
 skip:=fun{ol d ds} g=>⟨g.1,by have:=g.2.1;rw[Zm]at this;omega,fun e he=>g.2.2.1 e (Zt _ he),fun e he=>g.2.2.2.1 e (Zt _ he),(List.pairwise_cons.mp g.2.2.2.2).2⟩
 play:=fun{ol ol' d ds w so} g p=>by
  obtain⟨g1,g2,g3,g4,g5⟩:=g;obtain⟨g6,g7⟩:=List.pairwise_cons.mp g5;rw[Zm]at g2;have g3':∀e∈ds,K8 e.2:=fun e he=>g3 e (Zt _ he);have g4':∀e∈ds,e.2.mk=true->look ol e.1=none:=fun e he=>g4 e (Zt _ he);rcases Cf (g3 d Zv) p with rfl|⟨n,it,rfl,hc⟩
  ·exact⟨g1,by omega,g3',g4',g7⟩
  ·have:=fH ol n it;refine⟨fun x i hx=>?_,by omega,g3',fun e he hm=>?_,g7⟩
   ·rw[aZ]at hx;by_cases c:x=n
    ·rw[if_pos c]at hx;cases hx;rcases hc with⟨_,_,h1,h2⟩|⟨_,i0,hl,h1,h2⟩
     ·exact⟨h1,h2⟩
     ·obtain⟨a1,a2⟩:=g1 n i0 hl;refine⟨h1.trans a1,?_⟩;rcases h2 with h2|h2
      ·exact h2
      ·rw[h2];exact a2
    ·rw[if_neg c]at hx;exact g1 x i hx
   ·rw[aZ];have hne:e.1≠n:=by
     rcases hc with⟨_,h1,_⟩|⟨_,i0,hl,_⟩
     ·rw[h1];exact(g6 e he).symm
     ·intro z;have:=g4' e he hm;rw[z,hl]at this;cases this
    rw[if_neg hne];exact g4' e he hm
 small:=fun{ol d ds} g=>⟨by have:=g.2.1;omega,fun n it h=>ZI (g.1 n it h).2 (by decide)⟩
 new:=fun{ol d ds} g=>g.2.2.2.1 d Zv
 ready:=fun{ol d ds} g s hs=>by
  refine⟨fun m hm=>?_,fun hd=>?_⟩
  ·rw[vI hs]at hm;by_cases c:d.2.mk=true
   ·rw[if_pos c]at hm;rw[Zs.mp hm];exact g.2.2.2.1 d Zv c
   ·rw[if_neg c]at hm;cases hm
  ·have k:=g.2.2.1 d Zv;obtain⟨n,wd⟩:=d;cases wd with
   |put u pl tx=>cases hs;exact⟨_,.put⟩
   |mark m b=>cases hs;exact⟨_,.mark⟩
   |write m tx=>cases hs;exact⟨_,.write⟩
   |_=>first|exact k.elim|cases hs
 ter:=fun{ol ds} g n it h=>⟨1,.up h (by rw[(g.1 n it h).1];exact .none)⟩
def wK(ts:As Dd)(tn:List Nm)(d:Dd):Str:=if bg d ts=true then"off" else if d.2.isTurn=true then(if turned d∈tn then"turn" else"done")else match cH d.2 with
 |some m=>if bA (look ts m)=true then"none" else"done"
 |none=>"done"
def J8(ts:As Dd)(PN:Nm->Prop)(ol:Ol)(ds:List Dd):Prop:=∀m,PN m->(bA (look ts m)=true->look ol m=none)/\(bA (look ts m)=false->(look ol m).isSome=true\/∃e∈ds,e.2.mk=true/\e.1=m)
theorem lA{d:Dd}{ts:As Dd}(h:d.2.isTurn=false):bg d ts=bA (look ts d.1):=by unfold bg;rw[h];rfl
theorem pA{wd:Wd}(h:wd.mk=true):wd.isTurn=false:=by cases wd<;>first|rfl|cases h
theorem oA{ts:As Dd}{tn:List Nm}{PN:Nm->Prop}:∀{ds:List Dd} {ol:Ol} {rs:List Out},G8 ol ds->J8 ts PN ol ds->(ds.Pairwise fun d e=>e.2.mk=true->d.2.mk=true)->(∀d∈ds,∀m,cH d.2=some m->PN m)->Runs ts tn ol ds rs->rs.map (fun r:Out=>r.2.1)=ds.map (wK ts tn)
 | [],ol,rs,g,j,pf,hi,r=>by rw[lJ r];rfl
 |d::ds,ol,rs,g,j,pf,hi,r=>by
  obtain⟨pf1,pf2⟩:=List.pairwise_cons.mp pf;have hi2:∀e∈ds,∀m,cH e.2=some m->PN m:=fun e he=>hi e (Zt _ he);have stay:(d.2.mk=true->bA (look ts d.1)=true)->J8 ts PN ol ds:=fun hd m hm=>by
   refine⟨(j m hm).1,fun ho=>?_⟩;rcases(j m hm).2 ho with h|⟨e,he,h1,h2⟩
   ·exact .inl h
   ·rcases Zl.mp he with rfl|he
    ·have:=hd h1;rw[h2,ho]at this;cases this
    ·exact .inr ⟨e,he,h1,h2⟩
  cases c:bg d ts with
  |true =>obtain⟨r1,rfl,x1⟩:=je c r;have ew:wK ts tn d="off":=if_pos c;rw[Zw,Zw,ew,oA (gd8.skip g) (stay fun hm=>by rw[<-lA (pA hm)];exact c) pf2 hi2 x1]
  |false =>
   have c':¬bg d ts=true:=by rw[c];exact Zr
   cases c2:d.2.isTurn with
   |true =>
    obtain⟨r1,rfl,x1⟩:=ip c c2 r;have ew:wK ts tn d=if turned d∈tn then("turn":Str)else"done":=by unfold wK;rw[if_neg c',if_pos c2]
    rw[Zw,Zw,ew,oA (gd8.skip g) (stay fun hm=>by rw[pA hm]at c2;cases c2) pf2 hi2 x1]
   |false =>
    have c2':¬d.2.isTurn=true:=by rw[c2];exact Zr
    obtain⟨w,so,o1,r1,rfl,p1,x1⟩:=io c c2 r;have ho:bA (look ts d.1)=false:=by rw[<-lA c2];exact c
    have jn:J8 ts PN o1 ds:=fun m hm=>by
     rcases Cf (g.2.2.1 d Zv) p1 with rfl|⟨n,it,rfl,hc⟩
     ·refine⟨(j m hm).1,fun h0=>?_⟩;rcases(j m hm).2 h0 with h|⟨e,he,h1,h2⟩
      ·exact .inl h
      ·rcases Zl.mp he with rfl|he
       ·obtain⟨n,wd⟩:=e;cases wd with
        |put u pl tx =>obtain⟨rfl,_⟩:=g.2.2.1 _ Zv;have e2:=(pI p1).2;refine .inl ?_;rw[e2,<-h2,aZ,if_pos rfl];rfl
        |_=>first|exact(g.2.2.1 _ Zv).elim|cases h1
       ·exact .inr ⟨e,he,h1,h2⟩
     ·rw[aZ];by_cases cn:m=n
      ·rw[if_pos cn];refine⟨fun h1=>?_,fun _=>.inl rfl⟩;rcases hc with⟨_,h2,_⟩|⟨_,i0,hl,_⟩
       ·rw[cn,h2,ho]at h1;cases h1
       ·have:=(j m hm).1 h1;rw[cn,hl]at this;cases this
      ·rw[if_neg cn];refine⟨(j m hm).1,fun h0=>?_⟩;rcases(j m hm).2 h0 with h|⟨e,he,h1,h2⟩
       ·exact .inl h
       ·rcases Zl.mp he with rfl|he
        ·rcases hc with⟨_,h3,_⟩|⟨h3,_⟩
         ·exact absurd (h2.symm.trans h3.symm) cn
         ·rw[h1]at h3;cases h3
        ·exact .inr ⟨e,he,h1,h2⟩
    have rec8:=oA (gd8.play g p1) jn pf2 hi2 x1;have held:∀m,cH d.2=some m->d.2.mk=false->(look ol m).isSome=!bA (look ts m):=fun m hm hk=>by
     have jm:=j m (hi d Zv m hm);cases ho2:bA (look ts m)with
     |true=>rw[jm.1 ho2];rfl
     |false =>
      rcases jm.2 ho2 with h|⟨e,he,h1,_⟩
      ·exact h
      ·rcases Zl.mp he with rfl|he
       ·rw[h1]at hk;cases hk
       ·have:=pf1 e he h1;rw[hk]at this;cases this
    have ew:w=wK ts tn d:=by
     unfold wK;rw[if_neg c',if_neg c2'];have k:=g.2.2.1 d Zv;obtain⟨n,wd⟩:=d;cases wd with
     |put u pl tx =>obtain⟨rfl,_⟩:=k;exact(pI p1).1
     |take m =>
      have hh:=held m rfl rfl;show w=if bA (look ts m)=true then("none":Str)else"done"
      rw[(ud p1).1,hh];cases bA (look ts m)<;>rfl
     |back m =>
      have hh:=held m rfl rfl;show w=if bA (look ts m)=true then("none":Str)else"done"
      rw[(rY p1).1,hh];cases bA (look ts m)<;>rfl
     |mark m b =>
      have hh:=held m rfl rfl;show w=if bA (look ts m)=true then("none":Str)else"done"
      rcases sR p1 with⟨h1,h2,_⟩|⟨it,h1,h2,_⟩
      ·rw[h1]at hh;cases h3:bA (look ts m)with
       |true=>rw[if_pos rfl];exact h2
       |false=>rw[h3]at hh;cases hh
      ·rw[h1]at hh;cases h3:bA (look ts m)with
       |true=>rw[h3]at hh;cases hh
       |false=>rw[if_neg (by simp)];exact h2
     |write m b =>
      have hh:=held m rfl rfl;show w=if bA (look ts m)=true then("none":Str)else"done"
      rcases qR p1 with⟨h1,h2,_⟩|⟨it,h1,h2,_⟩
      ·rw[h1]at hh;cases h3:bA (look ts m)with
       |true=>rw[if_pos rfl];exact h2
       |false=>rw[h3]at hh;cases hh
      ·rw[h1]at hh;cases h3:bA (look ts m)with
       |true=>rw[h3]at hh;cases hh
       |false=>rw[if_neg (by simp)];exact h2
     |_=>first|exact k.elim|cases c2
    rw[Zw,Zw,rec8,<-ew]
structure S38(D:List D3)(n:Nat):Prop where
 cl:∀d∈D,d.2.1.length=n/\K8 d.2.2
 len:D.length<=100
 uni:D.Pairwise fun d e=>nm3 d≠nm3 e
 srt:D.Pairwise fun d e=>d.2.1.sum<e.2.1.sum\/d.2.1.sum=e.2.1.sum/\d.1<e.1
 pf:D.Pairwise fun d e=>e.2.2.mk=true->d.2.2.mk=true
 ear:∀(i:Nat) (d:D3),D[i]?=some d->∀m,cH d.2.2=some m->∃(j:Nat) (e:D3),j<i/\D[j]?=some e/\e.2.2.mk=true/\nm3 e=m
 hp:∀d∈D,d.2.2.mk=false->∀e∈D,e.2.2.mk=true->aA d (nm3 e)=true
theorem S38.take{D:List D3}{n:Nat}(s:S38 D n)(k:Nat):S38 (D.take k) n:=by
 refine⟨fun d hd=>s.cl d (YE hd),?_,s.uni.sublist (Z1 _ _),s.srt.sublist (Z1 _ _),s.pf.sublist (Z1 _ _),fun i d hd m hm=>?_,fun d hd hm e he=>s.hp d (YE hd) hm e (YE he)⟩
 ·have:=s.len;rw[ZM];omega
 ·have hi:i<k:=by have:=(Zx.mp hd).1;rw[ZM]at this;omega
  rw[List.getElem?_take_of_lt hi]at hd;obtain⟨j,e,h1,h2,h3⟩:=s.ear i d hd m hm;exact⟨j,e,h1,by rw[List.getElem?_take_of_lt (by omega)];exact h2,h3⟩
theorem S38.inj{D:List D3}{n:Nat}(s:S38 D n){d e:D3}(hd:d∈D)(he:e∈D)(h:nm3 d=nm3 e):d=e:=by
 obtain⟨i,hi,rfl⟩:=ZP.mp hd;obtain⟨j,hj,rfl⟩:=ZP.mp he;have p:=ZH.mp s.uni;rcases Nat.lt_trichotomy i j with c|c|c
 ·exact absurd h (p i j hi hj c)
 ·subst c;rfl
 ·exact absurd h.symm (p j i hj hi c)
def PN(D:List D3)(m:Nm):Prop:=∃e∈D,e.2.2.mk=true/\nm3 e=m
theorem S38.g8{D:List D3}{n:Nat}(s:S38 D n):G8 [] (D.map toD):=by
 refine⟨fun n it h=>(nomatch h),?_,fun d hd=>?_,fun d hd _=>rfl,Yu.mpr s.uni⟩
 ·have:=s.len;rw[Zf];show 0+D.length<=300;omega
 ·obtain⟨x,hx,rfl⟩:=ZE.mp hd;exact(s.cl x hx).2
theorem S38.words{D:List D3}{n:Nat}(s:S38 D n){ts:As Dd}{tn:List Nm}{rs:List Out}(r:Runs ts tn [] (D.map toD) rs):rs.map (fun r:Out=>r.2.1)=(D.map toD).map (wK ts tn):=by
 refine oA (PN:=PN D) s.g8 (fun m hm=>⟨fun _=>rfl,fun _=>.inr ?_⟩) (Yu.mpr s.pf) (fun d hd m hm=>?_) r
 ·obtain⟨e,he,h1,h2⟩:=hm;exact⟨toD e,ZE.mpr ⟨e,he,rfl⟩,h1,h2⟩
 ·obtain⟨x,hx,rfl⟩:=ZE.mp hd;obtain⟨i,hi,rfl⟩:=ZP.mp hx;obtain⟨j,e,_,h2,h3,h4⟩:=s.ear i _ (Zd hi) m hm;exact⟨e,Yo h2,h3,h4⟩
def oLt(a b:D3):Bool:=HT.lexLt [a.2.1.sum,(a.1:Int)] [b.2.1.sum,(b.1:Int)]
theorem yF{a b:D3}(h:a.2.1.sum<b.2.1.sum\/a.2.1.sum=b.2.1.sum/\a.1<b.1):oLt a b=true/\oLt b a=false:=by
 unfold oLt;rw[HT.lexLt_cons,HT.lexLt_cons,HT.lexLt_cons,HT.lexLt_cons,HT.lexLt_nil_nil];rcases h with h|⟨h1,h2⟩
 ·rw[if_neg (by omega),if_neg (by omega)];exact⟨decide_eq_true h,decide_eq_false (by omega)⟩
 ·rw[if_pos h1,if_pos h1.symm,if_neg (by omega),if_neg (by omega)];exact⟨decide_eq_true (by omega),decide_eq_false (by omega)⟩
def agB(m:Nm)(one other:D3):Bool:=match other.2.2 with
 |.back x=>decide (x=m)&&(aA other (nm3 one) ||!aA one (nm3 other))
 |.mark x _=>decide (x=m)&&(!aA other (nm3 one)&&!aA one (nm3 other))
 |.write x _=>decide (x=m)&&(!aA other (nm3 one)&&!aA one (nm3 other))
 |_=>false
def ovB(one other:D3):Bool:=(decide (other.2.2.word=one.2.2.word)&&(decide (cH other.2.2=cH one.2.2)&&!oLt other one))&&(!decide (nm3 one=nm3 other)&&(!aA one (nm3 other)&&!aA other (nm3 one)))
def dP:Wd->Bool
 |.mark _ _=>true
 |.write _ _=>true
 |_=>false
def fY:Wd->Option Nm
 |.take m=>some m
 |_=>none
def ge(ts:As Dd)(tn:List Nm)(DN:List D3)(d:D3):Rp:=if wK ts tn (toD d) = "done" then (match fY d.2.2 with
  | some m=>(match DN.find? (agB m d) with
   |some e=>(nm3 d,"kept",some (nm3 e))
   | none=>(nm3 d,"done",none))
  | none=>if dP d.2.2=true then (match DN.find? (ovB d) with
   |some e=>(nm3 d,"over",some (nm3 e))
   | none=>(nm3 d,"done",none)) else (nm3 d,"done",none))
 else if wK ts tn (toD d)="off" then(nm3 d,"off",(look ts (nm3 d)).map fun x=>x.1)else(nm3 d,wK ts tn (toD d),none)
theorem jB{α:Type}{p q:α->Bool}:∀{l:List α},(∀x∈l,p x=q x)->l.find? p=l.find? q
 | [],_=>rfl
 |x::l,h=>by rw[YR,YR,h x Zv,jB fun y hy=>h y (Zt _ hy)]
theorem mq{n:Nm}:∀{qs:List (Nm×Nm)} {acc:As Nm},(look acc n).isSome=true->(look (fh acc qs) n).isSome=true
 | [],_,h=>h
 |q::qs,acc,h=>by
  show(look (fh (bo acc q.1 q.2) qs) n).isSome=true;refine mq ?_;rw[aZ];split
  ·rfl
  ·exact h
theorem mt{n b:Nm}:∀{qs:List (Nm×Nm)} {acc:As Nm},(n,b)∈qs->(look (fh acc qs) n).isSome=true
 |q::qs,acc,h=>by
  show(look (fh (bo acc q.1 q.2) qs) n).isSome=true;rcases Zl.mp h with rfl|h
  ·refine mq ?_;rw[aZ,if_pos rfl];rfl
  ·exact mt h
theorem gM{n b:Nm}:∀{qs:List (Nm×Nm)} {acc:As Nm},look (fh acc qs) n=some b->(n,b)∈qs\/look acc n=some b
 | [],_,h=>.inr h
 |q::qs,acc,h=>by
  have h':look (fh (bo acc q.1 q.2) qs) n=some b:=h;rcases gM h' with h1|h1
  ·exact .inl (Zt _ h1)
  ·rw[aZ]at h1;by_cases c:n=q.1
   ·rw[if_pos c]at h1;cases h1;exact .inl (by rw[c];exact Zv)
   ·rw[if_neg c]at h1;exact .inr h1
theorem sJ{ol:Ol}{D:List D3}{n b:Nm}:(n,b)∈cg (eG ol D)↔∃d∈D,∃m,dY d.2.2=some m/\nm3 d=n/\eU ol D d m=some b:=by
 unfold cg eG;rw[YN];constructor
 ·rintro⟨r,hr,e⟩;obtain⟨d,hd,hr⟩:=List.mem_flatMap.mp hr;unfold fm at hr;split at hr
  ·rename_i m hm;rcases Zs.mp hr with rfl;cases hf:eU ol D d m with
   |none=>rw[hf]at e;cases e
   |some b'=>rw[hf]at e;cases e;exact⟨d,hd,m,hm,rfl,hf⟩
  ·cases hr
 ·rintro⟨d,hd,m,hm,rfl,hf⟩;refine⟨(nm3 d,m,eU ol D d m),List.mem_flatMap.mpr ⟨d,hd,?_⟩,by rw[hf];rfl⟩;unfold fm;rw[hm];exact Zs.mpr rfl
theorem wA{d e:D3}(h:aA e (nm3 d)=true):cz d e=false:=by
 unfold cz;rw[h];split
 ·rfl
 ·rw[Bool.not_true,Ym]
theorem BM{ol:Ol}(h1:∀n it,look ol n=some it->it.up=none){x o:Nm}(hx:(look ol x).isSome=true):iS ol o x=decide (x=o):=by
 obtain⟨it,e⟩:=ZY.mp hx;by_cases c:x=o
 ·rw[decide_eq_true c,c];exact qh (k:=0) .self
 ·rw[decide_eq_false c];exact qh (k:=1) (.up c e (by rw[h1 x it e];exact .none))
section
variable{D:List D3}{n:Nat}{ol:Ol}{ov:As Nm}{ts:As Dd}{tn:List Nm}
theorem G9(s:S38 D n)(h1:∀n it,look ol n=some it->it.up=none){one other:D3}{m:Nm}(ho:one∈D)(hr:other∈D)(hw:one.2.2=.take m)(h2:∀x∈cE (nm3 other) other.2.2,(look ol x).isSome=true):gsB ol other one m=agB m one other:=by
 have k:=(s.cl other hr).2;have hne:other.2.2≠one.2.2->nm3 other≠nm3 one:=fun z e=>z (by rw[s.inj hr ho e]);have ap:other.2.2≠one.2.2->cz other one=(!aA other (nm3 one)&&!aA one (nm3 other)):=fun z=>by unfold cz;rw[if_neg (hne z)]
 unfold gsB agB;rw[mw];generalize ht:cE (nm3 other) other.2.2=tt at h2;cases hd:other.2.2 with
 |put u pl tx =>have hh:=s.hp one ho (by rw[hw];rfl) other hr (by rw[hd];rfl);rw[wA hh,Ya,Bool.or_false];rfl
 |take x =>rw[hd]at ht;rw[<-ht];show(decide (none=some m)&&_ ||cz other one&&false)=false;rw[Ym,Bool.or_false];rfl
 |off x =>rw[hd]at ht;rw[<-ht];show(decide (none=some m)&&_ ||cz other one&&false)=false;rw[Ym,Bool.or_false];rfl
 |on x =>rw[hd]at ht;rw[<-ht];show(decide (none=some m)&&_ ||cz other one&&false)=false;rw[Ym,Bool.or_false];rfl
 |back x =>
  rw[hd]at ht;rw[<-ht]at h2 ⊢;rw[ap (by rw[hd,hw];exact fun z=>nomatch z)];show(decide (some x=some m)&&aA other (nm3 one) ||(!aA other (nm3 one)&&!aA one (nm3 other))&&(iS ol m x ||false))=(decide (x=m)&&(aA other (nm3 one) ||!aA one (nm3 other)));rw[BM h1 (h2 x Zv),Bool.or_false];by_cases c:x=m
  ·rw[decide_eq_true c,decide_eq_true (ZW some c)];cases aA other (nm3 one)<;>cases aA one (nm3 other)<;>rfl
  ·rw[decide_eq_false c,decide_eq_false (fun z=>c (Zu z)),Ym];rfl
 |mark x b =>rw[hd]at ht;rw[<-ht]at h2 ⊢;rw[ap (by rw[hd,hw];exact fun z=>nomatch z)];show(decide (none=some m)&&aA other (nm3 one) ||(!aA other (nm3 one)&&!aA one (nm3 other))&&(iS ol m x ||false))=(decide (x=m)&&(!aA other (nm3 one)&&!aA one (nm3 other)));rw[BM h1 (h2 x Zv),Bool.or_false,Bool.and_comm (decide (x=m)),decide_eq_false (fun z=>nomatch z),Ya,Bool.false_or]
 |write x b =>rw[hd]at ht;rw[<-ht]at h2 ⊢;rw[ap (by rw[hd,hw];exact fun z=>nomatch z)];show(decide (none=some m)&&aA other (nm3 one) ||(!aA other (nm3 one)&&!aA one (nm3 other))&&(iS ol m x ||false))=(decide (x=m)&&(!aA other (nm3 one)&&!aA one (nm3 other)));rw[BM h1 (h2 x Zv),Bool.or_false,Bool.and_comm (decide (x=m)),decide_eq_false (fun z=>nomatch z),Ya,Bool.false_or]
 |_=>rw[hd]at k;exact k.elim
def aQ(ts:As Dd)(tn:List Nm)(D:List D3):List D3:=D.filter fun d=>bE (wK ts tn (toD d))
theorem eS{d:D3}:d∈aQ ts tn D↔d∈D/\wK ts tn (toD d)="done":=by unfold aQ bE;rw[Yb,decide_eq_true_iff]
theorem C3(s:S38 D n)(h1:∀n it,look ol n=some it->it.up=none)(h2:∀d∈aQ ts tn D,∀x∈cE (nm3 d) d.2.2,(look ol x).isSome=true){d:D3}{m:Nm}(hd:d∈aQ ts tn D)(hw:d.2.2=.take m):look (gF (eG ol (aQ ts tn D))) (nm3 d)=((aQ ts tn D).find? (agB m d)).map nm3:=by
 have ef:eU ol (aQ ts tn D) d m=((aQ ts tn D).find? (agB m d)).map nm3:=by unfold eU;rw[jB fun e he=>G9 s h1 (eS.mp hd).1 (eS.mp he).1 hw (h2 e he)]
 rw[<-ef];have uq:∀b,(nm3 d,b)∈cg (eG ol (aQ ts tn D))->eU ol (aQ ts tn D) d m=some b:=fun b hb=>by obtain⟨d',hd',m',hm',en,hf⟩:=sJ.mp hb;have:=s.inj (eS.mp hd').1 (eS.mp hd).1 en;subst this;rw[hw]at hm';cases hm';exact hf
 cases hf:eU ol (aQ ts tn D) d m with
 |some b =>
  have:=mt (acc:=[]) (sJ.mpr ⟨d,hd,m,by rw[hw];rfl,rfl,hf⟩);obtain⟨b',e⟩:=ZY.mp this;rcases gM e with h|h
  ·have:=uq b' h;rw[hf]at this;cases this;exact e
  ·cases h
 |none =>
  cases e:look (gF (eG ol (aQ ts tn D))) (nm3 d)with
  |none=>rfl
  |some b =>
   rcases gM e with h|h
   ·have:=uq b h;rw[hf]at this;cases this
   ·cases h
theorem vt(s:S38 D n){d:D3}(hd:d∈D)(hw:d∈aQ ts tn D->dY d.2.2=none):look (gF (eG ol (aQ ts tn D))) (nm3 d)=none:=by
 cases e:look (gF (eG ol (aQ ts tn D))) (nm3 d)with
 |none=>rfl
 |some b =>
  rcases gM e with h|h
  ·obtain⟨d',hd',m',hm',en,hf⟩:=sJ.mp h;have:=s.inj (eS.mp hd').1 hd en;subst this;rw[hw hd']at hm';cases hm'
  ·cases h
theorem pG(s:S38 D n)(ho:OvR (aQ ts tn D) ov){d:D3}(hd:d∈D)(hw:d∈aQ ts tn D->fz d.2.2=false):look ov (nm3 d)=none:=by
 by_cases c:d∈aQ ts tn D
 ·obtain⟨j,hj,e⟩:=ZP.mp c;have h:=ho.1 j d (by rw[Zd hj,e]);rw[h];unfold ovJ;rw[Zd hj,e];show(if fz d.2.2=true then _ else none)=none;rw[hw c,if_neg (by simp)]
 ·exact ho.2 _ fun x hx z=>c (by rw[<-s.inj (eS.mp hx).1 hd z];exact hx)
theorem Cb{wd:Wd}(h:dP wd=true):fz wd=true/\fY wd=none/\dY wd=none:=by cases wd<;>first|exact⟨rfl,rfl,rfl⟩|cases h
theorem C7{a b:Wd}(hb:dP b=true)(h:a.word=b.word):fN a=cH a/\fN b=cH b:=by
 have hv:∀wd:Wd,inV (.str wd.word) [.str "mark",.str "write"]=dP wd:=fun wd=>by cases wd<;>rfl
 have ha:dP a=true:=by rw[<-hv a,h,hv b];exact hb
 refine⟨?_,?_⟩
 ·cases a<;>first|rfl|cases ha
 ·cases b<;>first|rfl|cases hb
theorem Hq(s:S38 D n)(ho:OvR (aQ ts tn D) ov){d:D3}(hd:d∈aQ ts tn D)(hw:dP d.2.2=true):look ov (nm3 d)=((aQ ts tn D).find? (ovB d)).map nm3:=by
 obtain⟨j,hj,e⟩:=ZP.mp hd;have hg:(aQ ts tn D)[j]?=some d:=by rw[Zd hj,e]
 rw[ho.1 j d hg];unfold ovJ;rw[hg];show(if fz d.2.2=true then(((aQ ts tn D).drop (j+1)).find? fun e=>cW e d).map nm3 else none)=_;rw[if_pos (Cb hw).1];have hs:aQ ts tn D=(aQ ts tn D).take j++d::(aQ ts tn D).drop (j+1):=(ZT j _).symm.trans (by rw[Yw hj,e]);have sub:(aQ ts tn D).Sublist D:=List.filter_sublist;have srt:=s.srt.sublist sub;have uni:=s.uni.sublist sub;have h1:∀x∈(aQ ts tn D).take j,ovB d x=false:=fun x hx=>by rw[hs]at srt;have:=(ZG.mp srt).2.2 x hx d Zv;unfold ovB;rw[(yF this).1,Bool.not_true,Ym,Ym,Ya]
 have h2:ovB d d=false:=by unfold ovB;rw[decide_eq_true (rfl:nm3 d=nm3 d),Bool.not_true,Ya,Ym]
 have h3:∀x∈(aQ ts tn D).drop (j+1),cW x d=ovB d x:=fun x hx=>by
  rw[hs]at srt uni;have o1:=(List.pairwise_cons.mp (ZG.mp srt).2.1).1 x hx;have o2:=(List.pairwise_cons.mp (ZG.mp uni).2.1).1 x hx;unfold cW ovB iD cz;rw[(yF o1).2,if_neg fun z=>o2 z.symm,decide_eq_false o2,Bool.not_false,Bool.and_true,YX];by_cases c:x.2.2.word=d.2.2.word
  ·obtain⟨i1,i2⟩:=C7 hw c;rw[i1,i2,Bool.and_comm (!aA x (nm3 d))]
  ·rw[decide_eq_false c];simp only[Ya]
 have e2:(aQ ts tn D).find? (ovB d)=((aQ ts tn D).drop (j+1)).find? (ovB d):=by
  conv=>lhs;rw[hs]
  rw[List.find?_append,List.find?_eq_none.mpr (fun x hx=>by rw[h1 x hx];simp),Option.none_or,List.find?_cons_of_neg (by rw[h2];simp)]
 rw[e2,jB h3]
theorem Fa:("done":Str)≠"off":=by decide +kernel
theorem HF(s:S38 D n)(h1:∀n it,look ol n=some it->it.up=none)(h2:∀d∈aQ ts tn D,∀x∈cE (nm3 d) d.2.2,(look ol x).isSome=true)(ho:OvR (aQ ts tn D) ov){d:D3}(hd:d∈D):fc (gF (eG ol (aQ ts tn D))) ov ts (nm3 d) (wK ts tn (toD d))=ge ts tn (aQ ts tn D) d:=by
 unfold fc ge;by_cases c:wK ts tn (toD d)="done"
 ·rw[if_pos c,if_neg (by rw[c];exact Fa)];have hdn:d∈aQ ts tn D:=eS.mpr ⟨hd,c⟩;cases ht:fY d.2.2 with
  |some m =>
   have hw:d.2.2=.take m:=by
    generalize d.2.2=wd at ht;cases wd<;>cases ht
    rfl
   have hov:look ov (nm3 d)=none:=pG s ho hd fun _=>by rw[hw];rfl
   rw[C3 s h1 h2 hdn hw,hov,c]
   try dsimp only
   cases(aQ ts tn D).find? (agB m d)<;>rfl
  |none =>
   have htk:dY d.2.2=none:=by have k:=(s.cl d hd).2;generalize d.2.2=wd at ht k;cases wd<;>first|rfl|exact k.elim|cases ht
   rw[vt s hd fun _=>htk]
   try dsimp only
   cases hm:dP d.2.2 with
   |true =>
    rw[Hq s ho hdn hm,if_pos rfl,c]
    try dsimp only
    cases(aQ ts tn D).find? (ovB d)<;>rfl
   |false =>
    have hf:fz d.2.2=false:=by have k:=(s.cl d hd).2;generalize d.2.2=wd at hm k;cases wd<;>first|rfl|exact k.elim|cases hm
    rw[pG s ho hd fun _=>hf,if_neg (by simp),c]
 ·rw[if_neg c];have hdn:¬d∈aQ ts tn D:=fun z=>c (eS.mp z).2;by_cases co:wK ts tn (toD d)="off"
  ·rw[if_pos co,if_pos co]
  ·rw[if_neg co,if_neg co,vt s hd fun z=>absurd z hdn,pG s ho hd fun z=>absurd z hdn]
end
theorem CS(c:Char):c.toNat<0x110000:=by
 rcases c.valid with h|⟨_,h⟩
 ·show c.val.toNat<_;have:c.val.toNat<55296:=h;omega
 ·show c.val.toNat<_;have:c.val.toNat<1114112:=h;omega
theorem Gp{i:Int}(h0:0<=i)(h1:i<10000000000):wn (jH i):=by
 refine⟨?_,AD (k:=9) (by show i.natAbs<10000000000;omega) |> fun h=>ZI h (by decide)⟩;obtain⟨m,rfl⟩:∃m:Nat,i=(m:Int):=⟨i.toNat,by omega⟩
 show(Str.ofString (toString ((m:Nat):Int))).cps.all (·<0x110000)=true;rw[<-Array.all_toList,PySem.W.KIN.signs_num];rw[YM];intro x hx;obtain⟨c,_,rfl⟩:=ZE.mp hx;exact decide_eq_true (CS c)
def gj(n k:Nat):D3:=(0,((k:Int)+1)::List.replicate (n-1) 0,.put none [(k:Int)] "item")
structure Gen38(n many:Nat)(cl:List (List Int))(L:List D3):Prop where
 cn:cl.length=n
 cc:∀g,g<n->(clk cl g).length=n
 nn:∀g,g<n->∀i,0<=aq (clk cl g) i
 c0:∀g,g<n->(many:Int)<=aq (clk cl g) 0
 len:∀d∈L,d.2.1.length=n/\d.1<n
 low:∀d∈L,aq d.2.1 d.1<=aq (clk cl d.1) d.1
 uni:L.Pairwise fun d e=>nm3 d≠nm3 e
 k8:∀d∈L,K8 d.2.2
 knd:∀d∈L,(d.2.2.mk=true/\d.2.1.sum<=many/\∃k:Int,1<=k/\k<=many/\nm3 d=(0,k))\/(d.2.2.mk=false/\(many:Int)<d.2.1.sum/\(many:Int)<=aq d.2.1 0/\∀m,cH d.2.2=some m->∃k:Int,1<=k/\k<=many/\m=(0,k))
 all:∀k:Int,1<=k->k<=many->∃d∈L,d.2.2.mk=true/\nm3 d=(0,k)
 sms:∀d∈L,d.2.1.sum<=(clk cl d.1).sum
 ord:L.Pairwise fun d e=>d.1=e.1->d.2.1.sum≠e.2.1.sum
theorem mW:∀n:Nat,(List.replicate n (0:Int)).sum=0
 |0=>rfl
 |n+1=>by rw[YK,YB,mW n];rfl
theorem DZ{c:List Int}{h:Nat}(hh:h<c.length):(c.set h (aq c h+1)).sum=c.sum+1:=by
 induction c generalizing h with
 |nil=>exact absurd hh (by simp)
 |cons x c ih =>
  cases h with
  |zero =>show((x::c).set 0 (x+1)).sum=_;rw[List.set_cons_zero,YB,YB];omega
  |succ h =>have e:aq (x::c) (h+1)=aq c h:=rfl;rw[e,List.set_cons_succ,YB,YB,ih (by simpa using hh)];omega
theorem zC:∀{c:List Int},(∀i,0<=aq c i)->0<=c.sum
 | [],_=>Int.le_refl _
 |x::c,h=>by have h0:0<=x:=h 0;have:=zC (c:=c) fun i=>h (i+1);rw[YB];omega
theorem Gq{c:List Int}(h:∀i,0<=aq c i)(hl:0<c.length):aq c 0<=c.sum:=by
 cases c with
 |nil=>exact absurd hl (by simp)
 |cons x c =>have:=zC (c:=c) fun i=>h (i+1);show x<=_;rw[YB];omega
theorem zA:∀{a b:List Int},a.length=b.length->(∀i,i<a.length->aq a i<=aq b i)->a.sum<=b.sum
 | [],[],_,_=>Int.le_refl _
 |x::a,y::b,hl,h=>by have h0:x<=y:=h 0 (Nat.succ_pos _);have:=zA (a:=a) (b:=b) (by simpa using hl) fun i hi=>h (i+1) (by rw[Zm];omega);rw[YB,YB];omega
theorem Ak{c:List Int}{i:Nat}(h:c.length<=i):aq c i=0:=by unfold aq;rw[List.getElem?_eq_none h];rfl
theorem lE(n k:Nat):(gj n k).2.1.sum=(k:Int)+1:=by show(((k:Int)+1)::List.replicate (n-1) 0).sum=_;rw[YB,mW];omega
theorem FR(n k:Nat):nm3 (gj n k)=(0,(k:Int)+1):=rfl
theorem C1:wn "item":=by refine⟨by decide +kernel,by decide +kernel⟩
theorem Gen38.start{n many:Nat}(hn:2<=n):Gen38 n many (List.replicate n (((many:Nat):Int)::List.replicate (n-1) 0)) ((List.range many).map (gj n)):=by
 have ck:∀g,g<n->clk (List.replicate n (((many:Nat):Int)::List.replicate (n-1) 0)) g=((many:Nat):Int)::List.replicate (n-1) 0:=fun g hg=>by unfold clk;rw[YY,if_pos hg];rfl
 have mem:∀{d:D3},d∈(List.range many).map (gj n)->∃k,k<many/\d=gj n k:=fun hd=>by obtain⟨k,hk,e⟩:=ZE.mp hd;exact⟨k,Y1.mp hk,e.symm⟩
 refine⟨Ye ..,fun g hg=>?_,fun g hg i=>?_,fun g hg=>?_,fun d hd=>?_,fun d hd=>?_,?_,fun d hd=>?_,fun d hd=>?_,fun k h1 h2=>?_,fun d hd=>?_,?_⟩
 ·rw[ck g hg,Zm,Ye];omega
 ·rw[ck g hg];cases i with
  |zero=>exact Int.natCast_nonneg many
  |succ i =>show 0<=aq (List.replicate (n-1) 0) i;rw[Am];exact Int.le_refl _
 ·rw[ck g hg];exact Int.le_refl _
 ·obtain⟨k,hk,rfl⟩:=mem hd;refine⟨?_,by show 0<n;omega⟩;show(((k:Int)+1)::List.replicate (n-1) (0:Int)).length=n;rw[Zm,Ye];omega
 ·obtain⟨k,hk,rfl⟩:=mem hd;rw[show(gj n k).1=0 from rfl,ck 0 (by omega)];show(k:Int)+1<=((many:Nat):Int);omega
 ·rw[Yu];refine List.Pairwise.imp (R:=fun a b:Nat=>a<b) (fun{a b} hab z=>?_) List.pairwise_lt_range;have:((a:Int)+1)=((b:Int)+1):=ZW Prod.snd z;omega
 ·obtain⟨k,hk,rfl⟩:=mem hd;exact⟨rfl,C1⟩
 ·obtain⟨k,hk,rfl⟩:=mem hd;refine .inl ⟨rfl,?_,(k:Int)+1,by omega,by omega,rfl⟩;rw[lE];omega
 ·refine⟨gj n (k.toNat-1),ZE.mpr ⟨k.toNat-1,Y1.mpr (by omega),rfl⟩,rfl,?_⟩;rw[FR];refine Prod.ext rfl ?_;show((k.toNat-1:Nat):Int)+1=k;omega
 ·obtain⟨k,hk,rfl⟩:=mem hd;rw[lE,show(gj n k).1=0 from rfl,ck 0 (by omega),YB,mW];omega
 ·rw[Yu];refine List.Pairwise.imp (R:=fun a b:Nat=>a<b) (fun{a b} hab _ z=>?_) List.pairwise_lt_range;rw[lE,lE]at z;omega
theorem Gen38.met{n many:Nat}{cl:List (List Int)}{L:List D3}(g:Gen38 n many cl L){h o:Nat}(hh:h<n)(ho:o<n):Gen38 n many (cl.set h (mx (clk cl h) (clk cl o) n)) L:=by
 have hc:h<cl.length:=by rw[g.cn];exact hh
 have up:∀i,i<n->aq (clk cl h) i<=aq (mx (clk cl h) (clk cl o) n) i:=fun i hi=>by rw[C8 hi];split<;>omega
 refine⟨by rw[YG];exact g.cn,fun q hq=>?_,fun q hq i=>?_,fun q hq=>?_,g.len,fun d hd=>?_,g.uni,g.k8,g.knd,g.all,fun d hd=>?_,g.ord⟩
 ·rw[bR hc];split
  ·exact nO
  ·exact g.cc q hq
 ·rw[bR hc];split
  ·rcases Z2 i n with c|c
   ·have:=g.nn h hh i;have:=up i c;omega
   ·rw[Ak (by rw[nO];exact c)];exact Int.le_refl _
  ·exact g.nn q hq i
 ·rw[bR hc];split
  ·have:=g.c0 h hh;have:=up 0 (by omega);omega
  ·exact g.c0 q hq
 ·rw[bR hc];have l1:=g.low d hd;have l2:=up d.1 (g.len d hd).2;by_cases e:d.1=h
  ·rw[if_pos e];rw[e]at l1 l2 ⊢;omega
  ·rw[if_neg e];exact l1
 ·rw[bR hc];have l1:=g.sms d hd;by_cases e:d.1=h
  ·rw[if_pos e];rw[e]at l1;have:=zA (a:=clk cl h) (b:=mx (clk cl h) (clk cl o) n) (by rw[g.cc h hh,nO]) fun i hi=>up i (by rw[g.cc h hh]at hi;exact hi);omega
  ·rw[if_neg e];exact l1
theorem Gen38.add{n many:Nat}{cl:List (List Int)}{L:List D3}(g:Gen38 n many cl L){h:Nat}(hh:h<n){wd:Wd}(hs:K8 wd)(hm:wd.mk=false)(hi:∀m,cH wd=some m->∃k:Int,1<=k/\k<=many/\m=(0,k)) :
  Gen38 n many (cl.set h ((clk cl h).set h (aq (clk cl h) h+1))) (L++[(h,(clk cl h).set h (aq (clk cl h) h+1),wd)]):=by
 have hc:h<cl.length:=by rw[g.cn];exact hh
 have hl:h<(clk cl h).length:=by rw[g.cc h hh];exact hh
 have sm:=DZ hl;have sg:=Gq (g.nn h hh) (by omega);have g0:=g.c0 h hh;generalize hx:(clk cl h).set h (aq (clk cl h) h+1)=c' at sm ⊢;have cs:∀i,aq c' i=if i=h then aq (clk cl h) h+1 else aq (clk cl h) i:=fun i=>by rw[<-hx,An hl]
 have lc:c'.length=n:=by rw[<-hx,YG,g.cc h hh]
 have c0':(many:Int)<=aq c' 0:=by
  rw[cs 0];split
  ·rename_i e;have:=ZW (aq (clk cl h)) e;omega
  ·omega
 refine⟨by rw[YG];exact g.cn,fun q hq=>?_,fun q hq i=>?_,fun q hq=>?_,fun d hd=>?_,fun d hd=>?_,?_,fun d hd=>?_,fun d hd=>?_,fun j j1 j2=>?_,fun d hd=>?_,?_⟩
 ·rw[bR hc];split
  ·exact lc
  ·exact g.cc q hq
 ·rw[bR hc];split
  ·rw[cs i];have:=g.nn h hh h;have:=g.nn h hh i;split<;>omega
  ·exact g.nn q hq i
 ·rw[bR hc];split
  ·exact c0'
  ·exact g.c0 q hq
 ·rcases ZF.mp hd with hd|hd
  ·exact g.len d hd
  ·rw[Zs.mp hd];exact⟨lc,hh⟩
 ·rcases ZF.mp hd with hd|hd
  ·rw[bR hc];have:=g.low d hd;split
   ·rename_i e;rw[e]at this ⊢;rw[cs h,if_pos rfl];omega
   ·exact this
  ·rw[Zs.mp hd];show aq c' h<=aq (clk (cl.set h c') h) h;rw[bR hc,if_pos rfl];exact Int.le_refl _
 ·refine ZG.mpr ⟨g.uni,List.pairwise_singleton _ _,fun d hd e he z=>?_⟩;rw[Zs.mp he]at z;have z1:((d.1:Int))=(h:Int):=ZW Prod.fst z;have z2:aq d.2.1 d.1=aq c' h:=ZW Prod.snd z;have e1:d.1=h:=by omega
  have:=g.low d hd;rw[cs h,if_pos rfl]at z2;rw[e1]at this z2;omega
 ·rcases ZF.mp hd with hd|hd
  ·exact g.k8 d hd
  ·rw[Zs.mp hd];exact hs
 ·rcases ZF.mp hd with hd|hd
  ·exact g.knd d hd
  ·rw[Zs.mp hd];refine .inr ⟨hm,?_,c0',hi⟩;show(many:Int)<c'.sum;omega
 ·obtain⟨d,hd,x⟩:=g.all j j1 j2;exact⟨d,ZF.mpr (.inl hd),x⟩
 ·rcases ZF.mp hd with hd|hd
  ·rw[bR hc];have:=g.sms d hd;split
   ·rename_i e;rw[e]at this;omega
   ·exact this
  ·rw[Zs.mp hd];show c'.sum<=(clk (cl.set h c') h).sum;rw[bR hc,if_pos rfl];exact Int.le_refl _
 ·refine ZG.mpr ⟨g.ord,List.pairwise_singleton _ _,fun d hd e he z=>?_⟩;rw[Zs.mp he]at z ⊢;have z':d.1=h:=z;have:=g.sms d hd;rw[z']at this;show d.2.1.sum≠c'.sum;omega
theorem BE{L:L3}{p:Array Nat}(hp:POk L.length p)(hs:LS (fun i j=>HT.lexLt (((L.map fun x=>ZKey.t [x.2.2.1.sum,(x.2.1:Int)]).map ZKey.nums).getD i []) (((L.map fun x=>ZKey.t [x.2.2.1.sum,(x.2.1:Int)]).map ZKey.nums).getD j [])) p L.length) :
  (p.toList.map fun i=>L.getD i (0,0,[],.none)).Pairwise fun x y=>x.2.2.1.sum<y.2.2.1.sum\/x.2.2.1.sum=y.2.2.1.sum/\x.2.1<=y.2.1:=by
 have ep:p.toList.Perm (List.range L.length):=by have:=Array.perm_iff_toList_perm.mp hp;simpa using this
 rw[Yu];have hz:p.size=L.length:=by have:=hp.size_eq;simpa using this
 rw[ZH];intro i j hi hj hij;rw[Zz]at hi hj;have lx:=hs i j hij (by omega);have e1:gA p i=p.toList[i]'(by rw[Zz];exact hi):=by rw[aU,Zg,Zd (by rw[Zz];exact hi)];rfl
 have e2:gA p j=p.toList[j]'(by rw[Zz];exact hj):=by rw[aU,Zg,Zd (by rw[Zz];exact hj)];rfl
 have m1:p.toList[i]'(by rw[Zz];exact hi)<L.length:=Y1.mp (ep.mem_iff.mp (Zy _));have m2:p.toList[j]'(by rw[Zz];exact hj)<L.length:=Y1.mp (ep.mem_iff.mp (Zy _));rw[e1,e2]at lx;generalize p.toList[i]'(by rw[Zz];exact hi)=a at *;generalize p.toList[j]'(by rw[Zz];exact hj)=b at *;have ga:∀k,k<L.length->(((L.map fun x=>ZKey.t [x.2.2.1.sum,(x.2.1:Int)]).map ZKey.nums).getD k [])=[(L.getD k (0,0,[],.none)).2.2.1.sum,((L.getD k (0,0,[],.none)).2.1:Int)]:=fun k hk=>by simp[hk,ZKey.nums]
 have:=lx.1;dsimp only at this;rw[ga a m1,ga b m2,HT.lexLt_cons,HT.lexLt_cons,HT.lexLt_nil_nil]at this;generalize(L.getD a (0,0,[],Wd.none)).2.2.1.sum=sa at *;generalize(L.getD b (0,0,[],Wd.none)).2.2.1.sum=sb at *;generalize(L.getD a (0,0,[],Wd.none)).2.1=xa at *;generalize(L.getD b (0,0,[],Wd.none)).2.1=xb at *;by_cases c:sb=sa
 ·rw[if_pos c]at this;refine .inr ⟨c.symm,?_⟩;by_cases c2:(xb:Int)=(xa:Int)
  ·omega
  ·rw[if_neg c2]at this;have:=of_decide_eq_false this;omega
 ·rw[if_neg c]at this;have:=of_decide_eq_false this;exact .inl (by omega)
theorem EI{n many:Nat}{cl:List (List Int)}{L M:L3}(g:Gen38 n many cl (L.map Prod.snd))(pe:M.Perm L)(so:M.Pairwise fun x y=>x.2.2.1.sum<y.2.2.1.sum\/x.2.2.1.sum=y.2.2.1.sum/\x.2.1<=y.2.1)(hl:L.length<=100):S38 (M.map Prod.snd) n:=by
 have mem:∀d∈M.map Prod.snd,d∈L.map Prod.snd:=fun d hd=>by obtain⟨x,hx,rfl⟩:=ZE.mp hd;exact ZE.mpr ⟨x,pe.mem_iff.mp hx,rfl⟩
 have pm:=pe.map Prod.snd;have uni:(M.map Prod.snd).Pairwise fun d e=>nm3 d≠nm3 e:=g.uni.perm pm.symm fun{x y} z=>z.symm;have ord:(M.map Prod.snd).Pairwise fun d e=>d.1=e.1->d.2.1.sum≠e.2.1.sum:=g.ord.perm pm.symm fun{x y} z h=>(z h.symm).symm;have so':(M.map Prod.snd).Pairwise fun d e=>d.2.1.sum<e.2.1.sum\/d.2.1.sum=e.2.1.sum/\d.1<=e.1:=Yu.mpr so;have srt:(M.map Prod.snd).Pairwise fun d e=>d.2.1.sum<e.2.1.sum\/d.2.1.sum=e.2.1.sum/\d.1<e.1:=so'.imp₂ (fun d e h1 h2=>by
  rcases h1 with h1|⟨h1,h3⟩
  ·exact .inl h1
  ·refine .inr ⟨h1,Nat.lt_of_le_of_ne h3 fun z=>h2 z h1⟩) ord
 have mksum:∀d∈M.map Prod.snd,d.2.2.mk=true->d.2.1.sum<=many:=fun d hd hm=>by
  rcases g.knd d (mem d hd)with⟨_,h,_⟩|⟨h,_⟩
  ·exact h
  ·rw[hm]at h;cases h
 have nosum:∀d∈M.map Prod.snd,d.2.2.mk=false->(many:Int)<d.2.1.sum:=fun d hd hm=>by
  rcases g.knd d (mem d hd)with⟨h,_⟩|⟨_,h,_⟩
  ·rw[hm]at h;cases h
  ·exact h
 refine⟨fun d hd=>⟨(g.len d (mem d hd)).1,g.k8 d (mem d hd)⟩,by rw[Zf,pe.length_eq];exact hl,uni,srt,?_,fun i d hd m hm=>?_,fun d hd hm e he hk=>?_⟩
 ·refine ZH.mpr fun i j hi hj hij hk=>?_;have h1:=ZH.mp srt i j hi hj hij;have h2:=mksum _ (Zy hj) hk;cases c:(M.map Prod.snd)[i].2.2.mk with
  |true=>rfl
  |false =>have:=nosum _ (Zy hi) c;omega
 ·have hdm:=Yo hd;obtain⟨hi,ed⟩:=Zx.mp hd;rcases g.knd d (mem d hdm)with⟨h1,_⟩|⟨h1,h2,_,h4⟩
  ·exfalso;generalize d.2.2=wd at h1 hm;cases wd<;>first|(simp[Wd.mk]at h1;done)|(simp[cH]at hm;done)
  obtain⟨k,k1,k2,rfl⟩:=h4 m hm;obtain⟨e,he,e1,e2⟩:=g.all k k1 k2;obtain⟨j,hj,ej⟩:=ZP.mp (pm.mem_iff.mpr he);refine⟨j,e,?_,by rw[Zd hj,ej],e1,e2⟩;have sj:=mksum e (pm.mem_iff.mpr he) e1;rcases Nat.lt_trichotomy j i with c|c|c
  ·exact c
  ·subst c;rw[<-ej,ed]at sj;omega
  ·have:=ZH.mp srt i j hi hj c;rw[ed,ej]at this;omega
 ·rcases g.knd d (mem d hd)with⟨h1,_⟩|⟨_,_,h3,_⟩
  ·rw[hm]at h1;cases h1
  rcases g.knd e (mem e he)with⟨_,_,k,k1,k2,k3⟩|⟨h1,_⟩
  ·unfold aA kL;have ne:¬nm3 e=nm3 d:=fun z=>by
    obtain⟨i,hi,rfl⟩:=ZP.mp hd;obtain⟨j,hj,rfl⟩:=ZP.mp he;have p:=ZH.mp uni;rcases Nat.lt_trichotomy i j with c|c|c
    ·exact p i j hi hj c z.symm
    ·subst c;rw[hm]at hk;cases hk
    ·exact p j i hj hi c z
   rw[decide_eq_false ne,k3];show(true&&decide (aq d.2.1 0>=k))=true;rw[YX];exact decide_eq_true (by omega)
  ·rw[hk]at h1;cases h1
def GW8(H:Hp)(many:Int)(v:V):Prop:=∃(t:Addr) (wd:Wd),v=.ref t/\WhAt H t wd/\K8 wd/\wd.mk=false/\∀m,cH wd=some m->∃k:Int,1<=k/\k<=many/\m=(0,k)
theorem GW8.same{H H':Hp}{m:Int}{v:V}(x:GW8 H m v)(s:Same H H'):GW8 H' m v:=by obtain⟨t,wd,h1,h2,h3⟩:=x;exact⟨t,wd,h1,h2.ts (Same.ts s),h3⟩
def vS:Sp:=fun vs H Q _=>∃(n nr many:Int),vs=[.int n,.int nr,.int many]/\0<=n/\n<=2147483647/\1<=many/\∀v H',Same H H'->GW8 H' many v->Q v H'
abbrev tQ:Stmt:=top 46
abbrev En:List Str:=["_law_n","_law_number","_law_many","_law_item","_law_some"]
theorem pV:FnScope En ["_law_n","_law_number","_law_many"] (al tQ):=⟨rfl,rfl,rfl,by decide +kernel,rfl,by decide +kernel,by decide +kernel⟩
theorem Df{f:Addr}{fd:FuncData}(F:Fun K "_law_what" "_law_what" tQ f fd)(dg:PySem.W.nsIn K cStatics "sys.int_max_str_digits" = some none)(z_str:mg "str" = none):FnOk P w K mg base CX0 1 f fd ["_law_n","_law_number","_law_many"] vS:=by
 refine F.okQ pV (fun vs H Q E h=>?_) (fun cdv A outer s H vs Q E hr h=>?_)
 ·obtain⟨n,nr,many,rfl,_⟩:=h;rfl
 obtain⟨n,nr,many,rfl,n0,n9,m1,q⟩:=h;refine⟨_,(b_c (aH (i:=3) pV.nd (aE (q_a af (q_a (aM fO af (aM dZ (aM iZ (q_v 0) af) (q_v 2))) ag))))
   (b_c (aH (i:=4) pV.nd (cQ (q_a (aE (q_a am (q_a (q_v 3) ag))) (q_a (aE (q_a am (q_a (q_v 3) ag))) (q_a (aE (q_a am (q_a (q_v 3) ag))) (q_a (aE (q_a am (q_a (q_v 3) (q_a (eE bH (aM dZ (aM iZ (q_v 0) af) af) af) ag)))) (q_a (aE (q_a am (q_a (q_v 3) (q_a (pJ (CQ (K:=K) rfl rfl dg) z_str Ai (q_a (q_v 0) ag)) ag)))) ag)))))))
   (b_c (aW (t_w (df (aG xf (aM dZ (q_v 0) af) af) (cU (aG xf (q_v 1) af)))) (b_1 (aF (aE (q_a (aj dj (cQ (q_a am (q_a am (q_a am (q_a am ag))))) (aM nQ (aM dZ (q_v 0) af) af)) (q_a (aM fO af (aM dZ (aM iZ (q_v 0) af) (aM nQ (q_v 1) af))) ag))))) b_0)
   (b_1 (aF (aj dj (q_v 4) (aM dZ (aM dZ (q_v 0) af) af))))))),?_⟩
 try rw[cxK]
 have i0:=YI (n / 9) (show many≠0 by omega);have i1:=YA (n / 9) (show(0:Int)<many by omega);refine⟨_,rfl,_,_,rfl,rfl,⟨by decide,by decide⟩,_,rfl,_,_,rfl,rfl,(by show(0:Int)<many;omega),_,_,rfl,rfl,sz rfl,fun it git=>?_⟩;dsimp only;generalize hik:1+n / 9%many=ik at i0 i1 ⊢;have v1:=ad git (.tup [.int 0,.int ik]);have zi:upd H it (.tup [.int 0,.int ik]) it=some (.tup [.int 0,.int ik]):=ae;generalize upd H it (.tup [.int 0,.int ik])=B0 at v1 zi ⊢;have nmI:∀{H'},Same B0 H'->NameIs H' (.ref it) (nk (0,ik)):=fun s=>⟨it,rfl,s _ _ zi⟩
 have itm:∀m,some ((0,ik):Nm)=some m->∃k:Int,1<=k/\k<=many/\m=(0,k):=fun m hm=>⟨ik,by omega,by omega,(Zu hm).symm⟩
 refine⟨_,rfl,sz rfl,fun t1 g1=>?_⟩;have y1:=ad g1 (.tup [.str "take",.ref it]);have x1:upd B0 t1 (.tup [.str "take",.ref it]) t1=_:=ae;generalize upd B0 t1 (.tup [.str "take",.ref it])=B1 at y1 x1 ⊢;refine⟨_,rfl,sz rfl,fun t2 g2=>?_⟩;have y2:=ad g2 (.tup [.str "take",.ref it]);have x2:upd B1 t2 (.tup [.str "take",.ref it]) t2=_:=ae;generalize upd B1 t2 (.tup [.str "take",.ref it])=B2 at y2 x2 ⊢;refine⟨_,rfl,sz rfl,fun t3 g3=>?_⟩;have y3:=ad g3 (.tup [.str "back",.ref it]);have x3:upd B2 t3 (.tup [.str "back",.ref it]) t3=_:=ae;generalize upd B2 t3 (.tup [.str "back",.ref it])=B3 at y3 x3 ⊢;refine⟨_,rfl,_,rfl,_,_,rfl,rfl,⟨by decide,by decide⟩,_,_,rfl,rfl,(by show(0:Int)<2;decide),rfl,sz rfl,fun t4 g4=>?_⟩;dsimp only;generalize decide (V.int (n / 64%2)=V.int 0)=tb;have y4:=ad g4 (.tup [.str "mark",.ref it,.bl tb]);have x4:upd B3 t4 (.tup [.str "mark",.ref it,.bl tb]) t4=_:=ae;generalize upd B3 t4 (.tup [.str "mark",.ref it,.bl tb])=B4 at y4 x4 ⊢;have big:n.natAbs<10^4300:=ZB (show n.natAbs<10^10 by omega) (Nat.pow_le_pow_right (by decide) (by decide));refine⟨_,rfl,_,rfl,n,rfl,big,sz rfl,fun t5 g5=>?_⟩;clear big;have y5:=ad g5 (.tup [.str "write",.ref it,.str (jH n)]);have x5:upd B4 t5 (.tup [.str "write",.ref it,.str (jH n)]) t5=_:=ae;generalize upd B4 t5 (.tup [.str "write",.ref it,.str (jH n)])=B5 at y5 x5 ⊢;refine⟨sz rfl,fun k1 gk1=>?_⟩;have y6:=ad gk1 (.lst [.ref t1,.ref t2,.ref t3,.ref t4,.ref t5]);have x6:upd B5 k1 (.lst [.ref t1,.ref t2,.ref t3,.ref t4,.ref t5]) k1=_:=ae;generalize upd B5 k1 (.lst [.ref t1,.ref t2,.ref t3,.ref t4,.ref t5])=B6 at y6 x6 ⊢;have w5:=y5.trans y6;have w4:=y4.trans w5;have w3:=y3.trans w4;have w2:=y2.trans w3;have w1:=y1.trans w2;have G6:∀v∈[V.ref t1,.ref t2,.ref t3,.ref t4,.ref t5],GW8 B6 many v:=fun v hv=>by
  simp only[Zl,ZC,Z6]at hv;rcases hv with rfl|rfl|rfl|rfl|rfl
  ·exact⟨t1,.take (0,ik),rfl,⟨_,w2 _ _ x1,.ref it,rfl,nmI w1⟩,trivial,rfl,itm⟩
  ·exact⟨t2,.take (0,ik),rfl,⟨_,w3 _ _ x2,.ref it,rfl,nmI w1⟩,trivial,rfl,itm⟩
  ·exact⟨t3,.back (0,ik),rfl,⟨_,w4 _ _ x3,.ref it,rfl,nmI w1⟩,trivial,rfl,itm⟩
  ·exact⟨t4,.mark (0,ik) tb,rfl,⟨_,w5 _ _ x4,.ref it,rfl,nmI w1⟩,trivial,rfl,itm⟩
  ·exact⟨t5,.write (0,ik) (jH n),rfl,⟨_,y6 _ _ x5,.ref it,rfl,nmI w1⟩,Gp n0 (by omega),rfl,itm⟩
 have S6:=v1.trans w1;clear y1 y2 y3 y4 y5 y6 x1 x2 x3 x4 x5 w1 w2 w3 w4 w5 g1 g2 g3 g4 g5 gk1;have r0:=YI n (show(9:Int)≠0 by decide);have r1:=YA n (show(0:Int)<9 by decide);have fin:∀v,atI [V.ref t1,.ref t2,.ref t3,.ref t4,.ref t5] (n%9%5)=some v->Q v B6:=fun v hv=>by have k0:=YI (n%9) (show(5:Int)≠0 by decide);have k1:=YA (n%9) (show(0:Int)<5 by decide);obtain⟨v',e1,e2⟩:=BT (xs:=[V.ref t1,.ref t2,.ref t3,.ref t4,.ref t5]) k0 (by show n%9%5<5;omega);rw[e1]at hv;cases hv;exact q _ _ S6 (G6 _ (Yo e2))
 obtain⟨fv,hfv⟩:∃v,atI [V.ref t1,.ref t2,.ref t3,.ref t4,.ref t5] (n%9%5)=some v:=by have k0:=YI (n%9) (show(5:Int)≠0 by decide);have k1:=YA (n%9) (show(0:Int)<5 by decide);obtain⟨v',e1,_⟩:=BT (xs:=[V.ref t1,.ref t2,.ref t3,.ref t4,.ref t5]) k0 (by show n%9%5<5;omega);exact⟨v',e1⟩
 refine⟨_,rfl,_,_,rfl,rfl,(by show(0:Int)<9;decide),_,_,rfl,rfl,_,rfl,gh (fun c1=>?_) (fun c1=>?_)⟩
 ·refine⟨_,rfl,_,_,rfl,rfl,_,rfl,gh (fun c2=>?_) (fun c2=>?_)⟩
  ·have c1':n%9>4:=c1;have c2':nr>1:=c2;obtain⟨b,hb⟩:∃b:Bool,atI [V.str "off",.str "off",.str "on",.str "on"] (n%9-5)=some (.str (if b=true then"on" else"off")):=by
    rcases(show n%9-5=0\/n%9-5=1\/n%9-5=2\/n%9-5=3 by omega)with z|z|z|z
    ·rw[z];exact⟨false,at0⟩
    ·rw[z];exact⟨false,at1⟩
    ·rw[z];exact⟨true,at2⟩
    ·rw[z];exact⟨true,rfl⟩
   refine⟨sz rfl,fun l3 g3=>?_⟩;have y1:=ad g3 (.lst [.str "off",.str "off",.str "on",.str "on"]);refine⟨_,rfl,_,_,rfl,rfl,(by show(0:Int)<9;decide),_,_,rfl,rfl,l3,_,_,_,rfl,rfl,SqL.of ae,hb,?_⟩;refine⟨_,rfl,_,_,rfl,rfl,⟨by decide,by decide⟩,_,rfl,_,_,rfl,rfl,_,_,rfl,rfl,(by show(0:Int)<nr-1;omega),_,_,rfl,rfl,sz rfl,fun t gt=>?_⟩;have y2:=ad gt (.tup [.str (if b=true then"on" else"off"),.int (1+n / 9%(nr-1))]);have up:upd (upd B6 l3 (.lst [V.str "off",.str "off",.str "on",.str "on"])) t (.tup [.str (if b=true then"on" else"off"),.int (1+n / 9%(nr-1))]) t=some (.tup [.str (if b=true then"on" else"off"),.int (1+n / 9%(nr-1))]):=ae;cases b with
   |false=>exact q _ _ (S6.trans (y1.trans y2)) ⟨t,.off (1+n / 9%(nr-1)),rfl,⟨[.int (1+n / 9%(nr-1))],up,rfl⟩,trivial,rfl,fun m hm=>nomatch hm⟩
   |true=>exact q _ _ (S6.trans (y1.trans y2)) ⟨t,.on (1+n / 9%(nr-1)),rfl,⟨[.int (1+n / 9%(nr-1))],up,rfl⟩,trivial,rfl,fun m hm=>nomatch hm⟩
  ·exact⟨_,rfl,_,rfl,_,_,rfl,rfl,(by show(0:Int)<9;decide),_,_,rfl,rfl,(by show(0:Int)<5;decide),k1,_,_,_,rfl,rfl,SqL.of x6,hfv,fin _ hfv⟩
 ·exact⟨_,rfl,_,rfl,_,_,rfl,rfl,(by show(0:Int)<9;decide),_,_,rfl,rfl,(by show(0:Int)<5;decide),k1,_,_,_,rfl,rfl,SqL.of x6,hfv,fin _ hfv⟩
def vK:Sp:=fun vs H Q _=>∃(l:Addr) (cs:List Int) (h m:Int),vs=[.ref l,.int h,.int m]/\H l=some (.lst (cs.map V.int))/\cs.length<=61/\2<=h/\h<=4/\1<=m/\m<=5/\∀p H' L,Same H H'->LR3 H' p L->S38 (L.map Prod.snd) h.toNat->L.length=m.toNat+cs.length->Q (.ref p) H'
theorem vF(n:Nat):(List.replicate n [V.int 0]).flatten=(List.replicate n (0:Int)).map V.int:=tK n
abbrev pM:Stmt:=top 47
abbrev CG:List Str:=["_law_cells","_law_hands","_law_many","_law_clocks","_law_deeds_here","_law_k","_law_cell","_law_mixed","_law_hand","_law_other","_law_what_here"]
theorem cP:FnScope CG ["_law_cells","_law_hands","_law_many"] (al pM):=⟨rfl,rfl,rfl,by decide +kernel,rfl,by decide +kernel,by decide +kernel⟩
theorem AX{f:Addr}{fd:FuncData}(F:Fun K "_law_deeds" "_law_deeds" pM f fd)(F_order:Fn P w K mg base 1 "_law_order" ["_law_deed"] pZ)(F_what:Fn P w K mg base 1 "_law_what" ["_law_n","_law_number","_law_many"] vS)(z_enumerate:mg "enumerate" = none)(z_range:mg "range" = none)(z_max:mg "max" = none)(z_tuple:mg "tuple" = none)(z_sorted:mg "sorted" = none) :
  FnOk P w K mg base CX0 4 f fd ["_law_cells","_law_hands","_law_many"] vK:=by
 refine F.okQ cP (fun vs H Q E h=>?_) (fun cdv A outer s H vs Q E hr h=>?_)
 ·obtain⟨l,cs,h,m,rfl,_⟩:=h;rfl
 obtain⟨l,cs,h,m,rfl,hl,hlen,h2,h4,m1,m4,q⟩:=h;refine⟨_,(b_c (aH (i:=3) cP.nd (fU (own:=["_law_k"]) (⟨rfl,by decide +kernel,by decide +kernel,rfl,⟨rfl,rfl,⟨rfl,rfl,trivial⟩⟩⟩:CompOk _ _ [2,1] ["_law_many","_law_hands"]) rfl (sH z_range (q_a (q_v 1) ag)) (fun _ _ _ _=>aI (i:=0) (show (["_law_k","_law_many","_law_hands"]:List Str).Nodup by decide +kernel)) (bf (by decide)) (fun _ _ _ _=>sI) (fun _ _ _ _=>(aM Cc (cQ (q_a (q_v 1) ag)) (aM Hj (cQ (q_a af ag)) (aM nQ (q_v 2) af))))))
   (b_c (aH (i:=4) cP.nd (cQ ag))
   (b_c (dC Yc rfl (sH z_range (q_a (q_v 2) ag)) (aI (i:=5) cP.nd) (b_1 (bP (gJ (q_v 4) (aE (q_a af (q_a (aM fS (aE (q_a (aM fO (q_v 5) af) ag)) (aM E9 (aE (q_a af ag)) (aM nQ (q_v 1) af))) (q_a (aE (q_a am (q_a bU (q_a (aE (q_a (q_v 5) ag)) (q_a am ag))))) ag))))))))
   (b_c (dC Yc rfl (yl z_enumerate (q_a (q_v 0) ag)) (kW rfl (cD (aI (i:=5) cP.nd) (cD (aI (i:=6) cP.nd) iN))) (b_c (aH (i:=7) cP.nd (aM dZ (aM fO (aM lj (q_v 6) af) (aM lj (aM lj (q_v 5) (q_v 5)) af)) af))
   (b_c (aH (i:=8) cP.nd (aM dZ (q_v 7) (q_v 1)))
   (b_c (aH (i:=9) cP.nd (aM dZ (aM iZ (q_v 7) (q_v 1)) (aM lj af (q_v 1))))
   (b_c (kG (aW (aG E7 (q_v 9) (q_v 1)) (b_1 (Cn (fU (own:=["_law_j"]) (⟨rfl,by decide +kernel,by decide +kernel,rfl,⟨rfl,rfl,⟨rfl,rfl,⟨rfl,rfl,trivial⟩⟩⟩⟩:CompOk _ _ [3,8,9] ["_law_clocks","_law_hand","_law_other"]) rfl (sH z_range (q_a (q_v 1) ag)) (fun _ _ _ _=>aI (i:=0) (show (["_law_j","_law_clocks","_law_hand","_law_other"]:List Str).Nodup by decide +kernel)) (bf (by decide)) (fun _ _ _ _=>sI) (fun _ _ _ _=>(q_B (GV rfl) z_max Ah (q_a (aj (lT (K:=K) rfl) (aj (lT (K:=K) rfl) (q_v 1) (q_v 2)) (q_v 0)) (q_a (aj (lT (K:=K) rfl) (aj (lT (K:=K) rfl) (q_v 1) (q_v 3)) (q_v 0)) ag))))) (BW (q_v 3) (q_v 8) Cq))) b_0))
   (b_c (Cn (aM fO (aj dj (aj dj (q_v 3) (q_v 8)) (q_v 8)) af) (BW (aj dj (q_v 3) (q_v 8)) (q_v 8) Cq))
   (b_c (aH (i:=10) cP.nd (aB F_what (hr.mono (by decide)) (q_a (aM iZ (q_v 7) (aM lj (aM lj af (q_v 1)) (q_v 1))) (q_a (aj dj (aj dj (q_v 3) (q_v 8)) (q_v 8)) (q_a (q_v 2) ag)))))
   (b_1 (bP (gJ (q_v 4) (aE (q_a (q_v 8) (q_a (pJ GW z_tuple wB (q_a (aj dj (q_v 3) (q_v 8)) ag)) (q_a (q_v 10) ag))))))))))))))
   (b_1 (aF (Bp rfl z_sorted F_order (hr.mono (by decide)) (q_a (q_v 4) ag)))))))),?_⟩
 try rw[cxK]
 obtain⟨n,hn⟩:∃n:Nat,n=h.toNat:=⟨_,rfl⟩
 obtain⟨mn,hmn⟩:∃n:Nat,n=m.toNat:=⟨_,rfl⟩
 have hn':(n:Int)=h:=by omega
 have hm':(mn:Int)=m:=by omega
 have hh1:(h-1).toNat=n-1:=by omega
 rw[<-hn,<-hmn]at q;refine aC fun R0 hR0=>?_;refine⟨_,rfl,_,rfl,by omega,by omega,?_⟩;refine Ao (N:=n) (fun i ys H'=>Same H H'/\∃as:List Addr,ys=as.map V.ref/\as.length=i/\as.Nodup/\∀b∈as,H b=none/\H' b=some (.lst (((mn:Int)::List.replicate (n-1) (0:Int)).map V.int))) (by omega) (fun i ys H' ⟨_,as,e,la,_⟩=>by rw[e,Zf,la]) ⟨Same.refl H,[],rfl,rfl,.nil,fun b hb=>absurd hb (by simp)⟩ (fun i ys H' hi _=>?_) (fun ys H' _=>?_) (fun i ys H1 x H2 hi ⟨sm,as,e,la,nd,ha⟩ y A kA=>?_) (fun ys cA H1 ⟨sm,as,e,la,nd,ha⟩ gA'=>?_)
 ·show i<h.toNat;omega
 ·show h.toNat<=n;omega
 ·obtain⟨rfl,rfl⟩:=y;refine⟨_,rfl,sz rfl,fun pm gm=>?_⟩;have v1:=ad gm (.lst [V.int m]);have em:upd H2 pm (.lst [V.int m]) pm=some (.lst [V.int m]):=ae;generalize upd H2 pm (.lst [V.int m])=G1 at v1 em ⊢;refine⟨sz rfl,fun pz gz=>⟨_,rfl,_,_,rfl,rfl,pz,h-1,_,rfl,rfl,ae,by omega,by omega,?_,fun pr gr=>?_⟩⟩
  ·exact fj (by rw[Yf];omega)
  have v2:=v1.trans (ad gz (.lst [V.int 0]));have em2:=ad gz (.lst [V.int 0]) _ _ em;generalize upd G1 pz (.lst [V.int 0])=G2 at v2 em2 gr ⊢;have v3:=v2.trans (ad gr (.lst (List.replicate (h-1).toNat [V.int 0]).flatten));have em3:=ad gr (.lst (List.replicate (h-1).toNat [V.int 0]).flatten) _ _ em2;have er3:upd G2 pr (.lst (List.replicate (h-1).toNat [V.int 0]).flatten) pr=some (.lst (List.replicate (h-1).toNat [V.int 0]).flatten):=ae;rw[hh1,vF]at er3 v3 em3 ⊢;generalize upd G2 pr (.lst ((List.replicate (n-1) (0:Int)).map V.int))=G3 at v3 em3 er3 ⊢;refine⟨pm,pr,_,_,rfl,rfl,em3,er3,fj (by rw[Zf,Ye];show 1+(n-1)<=1000;omega),fun pc gpc=>kA _ _ ?_⟩;have ec:([V.int m]++(List.replicate (n-1) (0:Int)).map V.int)=((mn:Int)::List.replicate (n-1) (0:Int)).map V.int:=by rw[hm'];rfl
  rw[ec];have w2:=v3.trans (ad gpc (.lst (((mn:Int)::List.replicate (n-1) (0:Int)).map V.int)));have fr:H pc=none:=(sm.trans v3).free gpc;refine⟨sm.trans w2,as++[pc],by rw[e,ZO];rfl,by rw[Zk,la];rfl,?_,fun b hb=>?_⟩
  ·refine List.nodup_append.mpr ⟨nd,by simp,fun b hb c hc=>?_⟩;rw[Zs.mp hc];intro z;have:=v3 _ _ (ha b hb).2;rw[z,gpc]at this;cases this
  ·rcases ZF.mp hb with hb|hb
   ·exact⟨(ha b hb).1,w2 _ _ (ha b hb).2⟩
   ·rw[Zs.mp hb];exact⟨fr,ae⟩
 ·subst e;have w1:=ad gA' (.lst (as.map V.ref));have fA:H cA=none:=sm.free gA';have ck:CK (upd H1 cA (.lst (as.map V.ref))) cA n as (List.replicate n ((mn:Int)::List.replicate (n - 1) (0:Int))):=⟨ae,la,nd,fun g hg=>by
   have:clk (List.replicate n ((mn:Int)::List.replicate (n-1) (0:Int))) g=(mn:Int)::List.replicate (n-1) 0:=by unfold clk;rw[YY,if_pos (by omega)];rfl
   rw[this];exact w1 _ _ (ha _ (Zy hg)).2⟩
  have S1:=sm.trans w1;have fas:∀b∈as,H b=none:=fun b hb=>(ha b hb).1;generalize upd H1 cA (.lst (as.map V.ref))=H2 at ck S1 ⊢;refine hR0 _ _ ?_;clear hR0 R0;refine aC fun R0 hR0=>?_;refine⟨sz rfl,fun p gp=>?_⟩;have w2:=ad gp (.lst []);have fp:H p=none:=S1.free gp;have ncp:cA≠p:=fun z=>by have:=ck.1;rw[z,gp]at this;cases this
  have ck2:=ck.same w2;have ep2:upd H2 p (.lst []) p=some (.lst []):=ae;have S2:=S1.trans w2;have npas:∀b∈as,b≠p:=fun b hb z=>by obtain⟨i,hi,rfl⟩:=ZP.mp hb;have:=ck.2.2.2 i hi;rw[z,gp]at this;cases this
  generalize upd H2 p (.lst [])=H3 at ck2 ep2 S2 ⊢;clear w1 w2 gp ck S1 sm ha gA';refine hR0 _ _ ?_;clear hR0 R0;refine aC fun R0 hR0=>?_;refine⟨_,rfl,_,rfl,by omega,by omega,?_⟩;refine wI (lo:=0) (fun k σ H'=>Same H H'/\(∃o5,σ=[some (.ref l),some (.int h),some (.int m),some (.ref cA),some (.ref p),o5,none,none,none,none,none])/\CK H' cA n as (List.replicate n ((mn:Int)::List.replicate (n-1) (0:Int)))/\∃L,LR3 H' p L/\L.map Prod.snd=(List.range k).map (gj n))
   ⟨S2,⟨none,rfl⟩,ck2,[],⟨ep2,fun x hx=>absurd hx (by simp)⟩,rfl⟩ ?_ ?_
  ·rintro k σ H4 hk0 ⟨S4,⟨o5,rfl⟩,ck4,L,lr,eL⟩ D0 hD0;have lL:L.length=k:=by have:=ZW List.length eL;rw[Zf,Zf,List.length_range]at this;exact this
   have hk:k<mn:=by rw[hmn];exact hk0
   refine⟨_,rfl,.inl ⟨rfl,_,SqL.of lr.1⟩,_,rfl,_,_,rfl,rfl,sz rfl,fun t1 g1=>?_⟩;have y1:=ad g1 (.tup [V.int (0+(k:Int)+1)]);have z1:upd H4 t1 (.tup [V.int (0+(k:Int)+1)]) t1=some (.tup [V.int (0+(k:Int)+1)]):=ae;generalize upd H4 t1 (.tup [V.int (0+(k:Int)+1)])=A1 at y1 z1 ⊢;refine⟨sz rfl,fun t2 g2=>?_⟩;have y2:=y1.trans (ad g2 (.tup [V.int 0]));have z1':=ad g2 (.tup [V.int 0]) _ _ z1;have z2:upd A1 t2 (.tup [V.int 0]) t2=some (.tup [V.int 0]):=ae;generalize upd A1 t2 (.tup [V.int 0])=A2 at y2 z1' z2 ⊢;refine⟨_,rfl,_,_,rfl,rfl,t2,h-1,_,rfl,rfl,z2,by omega,by omega,by simp,by rw[Yf];exact fj (by omega),fun t3 A3 s3 e3=>?_⟩;rw[hh1,vF]at e3;refine⟨t1,t3,_,_,rfl,rfl,s3 _ _ z1',e3,fj (by rw[Zf,Ye];show 1+(n-1)<=1000;omega),fun t4 A4 s4 e4=>?_⟩;have ec:([V.int (0+(k:Int)+1)]++(List.replicate (n-1) (0:Int)).map V.int)=(gj n k).2.1.map V.int:=by rw[Int.zero_add];rfl
   rw[ec]at e4;have y4:=y2.trans (s3.trans s4);refine⟨_,rfl,sz rfl,fun t5 g5=>?_⟩;have y5:=y4.trans (ad g5 (.tup [V.int (0+(k:Int))]));have e4':=ad g5 (.tup [V.int (0+(k:Int))]) _ _ e4;have z5:upd A4 t5 (.tup [V.int (0+(k:Int))]) t5=some (.tup [V.int (0+(k:Int))]):=ae;generalize upd A4 t5 (.tup [V.int (0+(k:Int))])=A5 at y5 e4' z5 ⊢;refine⟨sz rfl,fun t6 g6=>?_⟩;have y6:=y5.trans (ad g6 (.tup [.str "put",.non,.ref t5,.str "item"]));have e4'':=ad g6 (.tup [.str "put",.non,.ref t5,.str "item"]) _ _ e4';have z5':=ad g6 (.tup [.str "put",.non,.ref t5,.str "item"]) _ _ z5;have z6:upd A5 t6 (.tup [.str "put",.non,.ref t5,.str "item"]) t6=some (.tup [.str "put",.non,.ref t5,.str "item"]):=ae;generalize upd A5 t6 (.tup [.str "put",.non,.ref t5,.str "item"])=A6 at y6 e4'' z5' z6 ⊢;refine⟨sz rfl,fun t7 g7=>?_⟩;have s7:=ad g7 (.tup [.int 0,.ref t4,.ref t6]);have y7:=y6.trans s7;have z7:upd A6 t7 (.tup [.int 0,.ref t4,.ref t6]) t7=some (.tup [.int 0,.ref t4,.ref t6]):=ae;have dd:DA (upd A6 t7 (.tup [.int 0,.ref t4,.ref t6])) t7 (gj n k):=⟨t4,t6,z7,s7 _ _ e4'',⟨[.non,.ref t5,.str "item"],s7 _ _ z6,.non,.ref t5,rfl,rfl,t5,rfl,by rw[Int.zero_add]at z5';exact s7 _ _ z5'⟩,by show 0<(((k:Int)+1)::List.replicate (n-1) (0:Int)).length;simp,by show(((k:Int)+1)::List.replicate (n-1) (0:Int)).length<=8;rw[Zm,Ye];omega⟩
   generalize upd A6 t7 (.tup [.int 0,.ref t4,.ref t6])=A7 at y7 dd ⊢;have lr7:=lr.same y7;have ck7:=ck4.same y7;refine⟨p,_,_,rfl,rfl,lr7.1,aO (by rw[aD];omega),?_⟩;have tA:TS A7 (upd A7 p (.lst (ax L++[.ref t7]))):=iH fun zs e'=>by rw[lr7.1]at e';cases e'
   refine hD0 _ _ ⟨bO (S4.trans y7) fp,⟨_,rfl⟩,⟨by rw[ah ncp];exact ck7.1,ck7.2.1,ck7.2.2.1,fun g hg=>by rw[ah (npas _ (Zy hg))];exact ck7.2.2.2 g hg⟩,L++[(t7,gj n k)],⟨?_,fun x hx=>?_⟩,?_⟩
   ·rw[ae];unfold ax;rw[ZO];rfl
   ·rcases ZF.mp hx with hx|hx
    ·exact(lr7.2 x hx).ts tA
    ·rw[Zs.mp hx];exact dd.ts tA
   ·rw[ZO,eL,List.range_succ,ZO];rfl
  rintro σ H4 ⟨S4,⟨o5,rfl⟩,ck4,L0,lr4,eL0⟩;have emn:m.toNat=mn:=by omega
  rw[emn]at eL0;have gen0:Gen38 n mn (List.replicate n ((mn:Int)::List.replicate (n-1) (0:Int))) (L0.map Prod.snd):=by rw[eL0];exact Gen38.start (by omega)
  have lL0:L0.length=mn:=by have:=ZW List.length eL0;rw[Zf,Zf,List.length_range]at this;exact this
  clear ck2 ep2 S2 eL0;refine hR0 _ _ ?_;clear hR0 R0;refine aC fun R0 hR0=>?_;refine⟨_,rfl,l,_,rfl,S4 _ _ hl,?_⟩;refine qv (i:=5) (j:=6) (fun k σ H'=>Same H H'/\(∃o5 o6 o7 o8 o9 o10,σ=[some (.ref l),some (.int h),some (.int m),some (.ref cA),some (.ref p),o5,o6,o7,o8,o9,o10])/\∃as cl L,CK H' cA n as cl/\LR3 H' p L/\Gen38 n mn cl (L.map Prod.snd)/\L.length=mn+k/\(∀b∈as,H b=none)/\∀b∈as,b≠p)
   ⟨S4,⟨_,_,_,_,_,_,rfl⟩,as,_,L0,ck4,lr4,gen0,lL0,fas,npas⟩ (fun i σ H' _ ⟨sm,_⟩=>SqL.of (sm _ _ hl)) ?_ ?_
  ·rintro k x σ H5 hx ⟨S5,⟨o5,o6,o7,o8,o9,o10,eσ⟩,as,cl,L,ck,lr,gen,lL,fas,npas⟩ DE hDE T hT;subst eσ;obtain⟨rfl,hk⟩:=AE hx;have sT:=ad hT (.tup [.int (k:Int),.int (aq cs k)]);refine aC fun R hR=>?_;refine⟨_,rfl,_,_,rfl,rfl,.inr ⟨by decide,by decide⟩,_,rfl,_,rfl,_,_,rfl,rfl,.inl ⟨by omega,by omega⟩,_,_,rfl,rfl,.inr ⟨by decide,by decide⟩,_,_,rfl,rfl,_,_,rfl,rfl,(by show(0:Int)<2147483647;decide),hR _ _ ?_⟩;clear hR R;have z0:=YI (aq cs k*48271+(k:Int)*(k:Int)*69621) (show(2147483647:Int)≠0 by decide);have z9:=YA (aq cs k*48271+(k:Int)*(k:Int)*69621) (show(0:Int)<2147483647 by decide);dsimp only;generalize(aq cs k*48271+(k:Int)*(k:Int)*69621)%2147483647=mz at z0 z9 ⊢;refine aC fun R hR=>?_;refine⟨_,rfl,_,rfl,_,_,rfl,rfl,(by show(0:Int)<h;omega),hR _ _ ?_⟩;clear hR R;have d0:=YI mz (show h≠0 by omega);have d1:=YA mz (show(0:Int)<h by omega);dsimp only;generalize mz%h=hd at d0 d1 ⊢;obtain⟨hN,rfl⟩:∃hN:Nat,hd=(hN:Int):=⟨hd.toNat,by omega⟩
   have hNn:hN<n:=by omega
   refine aC fun R hR=>?_;refine⟨_,rfl,_,rfl,_,_,rfl,rfl,⟨by omega,by omega⟩,_,rfl,_,_,rfl,rfl,.inl ⟨by decide,by decide⟩,_,_,rfl,rfl,(by show(0:Int)<2*h;omega),hR _ _ ?_⟩;clear hR R;have b0:=YI (mz / h) (show 2*h≠0 by omega);dsimp only;generalize mz / h%(2*h)=ot at b0 ⊢;have S6:=S5.trans sT;have ck6:=ck.same sT;have lr6:=lr.same sT;generalize upd H5 T (.tup [.int (k:Int),.int (aq cs k)])=H6 at S6 ck6 lr6 ⊢;clear ck lr sT hT S5;refine aC fun R hR=>?_;refine gZ (fun σ' H7=>Same H H7/\σ'=[some (.ref l),some (.int h),some (.int m),some (.ref cA),some (.ref p),some (.int (k:Int)),some (.int (aq cs k)),some (.int mz),some (.int (hN:Int)),some (.int ot),o10]/\∃as cl,CK H7 cA n as cl/\LR3 H7 p L/\Gen38 n mn cl (L.map Prod.snd)/\(∀b∈as,H b=none)/\∀b∈as,b≠p) ?_ ?_
   ·intro RJ hRJ;refine⟨_,rfl,_,rfl,_,_,rfl,rfl,_,rfl,gh (fun hc=>?_) fun hc=>?_⟩
    ·obtain⟨oN,rfl⟩:∃oN:Nat,ot=(oN:Int):=⟨ot.toNat,by omega⟩
     have oNn:oN<n:=by omega
     have ha:hN<as.length:=by rw[ck6.2.1];exact hNn
     have oa:oN<as.length:=by rw[ck6.2.1];exact oNn
     refine⟨_,rfl,_,rfl,by omega,by omega,wG (N:=h.toNat) (lo:=0) (fun j=>.int (if aq (clk cl oN) (0+(j:Int)).toNat>aq (clk cl hN) (0+(j:Int)).toNat then aq (clk cl oN) (0+(j:Int)).toNat else aq (clk cl hN) (0+(j:Int)).toNat)) (by omega) (fun j H7 hj s7 R kR=>?_) (fun p1 H7 s7 g7=>?_)⟩
     ·have ck7:=ck6.same s7;have l1:((0+(j:Int)):Int)<((clk cl hN).length:Int):=by rw[gen.cc hN hNn];omega
      have l2:((0+(j:Int)):Int)<((clk cl oN).length:Int):=by rw[gen.cc oN oNn];omega
      exact⟨_,rfl,_,rfl,cA,_,_,_,rfl,rfl,SqL.of ck7.1,kP ha,_,rfl,as[hN],_,_,_,rfl,rfl,SqL.of (ck7.2.2.2 hN ha),gS (by omega) l1,_,rfl,_,rfl,cA,_,_,_,rfl,rfl,SqL.of ck7.1,kP oa,_,rfl,as[oN],_,_,_,rfl,rfl,SqL.of (ck7.2.2.2 oN oa),gS (by omega) l2,_,_,rfl,kR H7 (Same.refl H7)⟩
     ·have em:((List.range h.toNat).map fun(j:Nat)=>V.int (if aq (clk cl oN) (0+(j:Int)).toNat>aq (clk cl hN) (0+(j:Int)).toNat then aq (clk cl oN) (0+(j:Int)).toNat else aq (clk cl hN) (0+(j:Int)).toNat))=(mx (clk cl hN) (clk cl oN) n).map V.int:=by unfold mx;rw[Yl,<-hn];apply List.map_congr_left;intro j _;show V.int _=V.int _;rw[show(0+(j:Int)).toNat=j by omega]
      rw[em];have gm:=gen.met hNn oNn;have lm:(mx (clk cl hN) (clk cl oN) n).length=n:=nO;generalize mx (clk cl hN) (clk cl oN) n=cm at gm lm ⊢;have w7:=s7.trans (ad g7 (.lst (cm.map V.int)));have ck8:=ck6.same w7;have lr8:=lr6.same w7;have S8:=S6.trans w7;have e8:upd H7 p1 (.lst (cm.map V.int)) p1=some (.lst (cm.map V.int)):=ae;have fp1:H p1=none:=(S6.trans s7).free g7;have np1:p1∉as:=fun hm=>by obtain⟨i,hi,rfl⟩:=ZP.mp hm;have:=s7 _ _ (ck6.2.2.2 i hi);rw[g7]at this;cases this
      have np1p:p1≠p:=fun z=>by have:=s7 _ _ lr6.1;rw[<-z,g7]at this;cases this
      generalize upd H7 p1 (.lst (cm.map V.int))=H8 at ck8 lr8 S8 e8 ⊢;have las:as.length=n:=ck6.2.1;have tA:TS H8 (upd H8 cA (.lst ((as.map V.ref).set hN (.ref p1)))):=iH fun zs e'=>by rw[ck8.1]at e';cases e'
      refine⟨_,rfl,_,rfl,cA,_,_,hN,rfl,rfl,ck8.1,?_,hRJ _ _ ⟨bO S8 fA,rfl,as.set hN p1,cl.set hN cm,⟨?_,?_,EX ck8.2.2.1 np1,fun g hg=>?_⟩,⟨?_,fun x hx=>?_⟩,gm,fun b hb=>?_,fun b hb=>?_⟩⟩
      ·unfold ixN;rw[Zf,if_pos (by omega),if_pos (by omega)];rfl
      ·rw[ae,List.map_set]
      ·rw[YG];exact las
      ·rw[YG]at hg;rw[List.getElem_set,bR (by rw[gen.cn];exact hNn)];by_cases c:hN=g
       ·rw[if_pos c,if_pos c.symm,ah (sQ e8 ck8.1 (fun z=>km (by omega) z.symm))];exact e8
       ·rw[if_neg c,if_neg (fun z=>c z.symm),ah (sQ (ck8.2.2.2 g hg) ck8.1 (fun z=>km (by rw[gen.cc g (by omega)];omega) z.symm))];exact ck8.2.2.2 g hg
      ·rw[ah ncp.symm];exact lr8.1
      ·exact(lr8.2 x hx).ts tA
      ·rcases List.mem_or_eq_of_mem_set hb with hb|rfl
       ·exact fas b hb
       ·exact fp1
      ·rcases List.mem_or_eq_of_mem_set hb with hb|rfl
       ·exact npas b hb
       ·exact np1p
    ·exact hRJ _ _ ⟨S6,rfl,as,cl,ck6,lr6,gen,fas,npas⟩
   ·rintro σ' H7 ⟨S7,rfl,as5,cl5,ck7,lr7,gen5,fas5,npas5⟩;refine hR _ _ ?_;clear hR R;have ha:hN<as5.length:=by rw[ck7.2.1];exact hNn
    clear ck6 lr6 gen S6 fas npas;have cN:=ck7.2.2.2 hN ha;have lc:=gen5.cc hN hNn;have fa:=fas5 _ (Zy ha);refine aC fun R hR=>?_;refine⟨_,rfl,_,rfl,cA,_,_,_,rfl,rfl,SqL.of ck7.1,kP ha,_,rfl,as5[hN],_,_,_,rfl,rfl,SqL.of cN,fB (by rw[lc];exact hNn),_,_,rfl,rfl,_,rfl,_,rfl,cA,_,_,_,rfl,rfl,SqL.of ck7.1,kP ha,_,rfl,as5[hN],_,_,hN,rfl,rfl,cN,?_,hR _ _ ?_⟩
    all_goals clear hR R
    ·unfold ixN;rw[Zf,lc,if_pos (by omega),if_pos (by omega)];rfl
    have ec:((clk cl5 hN).map V.int).set hN (.int (aq (clk cl5 hN) hN+1))=((clk cl5 hN).set hN (aq (clk cl5 hN) hN+1)).map V.int:=by rw[List.map_set]
    rw[ec];have npa:p≠as5[hN]:=fun z=>npas5 _ (Zy ha) z.symm;have nca:cA≠as5[hN]:=sQ ck7.1 cN (km (by rw[lc];omega));have S8:=bO (o:=.lst (((clk cl5 hN).set hN (aq (clk cl5 hN) hN+1)).map V.int)) S7 fa;have t7:TS H7 (upd H7 as5[hN] (.lst (((clk cl5 hN).set hN (aq (clk cl5 hN) hN+1)).map V.int))):=iH fun zs e'=>by rw[cN]at e';cases e'
    have lr8:LR3 (upd H7 as5[hN] (.lst (((clk cl5 hN).set hN (aq (clk cl5 hN) hN+1)).map V.int))) p L:=⟨by rw[ah npa];exact lr7.1,fun x hx=>(lr7.2 x hx).ts t7⟩
    have ck8:CK (upd H7 as5[hN] (.lst (((clk cl5 hN).set hN (aq (clk cl5 hN) hN+1)).map V.int))) cA n as5 (cl5.set hN ((clk cl5 hN).set hN (aq (clk cl5 hN) hN+1))):=by
     refine⟨by rw[ah nca];exact ck7.1,ck7.2.1,ck7.2.2.1,fun g hg=>?_⟩;rw[bR (by rw[gen5.cn];exact hNn)];by_cases c:g=hN
     ·subst c;rw[if_pos rfl,ae]
     ·rw[if_neg c,ah]
      ·exact ck7.2.2.2 g hg
      ·have nd:=ck7.2.2.1;rw[List.nodup_iff_pairwise_ne,ZH]at nd;rcases Z2 g hN with c1|c1
       ·exact nd g hN hg ha c1
       ·exact(nd hN g ha hg (by omega)).symm
    have ga:=fun(wd:Wd) hs hm hi=>gen5.add (wd:=wd) hNn hs hm hi;have lc':((clk cl5 hN).set hN (aq (clk cl5 hN) hN+1)).length=n:=by rw[YG,lc]
    have c8:upd H7 as5[hN] (.lst (((clk cl5 hN).set hN (aq (clk cl5 hN) hN+1)).map V.int)) as5[hN]=some (.lst (((clk cl5 hN).set hN (aq (clk cl5 hN) hN+1)).map V.int)):=ae;generalize upd H7 as5[hN] (.lst (((clk cl5 hN).set hN (aq (clk cl5 hN) hN+1)).map V.int))=H8 at S8 lr8 ck8 c8 ⊢;generalize(clk cl5 hN).set hN (aq (clk cl5 hN) hN+1)=nc at ck8 ga lc' c8;generalize cl5.set hN nc=cl6 at ck8 ga;clear ck7 lr7 t7 S7 cN ec npa nca;have hp:(0:Int)<2*h*h:=Int.mul_pos (by omega) (by omega);have hq:2*h*h<1073741824:=by have:2*h*h<=8*4:=Int.mul_le_mul (by omega) h4 (by omega) (by omega);omega
    have nN:=fB (ns:=nc) (k:=hN) (by omega);refine aC fun R hR=>?_;refine⟨_,rfl,_,rfl,_,_,rfl,rfl,.inl ⟨by decide,by decide⟩,_,rfl,_,_,rfl,rfl,.inl ⟨by omega,by omega⟩,_,_,rfl,rfl,⟨hp,hq⟩,_,rfl,_,rfl,cA,_,_,_,rfl,rfl,SqL.of ck8.1,kP ha,_,rfl,as5[hN],_,_,_,rfl,rfl,SqL.of c8,nN,_,rfl,_,_,m,rfl,Int.ediv_nonneg z0 (Int.le_of_lt hp),Int.le_trans (Int.ediv_le_self _ z0) (by omega),m1,fun rv C5 wt hr2=>hR _ _ ?_⟩;clear hR R;have S9:=S8.trans wt;have lr9:=lr8.same wt;have ck9:=ck8.same wt;have c9:=wt _ _ c8;clear S8 lr8 ck8 c8 nN;refine⟨_,rfl,.inl ⟨rfl,_,SqL.of lr9.1⟩,_,rfl,_,rfl,_,rfl,cA,_,_,_,rfl,rfl,SqL.of ck9.1,kP ha,as5[hN],_,rfl,.inl ⟨SqL.of c9,fun q5 f5=>?_⟩⟩;have v5:=ad f5 (.tup (nc.map V.int));have e5:upd C5 q5 (.tup (nc.map V.int)) q5=some (.tup (nc.map V.int)):=ae;generalize upd C5 q5 (.tup (nc.map V.int))=D1 at v5 e5 ⊢;obtain⟨wa,wd,rfl,hwh',hsm,hmk,hit⟩:=hr2.same v5;refine⟨_,rfl,sz rfl,fun q6 f6=>?_⟩;have s6:=ad f6 (.tup [.int (hN:Int),.ref q5,.ref wa]);have w6:=v5.trans s6;have lrA:=lr9.same w6;have ckA:=ck9.same w6;have SA:=S9.trans w6;have dd:DA (upd D1 q6 (.tup [.int (hN:Int),.ref q5,.ref wa])) q6 (hN,nc,wd):=⟨q5,wa,ae,s6 _ _ e5,hwh'.ts (Same.ts s6),by show hN<nc.length;omega,by show nc.length<=8;omega⟩
    generalize upd D1 q6 (.tup [.int (hN:Int),.ref q5,.ref wa])=HA at lrA ckA SA dd ⊢;refine⟨p,_,_,rfl,rfl,lrA.1,aO (by rw[aD];omega),?_⟩;have tA:TS HA (upd HA p (.lst (ax L++[.ref q6]))):=iH fun zs e'=>by rw[lrA.1]at e';cases e'
    refine hDE _ _ ⟨bO SA fp,⟨_,_,_,_,_,_,rfl⟩,as5,cl6,L++[(q6,hN,nc,wd)],⟨by rw[ah ncp];exact ckA.1,ckA.2.1,ckA.2.2.1,fun g hg=>by rw[ah (npas5 _ (Zy hg))];exact ckA.2.2.2 g hg⟩,⟨?_,fun x hx=>?_⟩,?_,by rw[Zk,lL];rfl,fas5,npas5⟩
    ·rw[ae];unfold ax;rw[ZO];rfl
    ·rcases ZF.mp hx with hx|hx
     ·exact(lrA.2 x hx).ts tA
     ·rw[Zs.mp hx];exact dd.ts tA
    ·rw[ZO];exact ga wd hsm hmk fun m' hm'=>by obtain⟨k',a1,a2,a3⟩:=hit m' hm';exact⟨k',a1,by omega,a3⟩
  ·rintro σ H5 ⟨S5,⟨o5,o6,o7,o8,o9,o10,eσ⟩,as,cl,L,ck,lr,gen,lL,fas,npas⟩;subst eσ;rw[Zf]at lL;refine hR0 _ _ ?_;clear hR0 R0;refine⟨_,rfl,p,ax L,L.map (fun x=>ZKey.t [x.2.2.1.sum,(x.2.1:Int)]),rfl,.inl lr.1,by rw[aD];omega,by rw[aD,Zf],.inr fun k hk=>?_,fun i v key H' hv hkey s' R hR=>?_,fun pm H6 D pok hls s6 _ gD=>?_⟩
   ·obtain⟨x,_,rfl⟩:=ZE.mp hk;exact⟨_,rfl,by simp⟩
   ·obtain⟨hi,rfl⟩:=bx hv;rw[ZA,Zd hi]at hkey;cases hkey;exact⟨_,_,rfl,(lr.2 _ (Zy hi)).ts (Same.ts s'),fun a H'' s'' e=>hR (.ref a) H'' s'' ⟨a,rfl,e⟩⟩
   ·rw[aD]at pok hls;obtain⟨pe,ee⟩:=Du pok;have so:=BE pok hls;rw[ee];generalize(pm.toList.map fun i=>L.getD i (0,0,[],.none))=M at pe so ee ⊢;have wD:=ad gD (.lst (ax M));have sx:=s6.trans wD;have lM:M.length=mn+cs.length:=by rw[pe.length_eq,lL]
    exact q D _ M (S5.trans sx) ⟨ae,fun x hx=>(lr.2 x (pe.mem_iff.mp hx)).ts (Same.ts sx)⟩ (EI gen pe so (by omega)) lM
def jk:Sp:=fun vs H Q _=>∃(a:Addr) (d:D3),vs=[.ref a]/\DA H a d/\∀t H',Same H H'->H' t=some (.tup ((nk (nm3 d)).map kV))->Q (.ref t) H'
abbrev tN:Stmt:=top 45
abbrev Ek:List Str:=["_law_deed"]
theorem DS:FnScope Ek ["_law_deed"] (al tN):=⟨rfl,rfl,rfl,by decide +kernel,rfl,by decide +kernel,by decide +kernel⟩
theorem Db{f:Addr}{fd:FuncData}(F:Fun K "_law_name" "_law_name" tN f fd):FnOk P w K mg base CX0 1 f fd ["_law_deed"] jk:=by
 refine F.okQ DS (fun vs H Q E h=>?_) (fun cdv A outer s H vs Q E hr h=>?_)
 ·obtain⟨a,d,rfl,_⟩:=h;rfl
 obtain⟨a,d,rfl,⟨c,wa,e1,e2,e3,e4,e5⟩,q⟩:=h;refine⟨_,(b_1 (aF (aE (q_a (aj ai (q_v 0) af) (q_a (aj ai (aj ai (q_v 0) af) (aj ai (q_v 0) af)) ag))))),?_⟩
 try rw[cxK]
 refine(vix rfl (SqT.of e1) at0 (vix rfl (SqT.of e1) at1 (vix rfl (SqT.of e1) at0 ⟨c,_,_,_,rfl,rfl,SqT.of e2,fB e4,sz rfl,fun p g=>?_⟩)));exact q p _ (ad g _) ae
def mS:Sp:=fun vs H Q _=>∃(a b:Addr) (d e:D3),vs=[.ref a,.ref b]/\DA H a d/\DA H b e/\d.2.1.length=e.2.1.length/\∀H',Same H H'->Q (.bl (aA d (nm3 e))) H'
abbrev pN:Stmt:=top 48
abbrev CH:List Str:=["_law_one","_law_other"]
theorem By:FnScope CH ["_law_one","_law_other"] (al pN):=⟨rfl,rfl,rfl,by decide +kernel,rfl,by decide +kernel,by decide +kernel⟩
theorem AY{f:Addr}{fd:FuncData}(F:Fun K "_law_heard" "_law_heard" pN f fd)(F_name:Fn P w K mg base 1 "_law_name" ["_law_deed"] jk):FnOk P w K mg base CX0 2 f fd ["_law_one","_law_other"] mS:=by
 refine F.okQ By (fun vs H Q E h=>?_) (fun cdv A outer s H vs Q E hr h=>?_)
 ·obtain⟨a,b,d,e,rfl,_⟩:=h;rfl
 obtain⟨a,b,d,e,rfl,hd,he,hl,q⟩:=h;obtain⟨c,wa,d1,d2,d3,d4,d5⟩:=id hd;obtain⟨c',wb,e1,e2,e3,e4,e5⟩:=id he;refine⟨_,(b_1 (aF (gI (eE E6 (aj ai (aj ai (q_v 0) af) (aj ai (q_v 1) af)) (aj ai (aj ai (q_v 1) af) (aj ai (q_v 1) af))) (jP (eE (ja hr.units) (aB F_name (hr.mono (by decide)) (q_a (q_v 0) ag)) (aB F_name (hr.mono (by decide)) (q_a (q_v 1) ag))))))),?_⟩
 try rw[cxK]
 refine(vix rfl (SqT.of d1) at1 (vix rfl (SqT.of e1) at0 ⟨c,_,_,_,rfl,rfl,SqT.of d2,fB (by omega),vix rfl (SqT.of e1) at1 (vix rfl (SqT.of e1) at0 ⟨c',_,_,_,rfl,rfl,SqT.of e2,fB e4,_,_,rfl,rfl,_,rfl,gh (fun c1=>?_) (fun c1=>?_)⟩)⟩))
 ·refine⟨_,rfl,a,d,rfl,hd,fun t1 H1 s1 x1=>⟨_,rfl,b,e,rfl,he.ts (Same.ts s1),fun t2 H2 s2 x2=>⟨t1,t2,[(nm3 d).1,(nm3 d).2],[(nm3 e).1,(nm3 e).2],rfl,rfl,s2 _ _ x1,x2,?_⟩⟩⟩;have:=q H2 (s1.trans s2);unfold aA kL at this;rw[decide_eq_true (show aq d.2.1 (nm3 e).1.toNat>=(nm3 e).2 from c1),Bool.and_true]at this;rw[show decide ([(nm3 d).1,(nm3 d).2]=[(nm3 e).1,(nm3 e).2])=decide (nm3 e=nm3 d)from decide_eq_decide.mpr ⟨fun z=>((dI _ _).mp z).symm,fun z=>(dI _ _).mpr z.symm⟩];exact this
 ·have:=q H (Same.refl _);unfold aA kL at this;rw[decide_eq_false (show¬aq d.2.1 (nm3 e).1.toNat>=(nm3 e).2 from c1),Ym]at this;exact this
def Gj:Sp:=fun vs H Q _=>∃(a b:Addr) (d e:D3) (m:Nm),vs=[.ref a,.ref b]/\DA H a d/\DA H b e/\d.2.1.length=e.2.1.length/\d.2.2=.take m/\K8 e.2.2/\∀H',Same H H'->Q (.bl (agB m d e)) H'
theorem EM(wd:Wd):inV (.str wd.word) [.str "back",.str "mark",.str "write"]=(match wd with|.back _=>true|.mark _ _=>true|.write _ _=>true|_=>false):=by cases wd<;>rfl
abbrev kD:Stmt:=top 50
abbrev xL:List Str:=["_law_one","_law_other"]
theorem xt:FnScope xL ["_law_one","_law_other"] (al kD):=⟨rfl,rfl,rfl,by decide +kernel,rfl,by decide +kernel,by decide +kernel⟩
theorem xh{f:Addr}{fd:FuncData}(F:Fun K "_law_against" "_law_against" kD f fd)(F_heard:Fn P w K mg base 2 "_law_heard" ["_law_one","_law_other"] mS):FnOk P w K mg base CX0 3 f fd ["_law_one","_law_other"] Gj:=by
 refine F.okQ xt (fun vs H Q E h=>?_) (fun cdv A outer s H vs Q E hr h=>?_)
 ·obtain⟨a,b,d,e,m,rfl,_⟩:=h;rfl
 obtain⟨a,b,d,e,m,rfl,hd,he,hl,hw,k8,q⟩:=h;obtain⟨c,wa,d1,d2,⟨rd,d3,d6⟩,d4,d5⟩:=id hd;obtain⟨c',wb,e1,e2,⟨re,e3,e6⟩,e4,e5⟩:=id he;refine⟨_,(b_c (aW (t_w (BP (aG (AT (K:=K) rfl) (aj ai (aj ai (q_v 1) af) af) (aE (q_a am (q_a am (q_a am ag))))) (CA (aG (ja hr.units) (aj ai (aj ai (q_v 1) af) af) (aj ai (aj ai (q_v 0) af) af))))) (b_1 (aF kz)) b_0)
   (b_c (aW (dD (aB F_heard (hr.mono (by decide)) (q_a (q_v 1) (q_a (q_v 0) ag)))) (b_1 (aF (eE bH (aj ai (aj ai (q_v 1) af) af) am))) b_0)
   (b_1 (aF (lG (aB F_heard (hr.mono (by decide)) (q_a (q_v 0) (q_a (q_v 1) ag)))))))),?_⟩
 try rw[cxK]
 rw[hw]at d3 d6;obtain⟨mv,rfl,hmv⟩:=d6;obtain⟨mb,rfl,hmb⟩:=hmv;refine(de rfl (SqT.of e1) at2 (SqT.of e3) at0 ⟨sz rfl,fun u gu=>?_⟩);have wu:=ad gu (.tup [.str "back",.str "mark",.str "write"]);refine⟨u,_,rfl,.inr (SqT.of ae),rfl,rfl,_,rfl,?_⟩;rw[if_pos rfl,EM];generalize upd H u (.tup [.str "back",.str "mark",.str "write"])=H1 at wu ⊢;have q1:∀H',Same H1 H'->Q (.bl (agB m d e)) H':=fun H' s=>q H' (wu.trans s);have E1:=SqT.of (K:=K) (wu _ _ e1);have E3:=SqT.of (K:=K) (wu _ _ e3);have D1:=SqT.of (K:=K) (wu _ _ d1);have D3:=SqT.of (K:=K) (wu _ _ d3);have hmb1:=wu _ _ hmb;have hd1:=hd.ts (Same.ts wu);have he1:=he.ts (Same.ts wu);have agE:agB m d e=(match e.2.2 with
  |.back x=>decide (x=m)&&(aA e (nm3 d) ||!aA d (nm3 e))
  |.mark x _=>decide (x=m)&&(!aA e (nm3 d)&&!aA d (nm3 e))
  |.write x _=>decide (x=m)&&(!aA e (nm3 d)&&!aA d (nm3 e))
  | _=>false):=rfl
 have kinds:(∃(x:Nm) (xb:Addr) (rr:List V),re=.ref xb::rr/\H xb=some (.tup ((nk x).map kV))/\(match e.2.2 with|.back _=>true|.mark _ _=>true|.write _ _=>true|_=>false)=true/\(x≠m->agB m d e=false)/\(x=m->aA e (nm3 d)=true->agB m d e=decide (V.str e.2.2.word=V.str "back"))/\(x=m->aA e (nm3 d)=false->agB m d e=!aA d (nm3 e)))\/((match e.2.2 with|.back _=>true|.mark _ _=>true|.write _ _=>true|_=>false)=false/\agB m d e=false):=by
  generalize hwd:e.2.2=wd at k8 e3 e6 agE ⊢;cases wd with
  |back x =>
   obtain⟨xv,rfl,xb,rfl,hx⟩:=e6;dsimp only at agE;refine .inl ⟨x,xb,[],rfl,hx,rfl,fun z=>?_,fun z h=>?_,fun z h=>?_⟩
   ·rw[agE,decide_eq_false z];rfl
   ·rw[agE,decide_eq_true z,h];rfl
   ·rw[agE,decide_eq_true z,h];rfl
  |mark x y =>
   obtain⟨xv,rfl,xb,rfl,hx⟩:=e6;dsimp only at agE;refine .inl ⟨x,xb,_,rfl,hx,rfl,fun z=>?_,fun z h=>?_,fun z h=>?_⟩
   ·rw[agE,decide_eq_false z];rfl
   ·rw[agE,decide_eq_true z,h];exact(decide_eq_false (by simp only[Wd.word,ne_eq];decide +kernel)).symm
   ·rw[agE,decide_eq_true z,h];rfl
  |write x y =>
   obtain⟨xv,rfl,xb,rfl,hx⟩:=e6;dsimp only at agE;refine .inl ⟨x,xb,_,rfl,hx,rfl,fun z=>?_,fun z h=>?_,fun z h=>?_⟩
   ·rw[agE,decide_eq_false z];rfl
   ·rw[agE,decide_eq_true z,h];exact(decide_eq_false (by simp only[Wd.word,ne_eq];decide +kernel)).symm
   ·rw[agE,decide_eq_true z,h];rfl
  |_=>exact .inr ⟨rfl,agE⟩
 rcases kinds with⟨x,xb,rr,rfl,hx,em,r1,r2,r3⟩|⟨em,eg⟩
 ·rw[em];refine aJ ?_;refine(vix rfl E1 at2 ⟨wb,_,_,_,rfl,rfl,E3,at1,vix rfl D1 at2 ⟨wa,_,_,_,rfl,rfl,D3,at1,xb,mb,[x.1,x.2],[m.1,m.2],rfl,rfl,wu _ _ hx,hmb1,_,rfl,?_⟩⟩);by_cases cx:x=m
  ·rw[decide_eq_true ((dI x m).mpr cx)];refine aJ ?_;refine⟨_,rfl,_,rfl,b,a,e,d,rfl,he1,hd1,hl.symm,fun H2 s2=>⟨_,rfl,?_⟩⟩;cases hh:aA e (nm3 d)with
   |true =>refine aR (de rfl (SqT.of (s2 _ _ (wu _ _ e1))) at2 (SqT.of (s2 _ _ (wu _ _ e3))) at0 ⟨rfl,?_⟩);rw[<-r2 cx hh];exact q1 H2 s2
   |false =>refine aJ ⟨_,rfl,_,rfl,a,b,d,e,rfl,hd1.ts (Same.ts s2),he1.ts (Same.ts s2),hl,fun H3 s3=>⟨_,rfl,?_⟩⟩;rw[<-r3 cx hh];exact q1 H3 (s2.trans s3)
  ·rw[decide_eq_false fun z=>cx ((dI x m).mp z)];refine aR ?_;rw[<-r1 cx];exact q1 H1 (Same.refl _)
 ·rw[em];refine aR ?_;rw[<-eg];exact q1 H1 (Same.refl _)
theorem vp{v u:V}{A B:Prop}(h:v≠u)(hA:A):if(!decide (v=u))=true then A else B:=by rw[decide_eq_false h];exact aR hA
theorem vo{v:V}{A B:Prop}(hB:B):if(!decide (v=v))=true then A else B:=by rw[decide_eq_true rfl];exact aJ hB
def Go:Sp:=fun vs H Q _=>∃(a b:Addr) (d e:D3),vs=[.ref a,.ref b]/\DA H a d/\DA H b e/\d.2.1.length=e.2.1.length/\dP d.2.2=true/\∀H',Same H H'->Q (.bl (ovB d e)) H'
theorem vy{H:Hp}{wd:Wd}{r:List V}(h:dP wd=true)(h6:RsAt H r wd):∃(x:Nm) (xb:Addr) (rr:List V),r=.ref xb::rr/\H xb=some (.tup ((nk x).map kV))/\cH wd=some x:=by
 cases wd with
 |mark x y =>obtain⟨xv,rfl,xb,rfl,hx⟩:=h6;exact⟨x,xb,_,rfl,hx,rfl⟩
 |write x y =>obtain⟨xv,rfl,xb,rfl,hx⟩:=h6;exact⟨x,xb,_,rfl,hx,rfl⟩
 |_=>cases h
abbrev tO:Stmt:=top 51
abbrev El:List Str:=["_law_one","_law_other"]
theorem DT:FnScope El ["_law_one","_law_other"] (al tO):=⟨rfl,rfl,rfl,by decide +kernel,rfl,by decide +kernel,by decide +kernel⟩
theorem Dc{f:Addr}{fd:FuncData}(F:Fun K "_law_over" "_law_over" tO f fd)(F_order:Fn P w K mg base 1 "_law_order" ["_law_deed"] pZ)(F_name:Fn P w K mg base 1 "_law_name" ["_law_deed"] jk)(F_heard:Fn P w K mg base 2 "_law_heard" ["_law_one","_law_other"] mS):FnOk P w K mg base CX0 3 f fd ["_law_one","_law_other"] Go:=by
 refine F.okQ DT (fun vs H Q E h=>?_) (fun cdv A outer s H vs Q E hr h=>?_)
 ·obtain⟨a,b,d,e,rfl,_⟩:=h;rfl
 obtain⟨a,b,d,e,rfl,hd,he,hl,hm,q⟩:=h;obtain⟨c,wa,d1,d2,⟨rd,d3,d6⟩,d4,d5⟩:=id hd;obtain⟨c',wb,e1,e2,⟨re,e3,e6⟩,e4,e5⟩:=id he;refine⟨_,(b_c (aW (t_w (BP (aG E8 (aj ai (aj ai (q_v 1) af) af) (aj ai (aj ai (q_v 0) af) af)) (BP (aG (ja hr.units) (aj ai (aj ai (q_v 1) af) af) (aj ai (aj ai (q_v 0) af) af)) (CA (aG (Hh (Nat.lt_of_le_of_lt (Nat.le_add_right _ _) hr.units)) (aB F_order (hr.mono (by decide)) (q_a (q_v 1) ag)) (aB F_order (hr.mono (by decide)) (q_a (q_v 0) ag))))))) (b_1 (aF kz)) b_0)
   (b_1 (aF (gI (eE (ja hr.units) (aB F_name (hr.mono (by decide)) (q_a (q_v 0) ag)) (aB F_name (hr.mono (by decide)) (q_a (q_v 1) ag))) (gI (lG (aB F_heard (hr.mono (by decide)) (q_a (q_v 0) (q_a (q_v 1) ag)))) (jP (lG (aB F_heard (hr.mono (by decide)) (q_a (q_v 1) (q_a (q_v 0) ag)))))))))),?_⟩
 try rw[cxK]
 have q1:∀(v:Bool) H',Same H H'->ovB d e=v->Q (.bl v) H':=fun v H' s z=>z▸q H' s;refine(de rfl (SqT.of e1) at2 (SqT.of e3) at0 (de rfl (SqT.of d1) at2 (SqT.of d3) at0 ⟨rfl,_,rfl,?_⟩));by_cases cw:¬e.2.2.word=d.2.2.word
 ·refine vp (fun z=>cw (V.str.inj z)) ?_;refine q1 _ H (Same.refl _) ?_;unfold ovB;rw[decide_eq_false cw,Ya,Ya]
 have cw:=Classical.not_not.mp cw;rw[cw];refine vo ?_;have hm2:dP e.2.2=true:=by
  have hv:∀wd:Wd,inV (.str wd.word) [.str "mark",.str "write"]=dP wd:=fun wd=>by cases wd<;>rfl
  rw[<-hv e.2.2,cw,hv d.2.2];exact hm
 obtain⟨x,xb,rr,rfl,hx,ix⟩:=vy hm2 e6;obtain⟨y,yb,ry,rfl,hy,iy⟩:=vy hm d6;refine(de rfl (SqT.of e1) at2 (SqT.of e3) at1 (de rfl (SqT.of d1) at2 (SqT.of d3) at1 ⟨xb,yb,[x.1,x.2],[y.1,y.2],rfl,rfl,hx,hy,_,rfl,?_⟩));by_cases cx:¬x=y
 ·rw[decide_eq_false fun z=>cx ((dI x y).mp z)];refine aR ?_;refine q1 _ H (Same.refl _) ?_;unfold ovB;rw[ix,iy,decide_eq_false (fun z:some x=some y=>cx (Zu z)),Ya,Ym,Ya]
 have cx:=Classical.not_not.mp cx;rw[decide_eq_true ((dI x y).mpr cx)];refine aJ ?_;refine⟨_,rfl,b,e,rfl,he,fun p1 H1 s1 x1=>⟨_,rfl,a,d,rfl,hd.ts (Same.ts s1),fun p2 H2 s2 x2=>⟨p1,p2,_,_,rfl,rfl,SqT.of (s2 _ _ x1),SqT.of x2,_,rfl,?_⟩⟩⟩;have s12:=s1.trans s2;have ov1:ovB d e=(!oLt e d&&(!decide (nm3 d=nm3 e)&&(!aA d (nm3 e)&&!aA e (nm3 d)))):=by unfold ovB;rw[ix,iy,cw,decide_eq_true rfl,decide_eq_true (ZW some cx),YX,YX]
 show if oLt e d=true then _ else _
 cases co:oLt e d with
 |true =>refine aR (q1 _ H2 s12 ?_);rw[ov1,co];rfl
 |false =>
  refine aJ ?_;rw[co,Bool.not_false,YX]at ov1;have hd2:=hd.ts (Same.ts s12);have he2:=he.ts (Same.ts s12);refine⟨_,rfl,a,d,rfl,hd2,fun t1 H3 s3 x3=>⟨_,rfl,b,e,rfl,he2.ts (Same.ts s3),fun t2 H4 s4 x4=>⟨t1,t2,[(nm3 d).1,(nm3 d).2],[(nm3 e).1,(nm3 e).2],rfl,rfl,s4 _ _ x3,x4,_,rfl,?_⟩⟩⟩;have s34:=s3.trans s4;rw[show decide ([(nm3 d).1,(nm3 d).2]=[(nm3 e).1,(nm3 e).2])=decide (nm3 d=nm3 e)from decide_eq_decide.mpr (dI _ _)];cases cn:decide (nm3 d=nm3 e)with
  |true =>rw[cn]at ov1;exact aJ (q1 _ H4 (s12.trans s34) ov1)
  |false =>
   rw[cn,Bool.not_false,YX]at ov1;refine aR ?_;have hd4:=hd2.ts (Same.ts s34);have he4:=he2.ts (Same.ts s34);refine⟨_,rfl,_,rfl,a,b,d,e,rfl,hd4,he4,hl,fun H5 s5=>⟨_,rfl,_,rfl,?_⟩⟩;cases c1:aA d (nm3 e)with
   |true =>rw[c1]at ov1;exact aJ (q1 _ H5 (s12.trans (s34.trans s5)) ov1)
   |false =>rw[c1,Bool.not_false,YX]at ov1;refine aR ?_;refine⟨_,rfl,_,rfl,b,a,e,d,rfl,he4.ts (Same.ts s5),hd4.ts (Same.ts s5),hl.symm,fun H6 s6=>⟨_,rfl,?_⟩⟩;rw[<-ov1];exact q H6 (s12.trans (s34.trans (s5.trans s6)))
abbrev DuV:=Str×Option Nm
def dv(ts:As Dd)(tn:List Nm)(d:D3):DuV:=(wK ts tn (toD d),if wK ts tn (toD d)="off" then(look ts (nm3 d)).map fun x=>x.1 else none)
def HV(H:Hp)(v:V)(p:DuV):Prop:=∃(t:Addr) (bv:V),v=.ref t/\H t=some (.tup [.str p.1,bv])/\UpAt H bv p.2
abbrev DuAt(H:Hp)(kvs:List (List Key×V))(du:As DuV):Prop:=Rws (HV H) kvs du
theorem DuAt.ts{H H':Hp}{kvs:List (List Key×V)}{du:As DuV}(x:DuAt H kvs du)(s:TS H H'):DuAt H' kvs du:=Paired.mapP x fun _ _ z=>by obtain⟨h0,t,bv,h1,h2,h3⟩:=z;exact⟨h0,t,bv,h1,s _ _ h2,h3.ts s⟩
abbrev HY(kvs:List (List Key×V))(tu:As Bool):Prop:=Rws (fun v (b:Bool)=>v=.bl b) kvs tu
def HW(H:Hp)(v:V)(d:Dd):Prop:=∃(t:Addr) (nv:V),v=.ref t/\H t=some (.tup [.str d.2.word,nv])/\NameIs H nv (nk d.1)
abbrev LaAt(H:Hp)(kvs:List (List Key×V))(ts:As Dd):Prop:=Rws (HW H) kvs ts
theorem LaAt.ts{H H':Hp}{kvs:List (List Key×V)}{ts:As Dd}(x:LaAt H kvs ts)(s:TS H H'):LaAt H' kvs ts:=Paired.mapP x fun _ _ z=>by obtain⟨h0,t,nv,h1,h2,h3⟩:=z;exact⟨h0,t,nv,h1,s _ _ h2,h3.ts' s⟩
theorem AC(wd:Wd):inV (.str wd.word) [.str "off",.str "on"]=wd.isTurn:=by cases wd<;>rfl
theorem qO{H:Hp}{wd:Wd}{r:List V}(h:wd.isTurn=true)(h6:RsAt H r wd):∃k:Int,r=[.int k]/\(wd=.off k\/wd=.on k):=by
 cases wd with
 |off k=>exact⟨k,h6,.inl rfl⟩
 |on k=>exact⟨k,h6,.inr rfl⟩
 |_=>cases h
theorem xG{ds:List Dd}{i:Nat}{d:Dd}(h:ds[i]?=some d):ao (ds.take (i+1))=cZ (ao (ds.take i)) d:=by unfold ao;rw[bt h,List.foldl_append];rfl
theorem yo{H:Hp}{wd:Wd}{r:List V}(k:K8 wd)(ht:wd.isTurn=false)(hp:wd.mk=false)(h6:RsAt H r wd):∃(x:Nm) (xb:Addr) (rr:List V),r=.ref xb::rr/\H xb=some (.tup ((nk x).map kV))/\cH wd=some x:=by
 cases wd with
 |mark x y =>obtain⟨xv,rfl,xb,rfl,hx⟩:=h6;exact⟨x,xb,_,rfl,hx,rfl⟩
 |write x y =>obtain⟨xv,rfl,xb,rfl,hx⟩:=h6;exact⟨x,xb,_,rfl,hx,rfl⟩
 |take x =>obtain⟨xv,rfl,xb,rfl,hx⟩:=h6;exact⟨x,xb,_,rfl,hx,rfl⟩
 |back x =>obtain⟨xv,rfl,xb,rfl,hx⟩:=h6;exact⟨x,xb,_,rfl,hx,rfl⟩
 |put u pl tx=>cases hp
 |off x=>cases ht
 |on x=>cases ht
 |_=>exact k.elim
theorem tJ{wd:Wd}:(V.str wd.word=V.str "put")↔(∃u pl tx,wd=.put u pl tx):=by
 constructor
 ·intro h;cases wd with
  |put u pl tx=>exact⟨u,pl,tx,rfl⟩
  |_=>exact absurd h (by simp only[Wd.word];decide +kernel)
 ·rintro⟨u,pl,tx,rfl⟩;rfl
def tZ:Sp:=fun vs H Q _=>∃(l:Addr) (L:L3) (n:Nat),vs=[.ref l]/\LR3 H l L/\S38 (L.map Prod.snd) n/\∀a kvs du H',Same H H'->H' a=some (.dT kvs)->DuAt H' kvs du->(∀x∈L,look du (nm3 x.2)=some (dv (ao (aw L)) (ay (aw L)) x.2))->Q (.ref a) H'
abbrev pR:Stmt:=top 49
abbrev CM:List Str:=["_law_deeds_here","_law_turners","_law_last","_law_deed","_law_due_here","_law_name_here"]
theorem eK:FnScope CM ["_law_deeds_here"] (al pR):=⟨rfl,rfl,rfl,by decide +kernel,rfl,by decide +kernel,by decide +kernel⟩
theorem A9{f:Addr}{fd:FuncData}(F:Fun K "_law_words" "_law_words" pR f fd)(F_name:Fn P w K mg base 1 "_law_name" ["_law_deed"] jk):FnOk P w K mg base CX0 2 f fd ["_law_deeds_here"] tZ:=by
 refine F.okQ eK (fun vs H Q E h=>?_) (fun cdv A outer s H vs Q E hr h=>?_)
 ·obtain⟨l,L,n,rfl,_⟩:=h;rfl
 obtain⟨l,L,n,rfl,⟨hl,hL⟩,s38,q⟩:=h;have ll:L.length<=100:=by have:=s38.len;rw[Zf]at this;exact this
 have gd:∀(i:Nat) (hi:i<L.length),(aw L)[i]?=some (toD L[i].2):=fun i hi=>by unfold aw;rw[ZA,Zd hi];rfl
 refine⟨_,(b_c (aH (i:=1) eK.nd jO)
   (b_c (aH (i:=2) eK.nd jO)
   (b_c (dC Yc rfl (bu (q_v 0)) (aI (i:=3) eK.nd) (b_1 (aW (aG (gH (K:=K) rfl) (aj ai (aj ai (q_v 3) af) af) (aE (q_a am (q_a am ag)))) (b_c (dU hr.units (q_v 1) (aB F_name (hr.mono (by decide)) (q_a (q_v 3) ag)) kz)
   (b_1 (dU hr.units (q_v 2) (aE (q_a (aj ai (q_v 3) af) (q_a (aj ai (aj ai (q_v 3) af) af) ag))) (aE (q_a (aj ai (aj ai (q_v 3) af) af) (q_a (aB F_name (hr.mono (by decide)) (q_a (q_v 3) ag)) ag)))))) b_0)))
   (b_c (aH (i:=4) eK.nd jO)
   (b_c (dC Yc rfl (bu (q_v 0)) (aI (i:=3) eK.nd) (b_c (aH (i:=5) eK.nd (aB F_name (hr.mono (by decide)) (q_a (q_v 3) ag)))
   (b_c (dU hr.units (q_v 4) (q_v 5) (aE (q_a am (q_a bU ag))))
   (b_1 (aW (ow hr.units (q_v 5) (q_v 1)) (b_1 (aW (ow hr.units (aE (q_a (aj ai (q_v 3) af) (q_a (aj ai (aj ai (q_v 3) af) af) ag))) (q_v 1)) (b_1 (dU hr.units (q_v 4) (q_v 5) (aE (q_a am (q_a bU ag))))) b_0)) (b_1 (aW (aG bH (aj ai (DO hr.units (q_v 2) (q_v 5) (aE (q_a am (q_a bU ag)))) af) am) (b_1 (dU hr.units (q_v 4) (q_v 5) (aE (q_a am (q_a (aj ai (di hr.units (q_v 2) (q_v 5)) af) ag))))) (b_1 (aW (t_w (df (aG E8 (aj ai (aj ai (q_v 3) af) af) am) (cU (aG bH (aj ai (di hr.units (q_v 4) (aj ai (aj ai (q_v 3) af) af)) af) am)))) (b_1 (dU hr.units (q_v 4) (q_v 5) (aE (q_a am (q_a bU ag))))) b_0)))))))))
   (b_1 (aF (q_v 4)))))))),?_⟩
 try rw[cxK]
 refine aC fun R0 hR0=>?_;intro td gtd;have wtd:=ad gtd (.dT []);have etd:upd H td (.dT []) td=some (.dT []):=ae;generalize upd H td (.dT [])=H1 at wtd etd ⊢;refine hR0 _ _ ?_;clear hR0 R0;refine aC fun R0 hR0=>?_;intro ld gld;have wld:=ad gld (.dT []);have eld:upd H1 ld (.dT []) ld=some (.dT []):=ae;have etd2:=wld _ _ etd;have S2:=wtd.trans wld;have ntl:td≠ld:=fun z=>by rw[<-z,etd]at gld;cases gld
 have gld0:H ld=none:=wtd.free gld;generalize upd H1 ld (.dT [])=H2 at wld eld etd2 S2 ⊢;clear wtd wld etd gld;refine hR0 _ _ ?_;clear hR0 R0;refine aC fun R0 hR0=>?_;refine⟨_,rfl,l,rfl,⟨_,SqL.of (S2 _ _ hl)⟩,?_⟩;refine fR (K:=K) (a:=l) (xs:=ax L) (fun i σ H'=>Same H H'/\∃(kt:List (List Key×V)) (tu:As Bool) (kl:List (List Key×V)) (o3:Option V),H' td=some (.dT kt)/\HY kt tu/\tu.length<=i/\(∀m,(look tu m).isSome=true↔m∈ay ((aw L).take i))/\H' ld=some (.dT kl)/\LaAt H' kl (ao ((aw L).take i))/\(ao ((aw L).take i)).length<=i/\σ=[some (.ref l),some (.ref td),some (.ref ld),o3,none,none])
  ⟨S2,[],[],[],none,etd2,.nil,Ze _,(fun m=>by rw[List.take_zero];exact⟨fun z=>(nomatch z),fun z=>(nomatch z)⟩),eld,.nil,Ze _,rfl⟩ (fun i σ H' _ z=>SqL.of (z.1 _ _ hl)) ?_ ?_
 ·rintro i v σ H' hv ⟨sm,kt,tu,kl,o3,e1,e2,e3,e4,e5,e6,e7,rfl⟩ DL hDL;obtain⟨hi,rfl⟩:=bx hv;have hx:=Zy hi;have hd:=(hL _ hx).ts (Same.ts sm);obtain⟨c,wa,d1,d2,⟨r,d3,d6⟩,d4,d5⟩:=id hd;have tt:=xG (gd i hi);have tnm:=jK (gd i hi);generalize hdd:L[i].2=d at hd d1 d2 d3 d4 d5 d6 tt tnm ⊢;refine(de rfl (SqT.of d1) at2 (SqT.of d3) at0 ⟨sz rfl,fun u gu=>?_⟩);have wu:=ad gu (.tup [.str "off",.str "on"]);refine⟨u,_,rfl,.inr (SqT.of ae),rfl,rfl,_,rfl,?_⟩;have ei:(if false=true then !inV (V.str d.2.2.word) [.str "off",.str "on"]else inV (V.str d.2.2.word) [.str "off",.str "on"])=d.2.2.isTurn:=AC _;rw[ei];generalize upd H' u (.tup [.str "off",.str "on"])=H3 at wu ⊢;have S3:=sm.trans wu;have ht2:(toD d).2.isTurn=d.2.2.isTurn:=rfl;cases ht:d.2.2.isTurn with
  |false =>
   rw[ht2,ht,if_neg (by simp),ZL]at tnm;have tt':ao ((aw L).take (i+1))=ao ((aw L).take i):=by rw[tt];unfold cZ;show(match d.2.2 with|.off k=>_|.on k=>_|_=>_)=_;generalize d.2.2=wd at ht;cases wd<;>first|rfl|cases ht
   refine aJ (hDL _ _ ⟨S3,kt,tu,kl,_,wu _ _ e1,e2,by omega,fun m=>by rw[tnm];exact e4 m,wu _ _ e5,by rw[tt'];exact LaAt.ts e6 (Same.ts wu),by rw[tt'];omega,rfl⟩)
  |true =>
   rw[ht2,ht,if_pos rfl]at tnm;obtain⟨k,rfl,hk⟩:=qO ht d6;have tt':ao ((aw L).take (i+1))=bo (ao ((aw L).take i)) ((d.1:Int),k) (toD d):=by rw[tt];obtain⟨h0,cs,wd⟩:=d;rcases hk with rfl|rfl<;>rfl
   refine aR ?_;have hd3:=hd.ts (Same.ts wu);refine aC fun R hR=>?_;refine⟨_,rfl,_,rfl,_,d,rfl,hd3,fun t1 H4 s4 x4=>⟨td,_,rfl,DPut.t (k:=nk (nm3 d)) (s4 _ _ (wu _ _ e1)) x4 (aO (by have:=dJ e2;omega)),?_⟩⟩;have S4:=S3.trans s4;have tA:TS H4 (upd H4 td (.dT (aK kt (nk (nm3 d)) (.bl true)))):=iG (s4 _ _ (wu _ _ e1));have S5:=bO (o:=.dT (aK kt (nk (nm3 d)) (.bl true))) S4 gtd;have e5':upd H4 td (.dT (aK kt (nk (nm3 d)) (.bl true))) ld=some (.dT kl):=by rw[ah ntl.symm];exact s4 _ _ (wu _ _ e5)
   have e1':upd H4 td (.dT (aK kt (nk (nm3 d)) (.bl true))) td=some (.dT (aK kt (nk (nm3 d)) (.bl true))):=ae;have t05:TS H' (upd H4 td (.dT (aK kt (nk (nm3 d)) (.bl true)))):=fun b zs e=>tA _ _ (s4 _ _ (wu _ _ e));generalize upd H4 td (.dT (aK kt (nk (nm3 d)) (.bl true)))=H5 at S5 e5' e1' t05 ⊢;refine hR _ _ ?_;clear hR R;have hd5:=hd.ts t05;refine(de rfl (SqT.of (t05 _ _ d1)) at2 (SqT.of (t05 _ _ d3)) at0 ⟨_,rfl,_,d,rfl,hd5,fun t2 H6 s6 x6=>⟨sz rfl,fun tv gtv=>?_⟩⟩);have wtv:=ad gtv (.tup [.str d.2.2.word,.ref t2]);have etv:upd H6 tv (.tup [.str d.2.2.word,.ref t2]) tv=some (.tup [.str d.2.2.word,.ref t2]):=ae;generalize upd H6 tv (.tup [.str d.2.2.word,.ref t2])=H7 at wtv etv ⊢;have s57:=s6.trans wtv;have t07:TS H' H7:=fun b zs e=>s57 _ _ (t05 _ _ e);refine⟨_,rfl,vix rfl (SqT.of (t07 _ _ d1)) at0 (de rfl (SqT.of (t07 _ _ d1)) at2 (SqT.of (t07 _ _ d3)) at1 ⟨sz rfl,fun kk gkk=>?_⟩)⟩;have wkk:=ad gkk (.tup [.int (d.1:Int),.int k]);have ekk:upd H7 kk (.tup [.int (d.1:Int),.int k]) kk=some (.tup [.int (d.1:Int),.int k]):=ae;generalize upd H7 kk (.tup [.int (d.1:Int),.int k])=H8 at wkk ekk ⊢;have s58:=s57.trans wkk;refine⟨ld,_,rfl,DPut.t (k:=nk ((d.1:Int),k)) (s58 _ _ e5') ekk (aO (by have:=dJ e6;omega)),?_⟩;have tB:TS H8 (upd H8 ld (.dT (aK kl (nk ((d.1:Int),k)) (.ref tv)))):=iG (s58 _ _ e5');have t09:TS H' (upd H8 ld (.dT (aK kl (nk ((d.1:Int),k)) (.ref tv)))):=fun b zs e=>tB _ _ (s58 _ _ (t05 _ _ e));refine hDL _ _ ⟨bO (S5.trans s58) gld0,aK kt (nk (nm3 d)) (.bl true),bo tu (nm3 d) true,aK kl (nk ((d.1:Int),k)) (.ref tv),_,by rw[ah ntl];exact s58 _ _ e1',dL e2 rfl,by have:=fH tu (nm3 d) true;omega,fun m=>?_,ae,?_,by rw[tt'];have:=fH (ao ((aw L).take i)) ((d.1:Int),k) (toD d);omega,rfl⟩
   ·rw[tnm,ZF,Zs,aZ];by_cases cm:m=nm3 d
    ·rw[if_pos cm];exact⟨fun _=>.inr cm,fun _=>rfl⟩
    ·rw[if_neg cm,e4 m];exact⟨.inl,fun z=>z.resolve_right cm⟩
   ·rw[tt'];exact dL (LaAt.ts e6 t09) (n:=((d.1:Int),k)) ⟨tv,.ref t2,rfl,tB _ _ (wkk _ _ etv),t2,rfl,tB _ _ (wkk _ _ (wtv _ _ x6))⟩
 rintro σ H3 ⟨sm,kt,tu,kl,o3,e1,e2,e3,e4,e5,e6,e7,rfl⟩;refine hR0 _ _ ?_;clear hR0 R0;have lt:(ax L).length=(aw L).length:=by rw[aD];exact(Zf ..).symm
 rw[lt,ZN]at e4 e6 e7;have hts:∀(j:Nat) (hj:j<L.length),nm3 L[j].2∈ay (aw L)↔L[j].2.2.2.isTurn=true:=fun j hj=>by
  unfold ay;rw[ZE];constructor
  ·rintro⟨dd,h1,h2⟩;obtain⟨h3,h4⟩:=Yb.mp h1;unfold aw at h3;obtain⟨x,hx,rfl⟩:=ZE.mp h3;have:x.2=L[j].2:=s38.inj (ZE.mpr ⟨x,hx,rfl⟩) (ZE.mpr ⟨L[j],Zy hj,rfl⟩) h2;rw[<-this];exact h4
  ·intro h;exact⟨toD L[j].2,Yb.mpr ⟨Yo (gd j hj),h⟩,rfl⟩
 generalize htsn:ao (aw L)=ts at e6 e7 q;generalize htnn:ay (aw L)=tn at e4 hts q;have S3:=sm;clear sm;refine aC fun R0 hR0=>?_;intro dd gdd;have wdd:=ad gdd (.dT []);have edd:upd H3 dd (.dT []) dd=some (.dT []):=ae;have gdd0:H dd=none:=S3.free gdd;have ndt:dd≠td:=fun z=>by rw[z,e1]at gdd;cases gdd
 have ndl:dd≠ld:=fun z=>by rw[z,e5]at gdd;cases gdd
 have e1':=wdd _ _ e1;have e5':=wdd _ _ e5;have e6':=LaAt.ts e6 (Same.ts wdd);have S4:=S3.trans wdd;generalize upd H3 dd (.dT [])=H4 at edd e1' e5' e6' S4 ⊢;clear wdd e1 e5 e6 S3 gdd;refine hR0 _ _ ?_;clear hR0 R0;refine aC fun R0 hR0=>?_;refine⟨_,rfl,l,rfl,⟨_,SqL.of (S4 _ _ hl)⟩,?_⟩;refine qw (K:=K) (a:=l) (xs:=ax L) (fun i σ H'=>Same H H'/\H' td=some (.dT kt)/\H' ld=some (.dT kl)/\LaAt H' kl ts/\∃(kd:List (List Key×V)) (du:As DuV) (o3 o5:Option V),H' dd=some (.dT kd)/\DuAt H' kd du/\du.length<=i/\(∀(j:Nat) (hj:j<L.length),look du (nm3 L[j].2)=if j<i then some (dv ts tn L[j].2)else none)/\σ=[some (.ref l),some (.ref td),some (.ref ld),o3,some (.ref dd),o5])
  ⟨S4,e1',e5',e6',[],[],_,none,edd,.nil,Ze _,fun j hj=>rfl,rfl⟩ (fun i σ H' _ z=>SqL.of (z.1 _ _ hl)) ?_ ?_
 ·clear e1' e5' e6' S4 edd;rintro i v σ H' hv ⟨sm,e1,e5,e6,kd,du,o3',o5,f1,f2,f3,f4,rfl⟩ DL hDL;obtain⟨hi,rfl⟩:=bx hv;have hx:=Zy hi;have hd:=(hL _ hx).ts (Same.ts sm);have hD:(L.map Prod.snd)[i]?=some L[i].2:=by rw[ZA,Zd hi];rfl
  have k8:=(s38.cl _ (Yo hD)).2;have ear:=s38.ear i _ hD;have htd:=hts i hi;have other:∀(j:Nat) (hj:j<L.length),j≠i->nm3 L[j].2≠nm3 L[i].2:=fun j hj hne=>by
   have p:=ZH.mp s38.uni;have g1:j<(L.map Prod.snd).length:=by rw[Zf];exact hj
   have g2:i<(L.map Prod.snd).length:=by rw[Zf];exact hi
   rcases Z2 j i with c|c
   ·have:=p j i g1 g2 c;rw[List.getElem_map,List.getElem_map]at this;exact this
   ·have:=p i j g2 g1 (by omega);rw[List.getElem_map,List.getElem_map]at this;exact this.symm
  have fin:∀ {H9:Hp} {kd9:List (List Key×V)} {du9:As DuV} {vd vn:V},Same H H9->H9 td=some (.dT kt)->H9 ld=some (.dT kl)->LaAt H9 kl ts->H9 dd=some (.dT kd9)->DuAt H9 kd9 du9->du9.length<=i+1->(∀ x,look du9 x=if x=nm3 L[i].2 then some (dv ts tn L[i].2) else look du x)->DL.nx [some (.ref l),some (.ref td),some (.ref ld),some vd,some (.ref dd),some vn] H9:=fun s9 g1 g2 g3 g4 g5 g6 g7=>hDL _ _ ⟨s9,g1,g2,g3,_,_,_,_,g4,g5,g6,(fun j hj=>by
   rw[g7];by_cases cj:j=i
   ·subst cj;rw[if_pos rfl,if_pos (by omega)]
   ·rw[if_neg (other j hj cj),f4 j hj];by_cases c1:j<i
    ·rw[if_pos c1,if_pos (by omega)]
    ·rw[if_neg c1,if_neg (by omega)]),rfl⟩
  obtain⟨c,wa,d1,d2,⟨r,d3,d6⟩,d4,d5⟩:=id hd;have hda:L[i].1=L[i].1:=rfl;generalize hdd:L[i].2=d at hd d1 d2 d3 d4 d5 d6 k8 ear htd fin other ⊢;refine aC fun R hR=>?_;refine⟨_,rfl,_,d,rfl,hd,fun n1 H1' s1 x1=>hR _ _ ?_⟩;clear hR R;refine aC fun R hR=>?_;refine⟨sz rfl,fun tv gtv=>?_⟩;have wtv:=ad gtv (.tup [.str "done",.non]);have etv:upd H1' tv (.tup [.str "done",.non]) tv=some (.tup [.str "done",.non]):=ae;generalize upd H1' tv (.tup [.str "done",.non])=H2' at wtv etv ⊢;have s02:=s1.trans wtv;refine⟨_,rfl,_,rfl,dd,_,rfl,DPut.t (k:=nk (nm3 d)) (s02 _ _ f1) (wtv _ _ x1) (aO (by have:=dJ f2;omega)),?_⟩;have tA:TS H2' (upd H2' dd (.dT (aK kd (nk (nm3 d)) (.ref tv)))):=iG (s02 _ _ f1);have t03:TS H' (upd H2' dd (.dT (aK kd (nk (nm3 d)) (.ref tv)))):=fun b zs e=>tA _ _ (s02 _ _ e);have S3:=bO (o:=.dT (aK kd (nk (nm3 d)) (.ref tv))) (sm.trans s02) gdd0;have g1:upd H2' dd (.dT (aK kd (nk (nm3 d)) (.ref tv))) td=some (.dT kt):=by rw[ah ndt.symm];exact s02 _ _ e1
  have g5:upd H2' dd (.dT (aK kd (nk (nm3 d)) (.ref tv))) ld=some (.dT kl):=by rw[ah ndl.symm];exact s02 _ _ e5
  have gf:upd H2' dd (.dT (aK kd (nk (nm3 d)) (.ref tv))) dd=some (.dT (aK kd (nk (nm3 d)) (.ref tv))):=ae;have f2':DuAt (upd H2' dd (.dT (aK kd (nk (nm3 d)) (.ref tv)))) (aK kd (nk (nm3 d)) (.ref tv)) (bo du (nm3 d) (("done":Str),none)):=dL (DuAt.ts f2 t03) ⟨tv,.non,rfl,tA _ _ etv,rfl⟩;have x3:=tA _ _ (wtv _ _ x1);generalize upd H2' dd (.dT (aK kd (nk (nm3 d)) (.ref tv)))=H3' at t03 S3 g1 g5 gf f2' x3 ⊢;refine hR _ _ ?_;clear hR R;have g6:=LaAt.ts e6 t03;have l3:=fH du (nm3 d) (("done":Str),none);have lk3:=dJ f2';have lkt:=dJ e2;clear tA wtv etv gtv s02 s1 x1;have tu1:(aS kt (nk (nm3 d))).isSome=d.2.2.isTurn:=by
   cases ht:d.2.2.isTurn with
   |true =>obtain⟨b,hb⟩:=ZY.mp ((e4 _).mpr (htd.mpr ht));obtain⟨v,h1,_⟩:=bq e2 hb;rw[h1];rfl
   |false =>
    have:look tu (nm3 d)=none:=by
     cases e:look tu (nm3 d)with
     |none=>rfl
     |some b =>have:=htd.mp ((e4 _).mp (by rw[e];rfl));rw[ht]at this;cases this
    rw[cV e2 this];rfl
  have again:∀{H5:Hp} {t5:Addr} {bv:V} {w5:Str} {b5:Option Nm} {vd vn:V},Same H3' H5->H5 t5=some (.tup [.str w5,bv])->UpAt H5 bv b5->dv ts tn d=(w5,b5)->DL.nx [some (.ref l),some (.ref td),some (.ref ld),some vd,some (.ref dd),some vn] (upd H5 dd (.dT (aK (aK kd (nk (nm3 d)) (.ref tv)) (nk (nm3 d)) (.ref t5)))):=fun{H5 t5 bv w5 b5 vd vn} s5 h5 hu ed=>by
   have tB:TS H5 (upd H5 dd (.dT (aK (aK kd (nk (nm3 d)) (.ref tv)) (nk (nm3 d)) (.ref t5)))):=iG (s5 _ _ gf);have t5':TS H3' (upd H5 dd (.dT (aK (aK kd (nk (nm3 d)) (.ref tv)) (nk (nm3 d)) (.ref t5)))):=fun b zs e=>tB _ _ (s5 _ _ e);refine fin (bO (S3.trans s5) gdd0) (by rw[ah ndt.symm];exact s5 _ _ g1) (by rw[ah ndl.symm];exact s5 _ _ g5) (LaAt.ts g6 t5') ae (dL (DuAt.ts f2' t5') (n:=nm3 d) (it:=(w5,b5)) ⟨t5,bv,rfl,tB _ _ h5,hu.ts tB⟩) ?_ fun x=>?_
   ·have h1:look (bo du (nm3 d) (("done":Str),none)) (nm3 d)=some (("done":Str),none):=by rw[aZ,if_pos rfl]
    rw[zo h1];omega
   ·rw[aZ,aZ,ed];by_cases cx:x=nm3 d
    ·rw[if_pos cx,if_pos cx]
    ·rw[if_neg cx,if_neg cx,if_neg cx]
  have once:∀{H5:Hp} {vd vn:V},Same H3' H5->dv ts tn d=(("done":Str),none)->DL.nx [some (.ref l),some (.ref td),some (.ref ld),some vd,some (.ref dd),some vn] H5:=fun{H5 vd vn} s5 ed=>by refine fin (S3.trans s5) (s5 _ _ g1) (s5 _ _ g5) (LaAt.ts g6 (Same.ts s5)) (s5 _ _ gf) (DuAt.ts f2' (Same.ts s5)) (by omega) fun x=>?_;rw[aZ,ed]
  refine⟨_,rfl,_,rfl,td,_,rfl,DGet.t (k:=nk (nm3 d)) g1 x3,_,rfl,?_⟩;rw[tu1];cases ht:d.2.2.isTurn with
  |true =>
   refine aR ?_;obtain⟨k,rfl,hk⟩:=qO ht d6;have etn:turned (toD d)=((d.1:Int),k):=by obtain⟨h0,cs,wd⟩:=d;rcases hk with rfl|rfl<;>rfl
   have eo:bg (toD d) ts=false:=AU ht;have ew:wK ts tn (toD d)=if((d.1:Int),k)∈tn then("turn":Str)else"done":=by unfold wK;rw[eo,if_neg (by simp),if_pos (show(toD d).2.isTurn=true from ht),etn]
   refine(vix rfl (SqT.of (t03 _ _ d1)) at0 (de rfl (SqT.of (t03 _ _ d1)) at2 (SqT.of (t03 _ _ d3)) at1 ⟨sz rfl,fun kk gkk=>?_⟩));have wkk:=ad gkk (.tup [.int (d.1:Int),.int k]);refine⟨_,rfl,td,_,rfl,DGet.t (k:=nk ((d.1:Int),k)) (wkk _ _ g1) ae,_,rfl,?_⟩;generalize upd H3' kk (.tup [.int (d.1:Int),.int k])=H4' at wkk ⊢;by_cases cm:((d.1:Int),k)∈tn
   ·obtain⟨b,hb⟩:=ZY.mp ((e4 _).mpr cm);obtain⟨v,h1,_⟩:=bq e2 hb;rw[h1];refine aR ⟨sz rfl,fun t5 g5'=>?_⟩;have w5:=ad g5' (.tup [.str "turn",.non]);have s35:=wkk.trans w5;refine⟨_,rfl,_,rfl,dd,_,rfl,DPut.t (k:=nk (nm3 d)) (s35 _ _ gf) (s35 _ _ x3) (aO (by omega)),?_⟩;refine again s35 ae (bv:=.non) (w5:="turn") (b5:=none) rfl ?_;unfold dv;rw[ew,if_pos cm,if_neg (by decide +kernel)]
   ·have hn:look tu ((d.1:Int),k)=none:=by
     cases e:look tu ((d.1:Int),k)with
     |none=>rfl
     |some b=>exact absurd ((e4 _).mp (by rw[e];rfl)) cm
    rw[cV e2 hn];refine aJ (once wkk ?_);unfold dv;rw[ew,if_neg cm,if_neg (by decide +kernel)]
  |false =>
   refine aJ ?_;have eo:bg (toD d) ts=bA (look ts (nm3 d)):=lA ht;refine⟨_,rfl,ld,rfl,.inr ⟨kl,.inl g5⟩,_,rfl,sz rfl,fun t0 g0=>?_⟩;have w0:=ad g0 (.tup [.str "on",.non]);have et0:upd H3' t0 (.tup [.str "on",.non]) t0=some (.tup [.str "on",.non]):=ae;generalize upd H3' t0 (.tup [.str "on",.non])=H4' at w0 et0 ⊢;have hget:∃(ov:Option V) (t1:Addr) (w1:Str) (v1:V),aS kl (nk (nm3 d))=ov/\ov.getD (.ref t0)=.ref t1/\H4' t1=some (.tup [.str w1,v1])/\(bA (look ts (nm3 d))=true->w1="off"/\∃dd0,look ts (nm3 d)=some dd0/\ov=some (.ref t1)/\NameIs H4' v1 (nk dd0.1))/\(bA (look ts (nm3 d))=false->V.str w1≠V.str "off"):=by
    cases el:look ts (nm3 d)with
    |none =>refine⟨none,t0,"on",.non,cV g6 el,rfl,et0,fun z=>?_,fun _=>by decide +kernel⟩;cases z
    |some dd0 =>
     obtain⟨v,h1,t1,nv,rfl,h2,h3⟩:=bq g6 el;refine⟨some (.ref t1),t1,dd0.2.word,nv,h1,rfl,w0 _ _ h2,fun z=>⟨?_,dd0,rfl,rfl,h3.ts' (Same.ts w0)⟩,fun z=>?_⟩
     ·obtain⟨m0,wd0⟩:=dd0;cases wd0<;>first|rfl|cases z
     ·obtain⟨m0,wd0⟩:=dd0;cases wd0<;>first|(simp only[Wd.word,ne_eq];decide +kernel)|cases z
   obtain⟨ov,t1,w1,v1,h1,h2,h3,h4,h5⟩:=hget;refine⟨ov,h1▸DGet.t (k:=nk (nm3 d)) (w0 _ _ g5) (w0 _ _ x3),?_⟩;rw[h2];refine⟨t1,_,_,_,rfl,rfl,SqT.of h3,at0,rfl,_,rfl,?_⟩;cases co:bA (look ts (nm3 d))with
   |true =>
    obtain⟨rfl,dd0,hl0,rfl,hn0⟩:=h4 co;have ew:wK ts tn (toD d)="off":=by unfold wK;rw[eo,co,if_pos rfl]
    refine gW ?_;refine⟨_,rfl,_,rfl,ld,.ref t1,rfl,h1▸DGet.t (k:=nk (nm3 d)) (w0 _ _ g5) (w0 _ _ x3),t1,_,_,_,rfl,rfl,SqT.of h3,at1,sz rfl,fun t5 g5'=>?_⟩;have w5:=ad g5' (.tup [.str "off",v1]);have s35:=w0.trans w5;refine⟨_,rfl,_,rfl,dd,_,rfl,DPut.t (k:=nk (nm3 d)) (s35 _ _ gf) (s35 _ _ x3) (aO (by omega)),?_⟩;refine again s35 ae (bv:=v1) (w5:="off") (b5:=some dd0.1) (hn0.ts' (Same.ts w5)) ?_;unfold dv;rw[ew,if_pos rfl,hl0];rfl
   |false =>
    refine bZ (h5 co) ?_;have d1':=w0 _ _ (t03 _ _ d1);have d3':=w0 _ _ (t03 _ _ d3);refine(de rfl (SqT.of d1') at2 (SqT.of d3') at0 ⟨rfl,_,rfl,?_⟩);have ew:∀o:Option Nm,cH d.2.2=o->wK ts tn (toD d)=(match o with|some m=>if bA (look ts m)=true then("none":Str)else"done" |none=>"done"):=fun o ho=>by
     unfold wK;rw[eo,co,if_neg (by simp),if_neg (show¬(toD d).2.isTurn=true by rw[show(toD d).2.isTurn=d.2.2.isTurn from rfl,ht];simp),show cH (toD d).2=o from ho]
     all_goals(cases o<;>rfl)
    by_cases cp:V.str d.2.2.word=V.str "put"
    ·obtain⟨u,pl,tx,hpw⟩:=tJ.mp cp;rw[cp];refine vo (once w0 ?_);have:=ew none (by rw[hpw];rfl);dsimp only at this;unfold dv;rw[this,if_neg (by decide +kernel)]
    ·refine vp cp ?_;have hmk:d.2.2.mk=false:=by
      cases hm:d.2.2.mk with
      |false=>rfl
      |true =>
       refine absurd (tJ.mpr ?_) cp;generalize d.2.2=wd at hm k8;cases wd with
       |put u pl tx=>exact⟨u,pl,tx,rfl⟩
       |_=>first|exact k8.elim|cases hm
     obtain⟨m,mb,rr,rfl,hmb,him⟩:=yo k8 ht hmk d6;have ew1:=ew (some m) him;obtain⟨j,e,hj,he,hmk2,hen⟩:=ear m him;have hjL:j<L.length:=by omega
     have hej:L[j].2=e:=by rw[ZA,Zd hjL]at he;exact Zu he
     have hne:m≠nm3 d:=by rw[<-hen,<-hej];exact other j hjL (by omega)
     have hlm:look (bo du (nm3 d) (("done":Str),none)) m=some (dv ts tn e):=by rw[aZ,if_neg hne,<-hen,<-hej,f4 j hjL,if_pos hj]
     obtain⟨vm,hm1,tm,bvm,rfl,hm2,hm3⟩:=bq f2' hlm;have emw:wK ts tn (toD e)=if bA (look ts m)=true then("off":Str)else"done":=by
      have h0:(toD e).2.isTurn=false:=pA hmk2;have e0:bg (toD e) ts=bA (look ts m):=by rw[lA h0,show(toD e).1=m from hen]
      have i0:cH (toD e).2=none:=by have hmk3:(toD e).2.mk=true:=hmk2;generalize(toD e).2=wd at hmk3;cases wd<;>first|rfl|cases hmk3
      unfold wK;rw[e0,i0,h0];cases bA (look ts m)<;>rfl
     have hm2':H3' tm=some (.tup [.str (if bA (look ts m)=true then("off":Str)else"done"),bvm]):=by rw[<-emw];exact hm2
     refine⟨_,rfl,de rfl (SqT.of d1') at2 (SqT.of d3') at1 ⟨dd,.ref tm,rfl,hm1▸DGet.t (k:=nk m) (w0 _ _ gf) (w0 _ _ (t03 _ _ hmb)),tm,_,_,_,rfl,rfl,SqT.of (w0 _ _ hm2'),at0,rfl,_,rfl,?_⟩⟩;cases cm:bA (look ts m)with
     |true =>
      rw[if_pos rfl];refine gW ⟨sz rfl,fun t5 g5'=>?_⟩;have w5:=ad g5' (.tup [.str "none",.non]);have s35:=w0.trans w5;refine⟨_,rfl,_,rfl,dd,_,rfl,DPut.t (k:=nk (nm3 d)) (s35 _ _ gf) (s35 _ _ x3) (aO (by omega)),?_⟩;refine again s35 ae (bv:=.non) (w5:="none") (b5:=none) rfl ?_;have ew2:wK ts tn (toD d)="none":=by rw[ew1];dsimp only;rw[cm,if_pos rfl]
      unfold dv;rw[ew2,if_neg (by decide +kernel)]
     |false =>
      refine bZ (show V.str (if false=true then("off":Str)else"done")≠V.str "off" by decide +kernel) (once w0 ?_);have ew2:wK ts tn (toD d)="done":=by rw[ew1];dsimp only;rw[cm,if_neg (by simp)]
      unfold dv;rw[ew2,if_neg (by decide +kernel)]
 ·rintro σ H' ⟨sm,e1,e5,e6,kd,du,o3',o5,f1,f2,f3,f4,rfl⟩;refine hR0 _ _ ?_;clear hR0 R0;refine⟨_,rfl,q dd kd du H' sm f1 f2 fun x hx=>?_⟩;obtain⟨j,hj,rfl⟩:=ZP.mp hx;rw[f4 j hj,aD,if_pos hj]
def ie(ts:As Dd)(tn:List Nm)(DN:List D3)(d:D3):Option (Str×Nm):=if wK ts tn (toD d) = "done" then (match fY d.2.2 with
  |some m=>(DN.find? (agB m d)).map fun e=>(("kept":Str),nm3 e)
  | none=>if dP d.2.2=true then (DN.find? (ovB d)).map fun e=>(("over":Str),nm3 e) else none)
 else none
def ii(ts:As Dd)(tn:List Nm)(DN:List D3)(d:D3):Option (Str×Nm):=if wK ts tn (toD d) = "done" then (match fY d.2.2 with
  |some m=>(DN.find? (agB m d)).map fun e=>(("kept":Str),nm3 e)
  | none=>none)
 else none
theorem uZ(ts:As Dd)(tn:List Nm)(DN:List D3)(d:D3):ge ts tn DN d=match ie ts tn DN d with
 |some p=>(nm3 d,p.1,some p.2)
 |none=>(nm3 d,(dv ts tn d).1,(dv ts tn d).2):=by
 unfold ge ie dv;by_cases c:wK ts tn (toD d)="done"
 ·rw[if_pos c,if_pos c];dsimp only;rw[c,if_neg (show¬("done":Str)="off" by decide +kernel)];cases fY d.2.2 with
  |some m =>dsimp only;cases DN.find? (agB m d)<;>rfl
  |none =>
   dsimp only;cases dP d.2.2 with
   |true =>rw[if_pos rfl,if_pos rfl];cases DN.find? (ovB d)<;>rfl
   |false=>rfl
 ·rw[if_neg c,if_neg c];dsimp only;by_cases co:wK ts tn (toD d)="off"
  ·rw[if_pos co,if_pos co,co]
  ·rw[if_neg co,if_neg co]
def Fst(H:Hp)(ss:List V):Option (Str×Nm)->Prop
 |none=>ss=[]
 |some p=>∃(t:Addr) (nv:V) (rest:List V),ss=.ref t::rest/\H t=some (.tup [.str p.1,nv])/\NameIs H nv (nk p.2)
theorem Fst.ts{H H':Hp}{ss:List V}{o:Option (Str×Nm)}(x:Fst H ss o)(s:TS H H'):Fst H' ss o:=by
 cases o with
 |none=>exact x
 |some p =>obtain⟨t,nv,rest,h1,h2,h3⟩:=x;exact⟨t,nv,rest,h1,s _ _ h2,h3.ts' s⟩
def TgAt(w0:Str)(H:Hp)(v:V)(e:D3):Prop:=∃(t:Addr) (nv:V),v=.ref t/\H t=some (.tup [.str w0,nv])/\NameIs H nv (nk (nm3 e))
theorem TgAt.ts{w0:Str}{H H':Hp}{v:V}{e:D3}(x:TgAt w0 H v e)(s:TS H H'):TgAt w0 H' v e:=by obtain⟨t,nv,h1,h2,h3⟩:=x;exact⟨t,nv,h1,s _ _ h2,h3.ts' s⟩
theorem yh{w0:Str}{H:Hp}{zs:List V}{D:List D3}{p:D3->Bool}(x:Paired (TgAt w0 H) zs (D.filter p)):Fst H zs ((D.find? p).map fun e=>(w0,nm3 e)):=by
 rw[<-List.head?_filter];generalize D.filter p=F at x;cases x with
 |nil=>rfl
 |cons h _ =>obtain⟨t,nv,rfl,h2,h3⟩:=h;exact⟨t,nv,_,rfl,h2,h3⟩
theorem qM{wd:Wd}:(V.str wd.word=V.str "take")↔(∃m,wd=.take m):=by
 constructor
 ·intro h;cases wd with
  |take m=>exact⟨m,rfl⟩
  |_=>exact absurd h (by simp only[Wd.word];decide +kernel)
 ·rintro⟨m,rfl⟩;rfl
theorem Hd(wd:Wd):inV (.str wd.word) [.str "mark",.str "write"]=dP wd:=by cases wd<;>rfl
theorem zI{wd:Wd}(h:¬∃m,wd=.take m):fY wd=none:=by
 cases wd with
 |take m=>exact absurd ⟨m,rfl⟩ h
 |_=>rfl
def zr:Sp:=fun vs H Q _=>∃(l:Addr) (L:L3) (n:Nat),vs=[.ref l]/\LR3 H l L/\S38 (L.map Prod.snd) n/\∀a ys H',Same H H'->H' a=some (.lst ys)->Paired (RpAt H') ys ((L.map Prod.snd).map (ge (ao (aw L)) (ay (aw L)) (aQ (ao (aw L)) (ay (aw L)) (L.map Prod.snd))))->Q (.ref a) H'
abbrev xr:Stmt:=top 52
abbrev GQ:List Str:=["_law_deeds_here","_law_words_here","_law_done","_law_due_here","_law_deed","_law_word","_law_some"]
theorem fg:FnScope GQ ["_law_deeds_here"] (al xr):=⟨rfl,rfl,rfl,by decide +kernel,rfl,by decide +kernel,by decide +kernel⟩
theorem Fb{f:Addr}{fd:FuncData}(F:Fun K "_law_due" "_law_due" xr f fd)(F_words:Fn P w K mg base 2 "_law_words" ["_law_deeds_here"] tZ)(F_name:Fn P w K mg base 1 "_law_name" ["_law_deed"] jk)(F_against:Fn P w K mg base 3 "_law_against" ["_law_one","_law_other"] Gj)(F_over:Fn P w K mg base 3 "_law_over" ["_law_one","_law_other"] Go):FnOk P w K mg base CX0 4 f fd ["_law_deeds_here"] zr:=by
 refine F.okQ fg (fun vs H Q E h=>?_) (fun cdv A outer s H vs Q E hr h=>?_)
 ·obtain⟨l,L,n,rfl,_⟩:=h;rfl
 obtain⟨l,L,n,rfl,lr,s38,q⟩:=h;have ll:L.length<=100:=by have:=s38.len;rw[Zf]at this;exact this
 refine⟨_,(b_c (aH (i:=1) fg.nd (aB F_words (hr.mono (by decide)) (q_a (q_v 0) ag)))
   (b_c (jg (j:=2) fg.nd (own:=["_law_deed"]) (⟨rfl,by decide +kernel,by decide +kernel,rfl,⟨rfl,rfl,trivial⟩⟩:CompOk _ _ [1] ["_law_words_here"]) rfl (bu (q_v 0)) (fun _ _ _ _=>aI (i:=0) (show (["_law_deed","_law_words_here"]:List Str).Nodup by decide +kernel)) (bf (by decide)) (fun _ _ _ _=>(jG (aG bH (aj (oB (K:=K) rfl) (di hr.units (q_v 1) (aB F_name (hr.mono (by decide)) (q_a (q_v 0) ag))) af) am))) (fun _ _ _ _=>(q_v 0)))
   (b_c (aH (i:=3) fg.nd (cQ ag))
   (b_c (dC Yc rfl (bu (q_v 0)) (aI (i:=4) fg.nd) (b_c (aH (i:=5) fg.nd (di hr.units (q_v 1) (aB F_name (hr.mono (by decide)) (q_a (q_v 4) ag))))
   (b_c (aH (i:=6) fg.nd (cQ ag))
   (b_c (kG (aW (t_w (df (aG bH (aj ai (q_v 5) af) am) (cU (aG bH (aj ai (aj ai (q_v 4) af) af) am)))) (b_1 (jg (j:=6) fg.nd (own:=["_law_other"]) (⟨rfl,by decide +kernel,by decide +kernel,rfl,⟨rfl,rfl,trivial⟩⟩:CompOk _ _ [4] ["_law_deed"]) rfl (bu (q_v 2)) (fun _ _ _ _=>aI (i:=0) (show (["_law_other","_law_deed"]:List Str).Nodup by decide +kernel)) (bf (by decide)) (fun _ _ _ _=>(jG (dD (aB F_against (hr.mono (by decide)) (q_a (q_v 1) (q_a (q_v 0) ag)))))) (fun _ _ _ _=>(aE (q_a am (q_a (aB F_name (hr.mono (by decide)) (q_a (q_v 0) ag)) ag)))))) b_0))
   (b_c (kG (aW (t_w (df (aG bH (aj ai (q_v 5) af) am) (cU (aG (gH (K:=K) rfl) (aj ai (aj ai (q_v 4) af) af) (aE (q_a am (q_a am ag))))))) (b_1 (jg (j:=6) fg.nd (own:=["_law_other"]) (⟨rfl,by decide +kernel,by decide +kernel,rfl,⟨rfl,rfl,trivial⟩⟩:CompOk _ _ [4] ["_law_deed"]) rfl (bu (q_v 2)) (fun _ _ _ _=>aI (i:=0) (show (["_law_other","_law_deed"]:List Str).Nodup by decide +kernel)) (bf (by decide)) (fun _ _ _ _=>(jG (dD (aB F_over (hr.mono (by decide)) (q_a (q_v 1) (q_a (q_v 0) ag)))))) (fun _ _ _ _=>(aE (q_a am (q_a (aB F_name (hr.mono (by decide)) (q_a (q_v 0) ag)) ag)))))) b_0))
   (b_1 (bP (gJ (q_v 3) (aM fS (aE (q_a (aB F_name (hr.mono (by decide)) (q_a (q_v 4) ag)) ag)) (aj dj (aM Cc (q_v 6) (cQ (q_a (q_v 5) ag))) af))))))))))
   (b_1 (aF (q_v 3))))))),?_⟩
 try rw[cxK]
 refine aC fun R0 hR0=>?_;refine⟨_,rfl,l,L,n,rfl,lr,s38,fun wd kvs du H1 s1 ewd hdu hlk=>hR0 _ _ ?_⟩;clear hR0 R0;generalize ao (aw L)=ts at hlk q;generalize ay (aw L)=tn at hlk q;have lr1:=lr.same s1;refine aC fun R0 hR0=>?_;refine⟨_,rfl,l,rfl,⟨_,SqL.of lr1.1⟩,?_⟩;refine bD (xs:=ax L) (fun i zs H'=>Same H1 H'/\zs.length<=i/\zs=ax ((L.take i).filter fun x=>bE (wK ts tn (toD x.2)))) (by rw[aD];omega) (fun _ _ _ z=>z.2.1) ⟨Same.refl _,Ze _,rfl⟩ (fun i zs H' z=>SqL.of (z.1 _ _ lr1.1)) ?_ ?_
 ·rintro i zs H' v hv ⟨sm,lz,rfl⟩ Y hY;obtain⟨hi,rfl⟩:=bx hv;have hx:=Zy hi;have hd:=(lr1.2 _ hx).ts (Same.ts sm);have hli:=hlk _ hx;have et:(L.take (i+1)).filter (fun x=>bE (wK ts tn (toD x.2)))=(L.take i).filter (fun x=>bE (wK ts tn (toD x.2)))++[L[i]].filter (fun x=>bE (wK ts tn (toD x.2))):=by rw[bt (Zd hi),Yz]
  obtain⟨vd,g1,tw,bv,rfl,g2,g3⟩:=bq hdu hli;refine⟨_,rfl,_,rfl,_,_,rfl,hd,fun t1 H2 s2 x2=>⟨wd,.ref tw,rfl,g1▸DGet.t (k:=nk (nm3 L[i].2)) (s2 _ _ (sm _ _ ewd)) x2,tw,_,_,_,rfl,rfl,SqT.of (s2 _ _ (sm _ _ g2)),at0,rfl,_,rfl,gh (fun c=>?_) (fun c=>?_)⟩⟩
  ·have c':wK ts tn (toD L[i].2)="done":=V.str.inj c;refine⟨_,rfl,hY _ _ ⟨sm.trans s2,by rw[Zk];exact Yk lz,?_⟩⟩;rw[et,fV];have:[L[i]].filter (fun x=>bE (wK ts tn (toD x.2)))=[L[i]]:=by unfold bE;simp[c']
   rw[this];rfl
  ·have c':¬wK ts tn (toD L[i].2)="done":=fun z=>c (ZW V.str z);refine hY _ _ ⟨sm.trans s2,by omega,?_⟩;rw[et];have:[L[i]].filter (fun x=>bE (wK ts tn (toD x.2)))=[]:=by unfold bE;simp[c']
   rw[this,ZL]
 rintro zs dl H2 ⟨s2,lz,rfl⟩ gdl;have hrL:(ax L).length=L.length:=aD L;rw[hrL,ZN]at lz ⊢;have eDN:(L.filter fun x=>bE (wK ts tn (toD x.2))).map Prod.snd=aQ ts tn (L.map Prod.snd):=by unfold aQ;rw[List.filter_map];rfl
 have mem:∀x∈(L.filter fun x=>bE (wK ts tn (toD x.2))),x∈L:=fun x hx=>(Yb.mp hx).1;have lD:(L.filter fun x=>bE (wK ts tn (toD x.2))).length<=100:=ZI (List.length_filter_le ..) ll;rw[<-eDN]at q;generalize(L.filter fun x=>bE (wK ts tn (toD x.2)))=LD at q mem lD ⊢;clear lz eDN;have wdl:=ad gdl (.lst (ax LD));have edl:upd H2 dl (.lst (ax LD)) dl=some (.lst (ax LD)):=ae;have s13:=s2.trans wdl;have lr3:=lr1.same s13;have ewd3:=s13 _ _ ewd;have hdu3:=DuAt.ts hdu (Same.ts s13);have S3:=s1.trans s13;generalize upd H2 dl (.lst (ax LD))=H3 at edl lr3 ewd3 hdu3 S3 ⊢;clear wdl gdl s13 s2 lr1 ewd hdu;refine hR0 _ _ ?_;clear hR0 R0;refine aC fun R0 hR0=>?_;refine⟨sz rfl,fun rl grl=>?_⟩;have wrl:=ad grl (.lst []);have erl:upd H3 rl (.lst []) rl=some (.lst []):=ae;have grl0:H rl=none:=S3.free grl;have S4:=S3.trans wrl;have lr4:=lr3.same wrl;have edl4:=wrl _ _ edl;have ewd4:=wrl _ _ ewd3;have hdu4:=DuAt.ts hdu3 (Same.ts wrl);have nlr:l≠rl:=fun z=>by rw[<-z,lr3.1]at grl;cases grl
 have ndr:dl≠rl:=fun z=>by rw[<-z,edl]at grl;cases grl
 have nwr:wd≠rl:=fun z=>by rw[<-z,ewd3]at grl;cases grl
 generalize upd H3 rl (.lst [])=H4 at erl S4 lr4 edl4 ewd4 hdu4 ⊢;clear wrl grl edl ewd3 hdu3 S3 lr3;refine hR0 _ _ ?_;clear hR0 R0;refine aC fun R0 hR0=>?_;refine⟨_,rfl,l,rfl,⟨_,SqL.of lr4.1⟩,?_⟩;refine qw (K:=K) (a:=l) (xs:=ax L) (fun i σ H'=>(∀b o,b≠rl->H4 b=some o->H' b=some o)/\∃(zs:List V) (o4 o5 o6:Option V),H' rl=some (.lst zs)/\zs.length=i/\Paired (RpAt H') zs (((L.map Prod.snd).take i).map (ge ts tn (LD.map Prod.snd)))/\σ=[some (.ref l),some (.ref wd),some (.ref dl),some (.ref rl),o4,o5,o6])
  ⟨fun b o _ e=>e,[],none,none,none,erl,rfl,.nil,rfl⟩ (fun i σ H' _ z=>SqL.of (z.1 _ _ nlr lr4.1)) ?_ ?_
 ·rintro i v σ H' hv ⟨kp,zs,o4,o5,o6,hrl,lz,pz,rfl⟩ DL hDL;obtain⟨hi,rfl⟩:=bx hv;have hx:=Zy hi;have tp:TS H4 H':=fun b ws e=>kp b _ (cM e erl (by intro z;cases z)) e;have hd:=(lr4.2 _ hx).ts tp;have hli:=hlk _ hx;have cli:=s38.cl _ (ZE.mpr ⟨_,hx,rfl⟩);have er:((L.map Prod.snd).take (i+1)).map (ge ts tn (LD.map Prod.snd))=((L.map Prod.snd).take i).map (ge ts tn (LD.map Prod.snd))++[ge ts tn (LD.map Prod.snd) L[i].2]:=by rw[bt (show(L.map Prod.snd)[i]?=some L[i].2 by rw[ZA,Zd hi];rfl),ZO];rfl
  have hLD:∀x∈LD,DA H' x.1 x.2/\x.2.2.1.length=n/\K8 x.2.2.2:=fun x hx'=>⟨(lr4.2 x (mem x hx')).ts tp,s38.cl _ (ZE.mpr ⟨x,mem x hx',rfl⟩)⟩
  have edl':=kp _ _ ndr edl4;obtain⟨vd,g1,tw,bv,rfl,g2,g3⟩:=bq (DuAt.ts hdu4 tp) hli;have ewd':=kp _ _ nwr ewd4;generalize hdd:L[i].2=d at hd cli er g1 g2 g3 ⊢;clear hli;refine aC fun R hR=>?_;refine⟨_,rfl,_,rfl,_,d,rfl,hd,fun t1 H5 s5 x5=>⟨wd,.ref tw,rfl,g1▸DGet.t (k:=nk (nm3 d)) (s5 _ _ ewd') x5,hR _ _ ?_⟩⟩;clear hR R;refine aC fun R hR=>?_;refine⟨sz rfl,fun sl gsl=>?_⟩;have wsl:=ad gsl (.lst []);have esl:upd H5 sl (.lst []) sl=some (.lst []):=ae;have s06:=s5.trans wsl;generalize upd H5 sl (.lst [])=H6 at esl s06 ⊢;clear wsl gsl s5 x5;refine hR _ _ ?_;clear hR R;have g2':=s06 _ _ g2;have ed6:=s06 _ _ edl';have hd6:=hd.ts (Same.ts s06);obtain⟨c,wa,d1,d2,⟨r,d3,d6⟩,d4,d5⟩:=id hd6;refine gZ (fun σ H7=>Same H6 H7/\∃(sl:Addr) (ss:List V),H7 sl=some (.lst ss)/\ss.length<=100/\Fst H7 ss (ii ts tn (LD.map Prod.snd) d)/\σ=[some (.ref l),some (.ref wd),some (.ref dl),some (.ref rl),some (.ref L[i].1),some (.ref tw),some (.ref sl)]) (fun R hR=>?_) ?_
  ·refine(vix rfl (SqT.of g2') at0 ⟨rfl,_,rfl,gh (fun c1=>?_) (fun c1=>?_)⟩)
   ·have c1':wK ts tn (toD d)="done":=V.str.inj c1;refine(de rfl (SqT.of d1) at2 (SqT.of d3) at0 ⟨rfl,_,rfl,gh (fun c2=>?_) (fun c2=>?_)⟩)
    ·obtain⟨m,hm⟩:=qM.mp c2;have eT:ii ts tn (LD.map Prod.snd) d=((LD.map Prod.snd).find? (agB m d)).map fun e=>(("kept":Str),nm3 e):=by unfold ii;rw[if_pos c1',hm];rfl
     refine⟨_,rfl,dl,rfl,⟨_,SqL.of ed6⟩,?_⟩;refine bD (xs:=ax LD) (fun j ys H7=>Same H6 H7/\ys.length<=j/\Paired (TgAt "kept" H7) ys (((LD.map Prod.snd).take j).filter (agB m d))) (by rw[aD];omega) (fun _ _ _ z=>z.2.1) ⟨Same.refl _,Ze _,.nil⟩ (fun j ys H7 z=>SqL.of (z.1 _ _ ed6)) ?_ ?_
     ·rintro j ys H7 v hv ⟨s7,ly,py⟩ Y hY;obtain⟨hj,rfl⟩:=bx hv;obtain⟨a1,a2,a3⟩:=hLD _ (Zy hj);have a1':=a1.ts (Same.ts (s06.trans s7));have et:((LD.map Prod.snd).take (j+1)).filter (agB m d)=((LD.map Prod.snd).take j).filter (agB m d)++[LD[j].2].filter (agB m d):=by rw[bt (show(LD.map Prod.snd)[j]?=some LD[j].2 by rw[ZA,Zd hj];rfl),Yz]
      refine⟨_,rfl,_,rfl,_,_,d,LD[j].2,m,rfl,hd6.ts (Same.ts s7),a1',by rw[cli.1,a2],hm,a3,fun H8 s8=>⟨_,rfl,?_⟩⟩;cases hg:agB m d LD[j].2 with
      |true =>refine aR ⟨_,rfl,_,_,rfl,a1'.ts (Same.ts s8),fun t2 H9 s9 x9=>⟨sz rfl,fun tq gtq=>hY _ _ ⟨s7.trans (s8.trans (s9.trans (ad gtq _))),by rw[Zk];exact Yk ly,?_⟩⟩⟩;have wtq:=ad gtq (.tup [.str "kept",.ref t2]);rw[et,List.filter_cons_of_pos hg];exact Yr (Paired.mapP py fun _ _ (z:TgAt _ _ _ _)=>z.ts (Same.ts (s8.trans (s9.trans wtq)))) ⟨tq,.ref t2,rfl,ae,t2,rfl,wtq _ _ x9⟩
      |false =>refine aJ (hY _ _ ⟨s7.trans s8,by omega,?_⟩);rw[et,List.filter_cons_of_neg (by rw[hg];simp),List.filter_nil,ZL];exact Paired.mapP py fun _ _ (z:TgAt _ _ _ _)=>z.ts (Same.ts s8)
     ·rintro ys ln H7 ⟨s7,ly,py⟩ gln;have wln:=ad gln (.lst ys);rw[aD,<-Zf (as:=LD) Prod.snd,ZN]at py;rw[aD]at ly;refine hR _ _ ⟨s7.trans wln,ln,ys,ae,by omega,?_,rfl⟩;rw[eT];exact(yh py).ts (Same.ts wln)
    ·refine hR _ _ ⟨Same.refl _,sl,[],esl,by decide,?_,rfl⟩;have eT:ii ts tn (LD.map Prod.snd) d=none:=by unfold ii;rw[if_pos c1',zI fun z=>c2 (qM.mpr z)]
     rw[eT];rfl
   ·refine hR _ _ ⟨Same.refl _,sl,[],esl,by decide,?_,rfl⟩;have eT:ii ts tn (LD.map Prod.snd) d=none:=by have c1':¬wK ts tn (toD d)="done":=fun z=>c1 (ZW V.str z);unfold ii;rw[if_neg c1']
    rw[eT];rfl
  clear esl;rintro σ H7 ⟨s7,sl,ss,esl,lss,hF,rfl⟩;have s07:=s06.trans s7;have g27:=s7 _ _ g2';have ed7:=s7 _ _ ed6;have hd7:=hd6.ts (Same.ts s7);refine gZ (fun σ H8=>Same H7 H8/\∃(sl:Addr) (ss:List V),H8 sl=some (.lst ss)/\ss.length<=100/\Fst H8 ss (ie ts tn (LD.map Prod.snd) d)/\σ=[some (.ref l),some (.ref wd),some (.ref dl),some (.ref rl),some (.ref L[i].1),some (.ref tw),some (.ref sl)]) (fun R hR=>?_) ?_
  ·refine(vix rfl (SqT.of g27) at0 ⟨rfl,_,rfl,gh (fun c1=>?_) (fun c1=>?_)⟩)
   ·have c1':wK ts tn (toD d)="done":=V.str.inj c1;refine(de rfl (SqT.of (s7 _ _ d1)) at2 (SqT.of (s7 _ _ d3)) at0 ⟨sz rfl,fun u gu=>?_⟩);have wu:=ad gu (.tup [.str "mark",.str "write"]);refine⟨u,_,rfl,.inr (SqT.of ae),rfl,rfl,_,rfl,?_⟩;have ei:(if false=true then !inV (V.str d.2.2.word) [.str "mark",.str "write"]else inV (V.str d.2.2.word) [.str "mark",.str "write"])=dP d.2.2:=Hd _;rw[ei];generalize upd H7 u (.tup [.str "mark",.str "write"])=H8 at wu ⊢;cases hm:dP d.2.2 with
    |true =>
     have eF:ie ts tn (LD.map Prod.snd) d=((LD.map Prod.snd).find? (ovB d)).map fun e=>(("over":Str),nm3 e):=by unfold ie;rw[if_pos c1',(Cb hm).2.1];dsimp only;rw[hm,if_pos rfl]
     refine aR ?_;have ed8:=wu _ _ ed7;refine⟨_,rfl,dl,rfl,⟨_,SqL.of ed8⟩,?_⟩;refine bD (xs:=ax LD) (fun j ys H9=>Same H8 H9/\ys.length<=j/\Paired (TgAt "over" H9) ys (((LD.map Prod.snd).take j).filter (ovB d))) (by rw[aD];omega) (fun _ _ _ z=>z.2.1) ⟨Same.refl _,Ze _,.nil⟩ (fun j ys H9 z=>SqL.of (z.1 _ _ ed8)) ?_ ?_
     ·rintro j ys H9 v hv ⟨s9,ly,py⟩ Y hY;obtain⟨hj,rfl⟩:=bx hv;obtain⟨a1,a2,a3⟩:=hLD _ (Zy hj);have s89:=wu.trans s9;have a1':=a1.ts (Same.ts (s07.trans s89));have et:((LD.map Prod.snd).take (j+1)).filter (ovB d)=((LD.map Prod.snd).take j).filter (ovB d)++[LD[j].2].filter (ovB d):=by rw[bt (show(LD.map Prod.snd)[j]?=some LD[j].2 by rw[ZA,Zd hj];rfl),Yz]
      refine⟨_,rfl,_,rfl,_,_,d,LD[j].2,rfl,hd7.ts (Same.ts s89),a1',by rw[cli.1,a2],hm,fun HA sA=>⟨_,rfl,?_⟩⟩;cases hg:ovB d LD[j].2 with
      |true =>refine aR ⟨_,rfl,_,_,rfl,a1'.ts (Same.ts sA),fun t2 HB sB xB=>⟨sz rfl,fun tq gtq=>hY _ _ ⟨s9.trans (sA.trans (sB.trans (ad gtq _))),by rw[Zk];exact Yk ly,?_⟩⟩⟩;have wtq:=ad gtq (.tup [.str "over",.ref t2]);rw[et,List.filter_cons_of_pos hg];exact Yr (Paired.mapP py fun _ _ (z:TgAt _ _ _ _)=>z.ts (Same.ts (sA.trans (sB.trans wtq)))) ⟨tq,.ref t2,rfl,ae,t2,rfl,wtq _ _ xB⟩
      |false =>refine aJ (hY _ _ ⟨s9.trans sA,by omega,?_⟩);rw[et,List.filter_cons_of_neg (by rw[hg];simp),List.filter_nil,ZL];exact Paired.mapP py fun _ _ (z:TgAt _ _ _ _)=>z.ts (Same.ts sA)
     ·rintro ys ln H9 ⟨s9,ly,py⟩ gln;have wln:=ad gln (.lst ys);rw[aD,<-Zf (as:=LD) Prod.snd,ZN]at py;rw[aD]at ly;refine hR _ _ ⟨wu.trans (s9.trans wln),ln,ys,ae,by omega,?_,rfl⟩;rw[eF];exact(yh py).ts (Same.ts wln)
    |false =>
     have eF:ie ts tn (LD.map Prod.snd) d=ii ts tn (LD.map Prod.snd) d:=by unfold ie ii;rw[hm];rfl
     exact aJ (hR _ _ ⟨wu,sl,ss,wu _ _ esl,lss,by rw[eF];exact hF.ts (Same.ts wu),rfl⟩)
   ·refine hR _ _ ⟨Same.refl _,sl,ss,esl,lss,?_,rfl⟩;have c1':¬wK ts tn (toD d)="done":=fun z=>c1 (ZW V.str z);have eF:ie ts tn (LD.map Prod.snd) d=ii ts tn (LD.map Prod.snd) d:=by unfold ie ii;rw[if_neg c1',if_neg c1']
    rw[eF];exact hF
  clear hF esl lss;rintro σ H8 ⟨s8,sl,ss,esl,lss,hF,rfl⟩;have s08:=s07.trans s8;have hrl8:=s08 _ _ hrl;refine⟨_,rfl,.inl ⟨rfl,_,SqL.of hrl8⟩,_,rfl,_,d,rfl,hd7.ts (Same.ts s8),fun t3 H9 s9 x9=>⟨sz rfl,fun tp0 gtp=>?_⟩⟩;have wtp:=ad gtp (.tup [.ref t3]);have etp:upd H9 tp0 (.tup [.ref t3]) tp0=some (.tup [.ref t3]):=ae;generalize upd H9 tp0 (.tup [.ref t3])=HA at wtp etp ⊢;refine⟨_,rfl,_,rfl,sz rfl,fun lw glw=>?_⟩;have wlw:=ad glw (.lst [.ref tw]);have elw:upd HA lw (.lst [.ref tw]) lw=some (.lst [.ref tw]):=ae;generalize upd HA lw (.lst [.ref tw])=HB at wlw elw ⊢;have s8B:=s9.trans (wtp.trans wlw);refine⟨sl,lw,_,_,rfl,rfl,s8B _ _ esl,elw,fj (by rw[Yf];omega),fun lc glc=>?_⟩;have wlc:=ad glc (.lst (ss++[.ref tw]));have s8C:=s8B.trans wlc;have s0C:=s08.trans s8C;have etpC:=wlc _ _ (wlw _ _ etp);have x9C:=wlc _ _ (wlw _ _ (wtp _ _ x9));have elc:upd HB lc (.lst (ss++[.ref tw])) lc=some (.lst (ss++[.ref tw])):=ae;generalize upd HB lc (.lst (ss++[.ref tw]))=HC at s8C s0C etpC x9C elc ⊢;obtain⟨tf,w0,b0,v0,h1,h2,h3,h4⟩:∃(tf:Addr) (w0:Str) (b0:Option Nm) (v0:V),atI (ss++[.ref tw]) 0=some (.ref tf)/\HC tf=some (.tup [.str w0,v0])/\UpAt HC v0 b0/\ge ts tn (LD.map Prod.snd) d=(nm3 d,w0,b0):=by
   have dr:=uZ ts tn (LD.map Prod.snd) d;cases hres:ie ts tn (LD.map Prod.snd) d with
   |none =>rw[hres]at hF dr;obtain rfl:ss=[]:=hF;exact⟨tw,_,_,bv,at0,s0C _ _ g2,g3.ts (Same.ts s0C),dr⟩
   |some pr =>rw[hres]at hF dr;obtain⟨t,nv,rest,rfl,e2,e3⟩:=hF;exact⟨t,pr.1,some pr.2,nv,at0,s8C _ _ e2,e3.ts' (Same.ts s8C),dr⟩
  refine⟨lc,_,_,_,rfl,rfl,SqL.of elc,h1,?_⟩;refine⟨tp0,tf,_,_,rfl,rfl,etpC,h2,sz rfl,fun t4 HD sD eD=>?_⟩;have s0D:=s0C.trans sD;refine⟨rl,_,_,rfl,rfl,s0D _ _ hrl,aO (by omega),?_⟩;have tE:TS HD (upd HD rl (.lst (zs++[.ref t4]))):=iH fun ws e'=>by rw[s0D _ _ hrl]at e';cases e'
  refine hDL _ _ ⟨fun b o hb e=>by rw[ah hb];exact s0D _ _ (kp b o hb e),zs++[.ref t4],_,_,_,ae,by rw[Zk,lz];rfl,?_,rfl⟩;rw[er,h4];exact Yr (Paired.mapP pz fun _ _ (z:RpAt _ _ _)=>z.ts (TS.trans (Same.ts s0D) tE)) ⟨t4,.ref t3,v0,rfl,tE _ _ eD,⟨t3,rfl,tE _ _ (sD _ _ x9C)⟩,(h3.ts (Same.ts sD)).ts tE⟩
 ·rintro σ H' ⟨kp,zs,o4,o5,o6,hrl,lz,pz,rfl⟩;refine hR0 _ _ ?_;clear hR0 R0;have:(ax L).length=(L.map Prod.snd).length:=by rw[aD,Zf]
  rw[this,ZN]at pz;exact⟨_,rfl,q rl zs H' (fun b o e=>kp b o (au e grl0) (S4 _ _ e)) hrl pz⟩
abbrev kE:Stmt:=top 43
abbrev xM:List Str:=["_law_script","_law_k"]
theorem xu:FnScope xM ["_law_script","_law_k"] (al kE):=⟨rfl,rfl,rfl,by decide +kernel,rfl,by decide +kernel,by decide +kernel⟩
theorem xi{f:Addr}{fd:FuncData}(F:Fun K "_law_cell_at" "_law_cell_at" kE f fd)(z_len:mg "len" = none):FnOk P w K mg base CX0 1 f fd ["_law_script","_law_k"] (zq K):=by
 refine F.okQ xu (fun vs H Q E h=>?_) (fun cdv A outer s H vs Q E hr h=>?_)
 ·obtain⟨a,ns,k,rfl,_⟩:=h;rfl
 obtain⟨a,ns,k,rfl,hS,h0,q⟩:=h;refine⟨_,(b_c (aW (aG E7 (q_v 1) (q_B rC z_len PySem.boot_len (q_a (q_v 0) ag))) (b_1 (aF (aj dj (q_v 0) (q_v 1)))) b_0)
   (b_1 (aF af))),?_⟩
 try rw[cxK]
 refine⟨_,rfl,_,rfl,a,_,rfl,.inl hS,_,_,rfl,rfl,_,rfl,?_⟩;refine Id (fun c=>?_) (fun c=>?_)
 ·have c':k<((ns.map V.int).length:Int):=of_decide_eq_true c;rw[Zf]at c';exact⟨_,rfl,_,rfl,a,_,_,_,rfl,rfl,hS,gS h0 c',q⟩
 ·have c':¬k<((ns.map V.int).length:Int):=of_decide_eq_false (Y7.mpr c);rw[Zf]at c';rw[Al h0 c']at q;exact q
theorem Ex{ns:List Int}(h:ns.length<=63):∃cs:List Int,bY (ns.map V.int) (some 2) (some 82)=cs.map V.int/\cs.length<=61:=by
 refine⟨(ns.drop (HT.sIx (ns.map V.int).length 0 (some 2))).take (HT.sIx (ns.map V.int).length (ns.map V.int).length (some 82)-HT.sIx (ns.map V.int).length 0 (some 2)),?_,?_⟩
 ·unfold bY;rw[List.map_take,List.map_drop]
 ·rw[ZM,Z5,Zf,zj (by decide),zj (by decide)];have:(2:Int).toNat=2:=rfl;omega
theorem zm{H:Hp}{l m:Addr}{vs:List V}(hl:H l=some (.lst vs))(hm:H m=some (.lst vs))(hv:∀v∈vs,Da H 3 v):∃d,Dt H d (.ref l)/\Dt H d (.ref m)/\SeqAt.shaped d=true/\PyData.eqv d d=true:=by
 have gen:∃ds,DtAll H ds vs/\PyData.canLayAll0 ds=true/\PyData.depthAll ds<=3:=by
  clear hl hm;induction vs with
  |nil=>exact⟨[],fQ,rfl,by simp[PyData.depthAll]⟩
  |cons v vs ih =>obtain⟨ds,i1,i2,i3⟩:=ih fun x hx=>hv x (Zt _ hx);obtain⟨d,h1,h2,h3⟩:=hv v Zv;refine⟨d::ds,bI h1 i1,by simp[PyData.canLayAll0,h2,i2],?_⟩;simp only[PyData.depthAll];omega
 obtain⟨ds,i1,i2,i3⟩:=gen;have c:(PyData.list ds).canLay0=true:=by simpa[PyData.canLay0]using i2
 refine⟨.list ds,?_,?_,dM c (by simp only[PyData.depth];omega),SeqAt.eqv_refl _ c⟩
 ·simp only[Dt];exact⟨l,vs,rfl,.inl hl,i1⟩
 ·simp only[Dt];exact⟨m,vs,rfl,.inl hm,i1⟩
def rpD(r:Rp):PyData:=.tuple [nmD r.1,.str r.2.1,upD r.2.2]
theorem rG{H:Hp}{v:V}{r:Rp}(h:RpAt H v r)(ok:PyData.strOk r.2.1=true):Dt H (rpD r) v/\(rpD r).canLay0=true/\(rpD r).depth<=3:=by obtain⟨t,nv,bv,rfl,h2,h3,h4⟩:=h;have:=(iY r.2.2).2;exact⟨fw h2 (bI (jM h3) (bI (gU _) (bI (xI h4) fQ))),by simp[rpD,PyData.canLay0,PyData.canLayAll0,(dS r.1).1,ok,(iY r.2.2).1],by simp only[rpD,PyData.depth,PyData.depthAll,(dS r.1).2];omega⟩
theorem Ey(L:L3)(z:Int)(h:0<=z):bY (ax L) none (some z)=ax (L.take z.toNat):=by
 obtain⟨k,rfl⟩:∃k:Nat,z=(k:Int):=⟨z.toNat,by omega⟩
 unfold bY;rw[HT.sIx_none,HT.sIx_nat,aD,List.drop_zero,Nat.sub_zero];unfold ax;rw[List.map_take];show _=(L.map _).take k;rcases Nat.le_total k L.length with c|c
 ·rw[YU c]
 ·rw[Nat.min_eq_right c,ZX (by rw[Zf];exact Ze _),ZX (by rw[Zf];exact c)]
theorem Ca{wd:Wd}(h:K8 wd):wd.ok:=by
 cases wd with
 |put u pl tx=>exact h.2.1
 |write m tx=>exact h.1
 |_=>trivial
theorem GX{H:Hp}{a:Addr}{d:D3}(h:DA H a d)(hs:K8 d.2.2):Da H 3 (.ref a):=by
 obtain⟨c,wa,h1,h2,h3,_⟩:=h;refine sq h1 fun v hv=>?_;simp only[Zl,ZC,Z6]at hv;rcases hv with rfl|rfl|rfl
 ·exact nu _ 2
 ·exact (sq (n:=0) h2 fun v hv=>by
   obtain⟨i,_,rfl⟩:=ZE.mp hv;exact nu _ 0).mono (by decide)
 ·refine CV h3 (Ca hs)
theorem uo{α β:Type}(f:α->β):∀L:List α,L.zip (L.map f)=L.map fun x=>(x,f x)
 | []=>rfl
 |x::L=>by rw[Zw,List.zip_cons_cons,uo f L,Zw]
theorem C4(ts:As Dd)(tn:List Nm)(d:Dd):dO (wK ts tn d)=bE (wK ts tn d):=by
 unfold wK;split
 ·decide +kernel
 ·split
  ·split<;>decide +kernel
  ·split
   ·split<;>decide +kernel
   ·decide +kernel
theorem HM(ts:As Dd)(tn:List Nm)(d:Dd):PyData.strOk (wK ts tn d)=true:=by
 unfold wK;split
 ·decide +kernel
 ·split
  ·split<;>decide +kernel
  ·split
   ·split<;>decide +kernel
   ·decide +kernel
theorem ny{ts:As Dd}{tn:List Nm}{DN D:List D3}:∀r∈D.map (ge ts tn DN),PyData.strOk r.2.1=true:=fun r hr=>by
 obtain⟨d,_,rfl⟩:=ZE.mp hr;rw[uZ];unfold ie;split
 ·rename_i p hp;by_cases c:wK ts tn (toD d)="done"
  ·rw[if_pos c]at hp;cases ht:fY d.2.2 with
   |some m =>rw[ht]at hp;dsimp only at hp;obtain⟨e,_,rfl⟩:=Y3.mp hp;show PyData.strOk "kept" = true;decide +kernel
   |none =>
    rw[ht]at hp;dsimp only at hp;split at hp
    ·obtain⟨e,_,rfl⟩:=Y3.mp hp;show PyData.strOk "over" = true;decide +kernel
    ·cases hp
  ·rw[if_neg c]at hp;cases hp
 ·exact HM ts tn (toD d)
theorem vH{L:L3}{n:Nat}(s:S38 (L.map Prod.snd) n):∃e,Tkn L ((aw L).map (wK (ao (aw L)) (ay (aw L)))) n (Eqo e)/\∀ol ov,Eqo e ol->OvR ((cG (L.zip ((aw L).map (wK (ao (aw L)) (ay (aw L)))))).map Prod.snd) ov ->
  gK (gF (eG ol ((bz (L.zip ((aw L).map (wK (ao (aw L)) (ay (aw L)))))).map Prod.snd))) ov (ao (aw L)) (L.zip ((aw L).map (wK (ao (aw L)) (ay (aw L)))))=(L.map Prod.snd).map (ge (ao (aw L)) (ay (aw L)) (aQ (ao (aw L)) (ay (aw L)) (L.map Prod.snd))):=by
 have hd:aw L=(L.map Prod.snd).map toD:=by rw[Yl];rfl
 have g0:G8 [] (aw L):=by rw[hd];exact s.g8
 obtain⟨rs,run⟩:=fE gd8 (ts:=ao (aw L)) (tn:=ay (aw L)) g0;obtain⟨e,he⟩:=kT gd8 (ts:=ao (aw L)) g0;have hw:rs.map (fun r:Out=>r.2.1)=(aw L).map (wK (ao (aw L)) (ay (aw L))):=by have:=s.words (ts:=ao (aw L)) (tn:=ay (aw L)) (rs:=rs) (by rw[<-hd];exact run);rw[<-hd]at this;exact this
 have lr:rs.length=(aw L).length:=gR run;have touch:=fe gd8 g0 run he;have nod:((aw L).map Prod.fst).Nodup:=by have:=g0.2.2.2.2;exact Yu.mpr this
 have ups:=(nz gd8 g0 he).1;have tk:=HK gd8 g0 (by have:=s.len;rw[Zf]at this;exact this) nod (n:=n) (fun x hx=>⟨(s.cl x.2 (ZE.mpr ⟨x,hx,rfl⟩)).1,Ca (s.cl x.2 (ZE.mpr ⟨x,hx,rfl⟩)).2⟩) run he;rw[hw]at tk;refine⟨e,tk,fun ol ov hol hov=>?_⟩;have ezip:L.zip ((aw L).map (wK (ao (aw L)) (ay (aw L))))=L.map fun x=>(x,wK (ao (aw L)) (ay (aw L)) (toD x.2)):=by
  have:(aw L).map (wK (ao (aw L)) (ay (aw L)))=L.map fun x=>wK (ao (aw L)) (ay (aw L)) (toD x.2):=by
   conv=>lhs;arg 2;unfold aw
   rw[Yl];rfl
  rw[this];exact uo _ L
 have held:∀d∈aQ (ao (aw L)) (ay (aw L)) (L.map Prod.snd),∀x∈cE (nm3 d) d.2.2,(look ol x).isSome=true:=fun d hdn x hx=>by
  obtain⟨h1,h2⟩:=eS.mp hdn;obtain⟨i,hi,ed⟩:=ZP.mp h1;have hi2:(aw L)[i]?=some (toD d):=by rw[hd,ZA,Zd hi,ed];rfl
  have hi3:i<rs.length:=by rw[lr];exact(Zx.mp hi2).1
  have hwi:=ZW (fun l=>l[i]?) hw;simp only[ZA,hi2,Zd hi3,Option.map_some,Y8]at hwi;have:=touch (toD d,rs[i]) (Yo (i:=i) (by rw[List.getElem?_zip_eq_some];exact⟨hi2,Zd hi3⟩)) (by show dO rs[i].2.1=true;rw[hwi,h2];exact yr) x hx;rw[<-hol x];exact this
 have ups':∀n it,look ol n=some it->it.up=none:=fun n it h=>(ups n it (by rw[hol n];exact h)).1;rw[ezip]at hov ⊢;generalize ao (aw L)=ts at *;generalize ay (aw L)=tn at *;have e1:(bz (L.map fun x=>(x,wK ts tn (toD x.2)))).map Prod.snd=aQ ts tn (L.map Prod.snd):=by
  unfold bz aQ;rw[List.filter_map,List.filter_map,Yl,Yl];have:((fun z:(Addr×D3)×Str=>dO z.2)∘fun x:Addr×D3=>(x,wK ts tn (toD x.2)))=((fun d:D3=>bE (wK ts tn (toD d)))∘Prod.snd):=by funext x;exact C4 ts tn (toD x.2)
  rw[this];rfl
 have e2:(cG (L.map fun x=>(x,wK ts tn (toD x.2)))).map Prod.snd=aQ ts tn (L.map Prod.snd):=by unfold cG aQ;rw[List.filter_map,List.filter_map,Yl,Yl];rfl
 rw[e2]at hov;rw[e1];unfold gK;rw[Yl,Yl];refine List.map_congr_left fun x hx=>?_;exact HF s ups' held hov (ZE.mpr ⟨x,hx,rfl⟩)
abbrev lK:Stmt:=top 53
abbrev GR:List Str:=["_law_script","_law_hands","_law_many","_law_deeds_here","_law_half","_law_handed"]
theorem ji:FnScope GR ["_law_script"] (al lK):=⟨rfl,rfl,rfl,by decide +kernel,rfl,by decide +kernel,by decide +kernel⟩
theorem Fc{f:Addr}{fd:FuncData}(F:Fun K "law" "law" lK f fd)(F_cell_at:Fn P w K mg base 1 "_law_cell_at" ["_law_script","_law_k"] (zq K))(F_deeds:Fn P w K mg base 4 "_law_deeds" ["_law_cells","_law_hands","_law_many"] vK)(F_due:Fn P w K mg base 4 "_law_due" ["_law_deeds_here"] zr)(F_report_of:Fn P w K mg base 10 "report_of" ["ready"] qH)(z_len:mg "len" = none)(z_list:mg "list" = none):FnOk P w K mg base CX0 11 f fd ["_law_script"] (rJ K):=by
 refine F.okQ ji (fun vs H Q E h=>?_) (fun cdv A outer s H vs Q E hr h=>?_)
 ·obtain⟨a,ns,rfl,_⟩:=h;rfl
 obtain⟨a,sc,rfl,hS,hlen,hq⟩:=h;refine⟨_,(b_c (aH (i:=1) ji.nd (aM fO af (aM dZ (aB F_cell_at (hr.mono (by decide)) (q_a (q_v 0) (q_a af ag))) af)))
   (b_c (aH (i:=2) ji.nd (aM fO af (aM dZ (aB F_cell_at (hr.mono (by decide)) (q_a (q_v 0) (q_a af ag))) af)))
   (b_c (aH (i:=3) ji.nd (aB F_deeds (hr.mono (by decide)) (q_a (fD sL (q_v 0) (eX af) (eX af)) (q_a (q_v 1) (q_a (q_v 2) ag)))))
   (b_c (aH (i:=4) ji.nd (fD sL (q_v 3) gq (eX (aM fO (q_v 2) (aM iZ (aM nQ (q_B rC z_len PySem.boot_len (q_a (q_v 3) ag)) (q_v 2)) af)))))
   (b_c (aW (aG (Hi hr.units) (aB F_report_of (hr.mono (by decide)) (q_a (pJ xT z_list qq (q_a (q_v 4) ag)) ag)) (aB F_due (hr.mono (by decide)) (q_a (q_v 4) ag))) (b_1 (aF kz)) b_0)
   (b_c (aH (i:=5) ji.nd (pJ xT z_list qq (q_a (q_v 3) ag)))
   (b_1 (aF (gI (eE (rF hr.units) (aB F_report_of (hr.mono (by decide)) (q_a (q_v 5) ag)) (aB F_due (hr.mono (by decide)) (q_a (q_v 3) ag))) (jP (eE (rF hr.units) (q_v 5) (q_v 3)))))))))))),?_⟩
 try rw[cxK]
 refine⟨_,rfl,a,sc,0,rfl,hS,by decide,_,_,rfl,rfl,(by show(0:Int)<3;decide),_,_,rfl,rfl,?_⟩;have m0:=YI (aq sc (0:Int).toNat) (show(3:Int)≠0 by decide);have m1:=YA (aq sc (0:Int).toNat) (show(0:Int)<3 by decide);dsimp only;generalize hh:2+aq sc (0:Int).toNat%3=h at *;refine⟨_,rfl,a,sc,1,rfl,hS,by decide,_,_,rfl,rfl,(by show(0:Int)<4;decide),_,_,rfl,rfl,?_⟩;have m2:=YI (aq sc (1:Int).toNat) (show(4:Int)≠0 by decide);have m3:=YA (aq sc (1:Int).toNat) (show(0:Int)<4 by decide);dsimp only;generalize hm:2+aq sc (1:Int).toNat%4=m at *;obtain⟨cs,ecs,lcs⟩:=Ex hlen;refine⟨_,rfl,_,rfl,_,rfl,a,_,rfl,hS,fun p0 g0=>?_⟩;rw[ecs];refine⟨_,rfl,_,rfl,p0,cs,h,m,rfl,ae,lcs,by omega,by omega,by omega,by omega,fun pd H2 L w2 lr s38 lL=>?_⟩;generalize h.toNat=n at s38;have lL':(m:Int)<=((ax L).length:Int):=by rw[aD,lL];omega
 refine⟨_,rfl,_,rfl,_,rfl,pd,_,rfl,.inl (SqL.of lr.1),_,rfl,_,_,rfl,rfl,_,_,rfl,rfl,⟨by decide,by decide⟩,_,_,rfl,rfl,_,rfl,pd,_,rfl,SqL.of lr.1,fun ph gph=>?_⟩;have z0:0<=m+(((ax L).length:Int)-m) / 2:=by have:0<=(((ax L).length:Int)-m) / 2:=Int.ediv_nonneg (by omega) (by decide);omega
 have ec:=Ey L _ z0;dsimp only;rw[ec];generalize(m+(((ax L).length:Int)-m) / 2).toNat=k;have wph:=ad gph (.lst (ax (L.take k)));have eph:upd H2 ph (.lst (ax (L.take k))) ph=some (.lst (ax (L.take k))):=ae;generalize upd H2 ph (.lst (ax (L.take k)))=H3 at wph eph ⊢;have lr3:=lr.same wph;have lrh:∀{H':Hp} {p:Addr},Same H3 H'->H' p=some (.lst (ax (L.take k)))->LR3 H' p (L.take k):=fun s e=>⟨e,fun x hx=>(lr3.2 x (YE hx)).ts (Same.ts s)⟩
 have s38h:S38 ((L.take k).map Prod.snd) n:=by rw[List.map_take];exact s38.take k
 obtain⟨eh,tkh,reph⟩:=vH s38h;obtain⟨ef,tkf,repf⟩:=vH s38;refine⟨_,rfl,ph,_,rfl,.inl (SqL.of eph),fun p1 g1=>?_⟩;have w1:=ad g1 (.lst (ax (L.take k)));refine⟨p1,L.take k,_,n,_,rfl,lrh w1 ae,tkh,fun ol ov a1 ys1 H4 hol hov s4 ea1 pa1=>?_⟩;rw[reph ol ov hol hov]at pa1;have s34:=w1.trans s4;refine⟨_,rfl,ph,L.take k,n,rfl,lrh s34 (s34 _ _ eph),s38h,fun a2 ys2 H5 s5 ea2 pa2=>?_⟩;have s35:=s34.trans s5;obtain⟨x1,x2,x3⟩:=jI (D:=rpD) (s5 _ _ ea1) (Paired.mapP pa1 fun _ _ (z:RpAt _ _ _)=>z.ts (Same.ts s5)) fun v r hr h=>rG h (ny r hr);obtain⟨x4,_,_⟩:=jI (D:=rpD) ea2 pa2 fun v r hr h=>rG h (ny r hr);refine⟨_,_,x1,x4,x2,x2,_,rfl,?_⟩;rw[x3];refine aJ ?_;have lr5:=lr3.same s35;clear x1 x2 x3 x4 pa1 pa2 ea1 ea2 s4 s5 s34 w1 g1;refine⟨_,rfl,pd,_,rfl,.inl (SqL.of lr5.1),fun pz gz=>?_⟩;have wz:=ad gz (.lst (ax L));have ez:upd H5 pz (.lst (ax L)) pz=some (.lst (ax L)):=ae;have lr6:=lr5.same wz;generalize upd H5 pz (.lst (ax L))=H6 at ez lr6 ⊢;refine⟨_,rfl,pz,L,_,n,_,rfl,⟨ez,lr6.2⟩,tkf,fun ol2 ov2 a1 ys1 H7 hol2 hov2 s7 ea1 pa1=>?_⟩;rw[repf ol2 ov2 hol2 hov2]at pa1;refine⟨_,rfl,pd,L,n,rfl,lr6.same s7,s38,fun a2 ys2 H8 s8 ea2 pa2=>?_⟩;obtain⟨x1,x2,x3⟩:=jI (D:=rpD) (s8 _ _ ea1) (Paired.mapP pa1 fun _ _ (z:RpAt _ _ _)=>z.ts (Same.ts s8)) fun v r hr h=>rG h (ny r hr);obtain⟨x4,_,_⟩:=jI (D:=rpD) ea2 pa2 fun v r hr h=>rG h (ny r hr);refine⟨_,_,x1,x4,x2,x2,?_⟩;rw[x3];refine⟨_,rfl,aR ?_⟩;have s68:=s7.trans s8;have lr8:=lr6.same s68;obtain⟨d1,y1,y2,y3,y4⟩:=zm (s68 _ _ ez) lr8.1 fun v hv=>by obtain⟨x,hx,rfl⟩:=ZE.mp hv;exact GX (lr8.2 x hx) (s38.cl x.2 (ZE.mpr ⟨x,hx,rfl⟩)).2
 refine⟨_,rfl,_,rfl,_,_,y1,y2,y3,y3,?_⟩;rw[y4];exact hq _
end
def mC:Nat->(List Value->Prop)->Prop
 |0,p=>p []
 |n+1,p=>∀a,mC n fun us=>p (a::us)
theorem gO:∀{n:Nat} {p:List Value->Prop},mC n p->∀us:List Value,us.length=n->p us
 |0,_,h,[],_=>h
 |_+1,_,h,a::us,e=>gO (h a) us (Nat.succ.inj e)
section
variable{P:Program}{w:World}{K:PySem.W.Frag}{mg:Str->Option Value}{base h:Heap}{n m x q:Str}{st:Stmt}{C f:Addr}{k:Nat}{ps:List Str}{sp:Sp}{bm:List Value}
structure Bx(P:Program)(w:World)(K:PySem.W.Frag)(mg:Str->Option Value)(base h:Heap):Prop where
 X:K.In h
 G:h.Ns mainGlobals mg
def A1(K:PySem.W.Frag)(n:Str)(st:Stmt)(f:Addr):Prop:=PySem.W.nsIn K mainGlobals n=some (some (.ref f))/\∃fd,Fun K n n st f fd
def A2(K:PySem.W.Frag)(C:Addr)(m q:Str)(st:Stmt)(f:Addr):Prop:=PySem.W.findIn K (.ref C) m=some (some (.ref f))/\PySem.W.isFn K (.ref f)=true/\∃fd,Fun K m q st f fd
def AF(K:PySem.W.Frag):List (Str×Stmt×Addr)->Prop
 | []=>True
 |(n,st,f)::l=>A1 K n st f/\AF K l
def AM(K:PySem.W.Frag):List (Addr×Str×Str×Stmt×Addr)->Prop
 | []=>True
 |(C,m,q,st,f)::l=>A2 K C m q st f/\AM K l
def AN(p:Str->Prop):List Str->Prop
 | []=>True
 |n::l=>p n/\AN p l
theorem anI{p p':Str->Prop}(i:∀{n},p n->p' n):∀{l:List Str},AN p l->AN p' l
 | [],_=>True.intro
 |_::_,h=>⟨i h.1,anI i h.2⟩
theorem gf{l:List (Str×Stmt×Addr)}{oc kV dc pm cd ct:Value}{od an:Option Addr}{sl:Array (Option Value)}(a:PySem.W.nsIn K mainGlobals n=some (some (.ref f)))(b:K.lookup f=some ⟨oc,od,.func (PySem.W.fnOf n n (cJ st) (bJ st) (al st) .none kV dc pm an cd ct),sl⟩)(c:PySem.W.codeIn K cd n=true)(d:PySem.W.keepIn K (.ref f)=true)(r:AF K l):AF K ((n,st,f)::l):=⟨⟨a,_,yi b c d⟩,r⟩
theorem gm{l:List (Addr×Str×Str×Stmt×Addr)}{oc kV dc pm cd ct:Value}{od an:Option Addr}{sl:Array (Option Value)}(a:PySem.W.findIn K (.ref C) m=some (some (.ref f)))(i:PySem.W.isFn K (.ref f)=true)(b:K.lookup f=some ⟨oc,od,.func (PySem.W.fnOf m q (cJ st) (bJ st) (al st) .none kV dc pm an cd ct),sl⟩)(c:PySem.W.codeIn K cd q=true)(d:PySem.W.keepIn K (.ref f)=true)(r:AM K l):AM K ((C,m,q,st,f)::l):=⟨⟨a,i,_,yi b c d⟩,r⟩
theorem gn{l:List Str}(a:PySem.W.nsIn K mainGlobals n=some none)(r:AN (fun n=>PySem.W.nsIn K mainGlobals n=some none) l):AN (fun n=>PySem.W.nsIn K mainGlobals n=some none) (n::l):=⟨a,r⟩
theorem mkF(B:Bx P w K mg base h)(A:A1 K n st f)(ok:∀{fd},Fun K n n st f fd->FnOk P w K mg base CX0 k f fd ps sp)(hb:∀(kV doc pm:Value) (an:Option Addr) (cdv ct:Value),mC ps.length fun us=>bindArgs (PySem.W.fnOf n n (cJ st) (bJ st) (al st) .none kV doc pm an cdv ct) ⟨us,[]⟩=pure (ps.zip us):=by(repeat intro _);rfl):Fn P w K mg base k n ps sp:=by obtain⟨a,fd,F⟩:=A;exact⟨f,fd,ok F,Yp B.X B.G a,F.kp,F.binds fun a b c d e g=>gO (hb a b c d e g)⟩
theorem mkM(B:Bx P w K mg base h)(L:Cls K C)(A:A2 K C m q st f)(ok:∀{fd},Fun K m q st f fd->FnOk P w K mg base CX0 k f fd ps sp)(hb:∀(kV doc pm:Value) (an:Option Addr) (cdv ct:Value),mC ps.length fun us=>bindArgs (PySem.W.fnOf m q (cJ st) (bJ st) (al st) .none kV doc pm an cdv ct) ⟨us,[]⟩=pure (ps.zip us):=by(repeat intro _);rfl):MFn P w K mg base k C m ps sp:=by obtain⟨a,i,fd,F⟩:=A;exact⟨L,f,fd,ok F,⟨a,i,F.kp⟩,F.binds fun a b c d e g=>gO (hb a b c d e g)⟩
theorem mkX(B:Bx P w K mg base h)(L:Cls K C)(A:A2 K C m q st f)(ok:∀{fd},Fun K m q st f fd->FnOk P w K mg base (CXr P w) k f fd ps sp)(hb:∀(kV doc pm:Value) (an:Option Addr) (cdv ct:Value),mC ps.length fun us=>bindArgs (PySem.W.fnOf m q (cJ st) (bJ st) (al st) .none kV doc pm an cdv ct) ⟨us,[]⟩=pure (ps.zip us):=by(repeat intro _);rfl):MFnX P w K mg base k C m ps sp:=by obtain⟨a,i,fd,F⟩:=A;exact⟨L,f,fd,ok F,⟨a,i,F.kp⟩,F.binds fun a b c d e g=>gO (hb a b c d e g)⟩
theorem mkC(B:Bx P w K mg base h)(L:Cls K C)(g:mg x=some (.ref C))(mk:PySem.W.makesIn K C=true)(kc:PySem.W.keepIn K (.ref C)=true)(A:A2 K C "__init__" q st f)(ok:∀{fd},Fun K "__init__" q st f fd->FnOk P w K mg base CX0 k f fd ps sp)(hb:∀(kV doc pm:Value) (an:Option Addr) (cdv ct:Value),mC ps.length fun us=>bindArgs (PySem.W.fnOf "__init__" q (cJ st) (bJ st) (al st) .none kV doc pm an cdv ct) ⟨us,[]⟩=pure (ps.zip us):=by(repeat intro _);rfl):MkFn P w K mg base k C x ps sp:=by obtain⟨a,i,fd,F⟩:=A;exact⟨L,g,f,fd,ok F,⟨mk,a,i,kc⟩,F.binds fun a b c d e g=>gO (hb a b c d e g)⟩
theorem mkE(B:Bx P w K mg base h)(e:ExcAtI K C f bm)(A:A2 K C m q st f)(ok:∀{fd},Fun K m q st f fd->FnOk P w K mg base CX0 k f fd ps sp)(hb:∀(kV doc pm:Value) (an:Option Addr) (cdv ct:Value),mC ps.length fun us=>bindArgs (PySem.W.fnOf m q (cJ st) (bJ st) (al st) .none kV doc pm an cdv ct) ⟨us,[]⟩=pure (ps.zip us):=by(repeat intro _);rfl):ExI P w K mg base k C bm ps sp:=by obtain⟨a,i,fd,F⟩:=A;exact⟨f,fd,e,ok F,F.binds fun a b c d e g=>gO (hb a b c d e g)⟩
end
theorem Es{l:PySem.W.OpenLaw}{w:World}{K:PySem.W.Frag}{h:Heap}{mg:Str->Option Value}{fa f1 f2 f3 f4 f5 f6 f7 f8 f9 f10 f11 f12 f13 f14 f15 f16 f17 f18 f19 f20 f21 f22 f23 f24 f25 f26 f27 f28 f29 f30 f31 f32 f33 f34 m1 m2 m3 m4 m5 m6 m7 m8 m9 m10 m11:Addr}{C_Plain:Addr}(X:K.In h)(G:h.Ns mainGlobals mg)(hfa:mg "law" = some (.ref fa)){tk_TEXT:Tok}{tk_UP:Tok}{ad_STEP_PARTS:Addr}{ad_FIRST_CHANGED:Addr}{c_NoItem c_LimbError c_Taken c_Beneath c_Far:Addr}(h_Plain:PySem.W.nsIn K mainGlobals "Plain" = some (some (.ref C_Plain)))(pg_Plain:PySem.W.plainGet K C_Plain Str.empty=true)(hd_Plain:PySem.W.hasDictIn K C_Plain=true)(po_Plain:PySem.W.plainOver K C_Plain=true)(sa_Plain:PySem.W.findIn K (.ref C_Plain) "__setattr__" = some (some (.builtin "object.__setattr__")))(mk_Plain:PySem.W.makesIn K C_Plain=true)(kc_Plain:PySem.W.keepIn K (.ref C_Plain)=true)(n_Plain_held:PySem.W.findIn K (.ref C_Plain) "held" = some none)(n_Plain_away:PySem.W.findIn K (.ref C_Plain) "away" = some none)(hc_NoItem:PySem.W.nsIn K mainGlobals "NoItem" = some (some (.ref c_NoItem)))(hc_Taken:PySem.W.nsIn K mainGlobals "Taken" = some (some (.ref c_Taken)))(hc_Beneath:PySem.W.nsIn K mainGlobals "Beneath" = some (some (.ref c_Beneath)))(hc_Far:PySem.W.nsIn K mainGlobals "Far" = some (some (.ref c_Far)))(hc_LimbError:PySem.W.nsIn K mainGlobals "LimbError" = some (some (.ref c_LimbError)))(zF:AF K (("step_parts",iw,f1)::("name_of",kI,f2)::("is_turn",kF,f3)::("turned_name",gB,f4)::("last_turns",iu,f5)::("is_off",mP,f6)::("step_of",kJ,f7)::("word_of_step",fG,f8)::("play",tP,f9)::("played",mQ,f10)::("words_of",jU,f11)::("steps_of",jT,f12)::("tells",pQ,f13)::("hears",pO,f14)::("apart",pL,f15)::("stepped",kK,f16)::("touched_by",iC,f17)::("taken_item",iA,f18)::("gainsays",jR,f19)::("first_gainsayer",dQ,f20)::("takings_of",iB,f21)::("overs_of",jS,f22)::("report_of",iR,f23)::("_law_cell_at",kE,f24)::("_law_order",pP,f25)::("_law_name",tN,f26)::("_law_what",tQ,f27)::("_law_deeds",pM,f28)::("_law_heard",pN,f29)::("_law_words",pR,f30)::("_law_against",kD,f31)::("_law_over",tO,f32)::("_law_due",xr,f33)::("law",lK,f34)::[]))(zM:AM K ((c_NoItem,"__init__","NoItem.__init__",gv,m1)::(C_Plain,"__init__","Plain.__init__",iq,m2)::(C_Plain,"bring_in","Plain.bring_in",eJ,m3)::(C_Plain,"change","Plain.change",fF,m4)::(C_Plain,"check_names","Plain.check_names",dA,m5)::(C_Plain,"at_or_beneath","Plain.at_or_beneath",cS,m6)::(C_Plain,"check_bounds","Plain.check_bounds",cY,m7)::(C_Plain,"part_item","Plain.part_item",lY,m8)::(C_Plain,"join_items","Plain.join_items",kC,m9)::(C_Plain,"holds","Plain.holds",gw,m10)::(C_Plain,"step","Plain.step",ir,m11)::[]))(zN:AN (fun n=>PySem.W.nsIn K mainGlobals n=some none) ("len"::"list"::"zip"::"range"::"max"::"sum"::"enumerate"::"tuple"::"sorted"::"str"::"dict"::"any"::[]))(h_TEXT:PySem.W.nsIn K mainGlobals "TEXT" = some (some (.int 2 tk_TEXT)))(h_UP:PySem.W.nsIn K mainGlobals "UP" = some (some (.int 0 tk_UP)))(h_STEP_PARTS:PySem.W.nsIn K mainGlobals "STEP_PARTS" = some (some (.ref ad_STEP_PARTS)))(t_STEP_PARTS:PyProof.Rows.KTD.tabLook (kM K) (fun b=>K.lookup b) ad_STEP_PARTS ST=true)(h_FIRST_CHANGED:PySem.W.nsIn K mainGlobals "FIRST_CHANGED" = some (some (.ref ad_FIRST_CHANGED)))(t_FIRST_CHANGED:PyProof.Rows.KTD.tabLook (kM K) (fun b=>K.lookup b) ad_FIRST_CHANGED FC=true)(ii_NoItem:su K c_NoItem m1=true)(im_NoItem:∃c d cd sl,K.lookup c_NoItem=some ⟨c,d,.cls cd,sl⟩/\cd.mro=Value.ref c_NoItem::Value.ref c_LimbError::VE)(if_NoItem:∃oI,K.lookup m1=some oI/\oI.cls=.type "function")(xx_Taken:PySem.W.excIn K c_Taken [.type "ValueError",.type "Exception",.type "BaseException",.type "object"] "ValueError.__new__" = true)(xm_Taken:∃c d cd sl,K.lookup c_Taken=some ⟨c,d,.cls cd,sl⟩/\cd.mro=Value.ref c_Taken::(Value.ref c_LimbError::VE))(xx_Beneath:PySem.W.excIn K c_Beneath [.type "ValueError",.type "Exception",.type "BaseException",.type "object"] "ValueError.__new__" = true)(xm_Beneath:∃c d cd sl,K.lookup c_Beneath=some ⟨c,d,.cls cd,sl⟩/\cd.mro=Value.ref c_Beneath::(Value.ref c_LimbError::VE))(xx_Far:PySem.W.excIn K c_Far [.type "ValueError",.type "Exception",.type "BaseException",.type "object"] "ValueError.__new__" = true)(xm_Far:∃c d cd sl,K.lookup c_Far=some ⟨c,d,.cls cd,sl⟩/\cd.mro=Value.ref c_Far::(Value.ref c_LimbError::VE))(dg:PySem.W.nsIn K cStatics "sys.int_max_str_digits" = some none)(e6:PySem.W.mroIn K c_NoItem (.type "object")=some true)(aN:PySem.W.findIn K (.ref c_NoItem) "name" = some none)(s1:PySem.W.findIn K (.ref c_NoItem) "__setattr__" = some (some (.builtin "object.__setattr__")))(s2:((PySem.W.clsIn K c_NoItem).any fun cd=>nU cd.mro&&cd.hasDict)=true)(nb:(Value.ref c_Beneath::Value.ref c_LimbError::VE).contains (.ref c_NoItem)=false)(nf:(Value.ref c_Far::Value.ref c_LimbError::VE).contains (.ref c_NoItem)=false)(fb:(Value.ref c_Far::Value.ref c_LimbError::VE).contains (.ref c_Beneath)=false)
  :∃fd:FuncData,(∀(s:Shared) (v:Value),BindsTo s fd ⟨[v],[]⟩ [("_law_script",v)])/\∀base:Heap,K.In base->base.Ns mainGlobals mg->FnOk l.prog w K mg base CX0 11 fa fd ["_law_script"] (rJ K):=by
 obtain⟨Af1,Af2,Af3,Af4,Af5,Af6,Af7,Af8,Af9,Af10,Af11,Af12,Af13,Af14,Af15,Af16,Af17,Af18,Af19,Af20,Af21,Af22,Af23,Af24,Af25,Af26,Af27,Af28,Af29,Af30,Af31,Af32,Af33,⟨a0,_,F0⟩,_⟩:=zF;obtain⟨Am1,Am2,Am3,Am4,Am5,Am6,Am7,Am8,Am9,Am10,Am11,_⟩:=zM;obtain⟨z_len,z_list,z_zip,z_range,z_max,z_sum,z_enumerate,z_tuple,z_sorted,z_str,z_dict,z_any,_⟩:=anI (p':=fun n=>mg n=none) (fun z=>PySem.W.mg_none_of X G z) zN;have e:=hfa.symm.trans (Yp X G a0);cases e;obtain⟨oc,od,kV,dc,pm,an,cd,ct,sl,rfl,l0,c0⟩:=id F0.ex;have g_TEXT:=Yp X G h_TEXT;have g_UP:=Yp X G h_UP;have g_STEP_PARTS:=Yp X G h_STEP_PARTS;have g_FIRST_CHANGED:=Yp X G h_FIRST_CHANGED;have g_Plain:=Yp X G h_Plain;have L_Plain:Cls K C_Plain:=⟨pg_Plain,hd_Plain,po_Plain,sa_Plain⟩
 have X_Plain:Txt K C_Plain:=⟨L_Plain,n_Plain_held,n_Plain_away⟩
 have T_STEP_PARTS:Tab K ad_STEP_PARTS ST:=⟨t_STEP_PARTS⟩
 have T_FIRST_CHANGED:Tab K ad_FIRST_CHANGED FC:=⟨t_FIRST_CHANGED⟩
 have g_NoItem:=Yp X G hc_NoItem;have xo_NoItem:ExcAtI K c_NoItem m1 (Value.ref c_LimbError::VE):=⟨ii_NoItem,im_NoItem,by rw[Y5];rfl,if_NoItem⟩
 have g_Taken:=Yp X G hc_Taken;have g_Beneath:=Yp X G hc_Beneath;have g_Far:=Yp X G hc_Far;have g_LimbError:=Yp X G hc_LimbError;have xo_Taken:ExcAt K c_Taken (Value.ref c_LimbError::VE):=⟨xx_Taken,xm_Taken,by rw[Y5];rfl⟩
 have xo_Beneath:ExcAt K c_Beneath (Value.ref c_LimbError::VE):=⟨xx_Beneath,xm_Beneath,by rw[Y5];rfl⟩
 have xo_Far:ExcAt K c_Far (Value.ref c_LimbError::VE):=⟨xx_Far,xm_Far,by rw[Y5];rfl⟩
 have sN:ExS K c_NoItem:=⟨s1,s2,e6⟩
 have er:ErF K c_NoItem c_Beneath c_Far _ _ _:=⟨vc xo_NoItem,sr xo_Beneath,sr xo_Far,nb,nf,fb⟩
 refine⟨PySem.W.fnOf "law" "law" (cJ lK) (bJ lK) (al lK) .none kV dc pm an cd ct,fun s v=>.of_eq rfl,fun base _ _=>?_⟩;have B:Bx l.prog w K mg base h:=⟨X,G⟩
 have F_step_parts:=mkF B Af1 fun F=>qZ F g_STEP_PARTS T_STEP_PARTS;have xi_NoItem:=mkE B xo_NoItem Am1 fun F=>pC F sN aN;have F_name_of:=mkF B Af2 fun F=>xl F;have Mk_Plain:=mkC B L_Plain g_Plain mk_Plain kc_Plain Am2 fun F=>qX F X_Plain;have M_bring_in:=mkM B L_Plain Am3 fun F=>lX F X_Plain;have M_change:=mkM B L_Plain Am4 fun F=>nR F X_Plain z_len;have MX_check_names:=mkX B L_Plain Am5 fun F=>jc F X_Plain F_step_parts z_zip (mG xo_Taken) g_Taken xi_NoItem g_NoItem;have M_at_or_beneath:=mkM B L_Plain Am6 fun F=>iP F X_Plain g_UP;have MX_check_bounds:=mkX B L_Plain Am7 fun F=>iQ F X_Plain M_at_or_beneath g_TEXT z_len (mG xo_Beneath) g_Beneath (mG xo_Far) g_Far;have M_part_item:=mkM (k:=1) (ps:=["self","name","at","new","place"]) B L_Plain Am8 fun _=>sw;have M_join_items:=mkM (k:=1) (ps:=["self","name","other"]) B L_Plain Am9 fun _=>sw;have M_holds:=mkM B L_Plain Am10 fun F=>pD F X_Plain;have MX_step:=mkX B L_Plain Am11 fun F=>pE F MX_check_names MX_check_bounds M_bring_in M_part_item M_join_items M_change g_FIRST_CHANGED T_FIRST_CHANGED;have F_is_turn:=mkF B Af3 fun F=>xj F;have F_turned_name:=mkF B Af4 fun F=>pF F;have F_last_turns:=mkF B Af5 fun F=>qY F F_is_turn F_turned_name;have F_is_off:=mkF B Af6 fun F=>yI F F_name_of F_is_turn;have F_step_of:=mkF B Af7 fun F=>xm F F_name_of;have F_word_of_step:=mkF B Af8 fun F=>nS F MX_step er g_NoItem g_Beneath g_Far;have F_play:=mkF B Af9 fun F=>De F M_holds MX_step F_step_of F_word_of_step;have F_played:=mkF B Af10 fun F=>yJ F F_last_turns F_is_turn F_name_of F_turned_name F_is_off F_play Mk_Plain;have F_words_of:=mkF B Af11 fun F=>uG F F_played;have F_steps_of:=mkF B Af12 fun F=>uF F F_played;have F_tells:=mkF B Af13 fun F=>A8 F;have F_hears:=mkF B Af14 fun F=>AZ F F_name_of F_tells;have F_apart:=mkF B Af15 fun F=>AW F F_name_of F_hears;have F_stepped:=mkF B Af16 fun F=>xn F Mk_Plain MX_step;have F_touched_by:=mkF B Af17 fun F=>rg F F_name_of;have F_taken_item:=mkF B Af18 fun F=>rc F;have F_gainsays:=mkF B Af19 fun F=>uD F F_name_of F_hears F_apart F_touched_by M_at_or_beneath z_any;have F_first_gainsayer:=mkF B Af20 fun F=>ku F F_gainsays F_name_of;have F_takings_of:=mkF B Af21 fun F=>rf F F_words_of F_steps_of F_stepped F_name_of F_taken_item F_first_gainsayer z_dict;have F_overs_of:=mkF B Af22 fun F=>uE F F_name_of F_apart z_enumerate z_len;have F_report_of:=mkF B Af23 fun F=>tj F F_words_of F_last_turns F_takings_of F_overs_of F_name_of z_dict z_zip;have F_cell_at:=mkF B Af24 fun F=>xi F z_len;have F_order:=mkF B Af25 fun F=>A0 F z_sum;have F_name:=mkF B Af26 fun F=>Db F;have F_what:=mkF B Af27 fun F=>Df F dg z_str;have F_deeds:=mkF B Af28 fun F=>AX F F_order F_what z_enumerate z_range z_max z_tuple z_sorted;have F_heard:=mkF B Af29 fun F=>AY F F_name;have F_words:=mkF B Af30 fun F=>A9 F F_name;have F_against:=mkF B Af31 fun F=>xh F F_heard;have F_over:=mkF B Af32 fun F=>Dc F F_order F_name F_heard;have F_due:=mkF B Af33 fun F=>Fb F F_words F_name F_against F_over;exact Fc F0 F_cell_at F_deeds F_due F_report_of z_len z_list
theorem Ik{l:PySem.W.OpenLaw}{q:Program}{loose:List Str}{XP:(Str->Option Value)->Heap->Prop}{YP:World->Heap->Prop}{d:DefRec}{K:Params->PySem.W.Frag}(hn:l.most=some 63)(hdf:d.params.defaults=[])(hY:∀ (w:World) (h:Heap),YP w h->(K w.params).In h)(F:∀ (w:World) (mg:Str->Option Value) (fa:Addr) (h:Heap),(K w.params).In h->h.Ns mainGlobals mg->mg d.name=some (.ref fa) ->
   ∃ fd:FuncData,(∀ (s:Shared) (u:Value),BindsTo s fd ⟨[u],[]⟩ [("_law_script",u)])/\∀ base:Heap,(K w.params).In base->base.Ns mainGlobals mg->FnOk l.prog w (K w.params) mg base CX0 11 fa fd ["_law_script"] (rJ (K w.params))) :
  PySem.W.WalkO q loose XP YP l.row.toRowW d [] (fun f vs=>PySem.call f vs) :=
 L2.Ea (n:=63) (k:=11) (x:="_law_script") (CX:=fun _=>CX0) (sp:=fun w=>rJ (K w.params)) hn (by decide) hdf ⟨rfl,by decide,by decide⟩ hY F (fun _ _ a ns hl _ hS=>⟨a,ns,rfl,hS,hl,fun _=>rfl⟩) fun _ _ _ _ _ z=>z
end K38
namespace PySem.W.Fast
def tw11121025253055601097:=()
def tw2805884413196019453:=()
def tw15863437593887757530:=()
def tw12129917560039455951:=()
def tw1834214883206970150:=()
def tw7514602187275807225:=()
def tw4085148066820958808:=()
def tw18352077329343459414:=()
def tw14175719910794526481:=()
def tw9160442702796985493:=()
def tw17527019548764810400:=()
def tw16460047992966323093:=()
def tw12583182307475211693:=()
def tw13887016289561400396:=()
def tw17571726561916789590:=()
def tw18127699164511367499:=()
def tw1260179364655571973:=()
def tw14320239476413255006:=()
def tw12003022150227987006:=()
def tw2170319701286822903:=()
def tw14284274773124919251:=()
def tw8734280455724573199:=()
def tw2438708913137604321:=()
def tw10694216606185454767:=()
def tw15354947349743007826:=()
def tw2254495520606764583:=()
def tw12009828687909193342:=()
def tw9139685643742032523:=()
def tw11764236468952880392:=()
def tw12387122009738374287:=()
def tw160708803693325763:=()
def tw10071092913002287804:=()
def tw9902718208684510054:=()
def tw10191459876822265754:=()
def tw11471218973845671870:=()
def tw8812534783722035768:=()
def tw2894834661045574648:=()
def tw9546696851765942474:=()
def tw13801205401932614812:=()
def tw8506013562898339243:=()
def tw8236683105419344638:=()
def tw4401655686196978813:=()
def tw7482808682944497550:=()
def tw12865205562415500697:=()
def tw4282604191357746792:=()
def tw12502474715395326497:=()
def tw17370602509568158317:=()
def tw14925400251745657849:=()
def tw714189707967600523:=()
def tw12706544726388990732:=()
def tw1024929285554117114:=()
def tw6454383985650366027:=()
def tw17042789552966425049:=()
def tw14892701659118196208:=()
def tw1851684446763540316:=()
def tw9820388338640579193:=()
def tw11189095757737085140:=()
def tw16717113144615567943:=()
def tw9782285295800016083:=()
end PySem.W.Fast
open PySem PySem.W PyProof.Rows
set_option maxRecDepth 100000 in
set_option maxHeartbeats 0 in
theorem PySem.Challenge.cw_limb_k38_kept_and_off_holds : PySem.Challenge.rw_limb_k38_kept_and_off.Holds := by
  w_on; o_law; k_head; (case hw => w_witness2)
  k_fill
  refine K38.Ik (l := PySem.Challenge.rw_limb_k38_kept_and_off) rfl rfl (fun w h Y => PySem.W.kIn_of Y) ?F
  case F =>
    intro w mg fa h KX G hmg
    refine' K38.Es KX G hmg ?h_Plain ?pg_Plain ?hd_Plain ?po_Plain ?sa_Plain ?mk_Plain ?kc_Plain ?n_Plain_held ?n_Plain_away ?hc_NoItem ?hc_Taken ?hc_Beneath ?hc_Far ?hc_LimbError ?zF ?zM ?zN ?h_TEXT ?h_UP ?h_STEP_PARTS ?t_STEP_PARTS ?h_FIRST_CHANGED ?t_FIRST_CHANGED ?ii_NoItem ?im_NoItem ?if_NoItem ?xx_Taken ?xm_Taken ?xx_Beneath ?xm_Beneath ?xx_Far ?xm_Far ?dg ?e6 ?aN ?s1 ?s2 ?nb ?nf ?fb
    (case h_Plain => k_is)
    (case pg_Plain => k_is)
    (case hd_Plain => k_is)
    (case po_Plain => k_is)
    (case sa_Plain => k_is)
    (case mk_Plain => k_is)
    (case kc_Plain => k_is)
    (case n_Plain_held => k_is)
    (case n_Plain_away => k_is)
    (case hc_NoItem => k_is)
    (case hc_Taken => k_is)
    (case hc_Beneath => k_is)
    (case hc_Far => k_is)
    (case hc_LimbError => k_is)
    (case zF => (repeat refine K38.gf (by k_is) (by k_is) (by k_is) (by k_is) ?_); exact True.intro)
    (case zM => (repeat refine K38.gm (by k_is) (by k_is) (by k_is) (by k_is) (by k_is) ?_); exact True.intro)
    (case zN => (repeat refine K38.gn (by k_is) ?_); exact True.intro)
    (case h_TEXT => k_is)
    (case h_UP => k_is)
    (case h_STEP_PARTS => k_is)
    (case t_STEP_PARTS => rfl)
    (case h_FIRST_CHANGED => k_is)
    (case t_FIRST_CHANGED => rfl)
    (case ii_NoItem => kernel_rfl)
    (case im_NoItem => exact ⟨_, _, _, _, rfl, rfl⟩)
    (case if_NoItem => exact ⟨_, rfl, rfl⟩)
    (case xx_Taken => k_exc)
    (case xm_Taken => exact ⟨_, _, _, _, rfl, rfl⟩)
    (case xx_Beneath => k_exc)
    (case xm_Beneath => exact ⟨_, _, _, _, rfl, rfl⟩)
    (case xx_Far => k_exc)
    (case xm_Far => exact ⟨_, _, _, _, rfl, rfl⟩)
    (case dg => k_is)
    (case e6 => k_is)
    (case aN => k_is)
    (case s1 => k_is)
    (case s2 => rfl)
    (case nb => rfl)
    (case nf => rfl)
    (case fb => rfl)
