import PyProof.Rows.All
import Wide.All
import OpenK.AllK
import Wide.FinOn
import PyProof.EqAt
import PyProof.EqKinds
import PyProof.TupleCall
import Lean
import PySem.Challenge.RW_limb_k60_views
def EN:=@if_pos
def EM:=@if_neg
def z0:=@PySem.wpAny_bind
def z9:=@PySem.Heap.get?_push_of_some
def Za:=@List.getElem?_eq_getElem
def Zb:=@Nat.le_refl
def Zd:=@List.mem_singleton
def Ze:=@List.mem_cons
def Zf:=@PySem.Heap.lt_size
def Zg:=@List.size_toArray
def Zh:=@PySem.Heap.get?_push_size
def Zi:=@List.length_map
def Zj:=@PySem.wpAny_pure
def Zk:=@List.getElem?_eq_some_iff
def Zl:=@List.getD_eq_getElem?_getD
def Zm:=@List.getElem?_map
def Zn:=@Bool.false_ne_true
def Zo:=@List.not_mem_nil
def Zq:=@List.length_cons
def Zr:=@Nat.le_trans
def Zs:=@List.length_append
def Zt:=@Nat.ne_of_lt
def Zu:=@List.mem_cons_of_mem
def Zv:=@List.append_assoc
def Zw:=@Option.some.inj
def Zx:=@PySem.boot_len
def Zy:=@Nat.lt_of_lt_of_le
def Zz:=@Bool.and_eq_true
def ZA:=@List.mem_cons_self
def ZB:=@Nat.zero_le
def ZC:=@List.length_singleton
def ZD:=@List.lookup_cons
def ZE:=@List.getElem_mem
def ZF:=@List.getElem?_append_right
def ZG:=@List.mem_append
def ZH:=@Array.getD_eq_getD_getElem?
def ZI:=@beq_iff_eq
def ZJ:=@or_false
def ZK:=@PySem.Heap.get?_update_other
def ZL:=@List.mem_append_right
def ZM:=@Array.length_toList
def ZN:=@PySem.W.mg_of
def ZO:=@congrArg
def ZP:=@PyProof.Rows.callWith_type1
def ZQ:=@List.map_append
def ZR:=@Int.emod_nonneg
def ZS:=@List.map_cons
def ZT:=@PySem.strLen_append
def ZU:=@PySem.wpAny_truthy_bool
def ZV:=@Nat.ne_of_gt
def ZW:=@Ne.symm
def ZX:=@Int.emod_lt_of_pos
def ZY:=@PySem.wpAny_mono
def ZZ:=@List.replicate_succ
def Z0:=@PySem.wpAny_holding
def Z1:=@List.mem_of_getElem?
def Z2:=@List.length_take
def Z3:=@List.all_eq_true
def Z4:=@PySem.mem_of_lookup
def Z5:=@PySem.Heap.get?_update_self
def Z6:=@Bool.eq_iff_iff
def Z7:=@PySem.W.kia_one
def Z8:=@List.append_nil
def Z9:=@PySem.wpAny_Call_Name_kw
def y3:=@PySem.wpAny_field
def y4:=@List.getElem?_append_left
def y6:=@Nat.le_succ
def y7:=@PySem.Heap.get?_none_of_le
def y8:=@PySem.Heap.SameBut.update
def y9:=@List.mem_map
def Ya:=@Option.map_eq_some_iff
def Yb:=@List.drop_of_length_le
def Yc:=@Nat.lt_irrefl
def Yd:=@List.all_cons
def Ye:=@List.getElem?_eq_none
def Yf:=@List.getElem?_reverse
def Yg:=@Bool.false_eq_true
def Yh:=@decide_eq_true_iff
def Yi:=@List.foldl_cons
def Yj:=@Nat.lt_or_ge
def Yk:=@PySem.PassesOwn.never
def Yl:=@List.flatten_cons
def Ym:=@Nat.lt_succ_of_lt
def Yn:=@PySem.wpAny_loadPart_at
def Yo:=@List.length_reverse
def Yp:=@Array.toList_inj
def Yq:=@Array.all_toList
def Yr:=@PySem.codeAny_mono
def Ys:=@Nat.le_of_ble_eq_true
def Yt:=@Bool.eq_false_iff
set_option Elab.async false
set_option linter.all false
set_option maxRecDepth 100000
set_option maxHeartbeats 2000000
local macro_rules | `(tactic| omega) => `(tactic| first | with_reducible first | assumption | exact Nat.le_of_lt (by assumption) | exact Nat.le_refl _ | exact Nat.lt_add_one _ | exact Nat.le_trans (by assumption) (by decide) | exact Nat.lt_of_lt_of_le (by assumption) (by decide) | exact Nat.sub_lt_sub_left (by assumption) (Nat.lt_add_one _) | exact Nat.le_antisymm (by assumption) (Nat.le_of_not_lt (by assumption)) | lia)
namespace L2
open PySem PySem.Spec PyProof.Rows
abbrev Key:=Sum Int Str
def yF:Key->Value->Bool
 |.inl k,v=>Value.isInt k v
 |.inr x,v=>Value.isStrOf x v
def Dw(w:World):Key->Int
 |.inl k=>hashInt k
 |.inr x=>hashStr w x
theorem bM:∀{k:Key} {v:Value},yF k v=true->(∃i t,k=Sum.inl i/\v=Value.int i t)\/(∃x t,k=Sum.inr x/\v=Value.str x t)
 |.inl i,v,h=>by obtain⟨t,e⟩:=Value.isInt_shape (k:=i) (v:=v) h;exact .inl ⟨i,t,rfl,e⟩
 |.inr x,v,h=>by obtain⟨t,e⟩:=Value.isStrOf_shape (x:=x) (v:=v) h;exact .inr ⟨x,t,rfl,e⟩
theorem Ba(a b:Int):decide ((Sum.inl a:Key)=Sum.inl b)=(a==b):=by
 by_cases e:a=b
 ·subst e;simp
 ·have h:¬(Sum.inl a:Key)=Sum.inl b:=fun q=>e (Sum.inl.inj q);rw[decide_eq_false h];exact(beq_eq_false_iff_ne.mpr e).symm
theorem Bd(a b:Str):decide ((Sum.inr a:Key)=Sum.inr b)=decide (a=b):=by
 by_cases e:a=b
 ·subst e;simp
 ·have h:¬(Sum.inr a:Key)=Sum.inr b:=fun q=>e (Sum.inr.inj q);rw[decide_eq_false h,decide_eq_false e]
theorem Bb(a:Int)(b:Str):decide ((Sum.inl a:Key)=Sum.inr b)=false:=decide_eq_false (fun q=>nomatch q)
theorem Bc(a:Str)(b:Int):decide ((Sum.inr a:Key)=Sum.inl b)=false:=decide_eq_false (fun q=>nomatch q)
def jw(prog:Program)(w:World):PySem.KeyKind prog w Key where
 is:=yF
 hash:=Dw w
 inj:=fun v a b ha hb=>by
  rcases bM ha with⟨i,t,rfl,rfl⟩|⟨x,t,rfl,rfl⟩
  ·rcases bM hb with⟨j,u,rfl,e⟩|⟨y,u,rfl,e⟩
   ·injection e with e1 _;rw[e1]
   ·exact nomatch e
  ·rcases bM hb with⟨j,u,rfl,e⟩|⟨y,u,rfl,e⟩
   ·exact nomatch e
   ·injection e with e1 _;rw[e1]
 byValue:=fun k v h=>by rcases bM h with⟨i,t,rfl,rfl⟩|⟨x,t,rfl,rfl⟩<;>rfl
 pyHash:=fun hv h=>by
  rcases bM hv with⟨i,t,rfl,rfl⟩|⟨x,t,rfl,rfl⟩
  ·exact wpAny_pyHash_int h
  ·exact wpAny_pyHash_str h
 eqBool:=fun hu hv h=>by
  rcases bM hu with⟨i,t,rfl,rfl⟩|⟨x,t,rfl,rfl⟩
  ·rcases bM hv with⟨j,u,rfl,rfl⟩|⟨y,u,rfl,rfl⟩
   ·rw[Ba]at h;exact wpAny_eqBool_int h
   ·rw[Bb]at h;exact SeqAt.EqAt.int_str i t y u _ _ _ _ h
  ·rcases bM hv with⟨j,u,rfl,rfl⟩|⟨y,u,rfl,rfl⟩
   ·rw[Bc]at h;exact SeqAt.EqAt.str_int x t j u _ _ _ _ h
   ·rw[Bd]at h;exact wpAny_eqBool_str h
 «strs»:=fun k x t v h=>by
  rcases bM h with⟨i,u,rfl,e⟩|⟨y,u,rfl,e⟩
  ·exact nomatch e
  ·injection e with e1 _;subst e1;cases v<;>rfl
open PySem PySem.Spec PyProof.Rows
inductive V where
 |non|bl (b:Bool)|int (i:Int)|str (x:Str)|byt (b:Array UInt8)|flt (b:UInt64)|ref (a:Addr)|ty (n:String)
 deriving DecidableEq
def RelV:V->Value->Prop
 |.non,u=>u=Value.none
 |.bl b,u=>u=Value.bool b
 |.int i,u=>∃t,u=Value.int i t
 |.str x,u=>∃t,u=Value.str x t
 |.byt b,u=>∃t,u=Value.bytes b t
 |.flt b,u=>∃t,u=Value.float b t
 |.ref a,u=>u=Value.ref a
 |.ty n,u=>u=Value.type n
abbrev Vals:List V->List Value->Prop:=Paired RelV
theorem Vals.length{xs:List V}{us:List Value}(r:Vals xs us):xs.length=us.length:=Paired.length r
theorem Vals.get:∀{xs:List V} {us:List Value} {i:Nat} {x:V},Vals xs us->xs[i]?=some x->∃u,us[i]?=some u/\RelV x u
 |_,_,_,_,.nil,e=>by simp at e
 |_,_,0,_,.cons r _,e=>by simp at e;subst e;exact⟨_,rfl,r⟩
 |_,_,i+1,x,.cons _ t,e=>by obtain⟨u,h1,h2⟩:=Vals.get (i:=i) (x:=x) t (by simpa using e);exact⟨u,by simpa using h1,h2⟩
theorem Vals.set{x:V}{u:Value}(r:RelV x u):∀{xs:List V} {us:List Value} (i:Nat),Vals xs us->Vals (xs.set i x) (us.set i u)
 |_,_,_,.nil=>.nil
 |_,_,0,.cons _ t=>.cons r t
 |_,_,i+1,.cons q t=>.cons q (Vals.set r i t)
theorem Vals.append:∀{xs ys:List V} {us ws:List Value},Vals xs us->Vals ys ws->Vals (xs++ys) (us++ws)
 |_,_,_,_,.nil,s=>s
 |_,_,_,_,.cons r t,s=>.cons r (Vals.append t s)
theorem Vals.take:∀{xs:List V} {us:List Value} (n:Nat),Vals xs us->Vals (xs.take n) (us.take n)
 |_,_,0,_=>.nil
 |_,_,_+1,.nil=>.nil
 |_,_,n+1,.cons r t=>.cons r (Vals.take n t)
theorem Vals.drop:∀{xs:List V} {us:List Value} (n:Nat),Vals xs us->Vals (xs.drop n) (us.drop n)
 |_,_,0,r=>r
 |_,_,_+1,.nil=>.nil
 |_,_,n+1,.cons _ t=>Vals.drop n t
def RelO:Option V->Option Value->Prop
 |some v,some u=>RelV v u
 |none,none=>True
 |_,_=>False
def KV{κ:Type}:List (κ×V)->List (κ×Value)->Prop:=Paired fun(p:κ×V) (q:κ×Value)=>p.1=q.1/\RelV p.2 q.2
def kV:Key->V
 |.inl i=>.int i
 |.inr x=>.str x
inductive HO where
 |lst (xs:List V)
 |tup (xs:List V)
 |dK (kvs:List (Key×V))|dT (kvs:List (List Key×V))
 |set (S:Int->Bool)(n:Nat)
 |ins (C dx:Addr)(fs:List (Str×V))
 |own (x:Addr)
 |xd (fs:List (Str×V))
 |met (f x:Addr)
 |rng (lo hi:Int)
 |frz (o:Obj)(u:HO)
 |tbl (ps:Array Value)
 |ext (φ:Heap->Prop)
abbrev Hp:=Addr->Option HO
def upd(H:Hp)(a:Addr)(o:HO):Hp:=fun b=>if b=a then some o else H b
theorem aa{H:Hp}{a:Addr}{o:HO}:upd H a o a=some o:=by unfold upd;rw[EN rfl]
theorem ac{H:Hp}{a b:Addr}{o:HO}(h:b≠a):upd H a o b=H b:=by unfold upd;rw[EM h]
theorem ao{H:Hp}{a b:Addr}{o:HO}(h:H a=some o)(h':H b=none):a≠b:=by intro e;subst e;rw[h]at h';cases h'
section
variable(P:Program)(w:World)
def ObjOk(H:Hp)(h:Heap)(a:Addr):HO->Prop
 |.lst xs=>xs.length<=sizeLine/\∃(its:List Value) (n:Nat),Vals xs its/\h.get? a=some { cls:=.type "list",data:=.seq its.toArray n }
 |.tup xs=>xs.length<=sizeLine/\∃its:List Value,Vals xs its/\IsTup h a its.toArray
 |.dK kvs=>kvs.length<=sizeLine/\(a==sysModules)=false/\∃vs,KV kvs vs/\h.DictOf (jw P w) a vs
 |.dT kvs=>kvs.length<=sizeLine/\(a==sysModules)=false/\∃xs:List (List Key×Addr×Value),
   Paired (fun(p:List Key×V) (q:List Key×Addr×Value)=>p.1=q.1/\H q.2.1=some (.tup (p.1.map kV))/\RelV p.2 q.2.2) kvs xs /\
   ∃o es ep,h.get? a=some o/\o.ExactDict/\o.data=.dict es ep/\es.toList=xs.map (entryOfKey (tupleKind (jw P w)))/\(xs.map (·.1)).Nodup
 |.set S n=>h.SetOf (intKind P w) a S n
 |.ins C dx fs=>H dx=some (.own a)/\fs.length<=1000/\dx≠a/\h.get? a=some (PySem.W.instObj C dx) /\
   ∃mA,h.Ns1 dx mA/\(∀f,RelO (fs.lookup f) (mA f))/\PySem.Within mA (fs.map (·.1))
 |.own _=>∃o,h.get? a=some o
 |.xd fs=>∃mA,h.Ns1 a mA/\∀f,RelO (fs.lookup f) (mA f)
 |.rng lo hi=>∃t u v,h.get? a=some { cls:=.type "range",data:=.fields #[.int lo t,.int hi u,.int 1 v] }
 |.frz o u=>h.get? a=some o/\ObjOk H h a u
 |.tbl ps=>h.get? a=some { cls:=.none,data:=.fields ps }
 |.met f x=>h.get? a=some (PySem.W.methodObj (.ref f) (.ref x))
 |.ext φ=>φ h/\(∃o,h.get? a=some o)/\∀h1 h2:Heap,φ h1->(∀o,h1.get? a=some o->h2.get? a=some o)->φ h2
def HOk(H:Hp)(h:Heap):Prop:=∀a o,H a=some o->ObjOk P w H h a o
end
section
variable{P:Program}{w:World}{H H':Hp}{h h':Heap}{a:Addr}{o:HO}
theorem ObjOk.lt(x:ObjOk P w H h a o):a<h.objs.size:=by
 cases o with
 |lst xs=>obtain⟨_,_,_,_,e⟩:=x;exact Zf e
 |tup xs=>obtain⟨_,_,_,p⟩:=x;exact p.lt
 |dK kvs=>obtain⟨_,_,_,_,o,_,_,e,_⟩:=x;exact Zf e
 |dT kvs=>obtain⟨_,_,_,_,o,_,_,e,_⟩:=x;exact Zf e
 |set S n=>obtain⟨o,_,_,_,e,_⟩:=x;exact Zf e
 |ins C dx fs=>obtain⟨_,_,_,e,_⟩:=x;exact Zf e
 |own y=>obtain⟨_,e⟩:=x;exact Zf e
 |xd fs=>obtain⟨_,⟨_,_,_,e,_⟩,_⟩:=x;exact Zf e
 |rng lo hi=>obtain⟨_,_,_,e⟩:=x;exact Zf e
 |frz ob u=>obtain⟨e,_⟩:=x;exact Zf e
 |tbl ps=>exact Zf (show h.get? a=some _ from x)
 |met f y=>exact Zf (show h.get? a=some _ from x)
 |ext φ=>obtain⟨_,⟨_,e⟩,_⟩:=x;exact Zf e
theorem Paired.mapP{α β:Type}{F G:α->β->Prop}:∀{l₁:List α} {l₂:List β},Paired F l₁ l₂->(∀a b,F a b->G a b)->Paired G l₁ l₂
 |_,_,.nil,_=>.nil
 |_,_,.cons r t,f=>.cons (f _ _ r) (Paired.mapP t f)
theorem ObjOk.stay(x:ObjOk P w H h a o)(k:∀b u,(b=a\/H b=some (.own a))->h.get? b=some u->h'.get? b=some u)(ho:∀b,H b=some (.own a)->H' b=some (.own a))(ht:∀b xs,H b=some (.tup xs)->H' b=some (.tup xs)):ObjOk P w H' h' a o:=by
 induction o with
 |lst xs=>obtain⟨z,its,n,r,e⟩:=x;exact⟨z,its,n,r,k _ _ (.inl rfl) e⟩
 |tup xs=>obtain⟨z,its,r,ob,e,c⟩:=x;exact⟨z,its,r,ob,k _ _ (.inl rfl) e,c⟩
 |dK kvs=>obtain⟨z,y,vs,r,ob,es,ep,e,c⟩:=x;exact⟨z,y,vs,r,ob,es,ep,k _ _ (.inl rfl) e,c⟩
 |dT kvs =>obtain⟨z,y,xs,r,ob,es,ep,e,c⟩:=x;exact⟨z,y,xs,Paired.mapP r fun p q z=>⟨z.1,ht _ _ z.2.1,z.2.2⟩,ob,es,ep,k _ _ (.inl rfl) e,c⟩
 |set S n=>obtain⟨ob,es,ep,t,e,c⟩:=x;exact⟨ob,es,ep,t,k _ _ (.inl rfl) e,c⟩
 |ins C dx fs =>obtain⟨d,z,ne,e,mA,⟨od,es,ep,e2,c⟩,r⟩:=x;exact⟨ho _ d,z,ne,k _ _ (.inl rfl) e,mA,⟨od,es,ep,k _ _ (.inr d) e2,c⟩,r⟩
 |own y=>obtain⟨ob,e⟩:=x;exact⟨ob,k _ _ (.inl rfl) e⟩
 |xd fs=>obtain⟨mA,⟨od,es,ep,e,c⟩,r⟩:=x;exact⟨mA,⟨od,es,ep,k _ _ (.inl rfl) e,c⟩,r⟩
 |rng lo hi=>obtain⟨t,u,v,e⟩:=x;exact⟨t,u,v,k _ _ (.inl rfl) e⟩
 |frz ob u ih=>obtain⟨e,q⟩:=x;exact⟨k _ _ (.inl rfl) e,ih q⟩
 |tbl ps =>have e:h.get? a=some { cls:=.none,data:=.fields ps }:=x;show h'.get? a=some { cls:=.none,data:=.fields ps };exact k a _ (.inl rfl) e
 |met f y =>have e:h.get? a=some (PySem.W.methodObj (.ref f) (.ref y)):=x;show h'.get? a=some (PySem.W.methodObj (.ref f) (.ref y));exact k a _ (.inl rfl) e
 |ext φ=>obtain⟨p,⟨o,e⟩,st⟩:=x;exact⟨st _ _ p fun o q=>k _ _ (.inl rfl) q,⟨o,k _ _ (.inl rfl) e⟩,st⟩
theorem HOk.lt(x:HOk P w H h)(e:H a=some o):a<h.objs.size:=(x a o e).lt
theorem HOk.fresh(x:HOk P w H h)(e:h.objs.size<=a):H a=none:=by
 cases q:H a with
 |none=>rfl
 |some u=>exact absurd (Zy (x.lt q) e) (Yc _)
theorem HOk.kept(x:HOk P w H h)(k:∀b u,h.get? b=some u->h'.get? b=some u):HOk P w H h':=fun a o e =>
 (x a o e).stay (fun b u _ q=>k b u q) (fun _ q=>q) fun _ _ q=>q
theorem HOk.laid(x:HOk P w H h)(k:∀b u,h.get? b=some u->h'.get? b=some u)(hp:h.objs.size<=a)(new:ObjOk P w (upd H a o) h' a o):HOk P w (upd H a o) h':=fun b u e=>by
 have hn:=x.fresh hp;by_cases hb:b=a
 ·subst hb;rw[aa]at e;cases e;exact new
 ·rw[ac hb]at e;exact(x b u e).stay (fun c v _ q=>k c v q) (fun c q=>by rw[ac (ao q hn)];exact q) fun c xs q=>by rw[ac (ao q hn)];exact q
end
def Rd(H:Hp)(a:Addr)(u:HO):Prop:=H a=some u\/∃o,H a=some (.frz o u)
theorem Rd.of{H:Hp}{a:Addr}{u:HO}(h:H a=some u):Rd H a u:=.inl h
theorem Rd.ok{P:Program}{w:World}{H:Hp}{h:Heap}{a:Addr}{u:HO}(r:Rd H a u)(x:HOk P w H h):ObjOk P w H h a u:=by
 rcases r with r|⟨o,r⟩
 ·exact x a u r
 ·obtain⟨_,q⟩:=x a _ r;exact q
def Mut:Option HO->Prop
 |some (.lst _)=>True
 |some (.dK _)=>True
 |some (.dT _)=>True
 |some (.set _ _)=>True
 |some (.ins _ _ _)=>True
 |some (.ext _)=>True
 |_=>False
section
variable{P:Program}{w:World}{H:Hp}{h h':Heap}{x e:Addr}{o':HO}
theorem HOk.write(ok:HOk P w H h)(mu:Mut (H x))(he:e=x\/H e=some (.own x))(k:∀b u,b≠e->h.get? b=some u->h'.get? b=some u)(heo:∃u,h'.get? e=some u)(new:ObjOk P w (upd H x o') h' x o'):HOk P w (upd H x o') h':=fun b u q=>by
 have nown:∀c y,H c=some (.own y)->c≠x:=fun c y r z=>by subst z;rw[r]at mu;exact mu
 have ntup:∀c xs,H c=some (.tup xs)->c≠x:=fun c xs r z=>by subst z;rw[r]at mu;exact mu
 by_cases hb:b=x
 ·subst hb;rw[aa]at q;cases q;exact new
 ·rw[ac hb]at q;by_cases hbe:b=e
  ·have q':H b=some (.own x):=by
    rcases he with z|z
    ·exact absurd (hbe.trans z) hb
    ·rw[hbe];exact z
   rw[q]at q';cases q';obtain⟨v,hv⟩:=heo;exact⟨v,by rw[hbe];exact hv⟩
  ·refine(ok b u q).stay (fun c v hc r=>k c v ?_ r) (fun c r=>by rw[ac (nown c b r)];exact r) fun c xs r=>by rw[ac (ntup c xs r)];exact r
   rcases hc with rfl|hc
   ·exact hbe
   ·rintro rfl;rcases he with z|z
    ·exact nown c b hc z
    ·rw[hc]at z;cases z;exact hb rfl
end
structure Un(fs ex:List Addr)(H H':Hp)(h h':Heap):Prop where
 keep:∀b o,h.get? b=some o->H b=none->b∉fs->b∉ex->h'.get? b=some o
 slot:∀b o,h.get? b=some o->H b=none->b∈fs->b∉ex->∃sl,h'.get? b=some { o with slots:=sl }
 free:∀b o,h.get? b=some o->H b=none->b∉ex->H' b=none
 there:∀b o,h.get? b=some o->b∉ex->∃o',h'.get? b=some o'
 tups:∀b xs,H b=some (.tup xs)->H' b=some (.tup xs)
 frzs:∀b o u,H b=some (.frz o u)->H' b=some (.frz o u)
 tbls:∀b ps,H b=some (.tbl ps)->∃more,H' b=some (.tbl (ps++more))
section
variable{fs fs' ex ex':List Addr}{H H1 H2:Hp}{h h1 h2 h':Heap}{a x e:Addr}{o:HO}
theorem Un.any(u:Un fs ex H H1 h h1){b:Addr}{ob:Obj}(q:h.get? b=some ob)(n:H b=none)(hx:b∉ex):∃sl,h1.get? b=some { ob with slots:=sl }:=by
 by_cases hb:b∈fs
 ·exact u.slot b ob q n hb hx
 ·exact⟨ob.slots,u.keep b ob q n hb hx⟩
theorem Un.kept(k:∀b u,h.get? b=some u->h'.get? b=some u):Un fs ex H H h h' :=
 ⟨fun b ob q _ _ _=>k b ob q,fun b ob q _ _ _=>⟨ob.slots,k b ob q⟩,fun _ _ _ n _=>n,fun b ob q _=>⟨ob,k b ob q⟩,fun _ _ q=>q,fun _ _ _ q=>q,fun _ ps q=>⟨#[],by rw[q];simp⟩⟩
theorem Un.refl:Un fs ex H H h h:=Un.kept fun _ _ q=>q
theorem Un.laid(k:∀b u,h.get? b=some u->h'.get? b=some u)(hp:h.objs.size<=a)(hn:H a=none):Un fs ex H (upd H a o) h h' where
 keep:=fun b u q _ _ _=>k b u q
 slot:=fun b u q _ _ _=>⟨u.slots,k b u q⟩
 free:=fun b u q n _=>by rw[ac (Zt (Zy (Zf q) hp))];exact n
 there:=fun b u q _=>⟨u,k b u q⟩
 tups:=fun b xs q=>by rw[ac (ao q hn)];exact q
 frzs:=fun b u xs q=>by rw[ac (ao q hn)];exact q
 tbls:=fun b ps q=>⟨#[],by rw[ac (ao q hn),q];simp⟩
theorem Un.write(mu:Mut (H x))(he:e=x\/H e=some (.own x))(k:∀b u,b≠e->h.get? b=some u->h'.get? b=some u)(heo:∃u,h'.get? e=some u):Un fs ex H (upd H x o) h h':=by
 have hx:∀b,H b=none->b≠x:=fun b n z=>by subst z;rw[n]at mu;exact mu
 have hb:∀b,H b=none->b≠e:=fun b n z=>by
  subst z;rcases he with r|r
  ·exact hx b n r
  ·rw[n]at r;cases r
 have hm:∀b u,H b=some u->¬Mut (some u)->b≠x:=fun b u q nm z=>by subst z;rw[q]at mu;exact nm mu
 refine⟨fun b u q n _ _=>k b u (hb b n) q,fun b u q n _ _=>⟨u.slots,k b u (hb b n) q⟩,fun b u q n _=>by rw[ac (hx b n)];exact n,fun b u q _=>?_,
  fun b xs q=>by rw[ac (hm b _ q fun z=>z)];exact q,fun b u xs q=>by rw[ac (hm b _ q fun z=>z)];exact q,fun b ps q=>⟨#[],by rw[ac (hm b _ q fun z=>z),q];simp⟩⟩
 by_cases hbe:b=e
 ·subst hbe;exact heo
 ·exact⟨u,k b u hbe q⟩
end
def trk(h:Heap)(H:Hp):List Addr:=(List.range h.objs.size).filter fun a=>(H a).isSome
def gF(h:Heap)(H:Hp):Heap:=PySem.W.hideAll h (trk h H)
theorem uW(h:Heap)(H:Hp):(gF h H).objs.size=h.objs.size:=PySem.W.hideAll_size _ _
theorem hV{h:Heap}{H:Hp}{b:Addr}{o:Obj}(e:h.get? b=some o)(n:H b=none):(gF h H).get? b=some o :=
 PySem.W.hideAll_get _ e fun hm=>by have q:(H b).isSome=true:=(List.mem_filter.mp hm).2;rw[n]at q;simp at q
theorem zH{h:Heap}{H:Hp}{b:Addr}{o:Obj}(e:(gF h H).get? b=some o):h.get? b=some o/\H b=none:=by
 have e':h.get? b=some o:=PySem.W.of_hideAll (trk h H) e;refine⟨e',?_⟩;cases q:H b with
 |none=>rfl
 |some x =>have hm:b∈trk h H:=List.mem_filter.mpr ⟨List.mem_range.mpr (Zf e'),by simp[q]⟩;have z:(gF h H).get? b=none:=PySem.W.hideAll_none (trk h H) hm;rw[z]at e;cases e
open PySem PySem.Spec PyProof.Rows
structure Mod(K:PySem.W.Frag)(mg:Str->Option Value)(base:Heap):Prop where
 kin:K.In base
 glob:base.Ns mainGlobals mg
 blt:∃mb,base.Ns builtinsNs mb/\∀x:Str,x≠"__name__"->mb x=bootBuiltins x
 nolimit:base.NoLimit
structure Cx where
 prog:Program
 w:World
 K:PySem.W.Frag
 mg:Str->Option Value
 base:Heap
 A:Around
 N:List Str
 s₀:Shared
 H₀:Hp
 env:Env
 outer:List Env
 stack:List Env
 ex:List Addr
 fn:Str->Bool
 calm:Bool
 pn:List (Addr×Obj)
 xe:Value->Shared->Prop
def frs(l:List Env):List Addr:=l.filterMap (·.frame)
abbrev Cx.fs(X:Cx):List Addr:=frs X.outer
def Vis(sc:Scope)(x:Str):Prop:=sc.names.lookup x=some .local\/sc.names.lookup x=some .cell\/sc.names.lookup x=some .free
def Loc(sc:Scope)(x:Str):Prop:=sc.names.lookup x=some .local\/sc.names.lookup x=some .cell
def Dm(env:Env)(h:Heap)(m:Str->Option Value)(x:Str)(u:Value):Prop :=
 (env.kindOf x=some .local/\m x=some u)\/((env.kindOf x=some .cell\/env.kindOf x=some .free)/\∃c,env.cells.lookup x=some c/\h.IsCell c (some u))
structure Cx.Ok(X:Cx):Prop where
 mod:Mod X.K X.mg X.base
 kind:X.env.scope.kind=.function
 glob:X.env.globals=mainGlobals
 blt:X.env.builtins=builtinsNs
 above:X.s₀.heap.objs.size<=X.env.locals
 inj:∀x y c,X.env.cells.lookup x=some c->X.env.cells.lookup y=some c->x=y
 has:∀x,(X.env.kindOf x=some .cell\/X.env.kindOf x=some .free)->∃c,X.env.cells.lookup x=some c
 cab:∀x c,X.fn x=true->X.env.cells.lookup x=some c->X.s₀.heap.objs.size<=c
 hd:X.calm=true->X.A.handled=none
 frames:X.A.frames=some X.stack
 stk:X.stack=X.outer\/(X.stack=X.env::X.outer/\X.env.frame=some X.env.locals)
 exf:∀b∈X.ex,b≠X.env.locals/\∀x c,X.env.cells.lookup x=some c->c≠b
 bs:∀b o,X.base.get? b=some o->X.s₀.heap.get? b=some o/\X.H₀ b=none
 bsz:X.base.objs.size<=X.s₀.heap.objs.size
 noex:∀b o,X.base.get? b=some o->b∉X.ex
 exfs:∀b∈X.ex,b∉X.fs
 funs:X.s₀.heap.FunFrames X.base X.outer
 frf:∀b∈X.fs,X.H₀ b=none
structure Inv(X:Cx)(pins:List (Addr×Obj))(σ:List (Option V))(H:Hp)(s:Shared):Prop where
 ok:X.Ok
 os:s.os=X.s₀.os
 bare:AllBare s.gens
 base:Un X.fs X.ex X.H₀ H X.s₀.heap s.heap
 loc:∃m,s.heap.Ns X.env.locals m/\∀(i:Nat) (x:Str) (v:V),X.N[i]?=some x->σ[i]?=some (some v)->Vis X.env.scope x->∃u,RelV v u/\Dm X.env s.heap m x u
 cell:∀x c,X.env.cells.lookup x=some c->∃v,s.heap.IsCell c v
 free:H X.env.locals=none
 freeC:∀x c,X.env.cells.lookup x=some c->H c=none
 pin:∀p∈X.pn++pins,s.heap.get? p.1=some p.2/\H p.1=none/\p.1≠X.env.locals/\p.1∉X.fs/\∀v,p.2.data≠.cell v
 hok:HOk X.prog X.w H s.heap
 len:σ.length=X.N.length
section
variable{X:Cx}{pins:List (Addr×Obj)}{σ:List (Option V)}{H H':Hp}{s:Shared}{h':Heap}
theorem Cx.Ok.nofr(ok:X.Ok){b:Addr}{o:Obj}(e:X.base.get? b=some o):b∉X.fs:=fun hb=>by have:=(ok.funs.mem hb).1;rw[e]at this;cases this
theorem Inv.bs(I:Inv X pins σ H s):∀b o,X.base.get? b=some o->s.heap.get? b=some o/\H b=none:=fun b o e =>
 ⟨I.base.keep b o (I.ok.bs b o e).1 (I.ok.bs b o e).2 (I.ok.nofr e) (I.ok.noex b o e),I.base.free b o (I.ok.bs b o e).1 (I.ok.bs b o e).2 (I.ok.noex b o e)⟩
theorem Inv.bk(I:Inv X pins σ H s):∀b o,X.base.get? b=some o->s.heap.get? b=some o:=fun b o e=>(I.bs b o e).1
theorem Inv.mod(I:Inv X pins σ H s):Mod X.K X.mg X.base:=I.ok.mod
theorem Inv.kIn(I:Inv X pins σ H s):X.K.In s.heap:=I.ok.mod.kin.keeps I.bk
theorem Inv.fr(I:Inv X pins σ H s):∃m,Fr X.base X.env.locals s.heap m :=
 let⟨m,hn,_⟩:=I.loc
 ⟨m,hn,I.bk,Zr I.ok.bsz I.ok.above⟩
theorem Inv.lt(I:Inv X pins σ H s):X.env.locals<s.heap.objs.size:=let⟨_,hn,_⟩:=I.loc;hn.lt
theorem Inv.sz(I:Inv X pins σ H s):X.s₀.heap.objs.size<=s.heap.objs.size:=Zr I.ok.above (Nat.le_of_lt I.lt)
theorem Inv.nofs(I:Inv X pins σ H s){a:Addr}(h:s.heap.objs.size<=a):a∉X.fs:=fun hb=>by obtain⟨_,o,ho,_⟩:=I.ok.funs.mem hb;exact absurd (Zy (Zf ho) (Zr I.sz h)) (Yc _)
theorem Inv.cne(I:Inv X pins σ H s):∀x c,X.env.cells.lookup x=some c->c≠X.env.locals:=fun x c e z=>by obtain⟨v,o,ho,hd⟩:=I.cell x c e;obtain⟨m,⟨o',es,ep,ho',hd',_⟩,_⟩:=I.loc;rw[z,ho']at ho;cases ho;rw[hd']at hd;cases hd
theorem Inv.funs(I:Inv X pins σ H s):s.heap.FunFrames X.base X.outer:=by
 have all:∀(l:List Env),(∀b∈frs l,b∈X.fs)->X.s₀.heap.FunFrames X.base l->s.heap.FunFrames X.base l:=by
  intro l;induction l with
  |nil=>intro _ _;trivial
  |cons env r ih =>intro hs hl;obtain⟨hk,⟨L,o,hf,hn,ho,hd⟩,hr⟩:=hl;have hL:L∈X.fs:=hs L (by unfold frs;rw[List.filterMap_cons,hf];exact ZA);obtain⟨sl,e⟩:=I.base.slot L o ho (I.ok.frf L hL) hL fun z=>I.ok.exfs L z hL;exact⟨hk,⟨L,_,hf,hn,e,hd⟩,ih (fun b hb=>hs b (by unfold frs;rw[List.filterMap_cons,hf];exact Zu _ hb)) hr⟩
 exact all X.outer (fun _ hb=>hb) I.ok.funs
theorem Inv.stack(I:Inv X pins σ H s):s.heap.FunFrames X.base X.stack:=by
 rcases I.ok.stk with e|⟨e,hf⟩
 ·rw[e];exact I.funs
 ·rw[e];obtain⟨m,hn,_⟩:=I.loc;refine .cons (by rw[I.ok.kind];decide) hf hn ?_ I.funs;exact y7 (Zr I.ok.bsz I.ok.above)
theorem Inv.stkSub(I:Inv X pins σ H s):∀b∈frs X.stack,b∈X.env.locals::X.fs:=fun b hb=>by
 rcases I.ok.stk with e|⟨e,hf⟩
 ·rw[e]at hb;exact Zu _ hb
 ·rw[e]at hb;unfold frs at hb;rw[List.filterMap_cons,hf]at hb;exact hb
theorem Inv.stkFree(I:Inv X pins σ H s):∀b∈frs X.stack,H b=none:=fun b hb=>by
 rcases Ze.mp (I.stkSub b hb)with e|hb
 ·rw[e];exact I.free
 ·obtain⟨_,o,ho,_⟩:=I.ok.funs.mem hb;exact I.base.free b o ho (I.ok.frf b hb) fun z=>I.ok.exfs b z hb
theorem Inv.step{g':Array GenState}{t':Nat}{d':Drawn}{ch:List Addr}(I:Inv X pins σ H s)(hch:∀b∈ch,(b∈X.ex\/X.s₀.heap.objs.size<=b)/\b≠X.env.locals/\(∀x c,X.env.cells.lookup x=some c->c≠b)/\∀p∈X.pn++pins,p.1≠b)(keep:∀b o,b≠X.env.locals->b∉X.fs->b∉ch->s.heap.get? b=some o->H b=none->h'.get? b=some o)(slot:∀b o,b≠X.env.locals->b∈X.fs->b∉ch->s.heap.get? b=some o->H b=none->∃sl,h'.get? b=some { o with slots:=sl })(free:∀b o,b∉ch->s.heap.get? b=some o->H b=none->H' b=none)(there:∀b o,b∉ch->s.heap.get? b=some o->∃o',h'.get? b=some o')(tups:∀b xs,H b=some (.tup xs)->H' b=some (.tup xs))(frzs:∀b o u,H b=some (.frz o u)->H' b=some (.frz o u))(tbls:∀b ps,H b=some (.tbl ps)->∃more,H' b=some (.tbl (ps++more)))(ns:∀m,s.heap.Ns X.env.locals m->h'.Ns X.env.locals m)(hok:HOk X.prog X.w H' h')(hg:AllBare g') :
  Inv X pins σ H' { s with heap:=h',gens:=g',drawn:=d',toks:=t' }:=by
 have neL:∀b o,X.s₀.heap.get? b=some o->b≠X.env.locals:=fun b o e=>Zt (Zy (Zf e) I.ok.above);have neC:∀b o,X.s₀.heap.get? b=some o->b∉X.ex->b∉ch:=fun b o e hx hb=>by
  rcases(hch b hb).1 with z|z
  ·exact hx z
  ·exact absurd (Zy (Zf e) z) (Yc _)
 have cellK:∀x c,X.env.cells.lookup x=some c->∀v,s.heap.IsCell c v->h'.IsCell c v:=fun x c e v ⟨o,ho,hd⟩=>by
  have nch:c∉ch:=fun z=>(hch c z).2.2.1 x c e rfl;by_cases hc:c∈X.fs
  ·obtain⟨sl,q⟩:=slot c o (I.cne x c e) hc nch ho (I.freeC x c e);exact⟨_,q,hd⟩
  ·exact⟨o,keep c o (I.cne x c e) hc nch ho (I.freeC x c e),hd⟩
 refine⟨I.ok,I.os,hg,⟨fun b o e n hb hx=>?_,fun b o e n hb hx=>?_,fun b o e n hx=>?_,fun b o e hx=>?_,fun b xs e=>tups b xs (I.base.tups b xs e),fun b o xs e=>frzs b o xs (I.base.frzs b o xs e),fun b ps e=>?_⟩,?_,fun x c e=>?_,?_,fun x c e=>?_,fun p hp=>?_,hok,I.len⟩
 ·exact keep b o (neL b o e) hb (neC b o e hx) (I.base.keep b o e n hb hx) (I.base.free b o e n hx)
 ·obtain⟨sl,e1⟩:=I.base.slot b o e n hb hx;obtain⟨sl',e2⟩:=slot b _ (neL b o e) hb (neC b o e hx) e1 (I.base.free b o e n hx);exact⟨sl',e2⟩
 ·obtain⟨o',e1⟩:=I.base.there b o e hx;exact free b o' (neC b o e hx) e1 (I.base.free b o e n hx)
 ·obtain⟨o',e1⟩:=I.base.there b o e hx;exact there b o' (neC b o e hx) e1
 ·obtain⟨m1,e1⟩:=I.base.tbls b ps e;obtain⟨m2,e2⟩:=tbls b _ e1;exact⟨m1++m2,by rw[e2,Array.append_assoc]⟩
 ·obtain⟨m,hn,hl⟩:=I.loc;refine⟨m,ns m hn,fun i x v e1 e2 e3=>?_⟩;obtain⟨u,r,l⟩:=hl i x v e1 e2 e3;refine⟨u,r,?_⟩;rcases l with l|⟨k,c,e,z⟩
  ·exact .inl l
  ·exact .inr ⟨k,c,e,cellK x c e _ z⟩
 ·obtain⟨v,z⟩:=I.cell x c e;exact⟨v,cellK x c e v z⟩
 ·obtain⟨m,⟨o,_,_,ho,_⟩,_⟩:=I.loc;exact free _ o (fun z=>(hch _ z).2.1 rfl) ho I.free
 ·obtain⟨v,o,ho,hd⟩:=I.cell x c e;exact free c o (fun z=>(hch c z).2.2.1 x c e rfl) ho (I.freeC x c e)
 ·obtain⟨e,n,ne,nf,d⟩:=I.pin p hp;have nch:p.1∉ch:=fun z=>(hch p.1 z).2.2.2 p hp rfl;exact⟨keep p.1 p.2 ne nf nch e n,free p.1 p.2 nch e n,ne,nf,d⟩
theorem Inv.un{t':Nat}(I:Inv X pins σ H s)(u:Un X.fs [] H H' s.heap h')(hok:HOk X.prog X.w H' h'):Inv X pins σ H' { s with heap:=h',toks:=t' }:=by
 obtain⟨m,⟨o,es,ep,ho,r⟩,_⟩:=id I.loc;obtain⟨sl,hL⟩:=u.any ho I.free (by simp);exact I.step (g':=s.gens) (d':=s.drawn) (ch:=[]) (fun _ z=>nomatch z) (fun b o _ hb _ e n=>u.keep b o e n hb (by simp)) (fun b o _ hb _ e n=>u.slot b o e n hb (by simp)) (fun b o _ e n=>u.free b o e n (by simp)) (fun b o _ e=>u.there b o e (by simp)) u.tups u.frzs u.tbls (fun m' hm=>by
  obtain⟨o',es',ep',ho',r'⟩:=hm;rw[ho]at ho';cases ho';exact⟨_,es',ep',hL,r'⟩) hok I.bare
theorem Inv.call{g':Array GenState}{t':Nat}{d':Drawn}{ch:List Addr}(I:Inv X pins σ H s)(u:Un (frs X.stack) ch H H' s.heap h')(hok:HOk X.prog X.w H' h')(hg:AllBare g')(hch:∀b∈ch,(b∈X.ex\/X.s₀.heap.objs.size<=b)/\b≠X.env.locals/\(∀x c,X.env.cells.lookup x=some c->c≠b)/\∀p∈X.pn++pins,p.1≠b) :
  Inv X pins σ H' { s with heap:=h',gens:=g',drawn:=d',toks:=t' }:=by
 obtain⟨m,⟨o,es,ep,ho,r⟩,_⟩:=id I.loc;obtain⟨sl,hL⟩:=u.any ho I.free fun z=>(hch _ z).2.1 rfl;exact I.step (ch:=ch) hch (fun b o hL hb hc e n=>u.keep b o e n (fun z=>(Ze.mp (I.stkSub b z)).elim hL hb) hc) (fun b o _ _ hc e n=>u.any e n hc) (fun b o hc e n=>u.free b o e n hc) (fun b o hc e=>u.there b o e hc) u.tups u.frzs u.tbls (fun m' hm=>by
  obtain⟨o',es',ep',ho',r'⟩:=hm;rw[ho]at ho';cases ho';exact⟨_,es',ep',hL,r'⟩) hok hg
theorem Inv.turned{t':Nat}{it:Addr}(I:Inv X pins σ H s)(k:∀b o,b≠it->s.heap.get? b=some o->h'.get? b=some o)(hn:H it=none)(hL:it≠X.env.locals)(h1:it∈X.ex\/X.s₀.heap.objs.size<=it)(h2:∀x c,X.env.cells.lookup x=some c->c≠it)(h3:∀p∈X.pn++pins,p.1≠it):Inv X pins σ H { s with heap:=h',toks:=t' }:=by
 have nit:∀b u,H b=some u->b≠it:=fun b u e z=>by rw[z,hn]at e;cases e
 refine I.step (g':=s.gens) (d':=s.drawn) (ch:=[it]) (fun b hb=>?_) (fun b o _ _ hc e _=>k b o (fun z=>hc (by simp[z])) e) (fun b o _ _ hc e _=>⟨o.slots,k b o (fun z=>hc (by simp[z])) e⟩) (fun _ _ _ _ n=>n)
  (fun b o hc e=>⟨o,k b o (fun z=>hc (by simp[z])) e⟩) (fun _ _ e=>e) (fun _ _ _ e=>e) (fun b ps e=>⟨#[],by rw[e];simp⟩) (fun m hm=>?_) (fun b u e=>?_) I.bare
 ·have e:b=it:=by simpa using hb
  subst e;exact⟨h1,hL,h2,h3⟩
 ·obtain⟨o,es,ep,ho,r⟩:=hm;exact⟨o,es,ep,k _ o (ZW hL) ho,r⟩
 ·refine(I.hok b u e).stay (fun c v hc q=>k c v ?_ q) (fun _ q=>q) fun _ _ q=>q;rcases hc with z|z
  ·rw[z];exact nit b u e
  ·exact nit c _ z
theorem Inv.tok(I:Inv X pins σ H s)(t:Nat):Inv X pins σ H { s with toks:=t }:=I.un (h':=s.heap) (t':=t) Un.refl I.hok
theorem Inv.kept{t':Nat}(I:Inv X pins σ H s)(k:∀b u,s.heap.get? b=some u->h'.get? b=some u):Inv X pins σ H { s with heap:=h',toks:=t' }:=I.un (Un.kept k) (I.hok.kept k)
theorem Inv.laid{a:Addr}{o:HO}{t':Nat}(I:Inv X pins σ H s)(k:∀b u,s.heap.get? b=some u->h'.get? b=some u)(hp:s.heap.objs.size<=a)(new:ObjOk X.prog X.w (upd H a o) h' a o) :
  Inv X pins σ (upd H a o) { s with heap:=h',toks:=t' }:=I.un (Un.laid k hp (I.hok.fresh hp)) (I.hok.laid k hp new)
theorem Inv.write{x e:Addr}{o:HO}{t':Nat}(I:Inv X pins σ H s)(mu:Mut (H x))(he:e=x\/H e=some (.own x))(k:∀b u,b≠e->s.heap.get? b=some u->h'.get? b=some u)(heo:∃u,h'.get? e=some u)(new:ObjOk X.prog X.w (upd H x o) h' x o):Inv X pins σ (upd H x o) { s with heap:=h',toks:=t' }:=I.un (Un.write mu he k heo) (I.hok.write mu he k heo new)
theorem Inv.weak{σ':List (Option V)}(I:Inv X pins σ H s)(hl:σ'.length=σ.length)(w:∀(i:Nat) v,σ'[i]?=some (some v)->σ[i]?=some (some v)):Inv X pins σ' H s :=
 ⟨I.ok,I.os,I.bare,I.base,let⟨m,hn,hl'⟩:=I.loc;⟨m,hn,fun i x v e1 e2 e3=>hl' i x v e1 (w i v e2) e3⟩,I.cell,I.free,I.freeC,I.pin,I.hok,hl.trans I.len⟩
theorem Inv.pins_of{pins':List (Addr×Obj)}(I:Inv X pins σ H s)(h:∀p∈pins',s.heap.get? p.1=some p.2/\H p.1=none/\p.1≠X.env.locals/\p.1∉X.fs/\∀v,p.2.data≠.cell v):Inv X pins' σ H s :=
 ⟨I.ok,I.os,I.bare,I.base,I.loc,I.cell,I.free,I.freeC,fun p hp=>(ZG.mp hp).elim (fun z=>I.pin p (List.mem_append_left _ z)) (h p),I.hok,I.len⟩
theorem qu{N:List Str}(hN:N.Nodup){i j:Nat}{x:Str}(a:N[i]?=some x)(b:N[j]?=some x):i=j:=by obtain⟨h1,e1⟩:=Zk.mp a;obtain⟨h2,e2⟩:=Zk.mp b;exact(List.getElem_inj hN).mp (e1.trans e2.symm)
theorem nE{M:Model}{A:Around}{E:Value->Shared->Prop}{i:Nat}{x:Str}{v:V}{u:Value}{Q:Unit->Shared->Prop}(I:Inv X pins σ H s)(hN:X.N.Nodup)(hi:X.N[i]?=some x)(hx:Loc X.env.scope x)(r:RelV v u)(h:∀s',Inv X pins (σ.set i (some v)) H s'->(∃a,Heap.SameBut a s.heap s'.heap/\(a=X.env.locals\/X.env.cells.lookup x=some a))->Q () s')(hf:X.fn x=true\/X.env.scope.names.lookup x=some .local:=by first|exact .inl rfl|exact .inr rfl|assumption):wpAny M A (storeName X.env x u) Q E s:=by
 obtain⟨m,hn,hl⟩:=id I.loc;have hcls:(X.env.scope.kind == .class ||(X.env.scope.kind == .module&&X.env.locals != X.env.globals))=false:=by rw[I.ok.kind];rfl
 have hiσ:i<σ.length:=by rw[I.len];exact(Zk.mp hi).1
 have cne:=I.cne;have tracked:∀{a:Addr} {h':Heap},(∃o,s.heap.get? a=some o/\H a=none)->Heap.SameBut a s.heap h'->HOk X.prog X.w H h':=fun{a h'} ha hs b ob e=>by
  obtain⟨_,_,hfree⟩:=ha;refine(I.hok b ob e).stay (fun c w' hc q=>(hs.2 c ?_).trans q) (fun _ q=>q) fun _ _ q=>q;rintro rfl;rcases hc with rfl|hc
  ·rw[hfree]at e;cases e
  ·rw[hfree]at hc;cases hc
 rcases hx with hk|hk
 ·refine wpAny_storeName_local hk hn (fun h' hn' hs=>?_) hcls;obtain⟨oL,_,_,hoL,_⟩:=id hn;refine h _ ⟨I.ok,I.os,I.bare,⟨fun b o e n hb hx=>?_,fun b o e n hb hx=>?_,I.base.free,fun b o e hx=>?_,I.base.tups,I.base.frzs,I.base.tbls⟩,⟨_,hn',fun j y v' e1 e2 e3=>?_⟩,fun y c e=>?_,I.free,I.freeC,fun p hp=>?_,tracked ⟨oL,hoL,I.free⟩ hs,by simpa using I.len⟩ ⟨_,hs,.inl rfl⟩
  ·exact(hs.2 b (Zt (Zy (Zf e) I.ok.above))).trans (I.base.keep b o e n hb hx)
  ·obtain⟨sl,e1⟩:=I.base.slot b o e n hb hx;exact⟨sl,(hs.2 b (Zt (Zy (Zf e) I.ok.above))).trans e1⟩
  ·obtain⟨o',e1⟩:=I.base.there b o e hx;exact⟨o',(hs.2 b (Zt (Zy (Zf e) I.ok.above))).trans e1⟩
  ·by_cases hj:j=i
   ·subst hj;rw[hi]at e1;cases e1;rw[List.getElem?_set_self hiσ]at e2;cases e2;exact⟨u,r,.inl ⟨hk,by simp⟩⟩
   ·rw[List.getElem?_set_ne (ZW hj)]at e2;obtain⟨u',r',q⟩:=hl j y v' e1 e2 e3;refine⟨u',r',?_⟩;rcases q with⟨k,e⟩|⟨k,c,e,z⟩
    ·refine .inl ⟨k,?_⟩;have:y≠x:=fun e=>hj (qu hN e1 (e▸hi));simp[this,e]
    ·exact .inr ⟨k,c,e,z.sameBut hs (cne y c e)⟩
  ·obtain⟨w',z⟩:=I.cell y c e;exact⟨w',z.sameBut hs (cne y c e)⟩
  ·obtain⟨e,n,ne,nf,d⟩:=I.pin p hp;exact⟨(hs.2 p.1 ne).trans e,n,ne,nf,d⟩
 ·have hfn:X.fn x=true:=by
   rcases hf with z|z
   ·exact z
   ·rw[z]at hk;cases hk
  obtain⟨c,hc⟩:=I.ok.has x (.inl hk);obtain⟨w',z⟩:=I.cell x c hc;refine wpAny_storeName_cell I.ok.kind hk hc z (fun h' hc' hs=>?_);obtain⟨oc,hoc,hocd⟩:=id z;refine h { s with heap:=h' } ⟨I.ok,I.os,I.bare,⟨fun b o e n hb hx=>?_,fun b o e n hb hx=>?_,I.base.free,fun b o e hx=>?_,I.base.tups,I.base.frzs,I.base.tbls⟩,⟨m,hn.sameBut hs (ZW (cne x c hc)),fun j y v' e1 e2 e3=>?_⟩,fun y c' e=>?_,I.free,I.freeC,fun p hp=>?_,tracked ⟨oc,hoc,I.freeC x c hc⟩ hs,by simpa using I.len⟩ ⟨c,hs,.inr hc⟩
  ·exact(hs.2 b (Zt (Zy (Zf e) (I.ok.cab x c hfn hc)))).trans (I.base.keep b o e n hb hx)
  ·obtain⟨sl,e1⟩:=I.base.slot b o e n hb hx;exact⟨sl,(hs.2 b (Zt (Zy (Zf e) (I.ok.cab x c hfn hc)))).trans e1⟩
  ·obtain⟨o',e1⟩:=I.base.there b o e hx;exact⟨o',(hs.2 b (Zt (Zy (Zf e) (I.ok.cab x c hfn hc)))).trans e1⟩
  ·by_cases hj:j=i
   ·subst hj;rw[hi]at e1;cases e1;rw[List.getElem?_set_self hiσ]at e2;cases e2;exact⟨u,r,.inr ⟨.inl hk,c,hc,hc'⟩⟩
   ·rw[List.getElem?_set_ne (ZW hj)]at e2;obtain⟨u',r',q⟩:=hl j y v' e1 e2 e3;refine⟨u',r',?_⟩;rcases q with q|⟨k,c',e,z'⟩
    ·exact .inl q
    ·refine .inr ⟨k,c',e,z'.sameBut hs ?_⟩;rintro rfl;exact hj (qu hN e1 (I.ok.inj _ _ _ e hc▸hi))
  ·by_cases hcc:c'=c
   ·subst hcc;exact⟨_,hc'⟩
   ·obtain⟨w2,z2⟩:=I.cell y c' e;exact⟨w2,z2.sameBut hs hcc⟩
  ·obtain⟨e,n,ne,nf,d⟩:=I.pin p hp;refine⟨(hs.2 p.1 ?_).trans e,n,ne,nf,d⟩;intro q;rw[q,hoc]at e;have q':oc=p.2:=Zw e;exact d w' (by rw[<-q'];exact hocd)
theorem kJ{M:Model}{A:Around}{E:Value->Shared->Prop}{i:Nat}{x:Str}{v:V}{u:Value}{Q:Unit->Shared->Prop}(I:Inv X pins σ H s)(hN:X.N.Nodup)(hi:X.N[i]?=some x)(hx:Loc X.env.scope x)(r:RelV v u)(h:∀s',Inv X pins (σ.set i (some v)) H s'->Q () s')(hf:X.fn x=true\/X.env.scope.names.lookup x=some .local:=by first|exact .inl rfl|exact .inr rfl|assumption):wpAny M A (storeName X.env x u) Q E s :=
 nE I hN hi hx r (fun s' I' _=>h s' I') hf
theorem Inv.call'{s':Shared}{ch:List Addr}(I:Inv X pins σ H s)(ho:s'.os=s.os)(u:Un (frs X.stack) ch H H' s.heap s'.heap)(hok:HOk X.prog X.w H' s'.heap)(hg:AllBare s'.gens)(hch:∀b∈ch,(b∈X.ex\/X.s₀.heap.objs.size<=b)/\b≠X.env.locals/\(∀x c,X.env.cells.lookup x=some c->c≠b)/\∀p∈X.pn++pins,p.1≠b):Inv X pins σ H' s':=by obtain⟨h',g',d',t',o'⟩:=s';have e:o'=s.os:=ho;subst e;exact I.call (g':=g') (t':=t') (d':=d') u hok hg hch
end
abbrev XK:=Value->Option Addr->Hp->Prop
abbrev St:=List (Option V)
abbrev VK:=V->Hp->Prop
abbrev TE:=St->Hp->VK->Prop
abbrev TT:=St->Hp->(Bool->Hp->Prop)->Prop
abbrev TA:=St->Hp->(List V->Hp->Prop)->Prop
structure Ends where
 nx:St->Hp->Prop
 rt:VK
 bk:St->Hp->Prop:=fun _ _=>False
 ct:St->Hp->Prop:=fun _ _=>False
abbrev TS:=Ends->St->Hp->Prop
def EP(X:Cx)(pins:List (Addr×Obj))(σ:St)(Q:VK)(u:Value)(s':Shared):Prop:=∃v H',Inv X pins σ H' s'/\RelV v u/\Q v H'
def TP(X:Cx)(pins:List (Addr×Obj))(σ:St)(Q:Bool->Hp->Prop)(b:Bool)(s':Shared):Prop:=∃H',Inv X pins σ H' s'/\Q b H'
def AP(X:Cx)(pins:List (Addr×Obj))(σ:St)(Q:List V->Hp->Prop)(us:List Value)(s':Shared):Prop:=∃vs H',Inv X pins σ H' s'/\Vals vs us/\Q vs H'
def SP(X:Cx)(pins:List (Addr×Obj))(D:Ends)(f:Flow)(s':Shared):Prop :=
 match f with
 |.next=>∃σ' H',Inv X pins σ' H' s'/\D.nx σ' H'
 |.brk=>∃σ' H',Inv X pins σ' H' s'/\D.bk σ' H'
 |.cont=>∃σ' H',Inv X pins σ' H' s'/\D.ct σ' H'
 |.ret u=>∃v σ' H',Inv X pins σ' H' s'/\RelV v u/\D.rt v H'
def PE(X:Cx)(e:Expr)(t:TE):Prop :=
 ∀(pins:List (Addr×Obj)) (s:Shared) (σ:St) (H:Hp) (Q:VK),Inv X pins σ H s->t σ H Q->wpAny (model X.prog X.w) X.A (eval e X.env) (EP X pins σ Q) X.xe s
def PT(X:Cx)(e:Expr)(t:TT):Prop :=
 ∀(pins:List (Addr×Obj)) (s:Shared) (σ:St) (H:Hp) (Q:Bool->Hp->Prop),Inv X pins σ H s->t σ H Q->wpAny (model X.prog X.w) X.A (isTrue e X.env (eval e X.env)) (TP X pins σ Q) X.xe s
def PW(X:Cx)(e:Expr)(t:TT):Prop :=
 ∀(whole:Sem Value) (pins:List (Addr×Obj)) (s:Shared) (σ:St) (H:Hp) (Q:Bool->Hp->Prop),Inv X pins σ H s->t σ H Q->wpAny (model X.prog X.w) X.A (isTrue e X.env whole) (TP X pins σ Q) X.xe s
theorem PW.pt{X:Cx}{e:Expr}{t:TT}(h:PW X e t):PT X e t:=h _
def PA(X:Cx)(es:List Expr)(t:TA):Prop :=
 ∀(pos:Pos) (pins:List (Addr×Obj)) (s:Shared) (σ:St) (H:Hp) (Q:List V->Hp->Prop),Inv X pins σ H s->t σ H Q->wpAny (model X.prog X.w) X.A (spliced (backTo pos (starEach es X.env))) (AP X pins σ Q) X.xe s
def PS(X:Cx)(st:Stmt)(t:TS):Prop :=
 ∀(pins:List (Addr×Obj)) (s:Shared) (σ:St) (H:Hp) (D:Ends),Inv X pins σ H s->t D σ H->wpAny (model X.prog X.w) X.A (exec st X.env) (SP X pins D) X.xe s
def PSs(X:Cx)(st:List Stmt)(t:TS):Prop :=
 ∀(pins:List (Addr×Obj)) (s:Shared) (σ:St) (H:Hp) (D:Ends),Inv X pins σ H s->t D σ H->wpAny (model X.prog X.w) X.A (execs st X.env) (SP X pins D) X.xe s
theorem thn{α:Type}{t:Sem α}{Q Q':α->Shared->Prop}{M:Model}{A:Around}{E:Value->Shared->Prop}{s:Shared}(h:wpAny M A t Q E s)(hQ:∀a s,Q a s->Q' a s):wpAny M A t Q' E s:=ZY h hQ fun _ _ x=>x
open PySem PySem.Spec PyProof.Rows
section
variable{X:Cx}
inductive tVar(i:Nat)(σ:St)(H:Hp)(Q:VK):Prop
 |mk (v:V) (h:σ[i]?=some (some v)) (q:Q v H):tVar i σ H Q
def tC(v:V):TE:=fun _ H Q=>Q v H
theorem BK{i:Nat}{x:Str}{pos:Pos}(hN:X.N[i]?=some x)(hv:Vis X.env.scope x)(hd:(x==("__debug__":Str))=false:=by decide)(hcd:(x==("__classdict__":Str))=false:=by decide):PE X (.Name x pos) (tVar i):=by
 intro pins s σ H Q I h;obtain⟨v,e,h⟩:=h;obtain⟨m,hn,hl⟩:=I.loc;obtain⟨u,r,l⟩:=hl i x v hN e hv;have fin:EP X pins σ Q u s:=⟨v,H,I,r,h⟩
 rcases l with⟨hk,hm⟩|⟨hk,c,hc,hcell⟩
 ·exact wpAny_Name (wpAny_loadName_local I.ok.kind hk hn hm fin) hd
 ·rcases hk with hk|hk
  ·exact wpAny_Name (wpAny_loadName_cell I.ok.kind hk hc hcell fin) hd
  ·exact wpAny_Name (wpAny_loadName_free I.ok.kind hk hc hcell fin hcd) hd
theorem BD{i j pos}:PE X (.Constant (.int i) j pos) (tC (.int i)):=fun _ _ _ H _ I h=>wpAny_Constant_int ⟨.int i,H,I.tok _,⟨_,rfl⟩,h⟩
theorem C2{b j pos}:PE X (.Constant (.bool b) j pos) (tC (.bl b)):=fun _ _ _ H _ I h=>Constant_bool ⟨.bl b,H,I,rfl,h⟩
theorem BF{j pos}:PE X (.Constant .none j pos) (tC .non):=fun _ _ _ H _ I h=>Constant_none ⟨.non,H,I,rfl,h⟩
theorem BI{x j pos}:PE X (.Constant (.str x) j pos) (tC (.str x)):=fun _ _ _ H _ I h=>Calls.Constant_str ⟨.str x,H,I.tok _,⟨_,rfl⟩,h⟩
def Gl(X:Cx)(x:Str):Prop:=X.env.kindOf x=some .globalImplicit
theorem fA{E:Value->Shared->Prop}{pins:List (Addr×Obj)}{s:Shared}{σ:St}{H:Hp}{x:Str}{u:Value}{pos:Pos}{Q:Value->Shared->Prop}(I:Inv X pins σ H s)(hg:Gl X x)(hm:X.mg x=some u)(h:Q u s)(hd:(x==("__debug__":Str))=false:=by decide):wpAny (model X.prog X.w) X.A (eval (.Name x pos) X.env) Q E s :=
 Calls.Name_function_global I.ok.kind hg (Calls.loadGlobal_global (by rw[I.ok.glob];exact I.mod.glob.keeps I.bk) hm h) hd
theorem cS{E:Value->Shared->Prop}{pins:List (Addr×Obj)}{s:Shared}{σ:St}{H:Hp}{x:Str}{u:Value}{pos:Pos}{Q:Value->Shared->Prop}(I:Inv X pins σ H s)(hg:Gl X x)(hm:X.mg x=none)(hv:bootBuiltins x=some u)(h:Q u s)(hn:x≠"__name__":=by decide)(hd:(x==("__debug__":Str))=false:=by decide):wpAny (model X.prog X.w) X.A (eval (.Name x pos) X.env) Q E s:=by obtain⟨mb,h1,h2⟩:=I.mod.blt;exact Calls.Name_function_global I.ok.kind hg (Calls.loadGlobal_builtin (by rw[I.ok.glob];exact I.mod.glob.keeps I.bk) hm (by rw[I.ok.blt];exact h1.keeps I.bk) ((h2 x hn).trans hv) h) hd
theorem mG{x:Str}{v:V}{u:Value}{pos:Pos}(hg:Gl X x)(hm:X.mg x=some u)(r:RelV v u)(hd:(x==("__debug__":Str))=false:=by decide):PE X (.Name x pos) (tC v) :=
 fun _ _ _ H _ I h=>fA I hg hm ⟨v,H,I,r,h⟩ hd
theorem zV{x:Str}{v:V}{u:Value}{pos:Pos}(hg:Gl X x)(hm:X.mg x=none)(hv:bootBuiltins x=some u)(r:RelV v u)(hn:x≠"__name__":=by decide)(hd:(x==("__debug__":Str))=false:=by decide):PE X (.Name x pos) (tC v) :=
 fun _ _ _ H _ I h=>cS I hg hm hv ⟨v,H,I,r,h⟩ hn hd
variable{a b:Expr}{ta tb:TE}{pos:Pos}
inductive IsB(x:V)(H:Hp)(Q:Bool->Hp->Prop):Prop
 |mk (c:Bool) (h:x=.bl c) (q:Q c H):IsB x H Q
def tB(t:TE):TT:=fun σ H Q=>t σ H fun x H1=>IsB x H1 Q
theorem BW{e:Expr}{t:TE}(h:PE X e t)(he:∀whole,isTrue e X.env whole=(do let v ←whole;standAt e.pos;holding [v] (truthy v)):=by intro _;rfl):PT X e (tB t):=by intro pins s σ H Q I hw;refine isTrue_plain (thn (h pins s σ H _ I hw) fun v s1 hz9=>?_) (he _);obtain⟨x,H1,I1,r1,q1⟩:=hz9;obtain⟨d,rfl,q⟩:=q1;cases r1;exact ZU ⟨H1,I1,q⟩
variable{tA tB':TT}{rest:List Expr}
def Cb(t u:TT):TT:=fun σ H Q=>t σ H fun c H1=>if c=true then u σ H1 Q else Q false H1
def tOr(t u:TT):TT:=fun σ H Q=>t σ H fun c H1=>if c=true then Q true H1 else u σ H1 Q
def yj(t:TT):TT:=fun σ H Q=>t σ H fun c H1=>Q (!c) H1
theorem An(ha:PT X a tA):PW X (.BoolOp .And [a] pos) tA:=by
 intro wh pins s σ H Q I h;refine isTrue_and (thn (ha pins s σ H Q I h) fun c s1 e=>?_);cases c with
 |true=>exact isTrue_and_nil e
 |false=>exact e
theorem BZ(ha:PT X a tA):PW X (.BoolOp .Or [a] pos) tA:=by
 intro wh pins s σ H Q I h;refine isTrue_or (thn (ha pins s σ H Q I h) fun c s1 e=>?_);cases c with
 |false=>exact isTrue_or_nil e
 |true=>exact e
theorem BY(ha:PT X a tA)(hb:PW X (.BoolOp .And (b::rest) pos) tB'):PW X (.BoolOp .And (a::b::rest) pos) (Cb tA tB'):=by
 intro wh pins s σ H Q I h;refine isTrue_and (thn (ha pins s σ H _ I h) fun c s1 ⟨H1,I1,q1⟩=>?_);cases c with
 |true=>exact hb wh pins s1 σ H1 Q I1 q1
 |false=>exact⟨H1,I1,q1⟩
theorem C9(ha:PT X a tA)(hb:PW X (.BoolOp .Or (b::rest) pos) tB'):PW X (.BoolOp .Or (a::b::rest) pos) (tOr tA tB'):=by
 intro wh pins s σ H Q I h;refine isTrue_or (thn (ha pins s σ H _ I h) fun c s1 ⟨H1,I1,q1⟩=>?_);cases c with
 |true=>exact⟨H1,I1,q1⟩
 |false=>exact hb wh pins s1 σ H1 Q I1 q1
theorem BV(ha:PT X a tA):PT X (.UnaryOp .Not a pos) (yj tA):=by intro pins s σ H Q I h;exact isTrue_not (ha pins s σ H (fun c H1=>Q (!c) H1) I h)
def yP(ta tb:TE):TE:=fun σ H Q=>ta σ H fun x H1=>∃c,x=.bl c/\if c=true then tb σ H1 Q else Q (.bl false) H1
def yk(ta tb:TE):TE:=fun σ H Q=>ta σ H fun x H1=>∃c,x=.bl c/\if c=true then Q (.bl true) H1 else tb σ H1 Q
def uk(ta:TE):TE:=fun σ H Q=>ta σ H fun x H1=>∃c,x=.bl c/\Q (.bl (!c)) H1
theorem BH{op}{t:TE}(h:PE X a t):PE X (.BoolOp op [a] pos) t:=fun pins s σ H Q I hw=>BoolOp_one (h pins s σ H Q I hw)
theorem BB(ha:PE X a ta)(hb:PE X (.BoolOp .And (b::rest) pos) tb):PE X (.BoolOp .And (a::b::rest) pos) (yP ta tb):=by
 intro pins s σ H Q I h;refine BoolOp_and (thn (ha pins s σ H _ I h) fun v s1 hz9=>?_);obtain⟨x,H1,I1,r1,q1⟩:=hz9;obtain⟨c,rfl,q1⟩:=q1;cases r1;refine ZU ?_;cases c with
 |true=>exact hb pins s1 σ H1 Q I1 q1
 |false=>exact⟨.bl false,H1,I1,rfl,q1⟩
theorem C6(ha:PE X a ta)(hb:PE X (.BoolOp .Or (b::rest) pos) tb):PE X (.BoolOp .Or (a::b::rest) pos) (yk ta tb):=by
 intro pins s σ H Q I h;refine BoolOp_or (thn (ha pins s σ H _ I h) fun v s1 hz9=>?_);obtain⟨x,H1,I1,r1,q1⟩:=hz9;obtain⟨c,rfl,q1⟩:=q1;cases r1;refine ZU ?_;cases c with
 |false=>exact hb pins s1 σ H1 Q I1 q1
 |true=>exact⟨.bl true,H1,I1,rfl,q1⟩
theorem BG(ha:PE X a ta):PE X (.UnaryOp .Not a pos) (uk ta):=by intro pins s σ H Q I h;refine UnaryOp_ (thn (ha pins s σ H _ I h) fun v s1 hz9=>?_);obtain⟨x,H1,I1,r1,q1⟩:=hz9;obtain⟨c,rfl,q1⟩:=q1;cases r1;exact not_of (ZU ⟨.bl (!c),H1,I1,rfl,q1⟩)
def tIf(t:TT)(ta tb:TE):TE:=fun σ H Q=>t σ H fun c H1=>if c=true then ta σ H1 Q else tb σ H1 Q
theorem xK{c:Expr}(hc:PT X c tA)(ha:PE X a ta)(hb:PE X b tb):PE X (.IfExp c a b pos) (tIf tA ta tb):=by
 intro pins s σ H Q I h;refine wpAny_IfExp (thn (hc pins s σ H _ I h) fun d s1 ⟨H1,I1,q1⟩=>?_);cases d with
 |true=>exact ha pins s1 σ H1 Q I1 q1
 |false=>exact hb pins s1 σ H1 Q I1 q1
end
open PySem PySem.Spec PyProof.Rows
def SqL(K:PySem.W.Frag)(H:Hp)(a:Addr)(xs:List V):Prop :=
 Rd H a (.lst xs) \/
  ∃(o:Obj) (its:Array Value) (n:Nat),K.lookup a=some o/\o.cls=.type "list"/\o.dict=none/\o.data=.seq its n/\its.size<=sizeLine/\Vals xs its.toList
def SqT(K:PySem.W.Frag)(H:Hp)(a:Addr)(xs:List V):Prop :=
 Rd H a (.tup xs) \/
  ∃(o:Obj) (its:Array Value) (n:Nat),K.lookup a=some o/\o.cls=.type "tuple"/\o.data=.seq its n/\its.size<=sizeLine/\Vals xs its.toList
def Do:Value->Option V
 |.none=>some .non
 |.bool b=>some (.bl b)
 |.int i _=>some (.int i)
 |.str x _=>some (.str x)
 |.bytes b _=>some (.byt b)
 |.float b _=>some (.flt b)
 |.ref a=>some (.ref a)
 |.type n=>some (.ty n)
 |_=>none
theorem RelV.abs{x:V}{u:Value}(r:RelV x u):Do u=some x:=by
 cases x with
 |non=>cases r;rfl
 |bl _=>cases r;rfl
 |int _=>obtain⟨t,rfl⟩:=r;rfl
 |str _=>obtain⟨t,rfl⟩:=r;rfl
 |byt _=>obtain⟨t,rfl⟩:=r;rfl
 |flt _=>obtain⟨t,rfl⟩:=r;rfl
 |ref _=>cases r;rfl
 |ty _=>cases r;rfl
theorem RelV.inj{x y:V}{u:Value}(r:RelV x u)(q:RelV y u):x=y:=Zw (r.abs.symm.trans q.abs)
theorem Vals.inj:∀{xs ys:List V} {us:List Value},Vals xs us->Vals ys us->xs=ys
 |_,_,_,.nil,.nil=>rfl
 |_,_,_,.cons r t,.cons r' t'=>by rw[r.inj r',Vals.inj t t']
section
variable{X:Cx}{pins:List (Addr×Obj)}{σ:St}{H:Hp}{s:Shared}{a:Addr}{xs ys:List V}
theorem SqL.of{K:PySem.W.Frag}(h:H a=some (.lst xs)):SqL K H a xs:=.inl (.inl h)
theorem SqT.of{K:PySem.W.Frag}(h:H a=some (.tup xs)):SqT K H a xs:=.inl (.inl h)
theorem Inv.list(I:Inv X pins σ H s)(h:SqL X.K H a xs):∃its:List Value,Vals xs its/\PlainL s.heap a its.toArray/\xs.length<=sizeLine:=by
 rcases h with h|⟨o,its,n,hk,hc,hd,hs,hz,r⟩
 ·obtain⟨z,its,n,r,e⟩:=h.ok I.hok;exact⟨its,r,⟨_,n,e,rfl,rfl,rfl⟩,z⟩
 ·refine⟨its.toList,r,⟨o,n,I.kIn a o hk,hc,hd,by simpa using hs⟩,?_⟩;have e:=r.length;simp only[ZM]at e;omega
theorem Inv.tuple(I:Inv X pins σ H s)(h:SqT X.K H a xs):∃its:List Value,Vals xs its/\IsTup s.heap a its.toArray/\xs.length<=sizeLine:=by
 rcases h with h|⟨o,its,n,hk,hc,hs,hz,r⟩
 ·obtain⟨z,its,r,p⟩:=h.ok I.hok;exact⟨its,r,p,z⟩
 ·refine⟨its.toList,r,⟨o,I.kIn a o hk,hc,n,by simpa using hs⟩,?_⟩;have e:=r.length;simp only[ZM]at e;omega
theorem Inv.list_inj(I:Inv X pins σ H s)(h:SqL X.K H a xs)(h':SqL X.K H a ys):xs=ys:=by
 obtain⟨its,r,⟨o,n,e,_,_,d⟩,_⟩:=I.list h;obtain⟨its',r',⟨o',n',e',_,_,d'⟩,_⟩:=I.list h';rw[e]at e';cases e';rw[d]at d';injection d' with d1 _;have:its=its':=by simpa using ZO Array.toList d1
 subst this;exact r.inj r'
theorem Inv.tuple_inj(I:Inv X pins σ H s)(h:SqT X.K H a xs)(h':SqT X.K H a ys):xs=ys:=by
 obtain⟨its,r,⟨o,e,_,n,d⟩,_⟩:=I.tuple h;obtain⟨its',r',⟨o',e',_,n',d'⟩,_⟩:=I.tuple h';rw[e]at e';cases e';rw[d]at d';injection d' with d1 _;have:its=its':=by simpa using ZO Array.toList d1
 subst this;exact r.inj r'
end
abbrev Cx.wish(X:Cx)(E:Value->Shared->Prop):Cx:={ X with xe:=E }
abbrev Cx.nox(X:Cx):Cx:=X.wish fun _ _=>False
theorem Cx.Ok.wish{X:Cx}(ok:X.Ok)(E:Value->Shared->Prop):(X.wish E).Ok :=
 ⟨ok.mod,ok.kind,ok.glob,ok.blt,ok.above,ok.inj,ok.has,ok.cab,ok.hd,ok.frames,ok.stk,ok.exf,ok.bs,ok.bsz,ok.noex,ok.exfs,ok.funs,ok.frf⟩
theorem Cx.Ok.unwish{X:Cx}{E:Value->Shared->Prop}(ok:(X.wish E).Ok):X.Ok :=
 ⟨ok.mod,ok.kind,ok.glob,ok.blt,ok.above,ok.inj,ok.has,ok.cab,ok.hd,ok.frames,ok.stk,ok.exf,ok.bs,ok.bsz,ok.noex,ok.exfs,ok.funs,ok.frf⟩
section
variable{X:Cx}{pins:List (Addr×Obj)}{σ:St}{H:Hp}{s:Shared}{E:Value->Shared->Prop}
theorem Inv.wish(I:Inv X pins σ H s)(E:Value->Shared->Prop):Inv (X.wish E) pins σ H s:=⟨I.ok.wish E,I.os,I.bare,I.base,I.loc,I.cell,I.free,I.freeC,I.pin,I.hok,I.len⟩
theorem Inv.unwish(I:Inv (X.wish E) pins σ H s):Inv X pins σ H s:=⟨I.ok.unwish,I.os,I.bare,I.base,I.loc,I.cell,I.free,I.freeC,I.pin,I.hok,I.len⟩
theorem SP.unwish{D:Ends}{f:Flow}{s':Shared}(h:SP (X.wish E) pins D f s'):SP X pins D f s':=by
 cases f with
 |next=>obtain⟨σ',H',I,q⟩:=h;exact⟨σ',H',I.unwish,q⟩
 |brk=>obtain⟨σ',H',I,q⟩:=h;exact⟨σ',H',I.unwish,q⟩
 |cont=>obtain⟨σ',H',I,q⟩:=h;exact⟨σ',H',I.unwish,q⟩
 |ret u=>obtain⟨v,σ',H',I,r,q⟩:=h;exact⟨v,σ',H',I.unwish,r,q⟩
theorem PSs.nox{st:List Stmt}{t:TS}(h:PSs X.nox st t):PSs X st t:=fun pins s σ H D I hw =>
 ZY (h pins s σ H D (I.wish _) hw) (fun _ _ q=>q.unwish) fun _ _ z=>False.elim z
end
section
variable{X:Cx}{st:Stmt}{rest:List Stmt}{t u:TS}{e:Expr}{te:TE}{pos:Pos}
def uh:TS:=fun D σ H=>D.nx σ H
def Cj(t u:TS):TS:=fun D σ H=>t { D with nx:=u D } σ H
theorem Aj:PSs X [] uh:=fun _ _ σ H _ I h=>wpAny_execs_nil ⟨σ,H,I,h⟩
theorem xR(h1:PS X st t)(h2:PSs X rest u):PSs X (st::rest) (Cj t u):=by
 intro pins s σ H D I h;refine wpAny_execs_cons (thn (h1 pins s σ H { D with nx:=u D } I h) fun f s1 q=>?_);cases f with
 |next =>obtain⟨σ',H',I',q⟩:=q;exact h2 pins s1 σ' H' D I' q
 |ret v=>exact q
 |brk=>exact q
 |cont=>exact q
theorem Ak(h1:PS X st t):PSs X [st] t:=by
 intro pins s σ H D I h;refine wpAny_execs_cons (thn (h1 pins s σ H D I h) fun f s1 q=>?_);cases f with
 |next=>exact wpAny_execs_nil q
 |ret v=>exact q
 |brk=>exact q
 |cont=>exact q
theorem Inv.quiet{pins:List (Addr×Obj)}{σ:St}{H:Hp}{s:Shared}(I:Inv X pins σ H s):interactive X.env=false:=by simp[interactive,I.ok.kind]
def yQ(te:TE):TS:=fun D σ H=>te σ H fun _ H1=>D.nx σ H1
theorem Ah(he:PE X e te)(hs:swapsWith e none pos.line X.env=pure false:=by rfl):PS X (.Expr e pos) (yQ te):=by intro pins s σ H D I h;exact wpAny_Expr_any (thn (he pins s σ H _ I h) fun v s1 ⟨x,H1,I1,r1,q1⟩=>⟨σ,H1,I1,q1⟩) I.quiet hs
def Ci(te:TE):TS:=fun D σ H=>te σ H D.rt
theorem BT(he:PE X e te):PS X (.Return (some e) pos) (Ci te):=by intro pins s σ H D I h;exact wpAny_Return_some (thn (he pins s σ H _ I h) fun v s1 ⟨x,H1,I1,r1,q1⟩=>⟨x,σ,H1,I1,r1,q1⟩)
def yh(c:TT)(t u:TS):TS:=fun D σ H=>c σ H fun b H1=>if b=true then t D σ H1 else u D σ H1
theorem C8{c:Expr}{a b:List Stmt}{tc:TT}(hc:PT X c tc)(ha:PSs X a t)(hb:PSs X b u):PS X (.If c a b pos) (yh tc t u):=by
 intro pins s σ H D I h;refine wpAny_If (thn (hc pins s σ H _ I h) fun d s1 ⟨H1,I1,q1⟩=>?_);cases d with
 |true=>exact ha pins s1 σ H1 D I1 q1
 |false=>exact hb pins s1 σ H1 D I1 q1
end
abbrev TG:=V->St->Hp->(St->Hp->Prop)->Prop
abbrev TGs:=List V->St->Hp->(St->Hp->Prop)->Prop
def PG(X:Cx)(target:Expr)(t:TG):Prop :=
 ∀(pins:List (Addr×Obj)) (s:Shared) (σ:St) (H:Hp) (v:V) (u:Value) (Q:St->Hp->Prop),Inv X pins σ H s->RelV v u->t v σ H Q ->
  wpAny (model X.prog X.w) X.A (assign target X.env u) (fun _ s'=>∃σ' H',Inv X pins σ' H' s'/\Q σ' H') X.xe s
def PGs(X:Cx)(ts:List Expr)(t:TGs):Prop :=
 ∀(pins:List (Addr×Obj)) (s:Shared) (σ:St) (H:Hp) (vs:List V) (us:List Value) (Q:St->Hp->Prop),Inv X pins σ H s->Vals vs us->t vs σ H Q ->
  wpAny (model X.prog X.w) X.A (assignInOrder ((assignEach ts X.env).map (·.2)) us) (fun _ s'=>∃σ' H',Inv X pins σ' H' s'/\Q σ' H') X.xe s
abbrev pq:=V->V->V->Hp->(Hp->Prop)->Prop
def wL(X:Cx)(t:pq):Prop :=
 ∀(pins:List (Addr×Obj)) (s:Shared) (σ:St) (H:Hp) (o i v:V) (ov iv u:Value) (Q:Hp->Prop),Inv X pins σ H s->RelV o ov->RelV i iv->RelV v u->t o i v H Q ->
  wpAny (model X.prog X.w) X.A (setItem ov iv u) (fun _ s'=>∃H',Inv X pins σ H' s'/\Q H') X.xe s
abbrev TIp:=V->V->Hp->VK->Prop
def PIp(X:Cx)(op:Operator)(t:TIp):Prop :=
 ∀(pins:List (Addr×Obj)) (s:Shared) (σ:St) (H:Hp) (x y:V) (v u:Value) (Q:VK),Inv X pins σ H s->RelV x v->RelV y u->t x y H Q ->
  wpAny (model X.prog X.w) X.A (inplaceOp op v u) (EP X pins σ Q) X.xe s
section
variable{X:Cx}{pos:Pos}
def bV(i:Nat):TG:=fun v σ H Q=>Q (σ.set i (some v)) H
theorem zZ{i:Nat}{x:Str}(hN:X.N.Nodup)(hi:X.N[i]?=some x)(hx:Loc X.env.scope x)(hf:X.fn x=true\/X.env.scope.names.lookup x=some .local:=by first|exact .inl rfl|exact .inr rfl|assumption):PG X (.Name x pos) (bV i):=by intro pins s σ H v u Q I r h;exact wpAny_assign_Name (kJ I hN hi hx r (fun s' I'=>⟨_,H,I',h⟩) hf)
def ml:TGs:=fun vs σ H Q=>vs=[]/\Q σ H
def gi(t:TG)(u:TGs):TGs:=fun vs σ H Q=>∃v r,vs=v::r/\t v σ H fun σ' H'=>u r σ' H' Q
theorem Aa:PGs X [] ml:=by intro pins s σ H vs us Q I r h;obtain⟨e,h⟩:=h;subst e;cases r;exact assignInOrder_nil ⟨σ,H,I,h⟩
theorem xN{e:Expr}{es:List Expr}{t:TG}{u:TGs}(h1:PG X e t)(h2:PGs X es u)(hs:(assignEach (e::es) X.env).map (·.2)=assign e X.env::(assignEach es X.env).map (·.2):=by rfl):PGs X (e::es) (gi t u):=by
 intro pins s σ H vs us Q I r h;obtain⟨v,vr,e1,h⟩:=h;subst e1;cases r with
 |cons r rr =>rw[hs];refine assignInOrder_cons (thn (h1 pins s σ H _ _ _ I r h) fun _ s1 ⟨σ1,H1,I1,q1⟩=>?_);exact h2 pins s1 σ1 H1 _ _ Q I1 rr q1
def mm(K:PySem.W.Frag)(n:Nat)(t:TGs):TG:=fun v σ H Q=>∃a xs,v=.ref a/\SqT K H a xs/\xs.length=n/\t xs σ H Q
theorem BM{es:List Expr}{k:Nat}{t:TGs}{n:Nat}(hc:X.calm=true)(h:PGs X es t)(hn:(assignEach es X.env).length=n:=by rfl)(hst:(assignEach es X.env).findIdx? (·.1)=none:=by rfl):PG X (.Tuple es k pos) (mm X.K n t):=by intro pins s σ H v u Q I r hw;obtain⟨a,xs,e1,hq,hl,hw⟩:=hw;subst e1;cases r;obtain⟨its,rv,ht,hz⟩:=I.tuple hq;refine assign_Tuple_tuple (I.ok.hd hc) ht (by simp[hn,<-hl,rv.length]) hst fun h' hx=>?_;have I1:Inv X pins σ H { s with heap:=h' }:=I.kept (t':=s.toks) fun b o e=>hx b o (Zt (Zf e)) e;exact h pins _ σ H xs _ Q I1 (by simpa using rv) hw
def AU(to ti:TE)(t:pq):TG:=fun v σ H Q=>to σ H fun o H1=>ti σ H1 fun i H2=>t o i v H2 fun H3=>Q σ H3
theorem BL{o i:Expr}{to ti:TE}{t:pq}(ho:PE X o to)(hi:PE X i ti)(hs:wL X t)(ha:∀ v,assign (.Subscript o i pos) X.env v=(do
   let ov ←holding [v] (eval o X.env)
   let iv ←holding [v,ov] (eval i X.env)
   standAt pos
   holding [v,ov,iv] (setItem ov iv v)
   release [v,ov,iv] []):=by intro _;rfl):PG X (.Subscript o i pos) (AU to ti t):=by
 intro pins s σ H v u Q I r h;rw[ha];refine z0 (Z0 (thn (ho pins s σ H _ I h) fun ov s1 hz9=>?_));obtain⟨x,H1,I1,r1,q1⟩:=hz9;refine z0 (Z0 (thn (hi pins s1 σ H1 _ I1 q1) fun iv s2 hz9=>?_));obtain⟨y,H2,I2,r2,q2⟩:=hz9;refine z0 (wpAny_standAt (z0 (Z0 (thn (hs pins s2 σ H2 x y v ov iv u _ I2 r1 r2 r q2) fun _ s3 ⟨H3,I3,q3⟩=>?_))));exact wpAny_release ⟨σ,H3,I3,q3⟩
def mP(te:TE)(g:TG):TS:=fun D σ H=>te σ H fun x H1=>g x σ H1 D.nx
theorem BP{tg e:Expr}{te:TE}{g:TG}(he:PE X e te)(hg:PG X tg g)(hs:swapsWithSole [tg] e pos.line X.env=pure false:=by rfl)(hw:swappedStores [tg] e X.env=pure none:=by rfl)(h1:(assignEach [tg] X.env).map (·.2)=[assign tg X.env]:=by rfl):PS X (.Assign [tg] e pos) (mP te g):=by intro pins s σ H D I h;refine wpAny_Assign_stores (thn (he pins s σ H _ I h) fun v s1 hz9=>?_) hs hw;obtain⟨x,H1,I1,r1,q1⟩:=hz9;rw[h1];exact thn (hg pins s1 σ H1 x v _ I1 r1 q1) fun _ s2 q=>q
theorem BU{i:Nat}{x:Str}{e:Expr}{te:TE}{pos':Pos}(hN:X.N.Nodup)(hi:X.N[i]?=some x)(hx:Loc X.env.scope x)(he:PE X e te)(hs:swapsWith e (some (.Name x pos')) pos.line X.env=pure false:=by rfl)(hf:X.fn x=true\/X.env.scope.names.lookup x=some .local:=by first|exact .inl rfl|exact .inr rfl|assumption) :
  PS X (.Assign [.Name x pos'] e pos) (mP te (bV i)):=by
 intro pins s σ H D I h;refine wpAny_Assign_Name (thn (he pins s σ H _ I h) fun v s1 hz9=>?_) hs;obtain⟨y,H1,I1,r1,q1⟩:=hz9;exact kJ I1 hN hi hx r1 (fun s2 I2=>⟨_,H1,I2,q1⟩) hf
def Cc(i:Nat)(te:TE)(ti:TIp):TS:=fun D σ H=>∃x,σ[i]?=some (some x)/\te σ H fun y H1=>ti x y H1 fun z H2=>D.nx (σ.set i (some z)) H2
theorem BQ{i:Nat}{x:Str}{e:Expr}{te:TE}{op:Operator}{ti:TIp}{pos':Pos}(hN:X.N.Nodup)(hi:X.N[i]?=some x)(hx:Loc X.env.scope x)(he:PE X e te)(ho:PIp X op ti)(hf:X.fn x=true\/X.env.scope.names.lookup x=some .local:=by first|exact .inl rfl|exact .inr rfl|assumption) :
  PS X (.AugAssign (.Name x pos') op e pos) (Cc i te ti):=by
 intro pins s σ H D I h;obtain⟨v,e1,h⟩:=h;obtain⟨m,hn,hl⟩:=I.loc;have vis:Vis X.env.scope x:=by rcases hx with k|k;exact .inl k;exact .inr (.inl k)
 obtain⟨u,r,l⟩:=hl i x v hi e1 vis;refine wpAny_AugAssign_Name ?_;have go:wpAny (model X.prog X.w) X.A (eval e X.env) (fun w s₂=>wpAny (model X.prog X.w) X.A (inplaceOp op u w) (fun r s₃=>wpAny (model X.prog X.w) X.A (storeName X.env x r) (fun _=>SP X pins D .next) X.xe s₃) X.xe s₂) X.xe s:=by refine thn (he pins s σ H _ I h) fun w s1 hz9=>?_;obtain⟨y,H1,I1,r1,q1⟩:=hz9;refine thn (ho pins s1 σ H1 v y u w _ I1 r r1 q1) fun z s2 hz9=>?_;obtain⟨zv,H2,I2,r2,q2⟩:=hz9;exact kJ I2 hN hi hx r2 (fun s3 I3=>⟨_,H2,I3,q2⟩) hf
 rcases l with⟨hk,hm⟩|⟨hk,c,hc,hcell⟩
 ·exact wpAny_loadName_local I.ok.kind hk hn hm go
 ·rcases hk with hk|hk
  ·exact wpAny_loadName_cell I.ok.kind hk hc hcell go
  ·rcases hx with k|k
   ·have:X.env.scope.names.lookup x=some .free:=hk;rw[k]at this;cases this
   ·have:X.env.scope.names.lookup x=some .free:=hk;rw[k]at this;cases this
def ipI(f:Int->Int->Int):TIp:=fun x y H Q=>∃i j,x=.int i/\y=.int j/\Q (.int (f i j)) H
theorem A0:PIp X .Add (ipI fun i j=>i+j):=by intro pins s σ H x y v u Q I r1 r2 h;obtain⟨i,j,e1,e2,q⟩:=h;subst e1;subst e2;obtain⟨t,rfl⟩:=r1;obtain⟨t',rfl⟩:=r2;exact iadd_int ⟨.int _,H,I.tok _,⟨_,rfl⟩,q⟩
end
section
variable{X:Cx}{pos:Pos}
def wx(c:TT)(tb:TS):TS:=fun D σ H=>∃W:Nat->St->Hp->Prop,(∃m,W m σ H)/\∀m σ H,W m σ H ->
 c σ H fun b H1=>if b=true then∃N:St->Hp->Prop,(∀σ' H',N σ' H'->∃m',m'<m/\W m' σ' H')/\tb { D with nx:=N,ct:=N,bk:=D.nx } σ H1 else D.nx σ H1
theorem xQ{c:Expr}{body:List Stmt}{tc:TT}{tb:TS}(hp:PassesOwn (model X.prog X.w) X.A X.env X.xe)(hc:PT X c tc)(hb:PSs X body tb):PS X (.While c body [] pos) (wx tc tb):=by
 intro pins s σ H D I h;obtain⟨W,⟨m0,w0⟩,turn⟩:=h;refine wpAny_While (codeAny_whileLoop (fun n s'=>∃σ' H',Inv X pins σ' H' s'/\W n σ' H') ?_ m0 ⟨σ,H,I,w0⟩);rintro n s1 ⟨σ1,H1,I1,w1⟩;refine wpAny_passesOwn hp (thn (hc pins s1 σ1 H1 _ I1 (turn n σ1 H1 w1)) fun b s2 ⟨H2,I2,q2⟩=>?_);cases b with
 |true =>
  obtain⟨N,hN,q2⟩:=q2;rw[EN rfl];refine wpAny_passesOwn hp (thn (hb pins s2 σ1 H2 _ I2 q2) fun f s3 q3=>?_);cases f with
  |next =>obtain⟨σ3,H3,I3,n3⟩:=q3;obtain⟨m',hm,w3⟩:=hN σ3 H3 n3;exact⟨m',hm,σ3,H3,I3,w3⟩
  |cont =>obtain⟨σ3,H3,I3,n3⟩:=q3;obtain⟨m',hm,w3⟩:=hN σ3 H3 n3;exact⟨m',hm,σ3,H3,I3,w3⟩
  |brk=>exact q3
  |ret v=>exact q3
 |false =>rw[EM Zn];exact wpAny_execs_nil ⟨σ1,H2,I2,q2⟩
end
structure It where
 go:Nat->Hp->Prop
 yld:Nat->Hp->V->Hp->Prop
 stop:Nat->Hp->Prop
def bc(X:Cx)(pins:List (Addr×Obj))(H:Hp)(b:Addr):Prop :=
 H b=none/\b≠X.env.locals/\b∉X.fs/\(b∈X.ex\/X.s₀.heap.objs.size<=b)/\(∀x c,X.env.cells.lookup x=some c->c≠b)/\∀p∈X.pn++pins,p.1≠b
theorem Inv.fpOk{X:Cx}{pins:List (Addr×Obj)}{σ:St}{H H':Hp}{s:Shared}{b:Addr}(I:Inv X pins σ H s)(hb:s.heap.objs.size<=b)(hn:H' b=none):bc X pins H' b:=by
 refine⟨hn,ZV (Zy I.lt hb),I.nofs hb,.inr (Zr I.sz hb),fun x c e z=>?_,fun p hp z=>?_⟩
 ·obtain⟨v,q⟩:=I.cell x c e;exact absurd (Zy q.lt (by rw[z];exact hb)) (Yc _)
 ·exact absurd (Zy (Zf (I.pin p hp).1) (by rw[z];exact hb)) (Yc _)
structure Turn(P:Program)(w:World)(K:PySem.W.Frag)(tg:Expr)(J:It)(fp:List Addr)(it:Addr)(tn:Nat->Heap->Prop):Prop where
 mem:it∈fp
 obj:∀i h,tn i h->∀b∈fp,∃o,h.get? b=some o/\∀v,o.data≠.cell v
 keep:∀i h h',tn i h->(∀b∈fp,∀o,h.get? b=some o->h'.get? b=some o)->tn i h'
 item:∀(X:Cx),X.prog=P->X.w=w->X.K=K->X.calm=true->∀(i:Nat) (pins:List (Addr×Obj)) (s:Shared) (σ:St) (H:Hp) (E:Value->Shared->Prop),Inv X pins σ H s->(∀b∈fp,bc X pins H b)->tn i s.heap->J.go i H ->
  wpAny (model P w) X.A (pyNext (.ref it)) (fun r s1=>∃ u,r=some u /\
   wpAny (model P w) X.A (letOwnedTupleGo tg (.ref it) u) (fun _ s2=>∃ x H',Inv X pins σ H' s2/\RelV x u/\J.yld i H x H'/\tn (i+1) s2.heap/\∀ b∈fp,H' b=none) E s1) E s
 done:∀(X:Cx),X.prog=P->X.w=w->X.K=K->X.calm=true->∀(i:Nat) (pins:List (Addr×Obj)) (s:Shared) (σ:St) (H:Hp) (E:Value->Shared->Prop),Inv X pins σ H s->(∀b∈fp,bc X pins H b)->tn i s.heap->J.stop i H ->
  wpAny (model P w) X.A (pyNext (.ref it)) (fun r s1=>r=none/\Inv X pins σ H s1) E s
 self:∀(A:Around) (i:Nat) (s:Shared) (Q:Value->Shared->Prop) (E:Value->Shared->Prop),tn i s.heap->Q (.ref it) s->wpAny (model P w) A (pyIter (.ref it)) Q E s
abbrev TI:=St->Hp->(It->Hp->Prop)->Prop
def PIE(X:Cx)(pins:List (Addr×Obj))(σ:St)(tg:Expr)(R:It->Hp->Prop)(itv:Value)(s2:Shared):Prop :=
 ∃(it:Addr) (fp:List Addr) (tn:Nat->Heap->Prop) (J:It) (H':Hp),itv=.ref it/\Inv X pins σ H' s2/\Turn X.prog X.w X.K tg J fp it tn/\tn 0 s2.heap/\(∀b∈fp,bc X pins H' b)/\R J H'
def PI(X:Cx)(tg iter:Expr)(wi:TI):Prop :=
 ∀(pins:List (Addr×Obj)) (s:Shared) (σ:St) (H:Hp) (R:It->Hp->Prop),Inv X pins σ H s->wi σ H R ->
  wpAny (model X.prog X.w) X.A (eval iter X.env) (fun v s1=>wpAny (model X.prog X.w) X.A (pyIter v) (PIE X pins σ tg R) X.xe s1) X.xe s
theorem jq{M:Model}{A:Around}{E:Value->Shared->Prop}{s:Shared}{tg:Expr}{it:Addr}{u:Value}{o:Obj}{n:String}{vs:Array Value}{Q:Unit->Shared->Prop}(ho:s.heap.get? it=some o)(hc:o.cls=.type n)(hd:o.data=.fields vs)(hn:["enumerate","zip","dict_itemiterator","dict_reverseitemiterator","odict_iterator","itertools.zip_longest","itertools.pairwise"].contains n=false)(hQ:Q () s):wpAny M A (letOwnedTupleGo tg (.ref it) u) Q E s:=by
 unfold letOwnedTupleGo;cases tg<;>first
  |exact Zj hQ
  | (cases u<;>first
    |exact Zj hQ
    | (refine z0 (wpAny_load ho ?_)
       rw[hc,hd];show wpAny M A (if(["enumerate","zip","dict_itemiterator","dict_reverseitemiterator","odict_iterator","itertools.zip_longest","itertools.pairwise"].contains n&&vs[0]?==some (rawInt _))=true then _ else _) Q E s;rw[EM (by intro h;rw[hn,Bool.false_and]at h;cases h)];exact Zj hQ))
def Itl(K:PySem.W.Frag)(a:Addr):It :=
 ⟨fun i H=>∃xs x,SqL K H a xs/\xs[i]?=some x,fun i H x H'=>H'=H/\∀xs,SqL K H a xs->xs[i]?=some x,fun i H=>∃xs,SqL K H a xs/\xs.length<=i⟩
def Itt(K:PySem.W.Frag)(a:Addr):It :=
 ⟨fun i H=>∃xs x,SqT K H a xs/\xs[i]?=some x,fun i H x H'=>H'=H/\∀xs,SqT K H a xs->xs[i]?=some x,fun i H=>∃xs,SqT K H a xs/\xs.length<=i⟩
def Itr(lo:Int)(n:Nat):It:=⟨fun i _=>i<n,fun i H x H'=>H'=H/\x=.int (lo+i),fun i _=>n<=i⟩
theorem wE{P:Program}{w:World}{K:PySem.W.Frag}{tg:Expr}(a it:Addr):Turn P w K tg (Itl K a) [it] it (fun i h=>h.IsListIter it a i) where
 mem:=by simp
 obj:=fun i h st b hb=>by
  have e:b=it:=by simpa using hb
  subst e;obtain⟨o,e,c,d⟩:=st;exact⟨o,e,fun v z=>by rw[d]at z;cases z⟩
 keep:=fun i h h' st k=>st.at fun o e=>k it (by simp) o e
 item:=by intro X hP hw hK hc i pins s σ H E I hf st hg;subst hP hw hK;obtain⟨xs,x,hq,hx⟩:=hg;obtain⟨its,rv,p,hz⟩:=I.list hq;obtain⟨u,hu,ru⟩:=rv.get hx;obtain⟨f0,f1,f2,f3,f4,f5⟩:=hf it (by simp);refine wpAny_pyNext_list_item st p.isList (x:=u) (by simpa using hu) fun h' st' sb=>?_;have I1:Inv X pins σ H { s with heap:=h' }:=I.turned (t':=s.toks) (fun b o hb e=>(sb.2 b hb).trans e) f0 f1 f3 f4 f5;obtain⟨o,e,c,d⟩:=id st';exact⟨u,rfl,jq (s:={ s with heap:=h' }) e c d (by decide) ⟨x,H,I1,ru,⟨rfl,fun ys hy=>by rw[I.list_inj hy hq];exact hx⟩,st',fun b hb=>(hf b hb).1⟩⟩
 done:=by intro X hP hw hK hc i pins s σ H E I hf st hg;subst hP hw hK;obtain⟨xs,hq,hx⟩:=hg;obtain⟨its,rv,p,hz⟩:=I.list hq;obtain⟨f0,f1,f2,f3,f4,f5⟩:=hf it (by simp);have hl:=rv.length;exact wpAny_pyNext_list_end (I.ok.hd hc) st p.isList (by simp;omega) fun h' eb=>⟨rfl,I.turned (t':=s.toks) (fun b o hb e=>eb b o hb e) f0 f1 f3 f4 f5⟩
 self:=fun _ _ _ _ _ st h=>wpAny_pyIter_listiter st h
theorem uo{P:Program}{w:World}{K:PySem.W.Frag}{tg:Expr}(a it:Addr):Turn P w K tg (Itt K a) [it] it (fun i h=>h.IsTupleIter it a i) where
 mem:=by simp
 obj:=fun i h st b hb=>by
  have e:b=it:=by simpa using hb
  subst e;obtain⟨o,e,c,d⟩:=st;exact⟨o,e,fun v z=>by rw[d]at z;cases z⟩
 keep:=fun i h h' st k=>st.at fun o e=>k it (by simp) o e
 item:=by intro X hP hw hK hc i pins s σ H E I hf st hg;subst hP hw hK;obtain⟨xs,x,hq,hx⟩:=hg;obtain⟨its,rv,p,hz⟩:=I.tuple hq;obtain⟨u,hu,ru⟩:=rv.get hx;obtain⟨f0,f1,f2,f3,f4,f5⟩:=hf it (by simp);refine wpAny_pyNext_tuple_item st (show s.heap.IsTuple a its.toArray from p) (x:=u) (by simpa using hu) fun h' st' sb=>?_;have I1:Inv X pins σ H { s with heap:=h' }:=I.turned (t':=s.toks) (fun b o hb e=>(sb.2 b hb).trans e) f0 f1 f3 f4 f5;obtain⟨o,e,c,d⟩:=id st';exact⟨u,rfl,jq (s:={ s with heap:=h' }) e c d (by decide) ⟨x,H,I1,ru,⟨rfl,fun ys hy=>by rw[I.tuple_inj hy hq];exact hx⟩,st',fun b hb=>(hf b hb).1⟩⟩
 done:=by intro X hP hw hK hc i pins s σ H E I hf st hg;subst hP hw hK;obtain⟨xs,hq,hx⟩:=hg;obtain⟨its,rv,p,hz⟩:=I.tuple hq;obtain⟨f0,f1,f2,f3,f4,f5⟩:=hf it (by simp);have hl:=rv.length;exact wpAny_pyNext_tuple_end (I.ok.hd hc) st (show s.heap.IsTuple a its.toArray from p) (by simp;omega) fun h' eb=>⟨rfl,I.turned (t':=s.toks) (fun b o hb e=>eb b o hb e) f0 f1 f3 f4 f5⟩
 self:=fun _ _ _ _ _ st h=>wpAny_pyIter_tupleiter st h
theorem um{P:Program}{w:World}{K:PySem.W.Frag}{tg:Expr}(it:Addr)(lo:Int)(n:Nat):Turn P w K tg (Itr lo n) [it] it (fun i h=>IsRangeIter h it (lo+(i:Nat)*1) ((n:Int)-(i:Nat)) 1) where
 mem:=by simp
 obj:=fun i h st b hb=>by
  have e:b=it:=by simpa using hb
  subst e;exact⟨_,st,fun v z=>by
   have z':Data.fields _=Data.cell v:=z;cases z'⟩
 keep:=fun i h h' st k=>k it (by simp) _ st
 item:=by intro X hP hw hK hc i pins s σ H E I hf st hg;subst hP hw hK;obtain⟨f0,f1,f2,f3,f4,f5⟩:=hf it (by simp);have W:=Walks.range (prog:=X.prog) (w:=X.w) (I.ok.hd hc) it lo 1 n;refine W.item i s _ _ hg st fun v h' tk hv st' kk=>?_;obtain⟨t,rfl⟩:=hv;have I1:Inv X pins σ H { s with heap:=h',toks:=tk }:=I.turned (fun b o hb e=>kk b o (by simpa using hb) e) f0 f1 f3 f4 f5;refine⟨_,rfl,jq (s:={ s with heap:=h',toks:=tk }) (n:="range_iterator") st' rfl rfl (by decide) ⟨.int (lo+i),H,I1,⟨t,?_⟩,⟨rfl,rfl⟩,st',fun b hb=>(hf b hb).1⟩⟩;rw[Int.mul_one]
 done:=by intro X hP hw hK hc i pins s σ H E I hf st hg;subst hP hw hK;obtain⟨f0,f1,f2,f3,f4,f5⟩:=hf it (by simp);exact wpAny_pyNext_range_end (I.ok.hd hc) st (by have:n<=i:=hg;omega) fun h' eb=>⟨rfl,I.turned (t':=s.toks) (fun b o hb e=>eb b o hb e) f0 f1 f3 f4 f5⟩
 self:=fun _ _ _ _ _ st h=>wpAny_pyIter_rangeiter st h
open PySem PySem.Spec PyProof.Rows
section
variable{X:Cx}{tg:Expr}
def yz(K:PySem.W.Frag)(tl:TE):TI:=fun σ H R=>tl σ H fun x H1=>∃a,x=.ref a/\(∃xs,SqL K H1 a xs)/\R (Itl K a) H1
def AX(K:PySem.W.Frag)(tl:TE):TI:=fun σ H R=>tl σ H fun x H1=>∃a,x=.ref a/\(∃xs,SqT K H1 a xs)/\R (Itt K a) H1
theorem Ac{l:Expr}{tl:TE}(hl:PE X l tl):PI X tg l (yz X.K tl):=by
 intro pins s σ H R I h;refine thn (hl pins s σ H _ I h) fun v s1 hz9=>?_;obtain⟨x,H1,I1,r1,q1⟩:=hz9;obtain⟨a,e,⟨xs,hq⟩,q⟩:=q1;subst e;cases r1;obtain⟨its,rv,p,hz⟩:=I1.list hq;refine wpAny_pyIter_list p.isList ?_;refine⟨s1.heap.objs.size,[s1.heap.objs.size],_,_,H1,rfl,I1.kept (t':=s1.toks) fun b o e=>z9 _ e,wE a _,⟨_,Zh _ rfl,rfl,rfl⟩,fun b hb=>?_,q⟩;have e:b=s1.heap.objs.size:=by simpa using hb
 subst e;exact I1.fpOk (Zb _) (I1.hok.fresh (Zb _))
theorem BO{l:Expr}{tl:TE}(hl:PE X l tl):PI X tg l (AX X.K tl):=by
 intro pins s σ H R I h;refine thn (hl pins s σ H _ I h) fun v s1 hz9=>?_;obtain⟨x,H1,I1,r1,q1⟩:=hz9;obtain⟨a,e,⟨xs,hq⟩,q⟩:=q1;subst e;cases r1;obtain⟨its,rv,p,hz⟩:=I1.tuple hq;refine wpAny_pyIter_tuple (show s1.heap.IsTuple a its.toArray from p) ?_;refine⟨s1.heap.objs.size,[s1.heap.objs.size],_,_,H1,rfl,I1.kept (t':=s1.toks) fun b o e=>z9 _ e,uo a _,⟨_,Zh _ rfl,rfl,rfl⟩,fun b hb=>?_,q⟩;have e:b=s1.heap.objs.size:=by simpa using hb
 subst e;exact I1.fpOk (Zb _) (I1.hok.fresh (Zb _))
theorem xX{pins:List (Addr×Obj)}{σ:St}{H:Hp}{s:Shared}{R:It->Hp->Prop}{E:Value->Shared->Prop}{lo hi:Int}{t u v:Tok}{tk:Nat}(I:Inv X pins σ H s)(h1:-(2^62)<=lo)(h2:lo<2^62)(h3:-(2^62)<=hi)(h4:hi<2^62)(q:R (Itr lo (hi-lo).toNat) H):wpAny (model X.prog X.w) X.A (pyIter (.ref s.heap.objs.size)) (PIE X pins σ tg R) E { s with heap:=s.heap.push { cls:=.type "range",data:=.fields #[.int lo t,.int hi u,.int 1 v] },toks:=tk }:=by
 refine wpAny_pyIter_range (IsRange.new ..) (small_one h1 h2 h3 h4) ?_;have I1:Inv X pins σ H { s with heap:=s.heap.push { cls:=.type "range",data:=.fields #[.int lo t,.int hi u,.int 1 v] },toks:=tk }:=I.kept fun b o e=>z9 _ e;refine⟨(s.heap.push { cls:=.type "range",data:=.fields #[.int lo t,.int hi u,.int 1 v] }).objs.size,[(s.heap.push { cls:=.type "range",data:=.fields #[.int lo t,.int hi u,.int 1 v] }).objs.size],_,_,H,rfl,
  I1.kept (t':=tk) fun b o e=>z9 _ e,um _ lo (hi - lo).toNat,?_,fun b hb=>?_,q⟩
 ·have e1:lo+((0:Nat):Int)*1=lo:=by simp
  have e2:(((hi-lo).toNat:Nat):Int)-((0:Nat):Int)=Builtin.Range.rangeSize lo hi 1:=by rw[rangeSize_one];split<;>omega
  show IsRangeIter _ _ (lo+((0:Nat):Int)*1) ((((hi-lo).toNat:Nat):Int)-((0:Nat):Int)) 1;rw[e1,e2];exact Zh _ rfl
 ·have e:b=(s.heap.push { cls:=.type "range",data:=.fields #[.int lo t,.int hi u,.int 1 v] }).objs.size:=by simpa using hb
  subst e;exact I1.fpOk (Zb _) (I1.hok.fresh (Zb _))
def yA(ta:TA):TI:=fun σ H R=>ta σ H fun vs H1=>∃j:Int,vs=[.int j]/\-(2^62)<=j/\j<2^62/\R (Itr 0 j.toNat) H1
theorem vR{a:Expr}{ta:TA}{p pos:Pos}(hg:Gl X "range")(hm:X.mg "range" = none)(ha:PA X [a] ta)(hs:starEach [a] X.env=[(false,eval a X.env)]:=by rfl):PI X tg (.Call (.Name "range" p) [a] [] pos) (yA ta):=by
 intro pins s σ H R I h;refine Call_ (cS I hg hm boot_range (ZP (thn (ha pos pins s σ H _ I h) fun us s1 hz9=>?_) hs rfl));obtain⟨vs,H1,I1,r1,q1⟩:=hz9;obtain⟨j,e,q1,q2,q⟩:=q1;subst e;cases r1 with
 |cons r rr =>cases rr;obtain⟨t,rfl⟩:=r;exact call_range_1 (xX I1 (by omega) (by omega) q1 q2 (by simpa using q))
def Ce(wi:TI)(g:TG)(tb:TS):TS:=fun D σ H=>wi σ H fun J H1=>∃W:Nat->Nat->St->Hp->Prop,(∃m,W 0 m σ H1)/\∀i m σ H,W i m σ H ->
 (J.stop i H/\D.nx σ H)\/(J.go i H/\∃N:St->Hp->Prop,(∀σ' H',N σ' H'->∃m',m'<m/\W (i+1) m' σ' H')/\∀x H',J.yld i H x H'->g x σ H' fun σ2 H2=>tb { D with nx:=N,ct:=N,bk:=D.nx } σ2 H2)
def iX(fp:List Addr)(h:Heap):List (Addr×Obj):=fp.filterMap fun b=>(h.get? b).map fun o=>(b,o)
theorem fj{fp:List Addr}{h:Heap}{b:Addr}{o:Obj}(hb:b∈fp)(e:h.get? b=some o):(b,o)∈iX fp h:=List.mem_filterMap.mpr ⟨b,hb,by rw[e];rfl⟩
theorem vJ{fp:List Addr}{h:Heap}{p:Addr×Obj}(hp:p∈iX fp h):p.1∈fp/\h.get? p.1=some p.2:=by
 obtain⟨b,hb,e⟩:=List.mem_filterMap.mp hp;cases q:h.get? b with
 |none=>rw[q]at e;cases e
 |some o =>rw[q]at e;have e':(b,o)=p:=Zw e;subst e';exact⟨hb,q⟩
theorem Inv.pinned{pins:List (Addr×Obj)}{σ:St}{H:Hp}{s:Shared}{fp:List Addr}(I:Inv X pins σ H s)(hf:∀b∈fp,bc X pins H b)(ho:∀b∈fp,∃o,s.heap.get? b=some o/\∀v,o.data≠.cell v):Inv X (pins++iX fp s.heap) σ H s :=
 I.pins_of fun p hp=>(ZG.mp hp).elim (fun z=>I.pin p (ZL _ z)) fun z=>by obtain⟨hb,e⟩:=vJ z;obtain⟨f0,f1,f2,_⟩:=hf p.1 hb;obtain⟨o,e',d⟩:=ho p.1 hb;rw[e]at e';cases e';exact⟨e,f0,f1,f2,d⟩
theorem Inv.unpinned{pins pl:List (Addr×Obj)}{σ:St}{H:Hp}{s:Shared}(I:Inv X (pins++pl) σ H s):Inv X pins σ H s:=I.pins_of fun p hp=>I.pin p (ZL _ (List.mem_append_left _ hp))
theorem BS{iter:Expr}{body:List Stmt}{wi:TI}{g:TG}{tb:TS}{pos:Pos}(hp:PassesOwn (model X.prog X.w) X.A X.env X.xe)(hc:X.calm=true)(hi:PI X tg iter wi)(hg:PG X tg g)(hb:PSs X body tb)(hs:∀x,foldedSetIterable iter X.env x=pure x:=by intro _;rfl):PS X (.For tg iter body [] pos) (Ce wi g tb):=by
 intro pins s σ H D I h;refine wpAny_For (thn (hi pins s σ H _ I h) fun v s1 h1=>thn h1 fun itv s2 h2=>?_) hs;obtain⟨it,fp,tn,J,H2,e,I2,T,st2,f2,W,⟨m0,w0⟩,turn⟩:=h2;subst e;have stat:∀{H':Hp},(∀b∈fp,H' b=none)->∀b∈fp,bc X pins H' b:=fun hn b hb=>⟨hn b hb,(f2 b hb).2⟩
 refine codeAny_forLoop_any (fun n s'=>∃i σ' H',Inv X pins σ' H' s'/\tn i s'.heap/\(∀b∈fp,H' b=none)/\W i n σ' H') ?_ m0 ⟨0,σ,H2,I2,st2,fun b hb=>(f2 b hb).1,w0⟩;rintro n s3 ⟨i,σ3,H3,I3,st3,fr3,w3⟩;rcases turn i n σ3 H3 w3 with⟨stop,qn⟩|⟨go,N,hN,step⟩
 ·refine wpAny_passesOwn hp (thn (T.done X rfl rfl rfl hc i pins s3 σ3 H3 X.xe I3 (stat fr3) st3 stop) fun r s4 ⟨hr,I4⟩=>?_);subst hr;exact wpAny_execs_nil ⟨σ3,H3,I4,qn⟩
 ·refine wpAny_passesOwn hp (thn (T.item X rfl rfl rfl hc i pins s3 σ3 H3 X.xe I3 (stat fr3) st3 go) fun r s4 ⟨u,hr,h4⟩=>?_);subst hr;refine wpAny_passesOwn hp (thn h4 fun _ s5 hz9=>?_);obtain⟨x,H5,I5,r5,y5,st5,fr5⟩:=hz9;have I5':=I5.pinned (stat fr5) (T.obj _ _ st5);refine wpAny_passesOwn hp (thn (hg _ s5 σ3 H5 x u _ I5' r5 (step x H5 y5)) fun _ s6 ⟨σ6,H6,I6,q6⟩=>?_);refine wpAny_passesOwn hp (thn (hb _ s6 σ6 H6 _ I6 q6) fun f s7 q7=>?_);have again:∀{σ7:St} {H7:Hp},Inv X (pins++iX fp s5.heap) σ7 H7 s7->N σ7 H7->∃m,m<n/\∃i σ' H',Inv X pins σ' H' s7/\tn i s7.heap/\(∀b∈fp,H' b=none)/\W i m σ' H':=fun{σ7 H7} I7 n7=>by obtain⟨m',hm,w7⟩:=hN σ7 H7 n7;refine⟨m',hm,i+1,σ7,H7,I7.unpinned,T.keep _ _ _ st5 fun b hb o e=>(I7.pin (b,o) (ZL _ (ZL _ (fj hb e)))).1,fun b hb=>?_,w7⟩;obtain⟨o,e,d⟩:=T.obj _ _ st5 b hb;exact(I7.pin (b,o) (ZL _ (ZL _ (fj hb e)))).2.1
  cases f with
  |next=>obtain⟨σ7,H7,I7,n7⟩:=q7;exact again I7 n7
  |cont=>obtain⟨σ7,H7,I7,n7⟩:=q7;exact again I7 n7
  |brk=>obtain⟨σ7,H7,I7,q7⟩:=q7;exact⟨σ7,H7,I7.unpinned,q7⟩
  |ret v=>obtain⟨x7,σ7,H7,I7,r7,q7⟩:=q7;exact⟨x7,σ7,H7,I7.unpinned,r7,q7⟩
end
theorem pU{K:PySem.W.Frag}{a:Addr}{xs:List V}{g:TG}{tb:TS}{D:Ends}{σ:St}{H:Hp}(Pv:Nat->St->Hp->Prop)(h0:Pv 0 σ H)(hl:∀i σ H,i<=xs.length->Pv i σ H->SqL K H a xs)(hs:∀i x σ H,xs[i]?=some x->Pv i σ H->g x σ H fun σ2 H2=>tb { D with nx:=Pv (i+1),ct:=Pv (i+1),bk:=D.nx } σ2 H2)(hd:∀σ H,Pv xs.length σ H->D.nx σ H) :
  ∃W:Nat->Nat->St->Hp->Prop,(∃m,W 0 m σ H)/\∀i m σ H,W i m σ H ->
   ((Itl K a).stop i H/\D.nx σ H)\/((Itl K a).go i H/\∃N:St->Hp->Prop,(∀σ' H',N σ' H'->∃m',m'<m/\W (i+1) m' σ' H')/\∀x H',(Itl K a).yld i H x H'->g x σ H' fun σ2 H2=>tb { D with nx:=N,ct:=N,bk:=D.nx } σ2 H2):=by
 refine⟨fun i m σ H=>m=xs.length-i/\i<=xs.length/\Pv i σ H,⟨xs.length,by simp,ZB _,h0⟩,?_⟩;rintro i m σ H ⟨rfl,hi,p⟩;have q:=hl i σ H hi p;by_cases hlt:i<xs.length
 ·refine .inr ⟨⟨xs,xs[i],q,by simp[hlt]⟩,Pv (i+1),fun σ' H' p'=>⟨xs.length-(i+1),by omega,rfl,hlt,p'⟩,fun x H' y=>?_⟩;obtain⟨e,y⟩:=y;subst e;exact hs i x σ _ (y xs q) p
 ·have e:i=xs.length:=by omega
  subst e;exact .inl ⟨⟨xs,q,Zb _⟩,hd σ H p⟩
theorem uS{lo:Int}{n:Nat}{g:TG}{tb:TS}{D:Ends}{σ:St}{H:Hp}(Pv:Nat->St->Hp->Prop)(h0:Pv 0 σ H)(hs:∀i σ H,i<n->Pv i σ H->g (.int (lo+i)) σ H fun σ2 H2=>tb { D with nx:=Pv (i+1),ct:=Pv (i+1),bk:=D.nx } σ2 H2)(hd:∀σ H,Pv n σ H->D.nx σ H) :
  ∃W:Nat->Nat->St->Hp->Prop,(∃m,W 0 m σ H)/\∀i m σ H,W i m σ H ->
   ((Itr lo n).stop i H/\D.nx σ H)\/((Itr lo n).go i H/\∃N:St->Hp->Prop,(∀σ' H',N σ' H'->∃m',m'<m/\W (i+1) m' σ' H')/\∀x H',(Itr lo n).yld i H x H'->g x σ H' fun σ2 H2=>tb { D with nx:=N,ct:=N,bk:=D.nx } σ2 H2):=by
 refine⟨fun i m σ H=>m=n-i/\i<=n/\Pv i σ H,⟨n,by simp,ZB _,h0⟩,?_⟩;rintro i m σ H ⟨rfl,hi,p⟩;by_cases hlt:i<n
 ·refine .inr ⟨hlt,Pv (i+1),fun σ' H' p'=>⟨n-(i+1),by omega,rfl,hlt,p'⟩,fun x H' y=>?_⟩;obtain⟨e,y⟩:=y;subst e y;exact hs i σ _ hlt p
 ·have e:i=n:=by omega
  subst e;exact .inl ⟨Zb _,hd σ H p⟩
open PySem PySem.Spec PyProof.Rows
abbrev R2:=V->V->Hp->VK->Prop
def OpR(X:Cx)(f:Value->Value->Sem Value)(r:R2):Prop :=
 ∀(pins:List (Addr×Obj)) (s:Shared) (σ:St) (H:Hp) (x y:V) (v u:Value) (Q:VK),Inv X pins σ H s->RelV x v->RelV y u->r x y H Q ->
  wpAny (model X.prog X.w) X.A (f v u) (EP X pins σ Q) X.xe s
def UnR(X:Cx)(f:Value->Sem Value)(r:V->Hp->VK->Prop):Prop :=
 ∀(pins:List (Addr×Obj)) (s:Shared) (σ:St) (H:Hp) (x:V) (v:Value) (Q:VK),Inv X pins σ H s->RelV x v->r x H Q ->
  wpAny (model X.prog X.w) X.A (f v) (EP X pins σ Q) X.xe s
def df(X:Cx)(f:Value)(r:List V->Hp->VK->Prop):Prop :=
 ∀(pins:List (Addr×Obj)) (s:Shared) (σ:St) (H:Hp) (xs:List V) (us:List Value) (Q:VK),Inv X pins σ H s->Vals xs us->r xs H Q ->
  wpAny (model X.prog X.w) X.A (call f us) (EP X pins σ Q) X.xe s
def tOp(r:R2)(ta tb:TE):TE:=fun σ H Q=>ta σ H fun x H1=>tb σ H1 fun y H2=>r x y H2 Q
def tUn(r:V->Hp->VK->Prop)(ta:TE):TE:=fun σ H Q=>ta σ H fun x H1=>r x H1 Q
inductive rI(C:Int->Int->Prop)(g:Int->Int->V)(x:V)(y:V)(H:Hp)(Q:VK):Prop
 |mk (i j:_) (h0:x=.int i) (h1:y=.int j) (h2:C i j) (h3:Q (g i j) H):rI C g x y H Q
inductive rI0(g:Int->Int->V)(x:V)(y:V)(H:Hp)(Q:VK):Prop
 |mk (i j:_) (h0:x=.int i) (h1:y=.int j) (h2:Q (g i j) H):rI0 g x y H Q
def rU(g:Int->V):V->Hp->VK->Prop:=fun x H Q=>∃i,x=.int i/\Q (g i) H
section
variable{X:Cx}{a b c:Expr}{ta tb tc:TE}{pos:Pos}
theorem wO(ha:PE X a ta)(hb:PE X b tb){pins:List (Addr×Obj)}{s:Shared}{σ:St}{H:Hp}{R:V->V->Hp->Prop}(I:Inv X pins σ H s)(h:ta σ H fun x H1=>tb σ H1 fun y H2=>R x y H2){Q:Value->Shared->Prop}{f:Value->Value->Sem Value}(hf:∀v u s2 x y H2,Inv X pins σ H2 s2->RelV x v->RelV y u->R x y H2->wpAny (model X.prog X.w) X.A (f v u) Q X.xe s2) :
  wpAny (model X.prog X.w) X.A (eval a X.env) (fun v s₁=>wpAny (model X.prog X.w) X.A (eval b X.env) (fun u s₂=>wpAny (model X.prog X.w) X.A (f v u) Q X.xe s₂) X.xe s₁) X.xe s:=by
 refine thn (ha pins s σ H _ I h) fun v s1 hz9=>?_;obtain⟨x,H1,I1,r1,q1⟩:=hz9;refine thn (hb pins s1 σ H1 _ I1 q1) fun u s2 hz9=>?_;obtain⟨y,H2,I2,r2,q2⟩:=hz9;exact hf v u s2 x y H2 I2 r1 r2 q2
theorem C5{op:Operator}{r:R2}(ho:OpR X (binaryOp op) r)(ha:PE X a ta)(hb:PE X b tb):PE X (.BinOp a op b pos) (tOp r ta tb):=by intro pins s σ H Q I h;exact wpAny_BinOp (wO ha hb I h fun v u s2 x y H2 I2 rx ry q=>ho pins s2 σ H2 x y v u Q I2 rx ry q)
theorem C7{op:UnaryOp}{r:V->Hp->VK->Prop}(ho:UnR X (unaryOp op) r)(ha:PE X a ta):PE X (.UnaryOp op a pos) (tUn r ta):=by intro pins s σ H Q I h;exact UnaryOp_ (thn (ha pins s σ H _ I h) fun v s1 ⟨x,H1,I1,r1,q1⟩=>ho pins s1 σ H1 x v Q I1 r1 q1)
theorem opI{f:Value->Value->Sem Value}{C:Int->Int->Prop}{g:Int->Int->Int}(rule:∀(i j:Int) (t u:Tok) (s:Shared) (Q:Value->Shared->Prop) (E:Value->Shared->Prop),C i j->Q (.int (g i j) s.toks) { s with toks:=s.toks+1 }->wpAny (model X.prog X.w) X.A (f (.int i t) (.int j u)) Q E s) :
  OpR X f (rI C fun i j=>.int (g i j)):=by
 intro pins s σ H x y v u Q I rx ry h;obtain⟨i,j,rfl,rfl,hc,q⟩:=h;obtain⟨t,rfl⟩:=rx;obtain⟨t',rfl⟩:=ry;exact rule i j t t' s _ _ hc ⟨.int (g i j),H,I.tok _,⟨_,rfl⟩,q⟩
theorem Bq{f:Value->Value->Sem Value}{g:Int->Int->Int}(rule:∀(i j:Int) (t u:Tok) (s:Shared) (Q:Value->Shared->Prop) (E:Value->Shared->Prop),Q (.int (g i j) s.toks) { s with toks:=s.toks+1 }->wpAny (model X.prog X.w) X.A (f (.int i t) (.int j u)) Q E s) :
  OpR X f (rI0 fun i j=>.int (g i j)):=by
 intro pins s σ H x y v u Q I rx ry h;obtain⟨i,j,rfl,rfl,q⟩:=h;obtain⟨t,rfl⟩:=rx;obtain⟨t',rfl⟩:=ry;exact rule i j t t' s _ _ ⟨.int (g i j),H,I.tok _,⟨_,rfl⟩,q⟩
theorem tS{f:Value->Value->Sem Value}{g:Int->Int->Bool}(rule:∀(i j:Int) (t u:Tok) (s:Shared) (Q:Value->Shared->Prop) (E:Value->Shared->Prop),Q (.bool (g i j)) s->wpAny (model X.prog X.w) X.A (f (.int i t) (.int j u)) Q E s) :
  OpR X f (rI0 fun i j=>.bl (g i j)):=by
 intro pins s σ H x y v u Q I rx ry h;obtain⟨i,j,rfl,rfl,q⟩:=h;obtain⟨t,rfl⟩:=rx;obtain⟨t',rfl⟩:=ry;exact rule i j t t' s _ _ ⟨.bl (g i j),H,I,rfl,q⟩
def wI(i j:Int):Prop:=0<j/\j<1073741824
def CMul(i j:Int):Prop:=(-(2^64)<i/\i<2^64)\/(-(2^64)<j/\j<2^64)
theorem CMul.ok{i j:Int}(h:CMul i j):IntMulOk i j:=by
 rcases h with⟨h1,h2⟩|⟨h1,h2⟩
 ·exact .of_left (intBits_le_64 h1 h2)
 ·exact .of_right (intBits_le_64 h1 h2)
theorem Br:OpR X (binaryOp .Add) (rI0 fun i j=>.int (i+j)):=Bq fun _ _ _ _ _ _ _ q=>add_int q
theorem Bz:OpR X (binaryOp .Sub) (rI0 fun i j=>.int (i-j)):=Bq fun _ _ _ _ _ _ _ q=>sub_int q
theorem Bv:OpR X (binaryOp .Mult) (rI CMul fun i j=>.int (i*j)):=opI fun _ _ _ _ _ _ _ hc q=>mul_int q hc.ok
theorem zO:OpR X (binaryOp .FloorDiv) (rI wI fun i j=>.int (i / j)):=opI fun i j _ _ _ _ _ hc q=>by have h1:(0:Int)<j:=hc.1;have h2:j<1073741824:=hc.2;exact floordiv_int (by omega) (by rw[Int.fdiv_eq_ediv_of_nonneg i (by omega)];exact q) (.inl (PyProof.noPylong_small (by omega)))
theorem Bu:OpR X (binaryOp .Mod) (rI (fun _ j=>0<j) fun i j=>.int (i%j)):=opI fun i j _ _ _ _ _ hc q=>by have h1:(0:Int)<j:=hc;exact mod_int' (by omega) (by rw[Int.fmod_eq_emod_of_nonneg i (by omega)];exact q)
theorem unI{f:Value->Sem Value}{g:Int->Int}(rule:∀(i:Int) (t:Tok) (s:Shared) (Q:Value->Shared->Prop) (E:Value->Shared->Prop),Q (.int (g i) s.toks) { s with toks:=s.toks+1 }->wpAny (model X.prog X.w) X.A (f (.int i t)) Q E s) :
  UnR X f (rU fun i=>.int (g i)):=by
 intro pins s σ H x v Q I rx h;obtain⟨i,rfl,q⟩:=h;obtain⟨t,rfl⟩:=rx;exact rule i t s _ _ ⟨.int (g i),H,I.tok _,⟨_,rfl⟩,q⟩
theorem Cn:UnR X (unaryOp .USub) (rU fun i=>.int (-i)):=unI fun _ _ _ _ _ q=>neg_int q
end
def yd:V->V->Bool
 |.non,.non=>true|.non,.int _=>true|.int _,.non=>true|.non,.bl _=>true|.bl _,.non=>true|.non,.str _=>true|.str _,.non=>true
 |.int _,.int _=>true|.bl _,.bl _=>true|.str _,.str _=>true|.byt _,.byt _=>true
 |.int _,.str _=>true|.str _,.int _=>true|.bl _,.str _=>true|.str _,.bl _=>true
 |_,_=>false
def rEq:R2:=fun x y H Q=>yd x y=true/\Q (.bl (decide (x=y))) H
def rNe:R2:=fun x y H Q=>yd x y=true/\Q (.bl (!decide (x=y))) H
theorem rP{i j:Int}:decide (V.int i=V.int j)=(i==j):=by rw[Z6];simp
theorem uM{i j:Bool}:decide (V.bl i=V.bl j)=(i==j):=by rw[Z6];simp
theorem rQ{i j:Str}:decide (V.str i=V.str j)=(i==j):=by rw[Z6];simp
theorem rO{i j:Array UInt8}:decide (V.byt i=V.byt j)=(i.toList==j.toList):=by rw[Z6];cases i;cases j;simp
section
variable{X:Cx}{a b c:Expr}{ta tb tc:TE}{pos:Pos}
theorem aM{pins:List (Addr×Obj)}{σ:St}{H:Hp}{s:Shared}{Q:VK}{k k':Bool}(I:Inv X pins σ H s)(q:Q (.bl k) H)(e:k=k'):EP X pins σ Q (.bool k') s:=by subst e;exact⟨.bl k,H,I,rfl,q⟩
theorem CV:OpR X (compareOp .Eq) rEq:=by
 intro pins s σ H x y v u Q I rx ry h;obtain⟨hs,q⟩:=h;cases x with
 |non =>
  cases rx;cases y with
  |non=>cases ry;exact PySem.EqNone.eq_none_none (aM I q (by simp))
  |bl j=>cases ry;exact PySem.EqNone.eq_none_bool (aM I q (by simp))
  |int j=>obtain⟨t',rfl⟩:=ry;exact PySem.EqNone.eq_none_int (aM I q (by simp))
  |str j=>obtain⟨t',rfl⟩:=ry;exact PySem.EqNone.eq_none_str (aM I q (by simp))
  |_=>exact absurd (show false=true from hs) Zn
 |bl i =>
  cases rx;cases y with
  |non=>cases ry;exact PySem.EqNone.eq_bool_none (aM I q (by simp))
  |bl j=>cases ry;exact eq_bool (aM I q uM)
  |str j=>obtain⟨t',rfl⟩:=ry;exact PySem.EqMixed.eq_bool_str (aM I q (by simp))
  |_=>exact absurd (show false=true from hs) Zn
 |int i =>
  obtain⟨t,rfl⟩:=rx;cases y with
  |non=>cases ry;exact PySem.EqNone.eq_int_none (aM I q (by simp))
  |int j=>obtain⟨t',rfl⟩:=ry;exact eq_int (aM I q rP)
  |str j=>obtain⟨t',rfl⟩:=ry;exact PySem.EqMixed.eq_int_str (aM I q (by simp))
  |_=>exact absurd (show false=true from hs) Zn
 |str i =>
  obtain⟨t,rfl⟩:=rx;cases y with
  |non=>cases ry;exact PySem.EqNone.eq_str_none (aM I q (by simp))
  |bl j=>cases ry;exact PySem.EqMixed.eq_str_bool (aM I q (by simp))
  |int j=>obtain⟨t',rfl⟩:=ry;exact PySem.EqMixed.eq_str_int (aM I q (by simp))
  |str j=>obtain⟨t',rfl⟩:=ry;exact eq_str (aM I q rQ)
  |_=>exact absurd (show false=true from hs) Zn
 |byt i =>
  obtain⟨t,rfl⟩:=rx;cases y with
  |byt j=>obtain⟨t',rfl⟩:=ry;exact PySem.W.eq_bytes (aM I q rO)
  |_=>exact absurd (show false=true from hs) Zn
 |_=>cases y<;>exact absurd (show false=true from hs) Zn
theorem C1:OpR X (compareOp .NotEq) rNe:=by
 intro pins s σ H x y v u Q I rx ry h;obtain⟨hs,q⟩:=h;cases x with
 |non =>
  cases rx;cases y with
  |non=>cases ry;exact PySem.EqNone.ne_none_none (aM I q (by simp))
  |bl j=>cases ry;exact PySem.EqNone.ne_none_bool (aM I q (by simp))
  |int j=>obtain⟨t',rfl⟩:=ry;exact PySem.EqNone.ne_none_int (aM I q (by simp))
  |str j=>obtain⟨t',rfl⟩:=ry;exact PySem.EqNone.ne_none_str (aM I q (by simp))
  |_=>exact absurd (show false=true from hs) Zn
 |bl i =>
  cases rx;cases y with
  |non=>cases ry;exact PySem.EqNone.ne_bool_none (aM I q (by simp))
  |bl j=>cases ry;exact ne_bool (aM I q (ZO not uM))
  |str j=>obtain⟨t',rfl⟩:=ry;exact PySem.EqMixed.ne_bool_str (aM I q (by simp))
  |_=>exact absurd (show false=true from hs) Zn
 |int i =>
  obtain⟨t,rfl⟩:=rx;cases y with
  |non=>cases ry;exact PySem.EqNone.ne_int_none (aM I q (by simp))
  |int j=>obtain⟨t',rfl⟩:=ry;exact ne_int (aM I q (ZO not rP))
  |str j=>obtain⟨t',rfl⟩:=ry;exact PySem.EqMixed.ne_int_str (aM I q (by simp))
  |_=>exact absurd (show false=true from hs) Zn
 |str i =>
  obtain⟨t,rfl⟩:=rx;cases y with
  |non=>cases ry;exact PySem.EqNone.ne_str_none (aM I q (by simp))
  |bl j=>cases ry;exact PySem.EqMixed.ne_str_bool (aM I q (by simp))
  |int j=>obtain⟨t',rfl⟩:=ry;exact PySem.EqMixed.ne_str_int (aM I q (by simp))
  |str j=>obtain⟨t',rfl⟩:=ry;exact ne_str (aM I q (ZO not rQ))
  |_=>exact absurd (show false=true from hs) Zn
 |byt i =>
  obtain⟨t,rfl⟩:=rx;cases y with
  |byt j=>obtain⟨t',rfl⟩:=ry;exact PySem.W.ne_bytes (aM I q (ZO not rO))
  |_=>exact absurd (show false=true from hs) Zn
 |_=>cases y<;>exact absurd (show false=true from hs) Zn
theorem C0:OpR X (compareOp .Lt) (rI0 fun i j=>.bl (decide (i<j))):=tS fun _ _ _ _ _ _ _ q=>lt_int q
theorem CZ:OpR X (compareOp .LtE) (rI0 fun i j=>.bl (decide (i<=j))):=tS fun _ _ _ _ _ _ _ q=>le_int q
theorem CY:OpR X (compareOp .Gt) (rI0 fun i j=>.bl (decide (j<i))):=tS fun _ _ _ _ _ _ _ q=>gt_int q
theorem CW:OpR X (compareOp .GtE) (rI0 fun i j=>.bl (decide (j<=i))):=tS fun _ _ _ _ _ _ _ q=>ge_int q
theorem Bt:OpR X (compareOp .Is) (fun x y H Q=>y=.non/\Q (.bl (decide (x=.non))) H):=by
 intro pins s σ H x y v u Q I rx ry h;obtain⟨rfl,q⟩:=h;cases ry;refine is_none_gen (aM I q ?_);cases x<;>first
  |(cases rx;rfl)
  |(obtain⟨t,rfl⟩:=rx;rfl)
theorem zQ:OpR X (compareOp .IsNot) (fun x y H Q=>y=.non/\Q (.bl (!decide (x=.non))) H):=by
 intro pins s σ H x y v u Q I rx ry h;obtain⟨rfl,q⟩:=h;cases ry;refine isnot_none_gen (aM I q ?_);cases x<;>first
  |(cases rx;rfl)
  |(obtain⟨t,rfl⟩:=rx;rfl)
theorem vE(b:Expr){op:CmpOp}(h:op≠.In:=by decide)(h2:op≠.NotIn:=by decide):behindInMarks op b=false:=by
 have e1:(op==CmpOp.In)=false:=by cases op<;>first|rfl|exact absurd rfl h
 have e2:(op==CmpOp.NotIn)=false:=by cases op<;>first|rfl|exact absurd rfl h2
 cases b<;>simp[behindInMarks,e1,e2]
theorem zW{op:CmpOp}{r:R2}(ho:OpR X (compareOp op) r)(ha:PE X a ta)(hb:PE X b tb)(hm:behindInMarks op b=false):PE X (.Compare a [op] [b] pos) (tOp r ta tb):=by intro pins s σ H Q I h;exact wpAny_Compare1 (wO ha hb I h fun v u s2 x y H2 I2 rx ry q=>ho pins s2 σ H2 x y v u Q I2 rx ry q) hm
def lW(t:TE):TT:=fun σ H Q=>t σ H fun x H1=>IsB x H1 Q
theorem Al{op:CmpOp}{r:R2}(ho:OpR X (compareOp op) r)(ha:PE X a ta)(hb:PE X b tb)(hm:behindInMarks op b=false):PT X (.Compare a [op] [b] pos) (lW (tOp r ta tb)):=by
 intro pins s σ H Q I h;refine wpAny_isTrue_Compare1 (thn (ha pins s σ H _ I h) fun v s1 ⟨x,H1,I1,r1,q1⟩=>thn (hb pins s1 σ H1 _ I1 q1) fun u s2 ⟨y,H2,I2,r2,q2⟩ =>
  thn (ho pins s2 σ H2 x y v u _ I2 r1 r2 q2) fun c s3 ⟨z,H3,I3,r3,k,e,q3⟩=>?_) hm
 subst e;cases r3;exact ZU ⟨H3,I3,q3⟩
def wu(r r':R2)(ta tb tc:TE):TE:=fun σ H Q=>ta σ H fun x H1=>tb σ H1 fun y H2=>r x y H2 fun z H3=>∃k,z=.bl k /\
 (if k=true then tc σ H3 fun w' H4=>r' y w' H4 Q else Q (.bl false) H3)
theorem xS{op op':CmpOp}{r r':R2}(ho:OpR X (compareOp op) r)(ho':OpR X (compareOp op') r')(ha:PE X a ta)(hb:PE X b tb)(hc:PE X c tc)(hm:lastMarks [op,op'] [b,c]=false:=by with_unfolding_all rfl):PT X (.Compare a [op,op'] [b,c] pos) (lW (wu r r' ta tb tc)):=by
 intro pins s σ H Q I h;refine isTrue_chain (thn (ha pins s σ H _ I h) fun v s1 ⟨x,H1,I1,r1,q1⟩=>test_link (thn (hb pins s1 σ H1 _ I1 q1) fun u s2 ⟨y,H2,I2,r2,q2⟩ =>
  thn (ho pins s2 σ H2 x y v u _ I2 r1 r2 q2) fun d s3 ⟨z,H3,I3,r3,k,e,q3⟩=>?_)) hm
 subst e;cases r3;refine ZU ?_;cases k with
 |false =>obtain⟨k',e',q'⟩:=q3;cases e';exact ite_ff ⟨H3,I3,q'⟩
 |true =>refine ite_tt (test_last (thn (hc pins s3 σ H3 _ I3 q3) fun w' s4 ⟨z',H4,I4,r4,q4⟩=>thn (ho' pins s4 σ H4 y z' u w' _ I4 r2 r4 q4) fun d' s5 hz9=>?_));obtain⟨z2,H5,I5,r5,k2,e2,q5⟩:=hz9;subst e2;cases r5;exact ZU ⟨H5,I5,q5⟩
theorem lA:(sizeLine:Nat)<2^63:=by rw[sizeLine_eq];decide
theorem tU:OpR X (binaryOp .Add) (fun x y H Q=>∃i j,x=.str i/\y=.str j/\i.length+j.length<=sizeLine/\Q (.str (i++j)) H):=by intro pins s σ H x y v u Q I rx ry h;obtain⟨i,j,rfl,rfl,hz,q⟩:=h;obtain⟨t,rfl⟩:=rx;obtain⟨t',rfl⟩:=ry;exact add_str (fun t' tk=>⟨.str (i++j),H,I.tok _,⟨_,rfl⟩,q⟩) hz
theorem bX{x:V}{us:List Value}(r:Vals [x] us):∃u,us=[u]/\RelV x u:=by
 cases r with
 |cons r1 r2=>cases r2;exact⟨_,rfl,r1⟩
theorem gz{x y:V}{us:List Value}(r:Vals [x,y] us):∃u w',us=[u,w']/\RelV x u/\RelV y w':=by
 cases r with
 |cons r1 r2 =>
  cases r2 with
  |cons r3 r4=>cases r4;exact⟨_,_,rfl,r1,r3⟩
theorem uF(hc:X.calm=true):df X (.builtin "max") (fun xs H Q=>∃i j,xs=[.int i,.int j]/\Q (.int (if j>i then j else i)) H):=by
 intro pins s σ H xs us Q I r h;obtain⟨i,j,rfl,q⟩:=h;obtain⟨u,w',rfl,⟨t,rfl⟩,⟨t',rfl⟩⟩:=gz r;refine max_two_ints (I.ok.hd hc) fun h' tk k=>⟨_,H,I.kept k,?_,q⟩
 by_cases hj:j>i
 ·rw[EN hj,EN hj];exact⟨_,rfl⟩
 ·rw[EM hj,EM hj];exact⟨_,rfl⟩
theorem uG(hc:X.calm=true):df X (.builtin "min") (fun xs H Q=>∃i j,xs=[.int i,.int j]/\Q (.int (if j<i then j else i)) H):=by
 intro pins s σ H xs us Q I r h;obtain⟨i,j,rfl,q⟩:=h;obtain⟨u,w',rfl,⟨t,rfl⟩,⟨t',rfl⟩⟩:=gz r;refine min_two_ints (I.ok.hd hc) fun h' tk k=>⟨_,H,I.kept k,?_,q⟩
 by_cases hj:j<i
 ·rw[EN hj,EN hj];exact⟨_,rfl⟩
 ·rw[EM hj,EM hj];exact⟨_,rfl⟩
theorem uE:df X (.type "int") (fun xs H Q=>(∃i,xs=[.int i]/\Q (.int i) H)\/∃k,xs=[.bl k]/\Q (.int (if k then 1 else 0)) H):=by
 intro pins s σ H xs us Q I r h;rcases h with⟨i,rfl,q⟩|⟨k,rfl,q⟩
 ·obtain⟨u,rfl,t,rfl⟩:=bX r;exact call_int_int ⟨.int i,H,I,⟨_,rfl⟩,q⟩
 ·obtain⟨u,rfl,r1⟩:=bX r;cases r1;exact call_int_bool ⟨.int (if k then 1 else 0),H,I.tok _,⟨_,rfl⟩,q⟩
end
open PySem PySem.Spec PyProof.Rows
structure ObjM(h:Heap)(x dx C:Addr)(mA:Str->Option Value):Prop where
 obj:h.get? x=some (PySem.W.instObj C dx)
 ns:h.Ns1 dx mA
 ne:dx≠x
theorem vy{h:Heap}{dx:Addr}{mA:Str->Option Value}(n:h.Ns1 dx mA):∃od,h.get? dx=some od/\∀name,PySem.W.lookIn name od=some (mA name):=by
 obtain⟨o,es,ep,ho,hd,hk,_,hm⟩:=n;refine⟨o,ho,fun name=>?_⟩;have e:=hm name;unfold nsFind findBy at e;rw[<-Array.find?_toList]at e;unfold PySem.W.lookIn;rw[hd];dsimp only;split
 ·rename_i y q;rw[q]at e;exact ZO some e
 ·rename_i q;rw[q]at e;have a:es.toList.any (·.refKey)=false:=by rw[List.any_eq_false];intro y hy;obtain⟨z,t,hkey⟩:=hk y (Array.mem_toList_iff.mp hy);simp[DictEntry.refKey,hkey]
  have a':¬es.toList.any (·.refKey)=true:=by rw[a];exact Zn
  rw[EM a'];exact ZO some e
theorem ObjM.look{h:Heap}{x dx C:Addr}{mA:Str->Option Value}(I:ObjM h x dx C mA):∃od,PySem.W.InstAt h x (PySem.W.instObj C dx) C (some od)/\∀name,PySem.W.lookIn name od=some (mA name) :=
 let⟨od,ho,hl⟩:=vy I.ns
 ⟨od,⟨I.obj,rfl,rfl,ho⟩,hl⟩
section
variable{prog:Program}{w:World}{A:Around}{E:Value->Shared->Prop}{s:Shared}{K:PySem.W.Frag}{x dx C f:Addr}{mA:Str->Option Value}{name:Str}{v:Value}
theorem zl{expr:Bool}{Q:Value->Shared->Prop}(X:K.In s.heap)(I:ObjM s.heap x dx C mA)(hg:PySem.W.plainGet K C name=true)(hh:PySem.W.hasDictIn K C=true)(ha:PySem.W.findIn K (.ref C) name=some none)(hv:mA name=some v)(hv':PySem.W.handedIn v=true)(h:Q v { s with toks:=s.toks+1 }) :
  wpAny (model prog w) A (getAttr (.ref x) name expr) Q E s:=by
 obtain⟨od,J,hl⟩:=I.look;exact PySem.W.get_value X J (PySem.W.plainGet_of hg).1 (PySem.W.findObj_own hh ha rfl (by rw[hl,hv])) hv' h
theorem xr{pl:Sem Bool}{Q:Value×List Value->Shared->Prop}(X:K.In s.heap)(I:ObjM s.heap x dx C mA)(hg:PySem.W.plainGet K C name=true)(hf:PySem.W.findIn K (.ref C) name=some (some (.ref f)))(ht:PySem.W.isFn K (.ref f)=true)(hv:mA name=none)(h:Q (.ref f,[.ref x]) s) :
  wpAny (model prog w) A (getMethod (.ref x) name pl) Q E s:=by
 obtain⟨od,J,hl⟩:=I.look;exact PySem.W.method_fn X J (PySem.W.plainGet_of hg).1 (PySem.W.plainGet_of hg).2 hf (ZI.mp ht) (by show(PySem.W.lookIn name od).map (·.isSome)=some false;rw[hl,hv];rfl) h
theorem Au{ns:List Str}{Q:Unit->Shared->Prop}(X:K.In s.heap)(I:ObjM s.heap x dx C mA)(hs:PySem.W.findIn K (.ref C) "__setattr__" = some (some (.builtin "object.__setattr__")))(hp:PySem.W.plainOver K C=true)(ht:PySem.W.takerIn K C name=some none)(hh:PySem.W.hasDictIn K C=true)(hw:PySem.Within mA ns)(hsz:ns.length<=sizeLine)(h:∀h',ObjM h' x dx C (fun y=>if y=name then some v else mA y)->Heap.SameBut dx s.heap h'->Q () { s with heap:=h',toks:=s.toks+2 }) :
  wpAny (model prog w) A (setAttr (.ref x) name v) Q E s:=by
 obtain⟨od,J,hl⟩:=I.look;refine PySem.W.set_plain X J hs (PySem.W.osa_open (s:={ s with toks:=s.toks+1 }) (r:=none) X J hp ht fun b=>?_);obtain⟨cd,hc,hd'⟩:=PySem.W.any_some hh;have hx:s.heap.get? x=some ⟨.ref C,some dx,.plain,#[]⟩:=I.obj;refine z0 (Zj (z0 (z0 (wpAny_loadPart hx (z0 (PySem.W.Looks.here (s:={ s with toks:=s.toks+1 }) (PySem.W.looks_clsIn X hc) ?_))))));rw[hd'];refine Zj (a:=some dx) (z0 (Zj (z0 ?_)));refine wpAny_nsSet1 (s:={ s with toks:=s.toks+1 }) I.ns fun h' hn2 hs2=>?_;obtain⟨oD,esD,epD,hoD,hdD,hcD⟩:=hn2.count (PySem.Within.cons name v hw);refine z0 (wpAny_lookBehind hoD (by rw[hdD];exact pastItsLine_dict (Zr hcD (by rw[Zq];omega))) ?_);exact Zj (h _ ⟨(hs2.2 _ (ZW I.ne)).trans I.obj,hn2,I.ne⟩ hs2)
theorem qq{R:Result->Shared->Prop}{vs:List Value}{kw:List (Str×Value)}(X:K.In s.heap)(hm:PySem.W.makesIn K C=true)(hi:PySem.W.findIn K (.ref C) "__init__" = some (some (.ref f)))(hf:PySem.W.typeIn K (.ref f)=some (.type "function"))(h:codeAny (model prog w) (A.under (.builtin "type.__call__" ⟨.ref C::vs,kw⟩)) (.call (.ref f) ⟨.ref (s.heap.objs.size+1)::vs,kw⟩) (PySem.W.InitBack (s.heap.objs.size+1) R)
   { s with heap:=(s.heap.push PySem.W.emptyDict).push (PySem.W.instObj C s.heap.objs.size) }) :
  codeAny (model prog w) A (.call (.ref C) ⟨vs,kw⟩) R s:=by
 obtain⟨hh,g,d,t,os⟩:=s;exact PySem.W.make_core (PySem.W.makes_of X hm) (PySem.W.looks_findIn X hi) (fun self=>PySem.W.bind_fn X self hf) (.inl rfl) h
end
def bL(f:Str)(v:V):List (Str×V)->List (Str×V)
 | []=>[(f,v)]
 |(g,x)::r=>if g=f then(g,v)::r else(g,x)::bL f v r
theorem bf(f g:Str)(v:V):∀fs:List (Str×V),(bL f v fs).lookup g=if g=f then some v else fs.lookup g
 | []=>by
  show List.lookup g [(f,v)]=_;by_cases h:g=f
  ·have hb:(g==f)=true:=ZI.mpr h;simp only[List.lookup,hb,EN h]
  ·have hb:(g==f)=false:=beq_eq_false_iff_ne.mpr h;simp only[List.lookup,hb,EM h]
 |(k,x)::r=>by
  have ih:=bf f g v r;rw[show bL f v ((k,x)::r)=(if k=f then(k,v)::r else(k,x)::bL f v r)from rfl];by_cases hk:k=f
  ·rw[EN hk];by_cases h:g=k
   ·have hb:(g==k)=true:=ZI.mpr h;simp only[List.lookup,hb,EN (h.trans hk)]
   ·have hb:(g==k)=false:=beq_eq_false_iff_ne.mpr h;simp only[List.lookup,hb,EM (fun e:g=f=>h (e.trans hk.symm))]
  ·rw[EM hk];by_cases h:g=k
   ·have hb:(g==k)=true:=ZI.mpr h;simp only[List.lookup,hb,EM (fun e:g=f=>hk (h.symm.trans e))]
   ·have hb:(g==k)=false:=beq_eq_false_iff_ne.mpr h;simp only[List.lookup,hb];exact ih
theorem iK(f:Str)(v:V):∀fs:List (Str×V),f∈(bL f v fs).map (·.1)/\∀g,g∈fs.map (·.1)->g∈(bL f v fs).map (·.1)
 | []=>⟨by simp[bL],fun g h=>by simp at h⟩
 |(k,x)::r=>by
  obtain⟨i1,i2⟩:=iK f v r;rw[show bL f v ((k,x)::r)=(if k=f then(k,v)::r else(k,x)::bL f v r)from rfl];by_cases hk:k=f
  ·rw[EN hk];subst hk;exact⟨by simp,fun g h=>by simpa using h⟩
  ·rw[EM hk];refine⟨?_,fun g h=>?_⟩
   ·rw[ZS];exact Zu _ i1
   ·rw[ZS]at h ⊢;rcases Ze.mp h with e|e
    ·exact Ze.mpr (.inl e)
    ·exact Zu _ (i2 g e)
theorem jN(f:Str)(v:V):∀fs:List (Str×V),(bL f v fs).length<=fs.length+1
 | []=>by simp[bL]
 |(k,x)::r=>by
  have ih:=jN f v r;rw[show bL f v ((k,x)::r)=(if k=f then(k,v)::r else(k,x)::bL f v r)from rfl];by_cases hk:k=f
  ·rw[EN hk,Zq,Zq];omega
  ·rw[EM hk,Zq,Zq];omega
theorem RelO.some_of{v:V}{o:Option Value}(r:RelO (some v) o):∃u,o=some u/\RelV v u:=by
 cases o with
 |none=>exact(show False from r).elim
 |some u=>exact⟨u,rfl,r⟩
theorem RelO.none_of{o:Option Value}(r:RelO none o):o=none:=by
 cases o with
 |none=>rfl
 |some u=>exact(show False from r).elim
theorem uV{v:V}{u:Value}(r:RelV v u):PySem.W.handedIn u=true:=by
 cases v with
 |non=>cases(show u=Value.none from r);rfl
 |bl b=>cases(show u=Value.bool b from r);rfl
 |int i=>obtain⟨t,e⟩:=(show∃t,u=Value.int i t from r);cases e;rfl
 |str x=>obtain⟨t,e⟩:=(show∃t,u=Value.str x t from r);cases e;rfl
 |byt b=>obtain⟨t,e⟩:=(show∃t,u=Value.bytes b t from r);cases e;rfl
 |flt b=>obtain⟨t,e⟩:=(show∃t,u=Value.float b t from r);cases e;rfl
 |ref a=>cases(show u=Value.ref a from r);rfl
 |ty n=>cases(show u=Value.type n from r);rfl
section
variable{P:Program}{w:World}{H H':Hp}{h h':Heap}{a C dx:Addr}{fs fs':List (Str×V)}
theorem jt(hok:HOk P w H h)(e:H a=some (.ins C dx fs)):∃mA,ObjM h a dx C mA/\(∀f,RelO (fs.lookup f) (mA f))/\PySem.Within mA (fs.map (·.1))/\fs.length<=1000/\H dx=some (.own a):=by
 obtain⟨d,z,ne,ob,mA,n,r,q⟩:=(show ObjOk P w H h a (.ins C dx fs)from hok a _ e)
 exact⟨mA,⟨ob,n,ne⟩,r,q,z,d⟩
end
structure Cls(K:PySem.W.Frag)(C:Addr):Prop where
 pg:PySem.W.plainGet K C Str.empty=true
 hd:PySem.W.hasDictIn K C=true
 po:PySem.W.plainOver K C=true
 sa:PySem.W.findIn K (.ref C) "__setattr__" = some (some (.builtin "object.__setattr__"))
theorem Cls.get{K:PySem.W.Frag}{C:Addr}(c:Cls K C)(f:Str):PySem.W.plainGet K C f=true:=c.pg
def NoAttr(K:PySem.W.Frag)(C:Addr)(f:Str):Prop:=PySem.W.findIn K (.ref C) f=some none
theorem NoAttr.taker{K:PySem.W.Frag}{C:Addr}{f:Str}(n:NoAttr K C f):PySem.W.takerIn K C f=some none:=by unfold PySem.W.takerIn;rw[show PySem.W.findIn K (.ref C) f=some none from n];rfl
structure Con(K:PySem.W.Frag)(C:Addr)(f:Str)(v:V)(u:Value):Prop where
 at_:PySem.W.findIn K (.ref C) f=some (some u)
 rel:RelV v u
 get:PySem.W.specialIn K u "__get__" = some none
 cp:PySem.W.copiedNames.contains f=false
structure Meth(K:PySem.W.Frag)(C:Addr)(m:Str)(f:Addr):Prop where
 at_:PySem.W.findIn K (.ref C) m=some (some (.ref f))
 fn:PySem.W.isFn K (.ref f)=true
 kp:PySem.W.keepIn K (.ref f)=true
section
variable{X:Cx}{pins:List (Addr×Obj)}{σ:St}{H:Hp}{s:Shared}{a C dx:Addr}{fs:List (Str×V)}{f:Str}{v:V}{A:Around}{E:Value->Shared->Prop}
theorem lf{b:Bool}{Q:Value->Shared->Prop}(I:Inv X pins σ H s)(e:H a=some (.ins C dx fs))(c:Cls X.K C)(n:NoAttr X.K C f)(l:fs.lookup f=some v)(h:∀u s',Inv X pins σ H s'->RelV v u->Q u s'):wpAny (model X.prog X.w) A (getAttr (.ref a) f b) Q E s:=by obtain⟨mA,O,r,_,_,_⟩:=jt I.hok e;obtain⟨u,hu,ru⟩:=RelO.some_of (v:=v) (o:=mA f) (by rw[<-l];exact r f);exact zl I.kIn O (c.get f) c.hd n hu (uV ru) (h u _ (I.tok _) ru)
theorem lg{m:Str}{g:Addr}{pl:Sem Bool}{Q:Value×List Value->Shared->Prop}(I:Inv X pins σ H s)(e:H a=some (.ins C dx fs))(c:Cls X.K C)(k:Meth X.K C m g)(l:fs.lookup m=none)(h:Q (.ref g,[.ref a]) s):wpAny (model X.prog X.w) A (getMethod (.ref a) m pl) Q E s:=by obtain⟨mA,O,r,_,_,_⟩:=jt I.hok e;have hn:mA m=none:=RelO.none_of (by rw[<-l];exact r m);exact xr I.kIn O (c.get m) k.at_ k.fn hn h
theorem lO{y:V}{u:Value}{Q:Unit->Shared->Prop}(I:Inv X pins σ H s)(e:H a=some (.ins C dx fs))(c:Cls X.K C)(n:NoAttr X.K C f)(hl:fs.length<1000)(ry:RelV y u)(h:∀s',Inv X pins σ (upd H a (.ins C dx (bL f y fs))) s'->Q () s'):wpAny (model X.prog X.w) A (setAttr (.ref a) f u) Q E s:=by
 obtain⟨mA,O,r,wi,_,ho⟩:=jt I.hok e;have hz:(fs.map (·.1)).length<=sizeLine:=by rw[Zi,sizeLine_eq];omega
 refine Au I.kIn O c.sa c.po n.taker c.hd wi hz fun h' O' sb=>h _ ?_;have hd:∃o,h'.get? dx=some o:=let⟨o,_,_,e',_⟩:=O'.ns;⟨o,e'⟩
 refine I.write (x:=a) (e:=dx) (by rw[e];exact True.intro) (.inr ho) (fun b q hb z=>(sb.2 b hb).trans z) hd ?_;refine⟨by rw[ac O.ne];exact ho,?_,O.ne,O'.obj,_,O'.ns,fun g=>?_,fun g hg=>?_⟩
 ·have:=jN f y fs;omega
 ·show RelO ((bL f y fs).lookup g) (if g=f then some u else mA g);rw[bf];by_cases q:g=f
  ·rw[EN q,EN q];exact ry
  ·rw[EM q,EM q];exact r g
 ·by_cases q:g=f
  ·rw[q];exact(iK f y fs).1
  ·refine(iK f y fs).2 g (wi g fun z=>hg ?_);show(if g=f then some u else mA g)=none;rw[EM q];exact z
theorem Inv.made(I:Inv X pins σ H s):Inv X pins σ (upd (upd H s.heap.objs.size (.own (s.heap.objs.size+1))) (s.heap.objs.size+1) (.ins C s.heap.objs.size []))
  { s with heap:=(s.heap.push PySem.W.emptyDict).push (PySem.W.instObj C s.heap.objs.size) }:=by
 have e1:(s.heap.push PySem.W.emptyDict).get? s.heap.objs.size=some PySem.W.emptyDict:=Zh s.heap rfl;have e2:((s.heap.push PySem.W.emptyDict).push (PySem.W.instObj C s.heap.objs.size)).get? (s.heap.objs.size+1)=some (PySem.W.instObj C s.heap.objs.size):=by
  have:=Zh (s.heap.push PySem.W.emptyDict) (o:=PySem.W.instObj C s.heap.objs.size) rfl
  rwa [Heap.size_push]at this
 have e3:(s.heap.push PySem.W.emptyDict).Ns s.heap.objs.size (fun _=>none):=⟨PySem.W.emptyDict,#[],_,e1,rfl,(fun e he=>absurd he (by simp)),fun _=>rfl⟩
 have I1:=I.laid (a:=s.heap.objs.size) (o:=.own (s.heap.objs.size+1)) (h':=s.heap.push PySem.W.emptyDict) (t':=s.toks) (fun b u q=>z9 _ q) (Zb _) ⟨_,e1⟩;refine I1.laid (a:=s.heap.objs.size+1) (o:=.ins C s.heap.objs.size []) (t':=s.toks) (fun b u q=>z9 _ q) (Nat.le_of_eq (Heap.size_push _ _)) ?_;have ne:s.heap.objs.size≠s.heap.objs.size+1:=Zt (Nat.lt_succ_self _);refine⟨by rw[ac ne,aa],ZB _,ne,e2,fun _=>none,(Heap.Ns1.of_empty e3).at fun o q=>z9 _ q,fun _=>True.intro,fun y hy=>absurd rfl hy⟩
theorem yZ{prog:Program}{w:World}{env:Env}{e:Expr}{f:Str}{pos:Pos}{s:Shared}{Q:Value->Shared->Prop}(hb:attributeBase e f env (eval e env)=eval e env)(h:wpAny (model prog w) A (eval e env) (fun o s₁=>wpAny (model prog w) A (getAttr o f true) Q E s₁) E s):wpAny (model prog w) A (eval (.Attribute e f pos) env) Q E s :=
 Attribute_any_ h (by rw[arm_eval_Attribute,hb])
end
def yg(K:PySem.W.Frag)(ta:TE)(f:Str):TE:=fun σ H Q=>ta σ H fun x H1=>∃a C dx fs v,x=.ref a/\H1 a=some (.ins C dx fs)/\Cls K C/\NoAttr K C f/\fs.lookup f=some v/\Q v H1
def B6(K:PySem.W.Frag)(ta tv:TE)(f:Str):TS:=fun D σ H=>tv σ H fun y H1=>ta σ H1 fun x H2=>∃a C dx fs,x=.ref a/\H2 a=some (.ins C dx fs)/\Cls K C/\NoAttr K C f/\fs.length<1000 /\
 D.nx σ (upd H2 a (.ins C dx (bL f y fs)))
def wJ(X:Cx)(op:Operator)(rd:V->V->Hp->VK->Prop):Prop :=
 ∀(pins:List (Addr×Obj)) (s:Shared) (σ:St) (H:Hp) (x y:V) (u v:Value) (Q:VK),Inv X pins σ H s->RelV x u->RelV y v->rd x y H Q->wpAny (model X.prog X.w) X.A (inplaceOp op u v) (EP X pins σ Q) X.xe s
def sv(K:PySem.W.Frag)(ta tv:TE)(rd:V->V->Hp->VK->Prop)(f:Str):TS:=fun D σ H=>ta σ H fun x H1=>∃a C dx fs v,x=.ref a/\H1 a=some (.ins C dx fs)/\Cls K C/\NoAttr K C f/\fs.lookup f=some v /\
 tv σ H1 fun y H2=>rd v y H2 fun z H3=>∃dx' fs',H3 a=some (.ins C dx' fs')/\fs'.length<1000/\D.nx σ (upd H3 a (.ins C dx' (bL f z fs')))
section
variable{X:Cx}{o e value:Expr}{f:Str}{pos pos' tpos:Pos}{ta tv:TE}
theorem BC(he:PE X e ta)(hb:attributeBase e f X.env (eval e X.env)=eval e X.env):PE X (.Attribute e f pos) (yg X.K ta f):=by intro pins s σ H Q I h;refine yZ hb (thn (he pins s σ H _ I h) fun u s1 hz9=>?_);obtain⟨x,H1,I1,rx,a,C,dx,fs,v,ex,ea,c,n,l,q⟩:=hz9;subst ex;obtain rfl:u=Value.ref a:=rx;exact lf I1 ea c n l fun u' s2 I2 ru=>⟨v,H1,I2,ru,q⟩
theorem BR(ha:PE X o ta)(hv:PE X value tv)(hs:swapsWith value (some (.Attribute o f pos')) pos.line X.env=pure false):PS X (.Assign [.Attribute o f pos'] value pos) (B6 X.K ta tv f):=by intro pins s σ H D I h;refine plainObj_wpAny_Assign_Attribute (thn (hv pins s σ H _ I h) fun u s1 ⟨y,H1,I1,ry,q⟩=>thn (ha pins s1 σ H1 _ I1 q) fun ov s2 hz9=>?_) hs;obtain⟨x,H2,I2,rx,a,C,dx,fs,ex,ea,c,n,l,q2⟩:=hz9;subst ex;obtain rfl:ov=Value.ref a:=rx;exact lO I2 ea c n l ry fun s3 I3=>⟨σ,_,I3,q2⟩
theorem vV{op:Operator}{rd:V->V->Hp->VK->Prop}(ha:PE X o ta)(hv:PE X value tv)(hop:wJ X op rd):PS X (.AugAssign (.Attribute o f tpos) op value pos) (sv X.K ta tv rd f):=by intro pins s σ H D I h;refine wpAny_AugAssign_AttributeAny (thn (ha pins s σ H _ I h) fun ov s1 hz9=>?_);obtain⟨x,H1,I1,rx,a,C,dx,fs,v,ex,ea,c,n,l,q⟩:=hz9;subst ex;obtain rfl:ov=Value.ref a:=rx;refine lf I1 ea c n l fun u s2 I2 ru=>thn (hv pins s2 σ H1 _ I2 q) fun w3 s3 ⟨y,H2,I3,ry,q3⟩=>thn (hop pins s3 σ H2 v y u w3 _ I3 ru ry q3) fun w4 s4 hz9=>?_;obtain⟨z,H3,I4,rz,dx',fs',ea',l',q4⟩:=hz9;exact lO I4 ea' c n l' rz fun s5 I5=>⟨σ,_,I5,q4⟩
def DA:V->V->Hp->VK->Prop:=fun x y H Q=>∃i j,x=.int i/\y=.int j/\Q (.int (i+j)) H
theorem uY:wJ X .Add DA:=by
 rintro pins s σ H x y u v Q I rx ry ⟨i,j,rfl,rfl,q⟩;obtain⟨t,rfl⟩:=(show∃t,u=Value.int i t from rx)
 obtain⟨t',rfl⟩:=(show∃t',v=Value.int j t' from ry)
 exact PyProof.Rows.iadd_int ⟨.int (i+j),H,I.tok _,⟨_,rfl⟩,q⟩
end
section
variable{X:Cx}{pins:List (Addr×Obj)}{σ:St}{H:Hp}{s:Shared}{A:Around}{E:Value->Shared->Prop}{Q:Value->Shared->Prop}{c:Value}{b:Bool}
inductive TyOf(K:PySem.W.Frag)(H:Hp):V->Value->Prop where
 |non:TyOf K H .non (.type "NoneType")
 |bl (x:Bool):TyOf K H (.bl x) (.type "bool")
 |int (i:Int):TyOf K H (.int i) (.type "int")
 |str (x:Str):TyOf K H (.str x) (.type "str")
 |flt (x:UInt64):TyOf K H (.flt x) (.type "float")
 |lst {a:Addr} {xs:List V} (e:H a=some (.lst xs)):TyOf K H (.ref a) (.type "list")
 |frz {a:Addr} {o:Obj} {xs:List V} (e:H a=some (.frz o (.lst xs))):TyOf K H (.ref a) (.type "list")
 |tup {a:Addr} {xs:List V} (e:H a=some (.tup xs)):TyOf K H (.ref a) (.type "tuple")
 |dK {a:Addr} {kvs:List (Key×V)} (e:H a=some (.dK kvs)):TyOf K H (.ref a) (.type "dict")
 |dT {a:Addr} {kvs:List (List Key×V)} (e:H a=some (.dT kvs)):TyOf K H (.ref a) (.type "dict")
 |ins {a C dx:Addr} {fs:List (Str×V)} (e:H a=some (.ins C dx fs)) (cl:Cls K C) (ha:PySem.W.findIn K (.ref C) "__class__" = some (some (.builtin "object.__class__")))
   (hn:PySem.W.specialIn K (.builtin "object.__class__") "__get__" = some (some (.builtin "getset_descriptor.__get__"))) (htk:PySem.W.takesIn K (.builtin "object.__class__")=some true)
   (hm:PySem.W.mroIn K C (.type "object")=some true):TyOf K H (.ref a) (.ref C)
theorem va{x:V}{u t:Value}(I:Inv X pins σ H s)(rx:RelV x u)(ty:TyOf X.K H x t)(e:PySem.W.kitOne X.K t c=some b)(h:∀tk,Q (.bool b) { s with toks:=tk }) :
  wpAny (model X.prog X.w) A (call (.builtin "isinstance") [u,c]) Q E s:=by
 cases ty with
 |non=>cases(show u=Value.none from rx);exact Z7 PySem.W.kitx_none I.kIn True.intro e (fun z=>nomatch z) h
 |bl y=>cases(show u=Value.bool y from rx);exact Z7 PySem.W.kitx_bool I.kIn True.intro e (fun z=>nomatch z) h
 |int i=>obtain⟨t,q⟩:=(show∃t,u=Value.int i t from rx);cases q;exact Z7 PySem.W.kitx_int I.kIn True.intro e (fun z=>nomatch z) h
 |str y=>obtain⟨t,q⟩:=(show∃t,u=Value.str y t from rx);cases q;exact Z7 PySem.W.kitx_str I.kIn True.intro e (fun z=>nomatch z) h
 |flt y=>obtain⟨t,q⟩:=(show∃t,u=Value.float y t from rx);cases q;exact Z7 PySem.W.kitx_float I.kIn True.intro e (fun z=>nomatch z) h
 |@lst a xs ea =>
  cases(show u=Value.ref a from rx);obtain⟨_,_,n,_,h1⟩:=(show ObjOk X.prog X.w H s.heap a (.lst xs)from I.hok a _ ea)
  exact Z7 PySem.W.kitx_list I.kIn ⟨_,h1,rfl⟩ e (fun z=>nomatch z) h
 |@frz a ob xs ea =>
  cases(show u=Value.ref a from rx);obtain⟨_,_,_,n,_,h1⟩:=(show ObjOk X.prog X.w H s.heap a (.frz ob (.lst xs))from I.hok a _ ea)
  exact Z7 PySem.W.kitx_list I.kIn ⟨_,h1,rfl⟩ e (fun z=>nomatch z) h
 |@tup a xs ea =>
  cases(show u=Value.ref a from rx);obtain⟨_,_,_,p⟩:=(show ObjOk X.prog X.w H s.heap a (.tup xs)from I.hok a _ ea)
  obtain⟨o,h1,h2,_⟩:=p;exact Z7 PySem.W.kitx_tuple I.kIn ⟨o,h1,h2⟩ e (fun z=>nomatch z) h
 |@dK a kvs ea =>
  cases(show u=Value.ref a from rx);obtain⟨_,_,vs,_,p⟩:=(show ObjOk X.prog X.w H s.heap a (.dK kvs)from I.hok a _ ea)
  obtain⟨o,es,ep,h1,h2,_⟩:=p;exact Z7 PySem.W.kitx_dict I.kIn ⟨o,h1,h2.1⟩ e (fun z=>nomatch z) h
 |@dT a kvs ea =>
  cases(show u=Value.ref a from rx);obtain⟨_,_,xs,_,o,es,ep,h1,h2,_⟩:=(show ObjOk X.prog X.w H s.heap a (.dT kvs)from I.hok a _ ea)
  exact Z7 PySem.W.kitx_dict I.kIn ⟨o,h1,h2.1⟩ e (fun z=>nomatch z) h
 |@ins a C dx fs ea cl ha hn htk hm =>cases(show u=Value.ref a from rx);obtain⟨mA,O,_⟩:=jt I.hok ea;obtain⟨od,J,_⟩:=O.look;exact Z7 (PySem.W.kitx_own (cl.get _) cl.hd ha hn htk hm) I.kIn J e (fun z=>nomatch z) h
end
open PySem PySem.Spec PyProof.Rows
structure Room(k:Nat)(A:Around):Prop where
 hd:A.handled=none
 dp:A.depth+3*k+5<recursionLimit
 un:A.units+16*k+200<cLine
theorem Room.mono{j k:Nat}{A:Around}(r:Room k A)(h:j<=k):Room j A:=⟨r.hd,by have:=r.dp;omega,by have:=r.un;omega⟩
theorem Room.deeper{k:Nat}{A:Around}(r:Room (k+1) A)(env:Env):Room k (A.deeper env) :=
 ⟨r.hd,by have:=r.dp;show A.depth+1+3*k+5<_;omega,by have:=r.un;show A.units+3+16*k+200<_;omega⟩
theorem Room.in1{k:Nat}{A:Around}(r:Room (k+1) A):Room k A.in1 :=
 ⟨r.hd,by have:=r.dp;show A.depth+3*k+5<_;omega,by have:=r.un;show A.units+1+16*k+200<_;omega⟩
theorem tD{A:Around}{C:Addr}{us:List Value}{kw:List (Str×Value)}:(A.under (.builtin "type.__call__" ⟨.ref C::us,kw⟩)).depth=A.depth+1:=by
 first|rfl|simp[Around.under,Code.weight,Code.isCreation,Code.isGuard,Code.isCaller,Code.frames,Code.isFrame,guardIds]
theorem tE{A:Around}{C:Addr}{us:List Value}{kw:List (Str×Value)}:(A.under (.builtin "type.__call__" ⟨.ref C::us,kw⟩)).units=A.units+1:=by
 first|rfl|simp[Around.under,Code.cUnits,Code.frames,Code.isFrame]
theorem Room.make{k:Nat}{A:Around}(r:Room (k+1) A)(C:Addr)(us:List Value)(kw:List (Str×Value)):Room k (A.under (.builtin "type.__call__" ⟨.ref C::us,kw⟩)) :=
 ⟨r.hd,by have:=r.dp;rw[tD];omega,by have:=r.un;rw[tE];omega⟩
theorem Room.depth{k:Nat}{A:Around}(r:Room k A):A.depth<recursionLimit:=by have:=r.dp;omega
theorem Room.units{k:Nat}{A:Around}(r:Room k A):A.units+64<cLine:=by have:=r.un;omega
def dJ:TA:=fun _ H Q=>Q [] H
def cA(ta:TE)(tr:TA):TA:=fun σ H Q=>ta σ H fun x H1=>tr σ H1 fun xs H2=>Q (x::xs) H2
section
variable{X:Cx}{e:Expr}{es:List Expr}{te:TE}{t:TA}{pos:Pos}
theorem fO:PA X [] dJ:=fun _ _ _ _ H Q I h=>Calls.spliced_nil ⟨[],H,I,.nil,h⟩
theorem jx(ha:PE X e te)(hr:PA X es t)(hs:starEach (e::es) X.env=(false,eval e X.env)::starEach es X.env:=by rfl):PA X (e::es) (cA te t):=by intro pos pins s σ H Q I h;rw[hs];show wpAny _ _ (spliced ((false,eval e X.env)::backTo pos (starEach es X.env))) _ _ s;refine Calls.spliced_cons (thn (ha pins s σ H _ I h) fun u s1 hz9=>?_);obtain⟨x,H1,I1,r1,q1⟩:=hz9;exact thn (hr pos pins s1 σ H1 _ I1 q1) fun us s2 ⟨xs,H2,I2,r2,q2⟩=>⟨x::xs,H2,I2,.cons r1 r2,q2⟩
def Ck(t:TA):TE:=fun σ H Q=>t σ H fun xs H1=>xs.length<=sizeLine/\∀p,H1 p=none->Q (.ref p) (upd H1 p (.tup xs))
def Cf(t:TA):TE:=fun σ H Q=>t σ H fun xs H1=>xs.length<=sizeLine/\∀p,H1 p=none->Q (.ref p) (upd H1 p (.lst xs))
theorem BJ{x1}(h:PA X es t):PE X (.Tuple es x1 pos) (Ck t):=by intro pins s σ H Q I hq;refine wpAny_Tuple_spliced (thn (h pos pins s σ H _ I hq) fun us s1 ⟨xs,H1,I1,r,z,q⟩=>⟨by rw[<-r.length];exact z,?_⟩);have hf:H1 s1.heap.objs.size=none:=I1.hok.fresh (Zb _);refine⟨.ref s1.heap.objs.size,upd H1 s1.heap.objs.size (.tup xs),I1.laid (t':=s1.toks) (fun b u e=>z9 _ e) (Zb _) ?_,rfl,q _ hf⟩;exact⟨z,us,r,⟨_,Zh _ rfl,rfl,_,rfl⟩⟩
theorem BE(h:PA X es t):PE X (.List es pos) (Cf t):=by intro pins s σ H Q I hq;refine wpAny_List_spliced (thn (h pos pins s σ H _ I hq) fun us s1 ⟨xs,H1,I1,r,z,q⟩=>⟨by rw[<-r.length];exact z,?_⟩);have hf:H1 s1.heap.objs.size=none:=I1.hok.fresh (Zb _);refine⟨.ref s1.heap.objs.size,upd H1 s1.heap.objs.size (.lst xs),I1.laid (t':=s1.toks) (fun b u e=>z9 _ e) (Zb _) ?_,rfl,q _ hf⟩;exact⟨z,us,0,r,Zh _ rfl⟩
end
abbrev Sp:=List V->Hp->VK->XK->Prop
abbrev CXT:=List Env->Hp->Shared->XK->Value->Shared->Prop
structure Env0(P:Program)(w:World)(K:PySem.W.Frag)(mg:Str->Option Value)(base:Heap)(A:Around)(outer:List Env)(s:Shared)(H:Hp):Prop where
 frames:A.frames=some outer
 mod:Mod K mg base
 bs:∀b o,base.get? b=some o->s.heap.get? b=some o/\H b=none
 bsz:base.objs.size<=s.heap.objs.size
 funs:s.heap.FunFrames base outer
 frf:∀b∈frs outer,H b=none
 hok:HOk P w H s.heap
 bare:AllBare s.gens
def CE(outer:List Env)(P:Program)(w:World)(H:Hp)(s:Shared)(Q:VK)(u:Value)(s':Shared):Prop :=
 ∃v H',s'.os=s.os/\AllBare s'.gens/\Un (frs outer) [] H H' s.heap s'.heap/\HOk P w H' s'.heap/\RelV v u/\Q v H'
def CR(CX:CXT)(outer:List Env)(P:Program)(w:World)(H:Hp)(s:Shared)(Q:VK)(E:XK)(r:Result)(s':Shared):Prop :=
 match r with
 |.ok (.ret u)=>CE outer P w H s Q u s'
 |.ok _=>False
 |.error e=>CX outer H s E e s'
structure FnOk(P:Program)(w:World)(K:PySem.W.Frag)(mg:Str->Option Value)(base:Heap)(CX:CXT)(k:Nat)(f:Addr)(fd:FuncData)(ps:List Str)(sp:Sp):Prop where
 len:∀vs H Q E,sp vs H Q E->vs.length=ps.length
 run:∀(A:Around) (outer:List Env) (s:Shared) (H:Hp) (args:Args) (us:List Value) (vs:List V) (Q:VK) (E:XK),Room k A->Env0 P w K mg base A outer s H->BindsTo s fd args (ps.zip us)->Vals vs us->sp vs H Q E ->
  codeAny (model P w) A (.call (.ref f) args) (CR CX outer P w H s Q E) s
theorem Env0.make{P:Program}{w:World}{K:PySem.W.Frag}{mg:Str->Option Value}{base:Heap}{A:Around}{outer:List Env}{s:Shared}{H:Hp}(e:Env0 P w K mg base A outer s H)(C:Addr)(us:List Value)(kw:List (Str×Value)) :
  Env0 P w K mg base (A.under (.builtin "type.__call__" ⟨.ref C::us,kw⟩)) outer s H:=⟨by first|exact e.frames|(simpa[Around.under,Code.envs,Code.isFrame,pushEnvs]using e.frames),e.mod,e.bs,e.bsz,e.funs,e.frf,e.hok,e.bare⟩
section
variable{X:Cx}{pins:List (Addr×Obj)}{σ:St}{H:Hp}{s s':Shared}
theorem Inv.env0(I:Inv X pins σ H s):Env0 X.prog X.w X.K X.mg X.base X.A X.stack s H :=
 ⟨I.ok.frames,I.ok.mod,I.bs,Zr I.ok.bsz I.sz,I.stack,I.stkFree,I.hok,I.bare⟩
theorem Inv.after{Q:VK}{u:Value}(I:Inv X pins σ H s)(h:CE X.stack X.prog X.w H s Q u s'):EP X pins σ Q u s':=by obtain⟨v,H',os,bare,un,hok,r,q⟩:=h;obtain⟨hh,g,d,t,os'⟩:=s';obtain rfl:os'=s.os:=os;exact⟨v,H',I.call (h':=hh) (g':=g) (d':=d) (t':=t) (ch:=[]) un hok bare (fun b z=>absurd z (by simp)),r,q⟩
end
def lV(sp:Sp)(dvs:List V)(E:XK)(t:TA):TE:=fun σ H Q=>t σ H fun vs H1=>sp (vs++dvs) H1 Q E
inductive IsM(C:Addr)(m:Str)(x:V)(H:Hp)(R:Prop):Prop
 |mk (a dx:Addr) (fs:List (Str×V)) (h0:x=.ref a) (h1:H a=some (.ins C dx fs)) (h2:fs.lookup m=none) (q:R):IsM C m x H R
def jF(C:Addr)(m:Str)(sp:Sp)(dvs:List V)(E:XK)(ta:TE)(t:TA):TE:=fun σ H Q=>ta σ H fun x H1=>IsM C m x H1 (t σ H1 fun vs H2=>sp (x::(vs++dvs)) H2 Q E)
def yR(C:Addr)(sp:Sp)(dvs:List V)(E:XK)(t:TA):TE:=fun σ H Q=>t σ H fun vs H1=>∀x dx,H1 x=none->H1 dx=none->dx≠x ->
 sp (.ref x::(vs++dvs)) (upd (upd H1 dx (.own x)) x (.ins C dx [])) (fun v H2=>v=.non/\Q (.ref x) H2) E
def Binds(K:PySem.W.Frag)(fd:FuncData)(ps:List Str)(ds:List Value):Prop :=
 ∀(s:Shared) (us:List Value),K.In s.heap->(us++ds).length=ps.length->BindsTo s fd ⟨us,[]⟩ (ps.zip (us++ds))
theorem Binds.all{K:PySem.W.Frag}{fd:FuncData}{ps:List Str}(h:∀us:List Value,us.length=ps.length->bindArgs fd ⟨us,[]⟩=pure (ps.zip us)):Binds K fd ps []:=fun s us _ hl=>by rw[Z8]at hl ⊢;exact .of_eq (h us hl)
def dL(CX:CXT)(X:Cx)(E:XK):Prop:=∀(pins:List (Addr×Obj)) (σ:St) (H:Hp) (s:Shared) (e:Value) (s':Shared),Inv X pins σ H s->CX X.stack H s E e s'->X.xe e s'
section
variable{X:Cx}{CX:CXT}{k:Nat}{f C:Addr}{fd:FuncData}{ps:List Str}{sp:Sp}{dvs:List V}{ds:List Value}{E:XK}{x m:Str}{p pos apos:Pos}{e o:Expr}{es:List Expr}{ta:TE}{t:TA}
theorem qM{pins:List (Addr×Obj)}{σ:St}{H:Hp}{s:Shared}{Q:VK}{us:List Value}{vs:List V}(F:FnOk X.prog X.w X.K X.mg X.base CX k f fd ps sp)(hr:Room k X.A)(hb:Binds X.K fd ps ds)(hd:Vals dvs ds)(hx:dL CX X E)(I:Inv X pins σ H s)(r:Vals vs us)(h:sp (vs++dvs) H Q E):wpAny (model X.prog X.w) X.A (call (.ref f) us) (EP X pins σ Q) X.xe s:=by
 have r2:Vals (vs++dvs) (us++ds):=r.append hd;have hl:(us++ds).length=ps.length:=by rw[<-r2.length];exact F.len _ _ _ _ h
 refine wpAny_call (Yr (F.run X.A X.stack s H ⟨us,[]⟩ (us++ds) (vs++dvs) Q E hr I.env0 (hb s us I.kIn hl) r2 h) fun r s' hq=>?_);cases r with
 |error e=>exact hx pins σ H s e s' I hq
 |ok fl =>
  cases fl with
  |ret u=>exact I.after hq
  |next=>exact False.elim hq
  |brk=>exact False.elim hq
  |cont=>exact False.elim hq
theorem sk(F:FnOk X.prog X.w X.K X.mg X.base CX k f fd ps sp)(hr:Room k X.A)(hg:Gl X x)(hm:X.mg x=some (.ref f))(hk:PySem.W.keepIn X.K (.ref f)=true)(hb:Binds X.K fd ps ds)(hd:Vals dvs ds)(hx:dL CX X E)(ha:PA X (e::es) t)(hdb:(x==("__debug__":Str))=false:=by decide)(he:starEach (e::es) X.env=(false,eval e X.env)::starEach es X.env:=by rfl)(hpl:(backTo pos (starEach es X.env)).any (·.1)=false:=by rfl) :
  PE X (.Call (.Name x p) (e::es) [] pos) (lV sp dvs E t):=by
 intro pins s σ H Q I h;refine Z9 (fA I hg hm ?_ hdb);refine PySem.W.callWith_K (h₀:=X.base) I.ok.mod.kin hk (thn (ha pos pins s σ H _ I h) fun us s1 ⟨vs,H1,I1,r,q⟩=>⟨I1.kIn,?_⟩) he hpl;exact qM F hr hb hd hx I1 r q
theorem sq{pl:Sem Bool}(he:PE X o ta)(c:Cls X.K C)(hm:Meth X.K C m f)(F:FnOk X.prog X.w X.K X.mg X.base CX k f fd ps sp)(hr:Room k X.A)(hb:Binds X.K fd ps ds)(hd:Vals dvs ds)(hx:dL CX X E)(ha:PA X (e::es) t)(hst:starEach (e::es) X.env=(false,eval e X.env)::starEach es X.env:=by rfl)(hpl:(backTo pos (starEach es X.env)).any (·.1)=false:=by rfl)(ht:eval (.Call (.Attribute o m apos) (e::es) [] pos) X.env=(do
   let ov ←eval o X.env
   standAt apos.atName
   let(f,first) ←holding [ov] (getMethod ov m pl)
   callWith pos f first (backTo pos (starEach (e::es) X.env)) (backToKw pos (keywordEach [] X.env))):=by rfl) :
  PE X (.Call (.Attribute o m apos) (e::es) [] pos) (jF C m sp dvs E ta t):=by
 intro pins s σ H Q I h;refine PySem.W.methodCall_KW (pl:=pl) (thn (he pins s σ H _ I h) fun u s1 hz9=>?_) ht;obtain⟨x,H1,I1,rx,a,dx,fs,ex,ea,l,q⟩:=hz9;subst ex;obtain rfl:u=Value.ref a:=rx;refine lg I1 ea c hm l ?_;refine PySem.W.callWith_K (first:=[.ref a]) (h₀:=X.base) I.ok.mod.kin hm.kp (thn (ha pos pins s1 σ H1 _ I1 q) fun us s2 ⟨vs,H2,I2,r,q2⟩=>⟨I2.kIn,?_⟩) hst hpl;exact qM (us:=.ref a::us) (vs:=.ref a::vs) F hr hb hd hx I2 (.cons rfl r) q2
theorem xL{pl:Sem Bool}(he:PE X o ta)(c:Cls X.K C)(hm:Meth X.K C m f)(F:FnOk X.prog X.w X.K X.mg X.base CX k f fd ps sp)(hr:Room k X.A)(hb:Binds X.K fd ps ds)(hd:Vals dvs ds)(hx:dL CX X E)(ht:eval (.Call (.Attribute o m apos) [] [] pos) X.env=(do
   let ov ←eval o X.env
   standAt apos.atName
   let(f,first) ←holding [ov] (getMethod ov m pl)
   callWith pos f first (backTo pos (starEach [] X.env)) (backToKw pos (keywordEach [] X.env))):=by rfl) :
  PE X (.Call (.Attribute o m apos) [] [] pos) (jF C m sp dvs E ta dJ):=by
 intro pins s σ H Q I h;refine PySem.W.methodCall_KW (pl:=pl) (thn (he pins s σ H _ I h) fun u s1 hz9=>?_) ht;obtain⟨x,H1,I1,rx,a,dx,fs,ex,ea,l,q⟩:=hz9;subst ex;obtain rfl:u=Value.ref a:=rx;refine lg I1 ea c hm l ?_;exact PySem.W.callWith_K0 (first:=[.ref a]) I1.kIn hm.kp (qM (us:=[.ref a]) (vs:=[.ref a]) F hr hb hd hx I1 (.cons rfl .nil) q)
structure Mk(K:PySem.W.Frag)(C f:Addr):Prop where
 makes:PySem.W.makesIn K C=true
 init:PySem.W.findIn K (.ref C) "__init__" = some (some (.ref f))
 fn:PySem.W.isFn K (.ref f)=true
 kp:PySem.W.keepIn K (.ref C)=true
theorem yb{pins:List (Addr×Obj)}{σ:St}{H:Hp}{s:Shared}{Q:VK}{us:List Value}{vs:List V}(M:Mk X.K C f)(F:FnOk X.prog X.w X.K X.mg X.base CX k f fd ps sp)(hr:Room (k+1) X.A)(hb:Binds X.K fd ps ds)(hd:Vals dvs ds)(hx:dL CX X E)(I:Inv X pins σ H s)(r:Vals vs us)(h:∀x dx,H x=none->H dx=none->dx≠x->sp (.ref x::(vs++dvs)) (upd (upd H dx (.own x)) x (.ins C dx [])) (fun v H2=>v=.non/\Q (.ref x) H2) E) :
  wpAny (model X.prog X.w) X.A (call (.ref C) us) (EP X pins σ Q) X.xe s:=by
 have hq:=h (s.heap.objs.size+1) s.heap.objs.size (I.hok.fresh (y6 _)) (I.hok.fresh (Zb _)) (Zt (Nat.lt_succ_self _));have I2:=Inv.made (C:=C) I;have r2:Vals (V.ref (s.heap.objs.size+1)::(vs++dvs)) (Value.ref (s.heap.objs.size+1)::(us++ds)):=.cons rfl (r.append hd);have hl:(Value.ref (s.heap.objs.size+1)::us++ds).length=ps.length:=by have e:=r2.length;rw[F.len _ _ _ _ hq]at e;exact e.symm
 refine wpAny_call (qq (f:=f) I.kIn M.makes M.init (ZI.mp M.fn) (Yr (F.run _ X.stack _ _ ⟨Value.ref (s.heap.objs.size+1)::us,[]⟩ (Value.ref (s.heap.objs.size+1)::(us++ds)) _ _ E (hr.make C us [])
  (I2.env0.make C us []) (hb _ (Value.ref (s.heap.objs.size+1)::us) I2.kIn hl) r2 hq) fun r s' hq'=>?_))
 cases r with
 |error e=>exact hx pins σ _ _ e s' I2 hq'
 |ok fl =>
  cases fl with
  |ret u =>obtain⟨v,H',I3,rv,ev,q3⟩:=I2.after hq';subst ev;exact⟨rv,⟨V.ref (s.heap.objs.size+1),H',I3,rfl,q3⟩⟩
  |next=>exact False.elim hq'
  |brk=>exact False.elim hq'
  |cont=>exact False.elim hq'
theorem zY(M:Mk X.K C f)(F:FnOk X.prog X.w X.K X.mg X.base CX k f fd ps sp)(hr:Room (k+1) X.A)(hg:Gl X x)(hm:X.mg x=some (.ref C))(hb:Binds X.K fd ps ds)(hd:Vals dvs ds)(hx:dL CX X E)(ha:PA X (e::es) t)(hdb:(x==("__debug__":Str))=false:=by decide)(he:starEach (e::es) X.env=(false,eval e X.env)::starEach es X.env:=by rfl)(hpl:(backTo pos (starEach es X.env)).any (·.1)=false:=by rfl) :
  PE X (.Call (.Name x p) (e::es) [] pos) (yR C sp dvs E t):=by
 intro pins s σ H Q I h;refine Z9 (fA I hg hm ?_ hdb);refine PySem.W.callWith_K (h₀:=X.base) I.ok.mod.kin M.kp (thn (ha pos pins s σ H _ I h) fun us s1 ⟨vs,H1,I1,r,q⟩=>⟨I1.kIn,?_⟩) he hpl;exact yb M F hr hb hd hx I1 r q
end
def PK(X:Cx)(kws:List Keyword)(t:TA):Prop :=
 ∀(pos:Pos) (pins:List (Addr×Obj)) (s:Shared) (σ:St) (H:Hp) (Q:List V->Hp->Prop),Inv X pins σ H s->t σ H Q->wpAny (model X.prog X.w) X.A (evalAll ((backToKw pos (keywordEach kws X.env)).map (·.2))) (AP X pins σ Q) X.xe s
section
variable{X:Cx}{CX:CXT}{k:Nat}{f C:Addr}{fd:FuncData}{ps ks:List Str}{sp:Sp}{E:XK}{x m:Str}{p pos apos kpos:Pos}{e o:Expr}{es:List Expr}{kws:List Keyword}{te ta:TE}{t tk:TA}{nm:Option Str}
theorem vT:PK X [] dJ:=fun _ _ _ _ H Q I h=>wpAny_evalAll_nil ⟨[],H,I,.nil,h⟩
theorem mI(ha:PE X e te)(hr:PK X kws t):PK X (⟨nm,e,kpos⟩::kws) (cA te t):=by intro pos pins s σ H Q I h;show wpAny _ _ (evalAll ((do let v ←eval e X.env;standAt pos;pure v)::(backToKw pos (keywordEach kws X.env)).map (·.2))) _ _ s;refine wpAny_evalAll_cons (z0 (thn (ha pins s σ H _ I h) fun u s1 ⟨x,H1,I1,r1,q1⟩=>z0 (wpAny_standAt (Zj ?_))));exact thn (hr pos pins s1 σ H1 _ I1 q1) fun us s2 ⟨xs,H2,I2,r2,q2⟩=>⟨x::xs,H2,I2,.cons r1 r2,q2⟩
structure KBinds(K:PySem.W.Frag)(fd:FuncData)(ps ks:List Str)(g:List Value->List Value->List Value)(gV:List V->List V->List V):Prop where
 to:∀(s:Shared) (us ws:List Value),K.In s.heap->(g us ws).length=ps.length->BindsTo s fd ⟨us,ks.zip ws⟩ (ps.zip (g us ws))
 rel:∀{vs:List V} {us:List Value} {zs:List V} {ws:List Value},Vals vs us->Vals zs ws->Vals (gV vs zs) (g us ws)
variable{g:List Value->List Value->List Value}{gV:List V->List V->List V}
end
structure FnScope(N P:List Str)(sc:Scope):Prop where
 kind:sc.kind=.function
 co:sc.isCoroutine=false
 gen:sc.isGenerator=false
 nd:N.Nodup
 pre:N.take P.length=P
 par:∀x∈P,sc.names.lookup x=some .local\/sc.names.lookup x=some .cell
 nofree:∀y∈sc.names,y.2≠.free
theorem mW{kindOf:Str->Option NameKind}{x:Str}:∀{binds:List (Str×Value)} {m:Str->Option Value},(∀v,(x,v)∉binds)->bindL kindOf binds m x=m x
 | [],_,_=>rfl
 |(n,v)::r,m,h=>by
  unfold bindL;rw[mW fun w hw=>h w (Zu _ hw)];split
  ·have:x≠n:=by rintro rfl;exact h v ZA
   simp[this]
  ·rfl
theorem mU{kindOf:Str->Option NameKind}{x:Str}:∀{binds:List (Str×Value)} {m:Str->Option Value},(∀v,(x,v)∉binds)->bindC kindOf binds m x=m x
 | [],_,_=>rfl
 |(n,v)::r,m,h=>by
  unfold bindC;rw[mU fun w hw=>h w (Zu _ hw)];split
  ·rfl
  ·have:x≠n:=by rintro rfl;exact h v ZA
   simp[this]
theorem mV{kindOf:Str->Option NameKind}{x:Str}{v:Value}:∀{P:List Str} {vs:List Value} {i:Nat} {m:Str->Option Value},P.Nodup->P[i]?=some x->vs[i]?=some v->kindOf x=some .local ->
  bindL kindOf (P.zip vs) m x=some v
 | [],_,_,_,_,h,_,_=>by simp at h
 |_::_,[],_,_,_,_,h,_=>by simp at h
 |p::P,w::vs,0,m,nd,h1,h2,hk=>by simp at h1 h2;subst h1;subst h2;show bindL kindOf ((p,w)::P.zip vs) m p=_;unfold bindL;rw[mW fun v hv=>(List.nodup_cons.mp nd).1 (List.of_mem_zip hv).1,EN hk];simp
 |p::P,w::vs,i+1,m,nd,h1,h2,hk=>by show bindL kindOf ((p,w)::P.zip vs) m x=_;unfold bindL;exact mV (i:=i) (List.nodup_cons.mp nd).2 (by simpa using h1) (by simpa using h2) hk
theorem mT{kindOf:Str->Option NameKind}{x:Str}{v:Value}:∀{P:List Str} {vs:List Value} {i:Nat} {m:Str->Option Value},P.Nodup->P[i]?=some x->vs[i]?=some v->kindOf x≠some .local ->
  bindC kindOf (P.zip vs) m x=some v
 | [],_,_,_,_,h,_,_=>by simp at h
 |_::_,[],_,_,_,_,h,_=>by simp at h
 |p::P,w::vs,0,m,nd,h1,h2,hk=>by simp at h1 h2;subst h1;subst h2;show bindC kindOf ((p,w)::P.zip vs) m p=_;unfold bindC;rw[mU fun v hv=>(List.nodup_cons.mp nd).1 (List.of_mem_zip hv).1,EM hk];simp
 |p::P,w::vs,i+1,m,nd,h1,h2,hk=>by show bindC kindOf ((p,w)::P.zip vs) m x=_;unfold bindC;exact mT (i:=i) (List.nodup_cons.mp nd).2 (by simpa using h1) (by simpa using h2) hk
def start(N:List Str)(vs:List V):St:=vs.map some++List.replicate (N.length-vs.length) none
def cH(CX:CXT)(P:Program)(w:World)(K:PySem.W.Frag)(mg:Str->Option Value)(base:Heap)(N:List Str)(qual:Str)(scope:Scope)(f:Addr)(cd:Value)(A:Around)(outer:List Env)(s:Shared)(H:Hp)(E:XK):Cx where
 prog:=P
 w:=w
 K:=K
 mg:=mg
 base:=base
 A:=A.deeper (envOfC qual scope s.heap.objs.size f cd)
 N:=N
 s₀:=s
 H₀:=H
 env:=envOfC qual scope s.heap.objs.size f cd
 outer:=outer
 stack:=envOfC qual scope s.heap.objs.size f cd::outer
 ex:=[]
 calm:=true
 fn:=fun _=>true
 pn:=[]
 xe:=fun e s'=>wpAny (model P w) (A.deeper (envOfC qual scope s.heap.objs.size f cd)) (leaving (envOfC qual scope s.heap.objs.size f cd) e) (fun _ s''=>CX outer H s E e s'') (fun e' s''=>CX outer H s E e' s'') s'
theorem pL{sc:Scope}{n:Nat}{x:Str}(h:sc.names.lookup x=some .cell):∃c,(cellsFrom n sc.names []).lookup x=some c:=by have q:=PySem.W.cellsFrom_some sc.names n [] (.inl h);exact Option.isSome_iff_exists.mp q
theorem uZ{CX:CXT}{P:Program}{w:World}{K:PySem.W.Frag}{mg:Str->Option Value}{base:Heap}{N ps:List Str}{qual:Str}{scope:Scope}{f:Addr}{cd:Value}{A:Around}{outer:List Env}{s s1:Shared}{H:Hp}{E:XK}{us:List Value}{vs:List V}(S:FnScope N ps scope)(hd:A.handled=none)(e0:Env0 P w K mg base A outer s H)(hl:vs.length=ps.length)(r:Vals vs us)(x:InCallC s s.heap.objs.size (bindL (envOfC qual scope s.heap.objs.size f cd).kindOf (ps.zip us) fun _=>none) (cellsFrom (s.heap.objs.size+1) scope.names []) (bindC (envOfC qual scope s.heap.objs.size f cd).kindOf (ps.zip us) fun _=>none) s1) :
  Inv (cH CX P w K mg base N qual scope f cd A outer s H E) [] (start N vs) H s1:=by
 have hpl:ps.length<=N.length:=by have:=ZO List.length S.pre;rw[Z2]at this;omega
 obtain⟨h1,tk,rfl,hk⟩:=x.done;have noA:∀b:Addr,b∉(cH CX P w K mg base N qual scope f cd A outer s H E).ex:=fun b z=>absurd (show b∈([]:List Addr)from z) (by simp);refine⟨⟨e0.mod,S.kind,rfl,rfl,Zb _,fun y z c h1 h2=>?_,fun y hy=>?_,fun y c _ h=>?_,fun _=>hd,Around.frames_deeper e0.frames,.inr ⟨rfl,rfl⟩,fun b z=>absurd z (noA b),e0.bs,e0.bsz,fun b _ _=>noA b,fun b z=>absurd z (noA b),e0.funs,e0.frf⟩,
  rfl,e0.bare,Un.kept hk,⟨_,x.toInCall.ns,fun i y v h1 h2 h3=>?_⟩,fun y c h=>⟨_,x.cell y c h⟩,e0.hok.fresh (Zb _),fun y c h=>?_,fun p hp=>absurd (show p∈([]:List (Addr×Obj)) from hp) (by simp),e0.hok.kept hk,?_⟩
 ·exact name_of_addr x.apart (Z4 h1) (Z4 h2)
 ·have hy:scope.names.lookup y=some .cell\/scope.names.lookup y=some .free:=hy;rcases hy with hy|hy
  ·exact pL hy
  ·exact absurd rfl (S.nofree _ (Z4 hy))
 ·exact Nat.le_of_lt (x.above y c (Z4 h))
 ·have hi:i<vs.length:=by
   unfold start at h2;by_cases hi:i<vs.length
   ·exact hi
   ·rw[ZF (by simpa using hi)]at h2;rw[List.getElem?_replicate]at h2;split at h2<;>cases h2
  have ha:vs[i]?=some v:=by
   unfold start at h2;rw[y4 (by simpa using hi),Zm]at h2;cases e:vs[i]? with
   |none=>rw[e]at h2;cases h2
   |some a=>rw[e]at h2;cases h2;rfl
  obtain⟨u,hu,rv⟩:=r.get ha;have hp:ps[i]?=some y:=by rw[<-S.pre,List.getElem?_take_of_lt (by omega)];exact h1
  have ndP:ps.Nodup:=by rw[<-S.pre];exact S.nd.sublist (List.take_sublist _ _)
  refine⟨u,rv,?_⟩;rcases S.par y (Z1 hp)with k|k
  ·exact .inl ⟨k,mV ndP hp hu k⟩
  ·obtain⟨c,e⟩:=pL (n:=s.heap.objs.size+1) k;refine .inr ⟨.inl k,c,e,?_⟩;have q:=x.cell y c e;rw[mT ndP hp hu (by show scope.names.lookup y≠_;rw[k];decide)]at q;exact q
 ·exact e0.hok.fresh (Nat.le_of_lt (x.above y c (Z4 h)))
 ·unfold start;show _=N.length;rw[Zs,Zi,List.length_replicate];omega
theorem sX{CX:CXT}{P:Program}{w:World}{K:PySem.W.Frag}{mg:Str->Option Value}{base:Heap}{k:Nat}{f:Addr}{name qual:Str}{params:Arguments}{body:List Stmt}{scope:Scope}{dV kV doc pm cdv ct oc:Value}{an od:Option Addr}{osl:Array (Option Value)}{N ps:List Str}{sp:Sp}(lk:K.lookup f=some ⟨oc,od,.func (PySem.W.fnOf name qual params body scope dV kV doc pm an cdv ct),osl⟩)(hcd:PySem.W.codeIn K cdv qual=true)(S:FnScope N ps scope)(len:∀ vs H Q E,sp vs H Q E->vs.length=ps.length)(hbody:∀ (A:Around) (outer:List Env) (s:Shared) (H:Hp) (vs:List V) (Q:VK) (E:XK),Room k (A.deeper (envOfC qual scope s.heap.objs.size f cdv))->sp vs H Q E ->
   ∃ t,PSs (cH CX P w K mg base N qual scope f cdv A outer s H E) body t/\t { nx:=fun _ H'=>Q .non H',rt:=Q } (start N vs) H) :
  FnOk P w K mg base CX (k+1) f (PySem.W.fnOf name qual params body scope dV kV doc pm an cdv ct) ps sp:=by
 refine⟨len,fun A outer s H args us vs Q E hr e0 hb r hsp=>?_⟩;have hl:=len _ _ _ _ hsp;have KX:K.In s.heap:=e0.mod.kin.keeps fun b o e=>(e0.bs b o e).1;have lim:s.heap.NoLimit:=e0.mod.nolimit.keeps fun b o e=>(e0.bs b o e).1;have hkind:∀y∈ps.zip us,scope.names.lookup y.1=some .local\/(scope.names.lookup y.1=some .cell/\((cellsFrom (s.heap.objs.size+1) scope.names []).lookup y.1).isSome=true):=fun⟨n,v⟩ hy=>by
  rcases S.par n (List.of_mem_zip hy).1 with q|q
  ·exact .inl q
  ·exact .inr ⟨q,PySem.W.cellsFrom_some _ _ _ (.inl q)⟩
 refine codeAny_call_function hr.depth (KX _ _ lk) rfl S.co S.gen rfl (PySem.W.codeRec_of KX hcd) (hb _ _ _ _ ?_);refine wpAny_newFunctionEnv_cells S.kind hkind fun env he s1 x=>?_;subst he;refine⟨lim.keeps x.toInCall.keep,codeAny_func ?_⟩;obtain⟨t,ht,hq⟩:=hbody A outer s H vs Q E (hr.deeper _) hsp;have I:Inv (cH CX P w K mg base N qual scope f cdv A outer s H E) [] (start N vs) H s1:=uZ S hr.hd e0 hl r x;refine ZY (ht [] s1 (start N vs) H _ I hq) (fun fl s' hs=>?_) fun e s' hs=>hs;have fin:∀{σ':St} {H':Hp} {v:V} {u:Value},Inv (cH CX P w K mg base N qual scope f cdv A outer s H E) [] σ' H' s'->RelV v u->Q v H'->CE outer P w H s Q u s' :=
  fun{σ' H' v u} J rv q=>⟨v,H',J.os,J.bare,J.base,J.hok,rv,q⟩
 cases fl with
 |ret u =>obtain⟨v,σ',H',J,rv,q⟩:=hs;exact fin J rv q
 |next =>obtain⟨σ',H',J,q⟩:=hs;exact fin (v:=V.non) (u:=Value.none) J rfl q
 |brk =>obtain⟨_,_,_,q⟩:=hs;exact False.elim q
 |cont =>obtain⟨_,_,_,q⟩:=hs;exact False.elim q
open PySem PySem.Spec PyProof.Rows
section
variable{X:Cx}{x:Str}{p pos:Pos}{e:Expr}{es:List Expr}{t:TA}{id T:String}{r:List V->Hp->VK->Prop}
def tCB(r:List V->Hp->VK->Prop)(t:TA):TE:=fun σ H Q=>t σ H fun vs H1=>r vs H1 Q
theorem xJ(hc:df X (.builtin id) r)(hg:Gl X x)(hm:X.mg x=none)(hv:bootBuiltins x=some (.builtin id))(ha:PA X (e::es) t)(hn:x≠"__name__":=by decide)(hdb:(x==("__debug__":Str))=false:=by decide)(he:starEach (e::es) X.env=(false,eval e X.env)::starEach es X.env:=by rfl)(hpl:(backTo pos (starEach es X.env)).any (·.1)=false:=by rfl):PE X (.Call (.Name x p) (e::es) [] pos) (tCB r t):=by intro pins s σ H Q I h;refine Z9 (cS I hg hm hv ?_ hn hdb);exact PyProof.Rows.callWith_builtin1 (thn (ha pos pins s σ H _ I h) fun us s1 ⟨vs,H1,I1,r1,q1⟩=>hc pins s1 σ H1 vs us Q I1 r1 q1) he hpl
theorem vQ(hc:df X (.type T) r)(hg:Gl X x)(hm:X.mg x=none)(hv:bootBuiltins x=some (.type T))(ha:PA X (e::es) t)(hn:x≠"__name__":=by decide)(hdb:(x==("__debug__":Str))=false:=by decide)(he:starEach (e::es) X.env=(false,eval e X.env)::starEach es X.env:=by rfl)(hpl:(backTo pos (starEach es X.env)).any (·.1)=false:=by rfl):PE X (.Call (.Name x p) (e::es) [] pos) (tCB r t):=by intro pins s σ H Q I h;refine Z9 (cS I hg hm hv ?_ hn hdb);exact ZP (thn (ha pos pins s σ H _ I h) fun us s1 ⟨vs,H1,I1,r1,q1⟩=>hc pins s1 σ H1 vs us Q I1 r1 q1) he hpl
end
end L2
namespace HT
open PySem PyProof.Rows
def lexLt:List Int->List Int->Bool
 | [],[]=>false
 | [],_::_=>true
 |_::_,[]=>false
 |x::xs,y::ys=>if x=y then lexLt xs ys else decide (x<y)
theorem lexLt_cons(x y:Int)(xs ys:List Int):lexLt (x::xs) (y::ys)=if x=y then lexLt xs ys else decide (x<y):=rfl
theorem lexLt_nil_nil:lexLt [] []=false:=rfl
theorem eqAt_int(A:Around)(s:Shared)(a:Int)(t:Tok)(c:Int)(u:Tok):∃e,SeqAt.EqAt A s (.int a t) (.int c u) e/\(e=true↔a=c) :=
 ⟨(a==c),SeqAt.EqAt.int_int a t c u,by simp⟩
section
variable{prog:Program}{w:World}{A:Around}{E:Value->Shared->Prop}{s:Shared}
def sIx(n d:Nat):Option Int->Nat
 |none=>d
 |some v=>if v<0 then(v+(n:Int)).toNat else min v.toNat n
theorem sIx_nat(n d k:Nat):sIx n d (some (k:Int))=min k n:=by show(if(k:Int)<0 then((k:Int)+(n:Int)).toNat else min (k:Int).toNat n)=min k n;rw[EM (by omega),Int.toNat_natCast]
end
end HT
namespace L2
open PySem PySem.Spec PyProof.Rows
abbrev TO:=St->Hp->(Option Int->Hp->Prop)->Prop
def PO(X:Cx)(e:Option Expr)(t:TO):Prop :=
 ∀(pins:List (Addr×Obj)) (s:Shared) (σ:St) (H:Hp) (Q:Option Int->Hp->Prop),Inv X pins σ H s->t σ H Q ->
  wpAny (model X.prog X.w) X.A (evalPart e X.env) (fun u s'=>∃o H',Inv X pins σ H' s'/\IsPart u o/\Q o H') X.xe s
def sE:TO:=fun _ H Q=>Q none H
inductive IsI(x:V)(R:Int->Prop):Prop
 |mk (i:Int) (h:x=.int i) (q:R i):IsI x R
def yS(t:TE):TO:=fun σ H Q=>t σ H fun x H1=>IsI x fun i=>Q (some i) H1
section
variable{X:Cx}{e:Expr}{te:TE}{lo hi:Option Expr}{tl th:TO}{pos p2:Pos}
theorem Af:PO X none sE:=by intro pins s σ H Q I h;rw[evalPart_none];exact Zj ⟨none,H,I,.none,h⟩
theorem Ag(h:PE X e te):PO X (some e) (yS te):=by intro pins s σ H Q I hw;rw[evalPart_some];refine thn (h pins s σ H _ I hw) fun u s1 hz9=>?_;obtain⟨x,H1,I1,r1,q1⟩:=hz9;obtain⟨i,rfl,q⟩:=q1;obtain⟨t,rfl⟩:=r1;exact⟨some i,H1,I1,.int i t,q⟩
def SlR(X:Cx)(r:V->Option Int->Option Int->Hp->VK->Prop):Prop :=
 ∀(pins:List (Addr×Obj)) (s:Shared) (σ:St) (H:Hp) (x:V) (v vl vu:Value) (lo hi:Option Int) (sl:Addr) (Q:VK),Inv X pins σ H s->RelV x v->s.heap.IsSliceOf sl vl vu .none->IsPart vl lo->IsPart vu hi->r x lo hi H Q ->
  ∃T id,typeLookup (.type T) "__getitem__" = pure (some (.builtin id))/\s.TypeIs v T/\wpAny (model X.prog X.w) X.A (getItem v (.ref sl)) (EP X pins σ Q) X.xe s
def tSl(r:V->Option Int->Option Int->Hp->VK->Prop)(te:TE)(tl th:TO):TE:=fun σ H Q=>te σ H fun x H1=>tl σ H1 fun l H2=>th σ H2 fun u H3=>r x l u H3 Q
theorem xM{r:V->Option Int->Option Int->Hp->VK->Prop}(hr:SlR X r)(he:PE X e te)(hl:PO X lo tl)(hu:PO X hi th):PE X (.Subscript e (.Slice lo hi none p2) pos) (tSl r te tl th):=by intro pins s σ H Q I h;refine Subscript_ (thn (he pins s σ H _ I h) fun v s1 hz9=>?_);obtain⟨x,H1,I1,r1,q1⟩:=hz9;refine wpAny_Slice (thn (hl pins s1 σ H1 _ I1 q1) fun vl s2 ⟨l,H2,I2,pl,q2⟩=>thn (hu pins s2 σ H2 _ I2 q2) fun vu s3 hz9=>?_);obtain⟨u,H3,I3,pu,q3⟩:=hz9;rw[evalPart_none];refine Zj ?_;have I4:Inv X pins σ H3 { s3 with heap:=s3.heap.push { cls:=.type "slice",data:=.fields #[vl,vu,.none] } }:=I3.kept (t':=s3.toks) fun b ob q=>z9 _ q;obtain⟨T,id,hT,ht,hg⟩:=hr pins { s3 with heap:=s3.heap.push { cls:=.type "slice",data:=.fields #[vl,vu,.none] } } σ H3 x v vl vu l u s3.heap.objs.size Q I4 r1 (Heap.IsSliceOf.new ..) pl pu q3;show wpAny (model X.prog X.w) X.A (subscriptTail e (.Slice lo hi none p2) v (.ref s3.heap.objs.size)) (EP X pins σ Q) X.xe { s3 with heap:=s3.heap.push { cls:=.type "slice",data:=.fields #[vl,vu,.none] } };exact tail_any (ops:=[.ref s3.heap.objs.size,v]) ht hT hg (by with_unfolding_all rfl)
def eA(xs:List V)(lo hi:Option Int):List V:=(xs.drop (HT.sIx xs.length 0 lo)).take (HT.sIx xs.length xs.length hi-HT.sIx xs.length 0 lo)
theorem rk(xs:List V)(lo hi:Option Int):(eA xs lo hi).length<=xs.length:=by unfold eA;rw[Z2,List.length_drop];omega
inductive rSlT(K:PySem.W.Frag)(x:V)(lo:Option Int)(hi:Option Int)(H:Hp)(Q:VK):Prop
 |mk (a xs:_) (h0:x=.ref a) (h1:SqT K H a xs) (h2:¬(HT.sIx xs.length 0 lo=0/\HT.sIx xs.length xs.length hi=xs.length)) (h3:∀p,H p=none->Q (.ref p) (upd H p (.tup (eA xs lo hi)))):rSlT K x lo hi H Q
end
open PySem PySem.Spec PyProof.Rows
def ixN(n:Nat)(i:Int):Option Nat:=if 0<=i then(if i<n then some i.toNat else none)else if -(n:Int)<=i then some (i+n).toNat else none
def atI{α:Type}(xs:List α)(i:Int):Option α:=(ixN xs.length i).bind fun j=>xs[j]?
theorem mr{n:Nat}{i:Int}{j:Nat}(h:ixN n i=some j):seqIndex? i n=some j/\j<n/\-(n:Int)<=i/\i<n:=by
 unfold ixN at h;by_cases h0:0<=i
 ·rw[EN h0]at h;by_cases h1:i<n
  ·rw[EN h1]at h;have e:i.toNat=j:=Zw h;exact⟨by rw[seqIndex_of h0 h1,e],by omega,by omega,h1⟩
  ·rw[EM h1]at h;cases h
 ·rw[EM h0]at h;by_cases h1:-(n:Int)<=i
  ·rw[EN h1]at h;have e:(i+n).toNat=j:=Zw h;exact⟨by rw[seqIndex_neg (by omega) h1,e],by omega,h1,by omega⟩
  ·rw[EM h1]at h;cases h
theorem rK{α:Type}{xs:List α}{i:Int}{v:α}(h:atI xs i=some v):∃j,seqIndex? i xs.length=some j/\xs[j]?=some v/\j<xs.length/\-(xs.length:Int)<=i/\i<xs.length:=by
 unfold atI at h;cases e:ixN xs.length i with
 |none=>rw[e]at h;cases h
 |some j =>rw[e]at h;obtain⟨h1,h2,h3,h4⟩:=mr e;exact⟨j,h1,h,h2,h3,h4⟩
theorem cT{α:Type}{xs:List α}{j:Nat}{v:α}(h:xs[j]?=some v):atI xs (j:Int)=some v:=by
 have hj:j<xs.length:=(Zk.mp h).1;have e:ixN xs.length (j:Int)=some j:=by unfold ixN;rw[EN (by omega),EN (by omega)];simp
 unfold atI;rw[e];exact h
def rJ(b:Expr):Prop:=∀o i,subscripted b false o i=operate [o,i] (getItem o i)
def IxR(X:Cx)(r:R2):Prop :=
 ∀(value slice:Expr) (pins:List (Addr×Obj)) (s:Shared) (σ:St) (H:Hp) (x y:V) (v u:Value) (Q:VK),Inv X pins σ H s->RelV x v->RelV y u->r x y H Q ->
  subscripted slice false v u=operate [v,u] (getItem v u)->wpAny (model X.prog X.w) X.A (subscriptTail value slice v u) (EP X pins σ Q) X.xe s
def MtR(X:Cx)(id:String)(r:V->List V->Hp->VK->Prop):Prop :=
 ∀(pins:List (Addr×Obj)) (s:Shared) (σ:St) (H:Hp) (x:V) (xs:List V) (v:Value) (us:List Value) (Q:VK),Inv X pins σ H s->RelV x v->Vals xs us->r x xs H Q ->
  wpAny (model X.prog X.w) X.A (call (.builtin id) (v::us)) (EP X pins σ Q) X.xe s
section
variable{X:Cx}{a b:Expr}{ta tb:TE}{pos:Pos}
theorem C4{r:R2}(hr:IxR X r)(ha:PE X a ta)(hb:PE X b tb)(hs:rJ b):PE X (.Subscript a b pos) (tOp r ta tb):=by intro pins s σ H Q I h;exact Subscript_ (wO ha hb I h fun v u s2 x y H2 I2 rx ry q=>hr a b pins s2 σ H2 x y v u Q I2 rx ry q (hs _ _))
inductive rIxL(K:PySem.W.Frag)(x:V)(y:V)(H:Hp)(Q:VK):Prop
 |mk (p xs i v:_) (h0:x=.ref p) (h1:y=.int i) (h2:SqL K H p xs) (h3:atI xs i=some v) (h4:Q v H):rIxL K x y H Q
inductive rIxT(K:PySem.W.Frag)(x:V)(y:V)(H:Hp)(Q:VK):Prop
 |mk (p xs i v:_) (h0:x=.ref p) (h1:y=.int i) (h2:SqT K H p xs) (h3:atI xs i=some v) (h4:Q v H):rIxT K x y H Q
theorem zp:IxR X (rIxL X.K):=by
 intro value slice pins s σ H x y v u Q I rx ry h hs;obtain⟨p,xs,i,z,rfl,rfl,hq,he,q⟩:=h;cases rx;obtain⟨t,rfl⟩:=ry;obtain⟨its,r,pl,hz⟩:=I.list hq;obtain⟨j,h1,h2,h3,h4,h5⟩:=rK he;obtain⟨w,ew,rw'⟩:=r.get h2;have hl:=r.length;have hn:=lA;have fin:EP X pins σ Q w s:=⟨z,H,I,rw',q⟩
 by_cases h0:0<=i
 ·have hj:i.toNat=j:=by rw[seqIndex_of h0 h5]at h1;exact Zw h1
  exact item_listR pl.isList h0 (by omega) (by rw[hj];simpa using ew) fin hs
 ·have hj:(i+(its.toArray.size:Int)).toNat=j:=by rw[seqIndex_neg (by omega) h4]at h1;rw[Zg,<-hl];exact Zw h1
  exact subscriptTail_builtinR (x:=w) pl.isList.typeIs slot_list_getitem.lookup
   (wpAny_getItem_list_neg (Q:=fun r s'=>r=w/\EP X pins σ Q r s') pl.isList (by omega) (by rw[Zg]<;>omega) (by omega) (by rw[hj];simpa using ew) ⟨rfl,fin⟩) hs
theorem A8:IxR X (rIxT X.K):=by
 intro value slice pins s σ H x y v u Q I rx ry h hs;obtain⟨p,xs,i,z,rfl,rfl,hq,he,q⟩:=h;cases rx;obtain⟨t,rfl⟩:=ry;obtain⟨its,r,pl,hz⟩:=I.tuple hq;obtain⟨j,h1,h2,h3,h4,h5⟩:=rK he;obtain⟨w,ew,rw'⟩:=r.get h2;have hl:=r.length;have hn:=lA;have fin:EP X pins σ Q w s:=⟨z,H,I,rw',q⟩
 exact subscriptTail_builtinR (x:=w) pl.typeIs slot_tuple_getitem.lookup
  (getItem_tuple (j:=j) (Q:=fun r s'=>r=w/\EP X pins σ Q r s') pl (by omega) (by omega) (by rw[Zg,<-hl];exact h1) (by simpa using ew) ⟨rfl,fin⟩) hs
theorem tF(its:List Value)(n j:Nat)(u:Value):Obj.mapSeq (·.setIfInBounds j u) { cls:=.type "list",data:=.seq its.toArray n }={ cls:=.type "list",data:=.seq (its.set j u).toArray n }:=by simp[Obj.mapSeq]
theorem Inv.lst{pins:List (Addr×Obj)}{σ:St}{H:Hp}{s:Shared}{p:Addr}{xs:List V}(I:Inv X pins σ H s)(h:H p=some (.lst xs)) :
  ∃(its:List Value) (n:Nat),Vals xs its/\s.heap.get? p=some { cls:=.type "list",data:=.seq its.toArray n }/\xs.length<=sizeLine:=by
 obtain⟨z,its,n,r,e⟩:=I.hok p _ h;exact⟨its,n,r,e,z⟩
theorem Inv.lstUpd{pins:List (Addr×Obj)}{σ:St}{H:Hp}{s:Shared}{p:Addr}{xs ys:List V}{its its':List Value}{n n':Nat}{f:Obj->Obj}(I:Inv X pins σ H s)(h:H p=some (.lst xs))(ho:s.heap.get? p=some { cls:=.type "list",data:=.seq its.toArray n })(hf:f { cls:=.type "list",data:=.seq its.toArray n }={ cls:=.type "list",data:=.seq its'.toArray n' })(r:Vals ys its')(hz:ys.length<=sizeLine)(t:Nat) :
  Inv X pins σ (upd H p (.lst ys)) { s with heap:=s.heap.update p f,toks:=t }:=by
 have e:(s.heap.update p f).get? p=some { cls:=.type "list",data:=.seq its'.toArray n' }:=by rw[Z5 f ho (by rw[hf]<;>rfl),hf]
 refine I.write (x:=p) (e:=p) (by rw[h];trivial) (.inl rfl) (fun b u hb q=>(ZK _ _ (ZW hb)).trans q) ⟨_,e⟩ ?_;exact⟨hz,its',n',r,e⟩
def yK:V->V->V->Hp->(Hp->Prop)->Prop:=fun o i v H Q=>∃p xs k j,o=.ref p/\i=.int k/\H p=some (.lst xs)/\ixN xs.length k=some j/\Q (upd H p (.lst (xs.set j v)))
theorem ye:wL X yK:=by
 intro pins s σ H o i v ov iv u Q I ro ri rv h;obtain⟨p,xs,k,j,rfl,rfl,hp,hj,q⟩:=h;cases ro;obtain⟨t,rfl⟩:=ri;obtain⟨its,n,r,ho,hz⟩:=I.lst hp;obtain⟨h1,h2,h3,h4⟩:=mr hj;have hl:=r.length;have hn:=lA;have I':Inv X pins σ (upd H p (.lst (xs.set j v))) { s with heap:=s.heap.update p (Obj.mapSeq (·.setIfInBounds j u)) } :=
  I.lstUpd hp ho (tF its n j u) (r.set rv j) (by rw[List.length_set];exact hz) s.toks
 by_cases h0:0<=k
 ·have hk:k.toNat=j:=by rw[seqIndex_of h0 h4]at h1;exact Zw h1
  exact PySem.W.ki_setAt ho h0 (by omega) (by rw[Zg,<-hl];exact h4) (by rw[hk];exact⟨_,I',q⟩)
 ·have hk:(k+(its.toArray.size:Int)).toNat=j:=by rw[seqIndex_neg (by omega) h3]at h1;rw[Zg,<-hl];exact Zw h1
  exact PySem.W.ki_setBack ho (by omega) (by rw[Zg,<-hl];exact h3) (by omega) (by rw[hk];exact⟨_,I',q⟩)
theorem qV(lo hi:Option Int)(n:Nat):(sliceBounds lo hi none n).1=((HT.sIx n 0 lo:Nat):Int)/\(sliceBounds lo hi none n).2.1=((HT.sIx n n hi:Nat):Int)/\(sliceBounds lo hi none n).2.2=1:=by
 refine⟨?_,?_,rfl⟩
 ·cases lo with
  |none=>simp[sliceBounds,HT.sIx]
  |some i =>
   simp only[sliceBounds,HT.sIx,Option.getD_none,show(1:Int)>0 by decide,if_true];by_cases h:i<0
   ·simp only[h,if_true]<;>omega
   ·simp only[h,if_false]<;>omega
 ·cases hi with
  |none=>simp[sliceBounds,HT.sIx]
  |some i =>
   simp only[sliceBounds,HT.sIx,Option.getD_none,show(1:Int)>0 by decide,if_true];by_cases h:i<0
   ·simp only[h,if_true]<;>omega
   ·simp only[h,if_false]<;>omega
theorem ow(its:List Value)(lo hi:Option Int):slicePick its.toArray lo hi none=((its.drop (HT.sIx its.length 0 lo)).take (HT.sIx its.length its.length hi-HT.sIx its.length 0 lo)).toArray:=by obtain⟨h1,h2,h3⟩:=qV lo hi its.toArray.size;unfold slicePick;rw[h1,h2,h3];simp only[sliceRange_one,pick_run,Zg]<;>rfl
inductive rSlL(K:PySem.W.Frag)(x:V)(lo:Option Int)(hi:Option Int)(H:Hp)(Q:VK):Prop
 |mk (a xs:_) (h0:x=.ref a) (h1:SqL K H a xs) (h2:∀p,H p=none->Q (.ref p) (upd H p (.lst (eA xs lo hi)))):rSlL K x lo hi H Q
theorem Av:SlR X (rSlL X.K):=by intro pins s σ H x v vl vu lo hi sl Q I rx hs pl pu h;obtain⟨a,xs,rfl,hx,q⟩:=h;cases rx;obtain⟨its,r,ht,hz⟩:=I.list hx;have hlen:=r.length;refine⟨"list",_,slot_list_getitem.lookup,ht.isList.typeIs,?_⟩;refine wpAny_getItem_list_slice ht.isList hs pl pu .none (by simp) ?_ (by rw[Zg]<;>omega);rw[ow,<-hlen];refine⟨.ref s.heap.objs.size,_,I.laid (t':=s.toks) (o:=.lst (eA xs lo hi)) (fun b ob q=>z9 _ q) (Zb _) ?_,rfl,q _ (I.hok.fresh (Zb _))⟩;exact⟨Zr (rk xs lo hi) hz,_,0,(r.drop (HT.sIx xs.length 0 lo)).take (HT.sIx xs.length xs.length hi-HT.sIx xs.length 0 lo),Zh _ rfl⟩
def gh:V->Bool
 |.non=>true
 |.bl _=>true
 |.int _=>true
 |.str _=>true
 |_=>false
def eqV:V->V->Bool
 |.non,.non=>true
 |.bl a,.bl b=>a==b
 |.bl a,.int b=>(if a then 1 else 0)==b
 |.int a,.bl b=>a==(if b then 1 else 0)
 |.int a,.int b=>a==b
 |.str a,.str b=>a==b
 |_,_=>false
theorem AL{A:Around}{s:Shared}{y x:V}{u v:Value}(ry:RelV y u)(rx:RelV x v)(fy:gh y=true)(fx:gh x=true):SeqAt.EqAt A s u v (eqV y x):=by
 cases y with
 |non =>
  cases ry;cases x with
  |non=>cases rx;exact SeqAt.EqAt.same _
  |bl b=>cases rx;exact SeqAt.EqAt.none_bool b
  |int b=>obtain⟨t,rfl⟩:=rx;exact SeqAt.EqAt.none_int b t
  |str b=>obtain⟨t,rfl⟩:=rx;exact SeqAt.EqAt.none_str b t
  |_=>exact absurd (show false=true from fx) Zn
 |bl a =>
  cases ry;cases x with
  |non=>cases rx;exact SeqAt.EqAt.bool_none a
  |bl b=>cases rx;exact SeqAt.EqAt.bool_bool a b
  |int b=>obtain⟨t,rfl⟩:=rx;exact SeqAt.EqAt.bool_int a b t
  |str b=>obtain⟨t,rfl⟩:=rx;exact SeqAt.EqAt.bool_str a b t
  |_=>exact absurd (show false=true from fx) Zn
 |int a =>
  obtain⟨t',rfl⟩:=ry;cases x with
  |non=>cases rx;exact SeqAt.EqAt.int_none a t'
  |bl b=>cases rx;exact SeqAt.EqAt.int_bool a t' b
  |int b=>obtain⟨t,rfl⟩:=rx;exact SeqAt.EqAt.int_int a t' b t
  |str b=>obtain⟨t,rfl⟩:=rx;exact SeqAt.EqAt.int_str a t' b t
  |_=>exact absurd (show false=true from fx) Zn
 |str a =>
  obtain⟨t',rfl⟩:=ry;cases x with
  |non=>cases rx;exact SeqAt.EqAt.str_none a t'
  |bl b=>cases rx;exact SeqAt.EqAt.str_bool a t' b
  |int b=>obtain⟨t,rfl⟩:=rx;exact SeqAt.EqAt.str_int a t' b t
  |str b=>obtain⟨t,rfl⟩:=rx;exact SeqAt.EqAt.str_str a t' b t
  |_=>exact absurd (show false=true from fx) Zn
 |_=>exact absurd (show false=true from fy) Zn
def eqU(x:V)(u:Value):Bool:=match u with
 |.none=>eqV .non x
 |.bool b=>eqV (.bl b) x
 |.int i _=>eqV (.int i) x
 |.str z _=>eqV (.str z) x
 |_=>false
theorem uO{x y:V}{u:Value}(r:RelV y u)(f:gh y=true):eqU x u=eqV y x:=by
 cases y with
 |non=>cases r;rfl
 |bl b=>cases r;rfl
 |int i=>obtain⟨t,rfl⟩:=r;rfl
 |str z=>obtain⟨t,rfl⟩:=r;rfl
 |_=>exact absurd (show false=true from f) Zn
theorem me{x:V}:∀{xs:List V} {us:List Value},Vals xs us->xs.all gh=true->us.any (eqU x)=xs.any fun y=>eqV y x
 |_,_,.nil,_=>rfl
 |y::xs,u::us,.cons r t,f=>by rw[Yd,Zz]at f;rw[List.any_cons,List.any_cons,uO r f.1,me t f.2]
theorem kn{A:Around}{s:Shared}{x:V}{v:Value}(rx:RelV x v)(fx:gh x=true):∀{xs:List V} {us:List Value},Vals xs us->xs.all gh=true->∀u∈us,SeqAt.EqAt A s u v (eqU x u)
 |_,_,.nil,_=>fun u hu=>by cases hu
 |y::xs,u::us,.cons r t,f=>fun u' hu=>by
  rw[Yd,Zz]at f;rcases Ze.mp hu with rfl|hu
  ·rw[uO r f.1];exact AL r rx f.1 fx
  ·exact kn rx fx t f.2 u' hu
def inV(x:V)(xs:List V):Bool:=xs.any fun y=>eqV y x
def rIn(K:PySem.W.Frag)(neg:Bool):R2:=fun x y H Q=>∃p xs,y=.ref p/\(SqL K H p xs\/SqT K H p xs)/\gh x=true/\xs.all gh=true/\Q (.bl (if neg then !inV x xs else inV x xs)) H
theorem vP:OpR X (compareOp .In) (rIn X.K false):=by
 intro pins s σ H x y v u Q I rx ry h;obtain⟨p,xs,rfl,hq,fx,fs,q⟩:=h;cases ry;rcases hq with hq|hq
 ·obtain⟨its,r,pl,hz⟩:=I.list hq;refine SeqAt.in_listAt (eqU x) pl.isList (fun w hw=>kn rx fx r fs w (by simpa using hw)) ⟨.bl _,H,I,rfl,?_⟩;rw[show its.toArray.any (eqU x)=its.any (eqU x) by simp,me r fs];exact q
 ·obtain⟨its,r,pl,hz⟩:=I.tuple hq;refine SeqAt.in_tupleAt (eqU x) pl (fun w hw=>kn rx fx r fs w (by simpa using hw)) ⟨.bl _,H,I,rfl,?_⟩;rw[show its.toArray.any (eqU x)=its.any (eqU x) by simp,me r fs];exact q
theorem pI:df X (.builtin "len") (fun xs H Q=>∃p ys,xs=[.ref p]/\(SqL X.K H p ys\/SqT X.K H p ys)/\Q (.int ys.length) H):=by
 intro pins s σ H xs us Q I r h;obtain⟨p,ys,rfl,hq,q⟩:=h;obtain⟨u,rfl,rx⟩:=bX r;cases rx;have hn:=lA;rcases hq with hq|hq
 ·obtain⟨its,r',pl,hz⟩:=I.list hq;have hlen:=r'.length;exact Calls.call_len_list pl.isList (by simp only[Zg]<;>omega) ⟨.int ys.length,H,I.tok _,⟨s.toks+1,by rw[Zg,hlen]⟩,q⟩
 ·obtain⟨its,r',pl,hz⟩:=I.tuple hq;have hlen:=r'.length;exact len_tuple pl (by simp only[Zg]<;>omega) ⟨.int ys.length,H,I.tok _,⟨s.toks+1,by rw[Zg,hlen]⟩,q⟩
theorem pJ:df X (.type "list") (fun xs H Q=>∃p ys,xs=[.ref p]/\(SqL X.K H p ys\/SqT X.K H p ys)/\∀l,H l=none->Q (.ref l) (upd H l (.lst ys))):=by
 intro pins s σ H xs us Q I r h;obtain⟨p,ys,rfl,hq,q⟩:=h;obtain⟨u,rfl,rx⟩:=bX r;cases rx;have fin:∀(its:List Value),Vals ys its->ys.length<=sizeLine->∀(h':Heap) (c':Nat),(∀b o',s.heap.get? b=some o'->h'.get? b=some o') ->
   h'.get? s.heap.objs.size=some { cls:=.type "list",dict:=none,data:=.seq its.toArray c',slots:=#[] }->EP X pins σ Q (.ref s.heap.objs.size) { s with heap:=h' }:=fun its r' hz h' c' kp e =>
  ⟨.ref s.heap.objs.size,_,I.laid (t':=s.toks) kp (Zb _) (show ObjOk X.prog X.w _ h' _ (.lst ys)from⟨hz,its,c',r',e⟩),rfl,q _ (I.hok.fresh (Zb _))⟩
 rcases hq with hq|hq
 ·obtain⟨its,r',pl,hz⟩:=I.list hq;have hlen:=r'.length;obtain⟨o,ho,hc,n,hd⟩:=pl.isList;exact call_list_seq p (.inl rfl) ho hc hd (fun h' c' kp e=>fin its r' hz h' c' kp e) (by simp only[Zg]<;>omega)
 ·obtain⟨its,r',pl,hz⟩:=I.tuple hq;have hlen:=r'.length;obtain⟨o,ho,hc,n,hd⟩:=pl;exact call_list_seq p (.inr rfl) ho hc hd (fun h' c' kp e=>fin its r' hz h' c' kp e) (by simp only[Zg]<;>omega)
theorem nU:df X (.type "tuple") (fun xs H Q=>∃p ys,xs=[.ref p]/\((SqL X.K H p ys/\∀l,H l=none->Q (.ref l) (upd H l (.tup ys)))\/(SqT X.K H p ys/\Q (.ref p) H))):=by
 intro pins s σ H xs us Q I r h;obtain⟨p,ys,rfl,h⟩:=h;obtain⟨u,rfl,rx⟩:=bX r;cases rx;rcases h with⟨hq,q⟩|⟨hq,q⟩
 ·obtain⟨its,r',pl,hz⟩:=I.list hq;have hlen:=r'.length;refine call_tuple_list pl.isList (fun h' kp=>?_) (by simp only[Zg]<;>omega);have I1:Inv X pins σ H { s with heap:=h' }:=I.kept (t':=s.toks) kp;have I2:Inv X pins σ (upd H h'.objs.size (.tup ys)) { s with heap:=h'.push { cls:=.type "tuple",data:=.seq its.toArray } } :=
   I1.laid (t':=s.toks) (fun b o e=>z9 _ e) (Zb _) (show ObjOk X.prog X.w _ _ _ (.tup ys)from⟨hz,its,r',IsTup.new _ _⟩)
  exact⟨.ref h'.objs.size,_,I2,rfl,q _ (I1.hok.fresh (Zb _))⟩
 ·obtain⟨its,r',pl,hz⟩:=I.tuple hq;exact call_tuple_same pl ⟨.ref p,H,I,rfl,q⟩
def tyV(K:PySem.W.Frag)(T:String)(x:V)(H:Hp):Prop:=match x with
 |.str _=>T="str"
 |.int _=>T="int"
 |.ref p=>(T="list"/\∃xs,SqL K H p xs)\/(T="tuple"/\∃o,K.lookup p=some o/\o.cls=.type "tuple"/\o.dict=none) \/
   (T="dict"/\((∃kvs,H p=some (.dK kvs))\/∃kvs,H p=some (.dT kvs)))\/(T="set"/\∃S n,H p=some (.set S n))
 |_=>False
theorem Cm{pins:List (Addr×Obj)}{σ:St}{H:Hp}{s:Shared}{T:String}{x:V}{v:Value}(I:Inv X pins σ H s)(r:RelV x v)(ty:tyV X.K T x H) :
  s.TypeIs v T/\∀a,v=.ref a->∃ob,s.heap.get? a=some ob/\ob.dict=none:=by
 cases x with
 |str z =>obtain⟨t,rfl⟩:=r;cases(show T="str" from ty);exact⟨typeIs_str s z t,fun _ e=>nomatch e⟩
 |int i =>obtain⟨t,rfl⟩:=r;cases(show T="int" from ty);exact⟨typeIs_int s i t,fun _ e=>nomatch e⟩
 |ref p =>
  cases r;rcases ty with⟨rfl,xs,hq⟩|⟨rfl,o,hk,hc,hd⟩|⟨rfl,hk⟩|⟨rfl,S,n,hk⟩
  ·obtain⟨its,_,pl,_⟩:=I.list hq;refine⟨pl.isList.typeIs,fun a e=>?_⟩;cases e;obtain⟨o,n,e,c,hd,_⟩:=pl;exact⟨o,e,hd⟩
  ·refine⟨⟨o,I.kIn p o hk,hc⟩,fun a e=>?_⟩;cases e;exact⟨o,I.kIn _ o hk,hd⟩
  ·have z:∃o,s.heap.get? p=some o/\o.ExactDict:=by
    rcases hk with⟨kvs,hk⟩|⟨kvs,hk⟩
    ·obtain⟨_,_,_,_,o,_,_,e,ex,_⟩:=I.hok p _ hk;exact⟨o,e,ex⟩
    ·obtain⟨_,_,_,_,o,_,_,e,ex,_⟩:=I.hok p _ hk;exact⟨o,e,ex⟩
   obtain⟨o,e,ex⟩:=z;refine⟨⟨o,e,ex.1⟩,fun a e2=>?_⟩;cases e2;exact⟨o,e,ex.2.1⟩
  ·obtain⟨o,_,_,_,e,ex,_⟩:=I.hok p _ hk;refine⟨⟨o,e,ex.1⟩,fun a e2=>?_⟩;cases e2;exact⟨o,e,ex.2.1⟩
 |_=>exact False.elim ty
def tBM(K:PySem.W.Frag)(T:String)(r:V->List V->Hp->VK->Prop)(to:TE)(t:TA):TE:=fun σ H Q=>to σ H fun x H1=>tyV K T x H1/\t σ H1 fun xs H2=>r x xs H2 Q
variable{o e:Expr}{es:List Expr}{to:TE}{t:TA}{name:Str}{apos cpos:Pos}{T id:String}{r:V->List V->Hp->VK->Prop}
theorem jy(pa:PlainAttrs T)(slot:Slot T name id)(hty:typeOf (.builtin id)=pure (.type "method_descriptor"))(hm:MtR X id r)(ho:PE X o to)(ha:PA X (e::es) t)(hbase:attributeBase o name X.env (eval o X.env)=eval o X.env:=by rfl)(hfew:((backTo cpos (starEach (e::es) X.env)).all (fun x=>!x.1)&&(backToKw cpos (keywordEach [] X.env)).all (fun x=>x.1.isSome)
  &&decide ((e::es).length+([]:List Keyword).length+(if ([]:List Keyword).isEmpty then 0 else 1)<30))=true:=by rfl)(hline:(apos.endLine == cpos.line)=true:=by rfl)(hs:starEach (e::es) X.env=(false,eval e X.env)::starEach es X.env:=by rfl)(hplain:(backTo cpos (starEach es X.env)).any (·.1)=false:=by rfl) :
  PE X (.Call (.Attribute o name apos) (e::es) [] cpos) (tBM X.K T r to t):=by
 intro pins s σ H Q I h;refine wpAny_Call_method_late hbase hfew hline rfl (thn (ho pins s σ H _ I h) fun v s1 hz9=>?_);obtain⟨x,H1,I1,r1,ty,q1⟩:=hz9;obtain⟨h1,h2⟩:=Cm I1 r1 ty;refine⟨T,id,pa,slot,hty,h1,h2,?_⟩;have hA:=ha cpos pins s1 σ H1 _ I1 q1;rw[hs]at hA ⊢;refine Calls.callWith_builtin (by show(false ||(backTo cpos (starEach es X.env)).any (·.1))=false;rw[hplain]<;>rfl) (Calls.evalArgs_plain ?_);exact thn hA fun us s2 ⟨vs,H2,I2,r2,q2⟩=>hm pins s2 σ H2 x vs v us Q I2 r1 r2 q2
end
open PySem PySem.Spec PyProof.Rows
def MtM(X:Cx)(id:String)(r:V->List V->Hp->VK->Prop):Prop :=
 ∀(pins:List (Addr×Obj)) (s:Shared) (σ:St) (H:Hp) (x:V) (xs:List V) (v:Value) (us:List Value) (Q:VK),Inv X pins σ H s->RelV x v->Vals xs us->r x xs H Q ->
  wpAny (model X.prog X.w) X.A (call (.builtin id) (v::us)) (EP X pins σ Q) X.xe s
theorem Vals.one:∀{x:V} {us:List Value},Vals [x] us->∃u,us=[u]/\RelV x u
 |_,_,.cons r .nil=>⟨_,rfl,r⟩
theorem Vals.eraseIdx:∀{xs:List V} {us:List Value} (i:Nat),Vals xs us->Vals (xs.eraseIdx i) (us.eraseIdx i)
 |_,_,_,.nil=>.nil
 |_,_,0,.cons _ t=>t
 |_,_,i+1,.cons r t=>.cons r (Vals.eraseIdx i t)
theorem Vals.reverse{xs:List V}{us:List Value}(h:Vals xs us):Vals xs.reverse us.reverse:=by
 induction h with
 |nil=>exact .nil
 |cons r t ih=>rw[List.reverse_cons,List.reverse_cons];exact Vals.append ih (.cons r .nil)
theorem Vals.rep{xs:List V}{us:List Value}(h:Vals xs us):∀k:Nat,Vals (List.replicate k xs).flatten (List.replicate k us).flatten
 |0=>.nil
 |k+1=>by rw[ZZ,ZZ,Yl,Yl];exact Vals.append h (Vals.rep h k)
theorem nq{α:Type}:∀(l:List α) (i:Nat),(l.eraseIdx i).length<=l.length
 | [],_=>Zb _
 |_::_,0=>y6 _
 |_::r,i+1=>Nat.succ_le_succ (nq r i)
theorem nh(its:List Value):∀(k:Nat) (acc:List Value),
  List.foldl (fun x1 x2=>x1++x2) acc.toArray (List.replicate k its.toArray)=(acc++(List.replicate k its).flatten).toArray
 |0,acc=>by simp
 |k+1,acc=>by
  have e:acc.toArray++its.toArray=(acc++its).toArray:=by simp
  have e2:(acc++its)++(List.replicate k its).flatten=acc++(List.replicate (k+1) its).flatten:=by rw[ZZ,Yl,Zv]
  rw[<-e2,<-nh its k (acc++its),<-e,ZZ,Yi]
section
variable{X:Cx}{pins:List (Addr×Obj)}{σ:St}{H:Hp}{s:Shared}{l b:Addr}{xs ys zs:List V}
theorem Inv.lset{its its':List Value}{n:Nat}{f:Array Value->Array Value}{t':Nat}(I:Inv X pins σ H s)(hH:H l=some (.lst xs))(e:s.heap.get? l=some { cls:=.type "list",data:=.seq its.toArray n })(hf:f its.toArray=its'.toArray)(hv:Vals ys its')(hz:ys.length<=sizeLine) :
  Inv X pins σ (upd H l (.lst ys)) { s with heap:=s.heap.update l (Obj.mapSeq f),toks:=t' }:=by
 have q:=PySem.IsL.update e f;rw[hf]at q;refine I.write (x:=l) (e:=l) (by rw[hH];exact trivial) (.inl rfl) (fun b' u hb hu=>(ZK s.heap (Obj.mapSeq f) (ZW hb)).trans hu) ⟨_,q⟩ ?_;exact⟨hz,its',_,hv,q⟩
theorem Inv.lnew{its:List Value}{t':Nat}(I:Inv X pins σ H s)(hv:Vals ys its)(hz:ys.length<=sizeLine) :
  Inv X pins σ (upd H s.heap.objs.size (.lst ys)) { s with heap:=s.heap.push { cls:=.type "list",data:=.seq its.toArray },toks:=t' } :=
 I.laid (fun _ _ q=>z9 _ q) (Zb _) ⟨hz,its,0,hv,Zh _ rfl⟩
theorem Inv.fresh(I:Inv X pins σ H s):H s.heap.objs.size=none:=I.hok.fresh (Zb _)
theorem Inv.lstM(I:Inv X pins σ H s)(hH:H l=some (.lst xs)):xs.length<=sizeLine/\∃(its:List Value) (n:Nat),Vals xs its/\xs.length=its.length/\s.heap.get? l=some { cls:=.type "list",data:=.seq its.toArray n }:=by obtain⟨z,its,n,r,e⟩:=I.hok l _ hH;exact⟨z,its,n,r,r.length,e⟩
theorem xE{n:Nat}(h:n<=sizeLine):Builtin.List.listTooLong n=false:=by unfold Builtin.List.listTooLong;exact decide_eq_false (by omega)
end
section
variable{X:Cx}
inductive rAppend  (x:V)(vs:List V)(H:Hp)(Q:VK):Prop
 |mk (l xs y:_) (h0:x=.ref l) (h1:vs=[y]) (h2:H l=some (.lst xs)) (h3:xs.length<sizeLine) (h4:Q .non (upd H l (.lst (xs++[y])))):rAppend  x vs H Q
theorem vA:MtM X "list.append" rAppend:=by intro pins s σ H x vs v us Q I rx rv h;obtain⟨l,xs,y,rfl,rfl,hH,hz,q⟩:=h;cases rx;obtain⟨u,rfl,ru⟩:=rv.one;obtain⟨z,its,n,r,hl,e⟩:=I.lstM hH;refine call_meets F.slot_list_append ⟨_,e,rfl⟩ F.entry_list_append (F.args_list_append_2 _ _) (PySem.list_append l its.toArray n u (by rw[Zg];omega)) ⟨e,?_⟩;refine⟨.non,_,I.lset (its':=its++[u]) hH e (by simp) (r.append (.cons ru .nil)) ?_,rfl,q⟩;rw[Zs,ZC];omega
def vW:V->List V->Hp->VK->Prop:=fun x vs H Q=>∃l xs i k y,x=.ref l/\vs=[.int i]/\H l=some (.lst xs)/\-(2^63)<=i/\i<2^63/\seqIndex? i xs.length=some k/\xs[k]?=some y/\Q y (upd H l (.lst (xs.eraseIdx k)))
theorem xC:MtM X "list.pop" vW:=by
 intro pins s σ H x vs v us Q I rx rv h;obtain⟨l,xs,i,k,y,rfl,rfl,hH,h1,h2,hk,hy,q⟩:=h;cases rx;obtain⟨u,rfl,ru⟩:=rv.one;obtain⟨t,rfl⟩:=ru;obtain⟨z,its,n,r,hl,e⟩:=I.lstM hH;obtain⟨w,hw,rw'⟩:=r.get hy;refine call_meets F.slot_list_pop ⟨_,e,rfl⟩ F.entry_list_pop (F.args_list_pop_2 _ _)
  (MeetsSeq.list_pop_at l its.toArray n i t k w (fitsIndex_both h1 h2) (by rw[Zg,<-hl];exact hk) (by rw[<-Array.getElem?_toList];exact hw) (by rw[Zg];omega)) ⟨e,?_⟩
 refine⟨y,_,I.lset (its':=its.eraseIdx k) hH e ?_ (r.eraseIdx k) ?_,rw',q⟩
 ·show its.toArray.eraseIdxIfInBounds k=(its.eraseIdx k).toArray;rw[List.eraseIdxIfInBounds_toArray]
 ·have:=nq xs k;omega
inductive rCat  (x:V)(y:V)(H:Hp)(Q:VK):Prop
 |mk (l b xs zs:_) (h0:x=.ref l) (h1:y=.ref b) (h2:H l=some (.lst xs)) (h3:H b=some (.lst zs)) (h4:xs.length+zs.length<=sizeLine) (h5:∀p,H p=none->Q (.ref p) (upd H p (.lst (xs++zs)))):rCat  x y H Q
theorem Bs:OpR X (binaryOp .Add) rCat:=by
 intro pins s σ H x y v u Q I rx ry h;obtain⟨l,b,xs,zs,rfl,rfl,hH,hB,hz,q⟩:=h;cases rx;cases ry;obtain⟨z,its,n,r,hl,e⟩:=I.lstM hH;obtain⟨z2,its2,n2,r2,hl2,e2⟩:=I.lstM hB;refine PySem.P.add_list e e2 ?_ (by rw[Zg,Zg];omega);have ea:its.toArray++its2.toArray=(its++its2).toArray:=by simp
 rw[ea];exact⟨.ref _,_,I.lnew (t':=s.toks) (r.append r2) (by rw[Zs];omega),rfl,q _ I.fresh⟩
def B4:R2:=fun x y H Q=>∃l k xs,x=.ref l/\y=.int k/\H l=some (.lst xs)/\-(2^63)<=k/\k<2^63/\xs.length*k.toNat<=sizeLine /\
 ∀p,H p=none->Q (.ref p) (upd H p (.lst (List.replicate k.toNat xs).flatten))
theorem zt{α:Type}(xs:List α)(k:Nat):(List.replicate k xs).flatten.length=k*xs.length:=by
 induction k with
 |zero=>simp
 |succ k ih=>rw[ZZ,Yl,Zs,ih,Nat.succ_mul,Nat.add_comm]
theorem By:OpR X (binaryOp .Mult) B4:=by
 intro pins s σ H x y v u Q I rx ry h;obtain⟨l,k,xs,rfl,rfl,hH,h1,h2,hz,q⟩:=h;cases rx;obtain⟨t,rfl⟩:=ry;obtain⟨z,its,n,r,hl,e⟩:=I.lstM hH;have hlen:its.toArray.size*k.toNat<=sizeLine:=by rw[Zg,<-hl];exact hz
 have hcap:¬its.toArray.size*k.toNat>(2^63-1) / 8:=by
  have:(sizeLine:Nat)<=(2^63-1) / 8:=by decide
  omega
 have hfit:¬(!Builtin.List.listFitsIndex k)=true:=by rw[fitsIndex_both h1 h2];exact Zn
 have hlong:¬Builtin.List.listTooLong (its.toArray.size*k.toNat)=true:=by rw[xE hlen];exact Zn
 have hnew:List.foldl (fun x1 x2=>x1++x2) #[] (List.replicate (if its.toArray.isEmpty=true then 0 else k.toNat) its.toArray)=(List.replicate k.toNat its).flatten.toArray:=by
  have f0:∀m:Nat,List.foldl (fun x1 x2=>x1++x2) #[] (List.replicate m its.toArray)=(List.replicate m its).flatten.toArray:=fun m=>by have:=nh its m [];rw[List.nil_append]at this;exact this
  rw[f0];cases its with
  |nil=>simp
  |cons a r'=>rw[EM (by simp)]
 refine wpAny_binaryOp_repeat_ref (T:="list") (U:="int") (by decide) ⟨_,e,rfl⟩ (fun s'=>typeIs_int s' k t) noFill_list_mul F.fills_int_mul F.slot_int_rmul repeat_list F.slot_int_index.lookup
  (call_meets F.slot_int_rmul (typeIs_int s k t) F.entry_int_rmul (F.args_int_rmul_2 _ _) (int___rmul___int_list k t l its.toArray n)
   ⟨e,rfl,⟨_,e,rfl⟩,call_meets F.slot_list_mul ⟨_,e,rfl⟩ F.entry_list_mul (F.args_list_mul_2 _ _) (AutoListH.list___mul___list_int_3 l its.toArray n k t hfit hcap hlong) ⟨e,?_⟩⟩)
 rw[hnew];exact⟨.ref _,_,I.lnew (t':=s.toks) (r.rep k.toNat) (by rw[zt,Nat.mul_comm];exact hz),rfl,q _ I.fresh⟩
end
open PySem PySem.Spec PyProof.Rows
section
variable{κ:Type}[DecidableEq κ]
def BX(kvs:List (κ×V))(k:κ)(v:V):List (κ×V) :=
 if(kvs.any fun kv=>decide (kv.1=k))=true then kvs.map (fun kv=>if kv.1=k then(kv.1,v)else kv)else kvs++[(k,v)]
end
def Dl(H:Hp)(a:Addr)(y v:V)(H':Hp):Prop :=
 (∃kvs k,H a=some (.dK kvs)/\y=kV k/\kvs.length<sizeLine/\H'=upd H a (.dK (BX kvs k v))) \/
 ∃kvs k b,H a=some (.dT kvs)/\y=.ref b/\H b=some (.tup (k.map kV))/\kvs.length<sizeLine/\H'=upd H a (.dT (BX kvs k v))
inductive IsP(x y v:V)(H:Hp)(R:Hp->Prop):Prop
 |mk (a:Addr) (H':Hp) (h0:x=.ref a) (h1:Dl H a y v H') (q:R H'):IsP x y v H R
def wv:List (TE×TE)->St->Hp->(List (V×V)->Hp->Prop)->Prop
 | [],_,H,Q=>Q [] H
 |(tk,tv)::r,σ,H,Q=>tk σ H fun x H1=>tv σ H1 fun y H2=>wv r σ H2 fun ps H3=>Q ((x,y)::ps) H3
abbrev VV:List (V×V)->List (Value×Value)->Prop:=Paired fun p q=>RelV p.1 q.1/\RelV p.2 q.2
def PPs(X:Cx)(pos:Pos)(keys:List (Option Expr))(values:List Expr)(trs:List (TE×TE)):Prop :=
 ∀(pins:List (Addr×Obj)) (s:Shared) (σ:St) (H:Hp) (Q:List (V×V)->Hp->Prop),Inv X pins σ H s->wv trs σ H Q ->
  wpAny (model X.prog X.w) X.A (evalPairs (pairTrees keys values X.env pos)) (fun vs s'=>∃ps H',Inv X pins σ H' s'/\VV ps vs/\Q ps H') X.xe s
structure M1(X:Cx)(o:Expr)(m:Str)(apos:Pos)(e:Expr)(cpos:Pos):Prop where
 base:attributeBase o m X.env (eval o X.env)=eval o X.env
 few:((backTo cpos (starEach [e] X.env)).all (fun x=>!x.1)&&(backToKw cpos (keywordEach [] X.env)).all (fun x=>x.1.isSome)
 &&decide (([e]:List Expr).length+([]:List Keyword).length+(if ([]:List Keyword).isEmpty then 0 else 1)<30))=true
 line:(apos.endLine==cpos.line)=true
 trees:backTo cpos (starEach [e] X.env)=[(false,eval e X.env)]
structure M2(X:Cx)(o:Expr)(m:Str)(apos:Pos)(e f:Expr)(cpos:Pos):Prop where
 base:attributeBase o m X.env (eval o X.env)=eval o X.env
 few:((backTo cpos (starEach [e,f] X.env)).all (fun x=>!x.1)&&(backToKw cpos (keywordEach [] X.env)).all (fun x=>x.1.isSome)
 &&decide (([e,f]:List Expr).length+([]:List Keyword).length+(if ([]:List Keyword).isEmpty then 0 else 1)<30))=true
 line:(apos.endLine==cpos.line)=true
 trees:backTo cpos (starEach [e,f] X.env)=[(false,eval e X.env),(false,eval f X.env)]
end L2
namespace Att
open PySem PySem.W PySem.Calls PyProof.Rows
theorem lj{P:Params}{h:Heap}:∀(ns:List Int) (vs:List Value),WellAll P h vs (ns.map WData.int)->IntsAre vs ns:=by
 intro ns;induction ns with
 |nil =>intro vs w;rw[List.map_nil]at w;cases w;exact .nil
 |cons n ns ih =>
  intro vs w;rw[ZS]at w;cases w with
  |cons a b =>cases a;exact .cons _ _ (ih _ b)
theorem wf{l:OpenLaw}{n:Nat}(hn:l.most=some n){P:Params}{h:Heap}{args:List WData}{vals:List Value}(hpre:l.row.toRowW.claim.pre args=true)(hwl:WellAll P h vals args) :
  ∃a vs ns,vals=[Value.ref a]/\args=[WData.list (ns.map WData.int)]/\h.get? a=some { cls:=.type "list",data:=.seq vs.toArray }/\IntsAre vs ns/\ns.length<=n:=by
 have hsh:WShape.hasAll [] args [.list .int]=true:=(pre_splitW hpre).1;have hc:l.pre.holds [] { args:=args }=true:=(pre_splitW hpre).2;obtain⟨d,r,rfl,h1,h2⟩:=hasAllW_cons hsh;obtain rfl:=hasAllW_nil h2;obtain⟨xs,rfl,h3⟩:=hasW_list h1;obtain⟨ns,rfl⟩:=items_int h3;have hlen:ns.length<=n:=by
  unfold OpenLaw.pre at hc;have h4:(WTm.not (.lt (.lit (.int (n:Int))) (.len (.arg 0)))).holds [] { args:=[.list (ns.map .int)] }=true:=by have h4:=(holds_andW hc).1;rw[hn]at h4;exact h4
  have h5:=condW_of h4 (w_not (w_lt w_lit (w_len_list (w_arg rfl))));rw[Zi]at h5;refine Nat.le_of_not_lt fun q=>?_;have q':(n:Int)<((ns.length:Nat):Int):=by omega
  first
   |(rw[decide_eq_true q']at h5;exact absurd h5 (by decide))
   |(simp at h5;omega)
 cases hwl with
 |cons w1 w2 =>
  cases w2;cases w1 with
  |list ho hall=>exact⟨_,_,ns,rfl,rfl,ho,lj ns _ hall,hlen⟩
theorem vU(l:OpenLaw)(args:List WData):l.row.toRowW.claim.post args (.bool true) args=true :=
 postW_of (r:=l.row.toRowW) (X:=(true==true))
  (show WShape.has [] (.bool true) .bool=true by first|rfl|decide|simp[WShape.has,WShape.arms,WShape.armsAll])
  (show(WTm.eq .res (.lit (.bool true))).value [] { args:=args,res:=some (.bool true),after:=args }=some (.bool (true==true))from w_eq_bool (w_res rfl) w_lit) rfl
theorem attach_call{l:OpenLaw}{n:Nat}{q:Program}{loose:List Str}{XP:(Str->Option Value)->Heap->Prop}{YP:World->Heap->Prop}{d:DefRec}(hn:l.most=some n)(hdf:d.params.defaults=[])(call:∀ (w:World) (s₀ s₁:Shared) (mg mb:Str->Option Value) (fa:Addr) (o:Obj) (pm cd doc:Value) (a:Addr) (vs:List Value) (ns:List Int),
   Ground q loose [] XP w s₀ mg mb s₁.heap->YP w s₁.heap ->
   s₁.heap.get? fa=some o->o.data=.func (docDef d.name d.params d.body d.scope pm cd doc)->s₁.heap.CodeRec cd d.name->mg d.name=some (.ref fa) ->
   s₁.heap.get? a=some { cls:=.type "list",data:=.seq vs.toArray }->IntsAre vs ns->ns.length<=n->s₁.gens=#[] ->
   codeAny (model l.prog w) callerA (.call (.ref fa) ⟨[.ref a],[]⟩) (fun r s'=>r=.ok (.ret (.bool true))/\OldK s₁.heap s'.heap/\s'.os=s₁.os/\AllBare s'.gens) s₁) :
  WalkO q loose XP YP l.row.toRowW d [] (fun f vs=>PySem.call f vs):=by
 intro w s₀ s₁ mg mb G Y fa o pm cd doc dV kV ho hd hcd hD hmg hg args vals as hpre hlay hrd hwl hlo;obtain rfl:dV=.none:=Dflts.none hD hdf;obtain rfl:kV=.none:=Dflts.noKw hD;obtain⟨a,vs,ns,rfl,rfl,hobj,hints,hlen⟩:=wf hn hpre hwl;refine enter_call (Yr (call w s₀ s₁ mg mb fa o pm cd doc a vs ns G Y ho (fd_plain hd) hcd hmg hobj hints hlen hg) fun r s' hq=>?_);obtain⟨rfl,h2,h3,h4⟩:=hq;exact⟨.inl ⟨.bool true,.bool true,[],rfl,fun _=>rfl,.bool true,vU l _,fun _=>⟨List.Pairwise.nil,fun _ hm=>(nomatch hm)⟩⟩,h2,h3,h4⟩
end Att
namespace L2
open PySem PySem.Spec PyProof.Rows
theorem nJ:∀{vs:List Value} {ns:List Int},IntsAre vs ns->Vals (ns.map V.int) vs
 |_,_,.nil=>.nil
 |_,_,.cons n t h=>.cons ⟨t,rfl⟩ (nJ h)
open PySem PySem.Spec PyProof.Rows
open PySem PySem.Spec PyProof.Rows
def dB(s:Stmt)(j:Nat):Stmt:=match s with
 |.ClassDef _ _ _ body _ _ _ _ _ _ _=>body.getD j (.Pass ⟨0,0,0,0⟩)
 |_=>.Pass ⟨0,0,0,0⟩
def bR(s:Stmt):Arguments:=match s with
 |.FunctionDef _ a _ _ _ _ _ _ _ _=>a
 |_=>{ posonlyargs:=[],args:=[],vararg:=none,kwonlyargs:=[],kw_defaults:=[],kwarg:=none,defaults:=[] }
def aR(s:Stmt):List Stmt:=match s with
 |.FunctionDef _ _ b _ _ _ _ _ _ _=>b
 |_=>[]
def ai(s:Stmt):Scope:=match s with
 |.FunctionDef _ _ _ _ _ _ sc _ _ _=>sc
 |_=>{ kind:=.function,names:=[],isGenerator:=false,isCoroutine:=false }
abbrev CX0:CXT:=fun _ _ _ _ _ _=>False
abbrev E0:XK:=fun _ _ _=>False
theorem oK{X:Cx}:dL CX0 X E0:=fun _ _ _ _ _ _ _ h=>h.elim
structure Fun(K:PySem.W.Frag)(x qual:Str)(st:Stmt)(f:Addr)(fd:FuncData):Prop where
 ex:∃(oc:Value) (od:Option Addr) (kV doc pm:Value) (an:Option Addr) (cdv ct:Value) (osl:Array (Option Value)),
  fd=PySem.W.fnOf x qual (bR st) (aR st) (ai st) .none kV doc pm an cdv ct/\K.lookup f=some ⟨oc,od,.func fd,osl⟩/\PySem.W.codeIn K cdv qual=true
 kp:PySem.W.keepIn K (.ref f)=true
section
variable{P:Program}{w:World}{K:PySem.W.Frag}{mg:Str->Option Value}{base:Heap}
theorem Fun.ok{x qual:Str}{st:Stmt}{f:Addr}{fd:FuncData}{N ps:List Str}{k:Nat}{sp:Sp}(F:Fun K x qual st f fd)(S:FnScope N ps (ai st))(len:∀ vs H Q E,sp vs H Q E->vs.length=ps.length)(hbody:∀ (cdv:Value) (A:Around) (outer:List Env) (s:Shared) (H:Hp) (vs:List V) (Q:VK) (E:XK),Room k (A.deeper (envOfC qual (ai st) s.heap.objs.size f cdv))->sp vs H Q E ->
   ∃ t,PSs (cH CX0 P w K mg base N qual (ai st) f cdv A outer s H E).nox (aR st) t/\t { nx:=fun _ H'=>Q .non H',rt:=Q } (start N vs) H):FnOk P w K mg base CX0 (k+1) f fd ps sp:=by
 obtain⟨oc,od,kV,doc,pm,an,cdv,ct,osl,rfl,lk,hcd⟩:=F.ex;refine sX lk hcd S len fun A outer s H vs Q E hr hsp=>?_;obtain⟨t,h,q⟩:=hbody cdv A outer s H vs Q E hr hsp;exact⟨t,h.nox,q⟩
theorem Fun.binds{x qual:Str}{st:Stmt}{f:Addr}{fd:FuncData}{ps:List Str}(F:Fun K x qual st f fd)(h:∀(kV doc pm:Value) (an:Option Addr) (cdv ct:Value) (us:List Value),us.length=ps.length->bindArgs (PySem.W.fnOf x qual (bR st) (aR st) (ai st) .none kV doc pm an cdv ct) ⟨us,[]⟩=pure (ps.zip us)):Binds K fd ps []:=by obtain⟨oc,od,kV,doc,pm,an,cdv,ct,osl,rfl,lk,hcd⟩:=F.ex;exact .all (h kV doc pm an cdv ct)
theorem uT{x qual:Str}{st:Stmt}{f:Addr}{oc:Value}{od an:Option Addr}{osl:Array (Option Value)}{kV doc pm cdv ct:Value}(l:K.lookup f=some ⟨oc,od,.func (PySem.W.fnOf x qual (bR st) (aR st) (ai st) .none kV doc pm an cdv ct),osl⟩)(c:PySem.W.codeIn K cdv qual=true)(k:PySem.W.keepIn K (.ref f)=true):Fun K x qual st f (PySem.W.fnOf x qual (bR st) (aR st) (ai st) .none kV doc pm an cdv ct):=⟨⟨oc,od,kV,doc,pm,an,cdv,ct,osl,rfl,l,c⟩,k⟩
end
theorem bq{n:Nat}(h:n<=1000):n<sizeLine:=Nat.lt_of_le_of_lt h (by decide)
theorem aJ{A B:Prop}(h:B):if false=true then A else B:=by rw[EM Zn];exact h
theorem bG{A B:Prop}(h:A):if true=true then A else B:=by rw[EN rfl];exact h
theorem A6{c A B:Prop}[Decidable c](h1:c->A)(h2:¬c->B):if c then A else B:=by
 by_cases h:c
 ·rw[EN h];exact h1 h
 ·rw[EM h];exact h2 h
def Same(H H':Hp):Prop:=∀b o,H b=some o->H' b=some o
theorem Same.refl(H:Hp):Same H H:=fun _ _ h=>h
theorem Same.trans{H H1 H2:Hp}(a:Same H H1)(b:Same H1 H2):Same H H2:=fun c o h=>b c o (a c o h)
theorem Same.free{H H':Hp}(e:Same H H'){l:Addr}(h:H' l=Option.none):H l=Option.none:=by
 cases q:H l with
 |none=>rfl
 |some o =>rw[e l o q]at h;cases h
theorem Same.seq{K:PySem.W.Frag}{H H':Hp}{a:Addr}{xs:List V}(e:Same H H')(h:SqL K H a xs):SqL K H' a xs:=by
 rcases h with(h|⟨o,h⟩)|h
 ·exact .inl (.inl (e _ _ h))
 ·exact .inl (.inr ⟨o,e _ _ h⟩)
 ·exact .inr h
open PySem PySem.Spec PyProof.Rows
open PySem PySem.Spec PyProof.Rows
theorem gS{env:Env}:∀{names:List (Str×NameKind)} {x:Str} {k:NameKind},
  (names.map fun(n,k)=>if(k==NameKind.free&&env.scope.kind == .function&&env.kindOf n==some .cell)then(n,NameKind.cell)else(n,k)).lookup x=some k ->
  ∃k',names.lookup x=some k'/\(k=k'\/(k'=.free/\k=.cell))
 | [],_,_,h=>by simp at h
 |(n,k0)::r,x,k,h=>by
  have ih:=@gS env r x k;rw[ZS]at h;by_cases hc:(k0==NameKind.free&&env.scope.kind == .function&&env.kindOf n==some .cell)=true
  ·have e:(if(k0==NameKind.free&&env.scope.kind == .function&&env.kindOf n==some .cell)=true then(n,NameKind.cell)else(n,k0))=(n,NameKind.cell):=EN hc;simp only[e]at h;cases hx:x==n with
   |true =>
    simp only[ZD,hx]at h ⊢;have hf:k0=.free:=by have:=hc;simp only[Zz,ZI]at this;exact this.1.1
    exact⟨k0,rfl,.inr ⟨hf,(Zw h).symm⟩⟩
   |false =>simp only[ZD,hx]at h ⊢;exact ih h
  ·have e:(if(k0==NameKind.free&&env.scope.kind == .function&&env.kindOf n==some .cell)=true then(n,NameKind.cell)else(n,k0))=(n,k0):=EM hc;simp only[e]at h;cases hx:x==n with
   |true =>simp only[ZD,hx]at h ⊢;exact⟨k0,rfl,.inl (Zw h).symm⟩
   |false =>simp only[ZD,hx]at h ⊢;exact ih h
theorem iY{env:Env}:∀{names:List (Str×NameKind)} {x:Str},names.lookup x=some .free ->
  (names.map fun(n,k)=>if(k==NameKind.free&&env.scope.kind == .function&&env.kindOf n==some .cell)then(n,NameKind.cell)else(n,k)).lookup x=some .cell \/
  (names.map fun(n,k)=>if(k==NameKind.free&&env.scope.kind == .function&&env.kindOf n==some .cell)then(n,NameKind.cell)else(n,k)).lookup x=some .free
 | [],_,h=>by simp at h
 |(n,k0)::r,x,h=>by
  have ih:=@iY env r x;rw[ZS];by_cases hc:(k0==NameKind.free&&env.scope.kind == .function&&env.kindOf n==some .cell)=true
  ·have e:(if(k0==NameKind.free&&env.scope.kind == .function&&env.kindOf n==some .cell)=true then(n,NameKind.cell)else(n,k0))=(n,NameKind.cell):=EN hc;simp only[e];cases hx:x==n with
   |true =>
    simp only[ZD,hx]at h ⊢
    first|exact .inl rfl|exact .inl trivial
   |false =>simp only[ZD,hx]at h ⊢;exact ih h
  ·have e:(if(k0==NameKind.free&&env.scope.kind == .function&&env.kindOf n==some .cell)=true then(n,NameKind.cell)else(n,k0))=(n,k0):=EM hc;simp only[e];cases hx:x==n with
   |true =>simp only[ZD,hx]at h ⊢;exact .inr h
   |false =>simp only[ZD,hx]at h ⊢;exact ih h
def bP(env:Env):List (Str×NameKind)->List (Str×Addr)->List (Str×Addr)
 | [],acc=>acc
 |y::r,acc=>if(y.2==NameKind.free)=true then bP env r ((y.1,(env.cells.lookup y.1).getD 0)::acc)else bP env r acc
theorem mh{env:Env}:∀{names:List (Str×NameKind)} {acc:List (Str×Addr)},(∀y∈names,y.2=.free->∃c,env.cells.lookup y.1=some c) ->
  (forIn names acc fun(x:Str×NameKind) (cs:List (Str×Addr))=>if(x.2==NameKind.free)=true then do let c ←cellOf env x.1;pure (ForInStep.yield ((x.1,c)::cs))else pure (ForInStep.yield cs):Sem (List (Str×Addr)))=pure (bP env names acc)
 | [],_,_=>rfl
 |y::r,acc,h=>by
  rw[List.forIn_cons];by_cases hy:(y.2==NameKind.free)=true
  ·obtain⟨c,hc⟩:=h y ZA (by simpa using hy);have e:cellOf env y.1=pure c:=by unfold cellOf;rw[hc]
   rw[EN hy,e,pure_bind,pure_bind];show(forIn r ((y.1,c)::acc) _:Sem (List (Str×Addr)))=_;rw[mh fun z hz=>h z (Zu _ hz)];show _=pure (if(y.2==NameKind.free)=true then bP env r ((y.1,(env.cells.lookup y.1).getD 0)::acc)else bP env r acc);rw[EN hy,hc];rfl
  ·rw[EM hy,pure_bind];show(forIn r acc _:Sem (List (Str×Addr)))=_;rw[mh fun z hz=>h z (Zu _ hz)];show _=pure (if(y.2==NameKind.free)=true then bP env r ((y.1,(env.cells.lookup y.1).getD 0)::acc)else bP env r acc);rw[EM hy]
theorem zd{scope:Scope}{env:Env}(h:∀y∈scope.names,y.2=.free->∃c,env.cells.lookup y.1=some c):closureFor scope env=pure (bP env scope.names []):=by have q:=mh (env:=env) (names:=scope.names) (acc:=[]) h;unfold closureFor;exact(by first|(simp only[bind_pure];exact q)|(rw[bind_pure];exact q)|exact q)
theorem mi{env:Env}:∀{names:List (Str×NameKind)} {acc:List (Str×Addr)},(∀y∈names,y.2=.free->∃c,env.cells.lookup y.1=some c)->(∀x c,acc.lookup x=some c->env.cells.lookup x=some c) ->
  ∀x c,(bP env names acc).lookup x=some c->env.cells.lookup x=some c
 | [],_,_,ha=>ha
 |y::r,acc,h,ha=>by
  have hr:∀z∈r,z.2=.free->∃c,env.cells.lookup z.1=some c:=fun z hz=>h z (Zu _ hz);intro x c e;unfold bP at e;by_cases hy:(y.2==NameKind.free)=true
  ·rw[EN hy]at e;refine mi hr (fun x' c' e'=>?_) x c e;obtain⟨d,hd⟩:=h y ZA (by simpa using hy);rw[hd,Option.getD_some]at e';cases hx:x'==y.1 with
   |true =>simp only[ZD,hx]at e';have e1:x'=y.1:=eq_of_beq hx;rw[e1,hd];exact e'
   |false =>simp only[ZD,hx]at e';exact ha x' c' e'
  ·rw[EM hy]at e;exact mi hr ha x c e
theorem jZ{env:Env}:∀{names:List (Str×NameKind)} {acc:List (Str×Addr)} {x:Str},(∃c,acc.lookup x=some c)->∃c,(bP env names acc).lookup x=some c
 | [],_,_,h=>h
 |y::r,acc,x,h=>by
  unfold bP;by_cases hy:(y.2==NameKind.free)=true
  ·rw[EN hy];refine jZ ?_;cases hx:x==y.1 with
   |true=>exact⟨(env.cells.lookup y.1).getD 0,by simp only[ZD,hx]⟩
   |false =>obtain⟨c,e⟩:=h;exact⟨c,by simp only[ZD,hx];exact e⟩
  ·rw[EM hy];exact jZ h
theorem mf{env:Env}:∀{names:List (Str×NameKind)} {acc:List (Str×Addr)} {x:Str},names.lookup x=some .free->∃c,(bP env names acc).lookup x=some c
 | [],_,_,h=>by simp at h
 |(n,k)::r,acc,x,h=>by
  unfold bP;cases hx:x==n with
  |true =>
   simp only[ZD,hx]at h;have hy:(k==NameKind.free)=true:=by rw[Zw h];rfl
   rw[EN hy];exact jZ ⟨(env.cells.lookup n).getD 0,by simp only[ZD,hx]⟩
  |false =>
   simp only[ZD,hx]at h;by_cases hy:(k==NameKind.free)=true
   ·rw[EN hy];exact mf h
   ·rw[EM hy];exact mf h
abbrev aQ(X:Cx)(scope:Scope)(N':List Str)(C:Addr)(s0:Shared)(H0:Hp)(ex:List Addr):Cx where
 prog:=X.prog
 w:=X.w
 K:=X.K
 mg:=X.mg
 base:=X.base
 A:=X.A
 N:=N'
 s₀:=s0
 H₀:=H0
 env:=compEnvC scope (bP X.env scope.names []) C X.env
 outer:=X.stack
 stack:=X.stack
 ex:=ex
 fn:=fun _=>false
 calm:=X.calm
 pn:=[]
 xe:=fun _ _=>False
def CapOk(X:Cx)(sc:Scope):List Nat->List Str->Prop
 | [],[]=>True
 |j::js,x::xs=>X.N[j]?=some x/\sc.names.lookup x=some .free/\CapOk X sc js xs
 |_,_=>False
theorem CapOk.get{X:Cx}{sc:Scope}:∀{js:List Nat} {xs:List Str} {i:Nat} {x:Str},CapOk X sc js xs->xs[i]?=some x ->
  ∃j,js[i]?=some j/\X.N[j]?=some x/\sc.names.lookup x=some .free
 | [],[],_,_,_,e=>by simp at e
 |j::js,y::xs,0,x,h,e=>by
  obtain⟨h1,h2,_⟩:=h;have e':y=x:=by simpa using e
  subst e';exact⟨j,rfl,h1,h2⟩
 |j::js,y::xs,i+1,x,h,e=>by obtain⟨_,_,h6⟩:=h;obtain⟨j',q⟩:=CapOk.get (i:=i) (x:=x) h6 (by simpa using e);exact⟨j',by simpa using q.1,q.2⟩
 | [],_::_,_,_,h,_=>h.elim
 |_::_,[],_,_,h,_=>h.elim
theorem CapOk.len{X:Cx}{sc:Scope}:∀{js:List Nat} {xs:List Str},CapOk X sc js xs->js.length=xs.length
 | [],[],_=>rfl
 |j::js,y::xs,h=>by obtain⟨_,_,h6⟩:=h;simp[CapOk.len h6]
 | [],_::_,h=>h.elim
 |_::_,[],h=>h.elim
structure CompOk(X:Cx)(scope:Scope)(cap:List Nat)(capN:List Str):Prop where
 kind:scope.kind=.function
 names:∀x∈scope.names,x.2=.local->scope.names.lookup x.1=some .local
 nocell:∀y∈scope.names,y.2≠.cell
 frees:(scope.names.all fun y=>!(y.2==NameKind.free) ||(X.env.kindOf y.1==some .cell ||X.env.kindOf y.1==some .free))=true
 cap:CapOk X scope cap capN
section
variable{X:Cx}{scope:Scope}{cap:List Nat}{capN:List Str}
theorem CompOk.around(O:CompOk X scope cap capN){y:Str×NameKind}(hy:y∈scope.names)(hf:y.2=.free):X.env.kindOf y.1=some .cell\/X.env.kindOf y.1=some .free:=by have q:=Z3.mp O.frees y hy;rw[hf]at q;simpa using q
theorem CompOk.cells(O:CompOk X scope cap capN)(ok:X.Ok):∀y∈scope.names,y.2=.free->∃c,X.env.cells.lookup y.1=some c:=fun y hy hf=>ok.has _ (O.around hy hf)
theorem CompOk.clos(O:CompOk X scope cap capN)(ok:X.Ok):closureFor scope X.env=pure (bP X.env scope.names []):=zd (O.cells ok)
theorem CompOk.sub(O:CompOk X scope cap capN)(ok:X.Ok):∀x c,(bP X.env scope.names []).lookup x=some c->X.env.cells.lookup x=some c:=mi (O.cells ok) fun x c e=>by simp at e
theorem CompOk.has(_O:CompOk X scope cap capN){x:Str}(h:scope.names.lookup x=some .free):∃c,(bP X.env scope.names []).lookup x=some c:=mf h
end
def bT(n:Nat)(cap:List Nat)(σ:St):St:=List.replicate n none++cap.map (fun j=>(σ[j]?).join)
theorem sV{n:Nat}{cap:List Nat}{σ:St}:(bT n cap σ).length=n+cap.length:=by unfold bT;rw[Zs,List.length_replicate,Zi]
theorem kX{n:Nat}{cap:List Nat}{σ:St}{i:Nat}{v:V}(h:(bT n cap σ)[i]?=some (some v)):n<=i/\∃j,cap[i-n]?=some j/\σ[j]?=some (some v):=by
 unfold bT at h;by_cases hi:i<n
 ·rw[y4 (by simpa using hi),List.getElem?_replicate]at h;rw[EN hi]at h;cases h
 ·have hi':n<=i:=Nat.le_of_not_lt hi;rw[ZF (by simpa using hi'),List.length_replicate,Zm]at h;refine⟨hi',?_⟩;cases e:cap[i-n]? with
  |none=>rw[e]at h;cases h
  |some j =>
   rw[e]at h;refine⟨j,rfl,?_⟩;have h':(σ[j]?).join=some v:=by simpa using h
   cases q:σ[j]? with
   |none=>rw[q]at h';cases h'
   |some o =>rw[q]at h';have:o=some v:=h';rw[this]
section
variable{X:Cx}{pins:List (Addr×Obj)}{σ:St}{H:Hp}{s:Shared}{scope:Scope}{cap:List Nat}{capN N':List Str}{C:Addr}{ex:List Addr}
theorem uK(I:Inv X pins σ H s)(O:CompOk X scope cap capN)(hC:s.heap.objs.size<=C)(hex:∀b∈ex,bc X pins H b/\b<s.heap.objs.size):(aQ X scope N' C s H ex).Ok where
 mod:=I.ok.mod
 kind:=O.kind
 glob:=I.ok.glob
 blt:=I.ok.blt
 above:=hC
 inj:=fun x y c h1 h2=>I.ok.inj x y c (O.sub I.ok x c h1) (O.sub I.ok y c h2)
 has:=fun x hx=>by
  have hx':(relabel scope X.env).names.lookup x=some .cell\/(relabel scope X.env).names.lookup x=some .free:=hx;have key:∀k,(relabel scope X.env).names.lookup x=some k->(k=.cell\/k=.free)->scope.names.lookup x=some .free:=fun k e hk=>by
   obtain⟨k',e',q⟩:=gS (env:=X.env) e;rcases q with q|⟨q,_⟩
   ·subst q;rcases hk with z|z
    ·subst z;exact absurd rfl (O.nocell _ (Z4 e'))
    ·subst z;exact e'
   ·subst q;exact e'
  rcases hx' with e|e
  ·exact O.has (key _ e (.inl rfl))
  ·exact O.has (key _ e (.inr rfl))
 cab:=fun x c h _=>by cases h
 hd:=I.ok.hd
 frames:=I.ok.frames
 stk:=.inl rfl
 exf:=fun b hb=>by obtain⟨⟨f0,f1,f2,f3,f4,f5⟩,lt⟩:=hex b hb;exact⟨Zt (Zy lt hC),fun x c e=>f4 x c (O.sub I.ok x c e)⟩
 bs:=I.bs
 bsz:=Zr I.ok.bsz I.sz
 noex:=fun b o e hb=>by
  obtain⟨⟨f0,f1,f2,f3,f4,f5⟩,lt⟩:=hex b hb;rcases f3 with z|z
  ·exact I.ok.noex b o e z
  ·exact absurd (Zy (Zf e) (Zr I.ok.bsz z)) (Yc _)
 exfs:=fun b hb z=>by
  obtain⟨⟨f0,f1,f2,f3,f4,f5⟩,lt⟩:=hex b hb;rcases Ze.mp (I.stkSub b z)with e|e
  ·exact f1 e
  ·exact f2 e
 funs:=I.stack
 frf:=I.stkFree
theorem vF(I:Inv X pins σ H s){b:Addr}(hb:s.heap.objs.size<=b):b∉frs X.stack:=fun z=>by
 rcases Ze.mp (I.stkSub b z)with e|e
 ·exact absurd (Zy I.lt hb) (by rw[e];exact Yc _)
 ·exact I.nofs hb e
theorem xF(I:Inv X pins σ H s){b:Addr}(hb:s.heap.objs.size<=b):∀x c,X.env.cells.lookup x=some c->c≠b:=fun x c e z=>by obtain⟨v,q⟩:=I.cell x c e;exact absurd (Zy q.lt (by rw[z];exact hb)) (Yc _)
theorem sW{n:Nat}{h1:Heap}{m1:Str->Option Value}{tk:Nat}(I:Inv X pins σ H s)(O:CompOk X scope cap capN)(hN:N'.length=n+capN.length)(hN2:∀i x,n<=i->N'[i]?=some x->capN[i-n]?=some x)(hC:s.heap.objs.size<=C)(hex:∀b∈ex,bc X pins H b/\b<s.heap.objs.size)(hk:∀b o,s.heap.get? b=some o->h1.get? b=some o)(hn:h1.Ns C m1):Inv (aQ X scope N' C s H ex) [] (bT n cap σ) H { s with heap:=h1,toks:=tk }:=by
 refine⟨uK I O hC hex,rfl,I.bare,Un.kept hk,⟨m1,hn,fun i x v e1 e2 e3=>?_⟩,fun x c e=>?_,I.hok.fresh hC,fun x c e=>I.freeC x c (O.sub I.ok x c e),fun p hp=>absurd (show p∈([]:List (Addr×Obj))from hp) (by simp),I.hok.kept hk,?_⟩
 ·obtain⟨hi,j,ej,es⟩:=kX e2;obtain⟨j',q1,q2,qf⟩:=O.cap.get (hN2 i x hi e1);have q3:=O.around (Z4 qf) rfl;have q4:=iY (env:=X.env) qf;obtain⟨c,q5⟩:=O.has qf;have q6:=O.sub I.ok x c q5;rw[q1]at ej;cases ej;obtain⟨m0,hn0,hl0⟩:=I.loc;obtain⟨u,r,l⟩:=hl0 _ x v q2 es (by
   rcases q3 with z|z
   ·exact .inr (.inl z)
   ·exact .inr (.inr z))
  refine⟨u,r,.inr ⟨q4,c,q5,?_⟩⟩;rcases l with⟨k,_⟩|⟨_,c',e',z⟩
  ·rcases q3 with z|z
   ·have z':X.env.kindOf x=some .cell:=z;rw[z']at k;cases k
   ·have z':X.env.kindOf x=some .free:=z;rw[z']at k;cases k
  ·rw[q6]at e';cases e';obtain⟨o,ho,hd⟩:=z;exact⟨o,hk _ _ ho,hd⟩
 ·obtain⟨v,o,ho,hd⟩:=I.cell x c (O.sub I.ok x c e);exact⟨v,o,hk _ _ ho,hd⟩
 ·rw[sV,O.cap.len];exact hN.symm
end
def md(X:Cx)(ifs:List Expr)(t:TT):Prop :=
 ∀(pins:List (Addr×Obj)) (s:Shared) (σ:St) (H:Hp) (Q:Bool->Hp->Prop),Inv X pins σ H s->t σ H Q ->
  wpAny (model X.prog X.w) X.A (forIn ifs true fun c r=>if r=true then do let ok ←isTrue c X.env (eval c X.env);pure (ForInStep.yield ok)else pure (ForInStep.yield r)) (TP X pins σ Q) X.xe s
def fv:TT:=fun _ H Q=>Q true H
theorem xO{X:Cx}:md X [] fv:=fun _ _ _ H _ I h=>wpAny_tests_nil ⟨H,I,h⟩
theorem xP{X:Cx}{c:Expr}{t:TT}(h:PT X c t):md X [c] t:=fun pins s σ H Q I hw=>wpAny_tests_one (h pins s σ H Q I hw)
def GK(n:Nat)(g:TG):Prop:=∀x σ H Q,g x σ H Q->g x σ H (fun σ2 H2=>(σ2.length=σ.length/\∀i,n<=i->σ2[i]?=σ[i]?)/\Q σ2 H2)
theorem ay{n i:Nat}(hi:i<n):GK n (bV i):=fun x σ H Q h=>⟨⟨List.length_set,fun j hj=>List.getElem?_set_ne (by omega)⟩,h⟩
def GKs(n:Nat)(g:TGs):Prop:=∀xs σ H Q,g xs σ H Q->g xs σ H (fun σ2 H2=>(σ2.length=σ.length/\∀i,n<=i->σ2[i]?=σ[i]?)/\Q σ2 H2)
theorem zm{n:Nat}:GKs n ml:=fun xs σ H Q h=>⟨h.1,⟨rfl,fun _ _=>rfl⟩,h.2⟩
def GM(g:TG):Prop:=∀x σ H Q Q',(∀σ2 H2,Q σ2 H2->Q' σ2 H2)->g x σ H Q->g x σ H Q'
def GMs(g:TGs):Prop:=∀xs σ H Q Q',(∀σ2 H2,Q σ2 H2->Q' σ2 H2)->g xs σ H Q->g xs σ H Q'
theorem mo{i:Nat}:GM (bV i):=fun _ _ _ _ _ f h=>f _ _ h
theorem rV:GMs ml:=fun _ _ _ _ _ f h=>⟨h.1,f _ _ h.2⟩
theorem xt{t:TG}{u:TGs}(a:GM t)(b:GMs u):GMs (gi t u):=fun xs σ H Q Q' f h=>by obtain⟨v,r,e,h⟩:=h;exact⟨v,r,e,a _ _ _ _ _ (fun σ2 H2 z=>b _ _ _ _ _ f z) h⟩
theorem pX{n:Nat}{t:TG}{u:TGs}(a:GK n t)(m:GM t)(b:GKs n u)(mb:GMs u):GKs n (gi t u):=fun xs σ H Q h=>by obtain⟨v,r,e,h⟩:=h;refine⟨v,r,e,m _ _ _ _ _ (fun σ2 H2 z=>?_) (a _ _ _ _ h)⟩;obtain⟨⟨l1,k1⟩,z⟩:=z;refine mb _ _ _ _ _ (fun σ3 H3 w=>?_) (b _ _ _ _ z);obtain⟨⟨l2,k2⟩,w⟩:=w;exact⟨⟨l2.trans l1,fun i hi=>(k2 i hi).trans (k1 i hi)⟩,w⟩
theorem AV{n m:Nat}{K:PySem.W.Frag}{t:TGs}(a:GKs n t):GK n (mm K m t):=fun x σ H Q h=>by obtain⟨b,xs,e,h1,h2,h3⟩:=h;exact⟨b,xs,e,h1,h2,a _ _ _ _ h3⟩
def dY(n:Nat)(cap:List Nat)(g:TG)(tc:TT)(te:TE)(σ:St)(J:It)(H1:Hp)(Q:VK):Prop :=
 ∃W:Nat->Nat->List V->Hp->Prop,(∃m,W 0 m [] H1)/\∀i m ys H,W i m ys H ->
  (J.stop i H/\∀p,H p=none->Q (.ref p) (upd H p (.lst ys))) \/
  (J.go i H/\ys.length<sizeLine/\∀ x H',J.yld i H x H'->g x (bT n cap σ) H' fun σ2 H2=>tc σ2 H2 fun b H3 =>
   if b=true then te σ2 H3 fun y H4=>∃ m',m'<m/\W (i+1) m' (ys++[y]) H4 else ∃ m',m'<m/\W (i+1) m' ys H3)
def oR(n:Nat)(cap:List Nat)(wi:TI)(g:TG)(tc:TT)(te:TE):TE:=fun σ H Q=>wi σ H fun J H1=>dY n cap g tc te σ J H1 Q
theorem hO{prog:Program}{w:World}{A:Around}{R:Result->Shared->Prop}{s:Shared}{elt target iter:Expr}{ifs:List Expr}{scope:Scope}{pos:Pos}{it acc:Value}{env:Env}(I:Nat->Shared->Prop)(turn:∀ n s,I n s->wpAny (model prog w) A (pyNext it) (fun r s₁=>match r with
   |none=>R (.ok .next) s₁
   | some v=>wpAny (model prog w) A (letOwnedTupleGo target it v) (fun _ s₁'=>wpAny (model prog w) A (assign target env v) (fun _ s₂ =>
     wpAny (model prog w) A (forIn ifs true fun c r=>if r=true then do let ok ←isTrue c env (eval c env);pure (ForInStep.yield ok) else pure (ForInStep.yield r)) (fun ok s₃ =>
      if ok=true then wpAny (model prog w) A (eval elt env) (fun x s₄ =>
       wpAny (model prog w) A (call (.builtin "list.append") [acc,x]) (fun _ s₅=>∃ m,m<n/\I m s₅) (fun _ _=>False) s₄) (fun _ _=>False) s₃
      else ∃ m,m<n/\I m s₃) (fun _ _=>False) s₂) (fun _ _=>False) s₁') (fun _ _=>False) s₁) (fun _ _=>False) s)(n:Nat)(h:I n s) :
  codeAny (model prog w) A (.compLoop (.ListComp elt [⟨target,iter,ifs,0⟩] scope pos) 0 it acc env) R s:=by
 refine codeAny_loop rfl I (fun n s hI=>?_) n h;show wpAny _ A ((compTurn (.ListComp elt [⟨target,iter,ifs,0⟩] scope pos) 0 it acc env).onRaise (fun x=>do noteFrame x env;theTreesLotGoes x)) _ _ s;refine wpAny_noted (wpAny_noRaise ?_);rw[compTurn_list];refine z0 (wpAny_standAt (z0 (ZY (turn n s hI) (fun r s₁ h₁=>?_) fun _ _ h'=>h')));cases r with
 |none=>exact Zj h₁
 |some v =>
  refine z0 (ZY h₁ (fun _ s₁' h₁'=>?_) fun _ _ h'=>h');refine z0 (ZY h₁' (fun _ s₂ h₂=>z0 (ZY h₂ (fun ok s₃ h₃=>?_) fun _ _ h'=>h')) fun _ _ h'=>h');cases ok with
  |false=>exact Zj ⟨rfl,h₃⟩
  |true =>exact z0 (z0 (ZY h₃ (fun x s₄ h₄=>z0 (ZY h₄ (fun _ s₅ h₅=>Zj (Zj ⟨rfl,h₅⟩)) fun _ _ h'=>h')) fun _ _ h'=>h'))
theorem zU{own capN:List Str}:∀(i:Nat) (x:Str),own.length<=i->(own++capN)[i]?=some x->capN[i-own.length]?=some x:=fun i x hi e=>by rw[ZF hi]at e;exact e
section
variable{X:Cx}{pins:List (Addr×Obj)}{σ:St}{H2:Hp}{s2:Shared}{scope:Scope}{cap:List Nat}{capN own:List Str}
variable{elt tg iter:Expr}{ifs:List Expr}{pos:Pos}{g:TG}{tc:TT}{te:TE}{Q:VK}
abbrev eY(its:List Value)(nn:Nat):Obj:={ cls:=.type "list",data:=.seq its.toArray nn }
theorem mY{J:It}{fp:List Addr}{it:Addr}{tn:Nat->Heap->Prop}{E:Value->Shared->Prop}{RR:Value->Addr->Result->Shared->Prop}(O:CompOk X scope cap capN)(hc:X.calm=true)(hg:∀C s0 H0 ex,PG (aQ X scope (own++capN) C s0 H0 ex) tg g)(gk:GK own.length g)(ht:∀C s0 H0 ex,md (aQ X scope (own++capN) C s0 H0 ex) ifs tc)(he:∀C s0 H0 ex,PE (aQ X scope (own++capN) C s0 H0 ex) elt te)(I2:Inv X pins σ H2 s2)(T:Turn X.prog X.w X.K tg J fp it tn)(st2:tn 0 s2.heap)(f2:∀b∈fp,bc X pins H2 b)(hq:dY own.length cap g tc te σ J H2 Q)(fin:∀(D C:Addr) (s4:Shared) (H4:Hp) (ys:List V),Inv X pins σ (upd H4 D (.lst ys)) s4->(∃m,s4.heap.Ns C m)->bc X pins (upd H4 D (.lst ys)) C->Q (.ref D) (upd H4 D (.lst ys))->RR (.ref D) C (.ok .next) s4) :
  wpAny (model X.prog X.w) X.A (newList []) (fun acc s₃=>wpAny (model X.prog X.w) X.A (newFunctionEnv scope X.env.globals (bP X.env scope.names []) [] X.env.qual none .none (some X.env)) (fun cenv s₄ =>
   codeAny (model X.prog X.w) X.A (.compStart (.ListComp elt [⟨tg,iter,ifs,0⟩] scope pos) 0 (.ref it) acc { cenv with scope:=relabel scope X.env }) (RR acc cenv.locals) s₄) E s₃) E s2:=by
 obtain⟨W,⟨m0,w0⟩,turn⟩:=hq;refine wpAny_newObj_type (wpAny_newFunctionEnv O.nocell (by intro y hy;simp at hy) (fun h₁ hns₁ hsb₁=>?_) O.kind);dsimp only at hns₁ hsb₁ ⊢;generalize hHp:s2.heap.push { cls:=.type "list",dict:=none,data:=.seq ([]:List Value).toArray }=Hp2 at hns₁ hsb₁ ⊢;have hC:Hp2.objs.size=s2.heap.objs.size+1:=by rw[<-hHp,Heap.size_push]
 have hDC:s2.heap.objs.size≠Hp2.objs.size:=by rw[hC];exact Zt (Nat.lt_succ_self _)
 have hCle:s2.heap.objs.size<=Hp2.objs.size:=by rw[hC];exact y6 _
 have below:∀b,b<s2.heap.objs.size->b≠Hp2.objs.size/\b≠s2.heap.objs.size:=fun b hb=>⟨by rw[hC];exact Zt (Ym hb),Zt hb⟩
 have old:∀b o,s2.heap.get? b=some o->h₁.get? b=some o:=fun b o e=>hsb₁.extBut b o (below b (Zf e)).1 (z9 _ (hHp▸z9 _ e));have hacc:h₁.get? s2.heap.objs.size=some (eY [] 0):=hsb₁.extBut _ _ hDC (z9 _ (hHp▸Zh _ rfl));generalize hDe:s2.heap.objs.size=D at *;generalize hCe:Hp2.objs.size=C at *;have hfpl:∀b∈fp,b<s2.heap.objs.size:=fun b hb=>by obtain⟨o,e,_⟩:=T.obj _ _ st2 b hb;exact Zf e
 have hex:∀b∈fp,bc X pins H2 b/\b<s2.heap.objs.size:=fun b hb=>⟨f2 b hb,hfpl b hb⟩
 have hCle':s2.heap.objs.size<=C:=by rw[hDe];exact hCle
 have hDle:s2.heap.objs.size<=D:=by rw[hDe];exact Zb _
 have hDfp:∀b∈fp,D≠b:=fun b hb z=>by have:=hfpl b hb;rw[<-z]at this;exact absurd this (Nat.not_lt.mpr hDle)
 have I0:∀tk,Inv (aQ X scope (own++capN) C s2 H2 fp) [] (bT own.length cap σ) H2 { s2 with heap:=h₁,toks:=tk }:=fun tk=>sW I2 O (by simp) zU hCle' hex old hns₁;have Dst:D∉frs X.stack:=vF I2 hDle;have Dcell:∀x c,(aQ X scope (own++capN) C s2 H2 fp).env.cells.lookup x=some c->c≠D:=fun x c e=>xF I2 hDle x c (O.sub I2.ok x c e);have pinD:∀{σ':St} {H':Hp} {s':Shared} {its:List Value} {nn:Nat},Inv (aQ X scope (own++capN) C s2 H2 fp) [] σ' H' s'->s'.heap.get? D=some (eY its nn)->H' D=none->Inv (aQ X scope (own++capN) C s2 H2 fp) [(D,eY its nn)] σ' H' s':=fun{σ' H' s' its nn} I e hn =>
  I.pins_of fun p hp=>by
   have z:p=(D,eY its nn):=by simpa using hp
   subst z;exact⟨e,hn,hDC,Dst,fun v q=>by cases q⟩
 have loop:∀s₃:Shared,s₃={ s2 with heap:=h₁,toks:=s2.toks+([]:List (Str×Value)).length } ->
   codeAny (model X.prog X.w) X.A (.compLoop (.ListComp elt [⟨tg,iter,ifs,0⟩] scope pos) 0 (.ref it) (.ref D) (compEnvC scope (bP X.env scope.names []) C X.env)) (RR (.ref D) C) s₃:=by
  rintro s₃ rfl;refine hO (fun k s'=>∃(i:Nat) (ys:List V) (its:List Value) (nn:Nat) (H':Hp),Inv (aQ X scope (own++capN) C s2 H2 fp) [(D,eY its nn)] (bT own.length cap σ) H' s'/\tn i s'.heap/\(∀b∈fp,H' b=none)/\Vals ys its/\ys.length<=sizeLine/\W i k ys H') ?_ m0
   ⟨0,[],[],0,H2,pinD (I0 _) hacc (I2.hok.fresh hDle),T.keep _ _ _ st2 (fun b hb o e=>old b o e),fun b hb=>(f2 b hb).1,.nil,ZB _,w0⟩
  rintro k s3 ⟨i,ys,its,nn,H3,I3,st3,fr3,rv,hz,w3⟩;have oD3:s3.heap.get? D=some (eY its nn):=(I3.pin (D,eY its nn) (by simp)).1;have fpY:∀{H':Hp},(∀b∈fp,H' b=none)->∀b∈fp,bc (aQ X scope (own++capN) C s2 H2 fp) [(D,eY its nn)] H' b:=fun{H'} hn b hb=>by
   obtain⟨f0,f1,g2,f3,f4,f5⟩:=f2 b hb;refine⟨hn b hb,Zt (Zy (hfpl b hb) hCle'),fun z=>?_,.inl hb,fun x c e=>f4 x c (O.sub I2.ok x c e),fun p hp=>?_⟩
   ·rcases Ze.mp (I2.stkSub b z)with e|e
    ·exact f1 e
    ·exact g2 e
   ·have z:p=(D,eY its nn):=by simpa[aQ]using hp
    subst z;exact hDfp b hb
  rcases turn i k ys H3 w3 with⟨stop,qn⟩|⟨go,hlt,step⟩
  ·refine thn (T.done (aQ X scope (own++capN) C s2 H2 fp) rfl rfl rfl hc i _ s3 _ H3 _ I3 (fpY fr3) st3 stop) fun r s4 ⟨hr,I4⟩=>?_;subst hr;obtain⟨oD,nD,_⟩:=I4.pin (D,eY its nn) (by simp);have neD:∀{b:Addr} {u:HO},H3 b=some u->b≠D:=fun{b u} e=>ao e nD;have JX:Inv X pins σ (upd H3 D (.lst ys)) s4:=by
    refine I2.call' (ch:=fp) I4.os ⟨I4.base.keep,I4.base.slot,fun b o e nb hx=>?_,I4.base.there,fun b xs e=>?_,fun b o u e=>?_,fun b ps e=>?_⟩ (fun b u e=>?_) I4.bare (fun b hb=>?_)
    ·rw[ac (by rw[<-hDe];exact Zt (Zf e))];exact I4.base.free b o e nb hx
    ·have q:=I4.base.tups b xs e;rw[ac (neD q)];exact q
    ·have q:=I4.base.frzs b o u e;rw[ac (neD q)];exact q
    ·obtain⟨more,q⟩:=I4.base.tbls b ps e;exact⟨more,by rw[ac (neD q)];exact q⟩
    ·by_cases hb:b=D
     ·subst hb;rw[aa]at e;cases e;exact⟨hz,its,nn,rv,oD⟩
     ·rw[ac hb]at e;exact(I4.hok b u e).stay (fun _ _ _ q=>q) (fun c q=>by rw[ac (neD q)];exact q) fun c xs q=>by rw[ac (neD q)];exact q
    ·obtain⟨f0,f1,g2,f3,f4,f5⟩:=f2 b hb;exact⟨f3,f1,f4,f5⟩
   obtain⟨m4,hn4,_⟩:=I4.loc;refine fin D C s4 H3 ys JX ⟨m4,hn4⟩ ?_ (qn D nD);refine I2.fpOk (b:=C) hCle' ?_;rw[ac (ZW hDC)];exact I4.free
  ·refine thn (T.item (aQ X scope (own++capN) C s2 H2 fp) rfl rfl rfl hc i _ s3 _ H3 _ I3 (fpY fr3) st3 go) fun r s4 ⟨u,hr,h4⟩=>?_;subst hr;refine thn h4 fun _ s5 hz9=>?_;obtain⟨x,H5,I5,r5,y5,st5,fr5⟩:=hz9;have I5':=I5.pinned (fpY fr5) (T.obj _ _ st5);refine thn (hg C s2 H2 fp _ s5 _ H5 x u _ I5' r5 (gk _ _ _ _ (step x H5 y5))) fun _ s6 hz9=>?_;obtain⟨σ6,H6,I6,⟨l6,k6⟩,q6⟩:=hz9;refine thn (ht C s2 H2 fp _ s6 σ6 H6 _ I6 q6) fun ok s7 ⟨H7,I7,q7⟩=>?_;have wk:∀{H8:Hp} {s8:Shared} {pl:List (Addr×Obj)},Inv (aQ X scope (own++capN) C s2 H2 fp) pl σ6 H8 s8->Inv (aQ X scope (own++capN) C s2 H2 fp) pl (bT own.length cap σ) H8 s8:=fun I=>I.weak l6.symm fun j v e=>by obtain⟨hj,_⟩:=kX e;rw[k6 j hj];exact e
   have tn8:∀{σ8:St} {H8:Hp} {s8:Shared},Inv (aQ X scope (own++capN) C s2 H2 fp) ([(D,eY its nn)]++iX fp s5.heap) σ8 H8 s8->(∀b∈fp,∀o,s5.heap.get? b=some o->s8.heap.get? b=some o)/\∀b∈fp,H8 b=none:=fun{σ8 H8 s8} I=>by refine⟨fun b hb o e=>(I.pin (b,o) (ZL _ (ZL _ (fj hb e)))).1,fun b hb=>?_⟩;obtain⟨o,e,d⟩:=T.obj _ _ st5 b hb;exact(I.pin (b,o) (ZL _ (ZL _ (fj hb e)))).2.1
   cases ok with
   |false =>rw[EM Zn]at q7 ⊢;obtain⟨m',hm,w7⟩:=q7;obtain⟨t1,t2⟩:=tn8 I7;exact⟨m',hm,i+1,ys,its,nn,H7,wk I7.unpinned,T.keep _ _ _ st5 t1,t2,rv,hz,w7⟩
   |true =>
    rw[EN rfl]at q7 ⊢;refine thn (he C s2 H2 fp _ s7 σ6 H7 _ I7 q7) fun y s8 hz9=>?_;obtain⟨yv,H8,I8,r8,m',hm,w8⟩:=hz9;obtain⟨t1,t2⟩:=tn8 I8;obtain⟨oD,nD,_⟩:=I8.pin (D,eY its nn) (by simp);have hil:=rv.length;refine call_meets F.slot_list_append ⟨_,oD,rfl⟩ F.entry_list_append (F.args_list_append_2 _ _) (PySem.list_append D its.toArray nn y (by rw[Zg];omega)) ⟨oD,?_⟩;have q:=PySem.IsL.update oD (fun x_1=>x_1.push y);have hf:its.toArray.push y=(its++[y]).toArray:=by simp
    rw[hf]at q;have keepO:∀b o,b≠D->s8.heap.get? b=some o->(s8.heap.update D (Obj.mapSeq fun x_1=>x_1.push y)).get? b=some o:=fun b o hb e=>(ZK s8.heap (Obj.mapSeq fun x_1=>x_1.push y) (ZW hb)).trans e;have I9:Inv (aQ X scope (own++capN) C s2 H2 fp) [] σ6 H8 { s8 with heap:=s8.heap.update D (Obj.mapSeq fun x_1=>x_1.push y),toks:=s8.toks } :=
     (I8.pins_of (pins':=[]) fun p hp=>absurd hp (by simp)).turned (it:=D) keepO nD hDC (.inr hDle) Dcell (fun p hp=>absurd (show p∈([]:List (Addr×Obj))from hp) (by simp))
    refine⟨m',hm,i+1,ys++[yv],its++[y],_,H8,wk (pinD I9 q nD),T.keep _ _ _ st5 (fun b hb o e=>keepO b o (ZW (hDfp b hb)) (t1 b hb o e)),t2,rv.append (.cons r8 .nil),?_,w8⟩;rw[Zs,ZC];omega
 exact codeAny_compStart_list (loop _ rfl) (T.self _ 0 _ _ _ (T.keep _ _ _ st2 (fun b hb o e=>old b o e)) (loop _ rfl))
theorem zX{wi:TI}(O:CompOk X scope cap capN)(hc:X.calm=true)(hi:PI X tg iter wi)(hg:∀C s0 H0 ex,PG (aQ X scope (own++capN) C s0 H0 ex) tg g)(gk:GK own.length g)(ht:∀C s0 H0 ex,md (aQ X scope (own++capN) C s0 H0 ex) ifs tc)(he:∀C s0 H0 ex,PE (aQ X scope (own++capN) C s0 H0 ex) elt te)(hs:∀x,foldedSetIterable iter X.env x=pure x:=by intro _;rfl):PE X (.ListComp elt [⟨tg,iter,ifs,0⟩] scope pos) (oR own.length cap wi g tc te):=by intro pins s σ H Q I h;rw[eval_ListComp];refine wpAny_comprehension_free (use:=none) rfl hs (O.clos I.ok) O.kind O.names (thn (hi pins s σ H _ I h) fun v s1 h1=>thn h1 fun itv s2 h2=>?_);obtain⟨it,fp,tn,J,H2,e,I2,T,st2,f2,hq⟩:=h2;subst e;refine mY (RR:=fun acc C=>compPost (model X.prog X.w) X.A X.xe none (EP X pins σ Q) acc C) O hc hg gk ht he I2 T st2 f2 hq fun D C s4 H4 ys J4 hn4 fC q4=>?_;obtain⟨m,hn⟩:=hn4;obtain⟨f0,f1,g2,f3,f4,f5⟩:=fC;exact⟨m,hn,fun h' sb=>⟨.ref D,_,J4.turned (t':=s4.toks) (fun b o hb e=>(sb.2 b hb).trans e) f0 f1 f3 f4 f5,rfl,q4⟩⟩
theorem Ai{wi:TI}{j:Nat}{y:Str}{py spos:Pos}(hN0:X.N.Nodup)(hj:X.N[j]?=some y)(hy:Loc X.env.scope y)(O:CompOk X scope cap capN)(hc:X.calm=true)(hi:PI X tg iter wi)(hg:∀C s0 H0 ex,PG (aQ X scope (own++capN) C s0 H0 ex) tg g)(gk:GK own.length g)(ht:∀C s0 H0 ex,md (aQ X scope (own++capN) C s0 H0 ex) ifs tc)(he:∀C s0 H0 ex,PE (aQ X scope (own++capN) C s0 H0 ex) elt te)(hsw:swapsWith (.ListComp elt [⟨tg,iter,ifs,0⟩] scope pos) (some (.Name y py)) spos.line X.env=pure true:=by rfl)(hs:∀x,foldedSetIterable iter X.env x=pure x:=by intro _;rfl)(hf:X.fn y=true\/X.env.scope.names.lookup y=some .local:=by first|exact .inl rfl|exact .inr rfl|assumption) :
  PS X (.Assign [.Name y py] (.ListComp elt [⟨tg,iter,ifs,0⟩] scope pos) spos) (mP (oR own.length cap wi g tc te) (bV j)):=by
 intro pins s σ H D0 I h;rw[exec_Assign_Name_used _ _ _ _ hsw];refine z0 (wpAny_standAt (z0 ?_));show wpAny _ X.A (do let _ ←comprehension (.ListComp elt [⟨tg,iter,ifs,0⟩] scope pos) scope X.env _ (newList []) false (eval iter X.env) (some (assign (.Name y py) X.env))) _ _ s;refine z0 (ZY (wpAny_comprehension_free (use:=some (assign (.Name y py) X.env)) (Q:=fun _ s'=>SP X pins D0 .next s') rfl hs (O.clos I.ok) O.kind O.names (thn (hi pins s σ H _ I h) fun v s1 h1=>thn h1 fun itv s2 h2=>?_)) (fun _ s' hq=>Zj (Zj hq)) fun _ _ e=>e);obtain⟨it,fp,tn,J,H2,e,I2,T,st2,f2,hq⟩:=h2;subst e;refine mY (RR:=fun acc C=>compPost (model X.prog X.w) X.A X.xe (some (assign (.Name y py) X.env)) (fun _ s'=>SP X pins D0 .next s') acc C) O hc hg gk ht he I2 T st2 f2 hq fun D C s4 H4 ys J4 hn4 fC q4=>?_;obtain⟨m,hn⟩:=hn4;obtain⟨f0,f1,g2,f3,f4,f5⟩:=fC;show wpAny _ X.A (assign (.Name y py) X.env (.ref D)) _ _ _;refine wpAny_assign_Name (nE J4 hN0 hj hy (v:=.ref D) rfl (fun s5 I5 ⟨a,sba,ha⟩=>?_) hf);have hCa:C≠a:=by
  rcases ha with z|z
  ·rw[z];exact f1
  ·exact ZW (f4 _ _ z)
 refine⟨m,hn.sameBut sba hCa,fun h' sb=>?_⟩;exact⟨_,_,I5.turned (t':=s5.toks) (fun b o hb e=>(sb.2 b hb).trans e) f0 f1 f3 f4 f5,q4⟩
end
open PySem PySem.Spec PyProof.Rows
structure Fn(P:Program)(w:World)(K:PySem.W.Frag)(mg:Str->Option Value)(base:Heap)(k:Nat)(x:Str)(ps:List Str)(sp:Sp):Prop where
 ex:∃f fd,FnOk P w K mg base CX0 k f fd ps sp/\mg x=some (.ref f)/\PySem.W.keepIn K (.ref f)=true/\Binds K fd ps []
section
variable{X:Cx}{k:Nat}{x:Str}{p pos:Pos}{e:Expr}{es:List Expr}{ps:List Str}{sp:Sp}{t:TA}
theorem C3(F:Fn X.prog X.w X.K X.mg X.base k x ps sp)(hr:Room k X.A)(ha:PA X (e::es) t)(hg:Gl X x:=by rfl)(hdb:(x==("__debug__":Str))=false:=by decide)(he:starEach (e::es) X.env=(false,eval e X.env)::starEach es X.env:=by rfl)(hpl:(backTo pos (starEach es X.env)).any (·.1)=false:=by rfl) :
  PE X (.Call (.Name x p) (e::es) [] pos) (lV sp [] E0 t):=by
 obtain⟨f,fd,G,m,kp,b⟩:=F.ex;exact sk G hr hg m kp b .nil oK ha hdb he hpl
end
theorem cj:bootBuiltins "isinstance" = some (.builtin "isinstance"):=by decide +kernel
theorem wQ:bootBuiltins "max" = some (.builtin "max"):=by decide +kernel
theorem wR:bootBuiltins "min" = some (.builtin "min"):=by decide +kernel
theorem fG:bootBuiltins "int" = some (.type "int"):=by decide +kernel
theorem uC:bootBuiltins "bool" = some (.type "bool"):=by decide +kernel
theorem kU:bootBuiltins "tuple" = some (.type "tuple"):=by decide +kernel
theorem cD:bootBuiltins "list" = some (.type "list"):=by decide +kernel
theorem gc:bootBuiltins "all" = some (.builtin "all"):=by decide +kernel
section
variable{X:Cx}
theorem wS(hc:X.calm=true):df X (.builtin "all") (fun xs H Q=>∃(p:Addr) (bs:List Bool),xs=[.ref p]/\SqL X.K H p (bs.map V.bl)/\Q (.bl (bs.all id)) H):=by
 intro pins s σ H xs us Q I r h;obtain⟨p,bs,rfl,hq,q⟩:=h;obtain⟨u,rfl,rx⟩:=bX r;cases rx;obtain⟨its,rv,pl,hz⟩:=I.list hq;have hl:=pl.isList;have hlt:p<s.heap.objs.size:=by obtain⟨_,e,_⟩:=hl;exact Zf e
 have hh:=I.ok.hd hc;have hlen:bs.length=its.length:=by rw[<-rv.length,Zi]
 refine call_all_walk (wpAny_pyIter_list hl ?_);refine⟨s.heap.objs.size,[s.heap.objs.size,p],[s.heap.objs.size],its.toArray.size,_,_,fun i=>(bs[i]?).getD true,rfl,Walks.list (A:=X.A.in1) hh _ p (Zt hlt) its.toArray,
  ⟨⟨_,Zh _ rfl,rfl,rfl⟩,hl.push _⟩,fun i v s' Q' E' hP hQ=>?_,fun h' tk hk=>?_⟩
 ·have hv:its[i]?=some v:=by simpa using hP
  have hi:i<bs.length:=by rw[hlen];exact(Zk.mp hv).1
  obtain⟨u,hu,ru⟩:=rv.get (i:=i) (x:=.bl bs[i]) (by rw[Zm,Za hi];rfl);rw[hv]at hu;cases hu;cases ru;have hQ':Q' ((bs[i]?).getD true) s':=hQ;rw[Za hi]at hQ';exact ZU hQ'
 ·have e:((List.range its.toArray.size).all fun i=>(bs[i]?).getD true)=bs.all id:=by rw[Zg,<-hlen];exact LSm.range_all bs
  rw[e];exact⟨.bl _,H,I.kept (t':=tk) (LSm.kept_iter hk),rfl,q⟩
theorem wV:df X (.builtin "isinstance") (fun xs H Q=>∃x T t b,xs=[x,.ty T]/\TyOf X.K H x t/\PySem.W.kitOne X.K t (.type T)=some b/\Q (.bl b) H):=by intro pins s σ H xs us Q I r h;obtain⟨x,T,t,b,rfl,ty,e,q⟩:=h;obtain⟨u,w',rfl,rx,ry⟩:=gz r;cases(show w'=Value.type T from ry);exact va I rx ty e fun tk=>⟨.bl b,H,I.tok tk,rfl,q⟩
end
def isI:V->Bool
 |.int _=>true
 |.bl _=>true
 |_=>false
def isB:V->Bool
 |.bl _=>true
 |_=>false
theorem hZ{K:PySem.W.Frag}{t T:String}{b:Bool}(h1:(Value.type t==Value.type T)=b)(h2:b=false->PySem.W.kitMeta T=true/\(PySem.fastBuiltinMro t).map (·.contains (Value.type T))=some false):PySem.W.kitOne K (.type t) (.type T)=some b:=by
 unfold PySem.W.kitOne;rw[h1];cases b with
 |true=>exact EN rfl
 |false =>rw[EM Zn];obtain⟨m,q⟩:=h2 rfl;show(if PySem.W.kitMeta T=true then PySem.W.subIn K (.type t) (.type T)else none)=_;rw[EN m];exact q
theorem br{K:PySem.W.Frag}{t T:String}{b:Bool}(h1:(Value.type t==Value.type T)=false)(h2:PySem.W.kitMeta T=true)(h3:(PySem.fastBuiltinMro t).map (·.contains (Value.type T))=some b):PySem.W.kitOne K (.type t) (.type T)=some b:=by unfold PySem.W.kitOne;rw[h1,EM Zn];show(if PySem.W.kitMeta T=true then PySem.W.subIn K (.type t) (.type T)else none)=_;rw[EN h2];exact h3
theorem sd{K:PySem.W.Frag}{H:Hp}{v:V}{n:String}(h:TyOf K H v (.type n)):PySem.W.kitOne K (.type n) (.type "int")=some (isI v):=by
 cases h with
 |non=>exact br (b:=false) (by decide +kernel) (by decide +kernel) (by decide +kernel)
 |bl x=>exact br (b:=true) (by decide +kernel) (by decide +kernel) (by decide +kernel)
 |int i=>exact hZ (b:=true) (by decide +kernel) (fun z=>nomatch z)
 |str x=>exact br (b:=false) (by decide +kernel) (by decide +kernel) (by decide +kernel)
 |flt x=>exact br (b:=false) (by decide +kernel) (by decide +kernel) (by decide +kernel)
 |lst e=>exact br (b:=false) (by decide +kernel) (by decide +kernel) (by decide +kernel)
 |frz e=>exact br (b:=false) (by decide +kernel) (by decide +kernel) (by decide +kernel)
 |tup e=>exact br (b:=false) (by decide +kernel) (by decide +kernel) (by decide +kernel)
 |dK e=>exact br (b:=false) (by decide +kernel) (by decide +kernel) (by decide +kernel)
 |dT e=>exact br (b:=false) (by decide +kernel) (by decide +kernel) (by decide +kernel)
theorem qg{K:PySem.W.Frag}{H:Hp}{v:V}{n:String}(h:TyOf K H v (.type n)):PySem.W.kitOne K (.type n) (.type "bool")=some (isB v):=by
 cases h with
 |non=>exact br (b:=false) (by decide +kernel) (by decide +kernel) (by decide +kernel)
 |bl x=>exact hZ (b:=true) (by decide +kernel) (fun z=>nomatch z)
 |int i=>exact br (b:=false) (by decide +kernel) (by decide +kernel) (by decide +kernel)
 |str x=>exact br (b:=false) (by decide +kernel) (by decide +kernel) (by decide +kernel)
 |flt x=>exact br (b:=false) (by decide +kernel) (by decide +kernel) (by decide +kernel)
 |lst e=>exact br (b:=false) (by decide +kernel) (by decide +kernel) (by decide +kernel)
 |frz e=>exact br (b:=false) (by decide +kernel) (by decide +kernel) (by decide +kernel)
 |tup e=>exact br (b:=false) (by decide +kernel) (by decide +kernel) (by decide +kernel)
 |dK e=>exact br (b:=false) (by decide +kernel) (by decide +kernel) (by decide +kernel)
 |dT e=>exact br (b:=false) (by decide +kernel) (by decide +kernel) (by decide +kernel)
theorem ad{H:Hp}{p:Addr}(h:H p=none)(o:HO):Same H (upd H p o):=fun b u q=>by rw[ac (ao q h)];exact q
theorem bU{n:Nat}(h:n<=1000):n<=sizeLine:=Nat.le_of_lt (bq h)
theorem sz{n:Nat}(h:Nat.ble n 1000=true):n<=sizeLine:=bU (Ys h)
theorem iE{J:It}{N n:Nat}{cap:List Nat}{te:TE}{σ:St}{H0:Hp}{Q:VK}(x0 f:Nat->V)(hz:N<=1000)(hgo:∀i H,i<N->Same H0 H->J.go i H)(hst:∀H,Same H0 H->J.stop N H)(hy:∀i H x H',i<N->Same H0 H->J.yld i H x H'->H'=H/\x=x0 i)(he:∀i H,i<N->Same H0 H->∀R:VK,(∀H',Same H H'->R (f i) H')->te ((bT n cap σ).set 0 (some (x0 i))) H R)(hq:∀p H,Same H0 H->H p=none->Q (.ref p) (upd H p (.lst ((List.range N).map f)))):dY n cap (bV 0) fv te σ J H0 Q:=by
 refine⟨fun i m ys H=>m=N-i/\i<=N/\Same H0 H/\ys=(List.range i).map f,⟨N,by simp,ZB _,Same.refl _,rfl⟩,?_⟩;rintro i m ys H ⟨rfl,hi,sm,rfl⟩;by_cases hlt:i<N
 ·refine .inr ⟨hgo i H hlt sm,?_,fun x H' y=>?_⟩
  ·rw[Zi,List.length_range];exact bq (by omega)
  ·obtain⟨e1,e2⟩:=hy i H x H' hlt sm y;subst e1 e2;refine he i H' hlt sm _ fun H4 sm4=>⟨N-(i+1),by omega,rfl,hlt,sm.trans sm4,?_⟩
   rw[List.range_succ,ZQ];rfl
 ·have e:i=N:=by omega
  subst e;exact .inl ⟨hst H sm,fun p hp=>hq p H sm hp⟩
theorem be{K:PySem.W.Frag}{a:Addr}{xs:List V}{n:Nat}{cap:List Nat}{te:TE}{σ:St}{H0:Hp}{Q:VK}(f:Nat->V)(hz:xs.length<=1000)(hl:SqL K H0 a xs)(he:∀i x H,xs[i]?=some x->Same H0 H->∀R:VK,(∀H',Same H H'->R (f i) H')->te ((bT n cap σ).set 0 (some x)) H R)(hq:∀p H,Same H0 H->H p=none->Q (.ref p) (upd H p (.lst ((List.range xs.length).map f)))):dY n cap (bV 0) fv te σ (Itl K a) H0 Q:=by
 refine iE (N:=xs.length) (fun i=>(xs[i]?).getD .non) f hz (fun i H hi sm=>⟨xs,xs[i],sm.seq hl,by simp[hi]⟩) (fun H sm=>⟨xs,sm.seq hl,Zb _⟩) (fun i H x H' hi sm y=>⟨y.1,?_⟩) (fun i H hi sm R k=>?_) hq
 ·rw[y.2 xs (sm.seq hl)];rfl
 ·have e:xs[i]?=some xs[i]:=by simp[hi]
  rw[e];exact he i xs[i] H e sm R k
theorem ck{N n:Nat}{lo:Int}{cap:List Nat}{te:TE}{σ:St}{H0:Hp}{Q:VK}(f:Nat->V)(hz:N<=1000)(he:∀i H,i<N->Same H0 H->∀R:VK,(∀H',Same H H'->R (f i) H')->te ((bT n cap σ).set 0 (some (.int (lo+i)))) H R)(hq:∀p H,Same H0 H->H p=none->Q (.ref p) (upd H p (.lst ((List.range N).map f)))):dY n cap (bV 0) fv te σ (Itr lo N) H0 Q :=
 iE (N:=N) (fun i=>.int (lo+i)) f hz (fun _ _ hi _=>hi) (fun _ _=>Zb N) (fun _ _ _ _ _ _ y=>y) he hq
open PySem PySem.Spec PyProof.Rows
def aA:Expr->Bool
 |.Starred _ _=>false
 |_=>true
theorem aB{e:Expr}{es:List Expr}{env:Env}(h:aA e=true):starEach (e::es) env=(false,eval e env)::starEach es env:=by cases e<;>first|rfl|cases h
theorem aY{env:Env}{pos:Pos}:∀{es:List Expr},es.all aA=true->(backTo pos (starEach es env)).any (·.1)=false
 | [],_=>rfl
 |e::es,h=>by rw[Yd,Zz]at h;rw[aB h.1];show(false ||(backTo pos (starEach es env)).any (·.1))=false;rw[Bool.false_or];exact aY h.2
section
variable{X:Cx}{x:Str}{p pos:Pos}{e:Expr}{es:List Expr}{te:TE}{t:TA}{id T:String}{r:List V->Hp->VK->Prop}{k:Nat}{ps:List Str}{sp:Sp}
theorem pa(ha:PE X e te)(hr:PA X es t)(hs:aA e=true:=by rfl):PA X (e::es) (cA te t):=jx ha hr (aB hs)
theorem pB(hc:df X (.builtin id) r)(hm:X.mg x=none)(hv:bootBuiltins x=some (.builtin id))(ha:PA X (e::es) t)(hg:Gl X x:=by rfl)(hs:(e::es).all aA=true:=by rfl)(hn:x≠"__name__":=by decide)(hdb:(x==("__debug__":Str))=false:=by decide) :
  PE X (.Call (.Name x p) (e::es) [] pos) (tCB r t):=by
 rw[Yd,Zz]at hs;exact xJ hc hg hm hv ha hn hdb (aB hs.1) (aY hs.2)
theorem pTy(hc:df X (.type T) r)(hm:X.mg x=none)(hv:bootBuiltins x=some (.type T))(ha:PA X (e::es) t)(hg:Gl X x:=by rfl)(hs:(e::es).all aA=true:=by rfl)(hn:x≠"__name__":=by decide)(hdb:(x==("__debug__":Str))=false:=by decide) :
  PE X (.Call (.Name x p) (e::es) [] pos) (tCB r t):=by
 rw[Yd,Zz]at hs;exact vQ hc hg hm hv ha hn hdb (aB hs.1) (aY hs.2)
theorem pfn(F:Fn X.prog X.w X.K X.mg X.base k x ps sp)(hr:Room k X.A)(ha:PA X (e::es) t)(hg:Gl X x:=by rfl)(hs:(e::es).all aA=true:=by rfl)(hdb:(x==("__debug__":Str))=false:=by decide) :
  PE X (.Call (.Name x p) (e::es) [] pos) (lV sp [] E0 t):=by
 rw[Yd,Zz]at hs;exact C3 F hr ha hg hdb (aB hs.1) (aY hs.2)
end
open PySem PySem.Spec PyProof.Rows
structure QE(X:Cx)(e:Expr)(t:TE):Prop where
 h:PE X e t
structure QT(X:Cx)(e:Expr)(t:TT):Prop where
 h:PT X e t
structure QW(X:Cx)(e:Expr)(t:TT):Prop where
 h:PW X e t
structure QA(X:Cx)(es:List Expr)(t:TA):Prop where
 h:PA X es t
structure QS(X:Cx)(st:Stmt)(t:TS):Prop where
 h:PS X st t
structure QB(X:Cx)(st:List Stmt)(t:TS):Prop where
 h:PSs X st t
structure QG(X:Cx)(tg:Expr)(g:TG):Prop where
 h:PG X tg g
structure QGs(X:Cx)(ts:List Expr)(g:TGs):Prop where
 h:PGs X ts g
structure QI(X:Cx)(tg iter:Expr)(wi:TI):Prop where
 h:PI X tg iter wi
structure QIf(X:Cx)(ifs:List Expr)(t:TT):Prop where
 h:md X ifs t
structure QO(X:Cx)(e:Option Expr)(t:TO):Prop where
 h:PO X e t
structure QOp(X:Cx)(f:Value->Value->Sem Value)(r:R2):Prop where
 h:OpR X f r
structure QCall(X:Cx)(f:Value)(r:List V->Hp->VK->Prop):Prop where
 h:df X f r
structure QIx(X:Cx)(r:R2):Prop where
 h:IxR X r
structure QSl(X:Cx)(r:V->Option Int->Option Int->Hp->VK->Prop):Prop where
 h:SlR X r
structure QSet(X:Cx)(t:pq):Prop where
 h:wL X t
structure QUn(X:Cx)(f:Value->Sem Value)(r:V->Hp->VK->Prop):Prop where
 h:UnR X f r
structure QIp(X:Cx)(op:Operator)(t:TIp):Prop where
 h:PIp X op t
section
variable{X:Cx}{pos p:Pos}{e a b c o:Expr}{es rest:List Expr}{te ta tb tc:TE}{t:TA}{tA tB':TT}{x:Str}
theorem q_v(i:Nat){x:Str}{pos:Pos}(hN:X.N[i]?=some x:=by rfl)(hv:Vis X.env.scope x:=by first|exact Or.inl rfl|exact Or.inr (Or.inl rfl)|exact Or.inr (Or.inr rfl))(hd:(x==("__debug__":Str))=false:=by decide)(hcd:(x==("__classdict__":Str))=false:=by decide):QE X (.Name x pos) (tVar i):=⟨BK hN hv hd hcd⟩
theorem ag{i:Int}{j:Nat}:QE X (.Constant (.int i) j pos) (tC (.int i)):=⟨BD⟩
theorem cY{i:Bool}{j:Nat}:QE X (.Constant (.bool i) j pos) (tC (.bl i)):=⟨C2⟩
theorem dE{j:Nat}:QE X (.Constant .none j pos) (tC .non):=⟨BF⟩
theorem aj{i:Str}{j:Nat}:QE X (.Constant (.str i) j pos) (tC (.str i)):=⟨BI⟩
theorem qG{T:String}(hm:X.mg x=none)(hv:bootBuiltins x=some (.type T))(hg:Gl X x:=by rfl)(hn:x≠"__name__":=by decide)(hd:(x==("__debug__":Str))=false:=by decide):QE X (.Name x pos) (tC (.ty T)):=⟨zV hg hm hv rfl hn hd⟩
theorem bS{i:Int}{tk:Tok}(hm:X.mg x=some (.int i tk))(hg:Gl X x:=by rfl)(hd:(x==("__debug__":Str))=false:=by decide):QE X (.Name x pos) (tC (.int i)):=⟨mG hg hm ⟨_,rfl⟩ hd⟩
theorem aw{op:Operator}{r:R2}(ho:QOp X (binaryOp op) r)(ha:QE X a ta)(hb:QE X b tb):QE X (.BinOp a op b pos) (tOp r ta tb):=⟨C5 ho.h ha.h hb.h⟩
theorem tW{op:UnaryOp}{r:V->Hp->VK->Prop}(ho:QUn X (unaryOp op) r)(ha:QE X a ta):QE X (.UnaryOp op a pos) (tUn r ta):=⟨C7 ho.h ha.h⟩
theorem oN{op}(h:QE X a ta):QE X (.BoolOp op [a] pos) ta:=⟨BH h.h⟩
theorem lJ(ha:QE X a ta)(hb:QE X (.BoolOp .And (b::rest) pos) tb):QE X (.BoolOp .And (a::b::rest) pos) (yP ta tb):=⟨BB ha.h hb.h⟩
theorem B1(ha:QE X a ta)(hb:QE X (.BoolOp .Or (b::rest) pos) tb):QE X (.BoolOp .Or (a::b::rest) pos) (yk ta tb):=⟨C6 ha.h hb.h⟩
theorem ii(ha:QE X a ta):QE X (.UnaryOp .Not a pos) (uk ta):=⟨BG ha.h⟩
theorem bo{op:CmpOp}{r:R2}(ho:QOp X (compareOp op) r)(ha:QE X a ta)(hb:QE X b tb)(hm:behindInMarks op b=false:=by first|exact vE _|with_unfolding_all rfl):QE X (.Compare a [op] [b] pos) (tOp r ta tb):=⟨zW ho.h ha.h hb.h hm⟩
theorem tV(hc:QT X c tA)(ha:QE X a ta)(hb:QE X b tb):QE X (.IfExp c a b pos) (tIf tA ta tb):=⟨xK hc.h ha.h hb.h⟩
theorem bA(h:QA X es t):QE X (.List es pos) (Cf t):=⟨BE h.h⟩
theorem cw{x1}(h:QA X es t):QE X (.Tuple es x1 pos) (Ck t):=⟨BJ h.h⟩
theorem ar{r:R2}(hr:QIx X r)(ha:QE X a ta)(hb:QE X b tb)(hs:rJ b:=by intro _ _;rfl):QE X (.Subscript a b pos) (tOp r ta tb):=⟨C4 hr.h ha.h hb.h hs⟩
theorem qI{r:V->Option Int->Option Int->Hp->VK->Prop}{lo hi:Option Expr}{tl th:TO}{p2:Pos}(hr:QSl X r)(he:QE X e te)(hl:QO X lo tl)(hu:QO X hi th):QE X (.Subscript e (.Slice lo hi none p2) pos) (tSl r te tl th):=⟨xM hr.h he.h hl.h hu.h⟩
theorem xU:QO X none sE:=⟨Af⟩
theorem kG(h:QE X e te):QO X (some e) (yS te):=⟨Ag h.h⟩
theorem af:QA X [] dJ:=⟨fO⟩
theorem q_a(ha:QE X e te)(hr:QA X es t)(hs:aA e=true:=by rfl):QA X (e::es) (cA te t):=⟨pa ha.h hr.h hs⟩
theorem q_B{id:String}{r:List V->Hp->VK->Prop}(hc:QCall X (.builtin id) r)(hm:X.mg x=none)(hv:bootBuiltins x=some (.builtin id))(ha:QA X (e::es) t)(hg:Gl X x:=by rfl)(hs:(e::es).all aA=true:=by rfl)(hn:x≠"__name__":=by decide)(hdb:(x==("__debug__":Str))=false:=by decide) :
  QE X (.Call (.Name x p) (e::es) [] pos) (tCB r t):=⟨pB hc.h hm hv ha.h hg hs hn hdb⟩
theorem gH{T:String}{r:List V->Hp->VK->Prop}(hc:QCall X (.type T) r)(hm:X.mg x=none)(hv:bootBuiltins x=some (.type T))(ha:QA X (e::es) t)(hg:Gl X x:=by rfl)(hs:(e::es).all aA=true:=by rfl)(hn:x≠"__name__":=by decide)(hdb:(x==("__debug__":Str))=false:=by decide) :
  QE X (.Call (.Name x p) (e::es) [] pos) (tCB r t):=⟨pTy hc.h hm hv ha.h hg hs hn hdb⟩
theorem aG{k:Nat}{ps:List Str}{sp:Sp}(F:Fn X.prog X.w X.K X.mg X.base k x ps sp)(hr:Room k X.A)(ha:QA X (e::es) t)(hg:Gl X x:=by rfl)(hs:(e::es).all aA=true:=by rfl)(hdb:(x==("__debug__":Str))=false:=by decide) :
  QE X (.Call (.Name x p) (e::es) [] pos) (lV sp [] E0 t):=⟨pfn F hr ha.h hg hs hdb⟩
theorem au{op:CmpOp}{r:R2}(ho:QOp X (compareOp op) r)(ha:QE X a ta)(hb:QE X b tb)(hm:behindInMarks op b=false:=by first|exact vE _|with_unfolding_all rfl):QT X (.Compare a [op] [b] pos) (lW (tOp r ta tb)):=⟨Al ho.h ha.h hb.h hm⟩
theorem mQ{op op':CmpOp}{r r':R2}(ho:QOp X (compareOp op) r)(ho':QOp X (compareOp op') r')(ha:QE X a ta)(hb:QE X b tb)(hc:QE X c tc)(hm:lastMarks [op,op'] [b,c]=false:=by with_unfolding_all rfl) :
  QT X (.Compare a [op,op'] [b,c] pos) (lW (wu r r' ta tb tc)):=⟨xS ho.h ho'.h ha.h hb.h hc.h hm⟩
theorem eO(ha:QT X a tA):QT X (.UnaryOp .Not a pos) (yj tA):=⟨BV ha.h⟩
theorem bO(h:QE X e te)(he:∀whole,isTrue e X.env whole=(do let v ←whole;standAt e.pos;holding [v] (truthy v)):=by intro _;rfl):QT X e (tB te):=⟨BW h.h he⟩
theorem eV(ha:QT X a tA):QW X (.BoolOp .And [a] pos) tA:=⟨An ha.h⟩
theorem fw(ha:QT X a tA):QW X (.BoolOp .Or [a] pos) tA:=⟨BZ ha.h⟩
theorem dZ(ha:QT X a tA)(hb:QW X (.BoolOp .And (b::rest) pos) tB'):QW X (.BoolOp .And (a::b::rest) pos) (Cb tA tB'):=⟨BY ha.h hb.h⟩
theorem eF(ha:QT X a tA)(hb:QW X (.BoolOp .Or (b::rest) pos) tB'):QW X (.BoolOp .Or (a::b::rest) pos) (tOr tA tB'):=⟨C9 ha.h hb.h⟩
theorem t_w(h:QW X e tA):QT X e tA:=⟨h.h.pt⟩
end
section
variable{X:Cx}{pos:Pos}{tg iter elt:Expr}{ifs:List Expr}{g:TG}{gs:TGs}{tc:TT}{te:TE}{scope:Scope}{cap:List Nat}{capN own:List Str}{wi:TI}
theorem ax{i:Nat}{x:Str}(hN:X.N.Nodup)(hi:X.N[i]?=some x:=by rfl)(hx:Loc X.env.scope x:=by first|exact Or.inl rfl|exact Or.inr rfl)(hf:X.fn x=true\/X.env.scope.names.lookup x=some .local:=by first|exact .inl rfl|exact .inr rfl):QG X (.Name x pos) (bV i):=⟨zZ hN hi hx hf⟩
theorem sY:QGs X [] ml:=⟨Aa⟩
theorem gE{e:Expr}{es:List Expr}(h1:QG X e g)(h2:QGs X es gs)(hs:(assignEach (e::es) X.env).map (·.2)=assign e X.env::(assignEach es X.env).map (·.2):=by rfl):QGs X (e::es) (gi g gs):=⟨xN h1.h h2.h hs⟩
theorem oF{es:List Expr}{k n:Nat}(hc:X.calm=true)(h:QGs X es gs)(hn:(assignEach es X.env).length=n:=by rfl)(hst:(assignEach es X.env).findIdx? (·.1)=none:=by rfl):QG X (.Tuple es k pos) (mm X.K n gs):=⟨BM hc h.h hn hst⟩
theorem yx{o i:Expr}{to ti:TE}{t:pq}(ho:QE X o to)(hi:QE X i ti)(hs:QSet X t)(ha:∀ v,assign (.Subscript o i pos) X.env v=(do
   let ov ←holding [v] (eval o X.env)
   let iv ←holding [v,ov] (eval i X.env)
   standAt pos
   holding [v,ov,iv] (setItem ov iv v)
   release [v,ov,iv] []):=by intro _;rfl):QG X (.Subscript o i pos) (AU to ti t):=⟨BL ho.h hi.h hs.h ha⟩
theorem bI{l:Expr}(hl:QE X l te):QI X tg l (yz X.K te):=⟨Ac hl.h⟩
theorem jr{l:Expr}(hl:QE X l te):QI X tg l (AX X.K te):=⟨BO hl.h⟩
theorem dj{a:Expr}{ta:TA}{p:Pos}(hm:X.mg "range" = none)(ha:QA X [a] ta)(hg:Gl X "range":=by rfl)(hs:aA a=true:=by rfl):QI X tg (.Call (.Name "range" p) [a] [] pos) (yA ta):=⟨vR hg hm ha.h (aB hs)⟩
theorem bp:QIf X [] fv:=⟨xO⟩
theorem Du{c:Expr}{t:TT}(h:QT X c t):QIf X [c] t:=⟨xP h.h⟩
theorem aL(O:CompOk X scope cap capN)(hc:X.calm=true)(hi:QI X tg iter wi)(hg:∀C s0 H0 ex,QG (aQ X scope (own++capN) C s0 H0 ex) tg g)(gk:GK own.length g)(ht:∀C s0 H0 ex,QIf (aQ X scope (own++capN) C s0 H0 ex) ifs tc)(he:∀C s0 H0 ex,QE (aQ X scope (own++capN) C s0 H0 ex) elt te)(hs:∀x,foldedSetIterable iter X.env x=pure x:=by intro _;rfl):QE X (.ListComp elt [⟨tg,iter,ifs,0⟩] scope pos) (oR own.length cap wi g tc te) :=
 ⟨zX O hc hi.h (fun C s0 H0 ex=>(hg C s0 H0 ex).h) gk (fun C s0 H0 ex=>(ht C s0 H0 ex).h) (fun C s0 H0 ex=>(he C s0 H0 ex).h) hs⟩
variable{st:Stmt}{rest:List Stmt}{t u:TS}{e c:Expr}
theorem b_0:QB X [] uh:=⟨Aj⟩
theorem b_1(h:QS X st t):QB X [st] t:=⟨Ak h.h⟩
theorem b_c(h1:QS X st t)(h2:QB X rest u):QB X (st::rest) (Cj t u):=⟨xR h1.h h2.h⟩
theorem ak(h:QE X e te):QS X (.Return (some e) pos) (Ci te):=⟨BT h.h⟩
theorem bJ(h:QE X e te)(hs:swapsWith e none pos.line X.env=pure false:=by rfl):QS X (.Expr e pos) (yQ te):=⟨Ah h.h hs⟩
theorem aC{body els:List Stmt}(hc:QT X c tc)(ht:QB X body t)(hu:QB X els u):QS X (.If c body els pos) (yh tc t u):=⟨C8 hc.h ht.h hu.h⟩
theorem aq{i:Nat}{x:Str}{pos':Pos}(hN:X.N.Nodup)(he:QE X e te)(hi:X.N[i]?=some x:=by rfl)(hx:Loc X.env.scope x:=by first|exact Or.inl rfl|exact Or.inr rfl)(hs:swapsWith e (some (.Name x pos')) pos.line X.env=pure false:=by rfl)(hf:X.fn x=true\/X.env.scope.names.lookup x=some .local:=by first|exact .inl rfl|exact .inr rfl):QS X (.Assign [.Name x pos'] e pos) (mP te (bV i)):=⟨BU hN hi hx he.h hs hf⟩
theorem B8{j:Nat}{y:Str}{py spos:Pos}(hN0:X.N.Nodup)(O:CompOk X scope cap capN)(hc:X.calm=true)(hi:QI X tg iter wi)(hg:∀C s0 H0 ex,QG (aQ X scope (own++capN) C s0 H0 ex) tg g)(gk:GK own.length g)(ht:∀C s0 H0 ex,QIf (aQ X scope (own++capN) C s0 H0 ex) ifs tc)(he:∀C s0 H0 ex,QE (aQ X scope (own++capN) C s0 H0 ex) elt te)(hj:X.N[j]?=some y:=by rfl)(hy:Loc X.env.scope y:=by first|exact Or.inl rfl|exact Or.inr rfl)(hsw:swapsWith (.ListComp elt [⟨tg,iter,ifs,0⟩] scope pos) (some (.Name y py)) spos.line X.env=pure true:=by rfl)(hs:∀x,foldedSetIterable iter X.env x=pure x:=by intro _;rfl)(hf:X.fn y=true\/X.env.scope.names.lookup y=some .local:=by first|exact .inl rfl|exact .inr rfl) :
  QS X (.Assign [.Name y py] (.ListComp elt [⟨tg,iter,ifs,0⟩] scope pos) spos) (mP (oR own.length cap wi g tc te) (bV j)) :=
 ⟨Ai hN0 hj hy O hc hi.h (fun C s0 H0 ex=>(hg C s0 H0 ex).h) gk (fun C s0 H0 ex=>(ht C s0 H0 ex).h) (fun C s0 H0 ex=>(he C s0 H0 ex).h) hsw hs hf⟩
theorem yL(he:QE X e te)(hg:QG X tg g)(hs:swapsWithSole [tg] e pos.line X.env=pure false:=by rfl)(hw:swappedStores [tg] e X.env=pure none:=by rfl)(h1:(assignEach [tg] X.env).map (·.2)=[assign tg X.env]:=by rfl):QS X (.Assign [tg] e pos) (mP te g):=⟨BP he.h hg.h hs hw h1⟩
theorem oO{i:Nat}{x:Str}{op:Operator}{ti:TIp}{pos':Pos}(hN:X.N.Nodup)(he:QE X e te)(ho:QIp X op ti)(hi:X.N[i]?=some x:=by rfl)(hx:Loc X.env.scope x:=by first|exact Or.inl rfl|exact Or.inr rfl)(hf:X.fn x=true\/X.env.scope.names.lookup x=some .local:=by first|exact .inl rfl|exact .inr rfl) :
  QS X (.AugAssign (.Name x pos') op e pos) (Cc i te ti):=⟨BQ hN hi hx he.h ho.h hf⟩
theorem io{body:List Stmt}(hp:PassesOwn (model X.prog X.w) X.A X.env X.xe)(hc:X.calm=true)(hi:QI X tg iter wi)(hg:QG X tg g)(hb:QB X body t)(hs:∀x,foldedSetIterable iter X.env x=pure x:=by intro _;rfl):QS X (.For tg iter body [] pos) (Ce wi g t):=⟨BS hp hc hi.h hg.h hb.h hs⟩
theorem mL{body:List Stmt}(hp:PassesOwn (model X.prog X.w) X.A X.env X.xe)(hc:QT X c tc)(hb:QB X body t):QS X (.While c body [] pos) (wx tc t):=⟨xQ hp hc.h hb.h⟩
end
theorem Fun.okQ{P:Program}{w:World}{K:PySem.W.Frag}{mg:Str->Option Value}{base:Heap}{x qual:Str}{st:Stmt}{f:Addr}{fd:FuncData}{N ps:List Str}{k:Nat}{sp:Sp}(F:Fun K x qual st f fd)(S:FnScope N ps (ai st))(len:∀ vs H Q E,sp vs H Q E->vs.length=ps.length)(hbody:∀ (cdv:Value) (A:Around) (outer:List Env) (s:Shared) (H:Hp) (vs:List V) (Q:VK) (E:XK),Room k (A.deeper (envOfC qual (ai st) s.heap.objs.size f cdv))->sp vs H Q E ->
   ∃ t,QB (cH CX0 P w K mg base N qual (ai st) f cdv A outer s H E).nox (aR st) t/\t { nx:=fun _ H'=>Q .non H',rt:=Q } (start N vs) H):FnOk P w K mg base CX0 (k+1) f fd ps sp :=
 F.ok S len fun cdv A outer s H vs Q E hr hsp=>let⟨t,h,q⟩:=hbody cdv A outer s H vs Q E hr hsp;⟨t,h.h,q⟩
section
variable{X:Cx}
theorem bW:QOp X (binaryOp .Add) (rI0 fun i j=>.int (i+j)):=⟨Br⟩
theorem tK:QOp X (binaryOp .Sub) (rI0 fun i j=>.int (i-j)):=⟨Bz⟩
theorem tJ:QOp X (binaryOp .Mult) (rI CMul fun i j=>.int (i*j)):=⟨Bv⟩
theorem cm:QOp X (binaryOp .FloorDiv) (rI wI fun i j=>.int (i / j)):=⟨zO⟩
theorem bH:QOp X (binaryOp .Mod) (rI (fun _ j=>0<j) fun i j=>.int (i%j)):=⟨Bu⟩
theorem CT:QOp X (binaryOp .Add) rCat:=⟨Bs⟩
theorem aK:QOp X (compareOp .Eq) rEq:=⟨CV⟩
theorem Bo:QOp X (compareOp .NotEq) rNe:=⟨C1⟩
theorem fN:QOp X (compareOp .Lt) (rI0 fun i j=>.bl (decide (i<j))):=⟨C0⟩
theorem iR:QOp X (compareOp .LtE) (rI0 fun i j=>.bl (decide (i<=j))):=⟨CZ⟩
theorem Dy:QOp X (compareOp .Gt) (rI0 fun i j=>.bl (decide (j<i))):=⟨CY⟩
theorem Dx:QOp X (compareOp .GtE) (rI0 fun i j=>.bl (decide (j<=i))):=⟨CW⟩
theorem oJ:QOp X (compareOp .Is) (fun x y H Q=>y=.non/\Q (.bl (decide (x=.non))) H):=⟨Bt⟩
theorem vH:QOp X (compareOp .IsNot) (fun x y H Q=>y=.non/\Q (.bl (!decide (x=.non))) H):=⟨zQ⟩
theorem oV:QUn X (unaryOp .USub) (rU fun i=>.int (-i)):=⟨Cn⟩
theorem aO:QIx X (rIxL X.K):=⟨zp⟩
theorem aE:QIx X (rIxT X.K):=⟨A8⟩
theorem iN:QSl X (rSlL X.K):=⟨Av⟩
theorem yN:QSet X yK:=⟨ye⟩
theorem ba:QCall X (.builtin "len") (fun xs H Q=>∃p ys,xs=[.ref p]/\(SqL X.K H p ys\/SqT X.K H p ys)/\Q (.int ys.length) H):=⟨pI⟩
theorem kW:QCall X (.builtin "isinstance") (fun xs H Q=>∃x T t b,xs=[x,.ty T]/\TyOf X.K H x t/\PySem.W.kitOne X.K t (.type T)=some b/\Q (.bl b) H):=⟨wV⟩
theorem yw(hc:X.calm=true):QCall X (.builtin "all") (fun xs H Q=>∃(p:Addr) (bs:List Bool),xs=[.ref p]/\SqL X.K H p (bs.map V.bl)/\Q (.bl (bs.all id)) H):=⟨wS hc⟩
theorem CA(hc:X.calm=true):QCall X (.builtin "max") (fun xs H Q=>∃i j,xs=[.int i,.int j]/\Q (.int (if j>i then j else i)) H):=⟨uF hc⟩
theorem CB(hc:X.calm=true):QCall X (.builtin "min") (fun xs H Q=>∃i j,xs=[.int i,.int j]/\Q (.int (if j<i then j else i)) H):=⟨uG hc⟩
theorem CC:QCall X (.type "tuple") (fun xs H Q=>∃p ys,xs=[.ref p]/\((SqL X.K H p ys/\∀l,H l=none->Q (.ref l) (upd H l (.tup ys)))\/(SqT X.K H p ys/\Q (.ref p) H))):=⟨nU⟩
theorem iD:QCall X (.type "list") (fun xs H Q=>∃p ys,xs=[.ref p]/\(SqL X.K H p ys\/SqT X.K H p ys)/\∀l,H l=none->Q (.ref l) (upd H l (.lst ys))):=⟨pJ⟩
theorem Cz:QCall X (.type "int") (fun xs H Q=>(∃i,xs=[.int i]/\Q (.int i) H)\/∃k,xs=[.bl k]/\Q (.int (if k then 1 else 0)) H):=⟨uE⟩
theorem tm:QIp X .Add (ipI fun i j=>i+j):=⟨A0⟩
end
open PySem PySem.Spec PyProof.Rows
mutual
def Dt(H:Hp):PyData->V->Prop
 |.none,v=>v=.non
 |.bool b,v=>v=.bl b
 |.int i,v=>v=.int i
 |.str x,v=>v=.str x
 |.list ds,v=>∃a xs,v=.ref a/\Rd H a (.lst xs)/\DtAll H ds xs
 |.tuple ds,v=>∃a xs,v=.ref a/\Rd H a (.tup xs)/\DtAll H ds xs
 |.dict _,_=>False
def DtAll(H:Hp):List PyData->List V->Prop
 | [],xs=>xs=[]
 |d::ds,xs=>∃y ys,xs=y::ys/\Dt H d y/\DtAll H ds ys
end
section
variable{P:Program}{w:World}{H:Hp}{h:Heap}
mutual
theorem Dt.reads(ok:HOk P w H h):∀(d:PyData) (x:V) (v:Value),Dt H d x->RelV x v->∃as,Reads h v d as
 |.none,x,v,e,r=>by
  have e':x=.non:=by simpa only[Dt]using e
  subst e';cases r;exact⟨_,.none⟩
 |.bool b,x,v,e,r=>by
  have e':x=.bl b:=by simpa only[Dt]using e
  subst e';cases r;exact⟨_,.bool b⟩
 |.int i,x,v,e,r=>by
  have e':x=.int i:=by simpa only[Dt]using e
  subst e';obtain⟨t,rfl⟩:=r;exact⟨_,.int i t⟩
 |.str z,x,v,e,r=>by
  have e':x=.str z:=by simpa only[Dt]using e
  subst e';obtain⟨t,rfl⟩:=r;exact⟨_,.str z t⟩
 |.list ds,x,v,e,r=>by
  have e':∃a xs,x=.ref a/\Rd H a (.lst xs)/\DtAll H ds xs:=by simpa only[Dt]using e
  obtain⟨a,xs,rfl,hr,hd⟩:=e';cases r;obtain⟨_,its,n,rv,eo⟩:=hr.ok ok;obtain⟨as,q⟩:=DtAll.reads ok ds xs its hd rv;exact⟨_,.list eo rfl rfl (by simpa using q)⟩
 |.tuple ds,x,v,e,r=>by
  have e':∃a xs,x=.ref a/\Rd H a (.tup xs)/\DtAll H ds xs:=by simpa only[Dt]using e
  obtain⟨a,xs,rfl,hr,hd⟩:=e';cases r;obtain⟨_,its,rv,o,eo,hc,n,hs⟩:=hr.ok ok;obtain⟨as,q⟩:=DtAll.reads ok ds xs its hd rv;exact⟨_,.tuple eo hc hs (by simpa using q)⟩
 |.dict kvs,x,v,e,r=>by
  have e':False:=by simpa only[Dt]using e
  exact e'.elim
theorem DtAll.reads(ok:HOk P w H h):∀(ds:List PyData) (xs:List V) (vs:List Value),DtAll H ds xs->Vals xs vs->∃as,ReadsAll h vs ds as
 | [],xs,vs,e,r=>by
  have e':xs=[]:=by simpa only[DtAll]using e
  subst e';cases r;exact⟨_,.nil⟩
 |d::ds,xs,vs,e,r=>by
  have e':∃y ys,xs=y::ys/\Dt H d y/\DtAll H ds ys:=by simpa only[DtAll]using e
  obtain⟨y,ys,rfl,h1,h2⟩:=e';cases r with
  |cons r1 r2 =>obtain⟨as,q1⟩:=Dt.reads ok d y _ h1 r1;obtain⟨bs,q2⟩:=DtAll.reads ok ds ys _ h2 r2;exact⟨_,.cons q1 q2⟩
end
end
theorem rR{H:Hp}:∀(ns:List Int),DtAll H (ns.map PyData.int) (ns.map V.int)
 | []=>by simp only[List.map_nil,DtAll]
 |n::ns=>by simp only[ZS,DtAll];exact⟨_,_,rfl,by simp only[Dt],rR ns⟩
section
variable{X:Cx}
inductive rEqD  (x:V)(y:V)(H:Hp)(Q:VK):Prop
 |mk (dx dy:_) (h0:Dt H dx x) (h1:Dt H dy y) (h2:SeqAt.shaped dx=true) (h3:SeqAt.shaped dy=true) (h4:Q (.bl (PyData.eqv dx dy)) H):rEqD  x y H Q
inductive rNeD  (x:V)(y:V)(H:Hp)(Q:VK):Prop
 |mk (dx dy:_) (h0:Dt H dx x) (h1:Dt H dy y) (h2:SeqAt.shaped dx=true) (h3:SeqAt.shaped dy=true) (h4:Q (.bl (!PyData.eqv dx dy)) H):rNeD  x y H Q
theorem vO(hu:X.A.units+64<cLine):OpR X (compareOp .Eq) rEqD:=by intro pins s σ H x y v u Q I rx ry h;obtain⟨dx,dy,h1,h2,s1,s2,q⟩:=h;obtain⟨as,r1⟩:=Dt.reads I.hok dx x v h1 rx;obtain⟨bs,r2⟩:=Dt.reads I.hok dy y u h2 ry;exact eq_dataH r1 r2 s1 s2 hu ⟨.bl _,H,I,rfl,q⟩
theorem Bw(hu:X.A.units+64<cLine):OpR X (compareOp .NotEq) rNeD:=by intro pins s σ H x y v u Q I rx ry h;obtain⟨dx,dy,h1,h2,s1,s2,q⟩:=h;obtain⟨as,r1⟩:=Dt.reads I.hok dx x v h1 rx;obtain⟨bs,r2⟩:=Dt.reads I.hok dy y u h2 ry;exact ne_dataH r1 r2 s1 s2 hu ⟨.bl _,H,I,rfl,q⟩
theorem oH(hu:X.A.units+64<cLine):QOp X (compareOp .Eq) rEqD:=⟨vO hu⟩
theorem dS(hu:X.A.units+64<cLine):QOp X (compareOp .NotEq) rNeD:=⟨Bw hu⟩
end
section
variable{X:Cx}
variable{o e:Expr}{to te:TE}{apos cpos:Pos}
theorem eM(ho:QE X o to)(he:QE X e te)(hs:aA e=true:=by rfl)(hbase:attributeBase o "append" X.env (eval o X.env)=eval o X.env:=by rfl)(hline:(apos.endLine==cpos.line)=true:=by rfl) :
  QE X (.Call (.Attribute o "append" apos) [e] [] cpos) (tBM X.K "list" rAppend to (cA te dJ)):=by
 have h1:=aB (es:=[]) (env:=X.env) hs;have h2:starEach ([]:List Expr) X.env=[]:=rfl;refine⟨jy PySem.F.plainAttrs_list PySem.F.slot_list_append PySem.F.type_list_append vA ho.h (pa he.h fO hs) hbase ?_ hline h1 (by rw[h2];rfl)⟩;rw[h1,h2];rfl
end
open PySem PySem.Spec PyProof.Rows
theorem Dv{i j:Int}{A B:Prop}(h1:i=j->A)(h2:i≠j->B):if decide (V.int i=V.int j)=true then A else B:=by
 by_cases h:i=j
 ·rw[EN (decide_eq_true (by rw[h]))];exact h1 h
 ·rw[EM (by rw[decide_eq_false (fun z=>h (by injection z))];exact Zn)];exact h2 h
theorem cL{H H':Hp}{p:Addr}{o:HO}(e:Same H H')(h:H p=none):Same H (upd H' p o):=fun b u q=>by rw[ac (ao q h)];exact e _ _ q
def bj(ns:List Int)(k:Nat):Int:=(ns[k]?).getD 0
theorem pC{ns:List Int}{k:Int}(h0:0<=k)(h1:k<ns.length):atI (ns.map V.int) k=some (.int (bj ns k.toNat)):=by
 have hk:k.toNat<ns.length:=by omega
 have ek:k=((k.toNat:Nat):Int):=by omega
 have q:atI (ns.map V.int) ((k.toNat:Nat):Int)=some (.int ns[k.toNat]):=cT (by rw[Zm,Za hk]<;>rfl);rw[<-ek]at q;rw[q];unfold bj;rw[Za hk];rfl
theorem wW{ns:List Int}{k:Int}(h0:0<=k)(h1:¬k<ns.length):bj ns k.toNat=0:=by unfold bj;rw[Ye (by omega)];rfl
open PySem PySem.Spec PyProof.Rows
structure ZAp(z u v i j:Addr)(f g:List Addr):Prop where
 uz:u≠z
 vz:v≠z
 uv:u≠v
 ui:u≠i
 uj:u≠j
 vi:v≠i
 vj:v≠j
 iz:i≠z
 jz:j≠z
 ij:i≠j
 zf:z∉f
 zg:z∉g
 vf:v∉f
 vg:v∉g
 jf:j∉f
 ig:i∉g
section
variable{prog:Program}{w:World}{A:Around}{E:Value->Shared->Prop}{s:Shared}{z u v i j:Addr}{f g:List Addr}{n m k:Nat}{P1 P2:Nat->Value->Prop}{S1 S2:Nat->Heap->Prop}{a b:Value}
def sP(z v i j:Addr)(h h':Heap):Prop:=∀c o,c≠z->c≠v->c≠i->c≠j->h.get? c=some o->h'.get? c=some o
theorem dq{c:Addr}{f:List Addr}{d:Addr}(hc:c∈f)(hd:d∉f):c≠d:=fun e=>hd (e▸hc)
theorem yq(d1:Draws prog w A i f n P1 S1)(d2:Draws prog w A j g m P2 S2)(ap:ZAp z u v i j f g)(hz:IsZip s.heap z u v .none)(hu:IsPair s.heap u (.ref i) (.ref j))(hv:IsPair s.heap v a b)(h1:S1 k s.heap)(h2:S2 k s.heap)(l1:k<n)(l2:k<m){Q:Value->Shared->Prop}(cont:∀h' tk x y,P1 k x->P2 k y->IsZip h' z u v (rawInt s.heap.objs.size)->IsPair h' v x y->S1 (k+1) h'->S2 (k+1) h'->IsPair h' s.heap.objs.size x y->sP z v i j s.heap h'->Q (.ref s.heap.objs.size) { s with heap:=h',toks:=tk }) :
  wpAny (model prog w) A (Builtin.«zip.__next__» ⟨[.ref z],[]⟩) (fun fin s'=>∃r,fin=.done (.ret r)/\Q r s') E s:=by
 show wpAny _ _ (field (.ref z) 2 >>= _) _ _ _;refine z0 (y3 hz rfl (x:=.bool false) rfl ?_);show wpAny _ _ (field (.ref z) 3 >>= _) _ _ _;refine z0 (y3 hz rfl (x:=.ref u) rfl (z0 (wpAny_seqItems hu rfl ?_)));show wpAny _ _ (Builtin.SmallTypes.ownedTupleIsFree (.ref z) >>= _) _ _ _;refine z0 ?_;unfold Builtin.SmallTypes.ownedTupleIsFree;refine z0 (y3 hz rfl (x:=.none) rfl (Zj ?_));simp only[if_true];refine z0 (wpAny_rule (z0 (y3 hz rfl (x:=.ref v) rfl ?_)));refine z0 (wpAny_setField_rec hz (by simp) fun q1 z1 b1=>?_)
 replace z1:IsZip q1 z u v .ellipsis:=z1
 refine z0 ?_;simp only[List.zipIdx_cons,List.zipIdx_nil,List.forIn_cons,List.forIn_nil];refine z0 (z0 (wpAny_onRaise ?_));show wpAny _ _ (Builtin.SmallTypes.nextOf (.ref i) >>= _) _ _ _;refine z0 (d1.item k { s with heap:=q1 } _ _ l1 (d1.frame _ _ _ h1 fun c hc o e=>b1.extBut c o (dq hc ap.zf) e) fun x q2 t2 px s2 b2=>Zj ?_);have v2:IsPair q2 v a b:=b2.extBut _ _ ap.vi (b1.extBut _ _ ap.vz hv);refine z0 (wpAny_seqItems v2 rfl (z0 (wpAny_updateSeq_pair v2 fun q3 w3 b3=>?_)))
 replace w3:IsPair q3 v x b:=w3
 refine z0 (wpAny_letGo (Zj ?_));refine z0 (z0 (wpAny_onRaise ?_));show wpAny _ _ (Builtin.SmallTypes.nextOf (.ref j) >>= _) _ _ _;refine z0 (d2.item k { s with heap:=q3,toks:=t2 } _ _ l2 (d2.frame _ _ _ h2 fun c hc o e=>b3.extBut c o (dq hc ap.vg) (b2.extBut c o (dq hc ap.ig) (b1.extBut c o (dq hc ap.zg) e))) fun y q4 t4 py s4 b4=>Zj ?_);have v4:IsPair q4 v x b:=b4.extBut _ _ ap.vj w3;refine z0 (wpAny_seqItems v4 rfl (z0 (wpAny_updateSeq_pair v4 fun q5 w5 b5=>?_)))
 replace w5:IsPair q5 v x y:=w5
 refine z0 (wpAny_letGo (Zj (Zj (z0 (wpAny_seqItems w5 rfl (z0 (wpAny_newTuple ?_)))))));have sz:q5.objs.size=s.heap.objs.size:=by rw[b5.1,b4.1,b3.1,b2.1,b1.1]
 have z5:IsZip q5 z u v .ellipsis:=b5.extBut _ _ ap.vz.symm (b4.extBut _ _ ap.jz.symm (b3.extBut _ _ ap.vz.symm (b2.extBut _ _ ap.iz.symm z1)));have k5:sP z v i j s.heap q5:=fun c o c1 c2 c3 c4 e=>b5.extBut _ _ c2 (b4.extBut _ _ c4 (b3.extBut _ _ c2 (b2.extBut _ _ c3 (b1.extBut _ _ c1 e))));have s5:S1 (k+1) q5:=d1.frame _ _ _ s2 fun c hc o e=>b5.extBut c o (dq hc ap.vf) (b4.extBut c o (dq hc ap.jf) (b3.extBut c o (dq hc ap.vf) e));have r5:S2 (k+1) q5:=d2.frame _ _ _ s4 fun c hc o e=>b5.extBut c o (dq hc ap.vg) e;have zlt:z<q5.objs.size:=Zf z5;show wpAny _ _ (Builtin.SmallTypes.ownedTupleHandOut (.ref z) (.ref q5.objs.size) >>= _) _ _ _;refine z0 ?_;unfold Builtin.SmallTypes.ownedTupleHandOut;refine z0 (wpAny_setField_rec (show IsZip (q5.push { cls:=.type "tuple",data:=.seq #[x,y] }) z u v .ellipsis from z9 _ z5) (by simp) fun q7 z7 b7=>?_)
 replace z7:IsZip q7 z u v (rawInt q5.objs.size):=z7
 refine wpAny_setField_rec z7 (by simp) fun q8 z8 b8=>?_
 replace z8:IsZip q8 z u v (rawInt q5.objs.size):=z8
 have up:∀c o,c≠z->q5.get? c=some o->q8.get? c=some o:=fun c o c1 e=>b8.extBut _ _ c1 (b7.extBut _ _ c1 (z9 _ e));have p8:IsPair q8 q5.objs.size x y:=b8.extBut _ _ (ZV zlt) (b7.extBut _ _ (ZV zlt) (Zh _ rfl));rw[sz]at z8 p8;refine Zj ⟨_,rfl,?_⟩;show Q (.ref q5.objs.size) _;rw[sz];exact cont q8 _ x y px py z8 (up _ _ ap.vz w5) (d1.frame _ _ _ s5 fun c hc o e=>up c o (dq hc ap.zf) e) (d2.frame _ _ _ r5 fun c hc o e=>up c o (dq hc ap.zg) e) p8 fun c o c1 c2 c3 c4 e=>up c o c1 (k5 c o c1 c2 c3 c4 e)
theorem AB(d1:Draws prog w A i f n P1 S1)(d2:Draws prog w A j g m P2 S2)(ap:ZAp z u v i j f g)(hz:IsZip s.heap z u v .none)(hu:IsPair s.heap u (.ref i) (.ref j))(hv:IsPair s.heap v a b)(h1:S1 n s.heap){Q:Fin->Shared->Prop}(cont:∀h' e,sP z v i j s.heap h'->(∃o,h'.get? e=some o/\o.cls=.type "StopIteration")->E (.ref e) { s with heap:=h' }):wpAny (model prog w) A (Builtin.«zip.__next__» ⟨[.ref z],[]⟩) Q E s:=by
 show wpAny _ _ (field (.ref z) 2 >>= _) _ _ _;refine z0 (y3 hz rfl (x:=.bool false) rfl ?_);show wpAny _ _ (field (.ref z) 3 >>= _) _ _ _;refine z0 (y3 hz rfl (x:=.ref u) rfl (z0 (wpAny_seqItems hu rfl ?_)));show wpAny _ _ (Builtin.SmallTypes.ownedTupleIsFree (.ref z) >>= _) _ _ _;refine z0 ?_;unfold Builtin.SmallTypes.ownedTupleIsFree;refine z0 (y3 hz rfl (x:=.none) rfl (Zj ?_));simp only[if_true];refine z0 (wpAny_rule (z0 (y3 hz rfl (x:=.ref v) rfl ?_)));refine z0 (wpAny_setField_rec hz (by simp) fun q1 z1 b1=>?_)
 replace z1:IsZip q1 z u v .ellipsis:=z1
 refine z0 ?_;simp only[List.zipIdx_cons,List.zipIdx_nil,List.forIn_cons,List.forIn_nil];refine z0 (z0 (wpAny_onRaise ?_));show wpAny _ _ (Builtin.SmallTypes.nextOf (.ref i) >>= _) _ _ _;refine z0 (d1.done { s with heap:=q1 } _ _ (d1.frame _ _ _ h1 fun c hc o e=>b1.extBut c o (dq hc ap.zf) e) fun q2 e b2 he=>?_);obtain⟨oe,hoe,hce⟩:=he;have z2:IsZip q2 z u v .ellipsis:=b2 _ _ ap.iz.symm z1;have ez:e≠z:=fun x=>by subst x;rw[z2]at hoe;cases hoe;simp at hce
 exact wpAny_setField_rec z2 (by simp) fun q3 _ b3=>cont q3 e (fun c o c1 _ c3 _ x=>b3.extBut _ _ c1 (b2 _ _ c3 (b1.extBut _ _ c1 x))) ⟨oe,b3.extBut _ _ ez hoe,hce⟩
end
section
variable{X:Cx}{pins:List (Addr×Obj)}{σ:St}{H:Hp}{s:Shared}{h':Heap}{ch:List Addr}{t':Nat}
theorem Inv.turnH{H':Hp}(I:Inv X pins σ H s)(hch:∀b∈ch,bc X pins H b)(kp:∀b o,b∉ch->s.heap.get? b=some o->h'.get? b=some o)(up:∀b u,H b=some u->H' b=some u)(dn:∀b o,s.heap.get? b=some o->H b=none->H' b=none)(hok:HOk X.prog X.w H' h') :
  Inv X pins σ H' { s with heap:=h',toks:=t' }:=by
 refine I.step (g':=s.gens) (d':=s.drawn) (ch:=ch) (fun b hb=>?_) (fun b o _ _ hc e _=>kp b o hc e) (fun b o _ _ hc e _=>⟨o.slots,kp b o hc e⟩) (fun b o _ e n=>dn b o e n) (fun b o hc e=>⟨o,kp b o hc e⟩) (fun b xs e=>up _ _ e) (fun b o u e=>up _ _ e) (fun b ps e=>⟨#[],by rw[up _ _ e];simp⟩) (fun m hm=>?_) hok I.bare
 ·obtain⟨f0,f1,f2,f3,f4,f5⟩:=hch b hb;exact⟨f3,f1,f4,f5⟩
 ·obtain⟨o,es,ep,ho,r⟩:=hm;exact⟨o,es,ep,kp _ o (fun z=>(hch _ z).2.1 rfl) ho,r⟩
theorem pY(I:Inv X pins σ H s)(hch:∀b∈ch,bc X pins H b)(kp:∀b o,b∉ch->s.heap.get? b=some o->h'.get? b=some o):HOk X.prog X.w H h':=fun b u e=>by
 have nin:∀{c:Addr} {q:HO},H c=some q->c∉ch:=fun{c q} e z=>by rw[(hch c z).1]at e;cases e
 refine(I.hok b u e).stay (fun c v hc q=>kp c v ?_ q) (fun _ q=>q) fun _ _ q=>q;rcases hc with z|z
 ·rw[z];exact nin e
 ·exact nin z
theorem Inv.turnM(I:Inv X pins σ H s)(hch:∀b∈ch,bc X pins H b)(kp:∀b o,b∉ch->s.heap.get? b=some o->h'.get? b=some o):Inv X pins σ H { s with heap:=h',toks:=t' } :=
 I.turnH hch kp (fun _ _ e=>e) (fun _ _ _ n=>n) (pY I hch kp)
theorem Inv.turnT{xs:List V}{its:List Value}(I:Inv X pins σ H s)(hch:∀b∈ch,bc X pins H b)(kp:∀b o,b∉ch->s.heap.get? b=some o->h'.get? b=some o)(hp:IsTup h' s.heap.objs.size its.toArray)(rv:Vals xs its)(hz:xs.length<=sizeLine) :
  Inv X pins σ (upd H s.heap.objs.size (.tup xs)) { s with heap:=h',toks:=t' }:=by
 have fr:=I.hok.fresh (Zb s.heap.objs.size);have ne:∀{b:Addr} {u:HO},H b=some u->b≠s.heap.objs.size:=fun{b u} e=>ao e fr;have hk:=pY I hch kp;refine I.turnH hch kp (fun b u e=>by rw[ac (ne e)];exact e) (fun b o e n=>by rw[ac (Zt (Zf e))];exact n) fun b u e=>?_;by_cases hb:b=s.heap.objs.size
 ·subst hb;rw[aa]at e;cases e;exact⟨hz,its,rv,hp⟩
 ·rw[ac hb]at e;exact(hk b u e).stay (fun _ _ _ q=>q) (fun c q=>by rw[ac (ne q)];exact q) fun c ys q=>by rw[ac (ne q)];exact q
end
theorem Bk(n:Nat):[n+4,n+2,n+3,n,n+1].Nodup:=by simp
open PySem PySem.Spec PyProof.Rows
theorem wZ{J:It}{N n:Nat}{cap:List Nat}{g:TG}{tc:TT}{te:TE}{σ:St}{H0:Hp}{Q:VK}(keep:Nat->Bool)(f:Nat->V)(hz:N<=1000)(hgo:∀ i H,i<N->Same H0 H->J.go i H)(hst:∀ H,Same H0 H->J.stop N H)(ht:∀ i H x H',i<N->Same H0 H->J.yld i H x H'->∀ (A:VK) (B:Hp->Prop),(keep i=true->∀ H4,Same H H4->A (f i) H4)->(keep i=false->∀ H4,Same H H4->B H4) ->
   g x (bT n cap σ) H' fun σ2 H2=>tc σ2 H2 fun b H3=>if b=true then te σ2 H3 A else B H3)(hq:∀ p H,Same H0 H->H p=none->Q (.ref p) (upd H p (.lst (((List.range N).filter keep).map f)))):dY n cap g tc te σ J H0 Q:=by
 refine⟨fun i m ys H=>m=N-i/\i<=N/\Same H0 H/\ys=((List.range i).filter keep).map f,⟨N,by simp,ZB _,Same.refl _,rfl⟩,?_⟩;rintro i m ys H ⟨rfl,hi,sm,rfl⟩;by_cases hlt:i<N
 ·refine .inr ⟨hgo i H hlt sm,?_,fun x H' y=>?_⟩
  ·rw[Zi];have:=List.length_filter_le keep (List.range i);rw[List.length_range]at this;exact bq (by omega)
  ·refine ht i H x H' hlt sm y _ _ (fun k H4 s4=>⟨N-(i+1),by omega,rfl,hlt,sm.trans s4,?_⟩) (fun k H4 s4=>⟨N-(i+1),by omega,rfl,hlt,sm.trans s4,?_⟩)
   ·rw[List.range_succ,List.filter_append,ZQ];simp[k]
   ·rw[List.range_succ,List.filter_append,ZQ];simp[k]
 ·have e:i=N:=by omega
  subst e;exact .inl ⟨hst H sm,fun p hp=>hq p H sm hp⟩
inductive rCatS  (x:V)(y:V)(H:Hp)(Q:VK):Prop
 |mk (a b xs ys:_) (h0:x=.ref a) (h1:y=.ref b) (h2:H a=some (.tup xs)) (h3:H b=some (.tup ys)) (h4:xs.length+ys.length<=sizeLine) (h5:∀p H',Same H H'->H' p=some (.tup (xs++ys))->Q (.ref p) H'):rCatS  x y H Q
section
variable{X:Cx}
theorem pK{ns:List Int}{i:Nat}(h:i<ns.length):ns[i]=bj ns i:=by unfold bj;rw[Za h];rfl
variable{K:PySem.W.Frag}(hK:X.K=K)
include hK
theorem AA:QIx X (rIxL K):=by subst hK;exact aO
theorem eg:QIx X (rIxT K):=by subst hK;exact aE
theorem pF(hc:X.calm=true):QCall X (.builtin "all") (fun xs H Q=>∃(p:Addr) (bs:List Bool),xs=[.ref p]/\SqL K H p (bs.map V.bl)/\Q (.bl (bs.all id)) H):=by subst hK;exact yw hc
theorem AT{es:List Expr}{k n:Nat}{gs:TGs}{pos:Pos}(hc:X.calm=true)(h:QGs X es gs)(hn:(assignEach es X.env).length=n:=by rfl)(hst:(assignEach es X.env).findIdx? (·.1)=none:=by rfl):QG X (.Tuple es k pos) (mm K n gs):=by subst hK;exact oF hc h hn hst
omit hK
end
open PySem PySem.Spec PyProof.Rows PySem.W
section
variable{X:Cx}
theorem Ar{st:Stmt}:QS X st (fun _ _ _=>False):=⟨fun _ _ _ _ _ _ h=>h.elim⟩
def su:V->List V->Hp->VK->Prop:=fun x vs H Q=>∃l xs i y,x=.ref l/\vs=[.int i,y]/\H l=some (.lst xs)/\xs.length<sizeLine/\0<=i/\i<=xs.length/\Q .non (upd H l (.lst (xs.take i.toNat++y::xs.drop i.toNat)))
theorem vB:MtM X "list.insert" su:=by
 intro pins s σ H x vs v us Q I rx rv h;obtain⟨l,xs,i,y,rfl,rfl,hH,hz,i0,i1,q⟩:=h;cases rx;obtain⟨u1,u2,rfl,r1,r2⟩:=gz rv;obtain⟨t,rfl⟩:=r1;obtain⟨z,its,n,r,hl,e⟩:=I.lstM hH;have hL:sizeLine<2^62:=by decide
 have hfit:¬(!Builtin.List.listFitsIndex i)=true:=by rw[fitsIndex_both (by omega) (by omega)];exact Zn
 refine call_meets F.slot_list_insert ⟨_,e,rfl⟩ F.entry_list_insert (F.args_list_insert_3 _ _ _) (AutoSeq1.list_insert_list_int_val_1 l its.toArray n i t u2 hfit (by rw[Zg];omega)) ⟨e,?_⟩;refine⟨.non,_,I.lset (its':=its.take i.toNat++u2::its.drop i.toNat) hH e ?_ ((r.take i.toNat).append (.cons r2 (r.drop i.toNat))) ?_,rfl,q⟩
 ·have hk:(if i<0 then(i+(its.toArray.size:Int)).toNat else min i.toNat its.toArray.size)=i.toNat:=by rw[EM (by omega),Zg];omega
  dsimp only;rw[hk];apply Yp.mp;simp;rw[List.take_of_length_le (by simp)]
 ·simp only[Zs,Z2,Zq,List.length_drop];omega
variable{o e d:Expr}{to te td:TE}{apos cpos:Pos}
theorem Db(ho:QE X o to)(he:QE X e te)(hd:QE X d td)(hs:aA e=true:=by rfl)(hs2:aA d=true:=by rfl)(hbase:attributeBase o "insert" X.env (eval o X.env)=eval o X.env:=by rfl)(hline:(apos.endLine==cpos.line)=true:=by rfl) :
  QE X (.Call (.Attribute o "insert" apos) [e,d] [] cpos) (tBM X.K "list" su to (cA te (cA td dJ))):=by
 have h1:=aB (es:=[d]) (env:=X.env) hs;have h2:=aB (es:=[]) (env:=X.env) hs2;have h3:starEach ([]:List Expr) X.env=[]:=rfl;refine⟨jy PySem.F.plainAttrs_list PySem.F.slot_list_insert PySem.F.type_list_insert vB ho.h (pa he.h (pa hd.h fO hs2) hs) hbase ?_ hline h1 (by rw[h2,h3];rfl)⟩;rw[h1,h2,h3];rfl
end
section
variable{X:Cx}{pins:List (Addr×Obj)}{σ:St}{H:Hp}{s:Shared}{h':Heap}
theorem ic{P:Program}{w:World}{H:Hp}{h:Heap}{a:Addr}{o:HO}(x:ObjOk P w H h a o):∃ob,h.get? a=some ob:=by
 cases o with
 |lst xs =>obtain⟨_,_,_,_,e⟩:=x;exact⟨_,e⟩
 |tup xs =>obtain⟨_,_,_,ob,e,_⟩:=x;exact⟨ob,e⟩
 |dK kvs =>obtain⟨_,_,_,_,ob,_,_,e,_⟩:=x;exact⟨ob,e⟩
 |dT kvs =>obtain⟨_,_,_,_,ob,_,_,e,_⟩:=x;exact⟨ob,e⟩
 |set S n =>obtain⟨ob,_,_,_,e,_⟩:=x;exact⟨ob,e⟩
 |ins C dx fs =>obtain⟨_,_,_,e,_⟩:=x;exact⟨_,e⟩
 |own y=>exact x
 |xd fs =>obtain⟨_,⟨ob,_,_,e,_⟩,_⟩:=x;exact⟨ob,e⟩
 |rng lo hi =>obtain⟨_,_,_,e⟩:=x;exact⟨_,e⟩
 |frz ob u=>exact⟨ob,x.1⟩
 |tbl ps=>exact⟨_,x⟩
 |met f y=>exact⟨_,x⟩
 |ext φ=>exact x.2.1
theorem none_of(I:Inv X pins σ H s){a:Addr}(hg:s.heap.get? a=none):H a=none:=by
 cases q:H a with
 |none=>rfl
 |some u =>obtain⟨ob,e⟩:=ic (I.hok a u q);rw[hg]at e;cases e
theorem Inv.laidF{a:Addr}{o:HO}{t':Nat}(I:Inv X pins σ H s)(k:∀b u,b≠X.env.locals->s.heap.get? b=some u->h'.get? b=some u)(hn:∃m,s.heap.Ns X.env.locals m/\h'.Ns X.env.locals m)(hg:s.heap.get? a=none)(new:ObjOk X.prog X.w (upd H a o) h' a o):Inv X pins σ (upd H a o) { s with heap:=h',toks:=t' }:=by
 have fr:=none_of I hg;have ne:∀{b:Addr} {u:HO},H b=some u->b≠a:=fun{b u} e=>ao e fr;have lt:∀{b:Addr} {u:Obj},s.heap.get? b=some u->b≠a:=fun{b u} e z=>by rw[z,hg]at e;cases e
 have neL:∀{b:Addr} {u:HO},H b=some u->b≠X.env.locals:=fun{b u} e=>ao e I.free;refine I.step (g':=s.gens) (d':=s.drawn) (ch:=[]) (fun b hb=>by simp at hb) (fun b o hL _ _ e _=>k b o hL e) (fun b o hL _ _ e _=>⟨o.slots,k b o hL e⟩) (fun b o _ e n=>by rw[ac (lt e)];exact n) (fun b o _ e=>?_)
  (fun b xs e=>by rw[ac (ne e)];exact e) (fun b o u e=>by rw[ac (ne e)];exact e) (fun b ps e=>⟨#[],by rw[ac (ne e),e];simp⟩) (fun m' hm'=>?_) (fun b u e=>?_) I.bare
 ·by_cases hL:b=X.env.locals
  ·obtain⟨m,_,o',_,_,e',_⟩:=hn;exact⟨o',by rw[hL];exact e'⟩
  ·exact⟨o,k b o hL e⟩
 ·obtain⟨m,h1,h2⟩:=hn;rw[hm'.eq_nsMap,<-h1.eq_nsMap];exact h2
 ·by_cases hb:b=a
  ·subst hb;rw[aa]at e;cases e;exact new
  ·rw[ac hb]at e;refine(I.hok b u e).stay (fun c v hc q=>k c v ?_ q) (fun c q=>by rw[ac (ne q)];exact q) fun c ys q=>by rw[ac (ne q)];exact q
   rcases hc with z|z
   ·rw[z];exact neL e
   ·exact neL z
def qK(base h:Heap)(L:Addr):List (Addr×Obj):=(List.range h.objs.size).filterMap fun b=>if b=L\/(base.get? b).isSome=true then none else(h.get? b).map fun o=>(b,o)
theorem gI(base h:Heap)(L:Addr):News base L h (qK base h L):=fun p hp=>by
 obtain⟨b,_,e⟩:=List.mem_filterMap.mp hp;by_cases c:b=L\/(base.get? b).isSome=true
 ·rw[EN c]at e;cases e
 ·rw[EM c]at e;cases q:h.get? b with
  |none=>rw[q]at e;cases e
  |some o =>
   rw[q]at e;cases e;refine⟨q,fun z=>c (.inl z),?_⟩;cases z:base.get? b with
   |none=>rfl
   |some u=>exact absurd (.inr (by rw[z];rfl)) c
theorem dU{base h:Heap}{L b:Addr}{o:Obj}(e:h.get? b=some o)(hL:b≠L)(hb:base.get? b=none):(b,o)∈qK base h L:=by refine List.mem_filterMap.mpr ⟨b,List.mem_range.mpr (Zf e),?_⟩;rw[EM (by rintro(z|z);exact hL z;rw[hb]at z;cases z),e];rfl
end
theorem jT(ns:List Int):SeqAt.shaped (.tuple (ns.map .int))=true:=by
 unfold SeqAt.shaped;rw[Zz];refine⟨?_,?_⟩
 ·simp only[PyData.canLay0];exact PyProof.Rows.canLayAll_ints ns
 ·refine decide_eq_true ?_;simp only[PyData.depth];rw[PyProof.Rows.depthAll_ints ns];decide
theorem jL:∀(ns ms:List Int),PyData.eqvAll (ns.map .int) (ms.map .int)=decide (ns=ms)
 | [],[]=>by simp[PyData.eqvAll]
 | [],_::_=>by simp[PyData.eqvAll]
 |_::_,[]=>by simp[PyData.eqvAll]
 |x::ns,y::ms=>by simp only[ZS,PyData.eqvAll,PyData.eqv];rw[jL ns ms,Z6];simp
theorem xi(ns ms:List Int):PyData.eqv (.tuple (ns.map .int)) (.tuple (ms.map .int))=decide (ns=ms):=by simp only[PyData.eqv];exact jL ns ms
theorem uN{H:Hp}{a:Addr}{ns:List Int}(h:H a=some (.tup (ns.map V.int))):Dt H (.tuple (ns.map .int)) (.ref a):=by simp only[Dt];exact⟨a,_,rfl,Rd.of h,rR ns⟩
section
variable{X:Cx}
theorem qv(hu:X.A.units+64<cLine):QOp X (compareOp .Eq) (fun x y H Q=>∃(a b:Addr) (ns ms:List Int),x=.ref a/\y=.ref b/\H a=some (.tup (ns.map V.int))/\H b=some (.tup (ms.map V.int))/\Q (.bl (decide (ns=ms))) H):=by refine⟨?_⟩;intro pins s σ H x y v u Q I rx ry h;obtain⟨a,b,ns,ms,rfl,rfl,ha,hb,q⟩:=h;exact vO hu pins s σ H _ _ v u Q I rx ry ⟨_,_,uN ha,uN hb,jT ns,jT ms,by rw[xi];exact q⟩
end
theorem aH{c A B:Prop}[Decidable c](h:c)(hA:A):if decide c=true then A else B:=by rw[decide_eq_true h];exact bG hA
theorem cX{c A B:Prop}[Decidable c](h1:c->A)(h2:¬c->B):if decide c=true then A else B:=by
 by_cases h:c
 ·exact aH h (h1 h)
 ·rw[decide_eq_false h];exact aJ (h2 h)
open PySem PySem.Spec PyProof.Rows
structure CompOk1(X:Cx)(scope:Scope)(cx:Str)(cap:List Nat)(capN:List Str):Prop where
 kind:scope.kind=.function
 names:∀x∈scope.names,x.2=.local->scope.names.lookup x.1=some .local
 onecell:∀y∈scope.names,y.2=.cell->y.1=cx
 own:scope.names.lookup cx=some .cell
 cf:∀(n:Nat) (acc:List (Str×Addr)),cellsFrom n scope.names acc=(cx,n)::acc
 pc:∀h:Heap,pushCells h scope.names=h.push { cls:=.type "cell",data:=.cell none }
 frees:(scope.names.all fun y=>!(y.2==NameKind.free) ||(X.env.kindOf y.1==some .cell ||X.env.kindOf y.1==some .free))=true
 cap:CapOk X scope cap capN
open PySem PySem.Spec PyProof.Rows PySem.W
def di(h:Heap)(e:Addr)(dc:Option Addr):Prop:=∃o,h.get? e=some o/\o.dict=dc
theorem mj(f:Array Value->Array Value)(o:Obj):(Obj.mapFields f o).dict=o.dict:=by unfold Obj.mapFields;split<;>rfl
section
variable{M:Model}{A:Around}{E:Value->Shared->Prop}{s:Shared}{base:Heap}{env:Env}{outer l:List Env}{L e:Addr}
theorem jO{oe:Obj}{vs:Array Value}{hd0 a0:Value}{nx:Bool}{Q:Unit->Shared->Prop}(fr:A.frames=some (env::outer))(ff:s.heap.FunFrames base (env::outer))(ef:env.frame=some L)(he:s.heap.get? e=some oe)(kb:base.StaysIn s.heap)(en:base.get? e=none)(dt:oe.data=.fields vs)(sz:1<vs.size)(v0:vs[0]?=some a0)(k:∀h',Heap.NotedW base (env::outer) e oe.cls a0 (rawInt L) s.heap h'->di h' e oe.dict->Q () { s with heap:=h' }) :
  wpAny M A (do let a ←frameOf env;let pl ←entryPlaceOf L nx;let b ←EntryCells.newEntry hd0 a .none (rawInt L) .none pl;setField (.ref e) 1 b) Q E s:=by
 have nf:e∉(env::outer).filterMap (·.frame):=fun hm=>by obtain⟨_,o,ho,hn⟩:=ff.mem hm;cases Zw (he.symm.trans ho);exact hn vs dt
 refine z0 (wpAny_frameOf_fun fr ff ef fun h1 k1=>z0 (wpAny_entryPlaceOf fun pl hpl=>?_));unfold EntryCells.newEntry newFields;refine z0 (wpAny_newObj_type ?_ (hpl.sizeOk5 _ _ _ _ _));have t3:([hd0,.ref L,.none,rawInt L,.none]++(if pl.isEmpty then List.replicate 6 Value.none else pl)).toArray[3]?=some (rawInt L):=by simp
 generalize([hd0,.ref L,.none,rawInt L,.none]++(if pl.isEmpty then List.replicate 6 Value.none else pl)).toArray=ts at t3 ⊢;have g1:h1.get? e=some oe:=(k1.2.1 e nf).trans he;have st1:base.StaysIn h1:=fun b o hb=>(k1.2.1 b fun hm=>nomatch(hb.symm.trans (ff.mem hm).1)).trans (kb b o hb);have gp:(h1.push { cls:=.type "traceback",data:=.fields ts }).get? e=some oe:=z9 _ g1;have ne:h1.objs.size≠e:=ZV (Zf g1);have dm:=Obj.data_mapFields dt (·.setIfInBounds 1 (Value.ref h1.objs.size));have self:=Z5 (Obj.mapFields (·.setIfInBounds 1 (Value.ref h1.objs.size))) gp (Obj.isFreed_of_fields dm);have atT:=(ZK (h1.push { cls:=.type "traceback",data:=.fields ts }) (Obj.mapFields (·.setIfInBounds 1 (Value.ref h1.objs.size))) (ZW ne)).trans (Zh h1 rfl);have oth:∀b o,b≠e->h1.get? b=some o->((h1.push { cls:=.type "traceback",data:=.fields ts }).update e (Obj.mapFields (·.setIfInBounds 1 (Value.ref h1.objs.size)))).get? b=some o:=fun b o n q=>(ZK _ _ (ZW n)).trans (z9 _ q);have nrec:∀b o,s.heap.get? b=some o->(∀ws,o.data≠.fields ws)->b≠e:=fun b o q hn z=>by subst z;cases Zw (he.symm.trans q);exact hn vs dt
 refine wpAny_setField gp dt sz (k _ ⟨fun b o q=>oth b o (fun z=>nomatch((z▸q).symm.trans en)) (st1 b o q),ff.of_keeps fun b o q hn=>?_,?_,fun b o q hn=>?_⟩ ⟨_,self,mj _ _⟩)
 ·obtain⟨sl,hs⟩:=k1.2.2 b o q;exact⟨_,oth b _ (nrec b o q hn) hs,rfl⟩
 ·exact⟨_,_,h1.objs.size,_,ts,self,⟨Obj.cls_mapFields _ _,by rw[Array.getElem?_setIfInBounds_ne (by decide)];exact v0⟩,dm,by simp[sz],st1.fresh,ne,atT,rfl,t3⟩
 ·obtain⟨sl,hs⟩:=k1.2.2 b o q;exact⟨sl,oth b _ (nrec b o q hn) hs⟩
theorem hU{cls a0 fl:Value}{dc:Option Addr}{Q:Unit->Shared->Prop}(kb:base.StaysIn s.heap)(ff:s.heap.FunFrames base l)(tr:s.heap.TracedAtW base e cls a0 fl)(dd:di s.heap e dc)(k:∀h',base.StaysIn h'->h'.FunFrames base l->h'.TracedW base e cls a0->s.heap.UpToSlots h'->di h' e dc->Q () { s with heap:=h' }):wpAny M A (setFlight (.ref e) none) Q E s:=by
 obtain⟨oe,vs,T,oT,ts,he,hc,dt,v1,nT,ne,hT,dT,t3⟩:=tr;have z3:3<ts.size:=(Array.getElem?_eq_some_iff.mp t3).1;have oth:∀b,b≠T->(s.heap.update T (Obj.mapFields (·.setIfInBounds 3 ((none:Option Addr).elim Value.none fun f=>rawInt f)))).get? b=s.heap.get? b:=fun b n=>ZK _ _ (ZW n);have nrec:∀b o,s.heap.get? b=some o->(∀ws,o.data≠.fields ws)->b≠T:=fun b o q hn z=>by subst z;cases Zw (hT.symm.trans q);exact hn ts dT
 unfold setFlight;refine z0 (y3 he dt v1 ?_);rw[EN (by simp:(Value.ref T != Value.none)=true)];refine wpAny_setField hT dT z3 (k _ (fun b o q=>(oth b fun z=>nomatch((z▸q).symm.trans nT)).trans (kb b o q)) (ff.of_keeps fun b o q hn=>⟨o,(oth b (nrec b o q hn)).trans q,rfl⟩) ?_ (fun b o q hn=>⟨o.slots,(oth b (nrec b o q hn)).trans q⟩) ?_)
 ·exact⟨oe,vs,T,_,_,(oth e (ZW ne)).trans he,hc,dt,v1,nT,ne,Z5 _ hT (Obj.isFreed_of_fields (Obj.data_mapFields dT _)),Obj.data_mapFields dT _,by simp[z3]⟩
 ·obtain⟨o,q,d⟩:=dd;exact⟨o,(oth e (ZW ne)).trans q,d⟩
theorem lB{cls a0:Value}{dc:Option Addr}{Q:Unit->Shared->Prop}(fr:A.frames=some (env::outer))(ef:env.frame=some L)(fl:Heap.FlyingW base (env::outer) e cls a0 s.heap)(dd:di s.heap e dc)(k:∀h',Heap.HeldW base (env::outer) e cls a0 L h'->s.heap.UpToSlots h'->di h' e dc->Q () { s with heap:=h' }):wpAny M A (noteFrame (.ref e) env) Q E s:=by
 obtain⟨f1,f2,f3,oe,vs,T,oT,ts,he,hc,dt,v1,nT,ne,hT,dT,t3⟩:=fl;obtain⟨o2,q2,d2⟩:=dd;cases Zw (he.symm.trans q2);have z3:3<ts.size:=(Array.getElem?_eq_some_iff.mp t3).1;unfold noteFrame;simp only[ef];refine z0 (y3 he dt v1 ?_);rw[EN (by simp:(Value.ref T != Value.none)=true)];refine z0 (y3 hT dT t3 ?_);rw[EM (by simp[rawInt]:¬(Value.none==rawInt L)=true)];refine z0 (wpAny_setField hT dT z3 ?_);have oth:∀b,b≠T->(s.heap.update T (Obj.mapFields (·.setIfInBounds 3 Value.none))).get? b=s.heap.get? b:=fun b n=>ZK _ _ (ZW n);have nrec:∀b o,s.heap.get? b=some o->(∀ws,o.data≠.fields ws)->b≠T:=fun b o q hn z=>by subst z;cases Zw (hT.symm.trans q);exact hn ts dT
 have sz:1<vs.size:=(Array.getElem?_eq_some_iff.mp v1).1;refine jO (s:={ s with heap:=s.heap.update T (Obj.mapFields (·.setIfInBounds 3 Value.none)) }) fr (f3.of_keeps fun b o q hn=>⟨o,(oth b (nrec b o q hn)).trans q,rfl⟩) ef ((oth e (ZW ne)).trans he) (fun b o q=>(oth b fun z=>nomatch((z▸q).symm.trans nT)).trans (f1 b o q)) f2 dt sz hc.2 fun h' nt dd=>?_;obtain⟨n1,n2,n3,n4⟩:=nt;rw[hc.1]at n3;rw[d2]at dd;exact k h' ⟨n1,f2,n2,n3⟩ (fun b o q hn=>n4 b o ((oth b (nrec b o q hn)).trans q) hn) dd
end
open PySem PySem.Spec PyProof.Rows PySem.W
def pD:Stmt->List Stmt
 |.For _ _ body _ _=>body
 |.While _ body _ _=>body
 |_=>[]
def Its(x:Str):It:=⟨fun i _=>i<x.cps.size,fun i H v H'=>H'=H/\∃c,x.cps[i]?=some c/\v=.str ⟨#[c]⟩,fun i _=>x.cps.size<=i⟩
theorem yp{P:Program}{w:World}{K:PySem.W.Frag}{tg:Expr}(it:Addr)(x:Str)(t:Tok):Turn P w K tg (Its x) [it] it (fun i h=>h.IsStrIter it "str_ascii_iterator" x t i) where
 mem:=Zd.mpr rfl
 obj:=fun i h st b hb=>by cases Zd.mp hb;obtain⟨o,e,c,d⟩:=st;exact⟨o,e,fun v z=>nomatch d.symm.trans z⟩
 keep:=fun i h h' st k=>by obtain⟨o,ho,r⟩:=st;exact⟨o,k it (Zd.mpr rfl) o ho,r⟩
 item:=by intro X eP ew eK hc i pins s σ H E I hf st hg;cases eP;cases ew;cases eK;have hi:i<x.cps.size:=hg;have fo:=hf it (Zd.mpr rfl);refine(Walks.strAscii (prog:=X.prog) (w:=X.w) (I.ok.hd hc) it x t).item i s _ _ hi st fun v h' tk hv st' kk=>?_;obtain⟨c,u,hc',rfl⟩:=hv;have I1:Inv X pins σ H { s with heap:=h',toks:=tk }:=I.turned (fun b o hb e=>kk b o (fun z=>hb (Zd.mp z)) e) fo.1 fo.2.1 fo.2.2.2.1 fo.2.2.2.2.1 fo.2.2.2.2.2;obtain⟨o,e,c1,d1⟩:=id st';exact⟨_,rfl,jq (s:={ s with heap:=h',toks:=tk }) e c1 d1 (by decide) ⟨.str ⟨#[c]⟩,H,I1,⟨u,rfl⟩,⟨rfl,c,hc',rfl⟩,st',fun b hb=>(hf b hb).1⟩⟩
 done:=by intro X eP ew eK hc i pins s σ H E I hf st hg;cases eP;cases ew;cases eK;have hi:x.cps.size<=i:=hg;have fo:=hf it (Zd.mpr rfl);exact wpAny_pyNext_ascii_end (I.ok.hd hc) st (by simp;omega) fun h' eb=>⟨rfl,I.turned (t':=s.toks) (fun b o hb e=>eb b o hb e) fo.1 fo.2.1 fo.2.2.2.1 fo.2.2.2.2.1 fo.2.2.2.2.2⟩
 self:=fun _ _ _ _ _ st h=>wpAny_pyIter_striter_ascii st h
def Ds(tl:TE):TI:=fun σ H R=>tl σ H fun v H1=>∃x,v=.str x/\x.cps.all (·<128)=true/\R (Its x) H1
section
variable{X:Cx}{tg l:Expr}{tl:TE}
theorem CL(hl:QE X l tl):QI X tg l (Ds tl):=by refine⟨?_⟩;intro pins s σ H R I h;refine thn (hl.h pins s σ H _ I h) fun v s1 hz9=>?_;obtain⟨y,H1,I1,r1,q1⟩:=hz9;obtain⟨x,rfl,ha,q⟩:=q1;obtain⟨t,rfl⟩:=r1;refine wpAny_pyIter_ascii ha ⟨s1.heap.objs.size,[s1.heap.objs.size],_,_,H1,rfl,I1.kept (t':=s1.toks) (fun b o e=>z9 _ e),yp _ x t,⟨_,Zh _ rfl,rfl,rfl⟩,fun b hb=>?_,q⟩;cases Zd.mp hb;exact I1.fpOk (Zb _) (I1.hok.fresh (Zb _))
end
theorem xb{x:Str}{n:Nat}{cap:List Nat}{te:TE}{σ:St}{H0:Hp}{Q:VK}(f:Nat->V)(hz:x.cps.size<=1000)(he:∀i c H,x.cps[i]?=some c->Same H0 H->∀R:VK,(∀H',Same H H'->R (f i) H')->te ((bT n cap σ).set 0 (some (.str ⟨#[c]⟩))) H R)(hq:∀p H,Same H0 H->H p=none->Q (.ref p) (upd H p (.lst ((List.range x.cps.size).map f)))):dY n cap (bV 0) fv te σ (Its x) H0 Q:=by
 refine iE (N:=x.cps.size) (fun i=>.str ⟨#[x.cps.getD i 0]⟩) f hz (fun i H hi sm=>hi) (fun H sm=>Zb _) (fun i H v H' hi sm y=>?_) (fun i H hi sm R k=>?_) hq
 ·obtain⟨y1,c,hc,rfl⟩:=y;refine⟨y1,?_⟩;simp[ZH,hc]
 ·have e:x.cps[i]?=some x.cps[i]:=by simp[hi]
  have:=he i _ H e sm R k;simpa[ZH,e]using this
section
variable{X:Cx}
theorem uD:QCall X (.builtin "len") (fun xs H Q=>∃x:Str,xs=[.str x]/\x.length<=1000/\Q (.int (x.length:Int)) H):=by refine⟨?_⟩;intro pins s σ H xs us Q I r h;obtain⟨x,rfl,hz,q⟩:=h;obtain⟨u,rfl,rx⟩:=bX r;obtain⟨t,rfl⟩:=rx;exact PyProof.Rows.len_str (by omega) ⟨.int x.length,H,I.tok _,⟨_,rfl⟩,q⟩
end
theorem xl{P:Program}{w:World}{K:PySem.W.Frag}{mg:Str->Option Value}{base:Heap}{k:Nat}{f:Addr}{fd:FuncData}{ps:List Str}:FnOk P w K mg base CX0 k f fd ps (fun _ _ _ _=>False):=⟨fun _ _ _ _ h=>h.elim,fun _ _ _ _ _ _ _ _ _ _ _ _ _ h=>h.elim⟩
inductive TV where
 |flat (v:V)
 |tup (xs:List V)
def oW:V->Value->Bool
 |.non,.none=>true
 |.bl b,.bool c=>b==c
 |.int i,.int j _=>i==j
 |.str x,.str y _=>x==y
 |_,_=>false
theorem nI:∀{v:V} {u:Value},oW v u=true->RelV v u:=by
 intro v u h;unfold oW at h;split at h
 ·exact rfl
 ·obtain rfl:=ZI.mp h;exact rfl
 ·obtain rfl:=ZI.mp h;exact⟨_,rfl⟩
 ·obtain rfl:=ZI.mp h;exact⟨_,rfl⟩
 ·cases h
def qY:List V->List Value->Bool
 | [],[]=>true
 |v::vs,u::us=>oW v u&&qY vs us
 |_,_=>false
theorem jU:∀{vs:List V} {us:List Value},qY vs us=true->Vals vs us
 | [],[],_=>.nil
 |_::_,_::_,h=>by have h:=(Zz _ _).mp h;exact .cons (nI h.1) (jU h.2)
 | [],_::_,h=>nomatch h
 |_::_,[],h=>nomatch h
def lX(K:PySem.W.Frag):TV->Value->Bool
 |.flat v,u=>oW v u
 | .tup xs,.ref a=>(match K.lookup a with
  |some o=>o.cls == .type "tuple"&&(match o.data with|.seq its _=>decide (its.size<=1000)&&qY xs its.toList|_=>false)
  | none=>false)
 |_,_=>false
def AG(K:PySem.W.Frag):TV->Value->Prop
 |.flat v,u=>RelV v u
 |.tup xs,u=>∃a,u=.ref a/\∀H,SqT K H a xs
theorem Dg{K:PySem.W.Frag}(d:TV)(u:Value)(h:lX K d u=true):AG K d u:=by
 unfold lX at h;split at h
 ·exact nI h
 ·rename_i xs a;split at h
  ·rename_i o ho;obtain⟨e1,e2⟩:=(Zz _ _).mp h;split at e2
   ·rename_i its n hd;obtain⟨e3,e4⟩:=(Zz _ _).mp e2;exact⟨a,rfl,fun H=>.inr ⟨o,its,n,ho,ZI.mp e1,hd,bU (of_decide_eq_true e3),jU e4⟩⟩
   ·cases e2
  ·cases h
 ·cases h
structure Tab(K:PySem.W.Frag)(a:Addr)(D:List (Str×TV)):Prop where
 look:KTD.tabLook (lX K) (fun b=>K.lookup b) a D=true
theorem Tab.at{K:PySem.W.Frag}{a:Addr}{D:List (Str×TV)}(T:Tab K a D){h:Heap}(X:K.In h):KTD.TabOf (AG K) h a D:=KTD.tab_of_look Dg (fun b o e=>X b o e) T.look
section
variable{prog:Program}{w:World}{A:Around}{E:Value->Shared->Prop}{s:Shared}{d:Addr}{o:Obj}{es:Array DictEntry}{ep:Nat}{x:Str}{tx:Tok}
theorem sG{Q:Option Value->Shared->Prop}(ho:s.heap.get? d=some o)(hd:o.data=.dict es ep)(hall:(es.all fun e=>isExactStrKey e.key)=true)(h:Q ((es.toList.find? fun e=>e.key.isStr x).map (·.val)) { s with toks:=s.toks+1 }) :
  wpAny (model prog w) A (dictGet d (.str x tx)) Q E s:=by
 unfold dictGet;(try with_reducible (refine Z0 ?_))
 refine z0 (wpAny_pyHash_str (z0 (KTD.kt_dictFind_strs (s:={ s with toks:=s.toks+1 }) ho hd hall ?_)));have hq:Q (findBy (fun y v=>v.isStr y) es x) { s with toks:=s.toks+1 }:=by
  have hf:findBy (fun y v=>v.isStr y) es x=(es.toList.find? fun e=>e.key.isStr x).map (·.val):=by obtain⟨l⟩:=es;simp[findBy]
  rw[hf];exact h
 rw[findBy_of_findIdx?]at hq;cases hi:es.findIdx? fun e=>e.key.isStr x<;>rw[hi]at hq
 ·exact Zj hq
 ·exact z0 (wpAny_dictEntries (s:={ s with toks:=s.toks+1 }) ho hd (Zj hq))
theorem Cl{Q:Value->Shared->Prop}(sy:(d==sysModules)=false)(ex:o.ExactDict)(ho:s.heap.get? d=some o)(hd:o.data=.dict es ep)(hall:(es.all fun e=>isExactStrKey e.key)=true)(h:Q (.bool ((es.toList.find? fun e=>e.key.isStr x).map (·.val)).isSome) { s with toks:=s.toks+1 }):wpAny (model prog w) A (compareOp .In (.str x tx) (.ref d)) Q E s:=by
 have T:s.TypeIs (.ref d) "dict":=⟨o,ho,ex.1⟩
 show wpAny _ _ (do return .bool (←contains (.ref d) (.str x tx))) Q E s;refine z0 ?_;unfold contains;(try with_reducible (refine Z0 ?_))
 refine z0 (wpAny_specialOf T slot_dict_contains.lookup ?_);show wpAny _ _ (if(some (Value.builtin "dict.__contains__")==some Value.none)=true then _ else _) _ _ _;rw[EM (by rw[beq_builtin_none];decide)];refine z0 (wpAny_callSpecialUnlessNone?_slot (name:=Str.ofString "__contains__") T slot_dict_contains (wpAny_call_entry slot_dict_contains T entry_dict_contains ?_ (args_dict_contains _ _)));show wpAny _ _ (dictGet d (.str x tx) >>= _) _ _ _;refine z0 (sG ho hd hall ?_);cases hv:(es.toList.find? fun e=>e.key.isStr x).map (·.val)with
 |some v =>rw[hv]at h;show wpAny _ _ (ret (.bool true)) _ _ _;exact Zj ⟨_,rfl,ZU (Zj h)⟩
 |none =>rw[hv]at h;show wpAny _ _ (Builtin.Dict.pendingKey? d (.str x tx) >>= _) _ _ _;exact z0 (wpAny_pendingKey_other sy (Zj ⟨_,rfl,ZU (Zj h)⟩))
theorem ym{Q:Value->Shared->Prop}{v:Value}(ex:o.ExactDict)(ho:s.heap.get? d=some o)(hd:o.data=.dict es ep)(hall:(es.all fun e=>isExactStrKey e.key)=true)(hv:(es.toList.find? fun e=>e.key.isStr x).map (·.val)=some v)(h:Q v { s with toks:=s.toks+1 }):wpAny (model prog w) A (getItem (.ref d) (.str x tx)) Q E s:=by
 have T:s.TypeIs (.ref d) "dict":=⟨o,ho,ex.1⟩
 unfold getItem;(try with_reducible (refine Z0 ?_))
 refine z0 (wpAny_sequenceKey T (by decide) (z0 (wpAny_callSpecial?_slot (name:=Str.ofString "__getitem__") T slot_dict_getitem (wpAny_call_entry slot_dict_getitem T entry_dict_getitem ?_ (args_dict_getitem _ _)))));show wpAny _ _ (dictGet d (.str x tx) >>= _) _ _ _;refine z0 (sG ho hd hall ?_);rw[hv];exact Zj ⟨v,rfl,Zj h⟩
end
section
variable{X:Cx}
def B2(K:PySem.W.Frag):R2:=fun x y H Q=>∃a k D,x=.str k/\y=.ref a/\Tab K a D/\Q (.bl (KTD.datumAt k D).isSome) H
theorem zE:QOp X (compareOp .In) (B2 X.K):=by
 refine⟨?_⟩;intro pins s σ H x y v u Q I rx ry h;obtain⟨a,k,D,rfl,rfl,T,q⟩:=h;obtain⟨t,rfl⟩:=rx;cases ry;obtain⟨sy,o,es,ep,ho,ex,hd,hr⟩:=T.at I.kIn;refine Cl sy ex ho hd (by obtain⟨l⟩:=es;simpa using hr.exact) ⟨.bl (KTD.datumAt k D).isSome,H,I.tok _,?_,q⟩;cases e:KTD.datumAt k D with
 |none=>rw[hr.find_none e];rfl
 |some d=>obtain⟨v,hv,_⟩:=hr.find_some e;rw[hv];rfl
def B3(K:PySem.W.Frag):R2:=fun x y H Q=>∃a k D d,x=.ref a/\y=.str k/\Tab K a D/\KTD.datumAt k D=some d/\(match d with|.flat v=>Q v H|.tup xs=>∀t,(∀H',SqT K H' t xs)->Q (.ref t) H)
theorem Dk:QIx X (B3 X.K):=by
 refine⟨?_⟩;intro value slice pins s σ H x y v u Q I rx ry h hs;obtain⟨a,k,D,d,rfl,rfl,T,hk,q⟩:=h;obtain⟨t,rfl⟩:=ry;cases rx;obtain⟨sy,o,es,ep,ho,ex,hd,hr⟩:=T.at I.kIn;obtain⟨v,hv,ok⟩:=hr.find_some hk;have fin:EP X pins σ Q v { s with toks:=s.toks+1 }:=by
  cases d with
  |flat z=>exact⟨z,H,I.tok _,ok,q⟩
  |tup xs =>obtain⟨t,rfl,e⟩:=ok;exact⟨.ref t,H,I.tok _,rfl,q t e⟩
 exact subscriptTail_builtinR (x:=v) (⟨o,ho,ex.1⟩:s.TypeIs (.ref a) "dict") slot_dict_getitem.lookup (ym (Q:=fun r s'=>r=v/\EP X pins σ Q r s') ex ho hd (by obtain⟨l⟩:=es;simpa using hr.exact) hv ⟨rfl,fin⟩) hs
theorem xT{x:Str}{a:Addr}{pos:Pos}(hm:X.mg x=some (.ref a))(hg:Gl X x:=by rfl)(hd:(x==("__debug__":Str))=false:=by decide):QE X (.Name x pos) (tC (.ref a)):=⟨mG hg hm rfl hd⟩
end
open PySem PySem.Spec PyProof.Rows PySem.W
def CXr(P:Program)(w:World):CXT:=fun outer H s E e s' =>
 ∃(ea t:Addr) (C:Value) (vs:List Value) (B:Heap) (H':Hp) (dc:Option Addr),e=.ref ea/\s'.os=s.os/\AllBare s'.gens/\Un (frs outer) [] H H' s.heap s'.heap/\HOk P w H' s'.heap /\
  Heap.FlyingW B outer ea C (.ref t) s'.heap/\s'.heap.TupAt t vs/\B.get? t=none/\(∀b o,b∉frs outer->((∃u,H' b=some u)\/∃o0,s.heap.get? b=some o0)->s'.heap.get? b=some o->B.get? b=some o)/\di s'.heap ea dc/\E C dc H'
structure ExCls(K:PySem.W.Frag)(C:Addr):Prop where
 cls:∀h,K.In h->∃nm q N bs bm hdct sn sub ab col dd k0 k1 k2 k3 k5 mN,h.get? C=some (excClassObj nm q C N bs bm hdct sn sub ab col dd k0 k1 k2 k3 k5 "ValueError.__new__")/\h.Ns N mN/\mN "__init__" = none/\bm.contains (.type "BaseException")=true /\
  OwnTail h [.type "ValueError",.type "Exception",.type "BaseException",.type "object"] bm
open PySem PySem.Spec PyProof.Rows PySem.W
theorem Fun.okX{P:Program}{w:World}{K:PySem.W.Frag}{mg:Str->Option Value}{base:Heap}{x qual:Str}{st:Stmt}{f:Addr}{fd:FuncData}{N ps:List Str}{k:Nat}{sp:Sp}(F:Fun K x qual st f fd)(S:FnScope N ps (ai st))(len:∀ vs H Q E,sp vs H Q E->vs.length=ps.length)(hb:∀ (cdv:Value) (A:Around) (outer:List Env) (s:Shared) (H:Hp) (vs:List V) (Q:VK) (E:XK),Room k (A.deeper (envOfC qual (ai st) s.heap.objs.size f cdv))->sp vs H Q E ->
   ∃ t,QB (cH (CXr P w) P w K mg base N qual (ai st) f cdv A outer s H E) (aR st) t/\t { nx:=fun _ H'=>Q .non H',rt:=Q } (start N vs) H):FnOk P w K mg base (CXr P w) (k+1) f fd ps sp:=by
 obtain⟨oc,od,kV,doc,pm,an,cdv,ct,osl,rfl,lk,hcd⟩:=F.ex;exact sX lk hcd S len fun A outer s H vs Q E hr hsp=>let⟨t,h,q⟩:=hb cdv A outer s H vs Q E hr hsp;⟨t,h.h,q⟩
structure FnX(P:Program)(w:World)(K:PySem.W.Frag)(mg:Str->Option Value)(base:Heap)(k:Nat)(x:Str)(ps:List Str)(sp:Sp):Prop where
 ex:∃f fd,FnOk P w K mg base (CXr P w) k f fd ps sp/\mg x=some (.ref f)/\PySem.W.keepIn K (.ref f)=true/\Binds K fd ps []
def XP(X:Cx)(pins:List (Addr×Obj))(σ:St)(E:XK)(e:Value)(s':Shared):Prop:=∃s0 H0,Inv X pins σ H0 s0/\CXr X.prog X.w X.stack H0 s0 E e s'
abbrev TX:=St->Hp->VK->XK->Prop
structure QX(X:Cx)(e:Expr)(t:TX):Prop where
 h:∀(pins:List (Addr×Obj)) (s:Shared) (σ:St) (H:Hp) (Q:VK) (E:XK),Inv X pins σ H s->t σ H Q E->wpAny (model X.prog X.w) X.A (eval e X.env) (EP X pins σ Q) (XP X pins σ E) s
abbrev TSX:=Ends->St->Hp->XK->Prop
structure QSX(X:Cx)(st:Stmt)(t:TSX):Prop where
 h:∀(pins:List (Addr×Obj)) (s:Shared) (σ:St) (H:Hp) (D:Ends) (E:XK),Inv X pins σ H s->t D σ H E->wpAny (model X.prog X.w) X.A (exec st X.env) (SP X pins D) (XP X pins σ E) s
section
variable{X:Cx}{e:Expr}{tx:TX}{pos pos':Pos}{x:Str}
theorem Ax(he:QX X e tx)(hs:swapsWith e none pos.line X.env=pure false:=by rfl):QSX X (.Expr e pos) (fun D σ H E=>tx σ H (fun _ H1=>D.nx σ H1) E):=by refine⟨?_⟩;intro pins s σ H D E I h;exact wpAny_Expr_any (thn (he.h pins s σ H _ E I h) fun v s1 ⟨y,H1,I1,r1,q1⟩=>⟨σ,H1,I1,q1⟩) I.quiet hs
end
structure Fl(X:Cx)(H0 H':Hp)(s0 s':Shared)(B:Heap):Prop where
 os:s'.os=s0.os
 bare:AllBare s'.gens
 un:Un (frs X.stack) [] H0 H' s0.heap s'.heap
 hok:HOk X.prog X.w H' s'.heap
 kb:∀b o,b∉frs X.stack->((∃u,H' b=some u)\/∃o0,s0.heap.get? b=some o0)->s'.heap.get? b=some o->B.get? b=some o
section
variable{X:Cx}{pins:List (Addr×Obj)}{σ:St}{H0 H':Hp}{s0 s':Shared}{B h':Heap}
theorem Fl.inv(F:Fl X H0 H' s0 s' B)(I:Inv X pins σ H0 s0):Inv X pins σ H' s':=I.call' F.os F.un F.hok F.bare fun _ z=>nomatch z
theorem Fl.nf(F:Fl X H0 H' s0 s' B)(I:Inv X pins σ H0 s0){b:Addr}{u:HO}(h:H' b=some u):b∉frs X.stack:=fun hm=>by have:=(F.inv I).stkFree b hm;rw[h]at this;cases this
theorem Fl.move{tk:Nat}(F:Fl X H0 H' s0 s' B)(I:Inv X pins σ H0 s0)(st:B.StaysIn h')(up:s'.heap.UpToSlots h'):Fl X H0 H' s0 { s' with heap:=h',toks:=tk } B:=by
 have kp:∀b o,b∉frs X.stack->((∃u,H' b=some u)\/∃o0,s0.heap.get? b=some o0)->s'.heap.get? b=some o->h'.get? b=some o:=fun b o h1 h2 h3=>st b o (F.kb b o h1 h2 h3);have sl:∀b o,b∈frs X.stack->s'.heap.get? b=some o->∃sl,h'.get? b=some { o with slots:=sl }:=fun b o hm q=>by obtain⟨_,o',ho',hd⟩:=(F.inv I).stack.mem hm;have e:s'.heap.get? b=some o':=ho';rw[q]at e;cases e;exact up b o q hd
 refine⟨F.os,F.bare,⟨fun b o q n hb hx=>kp b o hb (.inr ⟨o,q⟩) (F.un.keep b o q n hb hx),fun b o q n hb hx=>?_,F.un.free,fun b o q hx=>?_,F.un.tups,F.un.frzs,F.un.tbls⟩,fun b u q=>?_,fun b o hb ho q=>?_⟩
 ·obtain⟨s1,e1⟩:=F.un.slot b o q n hb hx;obtain⟨s2,e2⟩:=sl b _ hb e1;exact⟨s2,e2⟩
 ·obtain⟨o',e1⟩:=F.un.there b o q hx;by_cases hb:b∈frs X.stack
  ·obtain⟨s2,e2⟩:=sl b o' hb e1;exact⟨_,e2⟩
  ·exact⟨o',kp b o' hb (.inr ⟨o,q⟩) e1⟩
 ·refine(F.hok b u q).stay (fun c v hc z=>kp c v ?_ ?_ z) (fun _ z=>z) fun _ _ z=>z
  ·rcases hc with z'|z'
   ·rw[z'];exact F.nf I q
   ·exact F.nf I z'
  ·rcases hc with z'|z'
   ·rw[z'];exact .inl ⟨u,q⟩
   ·exact .inl ⟨_,z'⟩
 ·obtain⟨o1,q1⟩:∃o1,s'.heap.get? b=some o1:=by
   rcases ho with⟨u,z⟩|⟨o0,z⟩
   ·exact ic (F.hok b u z)
   ·exact F.un.there b o0 z (by simp)
  have q2:=kp b o1 hb ho q1;have q':h'.get? b=some o:=q;rw[q']at q2;cases q2;exact F.kb b o hb ho q1
end
structure ExC(K:PySem.W.Frag)(C:Addr)(bm:List Value):Prop where
 cls:∀h,K.In h->∃nm q N bs hdct sn sub ab col dd k0 k1 k2 k3 k5 ni,h.get? C=some (excClassObj nm q C N bs bm hdct sn sub ab col dd k0 k1 k2 k3 k5 ni)
 exc:bm.contains (.type "BaseException")=true
theorem rm{M:Model}{A:Around}{E:Value->Shared->Prop}{s:Shared}{e C T:Addr}{oe:Obj}{bmC bmT:List Value}{K:PySem.W.Frag}{Q:Bool->Shared->Prop}(hC:ExC K C bmC)(hT:ExC K T bmT)(hk:K.In s.heap)(he:s.heap.get? e=some oe)(hcls:oe.cls=.ref C)(hq:Q ((Value.ref C::bmC).contains (.ref T)) s):wpAny M A (excMatches (.ref e) (.ref T)) Q E s:=by
 obtain⟨nm,q,N,bs,hdct,sn,sub,ab,col,dd,k0,k1,k2,k3,k5,ni,oC⟩:=hC.cls _ hk;obtain⟨nm',q',N',bs',hdct',sn',sub',ab',col',dd',k0',k1',k2',k3',k5',ni',oT⟩:=hT.cls _ hk;obtain⟨hp,g,d,tk,os⟩:=s;have hcB:(Value.ref T::bmT).contains (.type "BaseException")=true:=by rw[List.contains_cons,hT.exc,Bool.or_true]
 have f:=tc_notTuple;unfold excMatches;generalize hr:(Value.ref C::bmC).contains (Value.ref T)=r at hq
 repeat(first|(with_reducible refine Yn he ?_;rw[hcls])|with_reducible refine Yn oT ?_|(with_reducible refine wpAny_isSubtype_exc oT ?_;rw[hcB])|(with_reducible refine wpAny_isSubtype_exc oC ?_;rw[hr])|wp_step)
 cases r<;>(first|exact hq|(wp_walk;exact hq))
def Cx.exc(X:Cx)(e:Value):Cx:={ X with A:=X.A.mark (some e),calm:=false,xe:=fun _ _=>False }
section
variable{X:Cx}{pins:List (Addr×Obj)}{σ:St}{H:Hp}{s:Shared}{e:Value}
theorem Inv.exc(I:Inv X pins σ H s)(e:Value):Inv (X.exc e) pins σ H s :=
 ⟨⟨I.ok.mod,I.ok.kind,I.ok.glob,I.ok.blt,I.ok.above,I.ok.inj,I.ok.has,I.ok.cab,fun z=>(nomatch z),I.ok.frames,I.ok.stk,I.ok.exf,I.ok.bs,I.ok.bsz,I.ok.noex,I.ok.exfs,I.ok.funs,I.ok.frf⟩,I.os,I.bare,I.base,I.loc,I.cell,I.free,I.freeC,I.pin,I.hok,I.len⟩
theorem Inv.unexc(ok:X.Ok)(I:Inv (X.exc e) pins σ H s):Inv X pins σ H s:=⟨ok,I.os,I.bare,I.base,I.loc,I.cell,I.free,I.freeC,I.pin,I.hok,I.len⟩
end
abbrev TH:=Ends->St->Value->Option Addr->Hp->Prop
structure QH(X:Cx)(hs:List ExceptHandler)(th:TH):Prop where
 h:∀(pins:List (Addr×Obj)) (s0:Shared) (H0:Hp) (σ:St) (D:Ends) (ea t:Addr) (C:Value) (B:Heap) (H':Hp) (dc:Option Addr) (s':Shared),Inv X pins σ H0 s0->Fl X H0 H' s0 s' B->Heap.FlyingW B X.stack ea C (.ref t) s'.heap->di s'.heap ea dc->th D σ C dc H' ->
  wpAny (model X.prog X.w) X.A (handleBy (.ref ea) X.env hs) (SP X pins D) X.xe s'
section
variable{X:Cx}
def DB(tb:TSX)(th:TH):TS:=fun D σ H=>tb D σ H fun C dc H1=>th D σ C dc H1
theorem B9{st:Stmt}{tb:TSX}{th:TH}{h0:ExceptHandler}{hs:List ExceptHandler}{pos:Pos}(hst:X.stack=X.env::X.outer)(hfr:X.env.frame=some X.env.locals)(hb:QSX X st tb)(hh:QH X (h0::hs) th) :
  QS X (.Try [st] (h0::hs) [] [] pos) (DB tb th):=by
 refine⟨?_⟩;intro pins s σ H D I h;refine wpAny_Try_except (wpAny_execs_cons (ZY (hb.h pins s σ H D _ I h) (fun f s1 q=>?_) (fun e s1 x=>?_)))
 ·cases f with
  |next=>exact wpAny_execs_nil (wpAny_execs_nil q)
  |brk=>exact q
  |cont=>exact q
  |ret v=>exact q
 ·obtain⟨s0,H0,I0,ea,t,C,vs,B,H',dc,rfl,os,bare,un,hok,fly,tup,hBt,kb,dd,q⟩:=x;have F:Fl X H0 H' s0 s1 B:=⟨os,bare,un,hok,kb⟩
  have fr:X.A.frames=some (X.env::X.outer):=by rw[<-hst];exact I.ok.frames
  rw[hst]at fly;refine lB fr hfr fly dd fun h4 held up4 dd4=>?_;obtain⟨f1,f2,f3,f4⟩:=held;refine hU f1 f3 f4 dd4 fun h5 k1 k2 k3 up5 dd5=>?_;have F5:=(F.move (tk:=s1.toks) I0 k1 (up4.trans up5))
  rw[<-hst]at k2;exact hh.h pins s0 H0 σ D ea t C B H' dc _ I0 F5 ⟨k1,f2,k2,k3⟩ dd5 q
end
open PySem PySem.Spec PyProof.Rows PySem.W
abbrev VE:List Value:=[.type "ValueError",.type "Exception",.type "BaseException",.type "object"]
structure ExcAt(K:PySem.W.Frag)(C:Addr)(bm:List Value):Prop where
 isIn:excIn K C VE "ValueError.__new__" = true
 mro:∃c d cd sl,K.lookup C=some ⟨c,d,.cls cd,sl⟩/\cd.mro=Value.ref C::bm
 exc:bm.contains (.type "BaseException")=true
structure ExK(K:PySem.W.Frag)(c:Addr):Prop where
 hc:(clsIn K c).isSome=true
 hga:findIn K (.ref c) "__getattribute__" = some (some (.builtin "BaseException.__getattribute__"))
 hgh:findIn K (.ref c) "__getattr__" = some none
 ha:findIn K (.ref c) "__class__" = some (some (.builtin "object.__class__"))
 hb:mroIn K c (.type "BaseException")=some true
 hm:mroIn K c (.type "object")=some true
open PySem PySem.Spec PyProof.Rows PySem.W
def aS(i:Int):Str:=Str.ofString (toString i)
theorem pO:∀(f k n:Nat) (ds:List Char),n<10^(k+1)->(Nat.toDigitsCore 10 f n ds).length<=k+1+ds.length
 |0,k,n,ds,_=>by unfold Nat.toDigitsCore;omega
 |f+1,k,n,ds,h=>by
  unfold Nat.toDigitsCore;dsimp only;split
  ·rw[Zq];omega
  ·rename_i hz;cases k with
   |zero =>have:n / 10=0:=Nat.div_eq_of_lt (by simpa using h);exact absurd this hz
   |succ k =>
    have h':n / 10<10^(k+1):=by rw[Nat.div_lt_iff_lt_mul (by decide)];rw[Nat.pow_succ]at h;exact h
    have:=pO f k (n / 10) (Nat.digitChar (n%10)::ds) h';rw[Zq]at this;omega
theorem xw{i:Int}{k:Nat}(h:i.natAbs<10^(k+1)):(aS i).length<=k+2:=by
 unfold aS;rw[ofString_len];have nat:∀n:Nat,n<10^(k+1)->(Nat.repr n).length<=k+1:=fun n hn=>by unfold Nat.repr;rw[String.length_ofList];have:=pO (n+1) k n [] hn;exact this
 cases i with
 |ofNat n =>have:=nat n h;show(Nat.repr n).length<=_;omega
 |negSucc n =>have:=nat (n+1) h;show("-"++Nat.repr (n+1)).length<=_;rw[String.length_append];have:("-":String).length=1:=rfl;omega
section
variable{X:Cx}{K:PySem.W.Frag}
def yJ(K:PySem.W.Frag):V->List V->Hp->VK->Prop:=fun x xs H Q=>∃(sep:Str) (p:Addr) (ys:List Str),x=.str sep/\xs=[.ref p]/\SqL K H p (ys.map V.str)/\(ys.map (·.length)).sum+ys.length*sep.length<=16777216/\Q (.str (Txt.join sep ys)) H
theorem sD:∀{ys:List Str} {us:List Value},Vals (ys.map V.str) us->StrsAre us ys
 | [],_,h=>by cases h;exact .nil
 |y::ys,_,h=>by
  cases h with
  |cons r1 r2 =>obtain⟨t,rfl⟩:=r1;exact .cons _ _ (sD r2)
theorem zD:MtR X "str.join" (yJ X.K):=by intro pins s σ H x xs v us Q I rx r h;obtain⟨sep,p,ys,rfl,rfl,hl,hz,q⟩:=h;obtain⟨t,rfl⟩:=rx;obtain⟨u,rfl,ru⟩:=bX r;cases ru;obtain⟨its,rv,pl,_⟩:=I.list hl;exact join_list pl.isList (by simpa using sD rv) hz fun t' k=>⟨.str _,H,I.tok _,⟨_,rfl⟩,q⟩
theorem B0{o e:Expr}{to te:TE}{apos cpos:Pos}(ho:QE X o to)(he:QE X e te)(hs:aA e=true:=by rfl)(hbase:attributeBase o "join" X.env (eval o X.env)=eval o X.env:=by rfl)(hline:(apos.endLine==cpos.line)=true:=by rfl) :
  QE X (.Call (.Attribute o "join" apos) [e] [] cpos) (tBM X.K "str" (yJ X.K) to (cA te dJ)):=by
 have h1:=aB (es:=[]) (env:=X.env) hs;have h2:starEach ([]:List Expr) X.env=[]:=rfl;refine⟨jy PySem.F.plainAttrs_str PySem.F.slot_str_join PySem.F.type_str_join zD ho.h (jx he.h fO (hs:=h1)) (hbase:=hbase) (hfew:=?_) (hline:=hline) (hs:=h1) (hplain:=by rw[h2];rfl)⟩;rw[h1,h2];rfl
theorem fM:QOp X (binaryOp .Add) (fun x y H Q=>∃i j,x=.str i/\y=.str j/\i.length+j.length<=sizeLine/\Q (.str (i++j)) H):=⟨tU⟩
theorem yH:QOp X (compareOp .In) (fun x y H Q=>∃i j,x=.str i/\y=.str j/\Q (.bl (!(Builtin.Str.occurrences j i 0 j.length 1).isEmpty)) H):=by refine⟨?_⟩;intro pins s σ H x y v u Q I rx ry h;obtain⟨i,j,rfl,rfl,q⟩:=h;obtain⟨t,rfl⟩:=rx;obtain⟨t',rfl⟩:=ry;exact in_str ⟨.bl _,H,I,rfl,q⟩
end
theorem xa{J:It}{N n:Nat}{cap:List Nat}{g:TG}{te:TE}{σ:St}{H0:Hp}{Q:VK}(Pv:Nat->List V->Hp->Prop)(hz:N<=1000)(hn:∀i ys H,Pv i ys H->ys.length=i)(h0:Pv 0 [] H0)(hgo:∀i ys H,i<N->Pv i ys H->J.go i H)(hst:∀ys H,Pv N ys H->J.stop N H)(ht:∀i ys H x H',i<N->Pv i ys H->J.yld i H x H'->∀A:VK,(∀v H4,Pv (i+1) (ys++[v]) H4->A v H4)->g x (bT n cap σ) H' fun σ2 H2=>te σ2 H2 A)(hq:∀ys p H,Pv N ys H->H p=none->Q (.ref p) (upd H p (.lst ys))):dY n cap g fv te σ J H0 Q:=by
 refine⟨fun i m ys H=>m=N-i/\i<=N/\Pv i ys H,⟨N,by simp,ZB _,h0⟩,?_⟩;rintro i m ys H ⟨rfl,hi,pv⟩;by_cases hlt:i<N
 ·refine .inr ⟨hgo i ys H hlt pv,by rw[hn i ys H pv];exact bq (by omega),fun x H' y=>?_⟩;have k:=ht i ys H x H' hlt pv y (fun v H4=>∃m',m'<N-i/\m'=N-(i+1)/\i+1<=N/\Pv (i+1) (ys++[v]) H4) (fun v H4 z=>⟨N-(i+1),by omega,rfl,hlt,z⟩);unfold fv;simpa using k
 ·have e:i=N:=by omega
  subst e;exact .inl ⟨hst ys H pv,fun p hp=>hq ys p H pv hp⟩
open PySem PySem.Spec PyProof.Rows PySem.W
section
variable{X:Cx}{K:PySem.W.Frag}
theorem Bn:QOp X (binaryOp .Mult) (fun x y H Q=>∃(z:Str) (n:Int),x=.str z/\y=.int n/\z.length=1/\1<=n/\n<=1000/\∀y:Str,y.length=n.toNat->(∀c∈y.cps.toList,c∈z.cps.toList)->Q (.str y) H):=by
 refine⟨?_⟩;intro pins s σ H x y v u Q I rx ry h;obtain⟨z,n,rfl,rfl,hz,n1,n2,q⟩:=h;obtain⟨t,rfl⟩:=rx;obtain⟨t',rfl⟩:=ry;have fl:∀(k:Nat) (acc:Array Nat),((List.replicate k z.cps).foldl (·++·) acc)=acc++(List.replicate k z.cps.toList).flatten.toArray:=fun k=>by
  induction k with
  |zero=>intro acc;simp
  |succ k ih =>intro acc;rw[ZZ,Yi,ih,ZZ,Yl,Array.append_assoc];congr 1;apply Yp.mp;rw[Array.toList_append]
 have ln:∀k:Nat,((List.replicate k z.cps.toList).flatten).length=k:=fun k=>by
  have e:z.cps.toList.length=1:=hz;induction k with
  |zero=>rfl
  |succ k ih =>rw[ZZ,Yl,Zs,ih,e];omega
 refine PySem.P.mul_str ?_ (fun _ _=>?_) (fun _ _=>?_) ?_
 ·have h1:¬n < -(2^63:Int):=by omega
  have h2:¬n>=2^63:=by omega
  rw[decide_eq_false h1,decide_eq_false h2];rfl
 ·rw[hz];have:(1:Int)<=(2^63-1) / n:=by rw[Int.le_ediv_iff_mul_le (by omega)];omega
  omega
 ·rw[hz];unfold Builtin.Str.tooLong;have:=bU (show 1*n.toNat<=1000 by omega);simp only[decide_eq_false_iff_not];omega
 ·rw[EM (by omega)];split
  ·rename_i hc;rw[hz]at hc;have:n=1:=by simpa using hc
   subst this;exact⟨.str z,H,I,⟨_,rfl⟩,q z hz (fun c hc=>hc)⟩
  ·rw[fl];have e:((#[]:Array Nat)++(List.replicate n.toNat z.cps.toList).flatten.toArray)=(List.replicate n.toNat z.cps.toList).flatten.toArray:=by simp
   rw[e];refine⟨bU (by show(List.flatten _).toArray.size<=1000;rw[Zg,ln];omega),.str _,H,I.tok _,⟨_,rfl⟩,q _ (by show(List.flatten _).toArray.size=_;rw[Zg,ln]) (fun c hc=>?_)⟩;have hc':c∈(List.replicate n.toNat z.cps.toList).flatten:=hc;obtain⟨l,hl,hm⟩:=List.mem_flatten.mp hc';rw[(List.mem_replicate.mp hl).2]at hm;exact hm
end
open PySem PySem.Spec PyProof.Rows PySem.W
open PySem PySem.Spec PyProof.Rows PySem.W
def KIn{α:Type}(n:Nat)(P:α->Prop):KasT α->Prop
 |.ret a=>P a
 |.ask i j k=>i<n/\j<n/\∀b,KIn n P (k b)
theorem KIn.bind{α β:Type}{n:Nat}{P:α->Prop}{R:β->Prop}{f:α->KasT β}:∀{t:KasT α},KIn n P t->(∀a,P a->KIn n R (f a))->KIn n R (t.bind f)
 |.ret _,h,k=>k _ h
 |.ask _ _ _,⟨h1,h2,h3⟩,k=>⟨h1,h2,fun b=>KIn.bind (h3 b) k⟩
def POk(n:Nat)(p:Array Nat):Prop:=p.Perm (List.range n).toArray
theorem POk.lt{n:Nat}{p:Array Nat}(h:POk n p)(hn:0<n)(k:Nat):p.getD k 0<n:=by
 rw[ZH];cases e:p[k]? with
 |none=>exact hn
 |some x =>have hm:x∈p:=Array.mem_of_getElem? e;have:=(h.mem_iff).mp hm;simpa using this
theorem POk.rev{n:Nat}{p:Array Nat}(h:POk n p)(i j:Nat):POk n (kas_rev p i j):=(mirror_perm p i j _).trans h
theorem POk.bub{n:Nat}{p:Array Nat}(h:POk n p)(i j:Nat):POk n (bubble p i j):=(bubble_perm p i j).trans h
theorem mt{n:Nat}(hn:0<n){p:Array Nat}(h:POk n p):∀f k,KIn n (fun _=>True) (kas_asc p f k)
 |0,_=>trivial
 | f+1,k=>⟨h.lt hn _,h.lt hn _,fun c=>by
  cases c with
  |true=>exact trivial
  | false=>exact mt hn h f (k+1)⟩
theorem hX{n:Nat}(hn:0<n):∀(f:Nat) {p:Array Nat},POk n p->∀k q,KIn n (fun r=>POk n r.1) (kas_desc f p k q)
 |0,_,h,_,_=>h
 |f+1,p,h,k,q=>by
  refine⟨h.lt hn _,h.lt hn _,fun c=>?_⟩;cases c with
  |true =>
   show KIn n _ (if q>0 then _ else _);split
   ·exact hX hn f (h.rev _ _) _ _
   ·exact hX hn f h _ _
  |false =>
   refine⟨h.lt hn _,h.lt hn _,fun d=>?_⟩;cases d with
   |true=>exact h
   |false=>exact hX hn f h _ _
theorem qd{n:Nat}(hn:0<n){p:Array Nat}(h:POk n p)(k r:Nat):KIn n (fun r=>POk n r.2) (kas_tail3 k r p):=KIn.bind (mt hn (h.rev 0 k) _ _) fun _ _=>h.rev 0 k
theorem iL{n:Nat}(hn:0<n){p:Array Nat}(h:POk n p)(k r:Nat):KIn n (fun r=>POk n r.2) (kas_descPart k r p):=KIn.bind (hX hn _ h _ _) fun x hx=>by
 show KIn n _ (if x.2.2>0 then _ else _);split
 ·exact qd hn (hx.rev _ _) _ _
 ·exact qd hn hx _ _
theorem vh{n:Nat}(hn:0<n){p:Array Nat}(h:POk n p)(r:Nat):KIn n (fun r=>POk n r.2) (kas_count r p):=KIn.bind (mt hn h _ _) fun k _=>by
 show KIn n _ (if(k==r)=true then _ else if k>1 then _ else _);split
 ·exact h
 ·split
  ·refine⟨h.lt hn _,h.lt hn _,fun c=>?_⟩;cases c with
   |true=>exact h
   |false=>exact iL hn (h.rev _ _) _ _
  ·exact iL hn h _ _
theorem iM{n:Nat}(hn:0<n){p:Array Nat}(h:POk n p)(k:Nat):∀f l r,KIn n (fun _=>True) (kas_place p k f l r)
 |0,_,_=>trivial
 |f+1,l,r=>by
  show KIn n _ (if l>=r then _ else _);split
  ·exact trivial
  ·refine⟨h.lt hn _,h.lt hn _,fun c=>?_⟩;cases c with
   |true=>exact iM hn h k f _ _
   |false=>exact iM hn h k f _ _
theorem rZ{n:Nat}(hn:0<n):∀(f:Nat) {p:Array Nat},POk n p->∀k,KIn n (POk n) (kas_bin f p k)
 |0,_,h,_=>h
 |f+1,_,h,k=>KIn.bind (iM hn h k _ _ _) fun _ _=>rZ hn f (h.bub _ _) (k+1)
theorem xx{n:Nat}(hn:0<n):KIn n (POk n) (kas_sort n):=KIn.bind (vh hn (Array.Perm.refl _) _) fun r hr=>by
 show KIn n _ (if r.1<n then _ else _);split
 ·exact rZ hn _ hr _
 ·exact hr
section
variable{X:Cx}
theorem yI:QOp X (binaryOp .Mult) B4:=⟨By⟩
theorem CU{K:PySem.W.Frag}(hK:X.K=K):QOp X (compareOp .In) (rIn K false):=by subst hK;exact⟨vP⟩
end
open PySem PySem.Spec PyProof.Rows PySem.W
def KW{α:Type}(lt:Nat->Nat->Bool)(Q:α->Prop):KasT α->Prop
 |.ret a=>Q a
 |.ask i j k=>KW lt Q (k (lt i j))
theorem KW.bind{α β:Type}{lt:Nat->Nat->Bool}{Q:β->Prop}{f:α->KasT β}:∀{t:KasT α},KW lt (fun a=>KW lt Q (f a)) t->KW lt Q (t.bind f)
 |.ret _,h=>h
 |.ask i j k,h=>KW.bind (t:=k (lt i j)) h
theorem KW.mono{α:Type}{lt:Nat->Nat->Bool}{Q R:α->Prop}(k:∀a,Q a->R a):∀{t:KasT α},KW lt Q t->KW lt R t
 |.ret _,h=>k _ h
 |.ask i j c,h=>KW.mono k (t:=c (lt i j)) h
structure LtOk(lt:Nat->Nat->Bool):Prop where
 as:∀{a b},lt a b=true->lt b a=false
 tr:∀{a b c},lt b a=false->lt c b=false->lt c a=false
def gA(p:Array Nat)(k:Nat):Nat:=p.getD k 0
def Lx(lt:Nat->Nat->Bool)(a b:Nat):Prop:=lt b a=false/\(lt a b=true\/a<b)
section
variable{lt:Nat->Nat->Bool}(O:LtOk lt)
include O
theorem LtOk.lt_le{a b c:Nat}(h:lt a b=true)(h2:lt c b=false):lt a c=true:=by
 cases e:lt a c with
 |true=>rfl
 |false=>rw[O.tr h2 e]at h;cases h
theorem LtOk.le_lt{a b c:Nat}(h:lt b a=false)(h2:lt b c=true):lt a c=true:=by
 cases e:lt a c with
 |true=>rfl
 |false=>rw[O.tr e h]at h2;cases h2
theorem Lx.trans{a b c:Nat}(h:Lx lt a b)(k:Lx lt b c):Lx lt a c:=by
 refine⟨O.tr h.1 k.1,?_⟩;rcases h.2 with x|x
 ·exact .inl (O.lt_le x k.1)
 ·rcases k.2 with y|y
  ·exact .inl (O.le_lt h.1 y)
  ·exact .inr (Nat.lt_trans x y)
theorem Lx.of_lt{a b:Nat}(h:lt a b=true):Lx lt a b:=⟨O.as h,.inl h⟩
end
structure Fx(N:Nat)(p:Array Nat)(m:Nat):Prop where
 sz:p.size=N
 hi:∀k,m<=k->k<N->gA p k=k
 lo:∀i,i<m->gA p i<m
def LS(lt:Nat->Nat->Bool)(p:Array Nat)(m:Nat):Prop:=∀i j,i<j->j<m->Lx lt (gA p i) (gA p j)
def AS(lt:Nat->Nat->Bool)(p:Array Nat)(m:Nat):Prop:=∀i j,i<j->j<m->Lx lt (gA p j) (gA p i)
theorem Fx.succ{N:Nat}{p:Array Nat}{m:Nat}(h:Fx N p m)(hm:m<N):Fx N p (m+1):=⟨h.sz,fun k h1 h2=>h.hi k (by omega) h2,fun i hi=>by
 rcases Yj i m with h1|h1
 ·have:=h.lo i h1;omega
 ·have e:i=m:=by omega
  subst e;rw[h.hi i (Zb _) hm];omega⟩
theorem cR{p:Array Nat}{i j k:Nat}(hj:j<=p.size):gA (kas_rev p i j) k=if i<=k/\k<j then gA p (i+j-1-k)else gA p k:=by
 unfold gA kas_rev;rw[ZH,getElem?_mirror_all hj];split
 ·rw[ZH]
 ·rw[ZH]
theorem le(p:Array Nat)(k:Nat):gA p k=(p[k]?).getD 0:=by unfold gA;rw[ZH]
theorem AR{p:Array Nat}{k d i:Nat}(hk:k<p.size)(hd:d<=k):gA (bubble p k d) i=if i=k-d then gA p k else if k-d<i/\i<=k then gA p (i-1)else gA p i:=by
 rw[le,getElem?_bubble hk d hd];split
 ·rw[le]
 ·split
  ·rw[le]
  ·rw[le]
theorem Fx.rev{N:Nat}{p:Array Nat}{m i j:Nat}(h:Fx N p m)(hj:j<=m)(hm:m<=N):Fx N (kas_rev p i j) m:=by
 have hs:j<=p.size:=by rw[h.sz];omega
 refine⟨by rw[kas_rev_size];exact h.sz,fun k h1 h2=>?_,fun k hk=>?_⟩
 ·rw[cR hs,EM (by omega)];exact h.hi k h1 h2
 ·rw[cR hs];split
  ·exact h.lo _ (by omega)
  ·exact h.lo _ hk
section
variable{lt:Nat->Nat->Bool}(O:LtOk lt){N:Nat}
include O
theorem LS.step{p:Array Nat}{n:Nat}(h:LS lt p n)(hx:Lx lt (gA p (n-1)) (gA p n))(h1:1<=n):LS lt p (n+1):=fun i j hij hj=>by
 rcases Yj j n with h2|h2
 ·exact h i j hij h2
 ·have e:j=n:=by omega
  subst e;rcases Yj i (j-1)with h3|h3
  ·exact(h i (j-1) h3 (by omega)).trans O hx
  ·have e:i=j-1:=by omega
   subst e;exact hx
theorem qi{p:Array Nat}:∀(f n:Nat),1<=n->n+f<=N->Fx N p n->LS lt p n->KW lt (fun m=>n<=m/\m<=n+f/\Fx N p m/\LS lt p m/\(m<n+f->lt (gA p m) (gA p (m-1))=true)) (kas_asc p f n)
 |0,n,_,_,hf,hs=>⟨Zb _,Zb _,hf,hs,fun h=>absurd h (by omega)⟩
 |f+1,n,h1,hN,hf,hs=>by
  show KW lt _ (if lt (gA p n) (gA p (n-1))=true then .ret n else kas_asc p f (n+1));by_cases c:lt (gA p n) (gA p (n-1))=true
  ·rw[EN c];exact⟨Zb _,by omega,hf,hs,fun _=>c⟩
  ·rw[EM c];have c':=Yt.mpr c;have hx:Lx lt (gA p (n-1)) (gA p n):=⟨c',.inr (by rw[hf.hi n (Zb _) (by omega)];exact hf.lo _ (by omega))⟩
   refine KW.mono (fun m hm=>?_) (qi f (n+1) (by omega) (by omega) (hf.succ (by omega)) (hs.step O hx h1));exact⟨by omega,by omega,hm.2.2.1,hm.2.2.2.1,fun z=>hm.2.2.2.2 (by omega)⟩
theorem AS.rev{p:Array Nat}{n:Nat}(h:AS lt p n)(hn:n<=p.size):LS lt (kas_rev p 0 n) n:=fun i j hij hj=>by rw[cR hn,cR hn,EN (by omega),EN (by omega)];exact h _ _ (by omega) (by omega)
theorem sf{p:Array Nat}{n:Nat}(h1:1<=n)(hN:n<=N)(hf:Fx N p n)(ha:AS lt p n):KW lt (fun r=>r.1<=N/\1<=r.1/\Fx N r.2 r.1/\LS lt r.2 r.1) (kas_tail3 n N p):=by refine KW.bind (KW.mono (fun m hm=>?_) (qi O (N:=N) (N-n) n h1 (by omega) (hf.rev (Zb _) hN) (ha.rev O (by rw[hf.sz];exact hN))));exact⟨by omega,by omega,hm.2.2.1,hm.2.2.2.1⟩
structure Dn(lt:Nat->Nat->Bool)(p:Array Nat)(n q:Nat):Prop where
 hq:q+1<=n
 up:∀i j,i<j->j<n-(q+1)->Lx lt (gA p j) (gA p i)
 cr:∀i j,i<n-(q+1)->n-(q+1)<=j->j<n->lt (gA p j) (gA p i)=true
 eq:∀i j,n-(q+1)<=i->i<j->j<n->lt (gA p i) (gA p j)=false/\lt (gA p j) (gA p i)=false/\gA p i<gA p j
theorem Dn.rev{p:Array Nat}{n q:Nat}(h:Dn lt p n q)(hn:n<=p.size):AS lt (kas_rev p (n-(q+1)) n) n:=fun i j hij hj=>by
 have hq:=h.hq;rw[cR hn,cR hn];by_cases c1:n-(q+1)<=i
 ·rw[EN (by omega),EN (by omega)];obtain⟨e1,e2,e3⟩:=h.eq (n-(q+1)+n-1-j) (n-(q+1)+n-1-i) (by omega) (by omega) (by omega);exact⟨e2,.inr e3⟩
 ·rw[EM (show¬(n-(q+1)<=i/\i<n) by omega)];by_cases c2:n-(q+1)<=j
  ·rw[EN (by omega)];exact Lx.of_lt O (h.cr _ _ (by omega) (by omega) (by omega))
  ·rw[EM (by omega)];exact h.up _ _ hij (by omega)
theorem Dn.zero{p:Array Nat}{n:Nat}(h:Dn lt p n 0):AS lt p n:=fun i j hij hj=>by
 rcases Yj j (n-1)with c|c
 ·exact h.up i j hij c
 ·exact Lx.of_lt O (h.cr i j (by omega) (by omega) hj)
theorem Dn.start{p:Array Nat}{n:Nat}(h:AS lt p n)(h1:1<=n)(hl:lt (gA p n) (gA p (n-1))=true):Dn lt p (n+1) 0:=by
 refine⟨by omega,fun i j hij hj=>h i j hij (by omega),fun i j hi h2 h3=>?_,fun i j h2 h3 h4=>absurd h3 (by omega)⟩;have e:j=n:=by omega
 subst e;rcases Yj i (j-1)with h3|h3
 ·exact O.lt_le hl (h i (j-1) h3 (by omega)).1
 ·have e:i=j-1:=by omega
  subst e;exact hl
theorem ju:∀(f:Nat) {p:Array Nat} {n q:Nat},n+f<=N->Fx N p n->Dn lt p n q->KW lt (fun r=>n<=r.2.1/\r.2.1<=n+f/\Fx N r.1 r.2.1/\Dn lt r.1 r.2.1 r.2.2) (kas_desc f p n q)
 |0,_,n,_,_,hf,hd=>⟨Zb _,Zb _,hf,hd⟩
 |f+1,p,n,q,hN,hf,hd=>by
  have hs:n<=p.size:=by rw[hf.sz];omega
  have hq:=hd.hq;show KW lt _ (if lt (gA p n) (gA p (n-1))=true then(if q>0 then kas_desc f (kas_rev p (n-(q+1)) n) (n+1) 0 else kas_desc f p (n+1) 0)else KasT.ask (gA p (n-1)) (gA p n) fun d=>if d=true then .ret (p,n,q)else kas_desc f p (n+1) (q+1));by_cases c:lt (gA p n) (gA p (n-1))=true
  ·rw[EN c];have wk:∀{r:Array Nat×Nat×Nat},(n+1<=r.2.1/\r.2.1<=n+1+f/\Fx N r.1 r.2.1/\Dn lt r.1 r.2.1 r.2.2)->n<=r.2.1/\r.2.1<=n+(f+1)/\Fx N r.1 r.2.1/\Dn lt r.1 r.2.1 r.2.2:=fun h=>⟨by omega,by omega,h.2.2.1,h.2.2.2⟩
   by_cases cq:q>0
   ·rw[EN cq];have fr:=hf.rev (i:=n-(q+1)) (Zb n) (by omega);have e1:gA (kas_rev p (n-(q+1)) n) n=gA p n:=by rw[cR hs,EM (by omega)]
    have e2:gA (kas_rev p (n-(q+1)) n) (n-1)=gA p (n-(q+1)):=by rw[cR hs,EN (by omega)];congr 1;omega
    have l2:lt (gA p n) (gA p (n-(q+1)))=true:=O.lt_le c (hd.eq (n-(q+1)) (n-1) (Zb _) (by omega) (by omega)).1;refine KW.mono (fun r h=>wk h) (ju f (by omega) (fr.succ (by omega)) (Dn.start O (hd.rev O hs) (by omega) (by rw[e1,e2];exact l2)))
   ·rw[EM cq];have e:q=0:=by omega
    subst e;exact KW.mono (fun r h=>wk h) (ju f (by omega) (hf.succ (by omega)) (Dn.start O (hd.zero O) (by omega) c))
  ·rw[EM c];have c':=Yt.mpr c;show KW lt _ (if lt (gA p (n-1)) (gA p n)=true then _ else _);by_cases d:lt (gA p (n-1)) (gA p n)=true
   ·rw[EN d];exact⟨Zb _,Nat.le_add_right _ _,hf,hd⟩
   ·rw[EM d];have d':=Yt.mpr d;have gn:gA p n=n:=hf.hi n (Zb _) (by omega);have same:∀i,n-(q+1)<=i->i<n->lt (gA p i) (gA p n)=false/\lt (gA p n) (gA p i)=false:=fun i h1 h2=>by
     rcases Yj i (n-1)with h3|h3
     ·obtain⟨a1,a2,_⟩:=hd.eq i (n-1) h1 h3 (by omega);exact⟨O.tr d' a1,O.tr a2 c'⟩
     ·have e:i=n-1:=by omega
      subst e;exact⟨d',c'⟩
    refine KW.mono (fun r h=>⟨by omega,by omega,h.2.2.1,h.2.2.2⟩) (ju f (n:=n+1) (q:=q+1) (by omega) (hf.succ (by omega)) ⟨by omega,fun i j hij hj=>hd.up i j hij (by omega),fun i j hi h2 h3=>?_,fun i j h1 h2 h3=>?_⟩)
    ·rcases Yj j n with h4|h4
     ·exact hd.cr i j (by omega) (by omega) h4
     ·have e:j=n:=by omega
      subst e;exact O.le_lt d' (hd.cr i (j-1) (by omega) (by omega) (by omega))
    ·rcases Yj j n with h4|h4
     ·exact hd.eq i j (by omega) h2 h4
     ·have e:j=n:=by omega
      subst e;obtain⟨a1,a2⟩:=same i (by omega) h2;exact⟨a1,a2,by rw[gn];exact hf.lo _ h2⟩
theorem jM{p:Array Nat}{n:Nat}(h1:1<=n)(hN:n<N)(hf:Fx N p n)(ha:AS lt p n)(hl:lt (gA p n) (gA p (n-1))=true):KW lt (fun r=>r.1<=N/\1<=r.1/\Fx N r.2 r.1/\LS lt r.2 r.1) (kas_descPart n N p):=by
 refine KW.bind (KW.mono (fun r hr=>?_) (ju O (N:=N) (N-(n+1)) (by omega) (hf.succ hN) (Dn.start O ha h1 hl)));obtain⟨r1,r2,r3,r4⟩:=hr;show KW lt _ (if r.2.2>0 then _ else _);by_cases c:r.2.2>0
 ·rw[EN c];exact sf O (by omega) (by omega) (r3.rev (Zb _) (by omega)) (r4.rev O (by rw[r3.sz];omega))
 ·rw[EM c];have e:r.2.2=0:=by omega
  rw[e]at r4;exact sf O (by omega) (by omega) r3 (r4.zero O)
theorem xy{p:Array Nat}(hN:1<=N)(hf:Fx N p 1):KW lt (fun r=>r.1<=N/\1<=r.1/\Fx N r.2 r.1/\LS lt r.2 r.1) (kas_count N p):=by
 refine KW.bind (KW.mono (fun n hn=>?_) (qi O (N:=N) (N-1) 1 (Zb _) (by omega) hf (fun i j h1 h2=>absurd h1 (by omega))));obtain⟨n1,n2,nf,ns,nl⟩:=hn;show KW lt _ (if(n==N)=true then KasT.ret (n,p)else if n>1 then KasT.ask (gA p 0) (gA p (n-1)) (fun c=>if c=true then .ret (n,p)else kas_descPart n N (kas_rev p 0 n))else kas_descPart n N p);by_cases c:(n==N)=true
 ·rw[EN c];exact⟨by omega,n1,nf,ns⟩
 ·rw[EM c];have nN:n<N:=by have:n≠N:=fun z=>c (ZI.mpr z);omega
  have hl:=nl (by omega);by_cases c2:n>1
  ·rw[EN c2];show KW lt _ (if lt (gA p 0) (gA p (n-1))=true then _ else _);by_cases c3:lt (gA p 0) (gA p (n-1))=true
   ·rw[EN c3];exact⟨by omega,n1,nf,ns⟩
   ·rw[EM c3];have c3':=Yt.mpr c3;have hs:n<=p.size:=by rw[nf.sz];omega
    have le0:∀i,i<n->lt (gA p i) (gA p 0)=false:=fun i hi=>by
     rcases Nat.eq_zero_or_pos i with z|z
     ·subst z;cases e:lt (gA p 0) (gA p 0)with
      |false=>rfl
      |true=>rw[O.as e]at e;cases e
     ·exact(ns 0 i z hi).1
    have leN:∀i,i<n->lt (gA p (n-1)) (gA p i)=false:=fun i hi=>by
     rcases Yj i (n-1)with z|z
     ·exact(ns i (n-1) z (by omega)).1
     ·have e:i=n-1:=by omega
      subst e;cases e:lt (gA p (n-1)) (gA p (n-1))with
      |false=>rfl
      |true=>rw[O.as e]at e;cases e
    have all:∀i j,i<n->j<n->lt (gA p i) (gA p j)=false:=fun i j hi hj=>O.tr (leN j hj) (O.tr c3' (le0 i hi));refine jM O n1 nN (nf.rev (Zb _) (by omega)) (fun i j hij hj=>?_) ?_
    ·rw[cR hs,cR hs,EN (by omega),EN (by omega)];have z:=ns (0+n-1-j) (0+n-1-i) (by omega) (by omega);refine⟨all _ _ (by omega) (by omega),?_⟩;rcases z.2 with y|y
     ·rw[all _ _ (by omega) (by omega)]at y;cases y
     ·exact .inr y
    ·rw[cR hs,cR hs,EM (by omega),EN (by omega)];exact O.lt_le hl (all _ _ (by omega) (by omega))
  ·rw[EM c2];have e:n=1:=by omega
   subst e;exact jM O n1 nN nf (fun i j h1 h2=>absurd h1 (by omega)) hl
theorem ki{p:Array Nat}{k:Nat}(hs:LS lt p k):∀(f l r:Nat),r-l<=f->r<=k->(∀i,i<l->i<k->lt (gA p k) (gA p i)=false)->(∀i,r<=i->i<k->lt (gA p k) (gA p i)=true)->l<=r ->
  KW lt (fun m=>m<=k/\(∀i,i<m->lt (gA p k) (gA p i)=false)/\∀i,m<=i->i<k->lt (gA p k) (gA p i)=true) (kas_place p k f l r)
 |0,l,r,h1,h2,h3,h4,h5=>⟨by omega,fun i hi=>h3 i hi (by omega),fun i hi=>h4 i (by omega)⟩
 |f+1,l,r,h1,h2,h3,h4,h5=>by
  show KW lt _ (if l>=r then KasT.ret l else KasT.ask (gA p k) (gA p ((l+r) / 2)) fun c=>if c=true then kas_place p k f l ((l+r) / 2)else kas_place p k f ((l+r) / 2+1) r);by_cases c:l>=r
  ·rw[EN c];exact⟨by omega,fun i hi=>h3 i hi (by omega),fun i hi=>h4 i (by omega)⟩
  ·rw[EM c];show KW lt _ (if lt (gA p k) (gA p ((l+r) / 2))=true then _ else _);by_cases d:lt (gA p k) (gA p ((l+r) / 2))=true
   ·rw[EN d];refine ki hs f l ((l+r) / 2) (by omega) (by omega) h3 (fun i hi hk=>?_) (by omega);rcases Nat.eq_or_lt_of_le hi with e|e
    ·rw[<-e];exact d
    ·exact O.lt_le d (hs _ _ e hk).1
   ·rw[EM d];have d':=Yt.mpr d;refine ki hs f ((l+r) / 2+1) r (by omega) h2 (fun i hi hk=>?_) h4 (by omega);rcases Yj i ((l+r) / 2)with e|e
    ·exact O.tr (hs _ _ e (by omega)).1 d'
    ·have e:i=(l+r) / 2:=by omega
     rw[e];exact d'
theorem vm:∀(f:Nat) {p:Array Nat} {k:Nat},k+f=N->1<=k->Fx N p k->LS lt p k->KW lt (fun p=>p.size=N/\LS lt p N) (kas_bin f p k)
 |0,p,k,e,_,hf,hs=>by
  have:k=N:=by omega
  subst this;exact⟨hf.sz,hs⟩
 |f+1,p,k,e,h1,hf,hs=>by
  refine KW.bind (KW.mono (fun m hm=>?_) (ki O hs k 0 k (by omega) (Zb _) (fun i hi=>absurd hi (by omega)) (fun i h2 h3=>absurd h2 (by omega)) (ZB _)));obtain⟨m1,m2,m3⟩:=hm;have hk:k<p.size:=by rw[hf.sz];omega
  have gk:gA p k=k:=hf.hi k (Zb _) (by omega);have ekm:k-(k-m)=m:=by omega
  have gb:∀i,gA (bubble p k (k-m)) i=if i=m then gA p k else if m<i/\i<=k then gA p (i-1)else gA p i:=fun i=>by rw[AR hk (by omega),ekm]
  refine vm f (by omega) (by omega) ⟨by rw[bubble_size];exact hf.sz,fun i h2 h3=>?_,fun i hi=>?_⟩ (fun i j hij hj=>?_)
  ·rw[gb,EM (by omega),EM (by omega)];exact hf.hi i (by omega) h3
  ·rw[gb];split
   ·rw[gk];omega
   ·split
    ·have:=hf.lo (i-1) (by omega);omega
    ·have:=hf.lo i (by omega);omega
  ·have lk:∀i,i<m->Lx lt (gA p i) (gA p k):=fun i hi=>⟨m2 i hi,.inr (by rw[gk];exact hf.lo i (by omega))⟩
   have gt:∀i,m<=i->i<k->Lx lt (gA p k) (gA p i):=fun i h2 h3=>Lx.of_lt O (m3 i h2 h3);rw[gb,gb];by_cases a1:i=m
   ·rw[EN a1,EM (by omega),EN (by omega)];exact gt _ (by omega) (by omega)
   ·rw[EM a1];by_cases a2:m<i/\i<=k
    ·rw[EN a2,EM (by omega),EN (by omega)];exact hs _ _ (by omega) (by omega)
    ·rw[EM a2];by_cases b1:j=m
     ·rw[EN b1];exact lk i (by omega)
     ·rw[EM b1];by_cases b2:m<j/\j<=k
      ·rw[EN b2];exact hs _ _ (by omega) (by omega)
      ·rw[EM b2];exact hs _ _ hij (by omega)
theorem zr(hN:1<=N):KW lt (fun p=>p.size=N/\LS lt p N) (kas_sort N):=by
 have f0:Fx N (List.toArray (List.range N)) 1:=by
  have g:∀k,k<N->gA (List.toArray (List.range N)) k=k:=fun k hk=>by rw[le];simp[hk]
  refine⟨by simp,fun k _ hk=>g k hk,fun i hi=>?_⟩;have e:i=0:=by omega
  subst e;rw[g 0 (by omega)];decide
 refine KW.bind (KW.mono (fun r hr=>?_) (xy O hN f0));obtain⟨r1,r2,r3,r4⟩:=hr;show KW lt _ (if r.1<N then kas_bin (N-max r.1 1) r.2 (max r.1 1)else .ret r.2);have e:max r.1 1=r.1:=by omega
 rw[e];by_cases c:r.1<N
 ·rw[EN c];exact vm O _ (by omega) r2 r3 r4
 ·rw[EM c];have e:r.1=N:=by omega
  rw[e]at r3 r4;exact⟨r3.sz,r4⟩
end
open PySem PySem.Spec PyProof.Rows PySem.W
def Ite(K:PySem.W.Frag)(a:Addr)(xs:List V):It :=
 ⟨fun i H=>i<xs.length/\SqL K H a xs,fun i H x H'=>∃T p,H T=none/\xs[i]?=some p/\x=.ref T/\H'=upd H T (.tup [.int i,p]),fun i H=>i=xs.length/\SqL K H a xs⟩
abbrev eTn(e it a:Addr):Nat->Heap->Prop:=fun i h=>(∃old,IsEnum h e it i old)/\h.IsListIter it a i
theorem wC{P:Program}{w:World}{K:PySem.W.Frag}{elts:List Expr}{kt:Nat}{tp:Pos}{e it a:Addr}{xs:List V}(ne:e≠it)(ha:e≠a/\it≠a) :
  Turn P w K (.Tuple elts kt tp) (Ite K a xs) [e,it] e (eTn e it a):=by
 refine⟨by simp,fun i h st c hc=>?_,fun i h h' st k=>?_,?_,?_,fun A i s Q E st h=>?_⟩
 ·obtain⟨⟨old,e1⟩,⟨o4,e4,_,d4⟩⟩:=st;simp only[Ze,Zo,ZJ]at hc;rcases hc with rfl|rfl
  ·exact⟨_,e1,fun v z=>nomatch z⟩
  ·exact⟨_,e4,fun v z=>by rw[d4]at z;cases z⟩
 ·obtain⟨⟨old,e1⟩,⟨o4,e4,r4⟩⟩:=st;exact⟨⟨old,k e (by simp) _ e1⟩,⟨o4,k it (by simp) _ e4,r4⟩⟩
 ·intro X hP hw hK hc i pins s σ H E I hf st hg;subst hP hw hK;obtain⟨⟨old,e1⟩,e4⟩:=st;obtain⟨hi,hx⟩:=hg;obtain⟨its,rx,px,zx⟩:=I.list hx;have lx:i<its.toArray.size:=by rw[Zg,<-rx.length];exact hi
  have hh:=I.ok.hd hc;refine wpAny_pyNext_enum_itemD (Draws.list (A:=X.A.in1) hh it a ha.2.symm its.toArray) e1 ⟨e4,px.isList⟩ lx ne (by simp[ne,ha.1]) fun x h' tk qx ho hs' hT hsz hk=>?_;refine⟨_,rfl,wpAny_letOwnedTupleGo_enum (s:={ s with heap:=h',toks:=tk+1 }) ho fun h2 he2 sb=>?_⟩;obtain⟨xv,ex⟩:∃xv,xs[i]?=some xv:=⟨xs[i],by simp[hi]⟩
  obtain⟨x',gx,rxv⟩:=rx.get ex;have qx':its[i]?=some x:=by simpa using qx
  rw[gx]at qx';cases qx';have lte:e<s.heap.objs.size:=Zf e1;have kp2:∀c o,c∉[e,it]->s.heap.get? c=some o->h2.get? c=some o:=fun c o hc q=>by simp only[Ze,Zo,ZJ,not_or]at hc;exact sb.extBut c o hc.1 (hk c o hc.1 hc.2 q)
  have tT:IsTup h2 s.heap.objs.size [.int i tk,x].toArray:=⟨_,sb.extBut _ _ (ZV lte) hT,rfl,_,rfl⟩
  refine⟨.ref s.heap.objs.size,upd H s.heap.objs.size (.tup [.int i,xv]),I.turnT (t':=tk+1) hf kp2 tT (.cons ⟨tk,rfl⟩ (.cons rxv .nil)) (sz rfl),rfl,⟨_,xv,I.hok.fresh (Zb _),ex,rfl,rfl⟩,?_,fun c hc=>?_⟩
  ·exact⟨⟨_,by simpa using he2⟩,hs'.1.extBut sb.extBut ne.symm⟩
  ·rw[ac]
   ·exact(hf c hc).1
   ·obtain⟨o,eo⟩:∃o,s.heap.get? c=some o:=by
     simp only[Ze,Zo,ZJ]at hc;rcases hc with rfl|rfl
     ·exact⟨_,e1⟩
     ·obtain⟨o,eo,_⟩:=e4;exact⟨o,eo⟩
    exact Zt (Zf eo)
 ·intro X hP hw hK hc i pins s σ H E I hf st hg;subst hP hw hK;obtain⟨⟨old,e1⟩,e4⟩:=st;obtain⟨rfl,hx⟩:=hg;obtain⟨its,rx,px,zx⟩:=I.list hx;have lx:its.toArray.size=xs.length:=by rw[Zg,<-rx.length]
  have hh:=I.ok.hd hc;refine wpAny_pyNext_enum_endD (Draws.list (A:=X.A.in1) hh it a ha.2.symm its.toArray) e1 ⟨by rw[lx];exact e4,px.isList⟩ fun h' kp=>⟨rfl,?_⟩
  exact I.turnM (t':=s.toks) hf fun c ob hc q=>by simp only[Ze,Zo,ZJ,not_or]at hc;exact kp c ob hc.2 q
 ·obtain⟨⟨old,e1⟩,_⟩:=st;exact wpAny_pyIter_enum e1 h
def yy(K:PySem.W.Frag)(ta:TA):TI:=fun σ H R=>ta σ H fun vs H1=>∃a xs,vs=[.ref a]/\H1 a=some (.lst xs)/\R (Ite K a xs) H1
section
variable{X:Cx}
theorem Ab{e1:Expr}{ta:TA}{p pos tp:Pos}{elts:List Expr}{kt:Nat}(hg:Gl X "enumerate")(hm:X.mg "enumerate" = none)(ha:PA X [e1] ta)(n1:aA e1=true):PI X (.Tuple elts kt tp) (.Call (.Name "enumerate" p) [e1] [] pos) (yy X.K ta):=by
 intro pins s σ H R I h;refine Call_ (cS I hg hm boot_enumerate (ZP (thn (ha pos pins s σ H _ I h) fun us s1 hz9=>?_) (aB n1) (aY (by simp))));obtain⟨vs,H1,I1,r1,q1⟩:=hz9;obtain⟨a,xs,e,hx,q⟩:=q1;subst e;obtain⟨ua,rfl,ra⟩:=bX r1;cases ra;obtain⟨z,its,n,rx,hl',eo⟩:=I1.lstM hx;have la:a<s1.heap.objs.size:=Zf eo;refine call_enumerate_1 eo fun h' he hl hz hk=>wpAny_pyIter_enum he ?_;refine⟨s1.heap.objs.size+1,[s1.heap.objs.size+1,s1.heap.objs.size],eTn (s1.heap.objs.size+1) s1.heap.objs.size a,_,H1,rfl,I1.kept (t':=s1.toks) hk,wC (Nat.succ_ne_self _) ⟨ZV (Ym la),ZV la⟩,⟨⟨_,he⟩,hl⟩,fun c hc=>?_,q⟩;have hc':s1.heap.objs.size<=c:=by
  simp only[Ze,Zo,ZJ]at hc;rcases hc with rfl|rfl
  ·exact y6 _
  ·exact Zb _
 exact I1.fpOk hc' (I1.hok.fresh hc')
theorem AY{e1:Expr}{ta:TA}{p pos tp:Pos}{elts:List Expr}{kt:Nat}(hm:X.mg "enumerate" = none)(ha:QA X [e1] ta)(hg:Gl X "enumerate":=by rfl)(n1:aA e1=true:=by rfl):QI X (.Tuple elts kt tp) (.Call (.Name "enumerate" p) [e1] [] pos) (yy X.K ta):=⟨Ab hg hm ha.h n1⟩
end
theorem xo{K:PySem.W.Frag}{a:Addr}{xs:List V}{i j:Nat}{tb:TS}{D:Ends}{σ:St}{H:Hp}(Pv:Nat->St->Hp->Prop)(h0:Pv 0 σ H)(ha:∀i σ H,i<=xs.length->Pv i σ H->SqL K H a xs)(hs:∀k x σ H,xs[k]?=some x->Pv k σ H->∀T,H T=none->tb { D with nx:=Pv (k+1),ct:=Pv (k+1),bk:=D.nx } ((σ.set i (some (.int k))).set j (some x)) (upd H T (.tup [.int k,x])))(hd:∀σ H,Pv xs.length σ H->D.nx σ H) :
  ∃W:Nat->Nat->St->Hp->Prop,(∃m,W 0 m σ H)/\∀k m σ H,W k m σ H ->
   ((Ite K a xs).stop k H/\D.nx σ H)\/((Ite K a xs).go k H/\∃N:St->Hp->Prop,(∀σ' H',N σ' H'->∃m',m'<m/\W (k+1) m' σ' H')/\∀x H',(Ite K a xs).yld k H x H'->mm K 2 (gi (bV i) (gi (bV j) ml)) x σ H' fun σ2 H2=>tb { D with nx:=N,ct:=N,bk:=D.nx } σ2 H2):=by
 refine⟨fun k m σ H=>m=xs.length-k/\k<=xs.length/\Pv k σ H,⟨xs.length,by simp,ZB _,h0⟩,?_⟩;rintro k m σ H ⟨rfl,hk,pv⟩;by_cases hlt:k<xs.length
 ·refine .inr ⟨⟨hlt,ha k σ H hk pv⟩,Pv (k+1),fun σ' H' z=>⟨xs.length-(k+1),by omega,rfl,hlt,z⟩,fun x H' y=>?_⟩;obtain⟨T,p,hT,hx,rfl,rfl⟩:=y;exact⟨T,[.int k,p],rfl,SqT.of aa,rfl,.int k,[p],rfl,p,[],rfl,rfl,hs k p σ H hx pv T hT⟩
 ·have e:k=xs.length:=by omega
  subst e;exact .inl ⟨⟨rfl,ha _ σ H hk pv⟩,hd σ H pv⟩
open PySem PySem.Spec PyProof.Rows PySem.W
theorem rY{α:Type}{n:Nat}{lt:Nat->Nat->Bool}{P R:α->Prop}{cmp:Nat->Nat->(Bool->Shared->Prop)->Shared->Prop}{Q:α->Shared->Prop}{s:Shared}(hc:∀i j C,i<n->j<n->C (lt i j) s->cmp i j C s)(hq:∀a,P a->R a->Q a s):∀{t:KasT α},KIn n P t->KW lt R t->t.kasWp cmp Q s
 |.ret _,h,k=>hq _ h k
 |.ask i j c,⟨h1,h2,h3⟩,k=>hc _ _ _ h1 h2 (rY hc hq (t:=c (lt i j)) (h3 _) k)
section
variable{X:Cx}{pins:List (Addr×Obj)}{σ:St}{H:Hp}{s:Shared}{h':Heap}
theorem Inv.movedF{ch:List Addr}{t':Nat}(I:Inv X pins σ H s)(hch:∀b∈ch,bc X pins H b)(k:∀b u,b≠X.env.locals->b∉ch->s.heap.get? b=some u->h'.get? b=some u)(hn:∃m,s.heap.Ns X.env.locals m/\h'.Ns X.env.locals m):Inv X pins σ H { s with heap:=h',toks:=t' }:=by
 have neL:∀{b:Addr} {u:HO},H b=some u->b≠X.env.locals:=fun{b u} e=>ao e I.free;have neC:∀{b:Addr} {u:HO},H b=some u->b∉ch:=fun{b u} e z=>by have:=(hch b z).1;rw[e]at this;cases this
 refine I.step (g':=s.gens) (d':=s.drawn) (ch:=ch) (fun b hb=>⟨(hch b hb).2.2.2.1,(hch b hb).2.1,(hch b hb).2.2.2.2.1,(hch b hb).2.2.2.2.2⟩) (fun b o hL _ hc e _=>k b o hL hc e) (fun b o hL _ hc e _=>⟨o.slots,k b o hL hc e⟩) (fun b o _ e n=>n) (fun b o hc e=>?_)
  (fun b xs e=>e) (fun b o u e=>e) (fun b ps e=>⟨#[],by rw[e];simp⟩) (fun m' hm'=>?_) (fun b u e=>?_) I.bare
 ·by_cases hL:b=X.env.locals
  ·obtain⟨m,_,o',_,_,e',_⟩:=hn;exact⟨o',by rw[hL];exact e'⟩
  ·exact⟨o,k b o hL hc e⟩
 ·obtain⟨m,h1,h2⟩:=hn;rw[hm'.eq_nsMap,<-h1.eq_nsMap];exact h2
 ·refine(I.hok b u e).stay (fun c v hc q=>k c v ?_ ?_ q) (fun c q=>q) fun c ys q=>q
  ·rcases hc with z|z
   ·rw[z];exact neL e
   ·exact neL z
  ·rcases hc with z|z
   ·rw[z];exact neC e
   ·exact neC z
theorem Inv.tookF{ch:List Addr}{a:Addr}{o:HO}{t':Nat}(I:Inv X pins σ H s)(ha:a∈ch)(hch:∀b∈ch,bc X pins H b)(k:∀b u,b≠X.env.locals->b∉ch->s.heap.get? b=some u->h'.get? b=some u)(hn:∃m,s.heap.Ns X.env.locals m/\h'.Ns X.env.locals m)(new:ObjOk X.prog X.w (upd H a o) h' a o):Inv X pins σ (upd H a o) { s with heap:=h',toks:=t' }:=by
 have fr:=(hch a ha).1;have ne:∀{b:Addr} {u:HO},H b=some u->b≠a:=fun{b u} e=>ao e fr;have neL:∀{b:Addr} {u:HO},H b=some u->b≠X.env.locals:=fun{b u} e=>ao e I.free;have neC:∀{b:Addr} {u:HO},H b=some u->b∉ch:=fun{b u} e z=>by have:=(hch b z).1;rw[e]at this;cases this
 refine I.step (g':=s.gens) (d':=s.drawn) (ch:=ch) (fun b hb=>⟨(hch b hb).2.2.2.1,(hch b hb).2.1,(hch b hb).2.2.2.2.1,(hch b hb).2.2.2.2.2⟩) (fun b o hL _ hc e _=>k b o hL hc e) (fun b o hL _ hc e _=>⟨o.slots,k b o hL hc e⟩) (fun b o hc e n=>by rw[ac (fun z:b=a=>hc (by rw[z];exact ha))];exact n) (fun b o hc e=>?_)
  (fun b xs e=>by rw[ac (ne e)];exact e) (fun b o u e=>by rw[ac (ne e)];exact e) (fun b ps e=>⟨#[],by rw[ac (ne e),e];simp⟩) (fun m' hm'=>?_) (fun b u e=>?_) I.bare
 ·by_cases hL:b=X.env.locals
  ·obtain⟨m,_,o',_,_,e',_⟩:=hn;exact⟨o',by rw[hL];exact e'⟩
  ·exact⟨o,k b o hL hc e⟩
 ·obtain⟨m,h1,h2⟩:=hn;rw[hm'.eq_nsMap,<-h1.eq_nsMap];exact h2
 ·by_cases hb:b=a
  ·subst hb;rw[aa]at e;cases e;exact new
  ·rw[ac hb]at e;refine(I.hok b u e).stay (fun c v hc q=>k c v ?_ ?_ q) (fun c q=>by rw[ac (ne q)];exact q) fun c ys q=>by rw[ac (ne q)];exact q
   ·rcases hc with z|z
    ·rw[z];exact neL e
    ·exact neL z
   ·rcases hc with z|z
    ·rw[z];exact neC e
    ·exact neC z
def fB(base h:Heap)(L kS:Addr):List (Addr×Obj):=(qK base h L).filter fun p=>decide (p.1≠kS)
theorem fR{base h:Heap}{L kS:Addr}{o:Obj}(e:h.get? kS=some o)(hL:kS≠L)(hb:base.get? kS=none):News base L h ((kS,o)::fB base h L kS):=fun p hp=>by
 rcases Ze.mp hp with rfl|hp
 ·exact⟨e,hL,hb⟩
 ·exact gI base h L p (List.mem_filter.mp hp).1
theorem ik{base h:Heap}{L kS:Addr}:∀p∈fB base h L kS,p.1≠kS:=fun p hp=>of_decide_eq_true (List.mem_filter.mp hp).2
theorem fQ{base h h2:Heap}{L kS:Addr}{o':Obj}{m:Str->Option Value}(hbk:∀b o,base.get? b=some o->h.get? b=some o)(F:Fr base L h2 m)(N:News base L h2 ((kS,o')::fB base h L kS)):∀b u,b≠L->b∉[kS]->h.get? b=some u->h2.get? b=some u:=fun b u hL hk e=>by
 cases q:base.get? b with
 |none=>exact(N (b,u) (.tail _ (List.mem_filter.mpr ⟨dU e hL q,decide_eq_true (fun z=>hk (Zd.mpr z))⟩))).1
 |some o =>have e':=hbk b o q;rw[e]at e';cases e';exact F.keep b u q
structure SK(X:Cx)(pins:List (Addr×Obj))(σ:St)(H1:Hp)(m:Str->Option Value)(kS D:Addr)(e1:Nat)(ks:List (List Int))(as:List Addr)(e:Nat)(H:Hp)(s:Shared):Prop where
 I:Inv X pins σ H s
 sm:Same H1 H
 fk:bc X pins H kS
 fd:bc X pins H D
 bk:X.base.get? kS=none
 bd:X.base.get? D=none
 hk:s.heap.get? kS=some (seqObj "list" (List.toArray (as.map Value.ref)) e)
 hd:s.heap.get? D=some (seqObj "list" #[] e1)
 ns:s.heap.Ns X.env.locals m
 keys:∀(i:Nat) (a:Addr) (k:List Int),as[i]?=some a->ks[i]?=some k->H a=some (.tup (k.map V.int))
end
open PySem PySem.Spec PyProof.Rows PySem.W
theorem vq:∀{a b:List Int},HT.lexLt a b=true->HT.lexLt b a=false
 | [],[],h=>by cases h
 | [],_::_,_=>rfl
 |_::_,[],h=>by cases h
 |x::a,y::b,h=>by
  rw[HT.lexLt_cons]at h ⊢;by_cases e:x=y
  ·subst e;rw[EN rfl]at h ⊢;exact vq h
  ·rw[EM e]at h;rw[EM (fun z=>e z.symm)];have:=of_decide_eq_true h;exact decide_eq_false (by omega)
theorem vt:∀{a b c:List Int},HT.lexLt b a=false->HT.lexLt c b=false->HT.lexLt c a=false
 | [],[],[],_,_=>rfl
 | [],[],_::_,_,_=>rfl
 | [],_::_,[],_,h=>by cases h
 | [],_::_,_::_,_,_=>rfl
 |_::_,[],_,h,_=>by cases h
 |_::_,_::_,[],_,h=>by cases h
 |x::a,y::b,z::c,h,k=>by
  rw[HT.lexLt_cons]at h k ⊢;by_cases e:y=x
  ·subst e;rw[EN rfl]at h;by_cases e2:z=y
   ·rw[EN e2]at k ⊢;exact vt h k
   ·rw[EM e2]at k ⊢;exact k
  ·rw[EM e]at h;have h':=of_decide_eq_false h;by_cases e2:z=y
   ·rw[EM (by omega)];exact decide_eq_false (by omega)
   ·rw[EM e2]at k;have k':=of_decide_eq_false k;rw[EM (by omega)];exact decide_eq_false (by omega)
theorem Bj(ks:List (List Int)):LtOk (fun i j=>HT.lexLt (ks.getD i []) (ks.getD j [])):=⟨vq,vt⟩
section
variable{X:Cx}{pins:List (Addr×Obj)}{σ:St}{H:Hp}{s:Shared}
def wX(X:Cx)(l:List Addr):Cx:={ X with ex:=l++X.ex }
structure ExOk(X:Cx)(b:Addr):Prop where
 old:b∈X.ex\/X.s₀.heap.get? b=none
 loc:b≠X.env.locals
 cel:∀x c,X.env.cells.lookup x=some c->c≠b
 bas:X.base.get? b=none
 fs:b∉X.fs
theorem Inv.widen{l:List Addr}(I:Inv X pins σ H s)(hl:∀b∈l,ExOk X b):Inv (wX X l) pins σ H s:=by
 have ok:(wX X l).Ok:=by
  have o:=I.ok;refine⟨o.mod,o.kind,o.glob,o.blt,o.above,o.inj,o.has,o.cab,o.hd,o.frames,o.stk,fun b hb=>?_,o.bs,o.bsz,fun b ob hb z=>?_,fun b hb=>?_,o.funs,o.frf⟩
  ·rcases ZG.mp hb with h|h
   ·exact⟨(hl b h).loc,(hl b h).cel⟩
   ·exact o.exf b h
  ·rcases ZG.mp z with h|h
   ·have hb':X.base.get? b=some ob:=hb;rw[(hl b h).bas]at hb';cases hb'
   ·exact o.noex b ob hb h
  ·rcases ZG.mp hb with h|h
   ·exact(hl b h).fs
   ·exact o.exfs b h
 have ne:∀{b:Addr},b∉l++X.ex->b∉X.ex:=fun h z=>h (ZL _ z);have u:=I.base;exact⟨ok,I.os,I.bare,⟨fun b o e n hb hx=>u.keep b o e n hb (ne hx),fun b o e n hb hx=>u.slot b o e n hb (ne hx),fun b o e n hx=>u.free b o e n (ne hx),fun b o e hx=>u.there b o e (ne hx),u.tups,u.frzs,u.tbls⟩,I.loc,I.cell,I.free,I.freeC,I.pin,I.hok,I.len⟩
theorem Inv.narrow{l:List Addr}(I:Inv (wX X l) pins σ H s)(ok:X.Ok)(hl:∀b∈l,b∈X.ex\/X.s₀.heap.get? b=none):Inv X pins σ H s:=by
 have ne:∀{b:Addr} {o:Obj},X.s₀.heap.get? b=some o->b∉X.ex->b∉l++X.ex:=fun{b o} e h z=>by
  rcases ZG.mp z with z|z
  ·rcases hl b z with y|y
   ·exact h y
   ·rw[y]at e;cases e
  ·exact h z
 have u:=I.base;exact⟨ok,I.os,I.bare,⟨fun b o e n hb hx=>u.keep b o e n hb (ne e hx),fun b o e n hb hx=>u.slot b o e n hb (ne e hx),fun b o e n hx=>u.free b o e n (ne e hx),fun b o e hx=>u.there b o e (ne e hx),u.tups,u.frzs,u.tbls⟩,I.loc,I.cell,I.free,I.freeC,I.pin,I.hok,I.len⟩
theorem Inv.exOk(I:Inv X pins σ H s){b:Addr}(hb:s.heap.get? b=none)(hL:b≠X.env.locals)(h0:X.base.get? b=none):ExOk X b:=by
 have old:b∈X.ex\/X.s₀.heap.get? b=none:=by
  by_cases hx:b∈X.ex
  ·exact .inl hx
  ·cases e:X.s₀.heap.get? b with
   |none=>exact .inr rfl
   |some o =>obtain⟨o',e'⟩:=I.base.there b o e hx;rw[hb]at e';cases e'
 refine⟨old,hL,fun x c e z=>?_,h0,fun z=>?_⟩
 ·obtain⟨v,o,ho,_⟩:=I.cell x c e;rw[z,hb]at ho;cases ho
 ·obtain⟨_,o,ho,_⟩:=I.ok.funs.mem z;rcases old with y|y
  ·exact I.ok.exfs b y z
  ·rw[y]at ho;cases ho
theorem Inv.fpW{l:List Addr}(I:Inv X pins σ H s){b:Addr}(hm:b∈l)(x:ExOk X b)(hb:s.heap.get? b=none):bc (wX X l) pins H b:=by refine⟨none_of I hb,x.loc,x.fs,.inl (List.mem_append_left _ hm),x.cel,fun p hp z=>?_⟩;have:=(I.pin p hp).1;rw[z,hb]at this;cases this
end
open PySem PySem.Spec PyProof.Rows PySem.W
open PySem PySem.Spec PyProof.Rows PySem.W
open PySem PySem.Spec PyProof.Rows PySem.W
def Itd(lo:Int)(n:Nat):It:=⟨fun i _=>i<n,fun i H x H'=>H'=H/\x=.int (lo-i),fun i _=>n<=i⟩
theorem wz{P:Program}{w:World}{K:PySem.W.Frag}{tg:Expr}(it:Addr)(lo:Int)(n:Nat):Turn P w K tg (Itd lo n) [it] it (fun i h=>IsRangeIter h it (lo+(i:Nat)*(-1)) ((n:Int)-(i:Nat)) (-1)) where
 mem:=Zd.mpr rfl
 obj:=fun i h st b hb=>by
  obtain rfl:b=it:=Zd.mp hb;exact⟨_,st,fun v z=>by
   have z':Data.fields _=Data.cell v:=z;cases z'⟩
 keep:=fun i h h' st k=>k it (Zd.mpr rfl) _ st
 item:=by intro X hP hw hK hc i pins s σ H E I hf st hg;subst hP hw hK;obtain⟨f0,f1,f2,f3,f4,f5⟩:=hf it (Zd.mpr rfl);have W:=Walks.range (prog:=X.prog) (w:=X.w) (I.ok.hd hc) it lo (-1) n;refine W.item i s _ _ hg st fun v h' tk hv st' kk=>?_;obtain⟨t,rfl⟩:=hv;have I1:Inv X pins σ H { s with heap:=h',toks:=tk }:=I.turned (fun b o hb e=>kk b o (fun z=>hb (Zd.mp z)) e) f0 f1 f3 f4 f5;refine⟨_,rfl,jq (s:={ s with heap:=h',toks:=tk }) (n:="range_iterator") st' rfl rfl (by decide) ⟨.int (lo-i),H,I1,⟨t,?_⟩,⟨rfl,rfl⟩,st',fun b hb=>(hf b hb).1⟩⟩;rw[show lo+(i:Int)*(-1)=lo-i by omega]
 done:=by intro X hP hw hK hc i pins s σ H E I hf st hg;subst hP hw hK;obtain⟨f0,f1,f2,f3,f4,f5⟩:=hf it (Zd.mpr rfl);exact wpAny_pyNext_range_end (I.ok.hd hc) st (by have:n<=i:=hg;omega) fun h' eb=>⟨rfl,I.turned (t':=s.toks) (fun b o hb e=>eb b o hb e) f0 f1 f3 f4 f5⟩
 self:=fun _ _ _ _ _ st h=>wpAny_pyIter_rangeiter st h
section
variable{X:Cx}{tg:Expr}
theorem zh{pins:List (Addr×Obj)}{σ:St}{H:Hp}{s:Shared}{R:It->Hp->Prop}{E:Value->Shared->Prop}{lo hi:Int}{t u v:Tok}{tk:Nat}(I:Inv X pins σ H s)(h1:-(2^62)<=lo)(h2:lo<2^62)(h3:-(2^62)<=hi)(h4:hi<2^62)(q:R (Itd lo (lo-hi).toNat) H):wpAny (model X.prog X.w) X.A (pyIter (.ref s.heap.objs.size)) (PIE X pins σ tg R) E { s with heap:=s.heap.push { cls:=.type "range",data:=.fields #[.int lo t,.int hi u,.int (-1) v] },toks:=tk }:=by
 refine wpAny_pyIter_range (IsRange.new ..) (small_down h1 h2 h3 h4) ?_;have I1:Inv X pins σ H { s with heap:=s.heap.push { cls:=.type "range",data:=.fields #[.int lo t,.int hi u,.int (-1) v] },toks:=tk }:=I.kept fun b o e=>z9 _ e;refine⟨(s.heap.push { cls:=.type "range",data:=.fields #[.int lo t,.int hi u,.int (-1) v] }).objs.size,[(s.heap.push { cls:=.type "range",data:=.fields #[.int lo t,.int hi u,.int (-1) v] }).objs.size],_,_,H,rfl,
  I1.kept (t':=tk) fun b o e=>z9 _ e,wz _ lo (lo - hi).toNat,?_,fun b hb=>?_,q⟩
 ·have e1:lo+((0:Nat):Int)*(-1)=lo:=by simp
  have e2:(((lo-hi).toNat:Nat):Int)-((0:Nat):Int)=Builtin.Range.rangeSize lo hi (-1):=by rw[rangeSize_downNat];omega
  show IsRangeIter _ _ (lo+((0:Nat):Int)*(-1)) ((((lo-hi).toNat:Nat):Int)-((0:Nat):Int)) (-1);rw[e1,e2];exact Zh _ rfl
 ·obtain rfl:=Zd.mp hb;exact I1.fpOk (Zb _) (I1.hok.fresh (Zb _))
def yB(ta:TA):TI:=fun σ H R=>ta σ H fun vs H1=>∃i j:Int,vs=[.int i,.int j,.int (-1)]/\(-(2^62)<=i/\i<2^62/\-(2^62)<=j/\j<2^62)/\R (Itd i (i-j).toNat) H1
theorem Ad{a b c:Expr}{ta:TA}{p pos:Pos}(hg:Gl X "range")(hm:X.mg "range" = none)(ha:PA X [a,b,c] ta)(n1:aA a=true)(n2:aA b=true)(n3:aA c=true):PI X tg (.Call (.Name "range" p) [a,b,c] [] pos) (yB ta):=by
 intro pins s σ H R I h;refine Call_ (cS I hg hm boot_range (ZP (thn (ha pos pins s σ H _ I h) fun us s1 hz9=>?_) (aB n1) (aY (by simp[n2,n3]))));obtain⟨vs,H1,I1,r1,q1⟩:=hz9;obtain⟨i,j,e,⟨q1,q2,q3,q4⟩,q⟩:=q1;subst e;cases r1 with
 |cons r rr =>
  cases rr with
  |cons r' rr =>
   cases rr with
   |cons r2 rr =>cases rr;obtain⟨t,rfl⟩:=r;obtain⟨t',rfl⟩:=r';obtain⟨t2,rfl⟩:=r2;exact call_range_3 (by decide) (zh I1 q1 q2 q3 q4 q) (Or.inl (PyProof.noPylong_small (by decide)))
theorem AZ{a b c:Expr}{ta:TA}{p pos:Pos}(hm:X.mg "range" = none)(ha:QA X [a,b,c] ta)(hg:Gl X "range":=by rfl)(n1:aA a=true:=by rfl)(n2:aA b=true:=by rfl)(n3:aA c=true:=by rfl):QI X tg (.Call (.Name "range" p) [a,b,c] [] pos) (yB ta):=⟨Ad hg hm ha.h n1 n2 n3⟩
end
theorem xn{lo:Int}{n:Nat}{i:Nat}{tb:TS}{D:Ends}{σ:St}{H:Hp}(Pv:Nat->St->Hp->Prop)(h0:Pv 0 σ H)(hs:∀k σ H,k<n->Pv k σ H->tb { D with nx:=Pv (k+1),ct:=Pv (k+1),bk:=D.nx } (σ.set i (some (.int (lo-k)))) H)(hd:∀σ H,Pv n σ H->D.nx σ H) :
  ∃W:Nat->Nat->St->Hp->Prop,(∃m,W 0 m σ H)/\∀k m σ H,W k m σ H ->
   ((Itd lo n).stop k H/\D.nx σ H)\/((Itd lo n).go k H/\∃N:St->Hp->Prop,(∀σ' H',N σ' H'->∃m',m'<m/\W (k+1) m' σ' H')/\∀x H',(Itd lo n).yld k H x H'->bV i x σ H' fun σ2 H2=>tb { D with nx:=N,ct:=N,bk:=D.nx } σ2 H2):=by
 refine⟨fun k m σ H=>m=n-k/\k<=n/\Pv k σ H,⟨n,by simp,ZB _,h0⟩,?_⟩;rintro k m σ H ⟨rfl,hk,pv⟩;by_cases hlt:k<n
 ·refine .inr ⟨hlt,Pv (k+1),fun σ' H' z=>⟨n-(k+1),by omega,rfl,hlt,z⟩,fun x H' y=>?_⟩;obtain⟨rfl,rfl⟩:=y;exact hs k σ _ hlt pv
 ·have e:k=n:=by omega
  subst e;exact .inl ⟨Zb _,hd σ H pv⟩
def Itv(K:PySem.W.Frag)(a:Addr)(xs:List V):It:=⟨fun i H=>i<xs.length/\SqL K H a xs,fun i H x H'=>H'=H/\xs.reverse[i]?=some x,fun i H=>i=xs.length/\SqL K H a xs⟩
theorem yo{P:Program}{w:World}{K:PySem.W.Frag}{tg:Expr}{xs:List V}(a it:Addr):Turn P w K tg (Itv K a xs) [it] it (fun i h=>h.IsRevIter it a ((xs.length:Int)-1-(i:Nat))) where
 mem:=Zd.mpr rfl
 obj:=fun i h st b hb=>by obtain rfl:b=it:=Zd.mp hb;obtain⟨o,e,c,d⟩:=st;exact⟨o,e,fun v z=>by rw[d]at z;cases z⟩
 keep:=fun i h h' st k=>st.at fun o e=>k it (Zd.mpr rfl) o e
 item:=by
  intro X hP hw hK hc i pins s σ H E I hf st hg;subst hP hw hK;obtain⟨hi,hq⟩:=hg;obtain⟨its,rv,p,hz⟩:=I.list hq;have hl:=rv.length;have hx:xs[xs.length-1-i]?=some xs[xs.length-1-i]:=Za (by omega);obtain⟨u,hu,ru⟩:=rv.get hx;obtain⟨f0,f1,f2,f3,f4,f5⟩:=hf it (Zd.mpr rfl);have st1:s.heap.IsRevIter it a ((xs.length-1-i:Nat):Int):=by rw[show((xs.length-1-i:Nat):Int)=(xs.length:Int)-1-(i:Nat) by omega];exact st
  refine wpAny_pyNext_rev_item st1 p.isList (x:=u) (by simpa using hu) fun h' st' sb=>?_;have I1:Inv X pins σ H { s with heap:=h' }:=I.turned (t':=s.toks) (fun b o hb e=>(sb.2 b hb).trans e) f0 f1 f3 f4 f5;obtain⟨o,e,c,d⟩:=id st';rw[show((xs.length-1-i:Nat):Int)-1=(xs.length:Int)-1-((i+1:Nat):Int) by omega]at st';exact⟨u,rfl,jq (s:={ s with heap:=h' }) e c d (by decide) ⟨_,H,I1,ru,⟨rfl,by rw[Yf hi];exact hx⟩,st',fun b hb=>(hf b hb).1⟩⟩
 done:=by intro X hP hw hK hc i pins s σ H E I hf st hg;subst hP hw hK;obtain⟨rfl,hq⟩:=hg;obtain⟨f0,f1,f2,f3,f4,f5⟩:=hf it (Zd.mpr rfl);rw[show(xs.length:Int)-1-((xs.length:Nat):Int)=-1 by omega]at st;exact wpAny_pyNext_rev_end (I.ok.hd hc) st fun h' eb=>⟨rfl,I.turned (t':=s.toks) (fun b o hb e=>eb b o hb e) f0 f1 f3 f4 f5⟩
 self:=fun _ _ _ _ _ st h=>wpAny_pyIter_revIter st h
def AW(K:PySem.W.Frag)(ta:TA):TI:=fun σ H R=>ta σ H fun vs H1=>∃a xs,vs=[.ref a]/\SqL K H1 a xs/\R (Itv K a xs) H1
section
variable{X:Cx}
theorem pE:bootBuiltins "reversed" = some (.type "reversed"):=by decide +kernel
theorem BN{tg e1:Expr}{ta:TA}{p pos:Pos}(hg:Gl X "reversed")(hm:X.mg "reversed" = none)(ha:PA X [e1] ta)(n1:aA e1=true):PI X tg (.Call (.Name "reversed" p) [e1] [] pos) (AW X.K ta):=by
 intro pins s σ H R I h;refine Call_ (cS I hg hm pE (ZP (thn (ha pos pins s σ H _ I h) fun us s1 hz9=>?_) (aB n1) (aY (by simp))));obtain⟨vs,H1,I1,r1,q1⟩:=hz9;obtain⟨a,xs,e,hx,q⟩:=q1;subst e;obtain⟨ua,rfl,ra⟩:=bX r1;cases ra;obtain⟨its,rv,pl,hz⟩:=I1.list hx;have hl:=rv.length;refine call_reversed_list pl.isList (wpAny_pyIter_revIter ⟨_,Zh _ rfl,rfl,rfl⟩ ?_);refine⟨s1.heap.objs.size,[s1.heap.objs.size],_,_,H1,rfl,I1.kept (t':=s1.toks) fun b o e=>z9 _ e,yo (xs:=xs) a _,⟨_,Zh _ rfl,rfl,?_⟩,fun b hb=>?_,q⟩
 ·show Data.fields #[.ref a,rawInt ((its.toArray.size:Int)-1)]=_;rw[Zg,<-hl];simp
 ·obtain rfl:=Zd.mp hb;exact I1.fpOk (Zb _) (I1.hok.fresh (Zb _))
theorem CK{tg e1:Expr}{ta:TA}{p pos:Pos}(hm:X.mg "reversed" = none)(ha:QA X [e1] ta)(hg:Gl X "reversed":=by rfl)(n1:aA e1=true:=by rfl):QI X tg (.Call (.Name "reversed" p) [e1] [] pos) (AW X.K ta):=⟨BN hg hm ha.h n1⟩
end
theorem zj{K:PySem.W.Frag}{a:Addr}{xs:List V}{i:Nat}{tb:TS}{D:Ends}{σ:St}{H:Hp}(Pv:Nat->St->Hp->Prop)(h0:Pv 0 σ H)(ha:∀i σ H,i<=xs.length->Pv i σ H->SqL K H a xs)(hs:∀k x σ H,xs.reverse[k]?=some x->Pv k σ H->tb { D with nx:=Pv (k+1),ct:=Pv (k+1),bk:=D.nx } (σ.set i (some x)) H)(hd:∀σ H,Pv xs.length σ H->D.nx σ H) :
  ∃W:Nat->Nat->St->Hp->Prop,(∃m,W 0 m σ H)/\∀k m σ H,W k m σ H ->
   ((Itv K a xs).stop k H/\D.nx σ H)\/((Itv K a xs).go k H/\∃N:St->Hp->Prop,(∀σ' H',N σ' H'->∃m',m'<m/\W (k+1) m' σ' H')/\∀x H',(Itv K a xs).yld k H x H'->bV i x σ H' fun σ2 H2=>tb { D with nx:=N,ct:=N,bk:=D.nx } σ2 H2):=by
 refine⟨fun k m σ H=>m=xs.length-k/\k<=xs.length/\Pv k σ H,⟨xs.length,by simp,ZB _,h0⟩,?_⟩;rintro k m σ H ⟨rfl,hk,pv⟩;by_cases hlt:k<xs.length
 ·refine .inr ⟨⟨hlt,ha k σ H hk pv⟩,Pv (k+1),fun σ' H' z=>⟨xs.length-(k+1),by omega,rfl,hlt,z⟩,fun x H' y=>?_⟩;obtain⟨rfl,y⟩:=y;exact hs k x σ _ y pv
 ·have e:k=xs.length:=by omega
  subst e;exact .inl ⟨⟨rfl,ha _ σ H hk pv⟩,hd σ H pv⟩
section
variable{prog:Program}{w:World}{A:Around}{E:Value->Shared->Prop}{s:Shared}{r d:Addr}
theorem qp:typeLookup (.type "list_reverseiterator") "__len__" = pure none:=by rw[typeLookup_type,builtinLookup_eq_fast];kernel_rfl
theorem nV:typeLookup (.type "list_reverseiterator") "__length_hint__" = pure (some (.builtin "list_reverseiterator.__length_hint__")):=by rw[typeLookup_type,builtinLookup_eq_fast];kernel_rfl
theorem xu{Q:Bool->Shared->Prop}(hT:s.TypeIs (.ref r) "list_reverseiterator")(h:Q false s):wpAny (model prog w) A (Builtin.List.listLengthHint (.ref r)) Q E s:=by
 unfold Builtin.List.listLengthHint;refine z0 (wpAny_specialOf hT qp ?_);dsimp only;refine wpAny_ite_split (fun hab=>absurd hab (by decide +kernel)) (fun _=>?_);refine wpAny_ite_split (fun hab=>absurd hab (by decide +kernel)) (fun _=>?_);refine z0 (wpAny_specialOf hT nV ?_);generalize hid:("list_reverseiterator.__length_hint__":String)=id0
 wp_delta
 rw[show splitId id0=some ("list_reverseiterator","__length_hint__")from by subst hid;decide +kernel];subst hid;refine z0 (wpAny_isInstance (T:="list_reverseiterator") (b:=true) hT (by rw[isSubtype_type];kernel_rfl) ?_);refine wpAny_ite_split (fun hab=>absurd hab (by decide)) (fun _=>?_);refine wpAny_ite_split (fun _=>?_) (fun hab=>absurd (by decide +kernel) hab);refine wpAny_ite_split (fun hab=>absurd hab (by decide +kernel)) (fun _=>?_);exact Zj h
abbrev RvP(items:Array Value):Nat->Value->Prop:=fun i v=>items[items.size-1-i]?=some v
abbrev gZ(xs:Array Value)(c:Nat):Obj:={ cls:=.type "list",dict:=none,data:=.seq xs c,slots:=#[] }
theorem zi{R:Result->Shared->Prop}{items:Array Value}{S c0:Nat}(hh:A.handled=none)(hl:s.heap.IsList d items)(hr:s.heap.IsRevIter r d ((items.size:Int)-1))(hne:d≠r)(hSr:S≠r)(hSd:S≠d)(hS:s.heap.get? S=some (gZ #[] c0))(hR:∀h' tk acc c,(∀b o,b≠S->b≠r->s.heap.get? b=some o->h'.get? b=some o)->h'.get? S=some (gZ acc c)->ItemsOf (RvP items) acc items.size->R (.ok (.ret .none)) { s with heap:=h',toks:=tk })(hn:items.size<=sizeLine) :
  wpAny (model prog w) A.in1 (Builtin.List.listExtendWith (.ref S) (.ref r) .none)
   (fun fin s'=>match fin with|.done f=>R (.ok f) s'|.again c'=>c'.quiet=true/\codeAny (model prog w) A c' R s') (fun e s'=>R (.error e) s') s:=by
 have W:=Walks.listRev (prog:=prog) (w:=w) (A:=A.in1) hh r d hne items;have hSf:S∉[r,d]:=fun z=>by
  rcases Ze.mp z with z|z
  ·exact hSr z
  ·exact hSd (Zd.mp z)
 have st0:∀h:Heap,h.IsRevIter r d ((items.size:Int)-1)->h.IsList d items->0<=items.size/\h.IsRevIter r d ((items.size:Int)-1-((0:Nat):Int))/\h.IsList d items:=fun h z1 z2=>⟨ZB _,by rw[show(items.size:Int)-1-((0:Nat):Int)=(items.size:Int)-1 by omega];exact z1,z2⟩
 have key:∀(h:Heap) (c1 tk:Nat),h.IsRevIter r d ((items.size:Int)-1)->h.IsList d items->(∀b o,b≠S->s.heap.get? b=some o->h.get? b=some o)->h.get? S=some (gZ #[] c1) ->
   codeAny (model prog w) A (.builtin "list.extend.loop" ⟨[.ref S,.ref r,.none],[]⟩) R { s with heap:=h,toks:=tk }:=fun h c1 tk z1 z2 hk hS1=>by
  refine codeAny_extend_loopS W.toS hn S hSf .none items.size 0 _ #[] c1 rfl (ZB _) (st0 h z1 z2) hS1 (ItemsOf.nil _) fun s' acc c hm hS' hacc=>?_;rw[Moved.eq_with hm];refine hR s'.heap s'.toks acc c (fun b o hb hb2 e=>hm.heap b o (fun z=>?_) (hk b o hb e)) hS' hacc;rcases Ze.mp z with z|z
  ·exact hb z
  ·exact hb2 (Zd.mp z)
 unfold Builtin.List.listExtendWith;refine z0 (wpAny_typeOf (T:="list_reverseiterator") hr.typeIs ?_);have n1:Builtin.List.listSameRef (.ref S) (.ref r)=false:=by simp[Builtin.List.listSameRef,hSr]
 have n2:(Value.type "list_reverseiterator" == Value.type "list")=false:=by decide
 have n3:(Value.type "list_reverseiterator" == Value.type "tuple")=false:=by decide
 simp only[n1,n2,n3,Bool.or_false,Yg,if_false];refine z0 (wpAny_pyIter_revIter hr (z0 (Z0 (xu hr.typeIs ?_))));refine wpAny_ite_split (fun _=>?_) (fun _=>Zj ⟨plainId_quiet PySem.F.plain_extend_loop _,key _ c0 _ hr hl (fun b o _ e=>e) hS⟩);refine z0 (wpAny_rule (z0 ?_));show wpAny _ _ (updateSeq S (·.push .none) >>= fun _=>updateSeq S (·.pop)) _ _ _;have hS2:=Z5 (Obj.mapSeq (·.push Value.none)) hS rfl;refine z0 (wpAny_updateSeq hS rfl (wpAny_updateSeq (hz:=by seq_fits) hS2 rfl ?_));have hS3:=Z5 (Obj.mapSeq (·.pop)) hS2 rfl;have oth:∀b o,b≠S->s.heap.get? b=some o->((s.heap.update S (Obj.mapSeq (·.push Value.none))).update S (Obj.mapSeq (·.pop))).get? b=some o:=fun b o hb e=>(ZK _ _ hb.symm).trans ((ZK _ _ hb.symm).trans e);exact Zj ⟨plainId_quiet PySem.F.plain_extend_loop _,key _ _ _ (hr.at fun o e=>oth _ o hSr.symm e) (hl.at fun o e=>oth _ o hSd.symm e) oth hS3⟩
theorem nR{Q:Value->Shared->Prop}{items:Array Value}(hh:A.handled=none)(hl:s.heap.IsList d items)(hr:s.heap.IsRevIter r d ((items.size:Int)-1))(hne:d≠r)(hn:items.size<=sizeLine)(hQ:∀h' tk acc c,(∀b o,b≠r->s.heap.get? b=some o->h'.get? b=some o)->h'.get? s.heap.objs.size=some (gZ acc c)->ItemsOf (RvP items) acc items.size->Q (.ref s.heap.objs.size) { s with heap:=h',toks:=tk }) :
  wpAny (model prog w) A (call (.type "list") [.ref r]) Q E s:=by
 refine callType_codes (Q₁:=fun obj s1=>obj=.ref s.heap.objs.size/\s1={ s with heap:=s.heap.push (gZ #[] 0) }) PySem.F.called_list (PySem.F.typeCall_list_1 _) PySem.F.entry_list_init (code_list_new _ ⟨rfl,rfl⟩) fun obj s1 z=>?_;obtain⟨rfl,rfl⟩:=z;have hS:(s.heap.push (gZ #[] 0)).get? s.heap.objs.size=some (gZ #[] 0):=Zh _ rfl;have lr:r<s.heap.objs.size:=let⟨_,ho,_⟩:=hr;Zf ho
 have ld:d<s.heap.objs.size:=let⟨_,ho,_⟩:=hl;Zf ho
 refine⟨⟨_,hS,rfl⟩,PySem.F.args_list_init_2 _ _,?_⟩;show wpAny _ _ (do let old ←Builtin.List.listItems (.ref s.heap.objs.size);Builtin.List.listUpdate (.ref s.heap.objs.size) (fun _=>#[]);letGo old.toList.reverse;Builtin.List.listExtendWith (.ref s.heap.objs.size) (.ref r) .none) _ _ _;refine z0 ?_;unfold Builtin.List.listItems;refine z0 (wpAny_seqItems hS rfl (Zj ?_));show wpAny _ _ (updateSeq s.heap.objs.size (fun _=>#[]) >>= fun _=>letGo (#[]:Array Value).toList.reverse >>= fun _=>Builtin.List.listExtendWith (.ref s.heap.objs.size) (.ref r) .none) _ _ _;have hS2:=Z5 (Obj.mapSeq (fun _=>(#[]:Array Value))) hS rfl;have oth:∀b o,s.heap.get? b=some o->((s.heap.push (gZ #[] 0)).update s.heap.objs.size (Obj.mapSeq (fun _=>(#[]:Array Value)))).get? b=some o:=fun b o e=>(ZK _ _ (ZV (Zf e))).trans (z9 _ e);refine z0 (wpAny_updateSeq hS rfl (z0 (wpAny_letGo ?_)));refine zi (A:=A.in1) hh (hl.at fun o e=>oth _ o e) (hr.at fun o e=>oth _ o e) hne (ZV lr) (ZV ld) hS2 (fun h' tk acc c hk hS' hacc=>?_) hn;exact⟨rfl,hQ h' tk acc c (fun b o hb e=>hk b o (Zt (Zf e)) hb (oth b o e)) hS' hacc⟩
end
section
variable{X:Cx}
def yi(K:PySem.W.Frag)(ta:TA):TE:=fun σ H0 Q=>ta σ H0 fun vs H=>∃(l:Addr) (xs:List V),vs=[.ref l]/\SqL K H l xs/\∀p,H p=none->Q (.ref p) (upd H p (.lst xs.reverse))
theorem nz{e:Expr}{ta:TA}{p p2 pos pos2:Pos}(hc:X.calm=true)(hm:X.mg "list" = none)(hm2:X.mg "reversed" = none)(ha:QA X [e] ta)(hg:Gl X "list":=by rfl)(hg2:Gl X "reversed":=by rfl)(hn:aA e=true:=by rfl) :
  QE X (.Call (.Name "list" p) [.Call (.Name "reversed" p2) [e] [] pos2] [] pos) (yi X.K ta):=by
 refine⟨?_⟩;intro pins s σ H0 Q I h;refine Z9 (cS I hg hm cD (ZP ?_ (aB rfl) (aY (by simp))));rw[aB rfl];show wpAny _ _ (spliced ((false,eval (.Call (.Name "reversed" p2) [e] [] pos2) X.env)::backTo pos (starEach [] X.env))) _ _ s;refine Calls.spliced_cons ?_;refine Z9 (cS I hg2 hm2 pE (ZP (thn (ha.h pos2 pins s σ H0 _ I h) fun us s1 hz9=>?_) (aB hn) (aY (by simp))));obtain⟨vs,H1,I1,r1,q1⟩:=hz9;obtain⟨l,xs,rfl,hx,q⟩:=q1;obtain⟨ua,rfl,ra⟩:=bX r1;cases ra;obtain⟨its,rv,pl,hz⟩:=I1.list hx;have hl:=rv.length;refine call_reversed_list pl.isList ?_;refine Calls.spliced_nil ?_;have lt:l<s1.heap.objs.size:=let⟨_,ho,_⟩:=pl.isList;Zf ho
 have zS:(s1.heap.push (revObj l ((its.toArray.size:Int)-1))).objs.size=s1.heap.objs.size+1:=size_push' ..;refine nR (s:={ s1 with heap:=s1.heap.push (revObj l ((its.toArray.size:Int)-1)) }) (d:=l) (r:=s1.heap.objs.size) (I1.ok.hd hc) (pl.isList.at fun o e=>z9 _ e) ⟨_,Zh _ rfl,rfl,rfl⟩ (Zt lt) (by rw[Zg,<-hl];exact hz) fun h' tk acc c hk hS hacc=>?_;have hS':h'.get? (s1.heap.objs.size+1)=some (gZ acc c):=by rw[<-zS];exact hS
 show EP X pins σ Q (.ref (s1.heap.push (revObj l ((its.toArray.size:Int)-1))).objs.size) _;rw[zS];have fr:bc X pins H1 s1.heap.objs.size:=I1.fpOk (Zb _) (I1.hok.fresh (Zb _));have fS:bc X pins H1 (s1.heap.objs.size+1):=I1.fpOk (y6 _) (I1.hok.fresh (y6 _));have km:∀b u,b≠s1.heap.objs.size->s1.heap.get? b=some u->h'.get? b=some u:=fun b u hb g=>hk b u hb (z9 _ g);have nsL:∃m,s1.heap.Ns X.env.locals m/\h'.Ns X.env.locals m:=by obtain⟨m,hn,_⟩:=I1.loc;obtain⟨o,es,ep,ho,rr⟩:=id hn;exact⟨m,hn,o,es,ep,km _ _ fr.2.1.symm ho,rr⟩
 have ea:acc.toList=its.reverse:=by
  obtain⟨z1,z2⟩:=hacc;have z1':acc.size=its.length:=by rw[z1,Zg]
  refine List.ext_getElem (by rw[ZM,z1',Yo]) fun i h1 h2=>?_;have hi:i<its.length:=by rw[<-Yo];exact h2
  have z3:its.toArray[its.toArray.size-1-i]?=some acc[i]:=z2 i acc[i] (Array.getElem?_eq_getElem (by rw[z1'];exact hi));rw[Zg,List.getElem?_toArray,Za (by omega)]at z3;rw[List.getElem_reverse,Array.getElem_toList];exact(Zw z3).symm
 have new:ObjOk X.prog X.w (upd H1 (s1.heap.objs.size+1) (.lst xs.reverse)) h' (s1.heap.objs.size+1) (.lst xs.reverse):=⟨by rw[Yo];exact hz,its.reverse,c,rv.reverse,by rw[<-ea,Array.toArray_toList];exact hS'⟩
 have I4:=Inv.tookF (ch:=[s1.heap.objs.size+1,s1.heap.objs.size]) (a:=s1.heap.objs.size+1) (o:=.lst xs.reverse) (t':=tk) I1 (by simp) (fun b hb=>by
  simp only[Ze,Zo,ZJ]at hb;rcases hb with rfl|rfl
  ·exact fS
  ·exact fr) (fun b u _ hx gg=>km b u (fun zz=>hx (by simp[zz])) gg) nsL new
 exact⟨.ref _,_,I4,rfl,q _ fS.1⟩
end
section
variable{X:Cx}{o e:Expr}{to te:TE}{apos cpos:Pos}
theorem Ao(ho:QE X o to)(he:QE X e te)(hs:aA e=true:=by rfl)(hbase:attributeBase o "pop" X.env (eval o X.env)=eval o X.env:=by rfl)(hline:(apos.endLine==cpos.line)=true:=by rfl) :
  QE X (.Call (.Attribute o "pop" apos) [e] [] cpos) (tBM X.K "list" vW to (cA te dJ)):=by
 have h1:=aB (es:=[]) (env:=X.env) hs;have h2:starEach ([]:List Expr) X.env=[]:=rfl;refine⟨jy PySem.F.plainAttrs_list PySem.F.slot_list_pop PySem.F.type_list_pop xC ho.h (pa he.h fO hs) hbase ?_ hline h1 (by rw[h2];rfl)⟩;rw[h1,h2];rfl
end
open PySem PySem.Spec PyProof.Rows PySem.W
open PySem PySem.Spec PyProof.Rows PySem.W
def oY(K:PySem.W.Frag)(a b:Addr)(xs ys:List V):It :=
 ⟨fun i H=>i<xs.length/\SqL K H a xs/\SqL K H b ys,fun i H x H'=>∃T p q,H T=none/\xs[i]?=some p/\ys[i]?=some q/\x=.ref T/\H'=upd H T (.tup [p,q]),fun i H=>i=xs.length/\SqL K H a xs/\SqL K H b ys⟩
abbrev Ct(z u v i1 i2 a b:Addr):Nat->Heap->Prop:=fun i h=>IsZip h z u v .none/\IsPair h u (.ref i1) (.ref i2)/\(∃p q,IsPair h v p q)/\h.IsListIter i1 a i/\h.IsListIter i2 b i
theorem wF{P:Program}{w:World}{K:PySem.W.Frag}{elts:List Expr}{kt:Nat}{tp:Pos}{z u v i1 i2 a b:Addr}{xs ys:List V}(hl:xs.length=ys.length)(D:[z,u,v,i1,i2].Nodup)(ha:∀c∈[z,u,v,i1,i2],c≠a/\c≠b) :
  Turn P w K (.Tuple elts kt tp) (oY K a b xs ys) [z,u,v,i1,i2] z (Ct z u v i1 i2 a b):=by
 have nd:(z≠u/\z≠v/\z≠i1/\z≠i2)/\(u≠v/\u≠i1/\u≠i2)/\(v≠i1/\v≠i2)/\i1≠i2:=by simpa using D
 obtain⟨⟨zu,zv,z1,z2⟩,⟨uv,u1,u2⟩,⟨v1,v2⟩,i12⟩:=nd;have az:=ha z (by simp);have av:=ha v (by simp);have a1:=ha i1 (by simp);have a2:=ha i2 (by simp);have ap:ZAp z u v i1 i2 [i1,a] [i2,b]:=⟨zu.symm,zv.symm,uv,u1,u2,v1,v2,z1.symm,z2.symm,i12,by simp[z1,az.1],by simp[z2,az.2],by simp[v1,av.1],by simp[v2,av.2],by simp[i12.symm,a2.1],by simp[i12,a1.2]⟩
 refine⟨by simp,fun i h st c hc=>?_,fun i h h' st k=>?_,?_,?_,fun A i s Q E st h=>wpAny_pyIter_zip st.1 h⟩
 ·obtain⟨e1,e2,⟨p,q,e3⟩,⟨o4,e4,_,d4⟩,⟨o5,e5,_,d5⟩⟩:=st;simp only[Ze,Zo,ZJ]at hc;rcases hc with rfl|rfl|rfl|rfl|rfl
  ·exact⟨_,e1,fun v z=>nomatch z⟩
  ·exact⟨_,e2,fun v z=>nomatch z⟩
  ·exact⟨_,e3,fun v z=>nomatch z⟩
  ·exact⟨_,e4,fun v z=>by rw[d4]at z;cases z⟩
  ·exact⟨_,e5,fun v z=>by rw[d5]at z;cases z⟩
 ·obtain⟨e1,e2,⟨p,q,e3⟩,⟨o4,e4,r4⟩,⟨o5,e5,r5⟩⟩:=st;exact⟨k z (by simp) _ e1,k u (by simp) _ e2,⟨p,q,k v (by simp) _ e3⟩,⟨o4,k i1 (by simp) _ e4,r4⟩,⟨o5,k i2 (by simp) _ e5,r5⟩⟩
 ·intro X hP hw hK hc i pins s σ H E I hf st hg;subst hP hw hK;obtain⟨e1,e2,⟨p,q,e3⟩,e4,e5⟩:=st;obtain⟨hi,hx,hy⟩:=hg;obtain⟨its,rx,px,zx⟩:=I.list hx;obtain⟨jts,ry,py,zy⟩:=I.list hy;have lx:i<its.toArray.size:=by rw[Zg,<-rx.length];exact hi
  have ly:i<jts.toArray.size:=by rw[Zg,<-ry.length,<-hl];exact hi
  have hh:=I.ok.hd hc;have hT:s.TypeIs (.ref z) "zip":=⟨_,e1,rfl⟩
  unfold pyNext;refine z0 (wpAny_attempt (wpAny_callSpecial?_slot (name:=Str.ofString "__next__") hT F.slot_zip_next (wpAny_call_entry F.slot_zip_next hT F.entry_zip_next
   (yq (Draws.list (A:=X.A.in1) hh i1 a a1.1.symm its.toArray) (Draws.list (A:=X.A.in1) hh i2 b a2.2.symm jts.toArray) ap e1 e2 e3 ⟨e4,px.isList⟩ ⟨e5,py.isList⟩ lx ly fun h' tk x y qx qy zz vv s1 s2 pp kp=>Zj ?_) (F.args_zip_next_1 _))))
  refine⟨_,rfl,wpAny_letOwnedTupleGo_zip (s:={ s with heap:=h',toks:=tk }) zz fun h2 z2' sb=>?_⟩;obtain⟨xv,ex⟩:∃xv,xs[i]?=some xv:=⟨xs[i],by simp[hi]⟩
  obtain⟨yv,ey⟩:∃yv,ys[i]?=some yv:=⟨ys[i]'(by omega),by simp[show i<ys.length by omega]⟩
  obtain⟨x',gx,rxv⟩:=rx.get ex;obtain⟨y',gy,ryv⟩:=ry.get ey;have qx':its[i]?=some x:=by simpa using qx
  have qy':jts[i]?=some y:=by simpa using qy
  rw[gx]at qx';rw[gy]at qy';cases qx';cases qy';have ltz:z<s.heap.objs.size:=Zf e1;have kp2:∀c o,c∉[z,u,v,i1,i2]->s.heap.get? c=some o->h2.get? c=some o:=fun c o hc e=>by simp only[Ze,Zo,ZJ,not_or]at hc;exact sb.extBut c o hc.1 (kp c o hc.1 hc.2.2.1 hc.2.2.2.1 hc.2.2.2.2 e)
  have tT:IsTup h2 s.heap.objs.size [x,y].toArray:=⟨_,sb.extBut _ _ (ZV ltz) pp,rfl,_,rfl⟩
  refine⟨.ref s.heap.objs.size,upd H s.heap.objs.size (.tup [xv,yv]),I.turnT (t':=tk) hf kp2 tT (.cons rxv (.cons ryv .nil)) (sz rfl),rfl,⟨_,xv,yv,I.hok.fresh (Zb _),ex,ey,rfl,rfl⟩,?_,fun c hc=>?_⟩
  ·exact⟨z2',sb.extBut _ _ zu.symm (kp _ _ zu.symm uv u1 u2 e2),⟨_,_,sb.extBut _ _ zv.symm vv⟩,s1.1.extBut sb.extBut z1.symm,s2.1.extBut sb.extBut z2.symm⟩
  ·rw[ac]
   ·exact(hf c hc).1
   ·obtain⟨o,eo,_⟩:∃o,s.heap.get? c=some o/\True:=by
     simp only[Ze,Zo,ZJ]at hc;rcases hc with rfl|rfl|rfl|rfl|rfl
     ·exact⟨_,e1,trivial⟩
     ·exact⟨_,e2,trivial⟩
     ·exact⟨_,e3,trivial⟩
     ·obtain⟨o,eo,_⟩:=e4;exact⟨o,eo,trivial⟩
     ·obtain⟨o,eo,_⟩:=e5;exact⟨o,eo,trivial⟩
    exact Zt (Zf eo)
 ·intro X hP hw hK hc i pins s σ H E I hf st hg;subst hP hw hK;obtain⟨e1,e2,⟨p,q,e3⟩,e4,e5⟩:=st;obtain⟨rfl,hx,hy⟩:=hg;obtain⟨its,rx,px,zx⟩:=I.list hx;obtain⟨jts,ry,py,zy⟩:=I.list hy;have lx:its.toArray.size=xs.length:=by rw[Zg,<-rx.length]
  have hh:=I.ok.hd hc;have hT:s.TypeIs (.ref z) "zip":=⟨_,e1,rfl⟩
  unfold pyNext;refine z0 (wpAny_attempt (wpAny_callSpecial?_slot (name:=Str.ofString "__next__") hT F.slot_zip_next (wpAny_call_entry F.slot_zip_next hT F.entry_zip_next
   (AB (Draws.list (A:=X.A.in1) hh i1 a a1.1.symm its.toArray) (Draws.list (A:=X.A.in1) hh i2 b a2.2.symm jts.toArray) ap e1 e2 e3 ⟨by rw[lx];exact e4,px.isList⟩ fun h' e kp he=>?_) (F.args_zip_next_1 _))))
  obtain⟨o,ho,hco⟩:=he;refine z0 (wpAny_isInstance (T:="StopIteration") (b:=true) ⟨o,ho,hco⟩ isSubtype_stop (Zj ⟨rfl,?_⟩));exact I.turnM (t':=s.toks) hf fun c ob hc e=>by simp only[Ze,Zo,ZJ,not_or]at hc;exact kp c ob hc.1 hc.2.2.1 hc.2.2.2.1 hc.2.2.2.2 e
theorem tH(l1 l2:Addr)(xs ys:Array Value) :
  Meets (Builtin.«zip.__new__» ⟨[.type "zip",.ref l1,.ref l2],[]⟩) (fun _ R s=>s.heap.IsList l1 xs/\s.heap.IsList l2 ys /\
   R (.ok (.ret (.ref ((((s.heap.push { cls:=.type "list_iterator",data:=.fields #[.ref l1,.int 0 0] }).push { cls:=.type "list_iterator",data:=.fields #[.ref l2,.int 0 0] }).push { cls:=.type "tuple",data:=.seq #[.ref s.heap.objs.size,.ref (s.heap.push { cls:=.type "list_iterator",data:=.fields #[.ref l1,.int 0 0] }).objs.size] }).push { cls:=.type "tuple",data:=.seq #[.none,.none] }).objs.size)))
    { s with heap:=((((s.heap.push { cls:=.type "list_iterator",data:=.fields #[.ref l1,.int 0 0] }).push { cls:=.type "list_iterator",data:=.fields #[.ref l2,.int 0 0] }).push { cls:=.type "tuple",data:=.seq #[.ref s.heap.objs.size,.ref (s.heap.push { cls:=.type "list_iterator",data:=.fields #[.ref l1,.int 0 0] }).objs.size] }).push { cls:=.type "tuple",data:=.seq #[.none,.none] }).push { cls:=.type "zip",data:=.fields #[.none,.bool false,.bool false,.ref ((s.heap.push { cls:=.type "list_iterator",data:=.fields #[.ref l1,.int 0 0] }).push { cls:=.type "list_iterator",data:=.fields #[.ref l2,.int 0 0] }).objs.size,.ref (((s.heap.push { cls:=.type "list_iterator",data:=.fields #[.ref l1,.int 0 0] }).push { cls:=.type "list_iterator",data:=.fields #[.ref l2,.int 0 0] }).push { cls:=.type "tuple",data:=.seq #[.ref s.heap.objs.size,.ref (s.heap.push { cls:=.type "list_iterator",data:=.fields #[.ref l1,.int 0 0] }).objs.size] }).objs.size] } }) :=
 .of_wp fun prog w A R s h=>by
  obtain⟨hp,g,d,tk,os⟩:=s;obtain⟨t1,t2,h⟩:=h;have hsub:=sub_zip;have T1:Heap.IsList (Shared.heap ⟨hp,g,d,tk,os⟩) l1 xs:=t1;have T2:Heap.IsList (Shared.heap ⟨hp.push { cls:=.type "list_iterator",data:=.fields #[.ref l1,.int 0 0] },g,d,tk,os⟩) l2 ys:=Heap.IsList.push t2 _
  wp_walk using wpAny_pyIter_list T1,wpAny_pyIter_list T2
  exact⟨_,rfl,h⟩
def yC(K:PySem.W.Frag)(ta:TA):TI:=fun σ H R=>ta σ H fun vs H1=>∃a b xs ys,vs=[.ref a,.ref b]/\SqL K H1 a xs/\SqL K H1 b ys/\xs.length=ys.length/\R (oY K a b xs ys) H1
section
variable{X:Cx}
theorem Ae{e1 e2:Expr}{ta:TA}{p pos tp:Pos}{elts:List Expr}{kt:Nat}(hg:Gl X "zip")(hm:X.mg "zip" = none)(ha:PA X [e1,e2] ta)(n1:aA e1=true)(n2:aA e2=true):PI X (.Tuple elts kt tp) (.Call (.Name "zip" p) [e1,e2] [] pos) (yC X.K ta):=by
 intro pins s σ H R I h;refine Call_ (cS I hg hm boot_zip (ZP (thn (ha pos pins s σ H _ I h) fun us s1 hz9=>?_) (aB n1) (aY (by simp[n2]))));obtain⟨vs,H1,I1,r1,q1⟩:=hz9;obtain⟨a,b,xs,ys,e,hx,hy,hl,q⟩:=q1;subst e;obtain⟨ua,ub,rfl,ra,rb⟩:=gz r1;cases ra;cases rb;obtain⟨its,rx,px,zx⟩:=I1.list hx;obtain⟨jts,ry,py,zy⟩:=I1.list hy;refine callType_new F.called_zip (by decide) (F.typeCall_zip_2 _ _) (F.newCall_zip_2 _ _) (fun obj=>F.args_object_init_3 obj _ _) F.entry_zip_new (tH a b its.toArray jts.toArray) ⟨px.isList,py.isList,?_⟩;generalize ea:({ cls:=.type "list_iterator",data:=.fields #[.ref a,.int 0 0] }:Obj)=oa;generalize eb:({ cls:=.type "list_iterator",data:=.fields #[.ref b,.int 0 0] }:Obj)=ob;have z1:(s1.heap.push oa).objs.size=s1.heap.objs.size+1:=Heap.size_push ..;have z2:((s1.heap.push oa).push ob).objs.size=s1.heap.objs.size+2:=by rw[Heap.size_push,z1]
 rw[z2,z1];generalize eu:({ cls:=.type "tuple",data:=.seq #[.ref s1.heap.objs.size,.ref (s1.heap.objs.size+1)] }:Obj)=ou;have z3:(((s1.heap.push oa).push ob).push ou).objs.size=s1.heap.objs.size+3:=by rw[Heap.size_push,z2]
 generalize ev:({ cls:=.type "tuple",data:=.seq #[.none,.none] }:Obj)=ov;have z4:((((s1.heap.push oa).push ob).push ou).push ov).objs.size=s1.heap.objs.size+4:=by rw[Heap.size_push,z3]
 rw[z4,z3];generalize ez:({ cls:=.type "zip",data:=.fields #[.none,.bool false,.bool false,.ref (s1.heap.objs.size+2),.ref (s1.heap.objs.size+3)] }:Obj)=oz;have g5:(((((s1.heap.push oa).push ob).push ou).push ov).push oz).get? (s1.heap.objs.size+4)=some oz:=by rw[<-z4];exact Zh _ (by rw[<-ez];rfl)
 have g4:(((((s1.heap.push oa).push ob).push ou).push ov).push oz).get? (s1.heap.objs.size+3)=some ov:=by rw[<-z3];exact z9 _ (Zh _ (by rw[<-ev];rfl))
 have g3:(((((s1.heap.push oa).push ob).push ou).push ov).push oz).get? (s1.heap.objs.size+2)=some ou:=by rw[<-z2];exact z9 _ (z9 _ (Zh _ (by rw[<-eu];rfl)))
 have g2:(((((s1.heap.push oa).push ob).push ou).push ov).push oz).get? (s1.heap.objs.size+1)=some ob:=by rw[<-z1];exact z9 _ (z9 _ (z9 _ (Zh _ (by rw[<-eb];rfl))))
 have g1:(((((s1.heap.push oa).push ob).push ou).push ov).push oz).get? s1.heap.objs.size=some oa:=z9 _ (z9 _ (z9 _ (z9 _ (Zh _ (by rw[<-ea];rfl)))));have kp:∀c o,s1.heap.get? c=some o->(((((s1.heap.push oa).push ob).push ou).push ov).push oz).get? c=some o:=fun c o e=>z9 _ (z9 _ (z9 _ (z9 _ (z9 _ e))));generalize((((s1.heap.push oa).push ob).push ou).push ov).push oz=hN at g1 g2 g3 g4 g5 kp ⊢;have I2:Inv X pins σ H1 { s1 with heap:=hN }:=I1.kept (t':=s1.toks) kp;have la:a<s1.heap.objs.size:=(let⟨_,ho,_⟩:=px.isList;Zf ho)
 have lb:b<s1.heap.objs.size:=(let⟨_,ho,_⟩:=py.isList;Zf ho)
 subst ea eb eu ev ez;have base:∀c∈[s1.heap.objs.size+4,s1.heap.objs.size+2,s1.heap.objs.size+3,s1.heap.objs.size,s1.heap.objs.size+1],s1.heap.objs.size<=c:=fun c hc=>by simp only[Ze,Zo,ZJ]at hc;omega
 refine⟨⟨_,g5,rfl⟩,?_⟩;show wpAny (model X.prog X.w) X.A (pyIter (.ref (s1.heap.objs.size+4))) (PIE X pins σ (.Tuple elts kt tp) R) X.xe { s1 with heap:=hN };refine wpAny_pyIter_zip g5 ?_;refine⟨s1.heap.objs.size+4,[s1.heap.objs.size+4,s1.heap.objs.size+2,s1.heap.objs.size+3,s1.heap.objs.size,s1.heap.objs.size+1],Ct (s1.heap.objs.size+4) (s1.heap.objs.size+2) (s1.heap.objs.size+3) s1.heap.objs.size (s1.heap.objs.size+1) a b,_,H1,rfl,I2,
  wF hl ?_ (fun c hc=>⟨ZV (Zy la (base c hc)),ZV (Zy lb (base c hc))⟩),⟨g5,g3,⟨_,_,g4⟩,⟨_,g1,rfl,rfl⟩,⟨_,g2,rfl,rfl⟩⟩,fun c hc=>?_,q⟩
 ·exact Bk s1.heap.objs.size
 ·exact I1.fpOk (base c hc) (I1.hok.fresh (base c hc))
theorem uX{e1 e2:Expr}{ta:TA}{p pos tp:Pos}{elts:List Expr}{kt:Nat}(hm:X.mg "zip" = none)(ha:QA X [e1,e2] ta)(hg:Gl X "zip":=by rfl)(n1:aA e1=true:=by rfl)(n2:aA e2=true:=by rfl):QI X (.Tuple elts kt tp) (.Call (.Name "zip" p) [e1,e2] [] pos) (yC X.K ta):=⟨Ae hg hm ha.h n1 n2⟩
end
theorem xp{K:PySem.W.Frag}{a b:Addr}{xs ys:List V}{i j:Nat}{tb:TS}{D:Ends}{σ:St}{H:Hp}(Pv:Nat->St->Hp->Prop)(h0:Pv 0 σ H)(ha:∀i σ H,i<=xs.length->Pv i σ H->SqL K H a xs)(hb:∀i σ H,i<=xs.length->Pv i σ H->SqL K H b ys)(hl:xs.length=ys.length)(hs:∀k x y σ H,xs[k]?=some x->ys[k]?=some y->Pv k σ H->∀T,H T=none->tb { D with nx:=Pv (k+1),ct:=Pv (k+1),bk:=D.nx } ((σ.set i (some x)).set j (some y)) (upd H T (.tup [x,y])))(hd:∀σ H,Pv xs.length σ H->D.nx σ H) :
  ∃W:Nat->Nat->St->Hp->Prop,(∃m,W 0 m σ H)/\∀k m σ H,W k m σ H ->
   ((oY K a b xs ys).stop k H/\D.nx σ H)\/((oY K a b xs ys).go k H/\∃N:St->Hp->Prop,(∀σ' H',N σ' H'->∃m',m'<m/\W (k+1) m' σ' H')/\∀x H',(oY K a b xs ys).yld k H x H'->mm K 2 (gi (bV i) (gi (bV j) ml)) x σ H' fun σ2 H2=>tb { D with nx:=N,ct:=N,bk:=D.nx } σ2 H2):=by
 refine⟨fun k m σ H=>m=xs.length-k/\k<=xs.length/\Pv k σ H,⟨xs.length,by simp,ZB _,h0⟩,?_⟩;rintro k m σ H ⟨rfl,hk,pv⟩;by_cases hlt:k<xs.length
 ·refine .inr ⟨⟨hlt,ha k σ H hk pv,hb k σ H hk pv⟩,Pv (k+1),fun σ' H' z=>⟨xs.length-(k+1),by omega,rfl,hlt,z⟩,fun x H' y=>?_⟩;obtain⟨T,p,q,hT,hx,hy,rfl,rfl⟩:=y;exact⟨T,[p,q],rfl,SqT.of aa,rfl,p,[q],rfl,q,[],rfl,rfl,hs k p q σ H hx hy pv T hT⟩
 ·have e:k=xs.length:=by omega
  subst e;exact .inl ⟨⟨rfl,ha _ σ H hk pv,hb _ σ H hk pv⟩,hd σ H pv⟩
section
variable{X:Cx}
structure QPs(X:Cx)(pos:Pos)(keys:List (Option Expr))(values:List Expr)(trs:List (TE×TE)):Prop where
 h:PPs X pos keys values trs
theorem vG:QOp X (binaryOp .Mult) (fun x y H Q=>∃(z:Str) (n:Int),x=.str z/\y=.int n/\z.length=1/\0<=n/\n<=1000/\∀y:Str,y.length=n.toNat->(∀c∈y.cps.toList,c∈z.cps.toList)->Q (.str y) H):=by
 refine⟨?_⟩;intro pins s σ H x y v u Q I rx ry h;obtain⟨z,n,rfl,rfl,hz,n1,n2,q⟩:=h;by_cases c:n<1
 ·have e:n=0:=by omega
  subst e;obtain⟨t,rfl⟩:=rx;obtain⟨t',rfl⟩:=ry;exact PySem.P.mul_str_none (by decide) (by decide) ⟨.str Str.empty,H,I.tok _,⟨_,rfl⟩,q Str.empty rfl fun c hc=>nomatch hc⟩
 ·exact Bn.h pins s σ H _ _ v u Q I rx ry ⟨z,n,rfl,rfl,hz,by omega,n2,q⟩
end
open PySem PySem.Spec PyProof.Rows PySem.W
section
variable{X:Cx}
theorem wU(hc:X.calm=true):df X (.builtin "any") (fun xs H Q=>∃(p:Addr) (bs:List Bool),xs=[.ref p]/\SqL X.K H p (bs.map V.bl)/\Q (.bl (bs.any id)) H):=by
 intro pins s σ H xs us Q I r h;obtain⟨p,bs,rfl,hq,q⟩:=h;obtain⟨u,rfl,rx⟩:=bX r;cases rx;obtain⟨its,rv,pl,hz⟩:=I.list hq;have hl:=pl.isList;have hlt:p<s.heap.objs.size:=by obtain⟨_,e,_⟩:=hl;exact Zf e
 have hh:=I.ok.hd hc;have hlen:bs.length=its.length:=by rw[<-rv.length,Zi]
 refine call_any_walk (wpAny_pyIter_list hl ?_);refine⟨s.heap.objs.size,[s.heap.objs.size,p],[s.heap.objs.size],its.toArray.size,_,_,fun i=>(bs[i]?).getD false,rfl,Walks.list (A:=X.A.in1) hh _ p (Zt hlt) its.toArray,
  ⟨⟨_,Zh _ rfl,rfl,rfl⟩,hl.push _⟩,fun i v s' Q' E' hP hQ=>?_,fun h' tk hk=>?_⟩
 ·have hv:its[i]?=some v:=by simpa using hP
  have hi:i<bs.length:=by rw[hlen];exact(Zk.mp hv).1
  obtain⟨u,hu,ru⟩:=rv.get (i:=i) (x:=.bl bs[i]) (by rw[Zm,Za hi];rfl);rw[hv]at hu;cases hu;cases ru;have hQ':Q' ((bs[i]?).getD false) s':=hQ;rw[Za hi]at hQ';exact ZU hQ'
 ·have e:((List.range its.toArray.size).any fun i=>(bs[i]?).getD false)=bs.any id:=by rw[Zg,<-hlen];exact LSm.range_any bs
  rw[e];exact⟨.bl _,H,I.kept (t':=tk) (LSm.kept_iter hk),rfl,q⟩
theorem Cy(hc:X.calm=true):QCall X (.builtin "any") (fun xs H Q=>∃(p:Addr) (bs:List Bool),xs=[.ref p]/\SqL X.K H p (bs.map V.bl)/\Q (.bl (bs.any id)) H):=⟨wU hc⟩
theorem pG{K:PySem.W.Frag}(hK:X.K=K)(hc:X.calm=true):QCall X (.builtin "any") (fun xs H Q=>∃(p:Addr) (bs:List Bool),xs=[.ref p]/\SqL K H p (bs.map V.bl)/\Q (.bl (bs.any id)) H):=by subst hK;exact Cy hc
end
open PySem PySem.Spec PyProof.Rows PySem.W
structure MFn(P:Program)(w:World)(K:PySem.W.Frag)(mg:Str->Option Value)(base:Heap)(k:Nat)(C:Addr)(m:Str)(ps:List Str)(sp:Sp):Prop where
 cl:Cls K C
 ex:∃f fd,FnOk P w K mg base CX0 k f fd ps sp/\Meth K C m f/\Binds K fd ps []
structure MkFn(P:Program)(w:World)(K:PySem.W.Frag)(mg:Str->Option Value)(base:Heap)(k:Nat)(C:Addr)(x:Str)(ps:List Str)(sp:Sp):Prop where
 cl:Cls K C
 mgC:mg x=some (.ref C)
 ex:∃f fd,FnOk P w K mg base CX0 k f fd ps sp/\Mk K C f/\Binds K fd ps []
section
variable{X:Cx}{k:Nat}{C:Addr}{m x f:Str}{p pos pos' apos:Pos}{o e value:Expr}{es:List Expr}{ps:List Str}{sp:Sp}{t:TA}{ta tv:TE}
theorem fm(he:QE X e ta)(hb:attributeBase e f X.env (eval e X.env)=eval e X.env:=by rfl):QE X (.Attribute e f pos) (yg X.K ta f):=⟨BC he.h hb⟩
theorem lK(ha:QE X o ta)(hv:QE X value tv)(hs:swapsWith value (some (.Attribute o f pos')) pos.line X.env=pure false:=by rfl):QS X (.Assign [.Attribute o f pos'] value pos) (B6 X.K ta tv f):=⟨BR ha.h hv.h hs⟩
theorem dr{pl:Sem Bool}(F:MFn X.prog X.w X.K X.mg X.base k C m ps sp)(hr:Room k X.A)(he:QE X o ta)(ha:QA X (e::es) t)(hs:(e::es).all aA=true:=by rfl)(ht:eval (.Call (.Attribute o m apos) (e::es) [] pos) X.env=(do
   let ov ←eval o X.env
   standAt apos.atName
   let(f,first) ←holding [ov] (getMethod ov m pl)
   callWith pos f first (backTo pos (starEach (e::es) X.env)) (backToKw pos (keywordEach [] X.env))):=by rfl) :
  QE X (.Call (.Attribute o m apos) (e::es) [] pos) (jF C m sp [] E0 ta t):=by
 obtain⟨f,fd,G,hm,b⟩:=F.ex;rw[Yd,Zz]at hs;exact⟨sq (pl:=pl) he.h F.cl hm G hr b .nil oK ha.h (aB hs.1) (aY hs.2) ht⟩
theorem bE{pl:Sem Bool}(F:MFn X.prog X.w X.K X.mg X.base k C m ps sp)(hr:Room k X.A)(he:QE X o ta)(ht:eval (.Call (.Attribute o m apos) [] [] pos) X.env=(do
   let ov ←eval o X.env
   standAt apos.atName
   let(f,first) ←holding [ov] (getMethod ov m pl)
   callWith pos f first (backTo pos (starEach [] X.env)) (backToKw pos (keywordEach [] X.env))):=by rfl) :
  QE X (.Call (.Attribute o m apos) [] [] pos) (jF C m sp [] E0 ta dJ):=by
 obtain⟨f,fd,G,hm,b⟩:=F.ex;exact⟨xL (pl:=pl) he.h F.cl hm G hr b .nil oK ht⟩
theorem qH(F:MkFn X.prog X.w X.K X.mg X.base k C x ps sp)(hr:Room (k+1) X.A)(ha:QA X (e::es) t)(hg:Gl X x:=by rfl)(hs:(e::es).all aA=true:=by rfl)(hdb:(x==("__debug__":Str))=false:=by decide) :
  QE X (.Call (.Name x p) (e::es) [] pos) (yR C sp [] E0 t):=by
 obtain⟨f,fd,G,hm,b⟩:=F.ex;rw[Yd,Zz]at hs;exact⟨zY hm G hr hg F.mgC b .nil oK ha.h hdb (aB hs.1) (aY hs.2)⟩
end
open PySem PySem.Spec PyProof.Rows PySem.W
open PySem PySem.Spec PyProof.Rows PySem.W
section
variable{prog:Program}{w:World}{A:Around}{E:Value->Shared->Prop}{h:Heap}{g:Array GenState}{d:Drawn}{t:Nat}{os:OsState}
variable{nm q:Str}{C N:Addr}{bs bm bmB:List Value}{hdct:Bool}{sn:List Str}{sub:List Value}{ab:Bool}{col:Option Bool}{dd:Option Addr}{k0 k1 k2 k3 k5:Option Value}{B newId initId:String}
theorem lY(F:ExcBaseFacts B newId initId bmB)(T:OwnTail h bmB bm){mN:Str->Option Value}{rest:List Value}{fI:Addr}{oI:Obj}{Q:PySem.Fin->Shared->Prop}(hC:h.get? C=some (excClassObj nm q C N bs bm hdct sn sub ab col dd k0 k1 k2 k3 k5 newId))(hn:h.Ns N mN)(hi:mN "__init__" = some (.ref fI))(hfI:h.get? fI=some oI)(hfc:oI.cls=.type "function")(hq:∀h' e,Heap.MadeExcOf h h' e (.ref C) rest->wpAny (model prog w) A (call (.ref fI) (.ref e::rest)) (fun r s'=>r=.none/\Q (.done (.ret (.ref e))) s') E ⟨h',g,d,t,os⟩)(hrest:rest.length<=sizeLine) :
  wpAny (model prog w) A (Builtin.«type.__call__» ⟨.ref C::rest,[]⟩) Q E ⟨h,g,d,t,os⟩:=by
 repeat(first|with_reducible refine Yn hC ?_|with_reducible refine wpAny_madeBy_exc hC ?_|wp_step)
 refine codeAny_call_builtin_code (Code.quiet_builtin _ F.quiet) (wpAny_check_new_subT F T hC ?_);refine codeAny_exc_new_subT F T hC ?_ hrest;show wpAny _ _ _ _ _ _;have kp:∀b o,h.get? b=some o->((h.push { cls:=.type "tuple",data:=.seq rest.toArray }).push { cls:=.ref C,data:=.fields #[.ref h.objs.size,.none,.none,.none,.bool false,.none] }).get? b=some o :=
  fun b o e=>z9 _ (z9 _ e)
 have hn₁:((h.push { cls:=.type "tuple",data:=.seq rest.toArray }).push { cls:=.ref C,data:=.fields #[.ref h.objs.size,.none,.none,.none,.bool false,.none] }).Ns N mN:=hn.keeps kp;have hget:((h.push { cls:=.type "tuple",data:=.seq rest.toArray }).push { cls:=.ref C,data:=.fields #[.ref h.objs.size,.none,.none,.none,.bool false,.none] }).get? (h.objs.size+1) =
   some { cls:=.ref C,data:=.fields #[.ref h.objs.size,.none,.none,.none,.bool false,.none] }:=by heap_get
 have hcC:(Value.ref C::bm).contains (.ref C)=true:=by simp
 unfold isInstance
 repeat(first|with_reducible refine Yn hget ?_|(with_reducible refine wpAny_isSubtype_exc (kp _ _ hC) ?_;rw[hcC])|wp_step)
 show wpAny _ _ (typeLookup (.ref C) _) _ _ _;refine wpAny_typeLookup_tail (kp _ _ hC) hn₁ (T.keeps kp) F.mroIs F.init.lookup ?_;rw[hi];refine Z0 (z0 ?_);unfold bindSpecial;refine z0 (wpAny_typeOf (T:="function") ⟨_,kp _ _ hfI,hfc⟩ ?_);rw[EN (by decide)];refine Zj (z0 (ZY (hq _ (h.objs.size+1) ⟨kp,y7 (y6 _),h.objs.size,hget,y7 (Zb _),?_⟩) (fun r s' hr=>?_) fun _ _ x=>x))
 ·exact z9 _ (Heap.get?_push_at rfl rfl)
 ·obtain⟨rfl,hQ⟩:=hr
  wp_walk
  exact hQ
theorem sU(F:ExcBaseFacts B newId initId bmB)(T:OwnTail h bmB bm){mN:Str->Option Value}{rest:List Value}{fI:Addr}{oI:Obj}{Q:Value->Shared->Prop}(hC:h.get? C=some (excClassObj nm q C N bs bm hdct sn sub ab col dd k0 k1 k2 k3 k5 newId))(hn:h.Ns N mN)(hi:mN "__init__" = some (.ref fI))(hfI:h.get? fI=some oI)(hfc:oI.cls=.type "function")(hq:∀h' e,Heap.MadeExcOf h h' e (.ref C) rest->wpAny (model prog w) (A.under (.builtin "type.__call__" ⟨.ref C::rest,[]⟩)) (call (.ref fI) (.ref e::rest)) (fun r s'=>r=.none/\Q (.ref e) s') E ⟨h',g,d,t,os⟩)(hrest:rest.length<=sizeLine) :
  wpAny (model prog w) A (call (.ref C) rest) Q E ⟨h,g,d,t,os⟩:=by
 have f1:=tc_lookup;have f2:=tc_bind (.ref C);have hT:(⟨h,g,d,t,os⟩:Shared).TypeIs (.ref C) "type":=⟨_,hC,rfl⟩
 refine wpAny_call (codeAny_of_tree ?_);show wpAny _ _ (callAny (.ref C) _) _ _ _
 repeat(any_goals(first|assumption|with_reducible refine Yn hC ?_|wp_step))
 refine⟨rfl,?_⟩;exact codeAny_call_builtin_at (Code.quiet_builtin _ (by decide +kernel)) entry_typeCall (wpAny_check_type_call_sub hC (lY F T hC hn hi hfI hfc (fun h' e hm=>hq h' e hm) hrest))
end
section
variable{M:Model}{A:Around}{E:Value->Shared->Prop}{env:Env}{K:PySem.W.Frag}
theorem vY{C:Addr}{bm:List Value}{s:Shared}{x:Sem Value}{Q:Flow->Shared->Prop}(hC:ExC K C bm)(hh:A.handled=none)(h:wpAny M A x (fun v s₁=>∃e oe,v=.ref e/\K.In s₁.heap/\s₁.heap.get? e=some oe/\oe.cls=.ref C/\(∃t,oe.data=.fields #[.ref t,.none,.none,.none,.bool false,.none])/\E (.ref e) s₁) E s):wpAny M A (raiseStmt env (some x) none) Q E s:=by
 have hcB:(Value.ref C::bm).contains (.type "BaseException")=true:=by rw[List.contains_cons,hC.exc,Bool.or_true]
 unfold raiseStmt;refine z0 (ZY h (fun v s₁ h₁=>?_) fun _ _ x=>x);obtain⟨e,oe,rfl,hk,he,hcl,⟨vs,hd⟩,hE⟩:=h₁;obtain⟨nm,q,N,bs,hdct,sn,sub,ab,col,dd,k0,k1,k2,k3,k5,ni,oC⟩:=hC.cls _ hk;obtain⟨hp,g,d,tk,os⟩:=s₁;obtain⟨oc,od,odt,osl⟩:=oe;cases hcl;cases hd
 repeat(first|with_reducible refine Yn he ?_|with_reducible refine Yn oC ?_|(with_reducible refine wpAny_isSubtype_exc oC ?_;rw[hcB])|wp_step)
 exact wpAny_raiseNew_none hh hE
end
open PySem PySem.Spec PyProof.Rows PySem.W PySem.Builtin PySem.Builtin.ObjectAttr
theorem we(self:Value):refuseLoop self "__setattr__" VE=pure ():=by kernel_rfl
def lF:List Value->Bool
 |.ref _::r=>lF r
 |l=>l==VE
theorem jQ(self:Value):∀{l:List Value},lF l=true->refuseLoop self "__setattr__" l=pure ()
 |.ref c::r,e=>by rw[refuseLoop_ref];exact jQ self e
 | [],e=>nomatch e
 |.type n::r,e=>by rw[show(Value.type n::r)=VE from ZI.mp e];exact we self
 |.none::r,e=>by have:=(ZI (α:=List Value)).mp e;cases this
 |.bool b::r,e=>by have:=(ZI (α:=List Value)).mp e;cases this
 |.int b t::r,e=>by have:=(ZI (α:=List Value)).mp e;cases this
 |.str b t::r,e=>by have:=(ZI (α:=List Value)).mp e;cases this
 |.bytes b t::r,e=>by have:=(ZI (α:=List Value)).mp e;cases this
 |.float b t::r,e=>by have:=(ZI (α:=List Value)).mp e;cases this
 |.builtin b::r,e=>by have:=(ZI (α:=List Value)).mp e;cases this
 |.ellipsis::r,e=>by have:=(ZI (α:=List Value)).mp e;cases this
 |.notImplemented::r,e=>by have:=(ZI (α:=List Value)).mp e;cases this
structure ExS(K:PySem.W.Frag)(c:Addr):Prop where
 sa:findIn K (.ref c) "__setattr__" = some (some (.builtin "object.__setattr__"))
 ov:((clsIn K c).any fun cd=>lF cd.mro&&cd.hasDict)=true
 ob:mroIn K c (.type "object")=some true
section
variable{prog:Program}{w:World}{K:PySem.W.Frag}{A:Around}{R:Result->Shared->Prop}{s:Shared}{x C:Addr}
theorem zT{ox:Obj}{od:Option Obj}{name:Str}{tk:Tok}{v:Value}(X:K.In s.heap)(I:InstAt s.heap x ox C od)(S:ExS K C)(hn:findIn K (.ref C) name=some none)(h:wpAny (model prog w) A.in1 (storeInOwnDict (.ref x) (.ref C) (.str name tk) name v false)
   (fun fin s'=>match fin with|.done f=>R (.ok f) s'|.again c'=>c'.quiet=true/\codeAny (model prog w) A c' R s') (fun e s'=>R (.error e) s') s) :
  codeAny (model prog w) A (.call (.builtin "object.__setattr__") ⟨[.ref x,.str name tk,v],[]⟩) R s:=by
 have SF:=PySem.F.store_object;obtain⟨cd,hc,ho⟩:=any_some S.ov;rw[Zz]at ho;have sub:Looks (model prog w) s.heap (isInstance (.ref x) (.type "object")) true:=I.type.andThen (looks_mroIn X S.ob);refine codeAny_call_builtin SF.slot.plain SF.entry (@check_slot (model prog w) _ _ s "object.__setattr__" "object" "__setattr__" (.ref x) [.str name tk,v] [] _ SF.kind SF.split sub (SF.args (.ref x) (.str name tk) v) ?_);have hm:Looks (model prog w) s.heap (mroOf (.ref C)) cd.mro:=(looks_clsIn X hc).andThen .now;rw[osa_eq,refuse_eq];refine z0 (z0 (I.type.here (z0 (hm.here ?_))));rw[jQ _ ho.1];refine Zj (z0 (I.type.here (z0 ((looks_findIn X hn).here (z0 (Looks.now.here ?_))))));exact h
end
def exN(ea c t:Addr)(dc:Option Addr):HO:=.ext fun h=>h.get? ea=some { cls:=.ref c,dict:=dc,data:=.fields #[.ref t,.none,.none,.none,.bool false,.none] }
theorem uQ{P:Program}{w:World}{H:Hp}{h:Heap}{ea c t:Addr}{dc:Option Addr}(e:h.get? ea=some { cls:=.ref c,dict:=dc,data:=.fields #[.ref t,.none,.none,.none,.bool false,.none] }):ObjOk P w H h ea (exN ea c t dc) :=
 ⟨e,⟨_,e⟩,fun _ _ p k=>k _ p⟩
section
variable{X:Cx}{pins:List (Addr×Obj)}{σ:St}{H:Hp}{s:Shared}{a c t:Addr}{f:Str}{y:V}{u:Value}{A:Around}{E:Value->Shared->Prop}
theorem As{Q:Unit->Shared->Prop}(I:Inv X pins σ H s)(e:H a=some (exN a c t none))(S:ExS X.K c)(n:NoAttr X.K c f)(ry:RelV y u)(h:∀d s',H d=none->Inv X pins σ (upd (upd H d (.xd [(f,y)])) a (exN a c t (some d))) s'->Q () s'):wpAny (model X.prog X.w) A (setAttr (.ref a) f u) Q E s:=by
 have hx:s.heap.get? a=some { cls:=.ref c,dict:=none,data:=.fields #[.ref t,.none,.none,.none,.bool false,.none] }:=(show ObjOk X.prog X.w H s.heap a (exN a c t none)from I.hok a _ e).1;have J:InstAt s.heap a { cls:=.ref c,dict:=none,data:=.fields #[.ref t,.none,.none,.none,.bool false,.none] } c none:=⟨hx,rfl,rfl,True.intro⟩
 obtain⟨cd,hc,ho⟩:=any_some S.ov;rw[Zz]at ho;refine PySem.W.set_plain I.kIn J S.sa (zT (s:={ s with toks:=s.toks+1 }) I.kIn J S n ?_);refine z0 (Zj (z0 (z0 (wpAny_loadPart hx (z0 (PySem.W.Looks.here (s:={ s with toks:=s.toks+1 }) (PySem.W.looks_clsIn I.kIn hc) ?_))))));rw[ho.2];have hxs:a≠s.heap.objs.size:=Zt (Zf hx);have hx1:(s.heap.push { cls:=.type "dict",data:=.dict #[] }).get? a=some { cls:=.ref c,dict:=none,data:=.fields #[.ref t,.none,.none,.none,.bool false,.none] }:=z9 _ hx;show wpAny _ _ (alloc { cls:=.type "dict",data:=.dict #[] } >>= fun d=>update a (fun o=>{ cls:=o.cls,dict:=some d,data:=o.data,slots:=o.slots }) >>= fun _=>dictMade (.ref c) a d) _ _ _;refine z0 (wpAny_alloc' ?_);refine z0 (wpAny_update' hx1 ?_);refine Zj ?_;have hgd:((s.heap.push { cls:=.type "dict",data:=.dict #[] }).update a fun o=>{ cls:=o.cls,dict:=some s.heap.objs.size,data:=o.data,slots:=o.slots }).get? s.heap.objs.size=some { cls:=.type "dict",data:=.dict #[] } :=
  (Heap.get?_update_ne _ _ _ _ hxs.symm).trans (Heap.get?_push_at rfl rfl)
 have hnd:((s.heap.push { cls:=.type "dict",data:=.dict #[] }).update a fun o=>{ cls:=o.cls,dict:=some s.heap.objs.size,data:=o.data,slots:=o.slots }).Ns s.heap.objs.size (fun _=>none) :=
  ⟨_,#[],_,hgd,rfl,fun e he=>absurd he (by simp),fun _=>rfl⟩
 refine z0 (Zj (z0 (wpAny_nsSet1 (Heap.Ns1.of_empty hnd) fun h' hn' hs=>?_)));obtain⟨oD,esD,epD,hoD,hdD,hcD⟩:=hn'.count (Within.cons f u Within.nil);refine z0 (wpAny_lookBehind hoD (by rw[hdD];exact pastItsLine_dict (Zr hcD (by rw[Zq,List.length_nil,sizeLine_eq];omega))) ?_);have hx':h'.get? a=some { cls:=.ref c,dict:=some s.heap.objs.size,data:=.fields #[.ref t,.none,.none,.none,.bool false,.none] }:=(hs.2 a hxs).trans (Z5 _ hx1 rfl);have kp:∀b o,b≠a->s.heap.get? b=some o->h'.get? b=some o:=fun b o hb q=>(hs.2 b (Zt (Zf q))).trans ((Heap.get?_update_ne _ _ _ _ hb).trans (z9 _ q));have hd0:H s.heap.objs.size=none:=I.hok.fresh (Zb _);have nd:∀b o,s.heap.get? b=some o->b≠s.heap.objs.size:=fun b o q=>Zt (Zf q);have ne1:∀b v,H b=some v->v≠exN a c t none->b≠a:=fun b v q hv z=>by rw[z,e]at q;exact hv (Zw q).symm
 have ne2:∀b v,H b=some v->b≠s.heap.objs.size:=fun b v q=>ao q hd0;have un:Un X.fs [] H (upd (upd H s.heap.objs.size (.xd [(f,y)])) a (exN a c t (some s.heap.objs.size))) s.heap h':=by
  refine⟨fun b o q m _ _=>kp b o (fun z=>by rw[z,e]at m;cases m) q,fun b o q m _ _=>⟨o.slots,kp b o (fun z=>by rw[z,e]at m;cases m) q⟩,fun b o q m _=>?_,fun b o q _=>?_,fun b xs q=>?_,fun b o v q=>?_,fun b ps q=>⟨#[],?_⟩⟩
  ·rw[ac (fun z=>by rw[z,e]at m;cases m),ac (nd b o q)];exact m
  ·by_cases hb:b=a
   ·exact⟨_,hb▸hx'⟩
   ·exact⟨o,kp b o hb q⟩
  ·rw[ac (ne1 _ _ q (by intro z;cases z)),ac (ne2 _ _ q)];exact q
  ·rw[ac (ne1 _ _ q (by intro z;cases z)),ac (ne2 _ _ q)];exact q
  ·rw[ac (ne1 _ _ q (by intro z;cases z)),ac (ne2 _ _ q),q];simp
 have hok:HOk X.prog X.w (upd (upd H s.heap.objs.size (.xd [(f,y)])) a (exN a c t (some s.heap.objs.size))) h':=fun b v q=>by
  by_cases hb:b=a
  ·subst hb;rw[aa]at q;cases q;exact uQ hx'
  ·rw[ac hb]at q;by_cases hbd:b=s.heap.objs.size
   ·subst hbd;rw[aa]at q;cases q;refine⟨_,hn',fun g=>?_⟩;by_cases hg:g=f
    ·subst hg;rw[EN rfl];show RelO ([(g,y)].lookup g) (some u);rw[ZD,show(g==g)=true by simp];exact ry
    ·rw[EM hg];show RelO ([(f,y)].lookup g) none;rw[ZD,show(g==f)=false by simpa using hg];exact True.intro
   ·rw[ac hbd]at q;refine(I.hok b v q).stay (fun b' v' hb' q'=>kp b' v' ?_ q') (fun b' q'=>?_) fun b' xs q'=>?_
    ·rcases hb' with rfl|z
     ·exact hb
     ·exact ne1 _ _ z (by intro z;cases z)
    ·rw[ac (ne1 _ _ q' (by intro z;cases z)),ac (ne2 _ _ q')];exact q'
    ·rw[ac (ne1 _ _ q' (by intro z;cases z)),ac (ne2 _ _ q')];exact q'
 exact Zj (h _ _ hd0 (I.un un hok))
end
def Dd(K:PySem.W.Frag)(ta tv:TE)(f:Str):TS:=fun D σ H=>tv σ H fun y H1=>ta σ H1 fun x H2=>∃a c t,x=.ref a/\H2 a=some (exN a c t none)/\ExS K c/\NoAttr K c f/\∀d,H2 d=none ->
 D.nx σ (upd (upd H2 d (.xd [(f,y)])) a (exN a c t (some d)))
theorem B7{X:Cx}{o value:Expr}{f:Str}{pos pos':Pos}{ta tv:TE}(ha:QE X o ta)(hv:QE X value tv)(hs:swapsWith value (some (.Attribute o f pos')) pos.line X.env=pure false:=by rfl):QS X (.Assign [.Attribute o f pos'] value pos) (Dd X.K ta tv f):=by refine⟨?_⟩;intro pins s σ H D I h;refine plainObj_wpAny_Assign_Attribute (thn (hv.h pins s σ H _ I h) fun u s1 ⟨y,H1,I1,ry,q⟩=>thn (ha.h pins s1 σ H1 _ I1 q) fun ov s2 hz9=>?_) hs;obtain⟨x,H2,I2,rx,a,c,t,ex,ea,S,n,q2⟩:=hz9;subst ex;obtain rfl:ov=Value.ref a:=rx;exact As I2 ea S n ry fun d s3 hd I3=>⟨σ,_,I3,q2 d hd⟩
open PySem PySem.Spec PyProof.Rows PySem.W
def del(H:Hp)(a:Addr):Hp:=fun b=>if b=a then none else H b
theorem xg{H:Hp}{a:Addr}:del H a a=none:=by unfold del;rw[EN rfl]
theorem dR{H:Hp}{a b:Addr}(h:b≠a):del H a b=H b:=by unfold del;rw[EM h]
theorem vI{H:Hp}{a b:Addr}{u:HO}(h:del H a b=some u):b≠a/\H b=some u:=by
 by_cases c:b=a
 ·rw[c,xg]at h;cases h
 ·rw[dR c]at h;exact⟨c,h⟩
open PySem PySem.Spec PyProof.Rows PySem.W
def pT(K:PySem.W.Frag)(C fI:Addr):Bool:=match K.lookup C with
 | some ⟨.type "type",_,.cls cd,sl⟩=>(match cd.mro,sl.toList with
  |.ref C'::bm,[_,_,_,_,some (.builtin n),_]=>C'==C&&n=="ValueError.__new__"&&!cd.hasDel&&tailIn K VE bm&&nsOkIn K cd.ns&&nsIn K cd.ns "__init__" == some (some (.ref fI))
  | _,_=>false)
 |_=>false
theorem tI{K:PySem.W.Frag}{h:Heap}{N:Addr}{m:Str->Option Value}{n:Str}{v:Value}(X:K.In h)(G:h.Ns N m)(e:nsIn K N n=some (some v)):m n=some v:=by
 obtain⟨o,es,ep,ho,hd,_,hf⟩:=G;unfold nsIn at e;split at e
 ·rename_i c d es' n' sl q;have:=X _ _ q;rw[ho]at this;cases this;cases hd;split at e
  ·rename_i en he;cases e;rw[<-hf];unfold nsFind findBy;rw[<-Array.find?_toList,he];rfl
  ·split at e<;>cases e
 ·cases e
structure ExcAtI(K:PySem.W.Frag)(C fI:Addr)(bm:List Value):Prop where
 isIn:pT K C fI=true
 mro:∃c d cd sl,K.lookup C=some ⟨c,d,.cls cd,sl⟩/\cd.mro=Value.ref C::bm
 exc:bm.contains (.type "BaseException")=true
 fn:∃oI,K.lookup fI=some oI/\oI.cls=.type "function"
theorem kZ{K:PySem.W.Frag}{C fI:Addr}{bm:List Value}(q:ExcAtI K C fI bm){h:Heap}(X:K.In h) :
  ∃nm qn N bs hdct sn sub ab col dd k0 k1 k2 k3 k5 mN,h.get? C=some (excClassObj nm qn C N bs bm hdct sn sub ab col dd k0 k1 k2 k3 k5 "ValueError.__new__")/\h.Ns N mN/\mN "__init__" = some (.ref fI)/\OwnTail h VE bm:=by
 have q1:=q.isIn;obtain⟨c9,d9,cd9,sl9,l9,m9⟩:=q.mro;unfold pT at q1;split at q1
 ·rename_i dd cd sl ho;split at q1
  ·rename_i C' bm' k0 k1 k2 k3 n k5 hm hs;have q2:cd.mro=Value.ref C::bm:=by have z:=ho.symm.trans l9;cases z;exact m9
   rw[hm]at q2;injection q2 with z1 z2;injection z1 with z1;cases z1;cases z2;simp only[Zz,ZI,Bool.not_eq_true']at q1;obtain⟨⟨⟨⟨⟨_,rfl⟩,nd⟩,ht⟩,ok⟩,ni⟩:=q1;have es:sl=#[k0,k1,k2,k3,some (.builtin "ValueError.__new__"),k5]:=by obtain⟨l⟩:=sl;simp only at hs;rw[hs]
   cases es;obtain⟨nm,bs,mro,ns,qn,hd,sn,sub,ab,col,del⟩:=cd;dsimp only at hm nd ok ni;cases hm;cases nd;have G:h.Ns ns _:=.of_isNs (isNs_of_in X ok);exact⟨nm,qn,ns,bs,hd,sn,sub,ab,col,dd,k0,k1,k2,k3,k5,_,X _ _ ho,G,tI X G ni,tail_of_in X ht⟩
  ·cases q1
 ·cases q1
theorem rT{K:PySem.W.Frag}{C fI:Addr}{bm:List Value}(q:ExcAtI K C fI bm):ExC K C bm where
 cls:=fun h X=>by obtain⟨nm,qn,N,bs,hdct,sn,sub,ab,col,dd,k0,k1,k2,k3,k5,mN,e,_⟩:=kZ q X;exact⟨nm,qn,N,bs,hdct,sn,sub,ab,col,dd,k0,k1,k2,k3,k5,_,e⟩
 exc:=q.exc
structure ExI(P:Program)(w:World)(K:PySem.W.Frag)(mg:Str->Option Value)(base:Heap)(k:Nat)(C:Addr)(bm:List Value)(ps:List Str)(sp:Sp):Prop where
 ex:∃fI fd,ExcAtI K C fI bm/\FnOk P w K mg base CX0 k fI fd ps sp/\Binds K fd ps []
section
variable{X:Cx}{pins:List (Addr×Obj)}{σ:St}{H:Hp}{s:Shared}
theorem Inv.excMade{h':Heap}{e c t:Addr}(I:Inv X pins σ H s)(kp:∀b o,s.heap.get? b=some o->h'.get? b=some o)(hn:s.heap.get? e=none)(he:h'.get? e=some { cls:=.ref c,data:=.fields #[.ref t,.none,.none,.none,.bool false,.none] }) :
  H e=none/\Inv X pins σ (upd H e (exN e c t none)) { s with heap:=h' }:=by
 have h0:H e=none:=by
  cases q:H e with
  |none=>rfl
  |some u =>obtain⟨o,z⟩:=ic (I.hok e u q);rw[hn]at z;cases z
 have nb:∀b o,s.heap.get? b=some o->b≠e:=fun b o q z=>by rw[z,hn]at q;cases q
 refine⟨h0,I.un (t':=s.toks) ⟨fun b o q _ _ _=>kp b o q,fun b o q _ _ _=>⟨o.slots,kp b o q⟩,fun b o q m _=>by rw[ac (nb b o q)];exact m,fun b o q _=>⟨o,kp b o q⟩,fun b xs q=>by rw[ac (ao q h0)];exact q,fun b o v q=>by rw[ac (ao q h0)];exact q,fun b ps q=>⟨#[],by rw[ac (ao q h0),q];simp⟩⟩ fun b u q=>?_⟩;by_cases hb:b=e
 ·subst hb;rw[aa]at q;cases q;exact uQ he
 ·rw[ac hb]at q;exact(I.hok b u q).stay (fun b' v _ q'=>kp b' v q') (fun b' z=>by rw[ac (ao z h0)];exact z) fun b' xs z=>by rw[ac (ao z h0)];exact z
end
section
variable{X:Cx}{EC:Value->Option Addr->Hp->Prop}{C:Addr}{bm:List Value}{k:Nat}{ps:List Str}{sp:Sp}{x:Str}{np cpos pos:Pos}{e:Expr}{es:List Expr}{ta:TA}
def sF(sp:Sp)(C:Addr)(EC:Value->Option Addr->Hp->Prop)(ta:TA):TS:=fun _ σ H=>ta σ H fun vs H1=>vs.length<=sizeLine/\∀ea t,H1 ea=none->H1 t=none->t≠ea ->
 sp (.ref ea::vs) (upd H1 ea (exN ea C t none)) (fun v H2=>v=.non/\∃dc,H2 ea=some (exN ea C t dc)/\EC (.ref C) dc (del H2 ea)) E0
end
open PySem PySem.Spec PyProof.Rows PySem.W
structure MFnX(P:Program)(w:World)(K:PySem.W.Frag)(mg:Str->Option Value)(base:Heap)(k:Nat)(C:Addr)(m:Str)(ps:List Str)(sp:Sp):Prop where
 cl:Cls K C
 ex:∃f fd,FnOk P w K mg base (CXr P w) k f fd ps sp/\Meth K C m f/\Binds K fd ps []
section
variable{X:Cx}{k:Nat}{C:Addr}{m x:Str}{p pos apos:Pos}{o e:Expr}{es:List Expr}{ps:List Str}{sp:Sp}{t:TA}{ta:TE}{E:XK}
theorem jA{pl:Sem Bool}(F:MFnX X.prog X.w X.K X.mg X.base k C m ps sp)(hx:dL (CXr X.prog X.w) X E)(hr:Room k X.A)(he:QE X o ta)(ha:QA X (e::es) t)(hs:(e::es).all aA=true:=by rfl)(ht:eval (.Call (.Attribute o m apos) (e::es) [] pos) X.env=(do
   let ov ←eval o X.env
   standAt apos.atName
   let(f,first) ←holding [ov] (getMethod ov m pl)
   callWith pos f first (backTo pos (starEach (e::es) X.env)) (backToKw pos (keywordEach [] X.env))):=by rfl) :
  QE X (.Call (.Attribute o m apos) (e::es) [] pos) (jF C m sp [] E ta t):=by
 obtain⟨f,fd,G,hm,b⟩:=F.ex;rw[Yd,Zz]at hs;exact⟨sq (pl:=pl) he.h F.cl hm G hr b .nil hx ha.h (aB hs.1) (aY hs.2) ht⟩
theorem fq(F:FnX X.prog X.w X.K X.mg X.base k x ps sp)(hx:dL (CXr X.prog X.w) X E)(hr:Room k X.A)(ha:QA X (e::es) t)(hg:Gl X x:=by rfl)(hs:(e::es).all aA=true:=by rfl)(hdb:(x==("__debug__":Str))=false:=by decide) :
  QE X (.Call (.Name x p) (e::es) [] pos) (lV sp [] E t):=by
 obtain⟨f,fd,G,hm,kp,b⟩:=F.ex;rw[Yd,Zz]at hs;exact⟨sk G hr hg hm kp b .nil hx ha.h hdb (aB hs.1) (aY hs.2)⟩
end
section
variable{X:Cx}
theorem CJ:QH X [] (fun _ _ _ _ _=>False):=⟨fun _ _ _ _ _ _ _ _ _ _ _ _ _ _ _ _ h=>h.elim⟩
def Df(K:PySem.W.Frag)(Ch:Addr)(ts:TS)(th:TH):TH:=fun D σ C dc H'=>∃c bm,C=.ref c/\ExC K c bm/\if(Value.ref c::bm).contains (.ref Ch)=true then ts D σ H' else th D σ C dc H'
theorem Dr{x:Str}{Ch:Addr}{bmh:List Value}{b0:Stmt}{suite:List Stmt}{ts:TS}{np pos:Pos}{rest:List ExceptHandler}{th:TH}(cl:ExC X.K Ch bmh)(hm:X.mg x=some (.ref Ch))(hs:∀e,QB (X.exc e) (b0::suite) ts)(hrest:QH X rest th)(hg:Gl X x:=by rfl)(hdb:(x==("__debug__":Str))=false:=by decide):QH X (.ExceptHandler (some (.Name x np)) none (b0::suite) pos::rest) (Df X.K Ch ts th):=by
 refine⟨?_⟩;rintro pins s0 H0 σ D ea t C B H' dc s' I0 F fly hd ⟨c,bm,rfl,ec,q⟩;have I:=F.inv I0;refine wpAny_handleBy_cons (codeAny_handlers_test ?_) (by intro z;cases z);refine fA (X:=X.exc (.ref ea)) (I.exc _) hg hm ?_ hdb;obtain⟨oe,he,hcl⟩:=fly.there;refine rm ec cl I.kIn he hcl ?_;cases hc:(Value.ref c::bm).contains (.ref Ch)with
 |true =>
  rw[hc,EN rfl]at q;refine codeAny_handlers_suite ?_;obtain⟨f1,f2,f3,f4⟩:=fly;refine hU f1 f3 f4.at hd fun h6 k1 k2 k3 up6 hd6=>?_;have F6:=F.move (tk:=s'.toks) I0 k1 up6;refine ZY ((hs (.ref ea)).h pins _ _ _ _ ((F6.inv I0).exc _) q) (fun f s8 sp=>?_) (fun _ _ z=>False.elim z);cases f with
  |next =>obtain⟨σ2,H2,I8,q8⟩:=sp;exact⟨_,H2,I8.unexc I0.ok,q8⟩
  |brk =>obtain⟨σ2,H2,I8,q8⟩:=sp;exact⟨_,H2,I8.unexc I0.ok,q8⟩
  |cont =>obtain⟨σ2,H2,I8,q8⟩:=sp;exact⟨_,H2,I8.unexc I0.ok,q8⟩
  |ret u =>obtain⟨v,σ2,H2,I8,r8,q8⟩:=sp;exact⟨v,_,H2,I8.unexc I0.ok,r8,q8⟩
 |false =>rw[hc,EM Zn]at q;exact hrest.h pins s0 H0 σ D ea t _ B H' dc _ I0 F fly hd q
end
open PySem PySem.Spec PyProof.Rows PySem.W
open PySem PySem.Spec PyProof.Rows PySem.W
def yW(X:Cx)(B:Heap)(ea:Addr)(C:Value)(t:Addr)(h:Heap):Prop :=
 (B.StaysIn h/\B.get? ea=none/\h.FunFrames B X.stack/\∃oe,h.get? ea=some oe/\oe.cls=C/\oe.data=.fields #[.ref t,.none,.none,.none,.bool false,.none]) \/
 Heap.FlyingW B X.stack ea C (.ref t) h\/Heap.HeldW B X.stack ea C (.ref t) X.env.locals h
def sJ(X:Cx)(E:XK)(ea:Addr)(s':Shared):Prop:=∃(pins:List (Addr×Obj)) (σ:St) (H0 H':Hp) (s0:Shared) (B:Heap) (t:Addr) (C:Value) (vs:List Value) (dc:Option Addr),
 Inv X pins σ H0 s0/\Fl X H0 H' s0 s' B/\yW X B ea C t s'.heap/\s'.heap.TupAt t vs/\B.get? t=none/\di s'.heap ea dc/\E C dc H'
section
variable{M:Model}{A:Around}{E:Value->Shared->Prop}{s:Shared}{base:Heap}{l:List Env}{L e:Addr}
theorem uR{cls a0 fl:Value}{dc:Option Addr}{Q:Unit->Shared->Prop}(kb:base.StaysIn s.heap)(ff:s.heap.FunFrames base l)(tr:s.heap.TracedAtW base e cls a0 fl)(dd:di s.heap e dc)(k:∀h',base.StaysIn h'->h'.FunFrames base l->h'.TracedAtW base e cls a0 (rawInt L)->s.heap.UpToSlots h'->di h' e dc->Q () { s with heap:=h' }):wpAny M A (setFlight (.ref e) (some L)) Q E s:=by
 obtain⟨oe,vs,T,oT,ts,he,hc,dt,v1,nT,ne,hT,dT,t3⟩:=tr;have z3:3<ts.size:=(Array.getElem?_eq_some_iff.mp t3).1;have oth:∀b,b≠T->(s.heap.update T (Obj.mapFields (·.setIfInBounds 3 ((some L:Option Addr).elim Value.none fun f=>rawInt f)))).get? b=s.heap.get? b:=fun b n=>ZK _ _ (ZW n);have nrec:∀b o,s.heap.get? b=some o->(∀ws,o.data≠.fields ws)->b≠T:=fun b o q hn z=>by subst z;cases Zw (hT.symm.trans q);exact hn ts dT
 unfold setFlight;refine z0 (y3 he dt v1 ?_);rw[EN (by simp:(Value.ref T != Value.none)=true)];refine wpAny_setField hT dT z3 (k _ (fun b o q=>(oth b fun z=>nomatch((z▸q).symm.trans nT)).trans (kb b o q)) (ff.of_keeps fun b o q hn=>⟨o,(oth b (nrec b o q hn)).trans q,rfl⟩) ?_ (fun b o q hn=>⟨o.slots,(oth b (nrec b o q hn)).trans q⟩) ?_)
 ·exact⟨oe,vs,T,_,_,(oth e (ZW ne)).trans he,hc,dt,v1,nT,ne,Z5 _ hT (Obj.isFreed_of_fields (Obj.data_mapFields dT _)),Obj.data_mapFields dT _,by simp[z3]⟩
 ·obtain⟨o,q,d⟩:=dd;exact⟨o,(oth e (ZW ne)).trans q,d⟩
end
section
variable{X:Cx}{E:XK}{ea:Addr}{s':Shared}{EE:Value->Shared->Prop}
theorem kQ{Q:Unit->Shared->Prop}(hst:X.stack=X.env::X.outer)(hfr:X.env.frame=some X.env.locals)(x:sJ X E ea s')(k:∀ h',(∃ (pins:List (Addr×Obj)) (σ:St) (H0 H':Hp) (s0:Shared) (B:Heap) (t:Addr) (C:Value) (vs:List Value) (dc:Option Addr),
   Inv X pins σ H0 s0/\Fl X H0 H' s0 { s' with heap:=h' } B/\Heap.HeldW B X.stack ea C (.ref t) X.env.locals h'/\h'.TupAt t vs/\B.get? t=none/\di h' ea dc/\E C dc H')->Q () { s' with heap:=h' }) :
  wpAny (model X.prog X.w) X.A (noteFrame (.ref ea) X.env) Q EE s':=by
 obtain⟨pins,σ,H0,H',s0,B,t,C,vs,dc,I0,F,st,tup,hBt,dd,q⟩:=x;have fr:X.A.frames=some (X.env::X.outer):=by rw[<-hst];exact I0.ok.frames
 rcases st with⟨f1,f2,f3,oe,he,rfl,hd⟩|fly|held
 ·unfold noteFrame;simp only[hfr];refine z0 (y3 he hd (show _=some Value.none from rfl) ?_);rw[EM (by decide)];rw[hst]at f3;refine jO (a0:=.ref t) fr f3 hfr he f1 f2 hd (by simp) rfl fun h1 nt dd1=>?_;obtain⟨n1,n2,n3,n4⟩:=nt;rw[<-hst]at n2;obtain⟨o9,q9,d9⟩:=dd;cases Zw (he.symm.trans q9);rw[d9]at dd1;exact k h1 ⟨pins,σ,H0,H',s0,B,t,_,vs,dc,I0,F.move (tk:=s'.toks) I0 n1 n4,⟨n1,f2,n2,n3⟩,tup.of_slots n4,hBt,dd1,q⟩
 ·rw[hst]at fly;refine lB fr hfr fly dd fun h1 held up dd1=>?_;rw[<-hst]at held;exact k h1 ⟨pins,σ,H0,H',s0,B,t,C,vs,dc,I0,F.move (tk:=s'.toks) I0 held.1 up,held,tup.of_slots up,hBt,dd1,q⟩
 ·exact wpAny_noteFrame_againW hfr held.2.2.2 (k s'.heap ⟨pins,σ,H0,H',s0,B,t,C,vs,dc,I0,F,held,tup,hBt,dd,q⟩)
def Mid(X:Cx)(E:XK):Value->Shared->Prop:=fun e s'=>∃ea,e=.ref ea/\sJ X E ea s'
theorem lG(hst:X.stack=X.env::X.outer)(hfr:X.env.frame=some X.env.locals):PassesOwn (model X.prog X.w) X.A X.env (Mid X E):=by rintro e s' ⟨ea,rfl,x⟩;refine kQ hst hfr x ?_;rintro h1 ⟨pins,σ,H0,H',s0,B,t,C,vs,dc,I0,F,held,tup,hBt,dd,q⟩;obtain⟨f1,f2,f3,f4⟩:=held;obtain⟨oe,us,T,oT,ts,he,hc,dt,v1,nT,ne,hT,dT,t3⟩:=id f4;unfold cameBackBy;refine z0 (y3 he dt v1 ?_);rw[EM (by simp)];rw[hfr];refine uR (s:={ s' with heap:=h1 }) f1 f3 f4 dd fun h2 k1 k2 k3 up dd2=>?_;exact⟨ea,rfl,pins,σ,H0,H',s0,B,t,C,vs,dc,I0,F.move (tk:=s'.toks) I0 k1 up,.inr (.inr ⟨k1,f2,k2,k3⟩),tup.of_slots up,hBt,dd2,q⟩
end
def gQ(X:Cx)(E:XK):Prop:=∀ea s',sJ X E ea s'->X.xe (.ref ea) s'
theorem jP{X:Cx}{E:XK}:gQ (X.wish (Mid X E)) E:=by rintro ea s' ⟨pins,σ,H0,H',s0,B,t,C,vs,dc,I0,F,st,r⟩;exact⟨ea,rfl,pins,σ,H0,H',s0,B,t,C,vs,dc,I0.unwish,⟨F.os,F.bare,F.un,F.hok,F.kb⟩,st,r⟩
section
variable{P:Program}{w:World}{K:PySem.W.Frag}{mg:Str->Option Value}{base:Heap}{N:List Str}{qual:Str}{scope:Scope}{f:Addr}{cd:Value}{A:Around}{outer:List Env}{s:Shared}{H:Hp}{E:XK}
theorem aZ:gQ (cH (CXr P w) P w K mg base N qual scope f cd A outer s H E) E:=by
 intro ea s' x;show wpAny (model P w) (A.deeper (envOfC qual scope s.heap.objs.size f cd)) (leaving (envOfC qual scope s.heap.objs.size f cd) (.ref ea)) _ _ _;unfold leaving;refine z0 (kQ (X:=cH (CXr P w) P w K mg base N qual scope f cd A outer s H E) rfl rfl x ?_);rintro h1 ⟨pins,σ,H0,H',s0,B,t,C,vs,dc,I,F,held,tup,hBt,dd,q⟩;obtain⟨f1,f2,f3,f4⟩:=held;refine hU (s:={ s' with heap:=h1 }) f1 f3 f4 dd fun h2 k1 k2 k3 up dd2=>?_;have F2:=F.move (tk:=s'.toks) I k1 up;have I2:=F2.inv I;have hL:∀b o,s.heap.get? b=some o->b≠s.heap.objs.size:=fun b o q=>Zt (Zf q);have nfr:∀b,b∉frs outer->b≠s.heap.objs.size->b∉frs (envOfC qual scope s.heap.objs.size f cd::outer):=fun b h1 h2 hm=>by
  rcases Ze.mp (I.stkSub b hm)with z|z
  ·exact h2 z
  ·exact h1 z
 obtain⟨_,_,k2'⟩:=k2;refine⟨ea,t,C,vs,B,H',dc,rfl,I2.os,F2.bare,⟨fun b o q n hb _=>?_,fun b o q n hb _=>?_,fun b o q n _=>?_,fun b o q _=>?_,I2.base.tups,I2.base.frzs,I2.base.tbls⟩,F2.hok,⟨k1,f2,k2',k3⟩,tup.of_slots up,hBt,fun b o hb ho q=>?_,dd2,q⟩
 ·exact I2.base.keep b o q n hb (by intro z;cases z)
 ·exact I2.base.slot b o q n hb (by intro z;cases z)
 ·exact I2.base.free b o q n (by intro z;cases z)
 ·exact I2.base.there b o q (by intro z;cases z)
 ·refine F2.kb b o ?_ ?_ q
  ·rcases ho with⟨u,z⟩|⟨o0,z⟩
   ·exact F2.nf I z
   ·exact nfr b hb (hL b o0 z)
  ·rcases ho with⟨u,z⟩|⟨o0,z⟩
   ·exact .inl ⟨u,z⟩
   ·exact .inr (I.base.there b o0 z (by intro z;cases z))
end
section
variable{X:Cx}{E:XK}
theorem dD(hR:gQ X E):dL (CXr X.prog X.w) X E:=fun pins σ H s e s' I x=>by obtain⟨ea,t,C,vs,B,H',dc,rfl,os,bare,un,hok,fly,tup,hBt,kb,dd,q⟩:=x;exact hR ea s' ⟨pins,σ,H,H',s,B,t,C,vs,dc,I,⟨os,bare,un,hok,kb⟩,.inr (.inl fly),tup,hBt,dd,q⟩
end
section
variable{X:Cx}{E:XK}{st:Stmt}{t:TS}
theorem yM(hR:gQ X E)(h:QS (X.wish (Mid X E)) st t):QS X st t:=⟨fun pins s σ H D I q=>ZY (h.h pins s σ H D (I.wish _) q) (fun _ _ z=>z.unwish) fun _ _ ⟨ea,e,x⟩=>by rw[e];exact hR ea _ x⟩
end
section
variable{X:Cx}{E:XK}{C:Addr}{bm:List Value}{k:Nat}{ps:List Str}{sp:Sp}{x:Str}{np cpos pos:Pos}{e:Expr}{es:List Expr}{ta:TA}
theorem qO(hR:gQ X E)(hc:X.calm=true)(F:ExI X.prog X.w X.K X.mg X.base k C bm ps sp)(hr:Room (k+1) X.A)(hm:X.mg x=some (.ref C))(ha:QA X (e::es) ta)(hg:Gl X x:=by rfl)(hs:(e::es).all aA=true:=by rfl)(hdb:(x==("__debug__":Str))=false:=by decide) :
  QS X (.Raise (some (.Call (.Name x np) (e::es) [] cpos)) none pos) (sF sp C E ta):=by
 refine⟨?_⟩;intro pins s σ H D I h;obtain⟨fI,fd,xc,G,hb⟩:=F.ex;have hs1:aA e=true:=Z3.mp hs e (by simp);have he:=aB (es:=es) (env:=X.env) hs1;have hpl:(backTo cpos (starEach es X.env)).any (·.1)=false:=aY (by
  rw[Z3];intro y hy;exact Z3.mp hs y (Zu _ hy))
 have hpl':(backTo cpos (starEach (e::es) X.env)).any (·.1)=false:=by rw[he];show(false ||(backTo cpos (starEach es X.env)).any (·.1))=false;rw[hpl];rfl
 rw[arm_exec_Raise];refine z0 (wpAny_standAt (vY (K:=X.K) (rT xc) (I.ok.hd hc) (z0 (ZY (wpAny_Call_ofName (fA I hg hm ?_ hdb)) (fun v s₃ h₃=>z0 (wpAny_standAt (Zj h₃))) fun _ _ x=>x))));unfold callWith;have hA:=ha.h cpos pins s σ H _ I h;rw[he]at hA ⊢;refine z0 (Z0 (Calls.evalArgs_plain (thn hA fun us s1 ⟨vs,H1,I1,r1,hz,hE⟩=>z0 (wpAny_standAt ?_))));obtain⟨nm,q,N,bs,hdct,sn,sub,ab,col,dd,k0,k1,k2,k3,k5,mN,oC,hN,hi,T⟩:=kZ xc I1.kIn;obtain⟨oI,lI,cI⟩:=xc.fn;obtain⟨hp,g,d,tk,os⟩:=s1;rw[<-he];simp only[hpl'];refine z0 (wpAny_keeperOf_exc oC ?_);refine z0 (sU PySem.F.excBase_ValueError T oC hN hi (I1.kIn _ _ lI) cI (fun h' ea mx=>?_) (show us.length<=sizeLine by rw[<-r1.length];exact hz));obtain⟨t,ht,tn,tt⟩:=mx.there;obtain⟨hea0,I2⟩:=I1.excMade mx.keeps mx.new ht;have nt:t≠ea:=fun z=>by rw[z,ht]at tt;cases tt
 have ht0:H1 t=none:=by
  cases q:H1 t with
  |none=>rfl
  |some u =>obtain⟨o,z⟩:=ic (I1.hok t u q);exact nomatch tn.symm.trans z
 have hq:=hE ea t hea0 ht0 nt;have hl:(Value.ref ea::us).length=ps.length:=by rw[<-G.len _ _ _ _ hq,Zq,Zq,r1.length]
 refine wpAny_call (Yr (G.run _ X.stack _ _ ⟨Value.ref ea::us,[]⟩ (Value.ref ea::us) (V.ref ea::vs) _ _ (hr.make C us []) (I2.env0.make C us []) (by have:=hb _ (Value.ref ea::us) I2.kIn (by rw[Z8];exact hl);rw[Z8]at this;exact this) (.cons rfl r1) hq) fun r s' hq'=>?_);cases r with
 |error e'=>exact False.elim hq'
 |ok fl =>
  cases fl with
  |next=>exact False.elim hq'
  |brk=>exact False.elim hq'
  |cont=>exact False.elim hq'
  |ret u =>
   obtain⟨v,H',os',bare,un,hok,r,rfl,dc,hd,hE'⟩:=hq';obtain rfl:u=Value.none:=r;have I3:Inv X pins σ H' s':=I2.call' os' un hok bare fun _ z=>nomatch z;have notin:∀b,hp.get? b=none->b∉frs X.stack:=fun b hb hm=>by obtain⟨_,o',ho',_⟩:=I1.stack.mem hm;exact nomatch hb.symm.trans ho'
   have hx:s'.heap.get? ea=some { cls:=.ref C,dict:=dc,data:=.fields #[.ref t,.none,.none,.none,.bool false,.none] }:=(show ObjOk X.prog X.w H' s'.heap ea (exN ea C t dc)from I3.hok ea _ hd).1;have ut:upd H1 ea (exN ea C t none) t=none:=by rw[ac nt];exact ht0
   have tt':=un.keep t _ tt ut (notin t tn) (by intro z;cases z);refine⟨rfl,z0 (Z0 (wpAny_point (Zj ⟨ea,_,rfl,I3.kIn,hx,rfl,⟨t,rfl⟩,?_⟩)))⟩;have hy:s'.heap.get? ea=some { cls:=.ref C,dict:=dc,data:=.fields #[.ref t,.none,.none,.none,.bool false,.none] }:=hx;have ne:∀b v,H' b=some v->v≠exN ea C t dc->b≠ea:=fun b v q hv z=>by rw[z,hd]at q;exact hv (Zw q).symm
   have ft:=un.free t _ tt ut (by intro z;cases z);have tr2:∀b v,H' b=some v->b≠t:=fun b v q z=>by rw[z,ft]at q;cases q
   have tfr:∀b v,H' b=some v->b∉frs X.stack:=fun b v q hm=>by have:=I3.stkFree b hm;rw[q]at this;cases this
   have oe:∀b o,hp.get? b=some o->b≠ea:=fun b o q z=>by rw[z]at q;exact nomatch mx.new.symm.trans q
   have ot:∀b o,hp.get? b=some o->b≠t:=fun b o q z=>by rw[z]at q;exact nomatch tn.symm.trans q
   have un1:Un (frs X.stack) [] H1 (del H' ea) hp s'.heap:=by
    refine⟨fun b o q n hb hx'=>un.keep b o (mx.keeps b o q) (by rw[ac (oe b o q)];exact n) hb hx',fun b o q n hb hx'=>un.slot b o (mx.keeps b o q) (by rw[ac (oe b o q)];exact n) hb hx',fun b o q n hx'=>?_,fun b o q hx'=>un.there b o (mx.keeps b o q) hx',fun b xs q=>?_,fun b o v q=>?_,fun b ps' q=>?_⟩
    ·rw[dR (oe b o q)];exact un.free b o (mx.keeps b o q) (by rw[ac (oe b o q)];exact n) hx'
    ·have:=un.tups b xs (by rw[ac (ao q hea0)];exact q);rw[dR (ne _ _ this (by intro z;cases z))];exact this
    ·have:=un.frzs b o v (by rw[ac (ao q hea0)];exact q);rw[dR (ne _ _ this (by intro z;cases z))];exact this
    ·obtain⟨more,this⟩:=un.tbls b ps' (by rw[ac (ao q hea0)];exact q);exact⟨more,by rw[dR (ne _ _ this (by intro z;cases z))];exact this⟩
   have hok1:HOk X.prog X.w (del H' ea) s'.heap:=fun b v q=>by obtain⟨hb,q⟩:=vI q;exact(I3.hok b v q).stay (fun _ _ _ z=>z) (fun b' z=>by rw[dR (ne _ _ z (by intro z;cases z))];exact z) fun b' xs z=>by rw[dR (ne _ _ z (by intro z;cases z))];exact z
   have hid:∀b o,s'.heap.get? b=some o->b≠ea->b≠t->b∉frs X.stack->(hideAll s'.heap (ea::t::frs X.stack)).get? b=some o:=fun b o q h1 h2 h3 =>
    hideAll_get _ q fun hm=>by
     rcases Ze.mp hm with z|hm
     ·exact h1 z
     rcases Ze.mp hm with z|hm
     ·exact h2 z
     ·exact h3 hm
   have Fx:Fl X H1 (del H' ea) ⟨hp,g,d,tk,os⟩ s' (hideAll s'.heap (ea::t::frs X.stack)):=⟨os',bare,un1,hok1,fun b o hb ho q=>by
    rcases ho with⟨v,z⟩|⟨o0,z⟩
    ·obtain⟨hb',z⟩:=vI z;exact hid b o q hb' (tr2 _ _ z) hb
    ·exact hid b o q (oe b o0 z) (ot b o0 z) hb⟩
   exact hR ea s' ⟨pins,σ,H1,del H' ea,_,_,t,.ref C,us,dc,I1,Fx,.inl ⟨fun b o q=>of_hideAll _ q,hideAll_none _ ZA,
    funFrames_hide I3.stack fun env he b hb=>Zu _ (Zu _ (List.mem_filterMap.mpr ⟨env,he,hb⟩)),_,hy,rfl,rfl⟩,⟨_,_,tt',rfl,rfl⟩,hideAll_none _ (Zu _ ZA),⟨_,hy,rfl⟩,hE'⟩
end
open PySem PySem.Spec PyProof.Rows PySem.W
open PySem PySem.Spec PyProof.Rows PySem.W
def ls(qual:Str)(params:Arguments)(body:Expr)(scope:Scope)(cl:List (Str×Addr))(pm:Value)(c:Addr)(ct:Value):FuncData:=kla_fn "<lambda>" qual params body scope cl pm (.ref c) ct
def fK(qual:Str)(params:Arguments)(body:Expr)(scope:Scope)(cl:List (Str×Addr))(pm:Value)(c:Addr)(ct:Value):Obj:={ cls:=.type "function",data:=.func (ls qual params body scope cl pm c ct) }
def kg(a:Addr)(o:Obj):HO:=.ext fun h=>h.get? a=some o
def iJ(c:Addr)(qual:Str):HO:=.ext fun h=>h.CodeRec (.ref c) qual
theorem rX{P:Program}{w:World}{H:Hp}{h:Heap}{a:Addr}{o:Obj}(e:h.get? a=some o):ObjOk P w H h a (kg a o):=⟨e,⟨o,e⟩,fun _ _ x k=>k _ x⟩
theorem zo{P:Program}{w:World}{H:Hp}{h:Heap}{c:Addr}{q:Str}(e:h.CodeRec (.ref c) q):ObjOk P w H h c (iJ c q):=by obtain⟨c',oc,vs,t,e1,e2,e3,e4⟩:=id e;cases e1;refine⟨e,⟨oc,e2⟩,fun h1 h2 x k=>?_⟩;obtain⟨c',oc,vs,t,e1,e2,e3,e4⟩:=id x;cases e1;exact⟨c,oc,vs,t,rfl,k _ e2,e3,e4⟩
def Blt(h:Heap)(mg:Str->Option Value):Prop:=∃bm ob,mg "__builtins__" = some (.ref bm)/\bm≠builtinsNs/\h.get? bm=some ob/\ob.cls=.type "module"/\ob.dict=some builtinsNs/\ob.data=.plain
section
variable{X:Cx}{pins:List (Addr×Obj)}{σ:St}{H:Hp}{s:Shared}
theorem Inv.bltAt(I:Inv X pins σ H s)(B:Blt X.base X.mg){P:Addr}{ps:Array Value}(hP:H P=some (.tbl ps)):s.heap.BuiltinsAt X.mg P:=by
 obtain⟨bm,ob,b1,b2,b3,b4,b5,b6⟩:=B;refine⟨bm,ob,b1,b2,fun z=>?_,fun z=>?_,I.bk _ _ b3,b4,b5,b6⟩
 ·obtain⟨o,es,ep,e,d,_⟩:=I.ok.mod.glob;rw[<-z,b3]at e;cases e;rw[d]at b6;cases b6
 ·have:=(I.bs _ _ b3).2;rw[z,hP]at this;cases this
theorem Inv.grown{h':Heap}{P c f:Addr}{ps more:Array Value}{oc of':HO}{t':Nat}(I:Inv X pins σ H s)(hP:H P=some (.tbl ps))(k:∀b o,b≠P->s.heap.get? b=some o->h'.get? b=some o)(hc:s.heap.objs.size<=c)(hf:s.heap.objs.size<=f)(hcf:c≠f)(eP:h'.get? P=some { cls:=.none,data:=.fields (ps++more) })(nc:∀H',ObjOk X.prog X.w H' h' c oc)(nf:∀H',ObjOk X.prog X.w H' h' f of') :
  H c=none/\H f=none/\Inv X pins σ (upd (upd (upd H P (.tbl (ps++more))) c oc) f of') { s with heap:=h',toks:=t' }:=by
 have c0:=I.hok.fresh hc;have f0:=I.hok.fresh hf;have nP:∀{b:Addr} {u:HO},H b=some u->(∀qs,u≠.tbl qs)->b≠P:=fun{b u} e n z=>by rw[z,hP]at e;cases e;exact n _ rfl
 have up:∀{b:Addr},b≠P->b≠c->b≠f->upd (upd (upd H P (.tbl (ps++more))) c oc) f of' b=H b:=fun{b} n1 n2 n3=>by rw[ac n3,ac n2,ac n1]
 have old:∀{b:Addr} {o:Obj},s.heap.get? b=some o->b≠c/\b≠f:=fun{b o} e=>⟨Zt (Zy (Zf e) hc),Zt (Zy (Zf e) hf)⟩
 have pcf:P≠c/\P≠f:=by have:=I.hok P _ hP;exact old (show s.heap.get? P=some _ from this)
 refine⟨c0,f0,I.un (t':=t') ⟨fun b o e n _ _=>k b o (fun z=>by rw[z,hP]at n;cases n) e,fun b o e n _ _=>⟨o.slots,k b o (fun z=>by rw[z,hP]at n;cases n) e⟩,fun b o e n _=>?_,fun b o e _=>?_,fun b xs e=>?_,fun b o u e=>?_,fun b qs e=>?_⟩ fun b u e=>?_⟩
 ·rw[up (fun z=>by rw[z,hP]at n;cases n) (old e).1 (old e).2];exact n
 ·by_cases z:b=P
  ·exact⟨_,z▸eP⟩
  ·exact⟨o,k b o z e⟩
 ·rw[up (nP e fun _ z=>nomatch z) (ao e c0) (ao e f0)];exact e
 ·rw[up (nP e fun _ z=>nomatch z) (ao e c0) (ao e f0)];exact e
 ·by_cases z:b=P
  ·subst z;rw[hP]at e;cases e;exact⟨more,by rw[ac pcf.2,ac pcf.1,aa]⟩
  ·exact⟨#[],by rw[up z (ao e c0) (ao e f0),e];simp⟩
 ·by_cases zf:b=f
  ·subst zf;rw[aa]at e;cases e;exact nf _
  ·rw[ac zf]at e;by_cases zc:b=c
   ·subst zc;rw[aa]at e;cases e;exact nc _
   ·rw[ac zc]at e;by_cases zP:b=P
    ·subst zP;rw[aa]at e;cases e;exact eP
    ·rw[ac zP]at e;refine(I.hok b u e).stay (fun b' v hb' q=>k b' v (fun z=>?_) q) (fun b' z=>by rw[up (nP z fun _ z=>nomatch z) (ao z c0) (ao z f0)];exact z) fun b' xs z=>by rw[up (nP z fun _ z=>nomatch z) (ao z c0) (ao z f0)];exact z
     rcases hb' with rfl|hb'
     ·exact zP z
     ·rw[z,hP]at hb';cases hb'
end
def bD(q:Str)(P:Addr)(pos:Pos)(H:Hp):Prop:=∃ps:Array Value,H P=some (.tbl ps)/\TriplesOk ps.toList/\(codeAmong pos ps.toList=none\/∃c',codeAmong pos ps.toList=some (.ref c')/\H c'=some (iJ c' q))
def SameT(P:Addr)(H H':Hp):Prop:=∀b o,H b=some o->b≠P->H' b=some o
theorem SameT.of{P:Addr}{H H':Hp}(s:Same H H'):SameT P H H':=fun b o e _=>s b o e
theorem SameT.trans{P:Addr}{H H' H2:Hp}(s:SameT P H H')(t:SameT P H' H2):SameT P H H2:=fun b o e n=>t b o (s b o e n) n
theorem jk{x y:Int}{c:Value}{a b:Tok}:∀l:List Value,TriplesOk l->TriplesOk (l++[.int x a,.int y b,c])
 | [],_=>trivial
 |.int _ _::.int _ _::_::rest,h=>jk rest h
structure LamOk(P:Program)(w:World)(K:PySem.W.Frag)(mg:Str->Option Value)(base:Heap)(k:Nat)(qual:Str)(body:Expr)(scope:Scope)(x:Str)(sp:Sp):Prop where
 ex:∃N:List Str,FnScope N [x] scope/\(∀vs H Q E,sp vs H Q E->vs.length=1)/\∀(f c':Addr) (A:Around) (outer:List Env) (s:Shared) (H:Hp) (vs:List V) (Q:VK) (E:XK),Room k (A.deeper (envOfC qual scope s.heap.objs.size f (.ref c')))->sp vs H Q E ->
  ∃t,QE (cH CX0 P w K mg base N qual scope f (.ref c') A outer s H E) body t/\t (start N vs) H Q
open PySem PySem.Spec PyProof.Rows PySem.W
def yU(a:Addr)(tabs:List (Addr×Addr))(H:Hp):Prop:=∀b,H b=none\/(b=a/\∃o xs,H b=some (.frz o (.lst xs)))\/((∃c,(c,b)∈tabs)/\H b=some (.tbl #[]))
theorem xA{P:Program}{w:World}{K:PySem.W.Frag}{mg mb:Str->Option Value}{k:Nat}{fa a:Addr}{fd:FuncData}{x:Str}{sp:Sp}{s:Shared}{vs:List Value}{ns:List Int}{tabs:List (Addr×Addr)}(kx:K.In s.heap)(gx:s.heap.Ns mainGlobals mg)(bx:s.heap.Ns builtinsNs mb)(bb:∀y:Str,y≠"__name__"->mb y=bootBuiltins y)(nl:s.heap.NoLimit)(gn:s.gens=#[])(bl:Blt s.heap mg)(tx:∀q∈tabs,CodeHd s.heap q.1 q.2/\s.heap.get? q.2=some (tabObj #[]))(nt:noTabs K=true)(sa:s.heap.get? a=some { cls:=.type "list",data:=.seq vs.toArray })(si:IntsAre vs ns)(sl:ns.length<=sizeLine)(hr:Room k callerA)(F:∀base:Heap,K.In base->base.Ns mainGlobals mg->Blt base mg->(∀q∈tabs,CodeHd base q.1 q.2)->FnOk P w K mg base CX0 k fa fd [x] sp)(bind:∀(s:Shared) (u:Value),BindsTo s fd ⟨[u],[]⟩ [(x,u)])(go:∀H:Hp,(∀q∈tabs,H q.2=some (.tbl #[]))->SqL K H a (ns.map V.int)->sp [.ref a] H (fun v _=>v=.bl true) fun _ _ _=>False) :
  codeAny (model P w) callerA (.call (.ref fa) ⟨[.ref a],[]⟩) (fun r s'=>r=.ok (.ret (.bool true))/\OldK s.heap s'.heap/\s'.os=s.os/\AllBare s'.gens) s:=by
 have tabNot:∀{b:Addr} {c:Addr},(c,b)∈tabs->K.lookup b=none:=fun{b c} hm=>by
  cases e:K.lookup b with
  |none=>rfl
  |some o =>have e1:=(kx b o e).symm.trans (tx _ hm).2;cases e1;have:=Z3.mp nt _ (mem_of_lookupK e);cases this
 have aNot:∀{c:Addr},¬(c,a)∈tabs:=fun{c} hm=>by have:=(tx _ hm).2;rw[sa]at this;cases this
 have main:∀H:Hp,yU a tabs H->(∀q∈tabs,H q.2=some (.tbl #[]))->SqL K H a (ns.map V.int)->HOk P w H s.heap->(H a≠none->K.lookup a=none) ->
   codeAny (model P w) callerA (.call (.ref fa) ⟨[.ref a],[]⟩) (fun r s'=>r=.ok (.ret (.bool true))/\OldK s.heap s'.heap/\s'.os=s.os/\AllBare s'.gens) s:=by
  intro H ae ht hS ok ha;have free:∀{b:Addr} {o:Obj},s.heap.get? b=some o->(∀n m,o.data≠.seq n m)->(∀n,o.data≠.fields n)->H b=none:=fun{b o} e n1 n2=>by
   rcases ae b with z|⟨rfl,_⟩|⟨⟨c,hm⟩,_⟩
   ·exact z
   ·rw[sa]at e;cases e;exact absurd rfl (n1 _ _)
   ·rw[(tx _ hm).2]at e;cases e;exact absurd rfl (n2 _)
  have nsB:∀{b:Addr} {m:Str->Option Value},s.heap.Ns b m->(gF s.heap H).Ns b m:=fun{b m} ⟨o,es,ep,e,d,r⟩=>⟨o,es,ep,hV e (free e (fun _ _ z=>by rw[d]at z;cases z) fun _ z=>by rw[d]at z;cases z),d,r⟩
  have kB:K.In (gF s.heap H):=fun b o e=>hV (kx b o e) (by
   rcases ae b with z|⟨rfl,o',xs,z⟩|⟨⟨c,hm⟩,_⟩
   ·exact z
   ·rw[ha (by rw[z];simp)]at e;cases e
   ·rw[tabNot hm]at e;cases e)
  have bB:Blt (gF s.heap H) mg:=by obtain⟨bm,ob,b1,b2,b3,b4,b5,b6⟩:=bl;exact⟨bm,ob,b1,b2,hV b3 (free b3 (fun _ _ z=>by rw[b6]at z;cases z) fun _ z=>by rw[b6]at z;cases z),b4,b5,b6⟩
  have cB:∀q∈tabs,CodeHd (gF s.heap H) q.1 q.2:=fun q hq=>by
   obtain⟨o,ws,file,tf,fl,tg,inF,text,tt,c1,c2,c3,c4⟩:=(tx q hq).1;refine⟨o,ws,file,tf,fl,tg,inF,text,tt,hV c1 ?_,c2,c3,c4⟩;rcases ae q.1 with z|⟨z,_⟩|⟨⟨c,hm⟩,_⟩
   ·exact z
   ·rw[z,sa]at c1;cases c1;injection c2 with c2;exact absurd c2 (by decide)
   ·rw[(tx _ hm).2]at c1;cases c1;cases c2
  have mB:Mod K mg (gF s.heap H):=⟨kB,nsB gx,⟨mb,nsB bx,bb⟩,let⟨mc,n1,n2⟩:=nl;⟨mc,nsB n1,n2⟩⟩
  have env:Env0 P w K mg (gF s.heap H) callerA [] s H:=⟨rfl,mB,fun b o e=>zH e,Nat.le_of_eq (uW _ _),trivial,fun b hb=>absurd (show b∈([]:List Addr)from hb) (by simp),ok,.of_eq gn⟩
  refine Yr ((F _ kB (nsB gx) bB cB).run callerA [] s H ⟨[.ref a],[]⟩ [.ref a] [.ref a] _ _ hr env (bind s (.ref a)) (.cons rfl .nil) (go H ht hS)) fun r s' h=>?_;cases r with
  |error e=>exact False.elim h
  |ok fl =>
   cases fl with
   |next=>exact False.elim h
   |brk=>exact False.elim h
   |cont=>exact False.elim h
   |ret u =>
    obtain⟨v,H',os,bare,un,ok',rv,hv⟩:=h;obtain rfl:v=.bl true:=hv;obtain rfl:u=Value.bool true:=rv;have each:∀b o,s.heap.get? b=some o->asItWas s.heap s'.heap b o/\∃o',s'.heap.get? b=some o':=fun b o e=>by
     rcases ae b with z|⟨rfl,o',xs,z⟩|⟨⟨c,hm⟩,z⟩
     ·have:=un.keep b o e z (by intro q;exact absurd (show b∈([]:List Addr)from q) (by simp)) (by simp);exact⟨.inl this,_,this⟩
     ·obtain⟨e1,_⟩:=ok b _ z;obtain⟨e2,_⟩:=ok' b _ (un.frzs b o' _ z);rw[e]at e1;cases e1;exact⟨.inl e2,_,e2⟩
     ·obtain⟨more,z2⟩:=un.tbls b _ z;have e2:s'.heap.get? b=some { cls:=.none,data:=.fields (#[]++more) }:=ok' b _ z2;have e1:=(tx _ hm).2;rw[e]at e1;cases e1;exact⟨.inr (.inl ⟨(((tx _ hm).1).tab e).isCodeTable,rfl,#[],more,rfl,e2⟩),_,e2⟩
    exact⟨rfl,⟨fun b o e=>(each b o e).1,fun b o e=>(each b o e).2⟩,os,bare⟩
 have rv:=nJ si;have lv:=si.length;have inT:∀b,Decidable (∃c,(c,b)∈tabs):=fun b=>Classical.propDecidable _;cases hk:K.lookup a with
 |some o =>
  have e:=kx a o hk;rw[sa]at e;cases e;refine main (fun b=>@ite _ (∃c,(c,b)∈tabs) (inT b) (some (.tbl #[])) none) (fun b=>?_) (fun q hq=>EN ⟨q.1,hq⟩) (.inr ⟨_,vs.toArray,_,hk,rfl,rfl,rfl,by rw[Zg,lv];exact sl,by simpa using rv⟩) (fun b u z=>?_) (fun z=>absurd (EM fun⟨c,hm⟩=>aNot hm) z)
  ·by_cases c:∃c,(c,b)∈tabs
   ·exact .inr (.inr ⟨c,EN c⟩)
   ·exact .inl (EM c)
  ·by_cases c:∃c,(c,b)∈tabs
   ·have z':=(EN c).symm.trans z;cases z';obtain⟨c,hm⟩:=c;exact(tx _ hm).2
   ·have z':=(EM c).symm.trans z;cases z'
 |none =>
  refine main (fun b=>@ite _ (∃c,(c,b)∈tabs) (inT b) (some (.tbl #[])) (if b=a then some (.frz { cls:=.type "list",data:=.seq vs.toArray } (.lst (ns.map V.int)))else none)) (fun b=>?_) (fun q hq=>EN ⟨q.1,hq⟩) (.inl (.inr ⟨{ cls:=.type "list",data:=.seq vs.toArray },(EM fun⟨c,hm⟩=>aNot hm).trans (EN rfl)⟩)) (fun b u z=>?_) (fun _=>hk)
  ·by_cases c:∃c,(c,b)∈tabs
   ·exact .inr (.inr ⟨c,EN c⟩)
   ·by_cases hb:b=a
    ·exact .inr (.inl ⟨hb,_,_,(EM c).trans (EN hb)⟩)
    ·exact .inl ((EM c).trans (EM hb))
  ·by_cases c:∃c,(c,b)∈tabs
   ·have z':=(EN c).symm.trans z;cases z';obtain⟨c,hm⟩:=c;exact(tx _ hm).2
   ·have z':=(EM c).symm.trans z;by_cases hb:b=a
    ·rw[EN hb]at z';cases z';subst hb;exact⟨sa,by rw[Zi];exact sl,vs,_,rv,sa⟩
    ·rw[EM hb]at z';cases z'
theorem Fun.okC{P:Program}{w:World}{K:PySem.W.Frag}{mg:Str->Option Value}{base:Heap}{x qual:Str}{st:Stmt}{f c:Addr}{fd:FuncData}{N ps:List Str}{k:Nat}{sp:Sp}(F:Fun K x qual st f fd)(hc:fd.code=.ref c)(S:FnScope N ps (ai st))(len:∀ vs H Q E,sp vs H Q E->vs.length=ps.length)(body:∀ (A:Around) (outer:List Env) (s:Shared) (H:Hp) (vs:List V) (Q:VK) (E:XK),Room k (A.deeper (envOfC qual (ai st) s.heap.objs.size f (.ref c)))->sp vs H Q E ->
   ∃ t,QB (cH CX0 P w K mg base N qual (ai st) f (.ref c) A outer s H E).nox (aR st) t/\t { nx:=fun _ H'=>Q .non H',rt:=Q } (start N vs) H):FnOk P w K mg base CX0 (k+1) f fd ps sp:=by
 obtain⟨oc,od,kV,doc,pm,an,cdv,ct,osl,rfl,lk,hcd⟩:=F.ex;obtain rfl:cdv=.ref c:=hc;refine sX lk hcd S len fun A outer s H vs Q E hr hs=>?_;obtain⟨t,h,q⟩:=body A outer s H vs Q E hr hs;exact⟨t,h.h.nox,q⟩
theorem yl{K:PySem.W.Frag}{x:Str}{f c P:Addr}{oc:Value}{od:Option Addr}{fd:FuncData}{sl:Array (Option Value)}(a:nsIn K mainGlobals x=some (some (.ref f)))(l:K.lookup f=some ⟨oc,od,.func fd,sl⟩)(t:tabIn K x=some (c,P)):fd.code=.ref c:=by
 unfold tabIn at t;rw[a]at t;dsimp only at t;rw[l]at t;dsimp only at t;split at t
 ·rename_i c' e;rw[e];split at t
  ·split at t
   ·cases t;rfl
   ·cases t
  ·cases t
 ·cases t
theorem wG{l:PySem.W.OpenLaw}{n k:Nat}{q:Program}{loose:List Str}{XP:(Str->Option Value)->Heap->Prop}{YP:World->Heap->Prop}{d:DefRec}{K:Params->PySem.W.Frag}{tabs:Params->List (Str×Addr×Addr)}{sp:World->Sp}{x:Str}(hn:l.most=some n)(hn2:n<=sizeLine)(hdf:d.params.defaults=[])(hr:Room k callerA)(hY:∀ (w:World) (h:Heap),YP w h->(K w.params).In h)(ht:∀ (w:World),∀ t∈tabs w.params,tabIn (K w.params) t.1=some t.2/\∃ d',(recsOf q).find? (fun e=>e.name == t.1)=some d')(nt:∀ w:World,noTabs (K w.params)=true)(F:∀ (w:World) (mg:Str->Option Value) (fa:Addr) (h:Heap),(K w.params).In h->h.Ns mainGlobals mg->mg d.name=some (.ref fa) ->
   ∃fd:FuncData,(∀(s:Shared) (u:Value),BindsTo s fd ⟨[u],[]⟩ [(x,u)]) /\
    ∀ base:Heap,(K w.params).In base->base.Ns mainGlobals mg->Blt base mg->(∀ t∈tabs w.params,CodeHd base t.2.1 t.2.2)->FnOk l.prog w (K w.params) mg base CX0 k fa fd [x] (sp w))(go:∀ (w:World) (H:Hp) (a:Addr) (ns:List Int),ns.length<=n->(∀ t∈tabs w.params,H t.2.2=some (.tbl #[]))->SqL (K w.params) H a (ns.map V.int)->sp w [.ref a] H (fun v _=>v=.bl true) fun _ _ _=>False) :
  PySem.W.WalkO q loose XP YP l.row.toRowW d [] (fun f vs=>PySem.call f vs):=by
 refine Att.attach_call hn hdf fun w s₀ s₁ mg mb fa o pm cd doc a vs ns G Y ho hd hcd hmg hobj hints hlen hg=>?_;have kx:=hY w _ Y;obtain⟨fd,hb,hF⟩:=F w mg fa _ kx G.T.g hmg;refine xA (tabs:=(tabs w.params).map (·.2)) kx G.T.g G.T.b G.T.builtins G.T.nolimit hg G.T.bmain (fun r hr'=>?_) (nt w) hobj hints (Zr hlen hn2) hr (fun base h1 h2 h3 h4=>hF base h1 h2 h3 fun t htm=>h4 _ (List.mem_map_of_mem htm)) hb fun H h1 h2=>go w H a ns hlen (fun t htm=>h1 _ (List.mem_map_of_mem htm)) h2;obtain⟨t,htm,rfl⟩:=y9.mp hr';obtain⟨e1,d',e2⟩:=ht w t htm;exact tab_of G.T kx e2 (by rw[e1])
open PySem PySem.Spec PyProof.Rows PySem.W
inductive SKey where
 |i (n:Int)|s (t:Str)|bi (b:Bool)(n:Int)
def SKey.nums:SKey->List Int
 |.i n=>[n]
 |.s t=>t.cps.toList.map Int.ofNat
 |.bi b n=>[if b then 1 else 0,n]
def SKey.at(H:Hp):SKey->V->Prop
 |.i n,v=>v=.int n
 |.s t,v=>v=.str t
 |.bi b n,v=>∃a,v=.ref a/\H a=some (.tup [.bl b,.int n])
theorem SKey.at.same{H H':Hp}(sm:Same H H'):∀{k:SKey} {v:V},k.at H v->k.at H' v
 |.i _,_,h=>h
 |.s _,_,h=>h
 |.bi _ _,_,⟨a,e,h⟩=>⟨a,e,sm _ _ h⟩
def kL(ks:List SKey):Prop:=(∀k∈ks,∃n,k=.i n)\/(∀k∈ks,∃t,k=.s t)\/∀k∈ks,∃b n,k=.bi b n
theorem sg:∀a b:List Nat,HT.lexLt (a.map Int.ofNat) (b.map Int.ofNat)=decide (a<b)
 | [],[]=>rfl
 | [],_::_=>(decide_eq_true (List.nil_lt_cons _ _)).symm
 |_::_,[]=>(decide_eq_false (List.not_lt_nil _)).symm
 |x::a,y::b=>by
  rw[ZS,ZS,HT.lexLt_cons,sg a b];by_cases e:x=y
  ·subst e;rw[EN rfl];exact decide_eq_decide.mpr (by rw[List.cons_lt_cons_iff];simp)
  ·rw[EM (fun z=>e (Int.ofNat.inj z))];refine decide_eq_decide.mpr ?_;rw[List.cons_lt_cons_iff];constructor
   ·intro h;exact .inl (Int.ofNat_lt.mp h)
   ·rintro(h|⟨h,_⟩)
    ·exact Int.ofNat_lt.mpr h
    ·exact absurd h e
theorem tR{prog:Program}{w:World}{A:Around}{E:Value->Shared->Prop}{s:Shared}{a b:Bool}{Q:Bool->Shared->Prop}(h:Q (!a&&b) s):wpAny (model prog w) A (oneLt' true (.bool a) (.bool b)) Q E s:=by rw[oneLt'_eq];simp only[if_true];refine z0 (wpAny_cRoomFor_byValue rfl ?_);refine z0 (wpAny_callSpecialIfBound?_slot (PySem.typeIs_bool s a) F.slot_bool_lt (wpAny_call_entry F.slot_bool_lt (PySem.typeIs_bool s a) F.entry_int_lt ?_ (F.args_int_lt_2 _ _)));cases a<;>cases b<;>exact Zj ⟨_,rfl,ZU h⟩
theorem vc{prog:Program}{w:World}{A:Around}{s:Shared}{fin:Bool}{Q:Bool->Shared->Prop}{b c:Bool}{n m:Int}{t u:Tok}(hf:fin=false)(q:Q (HT.lexLt (SKey.bi b n).nums (SKey.bi c m).nums) s):KatLex prog w A true fin Q ([Value.bool b,.int n t].zip [Value.bool c,.int m u]) 0 s:=by
 subst hf;obtain⟨e,he,iff⟩:=HT.eqAt_int A s n t m u;refine kat_cons (SeqAt.EqAt.bool_bool b c _ _ _ _ ?_);have key:Q (if b=c then decide (n<m)else(!b&&c)) s:=by
  have e1:HT.lexLt [n] [m]=decide (n<m):=by
   rw[HT.lexLt_cons,HT.lexLt_nil_nil];by_cases z:n=m
   ·rw[EN z,decide_eq_false (by omega)]
   ·rw[EM z]
  have e2:HT.lexLt (SKey.bi b n).nums (SKey.bi c m).nums=if b=c then decide (n<m)else(!b&&c):=by unfold SKey.nums;rw[HT.lexLt_cons,e1];cases b<;>cases c<;>simp
  rw[e2]at q;exact q
 refine kat_go (fun et=>?_) (fun ef=>?_)
 ·have ebc:b=c:=by simpa using et
  rw[EN ebc]at key;refine kat_yes (kat_cons (he _ _ _ _ (kat_go (fun et2=>?_) (fun ef2=>?_))))
  ·refine kat_yes (kat_nil ?_);rw[decide_eq_false (by rw[iff.mp et2];omega)]at key;exact key
  ·exact kat_no (kat_one _ _ (PyProof.Rows.lt_int key))
 ·have ebc:b≠c:=by intro z;subst z;simp at ef
  rw[EM ebc]at key;exact kat_no (tR key)
section
variable{X:Cx}{pins:List (Addr×Obj)}{σ:St}{H:Hp}{s:Shared}{h':Heap}
def oy(X:Cx)(pins:List (Addr×Obj))(σ:St)(f:Addr)(sp:Sp):Prop:=∀(s:Shared) (H:Hp) (u:Value) (v:V) (Q:VK),Inv X pins σ H s->RelV v u->sp [v] H Q E0->codeAny (model X.prog X.w) X.A.in1.in1 (.call (.ref f) ⟨[u],[]⟩) (CR CX0 X.stack X.prog X.w H s Q E0) s
structure SG(X:Cx)(pins:List (Addr×Obj))(σ:St)(H1:Hp)(m:Str->Option Value)(kS D:Addr)(e1:Nat)(ks:List SKey)(as:List V)(us:List Value)(e:Nat)(H:Hp)(s:Shared):Prop where
 I:Inv X pins σ H s
 sm:Same H1 H
 fk:bc X pins H kS
 fd:bc X pins H D
 bk:X.base.get? kS=none
 bd:X.base.get? D=none
 hk:s.heap.get? kS=some (seqObj "list" (List.toArray us) e)
 hd:s.heap.get? D=some (seqObj "list" #[] e1)
 ns:s.heap.Ns X.env.locals m
 vals:Vals as us
 keys:∀(i:Nat) (a:V) (k:SKey),as[i]?=some a->ks[i]?=some k->k.at H a
theorem SG.fr{H1:Hp}{m:Str->Option Value}{kS D:Addr}{e1:Nat}{ks:List SKey}{as:List V}{us:List Value}{e:Nat}(S:SG X pins σ H1 m kS D e1 ks as us e H s):Fr X.base X.env.locals s.heap m:=⟨S.ns,S.I.bk,Zr S.I.ok.bsz S.I.ok.above⟩
theorem lP{H1:Hp}{m:Str->Option Value}{kS D:Addr}{e1:Nat}{ks:List SKey}{xs:List V}{its:List Value}{f:Addr}{sp:Sp}{Fin:List Value->Nat->Shared->Prop}(hne:kS≠D)(rv:Vals xs its)(hl:ks.length=xs.length)(F:oy X pins σ f sp)(spec:∀(i:Nat) (v:V) (key:SKey) (H':Hp),xs[i]?=some v->ks[i]?=some key->Same H1 H'->∀R:VK,(∀kv H'',Same H' H''->key.at H'' kv->R kv H'')->sp [v] H' R E0)(fin:∀(as:List V) (us:List Value) (e:Nat) (H:Hp) (s:Shared),SG X pins σ H1 m kS D e1 ks as us e H s->as.length=xs.length->Fin us e s) :
  ∀(r:List Value) (as:List V) (us:List Value) (e:Nat) (H:Hp) (s:Shared),SG X pins σ H1 m kS D e1 ks as us e H s->its=its.take as.length++r->as.length+r.length=xs.length ->
   KatKeys X.prog X.w X.A.in1.in1 X.base X.env.locals m kS (.ref f) Fin r us e s
 | [],as,us,e,H,s,S,_,hlen=>KatKeys.nil (fin as us e H s S (by simpa using hlen))
 |u::r,as,us,e,H,s,S,hits,hlen=>by
  have hi:as.length<xs.length:=by rw[Zq]at hlen;omega
  have hx:xs[as.length]?=some xs[as.length]:=Za hi;obtain⟨u',gu,ru⟩:=rv.get hx;have hlt:as.length<its.length:=by rw[<-rv.length];exact hi
  have gu':its[as.length]?=some u:=by rw[hits,ZF (by rw[Z2];omega),Z2,Nat.min_eq_left (by omega),Nat.sub_self];rfl
  rw[gu']at gu;cases gu;have hkey:ks[as.length]?=some (ks[as.length]'(by omega)):=Za (by omega);generalize ks[as.length]'(by omega)=key at hkey;refine KatKeys.cons (wpAny_call (Yr (F s H u xs[as.length] (fun v H''=>Same H H''/\key.at H'' v) S.I ru (spec _ _ _ H hx hkey S.sm _ fun kv H'' s' q=>⟨s',q⟩)) fun res s' hq=>?_));cases res with
  |error e=>exact hq
  |ok fl =>
   cases fl with
   |next=>exact False.elim hq
   |brk=>exact False.elim hq
   |cont=>exact False.elim hq
   |ret uv =>
    obtain⟨v,H'',os,bare,un,hok,rvv,sm,ea⟩:=hq;obtain⟨hh,g,d,t,os'⟩:=s';obtain rfl:os'=s.os:=os;have I2:Inv X pins σ H'' { s with heap:=hh,gens:=g,drawn:=d,toks:=t }:=S.I.call (h':=hh) (g':=g) (d':=d) (t':=t) (ch:=[]) un hok bare (fun b z=>absurd z (by simp));have nstk:∀{b:Addr},bc X pins H b->b∉frs X.stack:=fun{b} fo z=>(Ze.mp (S.I.stkSub b z)).elim fo.2.1 fo.2.2.1;have hk2:hh.get? kS=some (seqObj "list" (List.toArray us) e):=un.keep kS _ S.hk S.fk.1 (nstk S.fk) (by simp);have hd2:hh.get? D=some (seqObj "list" #[] e1):=un.keep D _ S.hd S.fd.1 (nstk S.fd) (by simp);have ns2:hh.Ns X.env.locals m:=by obtain⟨o,es,ep,ho,rr⟩:=id S.ns;obtain⟨sl,hL⟩:=un.any ho S.I.free (by simp);exact⟨_,es,ep,hL,rr⟩
    have fk2:bc X pins H'' kS:=⟨un.free kS _ S.hk S.fk.1 (by simp),S.fk.2⟩
    have fd2:bc X pins H'' D:=⟨un.free D _ S.hd S.fd.1 (by simp),S.fd.2⟩
    have hkL:kS≠X.env.locals:=S.fk.2.1;refine KatBack.intro (news:=(kS,seqObj "list" (List.toArray us) e)::fB X.base hh X.env.locals kS) ⟨ns2,I2.bk,Zr S.I.ok.bsz S.I.ok.above⟩ (fR hk2 hkL S.bk) (.head ik) fun h3 c F3 N3=>?_;have mv:=fQ (fun b o q=>I2.bk b o q) F3 N3;have I3:Inv X pins σ H'' { s with heap:=h3,gens:=g,drawn:=d,toks:=t }:=Inv.movedF (ch:=[kS]) (t':=t) I2 (fun b hb=>by rw[Zd.mp hb];exact fk2) mv ⟨m,ns2,F3.ns⟩;refine lP hne rv hl F spec fin r (as++[v]) (us++[uv]) c H'' _ ⟨I3,S.sm.trans sm,fk2,fd2,S.bk,S.bd,(N3 _ (.head _)).1,mv D _ S.fd.2.1 (fun z=>hne (Zd.mp z).symm) hd2,F3.ns,S.vals.append (.cons rvv .nil),fun i b key' h1 h2=>?_⟩ ?_ ?_
    ·by_cases hi2:i<as.length
     ·rw[y4 hi2]at h1;exact(S.keys i b key' h1 h2).same sm
     ·have hi3:=(Zk.mp h1).1;rw[Zs,ZC]at hi3;have e3:i=as.length:=by omega
      subst e3;rw[ZF (Zb _),Nat.sub_self]at h1;cases h1;rw[hkey]at h2;cases h2;exact ea
    ·rw[Zs,ZC,List.take_add_one,gu',Option.toList_some,Zv];exact hits
    ·rw[Zs,ZC,<-hlen,Zq];omega
theorem qX(b:Bool){xs:List V}{us:List Value}(h:Vals xs us):Vals (katRev b xs) (katRev b us):=by
 cases b with
 |false=>exact h
 |true =>
  show Vals xs.reverse us.reverse;induction h with
  |nil=>exact .nil
  |cons r _ ih =>rw[List.reverse_cons,List.reverse_cons];exact ih.append (.cons r .nil)
theorem zw(n m:Int):HT.lexLt [n] [m]=decide (n<m):=by
 rw[HT.lexLt_cons,HT.lexLt_nil_nil];by_cases z:n=m
 ·rw[EN z,decide_eq_false (by omega)]
 ·rw[EM z]
theorem rG{b:Bool}{kw:List (Str×Value)}{ks:List SKey}{xs:List V}{f l:Addr}{sp:Sp}{Q:VK}(I:Inv X pins σ H s)(hH:H l=some (.lst xs))(h2:2<=xs.length)(h64:xs.length<64)(hl:ks.length=xs.length)(hne:kL ks)(hs1:argsOk "sorted" ⟨[.ref l],kw⟩)(hs2:∀x,argsOk "list.sort" ⟨[.ref x],kw⟩)(hs3:∀x,Builtin.«list.sort» ⟨[.ref x],kw⟩=ksk_tree x (.ref f) b)(F:∀l,oy (wX X l) pins σ f sp)(spec:∀(i:Nat) (v:V) (key:SKey) (H':Hp),xs[i]?=some v->ks[i]?=some key->Same H H'->∀R:VK,(∀kv H'',Same H' H''->key.at H'' kv->R kv H'')->sp [v] H' R E0)(q:∀(p:Array Nat) (H2:Hp) (D:Addr),POk xs.length p->LS (fun i j=>HT.lexLt ((katRev b (ks.map SKey.nums)).getD i []) ((katRev b (ks.map SKey.nums)).getD j [])) p xs.length->Same H H2->H2 D=none->Q (.ref D) (upd H2 D (.lst (katRev b (p.toList.map fun i=>(katRev b xs).getD i .non))))) :
  wpAny (model X.prog X.w) X.A (call (.builtin "sorted") [.ref l] kw) (EP X pins σ Q) X.xe s:=by
 obtain⟨z,its,n,rv,hlen,e⟩:=I.lstM hH;obtain⟨m,F0⟩:=I.fr;have li:its.length=xs.length:=hlen.symm;refine kat_sortedK (vs:=its) (b:=b) F0 (gI X.base s.heap X.env.locals) ⟨_,e,rfl,n,rfl⟩ (by omega) (by omega) hs1 hs2 hs3 fun D kS e1 h1 F1 N1 hDk hD=>?_;have nD:=N1 (D,seqObj "list" #[] e1) (.tail _ (.head _));have nK:=N1 (kS,seqObj "list" #[] 0) (.head _);have hds:s.heap.get? D=none:=by
  cases g:s.heap.get? D with
  |none=>rfl
  |some o=>exact absurd (hD (D,o) (dU g nD.2.1 nD.2.2)) (Yc _)
 have hks:s.heap.get? kS=none:=by
  cases g:s.heap.get? kS with
  |none=>rfl
  |some o=>exact absurd (Nat.lt_trans hDk (hD (kS,o) (dU g nK.2.1 nK.2.2))) (Yc _)
 have xk:=I.exOk hks nK.2.1 nK.2.2;have xd:=I.exOk hds nD.2.1 nD.2.2;have hlx:∀b∈[kS,D],ExOk X b:=fun b' hb=>by
  simp only[Ze,Zo,ZJ]at hb;rcases hb with rfl|rfl
  ·exact xk
  ·exact xd
 have fpk:=I.fpW (l:=[kS,D]) (by simp) xk hks;have fpd:=I.fpW (l:=[kS,D]) (by simp) xd hds;have mv0:∀b u,b≠X.env.locals->b∉([]:List Addr)->s.heap.get? b=some u->h1.get? b=some u:=fun b u hL _ g=>by
  cases qb:X.base.get? b with
  |none=>exact(N1 (b,u) (.tail _ (.tail _ (dU g hL qb)))).1
  |some o =>have e':=I.bk b o qb;rw[g]at e';cases e';exact F1.keep b u qb
 have I1:Inv X pins σ H { s with heap:=h1 }:=Inv.movedF (ch:=[]) (t':=s.toks) I (fun b hb=>absurd hb (by simp)) mv0 ⟨m,F0.ns,F1.ns⟩;have I2:=I1.widen hlx;have hkd:kS≠D:=ZV hDk;refine lP (X:=wX X [kS,D]) (H1:=H) (D:=D) (e1:=e1) (ks:=ks) (xs:=xs) (its:=its) hkd rv hl (F _) spec (fun as us e2 H' s' S la=>?_) its [] [] 0 H { s with heap:=h1 } ⟨I2,Same.refl H,fpk,fpd,nK.2.2,nD.2.2,nK.1,nD.1,F1.ns,.nil,fun i a k h=>by simp at h⟩ (by simp) (by simpa using li);have hN:its.length=xs.length:=li;have lu:us.length=xs.length:=by rw[<-S.vals.length,la]
 have rvR:Vals (katRev b xs) (katRev b its):=qX b rv;have lR:(katRev b xs).length=xs.length:=kat_len b xs;have gk:∀i,i<xs.length->∃(v:V) (u:Value) (k:SKey),RelV v u/\(katRev b us).getD i Value.none=u/\k∈ks/\(katRev b (ks.map SKey.nums)).getD i []=k.nums/\k.at H' v:=fun i hi=>by
  obtain⟨j,hj,e1⟩:∃j,j<xs.length/\∀{α:Type} (l:List α),l.length=xs.length->(katRev b l)[i]?=l[j]?:=by
   cases b with
   |false=>exact⟨i,hi,fun l _=>rfl⟩
   | true=>exact⟨xs.length - 1 - i,by omega,fun l hl'=>by
     show l.reverse[i]?=_;rw[Yf (by omega),hl']⟩
  have h1:as[j]?=some (as[j]'(by omega)):=Za (by omega);have h2:ks[j]?=some (ks[j]'(by omega)):=Za (by omega);obtain⟨u,gu,ru⟩:=S.vals.get h1;refine⟨_,u,_,ru,?_,ZE (show j<ks.length by omega),?_,S.keys j _ _ h1 h2⟩
  ·rw[Zl,e1 us lu,gu];rfl
  ·rw[Zl,e1 (ks.map SKey.nums) (by rw[Zi,hl]),Zm,h2];rfl
 have go:∀κ:SortKind,(∀(i j:Nat) (C:Bool->Shared->Prop),i<xs.length->j<xs.length->C (HT.lexLt ((katRev b (ks.map SKey.nums)).getD i []) ((katRev b (ks.map SKey.nums)).getD j [])) s'->kas_ask X.prog X.w X.A.in1.in1 κ (katRev b us) i j C s') ->
   (kas_sort its.length).kasWp (kas_ask X.prog X.w X.A.in1.in1 κ (katRev b us)) (fun p s3=>KatFin X.base X.env.locals m kS D us e2 e1 (katRev b (p.toList.map fun i=>(katRev b its).getD i Value.none)) (fun s4=>EP X pins σ Q (.ref D) s4) s3) s':=fun κ hask=>by
  rw[hN];refine rY (n:=xs.length) (lt:=fun i j=>HT.lexLt ((katRev b (ks.map SKey.nums)).getD i []) ((katRev b (ks.map SKey.nums)).getD j [])) hask (fun p hp hs=>?_) (xx (by omega)) (zr (Bj _) (by omega));refine KatFin.intro (news:=(kS,seqObj "list" (List.toArray us) e2)::fB X.base s'.heap X.env.locals kS) S.fr (fR S.hk S.fk.2.1 S.bk) (.head ik) fun h3 c F3 N3=>?_;have mv3:=fQ (fun b' o qb=>S.I.bk b' o qb) F3 N3;have hd3:h3.get? D=some (seqObj "list" #[] e1):=mv3 D _ S.fd.2.1 (fun zz=>hkd (Zd.mp zz).symm) S.hd;refine KasFin.intro (news:=(D,seqObj "list" #[] e1)::fB X.base h3 X.env.locals D) (s:={ s' with heap:=h3 }) F3 (fR hd3 S.fd.2.1 S.bd) (.head ik) fun h4 c4 F4 N4=>?_;have mv4:=fQ (fun b' o qb=>F3.keep b' o qb) F4 N4;have hch:∀b∈[kS,D],bc (wX X [kS,D]) pins H' b:=fun b' hb=>by
   simp only[Ze,Zo,ZJ]at hb;rcases hb with rfl|rfl
   ·exact S.fk
   ·exact S.fd
  have mv:∀b u,b≠X.env.locals->b∉[kS,D]->s'.heap.get? b=some u->h4.get? b=some u:=fun b' u hL hx g=>mv4 b' u hL (fun zz=>hx (by rw[Zd.mp zz];simp)) (mv3 b' u hL (fun zz=>hx (by rw[Zd.mp zz];simp)) g);have pl:∀i∈p.toList,i<xs.length:=fun i hi=>by have:=(hp.mem_iff).mp (Array.mem_toList_iff.mp hi);simpa using this
  have vals:∀(w:List Nat),(∀i∈w,i<xs.length)->Vals (w.map fun i=>(katRev b xs).getD i .non) (w.map fun i=>(katRev b its).getD i Value.none):=fun w=>by
   induction w with
   |nil=>intro _;exact .nil
   |cons i w ih =>intro hw;have hi:=hw i ZA;have hx:(katRev b xs)[i]?=some ((katRev b xs)[i]'(by omega)):=Za (by omega);obtain⟨u,gu,ru⟩:=rvR.get hx;refine .cons ?_ (ih fun j hj=>hw j (Zu _ hj));show RelV ((katRev b xs).getD i V.non) ((katRev b its).getD i Value.none);rw[Zl,Zl,hx,gu];exact ru
  have lp:p.toList.length=xs.length:=by have:=hs.1;simpa using this
  have new:ObjOk X.prog X.w (upd H' D (.lst (katRev b (p.toList.map fun i=>(katRev b xs).getD i .non)))) h4 D (.lst (katRev b (p.toList.map fun i=>(katRev b xs).getD i .non))):=⟨by rw[kat_len,Zi,lp];exact bU (by omega),_,c4,qX b (vals _ pl),(N4 _ (.head _)).1⟩
  have I4:=Inv.tookF (X:=wX X [kS,D]) (ch:=[kS,D]) (a:=D) (o:=.lst (katRev b (p.toList.map fun i=>(katRev b xs).getD i .non))) (t':=s'.toks) S.I (by simp) hch mv ⟨m,S.ns,F4.ns⟩ new;exact⟨.ref D,_,I4.narrow I.ok (fun b' hb=>(hlx b' hb).old),rfl,q p H' D hp hs.2 S.sm S.fd.1⟩
 rcases hne with hI|hS|hB
 ·refine kas_kind (T:=.type "int") (by omega) (fun u hu=>?_) rfl rfl (go _ fun i j C hi hj hC=>?_)
  ·obtain⟨j,hj,rfl⟩:=List.getElem_of_mem hu;have h1:as[j]?=some (as[j]'(by omega)):=Za (by omega);have h2:ks[j]?=some (ks[j]'(by omega)):=Za (by omega);obtain⟨u,gu,ru⟩:=S.vals.get h1;have ky:=S.keys j _ _ h1 h2;obtain⟨n',en⟩:=hI _ (ZE (show j<ks.length by omega));rw[en]at ky;rw[show as[j]'(by omega)=V.int n' from ky]at ru;obtain⟨t,rfl⟩:=ru;rw[Za hj]at gu;rw[Zw gu];exact .now
  ·obtain⟨v,u,k1,ru,eu,m1,en,at1⟩:=gk i hi;obtain⟨v2,u2,k2,ru2,eu2,m2,en2,at2⟩:=gk j hj;obtain⟨n1,rfl⟩:=hI _ m1;obtain⟨n2,rfl⟩:=hI _ m2;rw[show v=V.int n1 from at1]at ru;rw[show v2=V.int n2 from at2]at ru2;obtain⟨t,rfl⟩:=ru;obtain⟨t2,rfl⟩:=ru2;unfold kas_ask;rw[eu,eu2];rw[en,en2]at hC;refine kat_lt_int ?_;have e1':HT.lexLt (SKey.i n1).nums (SKey.i n2).nums=decide (n1<n2):=zw n1 n2;rw[e1']at hC;exact hC
 ·refine kas_kind (T:=.type "str") (by omega) (fun u hu=>?_) rfl rfl (go _ fun i j C hi hj hC=>?_)
  ·obtain⟨j,hj,rfl⟩:=List.getElem_of_mem hu;have h1:as[j]?=some (as[j]'(by omega)):=Za (by omega);have h2:ks[j]?=some (ks[j]'(by omega)):=Za (by omega);obtain⟨u,gu,ru⟩:=S.vals.get h1;have ky:=S.keys j _ _ h1 h2;obtain⟨n',en⟩:=hS _ (ZE (show j<ks.length by omega));rw[en]at ky;rw[show as[j]'(by omega)=V.str n' from ky]at ru;obtain⟨t,rfl⟩:=ru;rw[Za hj]at gu;rw[Zw gu];exact .now
  ·obtain⟨v,u,k1,ru,eu,m1,en,at1⟩:=gk i hi;obtain⟨v2,u2,k2,ru2,eu2,m2,en2,at2⟩:=gk j hj;obtain⟨n1,rfl⟩:=hS _ m1;obtain⟨n2,rfl⟩:=hS _ m2;rw[show v=V.str n1 from at1]at ru;rw[show v2=V.str n2 from at2]at ru2;obtain⟨t,rfl⟩:=ru;obtain⟨t2,rfl⟩:=ru2;unfold kas_ask;rw[eu,eu2];rw[en,en2]at hC;refine kas_lt_str ?_;have e1':HT.lexLt (SKey.s n1).nums (SKey.s n2).nums=decide (n1.cps.toList<n2.cps.toList):=sg _ _;rw[e1']at hC;exact hC
 ·have tups:∀(vs:List V) (ws:List Value) (n:Nat),Vals vs ws->n+vs.length=ks.length->(∀(i:Nat) (v:V) (k:SKey),vs[i]?=some v->ks[n+i]?=some k->k.at H' v)->∃fs:List Value,KatTups s'.heap ws fs/\fs.length=ws.length/\∀v∈fs,∃b,v=.bool b:=fun vs=>by
   induction vs with
   |nil =>intro ws n hv _ _;cases hv;exact⟨[],KatTups.nil,rfl,fun v h=>nomatch h⟩
   |cons v vs ih =>
    intro ws n hv hl' h;cases hv with
    |cons rv1 hv =>
     rw[Zq]at hl';have hkn:ks[n]?=some (ks[n]'(by omega)):=Za (by omega);obtain⟨b',n',en⟩:=hB _ (ZE (show n<ks.length by omega));rw[en]at hkn;obtain⟨a,rfl,ea⟩:=h 0 v _ rfl (by rw[Nat.add_zero];exact hkn);cases rv1;obtain⟨ia,ra,pa,za⟩:=S.I.tuple (SqT.of (K:=X.K) ea);obtain⟨oa,eo,ca,n1,da⟩:=id pa;cases ra with
     |cons r1 ra =>
      cases r1;obtain⟨fs,f1,f2,f3⟩:=ih _ (n+1) hv (by omega) (fun i w k' h1 h2=>h (i+1) w k' h1 (by rw[show n+(i+1)=n+1+i by omega];exact h2));refine⟨.bool b'::fs,KatTups.cons eo ca da rfl f1,by rw[Zq,Zq,f2],fun v hv=>?_⟩;rcases Ze.mp hv with rfl|hv
      ·exact⟨_,rfl⟩
      ·exact f3 v hv
  obtain⟨fs,t1,t2,t3⟩:=tups as us 0 S.vals (by omega) (fun i v k h1 h2=>S.keys i v k h1 (by rw[Nat.zero_add]at h2;exact h2));refine kat_kind (T:=.type "bool") t1 (by omega) (fun v hv=>?_) rfl (go _ fun i j C hi hj hC=>?_)
  ·obtain⟨b',rfl⟩:=t3 v hv;exact .now
  ·obtain⟨v,u,k1,ru,eu,m1,en,at1⟩:=gk i hi;obtain⟨v2,u2,k2,ru2,eu2,m2,en2,at2⟩:=gk j hj;obtain⟨b1,n1,rfl⟩:=hB _ m1;obtain⟨b2,n2,rfl⟩:=hB _ m2;obtain⟨a1,rfl,ha1⟩:=at1;obtain⟨a2,rfl,ha2⟩:=at2;cases ru;cases ru2;obtain⟨ia,ra,pa,za⟩:=S.I.tuple (SqT.of (K:=X.K) ha1);obtain⟨ib,rb,pb,zb⟩:=S.I.tuple (SqT.of (K:=X.K) ha2);obtain⟨oa,eoa,ca,q1,da⟩:=id pa;obtain⟨ob,eob,cb,q2,db⟩:=id pb;obtain⟨wa,wb,rfl,ra1,ra2⟩:=gz ra;obtain⟨wc,wd,rfl,rb1,rb2⟩:=gz rb;cases ra1;cases rb1;obtain⟨t,rfl⟩:=ra2;obtain⟨t2,rfl⟩:=rb2;unfold kas_ask;rw[eu,eu2];rw[en,en2]at hC;exact kat_lt eoa da eob db (vc rfl hC)
theorem nA{α:Type}{x:Array α}(h:x.size<2):x.reverse=x:=by
 apply Yp.mp;rw[Array.toList_reverse]
 match x,h with
 |⟨[]⟩,_=>rfl
 |⟨[_]⟩,_=>rfl
 |⟨_::_::_⟩,h=>exact absurd h (by simp)
theorem mZ{M:Model}{A:Around}{E:Value->Shared->Prop}{P:PySem.Fin->Shared->Prop}{s:Shared}{a:Addr}{b:Bool}{items keys:Array Value}{before:Nat}{kS:Value}(h:items.size<2)(q:wpAny M A (ksk_end a false items before kS keys) P E s):wpAny M A (ksk_end a b items before kS keys) P E s:=by
 cases b with
 |false=>exact q
 |true =>
  have z:(keys.zip items).size<2:=by rw[Array.size_zip];omega
  have e:ksk_end a true items before kS keys=(rule "list.sort.reverse" >>= fun _=>ksk_end a false items before kS keys):=by
   unfold ksk_end;simp only[if_true,Yg,if_false,EN h,pure_bind,StateT.run_pure,nA z];have e2:ksk_tail a true before kS (SortSt.mk' general' (keys.zip items) #[] 7 none)=ksk_tail a false before kS (SortSt.mk' general' (keys.zip items) #[] 7 none):=by unfold ksk_tail;have e3:(Array.map (fun x=>x.snd) (arrOf (SortSt.mk' general' (keys.zip items) #[] 7 none))).reverse=Array.map (fun x=>x.snd) (arrOf (SortSt.mk' general' (keys.zip items) #[] 7 none)):=nA (by rw[Array.size_map];exact z);simp only[if_true,Yg,if_false,e3]
   rw[e2]
  rw[e];exact z0 (wpAny_rule q)
theorem wy{A:Around}{E:Value->Shared->Prop}{P:PySem.Fin->Shared->Prop}{a:Addr}{f v:Value}{n:Nat}{b:Bool}(ho:s.heap.get? a=some (seqObj "list" #[v] n))(h:∀ (h1:Heap) (e1:Nat) (kS:Addr),(∀ b u,b≠a->s.heap.get? b=some u->h1.get? b=some u)->h1.get? a=some (seqObj "list" #[] e1)->h1.get? kS=some (seqObj "list" #[] 0)->s.heap.objs.size<=kS ->
   wpAny (model X.prog X.w) A (call f [v]) (fun k s2=>∃ e,s2.heap.get? kS=some (seqObj "list" #[] e)/\s2.heap.get? a=some (seqObj "list" #[] e1) /\
    ∀ h3 c,(∀ b u,b≠a->b≠kS->s2.heap.get? b=some u->h3.get? b=some u)->h3.get? a=some (seqObj "list" #[v] c)->(∃ o,h3.get? kS=some o)->P (.done (.ret .none)) { s2 with heap:=h3 }) (fun _ _=>False) { s with heap:=h1 }) :
  wpAny (model X.prog X.w) A (ksk_tree a f b) P E s:=by
 have u1:=y8 s.heap a (Obj.mapSeq fun _=>(#[]:Array Value));obtain⟨e1,o1⟩:∃e1,(s.heap.update a (Obj.mapSeq fun _=>(#[]:Array Value))).get? a=some (seqObj "list" #[] e1):=⟨_,get?_update_seq ho fun _=>#[]⟩
 have zk:((s.heap.update a (Obj.mapSeq fun _=>(#[]:Array Value))).push (seqObj "tuple" #[v] 0)).objs.size=s.heap.objs.size+1:=by rw[size_push',Heap.size_update]
 unfold ksk_tree;refine z0 (listItems_at ho rfl (z0 (listUpdate_at ho rfl (z0 (seqEpoch_at o1 rfl (z0 (wpAny_newTuple (z0 (wpAny_newList (Z0 ?_) (ZB _))) (sz rfl))))) (sz rfl) (ZB _))));have la:a<s.heap.objs.size:=Zf ho;have key:=h (((s.heap.update a (Obj.mapSeq fun _=>(#[]:Array Value))).push (seqObj "tuple" #[v] 0)).push (seqObj "list" #[] 0)) e1 (s.heap.objs.size+1) (fun b u hb g=>z9 _ (z9 _ ((u1.2 b hb).trans g))) (z9 _ (z9 _ o1)) (by rw[<-zk];exact Zh _ rfl) (y6 _);show wpAny (model X.prog X.w) A (ksk_rest a f b #[v] e1 (.ref ((s.heap.update a (Obj.mapSeq fun _=>(#[]:Array Value))).push (seqObj "tuple" #[v] 0)).objs.size)) P E { s with heap:=((s.heap.update a (Obj.mapSeq fun _=>(#[]:Array Value))).push (seqObj "tuple" #[v] 0)).push (seqObj "list" #[] 0) };rw[zk];have hne:s.heap.objs.size+1≠a:=ZV (Ym la);generalize((s.heap.update a (Obj.mapSeq fun _=>(#[]:Array Value))).push (seqObj "tuple" #[v] 0)).push (seqObj "list" #[] 0)=h1 at key ⊢;generalize s.heap.objs.size+1=kS at key hne ⊢;unfold ksk_rest;refine z0 (wpAny_rule ?_);rw[<-Array.forIn_toList];show wpAny _ _ (forIn [v] PUnit.unit _ >>= _) _ _ _;rw[List.forIn_cons,bind_assoc];refine z0 ?_;refine z0 (wpAny_attempt (ZY key (fun k s2 hk=>?_) fun _ _ x=>x.elim));obtain⟨e,hks,ha2,fin⟩:=hk;dsimp only;have v1:=y8 s2.heap kS (Obj.mapSeq (·.push k));obtain⟨c2,hc2⟩:∃c2,(s2.heap.update kS (Obj.mapSeq (·.push k))).get? kS=some (seqObj "list" #[k] c2):=⟨_,get?_update_seq hks (·.push k)⟩
 have ha3:=(v1.2 a hne.symm).trans ha2;refine z0 (listUpdate_at hks rfl (Zj ?_) (ZB _) (Nat.le_succ_of_le (sz rfl)));dsimp only;rw[List.forIn_nil,pure_bind];refine z0 (listItems_at hc2 rfl ?_);refine mZ (Ys rfl) ?_;unfold ksk_end ksk_tail;have h2:(#[v]:Array Value).size<2:=Ys rfl;have v2:=y8 (s2.heap.update kS (Obj.mapSeq (·.push k))) kS (Obj.mapSeq fun _=>(#[]:Array Value));have ha4:=(v2.2 a hne.symm).trans ha3;obtain⟨c3,hc3⟩:∃c3,((s2.heap.update kS (Obj.mapSeq (·.push k))).update kS (Obj.mapSeq fun _=>(#[]:Array Value))).get? kS=some (seqObj "list" #[] c3):=⟨_,get?_update_seq hc2 fun _=>#[]⟩
 have v3:=y8 ((s2.heap.update kS (Obj.mapSeq (·.push k))).update kS (Obj.mapSeq fun _=>(#[]:Array Value))) a (Obj.mapSeq fun _=>(#[v]:Array Value));obtain⟨c4,hc4⟩:∃c4,(((s2.heap.update kS (Obj.mapSeq (·.push k))).update kS (Obj.mapSeq fun _=>(#[]:Array Value))).update a (Obj.mapSeq fun _=>(#[v]:Array Value))).get? a=some (seqObj "list" #[v] c4):=⟨_,get?_update_seq ha4 fun _=>#[v]⟩
 have ez:(#[k]:Array Value).zip #[v]=#[(k,v)]:=by apply Yp.mp;rw[Array.toList_zip];rfl
 simp only[ez,Yg,if_false];rw[EN h2,EN h2];refine z0 (Zj ?_);rw[StateT.run_pure];refine z0 (Zj ?_);dsimp only;have em:Array.map (fun x=>x.snd) (arrOf (SortSt.mk' general' #[(k,v)] #[] 7 none))=#[v]:=by show Array.map (fun x:Value×Value=>x.2) #[(k,v)]=_;simp
 rw[em];refine z0 (listUpdate_at hc2 rfl (z0 (wpAny_letGo (z0 (seqEpoch_at ha4 rfl (z0 (listUpdate_at ha4 rfl ?_ (ZB _) (Nat.le_succ_of_le (sz rfl)))))))) (sz rfl) (ZB _));simp only[bne_self_eq_false,Yg,if_false];refine Zj (fin _ c4 (fun b u h1 h2 g=>(v3.2 b h1).trans ((v2.2 b h2).trans ((v1.2 b h2).trans g))) hc4 ⟨_,(v3.2 kS hne).trans hc3⟩)
theorem rH{b:Bool}{kw:List (Str×Value)}{xv:V}{f l:Addr}{sp:Sp}{Q:VK}(I:Inv X pins σ H s)(hH:H l=some (.lst [xv]))(hs1:argsOk "sorted" ⟨[.ref l],kw⟩)(hs2:∀x,argsOk "list.sort" ⟨[.ref x],kw⟩)(hs3:∀x,Builtin.«list.sort» ⟨[.ref x],kw⟩=ksk_tree x (.ref f) b)(F:∀l,oy (wX X l) pins σ f sp)(spec:∀H',Same H H'->∀R:VK,(∀v H'',Same H' H''->R v H'')->sp [xv] H' R E0)(q:∀(H2:Hp) (D:Addr),Same H H2->H2 D=none->Q (.ref D) (upd H2 D (.lst [xv]))) :
  wpAny (model X.prog X.w) X.A (call (.builtin "sorted") [.ref l] kw) (EP X pins σ Q) X.xe s:=by
 obtain⟨z,its,n,rv,hlen,e⟩:=I.lstM hH;obtain⟨v,rfl,rvv⟩:=bX rv;refine call_function_entry_kw kind_sorted plain_sorted entry_sorted hs1 ?_;unfold Builtin.«sorted»;refine z0 (m:=checkCount "sorted" 1 1 _) (Zj (z0 (collect_list ⟨_,e,rfl,n,rfl⟩ (z0 (wpAny_newList ?_ (sz rfl))) (sz rfl))));have z1:((s.heap.push (seqObj "list" #[] 0)).update s.heap.objs.size (Obj.mapSeq (·++[v].toArray))).objs.size=s.heap.objs.size+1:=by rw[Heap.size_update,size_push']
 have g1:(((s.heap.push (seqObj "list" #[] 0)).update s.heap.objs.size (Obj.mapSeq (·++[v].toArray))).push (seqObj "list" #[v] 0)).get? (s.heap.objs.size+1)=some (seqObj "list" #[v] 0):=by rw[<-z1];exact Zh _ rfl
 have kp:∀b o,s.heap.get? b=some o->(((s.heap.push (seqObj "list" #[] 0)).update s.heap.objs.size (Obj.mapSeq (·++[v].toArray))).push (seqObj "list" #[v] 0)).get? b=some o:=fun b o g=>by have lt:=Zf g;rw[Heap.get?_push_ne _ _ _ (by rw[z1];exact Zt (Ym lt)),Heap.get?_update_ne _ _ _ _ (Zt lt),Heap.get?_push_ne _ _ _ (Zt lt)];exact g
 have zA:(((s.heap.push (seqObj "list" #[] 0)).update s.heap.objs.size (Obj.mapSeq (·++[v].toArray))).push (seqObj "list" #[v] 0)).objs.size=s.heap.objs.size+2:=by rw[size_push',z1]
 show wpAny _ _ _ _ _ { s with heap:=((s.heap.push (seqObj "list" #[] 0)).update s.heap.objs.size (Obj.mapSeq (·++[v].toArray))).push (seqObj "list" #[v] 0) };rw[z1];generalize(((s.heap.push (seqObj "list" #[] 0)).update s.heap.objs.size (Obj.mapSeq (·++[v].toArray))).push (seqObj "list" #[v] 0))=hA at g1 kp zA ⊢;refine z0 (Z0 (wpAny_call_entry_kw slot_list_sort ⟨_,g1,rfl⟩ entry_list_sort ?body (hs2 _)))
 case body =>
  show wpAny (model X.prog X.w) X.A.in1.in1 (Builtin.«list.sort» ⟨[.ref (s.heap.objs.size+1)],_⟩) _ _ _;rw[hs3];refine wy (s:={ s with heap:=hA }) g1 fun h1 e1 kS k1 ha hk hz=>?_;have lz:s.heap.objs.size+2<=kS:=by rw[<-zA];exact hz
  have nka:kS≠s.heap.objs.size+1:=ZV lz;have da:s.heap.get? (s.heap.objs.size+1)=none:=y7 (y6 _);have dk:s.heap.get? kS=none:=y7 (Zr (Nat.le_add_right _ 2) lz);have fa:bc X pins H (s.heap.objs.size+1):=I.fpOk (y6 _) (none_of I da);have fk:bc X pins H kS:=I.fpOk (Zr (Nat.le_add_right _ 2) lz) (none_of I dk);have IA:Inv X pins σ H { s with heap:=h1 }:=I.kept (t':=s.toks) fun b o g=>k1 b o (fun zz=>by rw[zz,da]at g;cases g) (kp b o g);refine wpAny_call (Yr (F [] { s with heap:=h1 } H v xv (fun _ H''=>Same H H'') IA rvv (spec H (Same.refl H) _ fun v H'' s'=>s')) fun res s' hq=>?_);cases res with
  |error e=>exact hq
  |ok fl =>
   cases fl with
   |next=>exact False.elim hq
   |brk=>exact False.elim hq
   |cont=>exact False.elim hq
   |ret uv =>
    obtain⟨v',H'',os,bare,un,hok,_,sm⟩:=hq;obtain⟨hh,g,d,t,os'⟩:=s';obtain rfl:os'=s.os:=os;have I2:Inv X pins σ H'' { s with heap:=hh,gens:=g,drawn:=d,toks:=t }:=Inv.call (s:={ s with heap:=h1 }) (h':=hh) (g':=g) (d':=d) (t':=t) (ch:=[]) IA un hok bare (fun b zz=>absurd zz (by simp));have nstk:∀{b:Addr},bc X pins H b->b∉frs X.stack:=fun{b} fo zz=>(Ze.mp (I.stkSub b zz)).elim fo.2.1 fo.2.2.1;have hk2:=un.keep kS _ hk fk.1 (nstk fk) (by simp);have ha2:=un.keep _ _ ha fa.1 (nstk fa) (by simp);have fk2:bc X pins H'' kS:=⟨un.free kS _ hk fk.1 (by simp),fk.2⟩
    have fa2:bc X pins H'' (s.heap.objs.size+1):=⟨un.free _ _ ha fa.1 (by simp),fa.2⟩
    refine⟨_,hk2,ha2,fun h3 c m3 a3 _=>⟨_,rfl,Zj ⟨_,rfl,?_⟩⟩⟩;have hL:X.env.locals≠s.heap.objs.size+1/\X.env.locals≠kS:=⟨fa.2.1.symm,fk.2.1.symm⟩
    have nsL:∃m,hh.Ns X.env.locals m/\h3.Ns X.env.locals m:=by obtain⟨m,hn,_⟩:=I2.loc;obtain⟨o,es,ep,ho,rr⟩:=id hn;exact⟨m,hn,o,es,ep,m3 _ _ hL.1 hL.2 ho,rr⟩
    have new:ObjOk X.prog X.w (upd H'' (s.heap.objs.size+1) (.lst [xv])) h3 (s.heap.objs.size+1) (.lst [xv]):=⟨sz rfl,[v],c,.cons rvv .nil,a3⟩
    have I4:=Inv.tookF (ch:=[s.heap.objs.size+1,kS]) (a:=s.heap.objs.size+1) (o:=.lst [xv]) (t':=t) I2 (by simp) (fun b hb=>by
     simp only[Ze,Zo,ZJ]at hb;rcases hb with rfl|rfl
     ·exact fa2
     ·exact fk2) (fun b u _ hx gg=>m3 b u (fun zz=>hx (by simp[zz])) (fun zz=>hx (by simp[zz])) gg) nsL new
    exact⟨.ref _,_,I4,rfl,q H'' _ sm fa2.1⟩
theorem ul{A:Around}{E:Value->Shared->Prop}{P:PySem.Fin->Shared->Prop}{a:Addr}{f:Value}{n:Nat}{b:Bool}(ho:s.heap.get? a=some (seqObj "list" #[] n))(h:∀(h3:Heap) (c:Nat),(∀b u,b≠a->s.heap.get? b=some u->h3.get? b=some u)->h3.get? a=some (seqObj "list" #[] c)->P (.done (.ret .none)) { s with heap:=h3 }) :
  wpAny (model X.prog X.w) A (ksk_tree a f b) P E s:=by
 have u1:=y8 s.heap a (Obj.mapSeq fun _=>(#[]:Array Value));obtain⟨e1,o1⟩:∃e1,(s.heap.update a (Obj.mapSeq fun _=>(#[]:Array Value))).get? a=some (seqObj "list" #[] e1):=⟨_,get?_update_seq ho fun _=>#[]⟩
 have zk:((s.heap.update a (Obj.mapSeq fun _=>(#[]:Array Value))).push (seqObj "tuple" #[] 0)).objs.size=s.heap.objs.size+1:=by rw[size_push',Heap.size_update]
 unfold ksk_tree;refine z0 (listItems_at ho rfl (z0 (listUpdate_at ho rfl (z0 (seqEpoch_at o1 rfl (z0 (wpAny_newTuple (z0 (wpAny_newList (Z0 ?_) (ZB _))) (sz rfl))))) (sz rfl) (ZB _))));have la:a<s.heap.objs.size:=Zf ho;have hk1:(((s.heap.update a (Obj.mapSeq fun _=>(#[]:Array Value))).push (seqObj "tuple" #[] 0)).push (seqObj "list" #[] 0)).get? (s.heap.objs.size+1)=some (seqObj "list" #[] 0):=by rw[<-zk];exact Zh _ rfl
 have kp:∀b u,b≠a->s.heap.get? b=some u->(((s.heap.update a (Obj.mapSeq fun _=>(#[]:Array Value))).push (seqObj "tuple" #[] 0)).push (seqObj "list" #[] 0)).get? b=some u:=fun b u hb g=>z9 _ (z9 _ ((u1.2 b hb).trans g));have ha1:(((s.heap.update a (Obj.mapSeq fun _=>(#[]:Array Value))).push (seqObj "tuple" #[] 0)).push (seqObj "list" #[] 0)).get? a=some (seqObj "list" #[] e1):=z9 _ (z9 _ o1);show wpAny (model X.prog X.w) A (ksk_rest a f b #[] e1 (.ref ((s.heap.update a (Obj.mapSeq fun _=>(#[]:Array Value))).push (seqObj "tuple" #[] 0)).objs.size)) P E { s with heap:=((s.heap.update a (Obj.mapSeq fun _=>(#[]:Array Value))).push (seqObj "tuple" #[] 0)).push (seqObj "list" #[] 0) };rw[zk];have hne:s.heap.objs.size+1≠a:=ZV (Ym la);have old:∀b u,s.heap.get? b=some u->b≠s.heap.objs.size+1:=fun b u g=>Zt (Ym (Zf g));generalize((s.heap.update a (Obj.mapSeq fun _=>(#[]:Array Value))).push (seqObj "tuple" #[] 0)).push (seqObj "list" #[] 0)=h1 at hk1 kp ha1 ⊢;generalize s.heap.objs.size+1=kS at hk1 hne old ⊢;unfold ksk_rest;refine z0 (wpAny_rule ?_);rw[<-Array.forIn_toList];show wpAny _ _ (forIn [] PUnit.unit _ >>= _) _ _ _;rw[List.forIn_nil,pure_bind];refine z0 (listItems_at hk1 rfl ?_);refine mZ (Ys rfl) ?_;unfold ksk_end ksk_tail;have h2:(#[]:Array Value).size<2:=Ys rfl;have v2:=y8 h1 kS (Obj.mapSeq fun _=>(#[]:Array Value));have ha4:=(v2.2 a hne.symm).trans ha1;have v3:=y8 (h1.update kS (Obj.mapSeq fun _=>(#[]:Array Value))) a (Obj.mapSeq fun _=>(#[]:Array Value));obtain⟨c4,hc4⟩:∃c4,((h1.update kS (Obj.mapSeq fun _=>(#[]:Array Value))).update a (Obj.mapSeq fun _=>(#[]:Array Value))).get? a=some (seqObj "list" #[] c4):=⟨_,get?_update_seq ha4 fun _=>#[]⟩
 have ez:(#[]:Array Value).zip (#[]:Array Value)=#[]:=by simp
 simp only[ez,Yg,if_false];rw[EN h2,EN h2];refine z0 (Zj ?_);rw[StateT.run_pure];refine z0 (Zj ?_);dsimp only;have em:Array.map (fun x=>x.snd) (arrOf (SortSt.mk' general' #[] #[] 7 none))=#[]:=by show Array.map (fun x:Value×Value=>x.2) #[]=_;simp
 rw[em];refine z0 (listUpdate_at hk1 rfl (z0 (wpAny_letGo (z0 (seqEpoch_at ha4 rfl (z0 (listUpdate_at ha4 rfl ?_ (ZB _) (ZB _))))))) (ZB _) (ZB _));simp only[bne_self_eq_false,Yg,if_false];exact Zj (h _ c4 (fun b u hb g=>(v3.2 b hb).trans ((v2.2 b (old b u g)).trans (kp b u hb g))) hc4)
theorem qW{b:Bool}{kw:List (Str×Value)}{f l:Addr}{Q:VK}(I:Inv X pins σ H s)(hH:H l=some (.lst []))(hs1:argsOk "sorted" ⟨[.ref l],kw⟩)(hs2:∀x,argsOk "list.sort" ⟨[.ref x],kw⟩)(hs3:∀x,Builtin.«list.sort» ⟨[.ref x],kw⟩=ksk_tree x (.ref f) b)(q:∀D:Addr,H D=none->Q (.ref D) (upd H D (.lst []))) :
  wpAny (model X.prog X.w) X.A (call (.builtin "sorted") [.ref l] kw) (EP X pins σ Q) X.xe s:=by
 obtain⟨z,its,n,rv,hlen,e⟩:=I.lstM hH;cases rv;refine call_function_entry_kw kind_sorted plain_sorted entry_sorted hs1 ?_;unfold Builtin.«sorted»;refine z0 (m:=checkCount "sorted" 1 1 _) (Zj (z0 (collect_list ⟨_,e,rfl,n,rfl⟩ (z0 (wpAny_newList ?_ (ZB _))) (ZB _))));have z1:((s.heap.push (seqObj "list" #[] 0)).update s.heap.objs.size (Obj.mapSeq (·++([]:List Value).toArray))).objs.size=s.heap.objs.size+1:=by rw[Heap.size_update,size_push']
 have g1:(((s.heap.push (seqObj "list" #[] 0)).update s.heap.objs.size (Obj.mapSeq (·++([]:List Value).toArray))).push (seqObj "list" #[] 0)).get? (s.heap.objs.size+1)=some (seqObj "list" #[] 0):=by rw[<-z1];exact Zh _ rfl
 have kp:∀b o,s.heap.get? b=some o->(((s.heap.push (seqObj "list" #[] 0)).update s.heap.objs.size (Obj.mapSeq (·++([]:List Value).toArray))).push (seqObj "list" #[] 0)).get? b=some o:=fun b o g=>by have lt:=Zf g;rw[Heap.get?_push_ne _ _ _ (by rw[z1];exact Zt (Ym lt)),Heap.get?_update_ne _ _ _ _ (Zt lt),Heap.get?_push_ne _ _ _ (Zt lt)];exact g
 show wpAny _ _ _ _ _ { s with heap:=((s.heap.push (seqObj "list" #[] 0)).update s.heap.objs.size (Obj.mapSeq (·++([]:List Value).toArray))).push (seqObj "list" #[] 0) };rw[z1];generalize(((s.heap.push (seqObj "list" #[] 0)).update s.heap.objs.size (Obj.mapSeq (·++([]:List Value).toArray))).push (seqObj "list" #[] 0))=hA at g1 kp ⊢;refine z0 (Z0 (wpAny_call_entry_kw slot_list_sort ⟨_,g1,rfl⟩ entry_list_sort ?body (hs2 _)))
 case body =>
  show wpAny (model X.prog X.w) X.A.in1.in1 (Builtin.«list.sort» ⟨[.ref (s.heap.objs.size+1)],_⟩) _ _ _;rw[hs3];refine ul (X:=X) (s:={ s with heap:=hA }) g1 fun h3 c k3 a3=>⟨_,rfl,Zj ⟨_,rfl,?_⟩⟩
  have da:s.heap.get? (s.heap.objs.size+1)=none:=y7 (y6 _);exact⟨.ref _,_,I.laid (t':=s.toks) (o:=.lst []) (fun b o g=>k3 b o (fun zz=>by rw[zz,da]at g;cases g) (kp b o g)) (y6 _) ⟨ZB _,[],c,.nil,a3⟩,rfl,q _ (none_of I da)⟩
end
open PySem PySem.Spec PyProof.Rows PySem.W
structure LamScope(x y:Str)(sc:Scope):Prop where
 kind:sc.kind=.function
 co:sc.isCoroutine=false
 gen:sc.isGenerator=false
 lx:sc.names.lookup x=some .local
 ly:sc.names.lookup y=some .free
 nc:∀z∈sc.names,z.2≠.cell
 nf:∀z∈sc.names,z.2=.free->z.1=y
 ne:x≠y
def cxX(CX:CXT)(P:Program)(w:World)(K:PySem.W.Frag)(mg:Str->Option Value)(base:Heap)(N:List Str)(qual:Str)(scope:Scope)(f:Addr)(cd:Value)(cl:List (Str×Addr))(A:Around)(outer:List Env)(s:Shared)(H:Hp)(E:XK):Cx where
 prog:=P
 w:=w
 K:=K
 mg:=mg
 base:=base
 A:=A.deeper (envX qual scope s.heap.objs.size f cd cl)
 N:=N
 s₀:=s
 H₀:=H
 env:=envX qual scope s.heap.objs.size f cd cl
 outer:=outer
 stack:=envX qual scope s.heap.objs.size f cd cl::outer
 ex:=[]
 calm:=true
 fn:=fun _=>false
 pn:=[]
 xe:=fun e s'=>wpAny (model P w) (A.deeper (envX qual scope s.heap.objs.size f cd cl)) (leaving (envX qual scope s.heap.objs.size f cd cl) e) (fun _ s''=>CX outer H s E e s'') (fun e' s''=>CX outer H s E e' s'') s'
theorem sZ{CX:CXT}{P:Program}{w:World}{K:PySem.W.Frag}{mg:Str->Option Value}{base:Heap}{x y:Str}{qual:Str}{scope:Scope}{f c:Addr}{cd:Value}{A:Around}{outer:List Env}{s:Shared}{H:Hp}{E:XK}{u ku:Value}{v kv:V}{h1:Heap}{tk:Nat}(S:LamScope x y scope)(hd:A.handled=none)(e0:Env0 P w K mg base A outer s H)(r:RelV v u)(kr:RelV kv ku)(hc:s.heap.IsCell c (some ku))(fc:H c=none)(hns:h1.Ns s.heap.objs.size fun z=>[(x,u)].reverse.lookup z)(hk:∀b o,s.heap.get? b=some o->h1.get? b=some o) :
  Inv (cxX CX P w K mg base [x,y] qual scope f cd [(y,c)] A outer s H E) [] [some v,some kv] H { s with heap:=h1,toks:=tk }:=by
 have noA:∀b:Addr,b∉(cxX CX P w K mg base [x,y] qual scope f cd [(y,c)] A outer s H E).ex:=fun b z=>absurd (show b∈([]:List Addr)from z) (by simp);have lk:∀{z:Str} {d:Addr},([(y,c)]:List (Str×Addr)).lookup z=some d->z=y/\d=c:=fun{z d} h=>by
  rw[ZD]at h;split at h
  ·rename_i e;cases h;exact⟨by simpa using e,rfl⟩
  ·cases h
 have ly:([(y,c)]:List (Str×Addr)).lookup y=some c:=by simp
 have cell1:h1.IsCell c (some ku):=by obtain⟨o,a1,a2⟩:=hc;exact⟨o,hk _ _ a1,a2⟩
 refine⟨⟨e0.mod,S.kind,rfl,rfl,Zb _,fun z z' d q1 q2=>?_,fun z hz=>?_,fun z d q _=>(nomatch q),fun _=>hd,Around.frames_deeper e0.frames,.inr ⟨rfl,rfl⟩,fun b z=>absurd z (noA b),e0.bs,e0.bsz,fun b _ _=>noA b,fun b z=>absurd z (noA b),e0.funs,e0.frf⟩,
  rfl,e0.bare,Un.kept hk,⟨_,hns,fun i z v' q1 q2 q3=>?_⟩,fun z d q=>⟨some ku,by rw[(lk q).2];exact cell1⟩,e0.hok.fresh (Zb _),fun z d q=>by rw[(lk q).2];exact fc,fun p hp=>absurd (show p∈([]:List (Addr×Obj)) from hp) (by simp),e0.hok.kept hk,rfl⟩
 ·exact(lk q1).1.trans (lk q2).1.symm
 ·have hz:scope.names.lookup z=some .cell\/scope.names.lookup z=some .free:=hz;rcases hz with hz|hz
  ·exact absurd rfl (S.nc _ (Z4 hz))
  ·exact⟨c,by rw[show z=y from S.nf _ (Z4 hz) rfl];exact ly⟩
 ·match i,q1,q2 with
  |0,q1,q2 =>cases q1;cases q2;exact⟨u,r,.inl ⟨S.lx,by simp⟩⟩
  |1,q1,q2 =>cases q1;cases q2;exact⟨ku,kr,.inr ⟨.inr S.ly,c,ly,cell1⟩⟩
  |i+2,q1,_=>simp[cxX]at q1
section
variable{X:Cx}{pins:List (Addr×Obj)}{σ:St}
theorem xz{k j:Nat}{x y qual:Str}{params:Arguments}{body:Expr}{scope:Scope}{f c c':Addr}{pm ct:Value}{kv:V}{sp:Sp}(S:LamScope x y scope)(hi:X.N[j]? = some y)(hσ:σ[j]? = some (some kv))(hyc:X.env.scope.names.lookup y=some .cell)(hcy:X.env.cells.lookup y=some c)(hr:Room (k+1) X.A.in1.in1)(hbd:∀ (s:Shared) (u:Value),BindsTo s (ls qual params body scope [(y,c)] pm c' ct) ⟨[u],[]⟩ [(x,u)])(hbody:∀ (A:Around) (outer:List Env) (s:Shared) (H:Hp) (v:V) (Q:VK),Room k (A.deeper (envX qual scope s.heap.objs.size f (.ref c') [(y,c)]))->sp [v] H Q E0 ->
   ∃ t,PE (cxX CX0 X.prog X.w X.K X.mg X.base [x,y] qual scope f (.ref c') [(y,c)] A outer s H E0) body t/\t [some v,some kv] H Q) :
  ∀l,oy (wX X l) pins σ f (fun vs H Q E=>H f=some (kg f (fK qual params body scope [(y,c)] pm c' ct))/\H c'=some (iJ c' qual)/\sp vs H Q E):=by
 intro l s H u v Q I ru ⟨hf,hc,hsp⟩;have e0:Env0 X.prog X.w X.K X.mg X.base X.A.in1.in1 X.stack s H:=by have e0:=I.env0;exact⟨e0.frames,e0.mod,e0.bs,e0.bsz,e0.funs,e0.frf,e0.hok,e0.bare⟩
 have lim:s.heap.NoLimit:=e0.mod.nolimit.keeps fun b o e=>(e0.bs b o e).1;have of1:=(e0.hok f _ hf).1;have oc1:=(e0.hok c' _ hc).1;obtain⟨m,_,look⟩:=I.loc;obtain⟨ku,kr,lk⟩:=look j y kv hi hσ (.inr (.inl hyc));have cell:s.heap.IsCell c (some ku):=by
  rcases lk with⟨z,_⟩|⟨_,d,e1,e2⟩
  ·have z':X.env.scope.names.lookup y=some .local:=z;rw[hyc]at z';cases z'
  ·have e1':X.env.cells.lookup y=some d:=e1;rw[hcy]at e1';cases e1';exact e2
 have fc:H c=none:=I.freeC y c hcy;refine kla_callFunE hr.depth of1 rfl S.co S.gen rfl oc1 (hbd s u _ _ _ _ ?_);refine wpAny_newFunctionEnv S.nc (fun z hz=>?_) (fun h1 hns hsb=>⟨lim.keeps ?_,kla_codeExpr ?_⟩) S.kind
 ·rw[Zd.mp hz];exact S.lx
 all_goals have hk:∀b o,s.heap.get? b=some o->h1.get? b=some o:=fun b o e=>hsb.extBut b o (Zt (Zf e)) (z9 _ e)
 ·exact hk
 ·obtain⟨t,ht,hq⟩:=hbody X.A.in1.in1 X.stack s H v Q (hr.deeper _) hsp;have I2:=sZ (CX:=CX0) (qual:=qual) (f:=f) (cd:=.ref c') (E:=E0) (tk:=s.toks+1) S hr.hd e0 ru kr cell fc hns hk;refine ZY (ht [] _ _ H _ I2 hq) (fun u s' hz9=>?_) fun e s' hs=>hs;obtain⟨v,H',J,rv,q⟩:=hz9;exact⟨v,H',J.os,J.bare,J.base,J.hok,rv,q⟩
end
open PySem PySem.Spec PyProof.Rows PySem.W
section
variable{X:Cx}{c P:Addr}{params:Arguments}{body:Expr}{scope:Scope}{pos:Pos}{cl:List (Str×Addr)}
def oS(cl:List (Str×Addr))(X:Cx)(P:Addr)(params:Arguments)(body:Expr)(scope:Scope)(pos:Pos):TE:=fun _ H Q=>∃ps:Array Value,H P=some (.tbl ps)/\TriplesOk ps.toList /\
 ((∃ c',codeAmong pos ps.toList=some (.ref c')/\H c'=some (iJ c' (X.env.qual++"<lambda>"))/\∀ f ct,H f=none->Q (.ref f) (upd H f (kg f (fK (X.env.qual++"<lambda>") params body scope cl ((X.mg "__name__").getD .none) c' ct)))) \/
  (codeAmong pos ps.toList=none/\∀ f c' ct,H f=none->H c'=none->c'≠f->Q (.ref f) (upd (upd (upd H P (.tbl (ps++#[rawInt pos.line,rawInt pos.col,.ref c']))) c' (iJ c' (X.env.qual++"<lambda>"))) f (kg f (fK (X.env.qual++"<lambda>") params body scope cl ((X.mg "__name__").getD .none) c' ct)))))
theorem so(hcode:X.env.code=.ref c)(hge:X.env.globals=mainGlobals)(C:CodeHd X.base c P)(B:Blt X.base X.mg)(hdef:defaultsOf params X.env=([],[]))(hcl:closureFor scope X.env=pure cl):PE X (.Lambda params body scope pos) (oS cl X P params body scope pos):=by
 intro pins s σ H Q I h;obtain⟨ps,hP,ht,hh⟩:=h;have oP:s.heap.get? P=some (tabObj ps):=I.hok P _ hP;have hg:s.heap.Ns mainGlobals X.mg:=I.ok.mod.glob.keeps I.bk;have hb:=I.bltAt B hP;refine kla_eval hdef ?_;rcases hh with⟨c',hf,hc',q⟩|⟨hnf,q⟩
 ·refine kla_makeFunctionHit hcl hge hg hcode (C.keeps I.bk) oP ht hf hb fun ct h' tk kp hsz=>?_;have hn:=I.hok.fresh hsz;exact⟨.ref _,_,I.laid (t':=tk) (fun b o e=>z9 _ (kp b o e)) hsz (rX (Zh _ rfl)),rfl,q _ ct hn⟩
 ·have hgP:mainGlobals≠P:=fun z=>by obtain⟨o,es,ep,e,d,_⟩:=hg;rw[z,oP]at e;cases e;cases d
  refine kla_makeFunction hcl hge hg hcode (C.keeps I.bk) oP ht hnf hgP hb fun c' ct h' tk hx hge' hlt hrec htb=>?_;have hnF:c'≠h'.objs.size:=Zt hlt;obtain⟨i1,i2,i3⟩:=I.grown (t':=tk) (c:=c') (f:=h'.objs.size) (h':=h'.push (fK (X.env.qual++"<lambda>") params body scope cl ((X.mg "__name__").getD .none) c' ct)) (oc:=iJ c' (X.env.qual++"<lambda>")) (of':=kg h'.objs.size (fK (X.env.qual++"<lambda>") params body scope cl ((X.mg "__name__").getD .none) c' ct)) hP
   (fun b o hb' e=>z9 _ (hx b o hb' e)) hge' (Zr hge' (Nat.le_of_lt hlt)) hnF (z9 _ htb) (fun _=>zo (by
    obtain⟨c₂,oc,vs,t,e1,e2,e3,e4⟩:=hrec;exact⟨c₂,oc,vs,t,e1,z9 _ e2,e3,e4⟩)) (fun _=>rX (Zh _ rfl))
  exact⟨.ref _,_,i3,rfl,q _ c' ct i2 i1 hnF⟩
structure LamOkX(P:Program)(w:World)(K:PySem.W.Frag)(mg:Str->Option Value)(base:Heap)(k:Nat)(qual:Str)(body:Expr)(scope:Scope)(x y:Str)(sp:V->Sp):Prop where
 sc:LamScope x y scope
 ex:∀(f c' c:Addr) (kv:V) (A:Around) (outer:List Env) (s:Shared) (H:Hp) (v:V) (Q:VK),Room k (A.deeper (envX qual scope s.heap.objs.size f (.ref c') [(y,c)]))->sp kv [v] H Q E0 ->
  ∃t,QE (cxX CX0 P w K mg base [x,y] qual scope f (.ref c') [(y,c)] A outer s H E0) body t/\t [some v,some kv] H Q
def ww(b:Bool)(P:Addr)(q:Str)(lpos:Pos)(j:Nat)(sp:V->Sp)(ta:TA):TE:=fun σ H0 Q=>ta σ H0 fun vs H=>∃(l:Addr) (xs:List V) (ks:List SKey) (kv:V),vs=[.ref l]/\σ[j]?=some (some kv)/\H l=some (.lst xs)/\xs.length<64/\ks.length=xs.length/\kL ks/\bD q P lpos H /\
 (∀(i:Nat) (v:V) (key:SKey) (H':Hp),xs[i]?=some v->ks[i]?=some key->SameT P H H'->∀R:VK,(∀kv H'',Same H' H''->key.at H'' kv->R kv H'')->sp kv [v] H' R E0) /\
 ∀(p:Array Nat) (H2:Hp) (D:Addr),POk xs.length p->LS (fun i j=>HT.lexLt ((katRev b (ks.map SKey.nums)).getD i []) ((katRev b (ks.map SKey.nums)).getD j [])) p xs.length->SameT P H H2->bD q P lpos H2->H2 D=none->Q (.ref D) (upd H2 D (.lst (katRev b (p.toList.map fun i=>(katRev b xs).getD i .non))))
def jl(X:Cx)(P:Addr)(q:Str)(lpos:Pos)(params:Arguments)(body:Expr)(scope:Scope)(cl:List (Str×Addr))(H1:Hp)(f:Addr)(H2:Hp):Prop :=
 ∃(c':Addr) (ct:Value),SameT P H1 H2/\bD q P lpos H2/\H2 f=some (kg f (fK q params body scope cl ((X.mg "__name__").getD .none) c' ct))/\H2 c'=some (iJ c' q)/\f≠P/\c'≠P
theorem qj{H1:Hp}{lpos:Pos}{σ:St}{R:VK}(tab:bD (X.env.qual++"<lambda>") P lpos H1)(h:∀f H2,jl X P (X.env.qual++"<lambda>") lpos params body scope cl H1 f H2->R (.ref f) H2):oS cl X P params body scope lpos σ H1 R:=by
 obtain⟨ps,tP,t3,tc⟩:=tab;refine⟨ps,tP,t3,?_⟩;rcases tc with hno|⟨c',hy,hc'⟩
 ·refine .inr ⟨hno,fun f c' ct f0 c0 hcf=>h _ _ ?_⟩;have nPf:f≠P:=fun z=>by rw[z,tP]at f0;cases f0
  have nPc:c'≠P:=fun z=>by rw[z,tP]at c0;cases c0
  refine⟨c',ct,fun b o e hb=>?_,⟨_,by rw[ac (ZW nPf),ac (ZW nPc),aa],?_,.inr ⟨c',?_,by rw[ac hcf,aa]⟩⟩,aa,by rw[ac hcf,aa],nPf,nPc⟩
  ·rw[ac (ao e f0),ac (ao e c0),ac hb];exact e
  ·rw[Array.toList_append];exact jk _ t3
  ·rw[Array.toList_append];exact codeAmong_snoc _ t3 hno
 ·refine .inl ⟨c',hy,hc',fun f ct f0=>h _ _ ?_⟩;have nPf:f≠P:=fun z=>by rw[z,tP]at f0;cases f0
  have nPc:c'≠P:=fun z=>by rw[z,tP]at hc';cases hc'
  exact⟨c',ct,fun b o e hb=>by rw[ac (ao e f0)];exact e,⟨ps,by rw[ac (ZW nPf)];exact tP,t3,.inr ⟨c',hy,by rw[ac (ao hc' f0)];exact hc'⟩⟩,aa,by rw[ac (ao hc' f0)];exact hc',nPf,nPc⟩
theorem nB{b:Bool}{kw:List (Str×Value)}{k j:Nat}{x y:Str}{sp:V->Sp}{lpos:Pos}{l f cy:Addr}{xs:List V}{ks:List SKey}{kv:V}{Q:VK}{H H2:Hp}{pins:List (Addr×Obj)}{σ:St}{s2:Shared}(F:LamOkX X.prog X.w X.K X.mg X.base k (X.env.qual++"<lambda>") body scope x y sp)(hr:Room (k+3) X.A)(hbd:∀(pm ct:Value) (c':Addr) (s:Shared) (u:Value),BindsTo s (ls (X.env.qual++"<lambda>") params body scope [(y,cy)] pm c' ct) ⟨[u],[]⟩ [(x,u)])(hj:X.N[j]?=some y)(hyc:X.env.scope.names.lookup y=some .cell)(hcy:X.env.cells.lookup y=some cy)(hs1:argsOk "sorted" ⟨[.ref l],kw⟩)(hs2:∀x,argsOk "list.sort" ⟨[.ref x],kw⟩)(hs3:∀x,Builtin.«list.sort» ⟨[.ref x],kw⟩=ksk_tree x (.ref f) b)(hσ:σ[j]?=some (some kv))(hH:H l=some (.lst xs))(nlP:l≠P)(h64:xs.length<64)(hl:ks.length=xs.length)(hne:kL ks)(mk:jl X P (X.env.qual++"<lambda>") lpos params body scope [(y,cy)] H f H2)(I2:Inv X pins σ H2 s2)(spec:∀(i:Nat) (v:V) (key:SKey) (H':Hp),xs[i]?=some v->ks[i]?=some key->SameT P H H'->∀R:VK,(∀kv H'',Same H' H''->key.at H'' kv->R kv H'')->sp kv [v] H' R E0)(q:∀(p:Array Nat) (H2:Hp) (D:Addr),POk xs.length p->LS (fun i j=>HT.lexLt ((katRev b (ks.map SKey.nums)).getD i []) ((katRev b (ks.map SKey.nums)).getD j [])) p xs.length->SameT P H H2->bD (X.env.qual++"<lambda>") P lpos H2->H2 D=none->Q (.ref D) (upd H2 D (.lst (katRev b (p.toList.map fun i=>(katRev b xs).getD i .non))))) :
  wpAny (model X.prog X.w) X.A (call (.builtin "sorted") [.ref l] kw) (EP X pins σ Q) X.xe s2:=by
 obtain⟨c',ct,sT,lt,hf,hc',nf,nc⟩:=mk;have hr2:Room (k+1) X.A.in1.in1:=(hr.mono (by omega) |>.in1 |>.in1)
 have F1:=xz (X:=X) (pins:=pins) (σ:=σ) (sp:=sp kv) (params:=params) (f:=f) (c:=cy) (c':=c') (pm:=(X.mg "__name__").getD .none) (ct:=ct) F.sc hj hσ hyc hcy hr2 (hbd _ _ _) fun A outer s H v Q hr' hs=>let⟨t,t1,t2⟩:=F.ex f c' cy kv A outer s H v Q hr' hs;⟨t,t1.h,t2⟩
 have spec':∀(i:Nat) (v:V) (key:SKey) (H':Hp),xs[i]?=some v->ks[i]?=some key->Same H2 H'->∀R:VK,(∀kv H'',Same H' H''->key.at H'' kv->R kv H'') ->
   (H' f=some (kg f (fK (X.env.qual++"<lambda>") params body scope [(y,cy)] ((X.mg "__name__").getD .none) c' ct))/\H' c'=some (iJ c' (X.env.qual++"<lambda>"))/\sp kv [v] H' R E0):=fun i v key H' h1 h2 h3 R hR=>⟨h3 _ _ hf,h3 _ _ hc',spec i v key H' h1 h2 (sT.trans (.of h3)) R hR⟩
 have q':∀ (p:Array Nat) (H3:Hp) (D:Addr),POk xs.length p->LS (fun i j=>HT.lexLt ((katRev b (ks.map SKey.nums)).getD i []) ((katRev b (ks.map SKey.nums)).getD j [])) p xs.length->Same H2 H3->H3 D=none->Q (.ref D) (upd H3 D (.lst (katRev b (p.toList.map fun i=>(katRev b xs).getD i .non)))):=fun p H3 D a1 a2 a3 a4=>q p H3 D a1 a2 (sT.trans (.of a3)) (by
  obtain⟨ps',e1,e2,e3⟩:=lt;exact⟨ps',a3 _ _ e1,e2,e3.imp id fun⟨c'',z1,z2⟩=>⟨c'',z1,a3 _ _ z2⟩⟩) a4
 have hH2:=sT _ _ hH nlP
 match xs,ks,hl with
 | [],[],_ =>refine qW I2 hH2 hs1 hs2 hs3 fun D hD=>?_;have:=q' #[] _ D (Array.Perm.refl _) (fun i j _ z=>absurd z (Nat.not_lt_zero _)) (Same.refl _) hD;cases b<;>exact this
 | [xv],[key],_ =>refine rH I2 hH2 hs1 hs2 hs3 F1 (fun H' s' R hR=>spec' 0 xv key H' rfl rfl s' R fun a H'' s2' _=>hR _ _ s2') fun H2' D s' hD=>?_;have:=q' #[0] H2' D (Array.Perm.refl _) (fun i j h1 h2=>absurd h1 (by have:j<1:=h2;omega)) s' hD;cases b<;>exact this
 |x1::x2::xs,ks,hl=>exact rG I2 hH2 (by simp) h64 hl hne hs1 hs2 hs3 F1 spec' q'
section
variable{k j:Nat}{x y:Str}{cy:Addr}{sp:V->Sp}{e:Expr}{ta:TA}{p lpos kpos rpos rp:Pos}
theorem Ap(hm:X.mg "sorted" = none)(hcode:X.env.code=.ref c)(C:CodeHd X.base c P)(B:Blt X.base X.mg)(F:LamOkX X.prog X.w X.K X.mg X.base k (X.env.qual++"<lambda>") body scope x y sp)(hr:Room (k+3) X.A)(ha:QA X [e] ta)(hj:X.N[j]?=some y)(hyc:X.env.scope.names.lookup y=some .cell)(hcy:X.env.cells.lookup y=some cy)(hcl:closureFor scope X.env=pure [(y,cy)])(hbd:∀(pm ct:Value) (c':Addr) (s:Shared) (u:Value),BindsTo s (ls (X.env.qual++"<lambda>") params body scope [(y,cy)] pm c' ct) ⟨[u],[]⟩ [(x,u)]:=by intros;exact .of_eq rfl)(hge:X.env.globals=mainGlobals:=by rfl)(hdef:defaultsOf params X.env=([],[]):=by rfl)(hg:Gl X "sorted":=by rfl)(hn:aA e=true:=by rfl) :
  QE X (.Call (.Name "sorted" p) [e] [⟨some "key",.Lambda params body scope lpos,kpos⟩] pos) (ww false P (X.env.qual++"<lambda>") lpos j sp ta):=by
 refine⟨?_⟩;intro pins s σ H0 Q I h;refine Z9 (cS I hg hm PyProof.Rows.boot_sorted ?_);have h1:=aB (es:=[]) (env:=X.env) hn;refine PyProof.Rows.callWith_kw (thn (ha.h pos pins s σ H0 _ I h) fun us s1 hz9=>?_) (he:=by rw[h1];rfl) (hplain:=by rw[h1];rfl) (hall:=rfl) (hkw:=rfl);obtain⟨vs,H1,I1,r1,q1⟩:=hz9;obtain⟨l,xs,ks,kv,rfl,hσ,hH,h64,hl,hne,tab,spec,q⟩:=q1;obtain⟨u,rfl,ru⟩:=bX r1;cases ru;have nlP:l≠P:=fun z=>by obtain⟨ps,tP,_⟩:=tab;rw[z,tP]at hH;cases hH
 have hk:PK X [⟨some "key",.Lambda params body scope lpos,kpos⟩] (cA (oS [(y,cy)] X P params body scope lpos) dJ):=mI (so hcode hge C B hdef hcl) vT;refine thn (hk pos pins s1 σ H1 (fun zs H2=>∃f,zs=[.ref f]/\jl X P (X.env.qual++"<lambda>") lpos params body scope [(y,cy)] H1 f H2) I1 (qj tab fun f H2 mk=>⟨f,rfl,mk⟩)) fun ws s2 hz9=>?_;obtain⟨zs,H2,I2,rz,f,hz,mk⟩:=hz9;subst hz;obtain⟨u,rfl,ru⟩:=bX rz;cases ru;exact nB F hr hbd hj hyc hcy (ksk_s1 _ _) (fun x=>ksk_l1 _ _) (fun x=>ksk_t1 f x) hσ hH nlP h64 hl hne mk I2 spec q
theorem xV(hm:X.mg "sorted" = none)(hcode:X.env.code=.ref c)(C:CodeHd X.base c P)(B:Blt X.base X.mg)(F:LamOkX X.prog X.w X.K X.mg X.base k (X.env.qual++"<lambda>") body scope x y sp)(hr:Room (k+3) X.A)(ha:QA X [e] ta)(ht:QE X (.Constant (.bool true) kd rp) (tC (.bl true)))(hj:X.N[j]?=some y)(hyc:X.env.scope.names.lookup y=some .cell)(hcy:X.env.cells.lookup y=some cy)(hcl:closureFor scope X.env=pure [(y,cy)])(hbd:∀(pm ct:Value) (c':Addr) (s:Shared) (u:Value),BindsTo s (ls (X.env.qual++"<lambda>") params body scope [(y,cy)] pm c' ct) ⟨[u],[]⟩ [(x,u)]:=by intros;exact .of_eq rfl)(hge:X.env.globals=mainGlobals:=by rfl)(hdef:defaultsOf params X.env=([],[]):=by rfl)(hg:Gl X "sorted":=by rfl)(hn:aA e=true:=by rfl) :
  QE X (.Call (.Name "sorted" p) [e] [⟨some "key",.Lambda params body scope lpos,kpos⟩,⟨some "reverse",.Constant (.bool true) kd rp,rpos⟩] pos) (ww true P (X.env.qual++"<lambda>") lpos j sp ta):=by
 refine⟨?_⟩;intro pins s σ H0 Q I h;refine Z9 (cS I hg hm PyProof.Rows.boot_sorted ?_);have h1:=aB (es:=[]) (env:=X.env) hn;refine PyProof.Rows.callWith_kw (thn (ha.h pos pins s σ H0 _ I h) fun us s1 hz9=>?_) (he:=by rw[h1];rfl) (hplain:=by rw[h1];rfl) (hall:=rfl) (hkw:=rfl);obtain⟨vs,H1,I1,r1,q1⟩:=hz9;obtain⟨l,xs,ks,kv,rfl,hσ,hH,h64,hl,hne,tab,spec,q⟩:=q1;obtain⟨u,rfl,ru⟩:=bX r1;cases ru;have nlP:l≠P:=fun z=>by obtain⟨ps,tP,_⟩:=tab;rw[z,tP]at hH;cases hH
 have hk:PK X [⟨some "key",.Lambda params body scope lpos,kpos⟩,⟨some "reverse",.Constant (.bool true) kd rp,rpos⟩] (cA (oS [(y,cy)] X P params body scope lpos) (cA (tC (.bl true)) dJ)):=mI (so hcode hge C B hdef hcl) (mI ht.h vT);refine thn (hk pos pins s1 σ H1 (fun zs H2=>∃f,zs=[.ref f,.bl true]/\jl X P (X.env.qual++"<lambda>") lpos params body scope [(y,cy)] H1 f H2) I1 (qj tab fun f H2 mk=>⟨f,rfl,mk⟩)) fun ws s2 hz9=>?_;obtain⟨zs,H2,I2,rz,f,hz,mk⟩:=hz9;subst hz;obtain⟨u,u2,rfl,ru,ru2⟩:=gz rz;cases ru;cases ru2;exact nB F hr hbd hj hyc hcy (ksk_s2 _ _ _) (fun x=>ksk_l2 _ _ _) (fun x=>ksk_t2 f x true) hσ hH nlP h64 hl hne mk I2 spec q
end
end
open PySem PySem.Spec PyProof.Rows PySem.W
open PySem PyProof.Rows PySem.W
open PySem PyProof.Rows PySem.W
section
variable{prog:Program}{w:World}{A:Around}{E:Value->Shared->Prop}{s:Shared}{κ:SortKind}{it:Array Keyed}{lt:Nat->Nat->Bool}{N:Nat}{st:SortSt}
def Zc(prog:Program)(w:World)(A:Around)(s:Shared)(κ:SortKind)(it:Array Keyed)(lt:Nat->Nat->Bool)(N:Nat):Prop :=
 ∀i j (C:Bool->Shared->Prop),i<N->j<N->C (lt i j) s->kas_cmp prog w A κ it i j C s
end
open PySem PyProof.Rows PySem.W
section
variable{lt:Nat->Nat->Bool}
structure MF(lt:Nat->Nat->Bool)(N:Nat)(a b:Array Nat):Prop where
 sa:∀i j,i<j->j<a.size->Lx lt (gA a i) (gA a j)
 sb:∀i j,i<j->j<b.size->Lx lt (gA b i) (gA b j)
 cr:∀i j,i<a.size->j<b.size->lt (gA b j) (gA a i)=false->Lx lt (gA a i) (gA b j)
 na:∀i,i<a.size->gA a i<N
 nb:∀i,i<b.size->gA b i<N
 a0:0<a.size
 b0:0<b.size
 fst:lt (gA b 0) (gA a 0)=true
 lst:∀j,j<b.size->lt (gA b j) (gA a (a.size-1))=true
variable{N:Nat}{a b:Array Nat}{f:Nat->Keyed}
end
open PySem PyProof.Rows PySem.W
open PySem PyProof.Rows PySem.W
open PySem PyProof.Rows PySem.W
open PySem PyProof.Rows PySem.W
section
variable{prog:Program}{w:World}{A:Around}{E:Value->Shared->Prop}{s:Shared}{κ:SortKind}{it:Array Keyed}{lt:Nat->Nat->Bool}{N:Nat}{st:SortSt}{pre u:Array Nat}
structure Zp(prog:Program)(w:World)(A:Around)(s:Shared)(κ:SortKind)(it:Array Keyed)(lt:Nat->Nat->Bool)(N:Nat)(st:SortSt)(pre:Array Nat)(n:Nat):Prop where
 Z:Zc prog w A s κ it lt N
 hk:kindOf st=κ
 hN:pre.size+n=N
 n0:0<n
end
open PySem PyProof.Rows PySem.W
section
variable{lt:Nat->Nat->Bool}(O:LtOk lt){N:Nat}
include O
end
open PySem PyProof.Rows PySem.W
section
variable{lt:Nat->Nat->Bool}
def yr(lt:Nat->Nat->Bool):Nat->List (List Nat)->List (Nat×Nat×Nat)->Prop
 |_,[],[]=>True
 |b,r::rs,t::ts=>t.1=b/\t.2.1=r.length/\0<r.length/\r.Pairwise (Lx lt)/\r.Perm (List.range' b r.length)/\yr lt (b+r.length) rs ts
 |_,_,_=>False
variable{prog:Program}{w:World}{A:Around}{E:Value->Shared->Prop}{s:Shared}{κ:SortKind}{it:Array Keyed}{N:Nat}{st:SortSt}
structure RI(κ:SortKind)(it:Array Keyed)(lt:Nat->Nat->Bool)(N lo:Nat)(T:List Nat)(p:Array Nat)(rs:List (List Nat))(st:SortSt):Prop where
 hk:kindOf st=κ
 hf:failedOf st=none
 ha:arrOf st=p.map (kas_item it)
 hp:p.toList=rs.flatten++T
 pm:p.toList.Perm (List.range N)
 rl:yr lt 0 rs (pendingOf st).toList
 hl:rs.flatten.length=lo
end
open PySem PyProof.Rows PySem.W
open PySem PySem.Spec PyProof.Rows PySem.W
open PySem PySem.Spec PyProof.Rows PySem.W
inductive ZKey where
 |i (n:Int)|t (ns:List Int)|p (ps ns:List Int)
def ZKey.at(H:Hp):ZKey->V->Prop
 |.i n,v=>v=.int n
 |.t ns,v=>∃a,v=.ref a/\H a=some (.tup (ns.map V.int))
 |.p ps ns,v=>∃a b c,v=.ref a/\H a=some (.tup [.ref b,.ref c])/\H b=some (.tup (ps.map V.int))/\H c=some (.tup (ns.map V.int))
section
variable{X:Cx}{pins:List (Addr×Obj)}{σ:St}{H:Hp}{s:Shared}{h':Heap}
structure SGZ(X:Cx)(pins:List (Addr×Obj))(σ:St)(H1:Hp)(m:Str->Option Value)(kS D:Addr)(e1:Nat)(ks:List ZKey)(as:List V)(us:List Value)(e:Nat)(H:Hp)(s:Shared):Prop where
 I:Inv X pins σ H s
 sm:Same H1 H
 fk:bc X pins H kS
 fd:bc X pins H D
 bk:X.base.get? kS=none
 bd:X.base.get? D=none
 hk:s.heap.get? kS=some (seqObj "list" (List.toArray us) e)
 hd:s.heap.get? D=some (seqObj "list" #[] e1)
 ns:s.heap.Ns X.env.locals m
 vals:Vals as us
 keys:∀(i:Nat) (a:V) (k:ZKey),as[i]?=some a->ks[i]?=some k->k.at H a
end
open PySem PySem.Spec PyProof.Rows PySem.W
open PySem PySem.Spec PyProof.Rows PySem.W
open PySem PySem.Spec PyProof.Rows PySem.W
open PySem PySem.Spec PyProof.Rows PySem.W
end L2
set_option maxHeartbeats 4000000
namespace PySem
open Sem (wp)
section
variable{prog:Program}{w:World}{K:Type}[DecidableEq K]{knd:KeyKind prog w K}
structure PairAt(knd:KeyKind prog w K)(h:Heap)(p:Addr×List K×Addr×Value):Prop where
 tup:∃o n,h.get? p.1=some o/\o.cls=.type "tuple"/\o.data=.seq #[.ref p.2.2.1,p.2.2.2] n
 key:IsTupleKey knd h p.2.1 p.2.2.1
variable{A:Around}{R:Result->Shared->Prop}
end
end PySem
namespace L2
open PySem PySem.Spec PyProof.Rows PySem.W
open PySem PySem.Spec PyProof.Rows PySem.W
open PySem PySem.Spec PyProof.Rows PySem.W
open PySem PySem.Spec PyProof.Rows PySem.W
open PySem PySem.Spec PyProof.Rows PySem.W
open PySem PySem.Spec PyProof.Rows PySem.W
open PySem PySem.Spec PyProof.Rows PySem.W
open PySem PySem.Spec PyProof.Rows PySem.W
open PySem PySem.Spec PyProof.Rows PySem.W
section
variable{X:Cx}{K:PySem.W.Frag}
def vX:V->List V->Hp->VK->Prop:=fun x xs H Q=>∃(z y:Str),x=.str z/\xs=[.str y]/\y.length=1/\z.length<=100000/\∀D,H D=none->Q (.ref D) (upd H D (.lst ((Txt.split z y).map V.str)))
theorem nF:∀{l:List (Str×Tok)} {ys:List Str},l.map (·.1)=ys->Vals (ys.map V.str) (strValues l)
 | [],ys,e=>by subst e;exact .nil
 |p::l,ys,e=>by subst e;exact .cons ⟨p.2,rfl⟩ (nF (l:=l) rfl)
theorem wq(x y:Str):(Txt.split x y).length<=x.length+2:=by
 unfold Txt.split;split
 ·simp
 ·split
  ·simp
  ·rw[length_partsBetween];have:=StrLaws.occ_length_le x y 0 x.length (x.length+1);omega
theorem xD:MtR X "str.split" vX:=by
 intro pins s σ H x xs v us Q I rx r h;obtain⟨z,y,rfl,rfl,hy,hz,q⟩:=h;obtain⟨t,rfl⟩:=rx;obtain⟨u,rfl,ru⟩:=bX r;obtain⟨t2,rfl⟩:=ru;obtain⟨m,F0⟩:=I.fr;refine splitN1A F0 (gI X.base s.heap X.env.locals) (by rw[hy];rfl) (fun l h' k e1 sa sh il F1 N1=>?_) (by rw[sizeLine_eq];omega);have hDs:s.heap.get? s.heap.objs.size=none:=y7 (Zb _);have lz:=wq z y;refine⟨.ref s.heap.objs.size,_,I.laidF (t':=k) (o:=.lst ((Txt.split z y).map V.str)) (fun b o hL g=>?_) ⟨m,F0.ns,F1.ns⟩ hDs ⟨by rw[Zi,sizeLine_eq];omega,_,0,nF e1,(N1 (s.heap.objs.size,_) (.head _)).1⟩,rfl,q _ (none_of I hDs)⟩;cases qb:X.base.get? b with
 |none=>exact(N1 (b,o) (.tail _ (dU g hL qb))).1
 |some o' =>have e':=I.bk b o' qb;rw[g]at e';cases e';exact F1.keep b o qb
theorem mJ{o e:Expr}{to te:TE}{apos cpos:Pos}(ho:QE X o to)(he:QE X e te)(hs:aA e=true:=by rfl)(hbase:attributeBase o "split" X.env (eval o X.env)=eval o X.env:=by rfl)(hline:(apos.endLine==cpos.line)=true:=by rfl) :
  QE X (.Call (.Attribute o "split" apos) [e] [] cpos) (tBM X.K "str" vX to (cA te dJ)):=by
 have h1:=aB (es:=[]) (env:=X.env) hs;have h2:starEach ([]:List Expr) X.env=[]:=rfl;refine⟨jy PySem.F.plainAttrs_str PySem.F.slot_str_split PySem.F.type_str_split xD ho.h (jx he.h fO (hs:=h1)) (hbase:=hbase) (hfew:=?_) (hline:=hline) (hs:=h1) (hplain:=by rw[h2];rfl)⟩;rw[h1,h2];rfl
def mK:V->List V->Hp->VK->Prop:=fun x xs H Q=>∃(z y:Str),x=.str z/\xs=[.str y]/\Q (.bl (Txt.startswith z y)) H
theorem vC:MtR X "str.startswith" mK:=by intro pins s σ H x xs v us Q I rx r h;obtain⟨z,y,rfl,rfl,q⟩:=h;obtain⟨t,rfl⟩:=rx;obtain⟨u,rfl,ru⟩:=bX r;obtain⟨t2,rfl⟩:=ru;exact SC.startswith ⟨.bl _,H,I,rfl,q⟩
theorem xW{o e:Expr}{to te:TE}{apos cpos:Pos}(ho:QE X o to)(he:QE X e te)(hs:aA e=true:=by rfl)(hbase:attributeBase o "startswith" X.env (eval o X.env)=eval o X.env:=by rfl)(hline:(apos.endLine==cpos.line)=true:=by rfl) :
  QE X (.Call (.Attribute o "startswith" apos) [e] [] cpos) (tBM X.K "str" mK to (cA te dJ)):=by
 have h1:=aB (es:=[]) (env:=X.env) hs;have h2:starEach ([]:List Expr) X.env=[]:=rfl;refine⟨jy PySem.F.plainAttrs_str PySem.F.slot_str_startswith PySem.F.type_str_startswith vC ho.h (jx he.h fO (hs:=h1)) (hbase:=hbase) (hfew:=?_) (hline:=hline) (hs:=h1) (hplain:=by rw[h2];rfl)⟩;rw[h1,h2];rfl
theorem pH:QCall X (.type "int") (fun xs H Q=>∃(x:Str) (n:Int),xs=[.str x]/\PySem.intText? x=some n/\x.length<=640/\Q (.int n) H):=by refine⟨?_⟩;intro pins s σ H xs us Q I r h;obtain⟨x,n,rfl,hn,hl,q⟩:=h;obtain⟨u,rfl,rx⟩:=bX r;obtain⟨t,rfl⟩:=rx;exact KIN.call_text hn hl ⟨.int n,H,I.tok _,⟨_,rfl⟩,q⟩
end
open PySem PySem.Spec PyProof.Rows PySem.W
theorem dv{x y:Str}(h:x.cps.toList=y.cps.toList):x=y:=by cases x;cases y;congr 1;exact Yp.mp h
theorem aW(x y:Str):(x++y).cps.toList=x.cps.toList++y.cps.toList:=by show(x.cps++y.cps).toList=_;rw[Array.toList_append]
def ch1(c:Nat):Str:=⟨#[c]⟩
theorem CG(c:Nat):(ch1 c).cps.toList=[c]:=rfl
theorem pQ{c:Nat}:∀{a b x y:List Nat},c∉a->c∉b->a++c::x=b++c::y->a=b/\x=y
 | [],[],x,y,_,_,h=>by injection h with _ h;exact⟨rfl,h⟩
 | [],d::b,x,y,_,hb,h=>by injection h with h _;exact absurd (by rw[h];exact ZA) hb
 |d::a,[],x,y,ha,_,h=>by injection h with h _;exact absurd (by rw[<-h];exact ZA) ha
 |d::a,e::b,x,y,ha,hb,h=>by injection h with h1 h2;rw[Ze,not_or]at ha hb;obtain⟨e1,e2⟩:=pQ ha.2 hb.2 h2;exact⟨by rw[h1,e1],e2⟩
theorem fJ(c:Nat)(a b:Str)(r:List Str):(Str.join (ch1 c) (a::b::r)).cps.toList=a.cps.toList++c::(Str.join (ch1 c) (b::r)).cps.toList:=by have e:Str.join (ch1 c) (a::b::r)=a++ch1 c++Str.join (ch1 c) (b::r):=rfl;rw[e,aW,aW,CG];simp
theorem nj{c:Nat}:∀{l m:List Str},l≠[]->m≠[]->(∀p∈l,c∉p.cps.toList)->(∀p∈m,c∉p.cps.toList)->Str.join (ch1 c) l=Str.join (ch1 c) m->l=m
 | [],_,h,_,_,_,_=>absurd rfl h
 |_,[],_,h,_,_,_=>absurd rfl h
 | [a],[b],_,_,_,_,h=>by rw[show a=b from h]
 | [a],b::b2::r,_,_,ha,_,h=>by have:=ZO Str.cps h;have:=ZO Array.toList this;rw[fJ]at this;exact absurd (show c∈a.cps.toList by rw[show a.cps.toList=_ from this];simp) (ha a (by simp))
 |a::a2::r,[b],_,_,_,hb,h=>by have:=ZO Str.cps h;have:=ZO Array.toList this;rw[fJ]at this;exact absurd (show c∈b.cps.toList by rw[show b.cps.toList=_ from this.symm];simp) (hb b (by simp))
 |a::a2::r,b::b2::r2,_,_,ha,hb,h=>by have:=ZO Str.cps h;have:=ZO Array.toList this;rw[fJ,fJ]at this;obtain⟨e1,e2⟩:=pQ (ha a (by simp)) (hb b (by simp)) this;have ih:=nj (l:=a2::r) (m:=b2::r2) (by simp) (by simp) (fun p hp=>ha p (Zu _ hp)) (fun p hp=>hb p (Zu _ hp)) (dv e2);rw[dv e1,ih]
theorem yf(x y:Str):Txt.split x y≠[]:=by
 unfold Txt.split;split
 ·simp
 ·split
  ·simp
  ·intro h;have:=ZO List.length h;rw[length_partsBetween]at this;simp at this
theorem lT{c:Nat}{l:List Str}(h:l≠[])(hf:∀p∈l,c∉p.cps.toList):Txt.split (Str.join (ch1 c) l) (ch1 c)=l :=
 nj (yf _ _) h (StrLaws.split_free _ c) hf (StrLaws.join_split _ _)
open PySem PySem.Spec PyProof.Rows PySem.W
section
variable{X:Cx}{x:Str}{pos:Pos}
theorem Dz{s:Str}{tk:Tok}(hm:X.mg x=some (.str s tk))(hg:Gl X x:=by rfl)(hd:(x==("__debug__":Str))=false:=by decide):QE X (.Name x pos) (tC (.str s)):=⟨mG hg hm ⟨_,rfl⟩ hd⟩
end
open PySem PySem.Spec PyProof.Rows PySem.W
def dg(n:Nat):List Nat:=(Nat.toDigits 10 n).map Char.toNat
theorem dch{d:Nat}(h:d<10):(Nat.digitChar d).toNat=48+d:=by
 have:∀d:Nat,d<10->(Nat.digitChar d).toNat=48+d:=by decide
 exact this d h
theorem jo{n:Nat}(h:n<10):dg n=[48+n]:=by unfold dg;rw[Nat.toDigits_of_lt_base h,ZS,dch h];rfl
theorem jp{n:Nat}(h:¬n<10):dg n=dg (n / 10)++[48+n%10]:=by have hm:n%10<10:=Nat.mod_lt n (by decide);have t:Nat.toDigits 10 (n / 10)++Nat.toDigits 10 (n%10)=Nat.toDigits 10 (10*(n / 10)+n%10):=Nat.toDigits_append_toDigits (by decide) (by omega) hm;rw[Nat.div_add_mod]at t;unfold dg;rw[<-t,ZQ,Nat.toDigits_of_lt_base hm,ZS,dch hm];rfl
theorem iF(n:Nat):∀c∈dg n,48<=c/\c<=57:=by
 induction n using Nat.strongRecOn with
 |_ n ih =>
  intro c hc;by_cases h:n<10
  ·rw[jo h]at hc;have:=Zd.mp hc;omega
  ·rw[jp h]at hc;have hm:n%10<10:=Nat.mod_lt n (by decide);rcases ZG.mp hc with hc|hc
   ·exact ih (n / 10) (by omega) c hc
   ·have:=Zd.mp hc;omega
theorem oB(n:Nat):dg n≠[]:=by
 by_cases h:n<10
 ·rw[jo h];simp
 ·rw[jp h];simp
theorem pR:∀(k:Nat) {n:Nat},n<10^(k+1)->(dg n).length<=k+1
 |0,n,h=>by rw[jo (by simpa using h)];simp
 |k+1,n,h=>by
  by_cases c:n<10
  ·rw[jo c];simp
  ·rw[jp c,Zs];have:=pR k (n:=n / 10) (by rw[Nat.div_lt_iff_lt_mul (by decide)];rw[Nat.pow_succ]at h;exact h);simp;omega
theorem ze(n:Nat):n≠0->(dg n).head?≠some 48:=by
 induction n using Nat.strongRecOn with
 |_ n ih =>
  intro h0;by_cases h:n<10
  ·rw[jo h];intro z;have:48+n=48:=Zw z;omega
  ·rw[jp h];have:=ih (n / 10) (by omega) (by omega);cases e:dg (n / 10)with
   |nil=>exact absurd e (oB _)
   |cons a r =>rw[e]at this;exact this
theorem kf{i:Int}(h:0<=i):(aS i).cps.toList=dg i.toNat:=by have:=KIN.signs_num i.toNat;rw[show((i.toNat:Nat):Int)=i by omega]at this;exact this
theorem pZ{i:Int}(h:i<0):(aS i).cps.toList=45::dg i.natAbs:=by
 obtain⟨n,rfl⟩:∃n,i=Int.negSucc n:=⟨(-i-1).toNat,by omega⟩
 have e:toString (Int.negSucc n)="-"++Nat.repr (n+1):=rfl;unfold aS;rw[e,signs_ofString,String.toList_append,ZQ];have e2:(Nat.repr (n+1)).toList=Nat.toDigits 10 (n+1):=by simp[Nat.repr]
 rw[e2];rfl
theorem fi{i:Int}(h:i.natAbs<10^60):PySem.intText? (aS i)=some i:=by
 have hl:=pR 59 h;by_cases c:0<=i
 ·have e:=kf c;have e2:i.toNat=i.natAbs:=by omega
  have ln:(aS i).length<=4300:=by show(aS i).cps.size<=_;rw[<-ZM,e,e2];omega
  have:=intText_digits (x:=aS i) (by rw[e];exact iF _) (by rw[e];exact oB _) ln;rw[this,e];have v:=KIN.val_back i.toNat;show some ((NumText.digitsVal ((Nat.toDigits 10 i.toNat).map Char.toNat):Nat):Int)=_;rw[v];congr 1;omega
 ·have e:=pZ (i:=i) (by omega);have ln:(aS i).length<=4300:=by show(aS i).cps.size<=_;rw[<-ZM,e,Zq];omega
  have:=intText_neg (x:=aS i) e (iF _) (oB _) ln;rw[this];have v:=KIN.val_back i.natAbs;show some (-((NumText.digitsVal ((Nat.toDigits 10 i.natAbs).map Char.toNat):Nat):Int))=_;rw[v];congr 1;omega
theorem hW(i:Int):∀c∈(aS i).cps.toList,c=45\/(48<=c/\c<=57):=fun c hc=>by
 by_cases h:0<=i
 ·rw[kf h]at hc;exact .inr (iF _ c hc)
 ·rw[pZ (by omega)]at hc;rcases Ze.mp hc with h|h
  ·exact .inl h
  ·exact .inr (iF _ c h)
theorem wr{x:Str}{c:Nat}:Txt.startswith x (ch1 c)=decide (x.cps.toList.head?=some c):=by
 obtain⟨a⟩:=x;show(decide (0+1<=a.size)&&(a.extract 0 (0+1) == #[c]))=_;rw[Z6,Zz,Yh,Yh,ZI];constructor
 ·rintro⟨h1,h2⟩;have:=ZO Array.toList h2;rw[Array.toList_extract]at this;cases e:a.toList with
  |nil =>
   have:a.size=0:=by rw[<-ZM,e];rfl
   omega
  |cons b r =>rw[e]at this;simp at this;rw[List.head?_cons,this]
 ·intro h;cases e:a.toList with
  |nil=>rw[e]at h;cases h
  |cons b r =>
   rw[e,List.head?_cons]at h;have hb:b=c:=Zw h;have hs:a.size=r.length+1:=by rw[<-ZM,e];rfl
   refine⟨by omega,?_⟩;apply Yp.mp;rw[Array.toList_extract,e,hb];simp
theorem zG(x:Str)(c:Nat):(!(Builtin.Str.occurrences x (ch1 c) 0 x.length 1).isEmpty)=decide (c∈x.cps.toList):=by
 have h:=StrLaws.occ_head x (ch1 c) 1 (Zb _);have at_:∀k,StrLaws.At x (ch1 c) x.length k↔x.cps.toList[k]?=some c:=fun k=>by
  show(k+1<=x.cps.size/\(x.cps.extract k (k+1) == #[c])=true)↔_;rw[ZI];constructor
  ·rintro⟨h1,h2⟩;have:=ZO Array.toList h2;rw[Array.toList_extract]at this;have hk:k<x.cps.toList.length:=by rw[ZM];omega
   rw[Za hk];have e:(x.cps.toList.extract k (k+1))=[x.cps.toList[k]]:=by rw[List.extract_eq_drop_take,List.drop_eq_getElem_cons hk];simp
   rw[e]at this;simpa using this
  ·intro h;have hk:=(Zk.mp h).1;rw[ZM]at hk;refine⟨by omega,?_⟩;apply Yp.mp;rw[Array.toList_extract,List.extract_eq_drop_take,List.drop_eq_getElem_cons (by rw[ZM];exact hk)];have:=(Zk.mp h).2;rw[this];simp
 rcases h with⟨e,no⟩|⟨i,r,e,a,_⟩
 ·rw[e];refine(decide_eq_false fun hm=>?_).symm;obtain⟨k,hk⟩:=List.getElem?_of_mem hm;exact no k ((at_ k).mpr hk)
 ·rw[e];exact(decide_eq_true (Z1 ((at_ i).mp a))).symm
open PySem PySem.Spec PyProof.Rows PySem.W
open PySem PySem.Spec PyProof.Rows PySem.W
open PySem PySem.Spec PyProof.Rows PySem.W
section
variable{prog:Program}{w:World}{A:Around}{E:Value->Shared->Prop}{s:Shared}
def CS(prog:Program)(w:World):Option (List Key)->Int
 |none=>0xFCA86420
 |some k=>(tupleKind (jw prog w)).hash k
def OIs(prog:Program)(w:World)(h:Heap):Option (List Key)->Value->Prop
 |none,v=>v=.none
 |some k,v=>∃a,v=.ref a/\(tupleKind (jw prog w)).is h k a
abbrev wK:=Option (List Key)×Value×Value
def Bm(prog:Program)(w:World)(x:wK):DictEntry:=⟨CS prog w x.1,x.2.1,x.2.2⟩
structure ODict(prog:Program)(w:World)(h:Heap)(d:Addr)(o:Obj)(es:Array DictEntry)(ep:Nat)(xs:List wK):Prop where
 ho:h.get? d=some o
 hd:o.data=.dict es ep
 he:es.toList=xs.map (Bm prog w)
 his:∀x∈xs,OIs prog w h x.1 x.2.1
 hn:(xs.map (·.1)).Nodup
end
open PySem PySem.Spec PyProof.Rows PySem.W
abbrev OK1:=Option (List Key×Addr)
def okD:OK1->Option (List Key)
 |none=>none
 |some p=>some p.1
def okV:OK1->Value
 |none=>.none
 |some p=>.ref p.2
def oE(e:OK1×Addr):wK:=(okD e.1,okV e.1,.ref e.2)
def odO(P:Program)(w:World)(d:Addr)(kls:List (OK1×Addr)):HO:=.ext fun h=>(d==sysModules)=false/\∃(o:Obj) (es:Array DictEntry) (ep:Nat),h.get? d=some o/\o.ExactDict/\o.data=.dict es ep/\es.toList=(kls.map oE).map (Bm P w)
structure OdAt(P:Program)(w:World)(H:Hp)(d:Addr)(kls:List (OK1×Addr)):Prop where
 ob:H d=some (odO P w d kls)
 ks:∀e∈kls,∀p,e.1=some p->H p.2=some (.tup (p.1.map kV))
 nd:(kls.map fun e=>okD e.1).Nodup
open PySem PySem.Spec PyProof.Rows PySem.W
open PySem PySem.Spec PyProof.Rows PySem.W
open PySem PySem.Spec PyProof.Rows PySem.W
open PySem PySem.Spec PyProof.Rows
open PySem PySem.Spec PyProof.Rows PySem.W
open PySem PySem.Spec PyProof.Rows PySem.W
open PySem PySem.Spec PyProof.Rows PySem.W
inductive IsF(a b:Str)(x:V)(R:V->Prop):Prop
 |mk (z:Str) (h0:x=.str z) (h1:a.length+z.length+b.length<=sizeLine) (q:R (.str (a++z++b))):IsF a b x R
section
variable{X:Cx}
theorem qN{o value:Expr}{f:Str}{op:Operator}{rd:V->V->Hp->VK->Prop}{tpos pos:Pos}{ta tv:TE}(ha:QE X o ta)(hv:QE X value tv)(hop:wJ X op rd):QS X (.AugAssign (.Attribute o f tpos) op value pos) (sv X.K ta tv rd f):=⟨vV ha.h hv.h hop⟩
end
open PySem PySem.Spec PyProof.Rows PySem.W
inductive rStrA(xs:List V)(H:Hp)(Q:VK):Prop
 |int (i:Int) (h0:xs=[.int i]) (h1:i.natAbs<10^4300) (q:Q (.str (aS i)) H):rStrA xs H Q
 |str (z:Str) (h0:xs=[.str z]) (q:Q (.str z) H):rStrA xs H Q
section
variable{X:Cx}{K:PySem.W.Frag}
inductive rNeNil(K:PySem.W.Frag)(x y:V)(H:Hp)(Q:VK):Prop
 |mk (a b:Addr) (xs:List V) (h0:x=.ref a) (h1:y=.ref b) (ha:SqL K H a xs) (hb:SqL K H b []) (q:Q (.bl (!xs.isEmpty)) H):rNeNil K x y H Q
end
open PySem PySem.Spec PyProof.Rows PySem.W
open PySem PySem.Spec PyProof.Rows PySem.W
def calm(sp:Sp):Sp:=fun vs H Q _=>sp vs H Q fun _ _ _=>False
theorem FnOk.calm{P:Program}{w:World}{K:PySem.W.Frag}{mg:Str->Option Value}{base:Heap}{k:Nat}{f:Addr}{fd:FuncData}{ps:List Str}{sp:Sp}(F:FnOk P w K mg base (CXr P w) k f fd ps sp):FnOk P w K mg base CX0 k f fd ps (calm sp) where
 len vs H Q _ h:=F.len vs H Q _ h
 run A outer s H a us vs Q E hr he hb hv h:=Yr (F.run A outer s H a us vs Q (fun _ _ _=>False) hr he hb hv h) fun r s' hq=>by
  cases r with
  |error e =>obtain⟨_,_,_,_,_,_,_,_,_,_,_,_,_,_,_,_,_,z⟩:=hq;exact z.elim
  |ok fl=>cases fl<;>exact hq
theorem FnX.calm{P:Program}{w:World}{K:PySem.W.Frag}{mg:Str->Option Value}{base:Heap}{k:Nat}{x:Str}{ps:List Str}{sp:Sp}(F:FnX P w K mg base k x ps sp):Fn P w K mg base k x ps (L2.calm sp):=by obtain⟨f,fd,G,r⟩:=F.ex;exact⟨f,fd,G.calm,r⟩
structure MkFnX(P:Program)(w:World)(K:PySem.W.Frag)(mg:Str->Option Value)(base:Heap)(k:Nat)(C:Addr)(x:Str)(ps:List Str)(sp:Sp):Prop where
 cl:Cls K C
 mgC:mg x=some (.ref C)
 ex:∃f fd,FnOk P w K mg base (CXr P w) k f fd ps sp/\Mk K C f/\Binds K fd ps []
theorem MkFnX.calm{P:Program}{w:World}{K:PySem.W.Frag}{mg:Str->Option Value}{base:Heap}{k:Nat}{C:Addr}{x:Str}{ps:List Str}{sp:Sp}(F:MkFnX P w K mg base k C x ps sp):MkFn P w K mg base k C x ps (L2.calm sp):=by obtain⟨f,fd,G,r⟩:=F.ex;exact⟨F.cl,F.mgC,f,fd,G.calm,r⟩
section
variable{X:Cx}{k:Nat}{C:Addr}{x:Str}{ps:List Str}{sp:Sp}{p pos:Pos}{e:Expr}{es:List Expr}{t:TA}
def Cg(C:Addr)(sp:Sp)(t:TA):TX:=fun σ H Q E=>t σ H fun vs H1=>∀x dx,H1 x=none->H1 dx=none->dx≠x->sp (.ref x::vs) (upd (upd H1 dx (.own x)) x (.ins C dx [])) (fun v H2=>v=.non/\Q (.ref x) H2) E
theorem Cs(F:MkFnX X.prog X.w X.K X.mg X.base k C x ps sp)(hr:Room (k+1) X.A)(ha:QA X.nox (e::es) t)(hg:Gl X x:=by rfl)(hdb:(x==("__debug__":Str))=false:=by decide)(he:starEach (e::es) X.env=(false,eval e X.env)::starEach es X.env:=by rfl)(hpl:(backTo pos (starEach es X.env)).any (·.1)=false:=by rfl) :
  QX X (.Call (.Name x p) (e::es) [] pos) (Cg C sp t):=by
 refine⟨?_⟩;intro pins s σ H Q E I h;obtain⟨f,fd,G,M,b⟩:=F.ex;refine Z9 (fA I hg F.mgC ?_ hdb);refine PySem.W.callWith_K (h₀:=X.base) I.ok.mod.kin M.kp (ZY (ha.h pos pins s σ H _ (I.wish _) h) (fun us s1 ⟨vs,H1,I1,r,q⟩=>⟨I1.kIn,?_⟩) (fun _ _ z=>False.elim z)) he hpl;have I1:=I1.unwish;have hq:=q (s1.heap.objs.size+1) s1.heap.objs.size (I1.hok.fresh (y6 _)) (I1.hok.fresh (Zb _)) (Zt (Nat.lt_succ_self _));have I2:=Inv.made (C:=C) I1;have r2:Vals (V.ref (s1.heap.objs.size+1)::vs) (Value.ref (s1.heap.objs.size+1)::us):=.cons rfl r;have hl:(Value.ref (s1.heap.objs.size+1)::us++[]).length=ps.length:=by have e:=r2.length;rw[G.len _ _ _ _ hq]at e;rw[Z8];exact e.symm
 have hb:=b _ (Value.ref (s1.heap.objs.size+1)::us) I2.kIn hl;rw[Z8]at hb;refine wpAny_call (qq (f:=f) I1.kIn M.makes M.init (ZI.mp M.fn) (Yr (G.run _ X.stack _ _ ⟨Value.ref (s1.heap.objs.size+1)::us,[]⟩ (Value.ref (s1.heap.objs.size+1)::us) _ _ E (hr.make C us [])
  (I2.env0.make C us []) hb r2 hq) fun r s' hq'=>?_))
 cases r with
 |error e=>exact⟨_,_,I2,hq'⟩
 |ok fl =>
  cases fl with
  |ret u =>obtain⟨v,H',I3,rv,ev,q3⟩:=I2.after hq';subst ev;exact⟨rv,⟨V.ref (s1.heap.objs.size+1),H',I3,rfl,q3⟩⟩
  |next=>exact False.elim hq'
  |brk=>exact False.elim hq'
  |cont=>exact False.elim hq'
end
end L2
set_option maxRecDepth 100000
set_option maxHeartbeats 4000000
namespace K60
open PySem L2
open PyProof.Rows (envOfC)
open PySem.W (envX katRev CodeHd)
def top(i:Nat):Stmt:=PySem.Challenge.pw_limb_k60_views.main.body.getD i (.Pass ⟨0,0,0,0⟩)
section
variable{P:Program}{w:World}{K:PySem.W.Frag}{mg:Str->Option Value}{base:Heap}
theorem cxK{CX:CXT}{N:List Str}{qual:Str}{scope:Scope}{f:Addr}{cd:Value}{A:Around}{outer:List Env}{s:Shared}{H:Hp}{E:XK}:(cH CX P w K mg base N qual scope f cd A outer s H E).nox.K=K:=rfl
theorem at0{x:V}{r:List V}:atI (x::r) 0=some x:=cT (xs:=x::r) (j:=0) rfl
theorem at1{x y:V}{r:List V}:atI (x::y::r) 1=some y:=cT (xs:=x::y::r) (j:=1) rfl
theorem aU{c A B:Prop}[Decidable c](h:¬c)(hB:B):if decide c=true then A else B:=by rw[decide_eq_false h];exact aJ hB
end
def Sm(i:Int):Prop:=i.natAbs<10^60
theorem Sm.len{i:Int}(h:Sm i):(aS i).length<=62:=Zr (xw (k:=59) h) (by decide)
def gW(K:PySem.W.Frag):Sp:=fun vs H Q _=>∃(a:Addr) (ns:List Int) (k:Int),vs=[.ref a,.int k]/\SqL K H a (ns.map V.int)/\0<=k/\Q (.int (bj ns k.toNat)) H
section
variable{P:Program}{w:World}{K:PySem.W.Frag}{mg:Str->Option Value}{base:Heap}
def eX(c:Nat):Bool:=decide (48<=c)&&decide (c<=57)
def bZ(l:List Nat):Bool:=(decide (1<=l.length)&&decide (l.length<=60))&&l.all eX&&(decide (l=[48]) ||!decide (l.head?=some 48))
def FIG:Str:="0123456789"
theorem AO(c:Nat):decide (c∈FIG.cps.toList)=eX c:=by
 have e:FIG.cps.toList=[48,49,50,51,52,53,54,55,56,57]:=by decide +kernel
 rw[e];unfold eX;rw[Z6,Yh,Zz,Yh,Yh];simp only[Ze,Zo,ZJ];omega
def ue:Sp:=fun vs H Q _=>∃x:Str,vs=[.str x]/\x.length<=1000/\x.cps.all (·<128)=true/\∀H',Same H H'->Q (.bl (bZ x.cps.toList)) H'
theorem xj(x:Str):(((List.range x.cps.size).map fun i=>eX (x.cps.getD i 0)).all id)=x.cps.toList.all eX:=by
 rw[List.all_map,Z6,Z3,Z3];constructor
 ·intro h c hc;obtain⟨i,hi,rfl⟩:=List.getElem_of_mem hc;have hi':i<x.cps.size:=by simpa using hi
  have:=h i (List.mem_range.mpr hi');simpa[ZH,hi']using this
 ·intro h i hi;have hi':=List.mem_range.mp hi;have:=h x.cps[i] (by simp);simpa[ZH,hi']using this
theorem Dp(x:Str):decide (V.str x=V.str "0")=decide (x.cps.toList=[48]):=by
 rw[decide_eq_decide];constructor
 ·intro h;injection h with h;rw[h];decide +kernel
 ·intro h;have:x="0":=dv (by rw[h];decide +kernel);rw[this]
abbrev fU:Stmt:=top 24
abbrev pd:List Str:=["text"]
theorem on:FnScope pd ["text"] (ai fU):=⟨rfl,rfl,rfl,by decide +kernel,rfl,by decide +kernel,by decide +kernel⟩
theorem og{f:Addr}{fd:FuncData}{t1 t2:Tok}(F:Fun K "is_figures" "is_figures" fU f fd)(a5:mg "len" = none)(l3:mg "all" = none)(q0:mg "MOST_FIGURES" = some (.int 60 t1))(DJ:mg "FIGURES" = some (.str FIG t2)):FnOk P w K mg base CX0 1 f fd ["text"] ue:=by
 refine F.okQ on (fun vs H Q E h=>?_) (fun cdv A outer s H vs Q E hr h=>?_)
 ·obtain⟨x,rfl,_⟩:=h;rfl
 obtain⟨x,rfl,hl,ha,q⟩:=h;refine⟨_,(b_c (aC (t_w (eF (eO (mQ iR iR ag (q_B uD a5 Zx (q_a (q_v 0) af)) (bS q0))) (fw (eO (bO (q_B (yw rfl) l3 gc (q_a (aL (own:=["sign"]) (⟨rfl,by decide +kernel,by decide +kernel,rfl,trivial⟩:CompOk _ _ [] []) rfl (CL (q_v 0)) (fun _ _ _ _=>ax (i:=0) (show (["sign"]:List Str).Nodup by decide +kernel)) (ay (by decide)) (fun _ _ _ _=>bp) (fun _ _ _ _=>(bo yH (q_v 0) (Dz DJ)))) af))))))) (b_1 (ak cY)) b_0)
   (b_1 (ak (B1 (bo aK (q_v 0) aj) (oN (ii (xW (q_v 0) aj))))))),?_⟩
 have lx:x.cps.toList.length=x.length:=ZM;have fin:∀H',Same H H'->x.cps.toList.all eX=true->1<=x.length->x.length<=60->∀R:VK,(∀b,b=bZ x.cps.toList->R (.bl b) H')->yk (tOp rEq (tVar 0) (tC (.str "0"))) (uk (tBM K "str" mK (tVar 0) (cA (tC (.str "0")) dJ))) [some (.str x)] H' R:=fun H' s' h1 h2 h3 R hR=>by
  have fb:bZ x.cps.toList=(decide (x.cps.toList=[48]) ||!decide (x.cps.toList.head?=some 48)):=by unfold bZ;rw[h1,lx,decide_eq_true h2,decide_eq_true h3];rfl
  refine⟨_,rfl,rfl,_,rfl,?_⟩;rw[Dp];cases e:decide (x.cps.toList=[48])with
  |true=>exact bG (hR _ (by rw[fb,e];rfl))
  |false =>refine aJ ⟨_,rfl,rfl,x,"0",rfl,rfl,_,rfl,?_⟩;have es:Txt.startswith x "0" = decide (x.cps.toList.head?=some 48):=wr (c:=48);rw[es];exact hR _ (by rw[fb,e];rfl)
 refine⟨_,rfl,x,rfl,hl,_,_,rfl,rfl,_,rfl,?_⟩;refine A6 (fun c=>?_) (fun c=>?_)
 ·have c1:1<=x.length:=by have:=of_decide_eq_true c;omega
  refine⟨_,_,rfl,rfl,_,rfl,?_⟩;by_cases c2:x.length<=60
  ·rw[decide_eq_true (show(x.length:Int)<=60 by omega)];refine aJ ⟨_,rfl,x,rfl,ha,?_⟩;refine xb (x:=x) (fun i=>.bl (eX (x.cps.getD i 0))) hl (fun i c' H1 hi sm R k=>?_) (fun p H1 sm hp=>?_)
   ·have e:x.cps.getD i 0=c':=by rw[ZH,hi];rfl
    rw[e]at k;have k':=k H1 (Same.refl H1);rw[<-AO,<-zG]at k';exact⟨_,rfl,⟨#[c']⟩,FIG,rfl,rfl,k'⟩
   ·refine⟨p,(List.range x.cps.size).map (fun i=>eX (x.cps.getD i 0)),rfl,SqL.of (by rw[aa,List.map_map];rfl),_,rfl,?_⟩;rw[xj];have sp:=sm.trans (ad hp (.lst ((List.range x.cps.size).map fun i=>V.bl (eX (x.cps.getD i 0)))));cases e:x.cps.toList.all eX with
    |true=>exact aJ (fin _ sp e c1 c2 _ fun b hb=>by rw[hb];exact q _ sp)
    |false =>refine bG ?_;have q':=q _ sp;rw[show bZ x.cps.toList=false by unfold bZ;rw[e];simp]at q';exact q'
  ·rw[decide_eq_false (show¬(x.length:Int)<=60 by omega)];refine bG (bG ?_);have q':=q H (Same.refl H);rw[show bZ x.cps.toList=false by unfold bZ;rw[lx,decide_eq_false c2];simp]at q';exact q'
 ·have c1:¬1<=x.length:=fun z=>c (decide_eq_true (by omega));refine⟨_,rfl,bG (bG ?_)⟩;have q':=q H (Same.refl H);rw[show bZ x.cps.toList=false by unfold bZ;rw[lx,decide_eq_false c1];simp]at q';exact q'
end
theorem Dj:¬(("words":Str)="spot"):=by decide +kernel
def fu(l:Addr)(i:Nat):List (Str×V):=bL "spot" (.int (i:Int)) (bL "words" (.ref l) [])
theorem qL(l:Addr)(i:Nat):(fu l i).lookup ("words":Str)=some (.ref l):=by unfold fu;rw[bf,EM Dj,bf,EN rfl]
theorem fD(l:Addr)(i:Nat):(fu l i).lookup ("spot":Str)=some (.int (i:Int)):=by unfold fu;rw[bf,EN rfl]
theorem aP(l:Addr)(i:Nat){m:Str}(h1:¬m="spot")(h2:¬m="words"):(fu l i).lookup m=none:=by
 unfold fu;rw[bf,EM h1,bf,EM h2]
 all_goals rfl
inductive RdAt(C:Addr)(H:Hp)(p l:Addr)(ws:List Str)(i:Nat):Prop
 |mk (dx:Addr) (h0:H p=some (.ins C dx (fu l i))) (h1:H l=some (.lst (ws.map V.str))) (h2:i<=ws.length) (h3:ws.length<=100000):RdAt C H p l ws i
structure Txt(K:PySem.W.Frag)(C:Addr):Prop where
 cl:Cls K C
 nW:NoAttr K C "words"
 nS:NoAttr K C "spot"
inductive spThrough(C:Addr)(vs:List V)(H:Hp)(Q:VK)(E_:XK):Prop
 |mk (p l:Addr) (ws:List Str) (i:Nat) (h0:vs=[.ref p]) (h1:RdAt C H p l ws i) (h2:Q (.bl (decide (i=ws.length))) H):spThrough C vs H Q E_
inductive spHere(C:Addr)(vs:List V)(H:Hp)(Q:VK)(E_:XK):Prop
 |mk (p l:Addr) (ws:List Str) (i:Nat) (h0:vs=[.ref p]) (h1:RdAt C H p l ws i) (h2:Q (.str (ws.getD i "")) H):spHere C vs H Q E_
inductive spGoOn(C:Addr)(vs:List V)(H:Hp)(Q:VK)(E_:XK):Prop
 |mk (p l:Addr) (ws:List Str) (i:Nat) (h0:vs=[.ref p,.bl true]) (h1:RdAt C H p l ws i) (h2:i<ws.length) (h3:∀H',(∀b o,H b=some o->b≠p->H' b=some o)->RdAt C H' p l ws (i+1)->Q .non H'):spGoOn C vs H Q E_
inductive spPasses(C:Addr)(vs:List V)(H:Hp)(Q:VK)(E_:XK):Prop
 |mk (p l:Addr) (ws:List Str) (i:Nat) (t:Str) (h0:vs=[.ref p,.str t]) (h1:RdAt C H p l ws i) (h2:t≠"") (h3:ws.getD i ""≠t->Q (.bl false) H) (h4:ws[i]?=some t->∀H',(∀b o,H b=some o->b≠p->H' b=some o)->RdAt C H' p l ws (i+1)->Q (.bl true) H'):spPasses C vs H Q E_
inductive spRInit(C:Addr)(vs:List V)(H:Hp)(Q:VK)(E_:XK):Prop
 |mk (p dx l:Addr) (ws:List Str) (h0:vs=[.ref p,.ref l]) (h1:H p=some (.ins C dx [])) (h2:H l=some (.lst (ws.map V.str))) (h3:ws.length<=100000) (h4:∀H',(∀b o,H b=some o->b≠p->H' b=some o)->RdAt C H' p l ws 0->Q .non H'):spRInit C vs H Q E_
section
variable{P:Program}{w:World}{K:PySem.W.Frag}{mg:Str->Option Value}{base:Heap}
abbrev cZ:Stmt:=dB (top 31) 1
abbrev iB:List Str:=["self"]
theorem ir:FnScope iB ["self"] (ai cZ):=⟨rfl,rfl,rfl,by decide +kernel,rfl,by decide +kernel,by decide +kernel⟩
theorem ie{f C:Addr}{fd:FuncData}(F:Fun K "is_through" "Reader.is_through" cZ f fd)(T:Txt K C)(a5:mg "len" = none):FnOk P w K mg base CX0 1 f fd ["self"] (spThrough C):=by
 refine F.okQ ir (fun vs H Q E h=>?_) (fun cdv A outer s H vs Q E hr h=>?_)
 ·obtain⟨p,l,ws,i,rfl,_⟩:=h;rfl
 obtain⟨p,l,ws,i,rfl,⟨dx,e0,e1,hi,hz⟩,q⟩:=h;refine⟨_,(b_1 (ak (bo aK (fm (q_v 0)) (q_B ba a5 Zx (q_a (fm (q_v 0)) af))))),?_⟩;have hd:decide (V.int (i:Int)=V.int ((ws.map V.str).length:Int))=decide (i=ws.length):=by
  rw[Zi];by_cases c:i=ws.length
  ·rw[decide_eq_true c,c,decide_eq_true rfl]
  ·rw[decide_eq_false c,decide_eq_false fun z=>c (by injection z with z;omega)]
 rw[<-hd]at q;exact⟨_,rfl,p,C,dx,_,_,rfl,e0,T.cl,T.nS,fD l i,⟨_,rfl,p,C,dx,_,_,rfl,e0,T.cl,T.nW,qL l i,l,_,rfl,.inl (SqL.of e1),rfl,q⟩⟩
abbrev fe:Stmt:=dB (top 31) 2
abbrev nL:List Str:=["self"]
theorem mM:FnScope nL ["self"] (ai fe):=⟨rfl,rfl,rfl,by decide +kernel,rfl,by decide +kernel,by decide +kernel⟩
theorem mD{f C:Addr}{fd:FuncData}(F:Fun K "here" "Reader.here" fe f fd)(T:Txt K C)(j6:MFn P w K mg base 1 C "is_through" ["self"] (spThrough C)):FnOk P w K mg base CX0 2 f fd ["self"] (spHere C):=by
 refine F.okQ mM (fun vs H Q E h=>?_) (fun cdv A outer s H vs Q E hr h=>?_)
 ·obtain⟨p,l,ws,i,rfl,_⟩:=h;rfl
 obtain⟨p,l,ws,i,rfl,R,q⟩:=h;obtain⟨dx,e0,e1,hi,hz⟩:=id R;refine⟨_,(b_1 (ak (tV (bO (bE j6 (hr.mono (by decide)) (q_v 0))) aj (ar aO (fm (q_v 0)) (fm (q_v 0)))))),?_⟩;refine⟨_,rfl,p,dx,_,rfl,e0,aP l i (by decide +kernel) (by decide +kernel),⟨p,l,ws,i,rfl,R,⟨_,rfl,cX (fun c=>?_) (fun c=>?_)⟩⟩⟩
 ·rw[Zl,Ye (by omega)]at q;exact q
 ·have hl:i<ws.length:=by omega
  have ha:atI (ws.map V.str) (i:Int)=some (.str (ws.getD i "")):=cT (by rw[Zm,Zl,Za hl];rfl);exact⟨_,rfl,p,C,dx,_,_,rfl,e0,T.cl,T.nW,qL l i,⟨_,rfl,p,C,dx,_,_,rfl,e0,T.cl,T.nS,fD l i,⟨l,_,_,_,rfl,rfl,SqL.of e1,ha,q⟩⟩⟩
abbrev dF:Stmt:=dB (top 31) 3
abbrev lZ:List Str:=["self","good"]
theorem gq:FnScope lZ ["self","good"] (ai dF):=⟨rfl,rfl,rfl,by decide +kernel,rfl,by decide +kernel,by decide +kernel⟩
theorem lC{f C:Addr}{fd:FuncData}(F:Fun K "go_on" "Reader.go_on" dF f fd)(T:Txt K C):FnOk P w K mg base CX0 1 f fd ["self","good"] (spGoOn C):=by
 refine F.okQ gq (fun vs H Q E h=>?_) (fun cdv A outer s H vs Q E hr h=>?_)
 ·obtain⟨p,l,ws,i,rfl,_⟩:=h;rfl
 obtain⟨p,l,ws,i,rfl,R,hlt,q⟩:=h;obtain⟨dx,e0,e1,hi,hz⟩:=id R;refine⟨_,(b_c (aC (eO (bO (q_v 1))) (b_1 Ar) b_0)
   (b_1 (qN (q_v 0) ag uY))),?_⟩
 refine⟨_,rfl,⟨_,rfl,aJ ?_⟩⟩;have npl:l≠p:=fun z=>by rw[z,e0]at e1;cases e1
 refine⟨_,rfl,p,C,dx,_,_,rfl,e0,T.cl,T.nS,fD l i,_,_,rfl,rfl,dx,_,e0,?_,?_⟩
 ·show 2<1000;decide
 ·exact q _ (fun b o e n=>by rw[ac n];exact e) ⟨dx,aa,by rw[ac npl];exact e1,hlt,hz⟩
abbrev dW:Stmt:=dB (top 31) 4
abbrev kM:List Str:=["self","word","found"]
theorem fY:FnScope kM ["self","word"] (ai dW):=⟨rfl,rfl,rfl,by decide +kernel,rfl,by decide +kernel,by decide +kernel⟩
theorem kC{f C:Addr}{fd:FuncData}(F:Fun K "passes" "Reader.passes" dW f fd)(j7:MFn P w K mg base 2 C "here" ["self"] (spHere C))(D2:MFn P w K mg base 1 C "go_on" ["self","good"] (spGoOn C)):FnOk P w K mg base CX0 3 f fd ["self","word"] (spPasses C):=by
 refine F.okQ fY (fun vs H Q E h=>?_) (fun cdv A outer s H vs Q E hr h=>?_)
 ·obtain⟨p,l,ws,i,t,rfl,_⟩:=h;rfl
 obtain⟨p,l,ws,i,t,rfl,R,ht,q1,q2⟩:=h;obtain⟨dx,e0,e1,hi,hz⟩:=id R;refine⟨_,(b_c (aq (i:=2) fY.nd (bo aK (bE j7 (hr.mono (by decide)) (q_v 0)) (q_v 1)))
   (b_c (aC (bO (q_v 2)) (b_1 (bJ (dr D2 (hr.mono (by decide)) (q_v 0) (q_a cY af)))) b_0)
   (b_1 (ak (q_v 2))))),?_⟩
 refine⟨_,rfl,p,dx,_,rfl,e0,aP l i (by decide +kernel) (by decide +kernel),⟨p,l,ws,i,rfl,R,⟨_,rfl,rfl,?_⟩⟩⟩;by_cases c:ws.getD i "" = t
 ·have hw:ws[i]?=some t:=by
   rw[Zl]at c;cases e:ws[i]? with
   |none=>rw[e]at c;exact absurd c.symm ht
   |some x=>rw[e]at c;exact ZO some c
  have hl:i<ws.length:=(Zk.mp hw).1;rw[c,decide_eq_true rfl];refine⟨_,rfl,⟨_,rfl,bG ⟨_,rfl,p,dx,_,rfl,e0,aP l i (by decide +kernel) (by decide +kernel),⟨p,l,ws,i,rfl,R,hl,fun H' b R'=>⟨_,rfl,q2 hw H' b R'⟩⟩⟩⟩⟩
 ·rw[decide_eq_false fun z=>c (by injection z)];exact⟨_,rfl,⟨_,rfl,aJ ⟨_,rfl,q1 c⟩⟩⟩
abbrev fg:Stmt:=dB (top 31) 0
abbrev nM:List Str:=["self","words"]
theorem mO:FnScope nM ["self","words"] (ai fg):=⟨rfl,rfl,rfl,by decide +kernel,rfl,by decide +kernel,by decide +kernel⟩
theorem mE{f C:Addr}{fd:FuncData}(F:Fun K "__init__" "Reader.__init__" fg f fd)(T:Txt K C):FnOk P w K mg base CX0 1 f fd ["self","words"] (spRInit C):=by
 refine F.okQ mO (fun vs H Q E h=>?_) (fun cdv A outer s H vs Q E hr h=>?_)
 ·obtain⟨p,dx,l,ws,rfl,_⟩:=h;rfl
 obtain⟨p,dx,l,ws,rfl,e0,e1,hz,q⟩:=h;refine⟨_,(b_c (lK (q_v 0) (q_v 1))
   (b_1 (lK (q_v 0) ag))),?_⟩
 have npl:l≠p:=fun z=>by rw[z,e0]at e1;cases e1
 refine⟨_,rfl,_,rfl,p,C,dx,[],rfl,e0,T.cl,T.nW,(by show 0<1000;decide),?_⟩;refine⟨_,rfl,p,C,dx,_,rfl,aa,T.cl,T.nS,(by show 1<1000;decide),?_⟩;exact q _ (fun b o e n=>by rw[ac n,ac n];exact e) ⟨dx,aa,by rw[ac npl,ac npl];exact e1,ZB _,hz⟩
end
inductive spAlo1(vs:List V)(H:Hp)(Q:VK)(E_:XK):Prop
 |mk (t:Str) (L:Addr) (ps:List V) (h0:vs=[.str t,.ref L]) (h1:H L=some (.lst ps)) (h2:ps≠[]) (h3:ps.length<=900) (h4:∀v,ps=[v]->Q v H) (h5:ps.length≠1->∀a b H',Same H H'->H' b=some (.tup ps)->H' a=some (.tup [.str t,.ref b])->Q (.ref a) H'):spAlo1 vs H Q E_
section
variable{P:Program}{w:World}{K:PySem.W.Frag}{mg:Str->Option Value}{base:Heap}
abbrev im:Stmt:=top 35
abbrev sK:List Str:=["word","parts"]
theorem rF:FnScope sK ["word","parts"] (ai im):=⟨rfl,rfl,rfl,by decide +kernel,rfl,by decide +kernel,by decide +kernel⟩
theorem rn{f:Addr}{fd:FuncData}(F:Fun K "alone_or" "alone_or" im f fd)(a5:mg "len" = none)(u9:mg "tuple" = none):FnOk P w K mg base CX0 1 f fd ["word","parts"] spAlo1:=by
 refine F.okQ rF (fun vs H Q E h=>?_) (fun cdv A outer s H vs Q E hr h=>?_)
 ·obtain⟨t,L,ps,rfl,_⟩:=h;rfl
 obtain⟨t,L,ps,rfl,e,hne,hz,q1,q2⟩:=h;refine⟨_,(b_1 (ak (tV (au aK (q_B ba a5 Zx (q_a (q_v 1) af)) ag) (ar aO (q_v 1) ag) (cw (q_a (q_v 0) (q_a (gH CC u9 kU (q_a (q_v 1) af)) af)))))),?_⟩;refine⟨_,rfl,L,ps,rfl,.inl (SqL.of e),rfl,⟨_,rfl,cX (fun c=>?_) (fun c=>?_)⟩⟩
 ·obtain⟨v,rfl⟩:∃v,ps=[v]:=by
   have c:(ps.length:Int)=1:=by injection c
   exact List.length_eq_one_iff.mp (by omega)
  exact⟨_,rfl,L,_,_,v,rfl,rfl,SqL.of e,at0,q1 v rfl⟩
 ·have c1:ps.length≠1:=fun z=>c (by rw[z];rfl);refine⟨_,rfl,_,rfl,L,ps,rfl,.inl ⟨SqL.of e,fun b gb=>?_⟩⟩;have wb:=ad gb (.tup ps);refine⟨sz rfl,fun a ga=>q2 c1 a b _ (wb.trans (ad ga _)) (ad ga _ _ _ aa) aa⟩
end
inductive Cq where
 |w (s:Str)
 |num (s:Str)(n:Int)
 |item (x y:Int)
 |says (t:Str)
 |no (c:Cq)
 |many (o:Bool)(cs:List Cq)
def orW(o:Bool):Str:=if o then"or" else"and"
def Cq.hd:Cq->Str
 |.w s=>s
 |.num s _=>s
 |.item _ _=>"beneath"
 |.says _=>"says"
 |.no _=>"not"
 |.many o _=>orW o
mutual
inductive CqAt(H:Hp):V->Cq->Prop
 |w {a:Addr} {s:Str} (h:H a=some (.tup [.str s])):CqAt H (.ref a) (.w s)
 |num {a:Addr} {s:Str} {n:Int} (h:H a=some (.tup [.str s,.int n])):CqAt H (.ref a) (.num s n)
 |item {a b:Addr} {x y:Int} (h:H a=some (.tup [.str "beneath",.ref b])) (h1:H b=some (.tup [.int x,.int y])):CqAt H (.ref a) (.item x y)
 |says {a:Addr} {t:Str} (h:H a=some (.tup [.str "says",.str t])):CqAt H (.ref a) (.says t)
 |no {a:Addr} {v:V} {c:Cq} (h:H a=some (.tup [.str "not",v])) (h1:CqAt H v c):CqAt H (.ref a) (.no c)
 |many {a b:Addr} {o:Bool} {vs:List V} {cs:List Cq} (h:H a=some (.tup [.str (orW o),.ref b])) (h1:H b=some (.tup vs)) (h2:CqsAt H vs cs):CqAt H (.ref a) (.many o cs)
inductive CqsAt(H:Hp):List V->List Cq->Prop
 |nil:CqsAt H [] []
 |cons {v:V} {vs:List V} {c:Cq} {cs:List Cq} (h:CqAt H v c) (t:CqsAt H vs cs):CqsAt H (v::vs) (c::cs)
end
def TS2(H H':Hp):Prop:=∀a zs,H a=some (.tup zs)->H' a=some (.tup zs)
mutual
theorem CqAt.ts{H H':Hp}(s:TS2 H H'):∀{v:V} {c:Cq},CqAt H v c->CqAt H' v c
 |_,_,.w h=>.w (s _ _ h)
 |_,_,.num h=>.num (s _ _ h)
 |_,_,.item h h1=>.item (s _ _ h) (s _ _ h1)
 |_,_,.says h=>.says (s _ _ h)
 |_,_,.no h h1=>.no (s _ _ h) (CqAt.ts s h1)
 |_,_,.many h h1 h2=>.many (s _ _ h) (s _ _ h1) (CqsAt.ts s h2)
theorem CqsAt.ts{H H':Hp}(s:TS2 H H'):∀{vs:List V} {cs:List Cq},CqsAt H vs cs->CqsAt H' vs cs
 |_,_,.nil=>.nil
 |_,_,.cons h t=>.cons (CqAt.ts s h) (CqsAt.ts s t)
end
theorem CqAt.head{H:Hp}{v:V}{c:Cq}(h:CqAt H v c):∃a xs,v=.ref a/\H a=some (.tup (.str c.hd::xs)):=by
 cases h with
 |w h=>exact⟨_,_,rfl,h⟩
 |num h=>exact⟨_,_,rfl,h⟩
 |item h _=>exact⟨_,_,rfl,h⟩
 |says h=>exact⟨_,_,rfl,h⟩
 |no h _=>exact⟨_,_,rfl,h⟩
 |many h _ _=>exact⟨_,_,rfl,h⟩
def brk(c:Cq)(t:Str):Bool:=decide (c.hd="or") ||(decide (c.hd="and")&&!decide (t="or"))
def aI:Str:=" "
def opn:Str:="("
def cls:Str:=")"
def gG:Str:="not"
def fH(b:Bool)(ws:List Str):List Str:=if b then opn::(ws++[cls])else ws
mutual
def Cq.ws:Cq->List Str
 |.w s=>[s]
 |.num s n=>[s,aS n]
 |.item x y=>["beneath",aS x++"."++aS y]
 |.says t=>["says",t]
 |.no c=>gG::fH (brk c gG) (Cq.ws c)
 |.many o cs=>Cq.wsL o cs
def Cq.wsL(o:Bool):List Cq->List Str
 | []=>[]
 | [c]=>fH (brk c (orW o)) (Cq.ws c)
 |c::d::cs=>fH (brk c (orW o)) (Cq.ws c)++orW o::Cq.wsL o (d::cs)
end
def Cq.line(c:Cq):Str:=Str.join aI c.ws
section
variable{P:Program}{w:World}{K:PySem.W.Frag}{mg:Str->Option Value}{base:Heap}{tkD tkN tkT tkO tkW tkF:Tok}
def ug(cN:Addr):Sp:=fun vs H Q _=>∃(e t:Addr) (v:V),vs=[.ref e,v]/\H e=some (exN e cN t none)/\∀d,H d=none->Q .non (upd (upd H d (.xd [("at",v)])) e (exN e cN t (some d)))
abbrev dH:Stmt:=dB (top 20) 0
abbrev jG:List Str:=["self","at"]
theorem je:FnScope jG ["self","at"] (ai dH):=⟨rfl,rfl,rfl,by decide +kernel,rfl,by decide +kernel,by decide +kernel⟩
theorem iS{f cN:Addr}{fd:FuncData}(F:Fun K "__init__" "NoQuestion.__init__" dH f fd)(S:ExS K cN)(n:NoAttr K cN "at"):FnOk P w K mg base CX0 1 f fd ["self","at"] (ug cN):=by
 refine F.okQ je (fun vs H Q E h=>?_) (fun cdv A outer s H vs Q E hr h=>?_)
 ·obtain⟨e,t,v,rfl,_⟩:=h;rfl
 obtain⟨e,t,v,rfl,he,q⟩:=h;refine⟨_,(b_1 (B7 (q_v 0) (q_v 1))),?_⟩
 try rw[cxK]
 exact⟨_,rfl,_,rfl,e,cN,t,rfl,he,S,n,q⟩
theorem pw{H1:Hp}{ea t d cN:Addr}{v:V}(h1:H1 ea=none)(hd:upd H1 ea (exN ea cN t none) d=none) :
  Same H1 (del (upd (upd (upd H1 ea (exN ea cN t none)) d (.xd [("at",v)])) ea (exN ea cN t (some d))) ea)/\del (upd (upd (upd H1 ea (exN ea cN t none)) d (.xd [("at",v)])) ea (exN ea cN t (some d))) ea d=some (.xd [("at",v)]):=by
 have nde:d≠ea:=fun z=>by rw[z,aa]at hd;cases hd
 refine⟨fun b o e=>?_,?_⟩
 ·have hb:b≠ea:=ao e h1;have hbd:b≠d:=fun z=>by rw[<-z,ac hb,e]at hd;cases hd
  rw[dR hb,ac hb,ac hbd,ac hb];exact e
 ·rw[dR nde,ac nde,aa]
inductive spGoX(C cQ:Addr)(vs:List V)(H:Hp)(Q:VK)(E_:XK):Prop
 |mk (p l:Addr) (ws:List Str) (i:Nat) (b:Bool) (h0:vs=[.ref p,.bl b]) (h1:RdAt C H p l ws i) (h2:b=true->i<ws.length) (h3:b=true->∀H',(∀b o,H b=some o->b≠p->H' b=some o)->RdAt C H' p l ws (i+1)->Q .non H') (h4:b=false->∀H' dd,Same H H'->H' dd=some (.xd [("at",.int (i:Int))])->E_ (.ref cQ) (some dd) H'):spGoX C cQ vs H Q E_
theorem kz{f C cQ:Addr}{fd:FuncData}{bm:List Value}(F:Fun K "go_on" "Reader.go_on" dF f fd)(T:Txt K C)(j2:ExI P w K mg base 1 cQ bm ["self","at"] (ug cQ))(g0:mg "NoQuestion" = some (.ref cQ)):FnOk P w K mg base (CXr P w) 3 f fd ["self","good"] (spGoX C cQ):=by
 refine F.okX gq (fun vs H Q E h=>?_) (fun cdv A outer s H vs Q E hr h=>?_)
 ·obtain⟨p,l,ws,i,b,rfl,_⟩:=h;rfl
 obtain⟨p,l,ws,i,b,rfl,R,hlt,q,q2⟩:=h;obtain⟨dx,e0,e1,hi,hz⟩:=id R;refine⟨_,(b_c (aC (eO (bO (q_v 1))) (b_1 (qO aZ rfl j2 (hr.mono (by decide)) g0 (q_a (fm (q_v 0)) af))) b_0)
   (b_1 (qN (q_v 0) ag uY))),?_⟩
 try rw[cxK]
 cases b with
 |true =>
  refine⟨_,rfl,⟨_,rfl,aJ ?_⟩⟩;have npl:l≠p:=fun z=>by rw[z,e0]at e1;cases e1
  refine⟨_,rfl,p,C,dx,_,_,rfl,e0,T.cl,T.nS,fD l i,_,_,rfl,rfl,dx,_,e0,?_,?_⟩
  ·show 2<1000;decide
  ·exact q rfl _ (fun b o e n=>by rw[ac n];exact e) ⟨dx,aa,by rw[ac npl];exact e1,hlt rfl,hz⟩
 |false =>refine⟨_,rfl,⟨_,rfl,bG ?_⟩⟩;refine⟨_,rfl,p,C,dx,_,_,rfl,e0,T.cl,T.nS,fD l i,?_⟩;refine⟨sz rfl,fun ea t hea ht nt=>⟨ea,t,_,rfl,aa,fun dd hdd=>⟨rfl,some dd,aa,?_⟩⟩⟩;obtain⟨a1,a2⟩:=pw hea hdd;exact q2 rfl _ dd a1 a2
def W6:List Str:=["all","done","folded","free","leaf","seen"]
def tf(s:Str):TV:=.flat (.str s)
def FT:List (Str×TV):=[("all",tf "nothing"),("done",tf "nothing"),("folded",tf "nothing"),("free",tf "nothing"),("leaf",tf "nothing"),("seen",tf "nothing"),("due",tf "number"),("depth",tf "number"),("beneath",tf "item"),("says",tf "word")]
def eH(x y:Int):Str:=aS x++"."++aS y
inductive AtOk:Cq->Prop
 |w {s:Str} (h:s∈W6):AtOk (.w s)
 |num {s:Str} {n:Int} (h:s="due"\/s="depth") (h0:0<=n) (h1:Sm n):AtOk (.num s n)
 |item {x y:Int} (h0:0<=x) (h1:1<=y) (h2:Sm x) (h3:Sm y):AtOk (.item x y)
 |says {t:Str} (h0:t≠"") (h1:t.length<=100) (h2:32∉t.cps.toList) (h3:t.cps.all (·<128)=true):AtOk (.says t)
theorem ka{i:Int}(c:0<=i)(h:Sm i):bZ (aS i).cps.toList=true:=by
 have dl:=pR 59 h;have da:=iF i.natAbs;have dn:=oB i.natAbs;have al:(dg i.natAbs).all eX=true:=by rw[Z3];intro c hc;have:=da c hc;unfold eX;rw[decide_eq_true this.1,decide_eq_true this.2];rfl
 have l1:1<=(dg i.natAbs).length:=List.length_pos_iff.mpr dn;have h0:(decide (dg i.natAbs=[48]) ||!decide ((dg i.natAbs).head?=some 48))=true:=by
  by_cases c:i.natAbs=0
  ·rw[c,show dg 0=[48]from jo (by decide)];rfl
  ·rw[decide_eq_false (ze _ c)];simp
 have e:(aS i).cps.toList=dg i.natAbs:=by rw[kf c,show i.toNat=i.natAbs by omega]
 rw[e];unfold bZ;rw[al,h0,decide_eq_true l1,decide_eq_true dl];rfl
theorem iG(i:Int):(aS i).cps.all (·<128)=true:=by rw[<-Yq,Z3];intro c hc;have:=hW i c hc;exact decide_eq_true (by omega)
theorem vb(x y:Int):eH x y=Str.join (ch1 46) [aS x,aS y]:=by refine dv ?_;rw[fJ];unfold eH;rw[aW,aW,Zv];rfl
theorem lq(x y:Int):Txt.split (eH x y) "." = [aS x,aS y]:=by rw[vb];refine lT (c:=46) (by simp) fun p hp hm=>?_;simp only[Ze,Zo,ZJ]at hp;rcases hp with rfl|rfl<;>(have:=hW _ _ hm;omega)
theorem kh{x y:Int}(h1:Sm x)(h2:Sm y):(eH x y).length<=125:=by have:=h1.len;have:=h2.len;unfold eH;rw[ZT,ZT];have:(".":Str).length=1:=rfl;omega
theorem zn{y:Int}(h:1<=y)(h1:Sm y):V.str (aS y)≠V.str "0":=fun z=>by
 injection z with z;have e:=fi (i:=y) h1;rw[z]at e;have:PySem.intText? "0" = some 0:=by decide +kernel
 rw[this]at e;injection e with e;omega
inductive spItemIn(vs:List V)(H:Hp)(Q:VK)(E_:XK):Prop
 |mk (x y:Int) (h0:vs=[.str (eH x y)]) (h1:AtOk (.item x y)) (h2:∀a H',Same H H'->H' a=some (.tup [.int x,.int y])->Q (.ref a) H'):spItemIn vs H Q E_
abbrev jc:Stmt:=top 26
abbrev uy:List Str:=["word","halves"]
theorem lN:FnScope uy ["word"] (ai jc):=⟨rfl,rfl,rfl,by decide +kernel,rfl,by decide +kernel,by decide +kernel⟩
theorem tO{f:Addr}{fd:FuncData}(F:Fun K "item_in" "item_in" jc f fd)(k9:mg "int" = none):FnOk P w K mg base CX0 1 f fd ["word"] spItemIn:=by
 refine F.okQ lN (fun vs H Q E h=>?_) (fun cdv A outer s H vs Q E hr h=>?_)
 ·obtain⟨x,y,rfl,_⟩:=h;rfl
 obtain⟨x,y,rfl,ok,q⟩:=h;refine⟨_,(b_c (aq (i:=1) lN.nd (mJ (q_v 0) aj))
   (b_1 (ak (cw (q_a (gH pH k9 fG (q_a (ar aO (q_v 1) ag) af)) (q_a (gH pH k9 fG (q_a (ar aO (q_v 1) ag) af)) af)))))),?_⟩
 cases ok with
 |item x0 y0 sx sy =>
 refine⟨_,rfl,rfl,_,".",rfl,rfl,rfl,Zr (kh sx sy) (by decide),fun D gD=>?_⟩;rw[lq];have wD:=ad gD (.lst ([aS x,aS y].map V.str));have eD:upd H D (.lst ([aS x,aS y].map V.str)) D=some (.lst ([aS x,aS y].map V.str)):=aa;generalize upd H D (.lst ([aS x,aS y].map V.str))=H1 at wD eD ⊢;refine⟨_,rfl,D,_,_,_,rfl,rfl,SqL.of eD,at0,aS x,x,rfl,fi sx,Zr sx.len (by decide),?_⟩;refine⟨_,rfl,D,_,_,_,rfl,rfl,SqL.of eD,at1,aS y,y,rfl,fi sy,Zr sy.len (by decide),?_⟩;exact⟨sz rfl,fun a ga=>q a _ (wD.trans (ad ga _)) aa⟩
def Cq.kind:Cq->Str
 |.num _ _=>"number"
 |.item _ _=>"item"
 |.says _=>"word"
 |_=>"nothing"
def Cq.arg:Cq->Str
 |.num _ n=>aS n
 |.item x y=>eH x y
 |.says t=>t
 |_=>""
inductive ArgAt(H:Hp):V->Cq->Prop
 |num {s:Str} {n:Int}:ArgAt H (.int n) (.num s n)
 |item {b:Addr} {x y:Int} (h:H b=some (.tup [.int x,.int y])):ArgAt H (.ref b) (.item x y)
 |says {t:Str}:ArgAt H (.str t) (.says t)
inductive spFollowing(vs:List V)(H:Hp)(Q:VK)(E_:XK):Prop
 |mk (c:Cq) (h0:vs=[.str c.kind,.str c.arg]) (h1:AtOk c) (h2:c.kind≠"nothing") (h3:∀v H',Same H H'->ArgAt H' v c->Q v H'):spFollowing vs H Q E_
theorem CO:¬(V.str "item" = V.str "number"):=by decide +kernel
theorem CQ:¬(V.str "word" = V.str "number"):=by decide +kernel
theorem CP:¬(V.str "word" = V.str "item"):=by decide +kernel
abbrev dO:Stmt:=top 39
abbrev jW:List Str:=["kind","word"]
theorem jJ:FnScope jW ["kind","word"] (ai dO):=⟨rfl,rfl,rfl,by decide +kernel,rfl,by decide +kernel,by decide +kernel⟩
theorem jI{f:Addr}{fd:FuncData}(F:Fun K "read_following" "read_following" dO f fd)(DK:Fn P w K mg base 1 "item_in" ["word"] spItemIn)(k9:mg "int" = none):FnOk P w K mg base CX0 2 f fd ["kind","word"] spFollowing:=by
 refine F.okQ jJ (fun vs H Q E h=>?_) (fun cdv A outer s H vs Q E hr h=>?_)
 ·obtain⟨c,rfl,_⟩:=h;rfl
 obtain⟨c,rfl,ok,nn,q⟩:=h;refine⟨_,(b_c (aC (au aK (q_v 0) aj) (b_1 (ak (gH pH k9 fG (q_a (q_v 1) af)))) b_0)
   (b_c (aC (au aK (q_v 0) aj) (b_1 (ak (aG DK (hr.mono (by decide)) (q_a (q_v 1) af)))) b_0)
   (b_1 (ak (q_v 1))))),?_⟩
 cases id ok with
 |w h=>exact absurd rfl nn
 |@num s n h h0 h1 =>exact⟨_,rfl,rfl,_,rfl,aH rfl ⟨_,rfl,aS n,n,rfl,fi h1,Zr h1.len (by decide),q _ _ (Same.refl _) .num⟩⟩
 |@item x y h0 h1 h2 h3 =>exact⟨_,rfl,rfl,_,rfl,aU CO ⟨_,rfl,rfl,_,rfl,aH rfl ⟨_,rfl,x,y,rfl,ok,fun a H' s' e=>q _ _ s' (.item e)⟩⟩⟩
 |@says t h0 h1 h2 =>exact⟨_,rfl,rfl,_,rfl,aU CQ ⟨_,rfl,rfl,_,rfl,aU CP ⟨_,rfl,q _ _ (Same.refl _) .says⟩⟩⟩
theorem qr{s:Str}:∀{l:List Str} {p:Str} {c:Nat},p∈l->c∈p.cps.toList->c∈(Str.join s l).cps.toList
 | [a],p,c,h,hc=>by rw[Zd.mp h]at hc;exact hc
 |a::b::r,p,c,h,hc=>by
  show c∈(a++s++Str.join s (b::r)).cps.toList;rw[aW,aW];rcases Ze.mp h with rfl|h
  ·simp[hc]
  ·have:=qr (s:=s) h hc;simp[this]
theorem qo{s:Str}:∀{l:List Str} {p:Str},p∈l->p.length<=(Str.join s l).length
 | [a],p,h=>by rw[Zd.mp h];exact Zb _
 |a::b::r,p,h=>by
  show p.length<=(a++s++Str.join s (b::r)).length;rw[ZT,ZT];rcases Ze.mp h with rfl|h
  ·omega
  ·have:=qo (s:=s) h;omega
def Asc(x:Str):Prop:=x.length<=300/\x.cps.all (·<128)=true
theorem Asc.part{x y p:Str}(hy:y.length=1)(h:Asc x)(hp:p∈Txt.split x y):Asc p:=by
 have e:Str.join y (Txt.split x y)=x:=StrLaws.join_split x y;refine⟨?_,?_⟩
 ·have:=qo (s:=y) hp;rw[e]at this;exact Zr this h.1
 ·have a:=h.2;rw[<-Yq,Z3]at a ⊢;intro c hc;have:=qr (s:=y) hp hc;rw[e]at this;exact a c this
def tq:List Str->Bool
 | [a,b]=>bZ a.cps.toList&&(bZ b.cps.toList&&!decide (b="0"))
 |_=>false
def oG(x:Str):Bool:=tq (Txt.split x ".")
def tG(k x:Str):Bool:=if k="number" then bZ x.cps.toList else if k="item" then oG x else !decide (x="")
inductive spItemG(vs:List V)(H:Hp)(Q:VK)(E_:XK):Prop
 |mk (x:Str) (h0:vs=[.str x]) (h1:Asc x) (h2:∀H',Same H H'->Q (.bl (oG x)) H'):spItemG vs H Q E_
abbrev eB:Stmt:=top 25
abbrev ma:List Str:=["word","halves"]
theorem gr:FnScope ma ["word"] (ai eB):=⟨rfl,rfl,rfl,by decide +kernel,rfl,by decide +kernel,by decide +kernel⟩
theorem lD{f:Addr}{fd:FuncData}(F:Fun K "is_item_word" "is_item_word" eB f fd)(i9:Fn P w K mg base 1 "is_figures" ["text"] ue)(a5:mg "len" = none):FnOk P w K mg base CX0 2 f fd ["word"] spItemG:=by
 refine F.okQ gr (fun vs H Q E h=>?_) (fun cdv A outer s H vs Q E hr h=>?_)
 ·obtain⟨x,rfl,_⟩:=h;rfl
 obtain⟨x,rfl,as,q⟩:=h;refine⟨_,(b_c (aq (i:=1) gr.nd (mJ (q_v 0) aj))
   (b_1 (ak (lJ (bo aK (q_B ba a5 Zx (q_a (q_v 1) af)) ag) (lJ (aG i9 (hr.mono (by decide)) (q_a (ar aO (q_v 1) ag) af)) (lJ (aG i9 (hr.mono (by decide)) (q_a (ar aO (q_v 1) ag) af)) (oN (bo Bo (ar aO (q_v 1) ag) aj)))))))),?_⟩
 refine⟨_,rfl,rfl,_,".",rfl,rfl,rfl,Zr as.1 (by decide),fun D gD=>?_⟩;have pa:∀p∈Txt.split x ".",Asc p:=fun p hp=>as.part rfl hp;have q:∀H',Same H H'->Q (.bl (tq (Txt.split x "."))) H':=q;generalize Txt.split x "." = hs at pa q ⊢;have wD:=ad gD (.lst (hs.map V.str));have eD:upd H D (.lst (hs.map V.str)) D=some (.lst (hs.map V.str)):=aa;generalize upd H D (.lst (hs.map V.str))=H1 at wD eD ⊢;refine⟨_,rfl,D,_,rfl,.inl (SqL.of eD),rfl,_,rfl,cX (fun c=>?_) (fun c=>?_)⟩
 ·obtain⟨a,b,rfl⟩:∃a b,hs=[a,b]:=by
   have c:((hs.map V.str).length:Int)=2:=by injection c
   rw[Zi]at c
   match hs,c with
   | [a,b],_=>exact⟨a,b,rfl⟩
   | [],c=>simp at c
   | [_],c=>simp at c
   |_::_::_::_,c=>simp at c;omega
  have ha:=pa a (by simp);have hb:=pa b (by simp);refine⟨_,rfl,D,_,_,_,rfl,rfl,SqL.of eD,at0,a,rfl,Zr ha.1 (by decide),ha.2,fun H2 s2=>⟨_,rfl,?_⟩⟩;have q2:Q (.bl (bZ a.cps.toList&&(bZ b.cps.toList&&!decide (b="0")))) H2:=q _ (wD.trans s2);cases ea:bZ a.cps.toList with
  |false =>rw[ea]at q2;exact aJ q2
  |true =>
   rw[ea,Bool.true_and]at q2;refine bG ⟨_,rfl,D,_,_,_,rfl,rfl,SqL.of (s2 _ _ eD),at1,b,rfl,Zr hb.1 (by decide),hb.2,fun H3 s3=>⟨_,rfl,?_⟩⟩;have q3:Q (.bl (bZ a.cps.toList&&(bZ b.cps.toList&&!decide (b="0")))) H3:=q _ (wD.trans (s2.trans s3));rw[ea,Bool.true_and]at q3;cases eb:bZ b.cps.toList with
   |false =>rw[eb]at q3;exact aJ q3
   |true =>
    rw[eb,Bool.true_and]at q3;refine bG ⟨_,rfl,D,_,_,_,rfl,rfl,SqL.of (s3 _ _ (s2 _ _ eD)),at1,rfl,?_⟩;have:decide (V.str b=V.str "0")=decide (b="0"):=by rw[decide_eq_decide];exact⟨fun z=>by injection z,fun z=>by rw[z]⟩
    rw[this];exact q3
 ·have q2:=q _ wD;have:tq hs=false:=by
   clear q q2 eD pa
   match hs,c with
   | [a,b],c=>exact absurd rfl c
   | [],_=>rfl
   | [_],_=>rfl
   |_::_::_::_,_=>rfl
  rw[this]at q2;exact q2
inductive spMayG(vs:List V)(H:Hp)(Q:VK)(E_:XK):Prop
 |mk (k x:Str) (h0:vs=[.str k,.str x]) (h1:Asc x) (h3:∀H',Same H H'->Q (.bl (tG k x)) H'):spMayG vs H Q E_
abbrev fV:Stmt:=top 38
abbrev pf:List Str:=["kind","word"]
theorem oo:FnScope pf ["kind","word"] (ai fV):=⟨rfl,rfl,rfl,by decide +kernel,rfl,by decide +kernel,by decide +kernel⟩
theorem oi{f:Addr}{fd:FuncData}(F:Fun K "may_follow" "may_follow" fV f fd)(i9:Fn P w K mg base 1 "is_figures" ["text"] ue)(r6:Fn P w K mg base 2 "is_item_word" ["word"] spItemG):FnOk P w K mg base CX0 3 f fd ["kind","word"] spMayG:=by
 refine F.okQ oo (fun vs H Q E h=>?_) (fun cdv A outer s H vs Q E hr h=>?_)
 ·obtain⟨k,x,rfl,_⟩:=h;rfl
 obtain⟨k,x,rfl,as,q⟩:=h;refine⟨_,(b_c (aC (au aK (q_v 0) aj) (b_1 (ak (aG i9 (hr.mono (by decide)) (q_a (q_v 1) af)))) b_0)
   (b_c (aC (au aK (q_v 0) aj) (b_1 (ak (aG r6 (hr.mono (by decide)) (q_a (q_v 1) af)))) b_0)
   (b_1 (ak (bo Bo (q_v 1) aj))))),?_⟩
 unfold tG at q;refine⟨_,rfl,rfl,_,rfl,cX (fun c=>?_) (fun c=>?_)⟩
 ·have c:k="number":=by injection c
  rw[EN c]at q;exact⟨_,rfl,x,rfl,Zr as.1 (by decide),as.2,q⟩
 rw[EM (fun z=>c (by rw[z]))]at q;refine⟨_,rfl,rfl,_,rfl,cX (fun c=>?_) (fun c=>?_)⟩
 ·have c:k="item":=by injection c
  rw[EN c]at q;exact⟨_,rfl,x,rfl,as,q⟩
 rw[EM (fun z=>c (by rw[z]))]at q;refine⟨_,rfl,rfl,?_⟩;have:decide (V.str x=V.str "")=decide (x=""):=by rw[decide_eq_decide];exact⟨fun z=>by injection z,fun z=>by rw[z]⟩
 rw[this];exact q _ (Same.refl _)
theorem xB{c:Cq}(ok:AtOk c)(n:c.kind≠"nothing"):tG c.kind c.arg=true:=by
 cases ok with
 |w=>exact absurd rfl n
 |num h h0 h1=>exact ka h0 h1
 |@item x y h0 h1 h2 h3 =>show oG (eH x y)=true;unfold oG;rw[lq];show(bZ (aS x).cps.toList&&(bZ (aS y).cps.toList&&!decide (aS y="0")))=true;rw[ka h0 h2,ka (by omega) h3,decide_eq_false (fun z=>zn h1 h3 (by rw[z]))];rfl
 |@says t h0 h1 h2 =>show(!decide (t=""))=true;rw[decide_eq_false h0];rfl
def KpR(p:Addr)(H H':Hp):Prop:=∀b o,H b=some o->b≠p->H' b=some o
theorem KpR.trans{p:Addr}{H H1 H2:Hp}(a:KpR p H H1)(b:KpR p H1 H2):KpR p H H2:=fun _ _ e n=>b _ _ (a _ _ e n) n
theorem KpR.same{p:Addr}{H H1:Hp}(a:Same H H1):KpR p H H1:=fun _ _ e _=>a _ _ e
inductive RdL(C:Addr)(H:Hp)(p l:Addr)(ws us:List Str):Prop
 |mk (pre:List Str) (h0:ws=pre++us) (h1:RdAt C H p l ws pre.length):RdL C H p l ws us
section
variable{C p l:Addr}{H H':Hp}{ws us r:List Str}{t x:Str}{Q:VK}{E:XK}
theorem RdL.obj(R:RdL C H p l ws us):∃dx i,H p=some (.ins C dx (fu l i)):=by obtain⟨pre,_,dx,h,_⟩:=R;exact⟨dx,_,h⟩
theorem RdL.lst(R:RdL C H p l ws us):H l=some (.lst (ws.map V.str)):=by obtain⟨pre,_,dx,_,h,_⟩:=R;exact h
theorem RdL.tup(R:RdL C H p l ws us){a:Addr}{zs:List V}(e:H a=some (.tup zs)):a≠p:=by obtain⟨dx,i,h⟩:=R.obj;rintro rfl;rw[h]at e;cases e
theorem RdL.ts(R:RdL C H p l ws us)(k:KpR p H H'):TS2 H H':=fun _ _ e=>k _ _ e (R.tup e)
theorem RdL.same(R:RdL C H p l ws us)(s:Same H H'):RdL C H' p l ws us:=by obtain⟨pre,h,dx,h1,h2,h3,h4⟩:=R;exact⟨pre,h,dx,s _ _ h1,s _ _ h2,h3,h4⟩
theorem RdL.upd(R:RdL C H p l ws us){a:Addr}{o:HO}(n1:a≠p)(n2:a≠l):RdL C (upd H a o) p l ws us:=by obtain⟨pre,h,dx,h1,h2,h3,h4⟩:=R;exact⟨pre,h,dx,by rw[ac (ZW n1)];exact h1,by rw[ac (ZW n2)];exact h2,h3,h4⟩
theorem RdL.here(R:RdL C H p l ws us)(q:Q (.str (us.headD "")) H):spHere C [.ref p] H Q E:=by
 obtain⟨pre,rfl,h⟩:=R;refine⟨p,l,_,_,rfl,h,?_⟩;rw[Zl,ZF (Zb _),Nat.sub_self];cases us with
 |nil=>exact q
 |cons=>exact q
theorem RdL.through(R:RdL C H p l ws us)(q:Q (.bl us.isEmpty) H):spThrough C [.ref p] H Q E:=by
 obtain⟨pre,rfl,h⟩:=R;refine⟨p,l,_,_,rfl,h,?_⟩;cases us with
 |nil =>rw[decide_eq_true (by simp)];exact q
 |cons =>rw[decide_eq_false (by simp)];exact q
theorem RdL.next{pre:List Str}(h:RdAt C H' p l (pre++x::r) (pre.length+1)):RdL C H' p l (pre++x::r) r :=
 ⟨pre++[x],by simp,by rw[Zs];exact h⟩
theorem RdL.no(R:RdL C H p l ws us)(ht:t≠"")(n:us.headD ""≠t)(q:Q (.bl false) H):spPasses C [.ref p,.str t] H Q E:=by
 obtain⟨pre,rfl,h⟩:=R;have e:(pre++us)[pre.length]?=us.head?:=by rw[ZF (Zb _),Nat.sub_self];cases us<;>rfl
 refine⟨p,l,_,_,t,rfl,h,ht,fun _=>q,fun z=>?_⟩;rw[e]at z;exact absurd (by rw[List.headD_eq_head?_getD,z];rfl) n
theorem RdL.yes(R:RdL C H p l ws (t::r))(ht:t≠"")(q:∀H',KpR p H H'->RdL C H' p l ws r->Q (.bl true) H'):spPasses C [.ref p,.str t] H Q E:=by obtain⟨pre,rfl,h⟩:=R;refine⟨p,l,_,_,t,rfl,h,ht,fun z=>?_,fun _ H' k h'=>q H' k (RdL.next h')⟩;rw[Zl,ZF (Zb _),Nat.sub_self]at z;exact absurd rfl z
end
theorem RdL.goX{C p l cQ:Addr}{H:Hp}{ws us:List Str}{b:Bool}{Q:VK}{E:XK}(R:RdL C H p l ws us)(hb:b=true->us≠[])(q:b=true->∀x r H',us=x::r->KpR p H H'->RdL C H' p l ws r->Q .non H')(e:b=false->∀H' dd,Same H H'->RdL C H' p l ws us->H' dd=some (.xd [("at",.int ((ws.length:Int)-us.length))])->E (.ref cQ) (some dd) H'):spGoX C cQ [.ref p,.bl b] H Q E:=by
 have R':=R;obtain⟨pre,rfl,h⟩:=R;refine⟨p,l,_,_,b,rfl,h,fun z=>?_,fun z H' k h'=>?_,fun z H' dd s1 hd=>?_⟩
 ·cases us with
  |nil=>exact absurd rfl (hb z)
  |cons=>simp
 ·cases us with
  |nil=>exact absurd rfl (hb z)
  |cons x r=>exact q z x r H' rfl k (RdL.next h')
 ·refine e z H' dd s1 (R'.same s1) ?_;rw[hd,Zs];congr 6;omega
inductive Res where
 |ok (c:Cq)(r:List Str)
 |bad (r:List Str)
abbrev RX:=Int->List Str->Res->Prop
inductive spX(C cQ:Addr)(R:RX)(vs:List V)(H:Hp)(Q:VK)(E_:XK):Prop
 |mk (p l:Addr) (ws us:List Str) (d:Int) (res:Res) (h0:vs=[.ref p,.int d]) (h1:RdL C H p l ws us) (h2:R d us res) (h3:∀c r,res=.ok c r->∀v H',KpR p H H'->CqAt H' v c->RdL C H' p l ws r->Q v H')
   (h4:∀r,res=.bad r->∀H' dd,KpR p H H'->RdL C H' p l ws r->H' dd=some (.xd [("at",.int ((ws.length:Int)-r.length))])->E_ (.ref cQ) (some dd) H'):spX C cQ R vs H Q E_
inductive XL(R:List Str->Res->Prop)(t:Str):List Str->List Cq->List Str->Prop
 |nil {us:List Str} (h:us.headD ""≠t):XL R t us [] us
 |cons {us r1 r:List Str} {c:Cq} {cs:List Cq} (h:R us (.ok c r1)) (h2:XL R t r1 cs r):XL R t (t::us) (c::cs) r
inductive XB(R:List Str->Res->Prop)(t:Str):List Str->List Cq->List Str->Prop
 |here {us r:List Str} (h:R us (.bad r)):XB R t (t::us) [] r
 |cons {us r1 r:List Str} {c:Cq} {cs:List Cq} (h:R us (.ok c r1)) (h2:XB R t r1 cs r):XB R t (t::us) (c::cs) r
def eG(o:Bool)(c:Cq):List Cq->Cq
 | []=>c
 |d::cs=>.many o (c::d::cs)
inductive XM(o:Bool)(R:RX)(d:Int)(us:List Str):Res->Prop
 |ok (c0:Cq) (r0:List Str) (cs:List Cq) (r:List Str) (h0:R d us (.ok c0 r0)) (h1:XL (R d) (orW o) r0 cs r) (h2:cs.length<=800):XM o R d us (.ok (eG o c0 cs) r)
 |bad0 (r:List Str) (h0:R d us (.bad r)):XM o R d us (.bad r)
 |bad (c0:Cq) (r0:List Str) (cs:List Cq) (r:List Str) (h0:R d us (.ok c0 r0)) (h1:XB (R d) (orW o) r0 cs r) (h2:cs.length<=800):XM o R d us (.bad r)
def noR:Res->Res
 |.ok c r=>.ok (.no c) r
 |.bad r=>.bad r
inductive CloseR:Res->Res->Prop
 |ok (c:Cq) (r:List Str):CloseR (.ok c (cls::r)) (.ok c r)
 |no (c:Cq) (r:List Str) (h:r.headD ""≠cls):CloseR (.ok c r) (.bad r)
 |bad (r:List Str):CloseR (.bad r) (.bad r)
inductive XPl(us:List Str):Res->Prop
 |ok (c:Cq) (r:List Str) (h:AtOk c) (h1:us=c.ws++r):XPl us (.ok c r)
 |bad1 (h:PyProof.Rows.KTD.datumAt (us.headD "") FT=none):XPl us (.bad us)
 |bad2 (hd k:Str) (us':List Str) (h:us=hd::us') (h1:PyProof.Rows.KTD.datumAt hd FT=some (tf k)) (h2:k≠"nothing") (h3:Asc (us'.headD "")) (h4:tG k (us'.headD "")=false):XPl us (.bad us')
def XO:Nat->RX
 |0=>fun _ _ _=>False
 |n+1=>fun d us res=>(d<12/\∃us' r0,us=gG::us'/\XO n (d+1) us' r0/\res=noR r0)\/(d<12/\∃us' r0,us=opn::us'/\XM true (XM false (XO n)) (d+1) us' r0/\CloseR r0 res)\/((d<12->us.headD ""≠gG/\us.headD ""≠opn)/\XPl us res)
theorem CqsAt.app{H:Hp}:∀{vs:List V} {cs:List Cq} {v:V} {c:Cq},CqsAt H vs cs->CqAt H v c->CqsAt H (vs++[v]) (cs++[c])
 |_,_,_,_,.nil,h=>.cons h .nil
 |_,_,_,_,.cons g t,h=>.cons g (t.app h)
theorem CqsAt.len{H:Hp}:∀{vs:List V} {cs:List Cq},CqsAt H vs cs->vs.length=cs.length
 |_,_,.nil=>rfl
 |_,_,.cons _ t=>ZO (·+1) t.len
theorem sH{H:Hp}{a:Addr}{xs:List V}{o:HO}(e:H a=some (.lst xs)):TS2 H (upd H a o):=fun b zs h=>by
 rw[ac]
 ·exact h
 ·rintro rfl;rw[e]at h;cases h
abbrev gM:Stmt:=top 34
abbrev rf:List Str:=["reader","depth","parts"]
theorem jg:FnScope rf ["reader","depth"] (ai gM):=⟨rfl,rfl,rfl,by decide +kernel,rfl,by decide +kernel,by decide +kernel⟩
theorem iT{k:Nat}{R:RX}{f C cQ:Addr}{fd:FuncData}(hk:3<=k)(F:Fun K "read_each" "read_each" gM f fd)(FX_read_one:FnX P w K mg base k "read_one" ["reader","depth"] (spX C cQ R))(c8:MFn P w K mg base 3 C "passes" ["self","word"] (spPasses C))(j3:Fn P w K mg base 1 "alone_or" ["word","parts"] spAlo1):FnOk P w K mg base (CXr P w) (k+1) f fd ["reader","depth"] (spX C cQ (XM false R)):=by
 refine F.okX jg (fun vs H Q E h=>?_) (fun cdv A outer s H vs Q E hr h=>?_)
 ·obtain⟨p,l,ws,us,d,res,rfl,_⟩:=h;rfl
 obtain⟨p,l,ws,us,d,res,rfl,R0,hm,q,qe⟩:=h;refine⟨_,(b_c (aq (i:=2) jg.nd (bA (q_a (fq FX_read_one (dD aZ) (hr.mono (by omega)) (q_a (q_v 0) (q_a (q_v 1) af))) af)))
   (b_c (yM aZ (mL (lG rfl rfl) (bO (dr c8 (hr.mono (by omega)) (q_v 0) (q_a aj af))) (b_1 (bJ (eM (q_v 2) (fq FX_read_one (dD jP) (hr.mono (by omega)) (q_a (q_v 0) (q_a (q_v 1) af))))))))
   (b_1 (ak (aG j3 (hr.mono (by omega)) (q_a aj (q_a (q_v 2) af))))))),?_⟩
 try rw[cxK]
 have npl:l≠p:=fun z=>by obtain⟨dx,i,e⟩:=R0.obj;have:=R0.lst;rw[z,e]at this;cases this
 obtain⟨r1,h1,hg⟩:∃r1,R d us r1/\((∃r,r1=.bad r/\res=.bad r)\/∃(c0:Cq) (r0:List Str) (cs:List Cq) (r:List Str),r1=.ok c0 r0/\cs.length<=800/\((XL (R d) (orW false) r0 cs r/\res=.ok (eG false c0 cs) r)\/(XB (R d) (orW false) r0 cs r/\res=.bad r))):=by
  cases hm with
  |ok c0 r0 cs r h0 h1 h2=>exact⟨_,h0,.inr ⟨c0,r0,cs,r,rfl,h2,.inl ⟨h1,rfl⟩⟩⟩
  |bad0 r h0=>exact⟨_,h0,.inl ⟨r,rfl,rfl⟩⟩
  |bad c0 r0 cs r h0 h1 h2=>exact⟨_,h0,.inr ⟨c0,r0,cs,r,rfl,h2,.inr ⟨h1,rfl⟩⟩⟩
 clear hm;refine⟨_,rfl,_,rfl,p,l,ws,us,d,r1,rfl,R0,h1,fun c0' r0' e1 v H1 k1 cv R1=>⟨sz rfl,fun L gL=>?_⟩,fun r e1 H1 dd k1 R1 hd=>?_⟩
 rotate_left
 ·rcases hg with⟨r',e2,e3⟩|⟨c0,r0,cs,r',e2,_⟩
  ·rw[e1]at e2;cases e2;exact qe _ e3 H1 dd k1 R1 hd
  ·rw[e1]at e2;cases e2
 rcases hg with⟨r',e2,e3⟩|⟨c0,r0,cs,r,e2,h3,hg⟩
 ·rw[e1]at e2;cases e2
 rw[e1]at e2;cases e2;have n1:L≠p:=fun z=>by obtain⟨dx,i,e⟩:=R1.obj;rw[z,e]at gL;cases gL
 have n2:L≠l:=fun z=>by rw[z,R1.lst]at gL;cases gL
 have nH:H L=none:=by
  cases e:H L with
  |none=>rfl
  |some o=>rw[k1 _ _ e n1]at gL;cases gL
 refine⟨fun m σ H'=>∃(done todo:List Cq) (vs:List V) (rr:List Str),σ=[some (.ref p),some (.int d),some (.ref L)]/\H' L=some (.lst vs)/\CqsAt H' vs done/\c0'::cs=done++todo/\done≠[]/\((XL (R d) (orW false) rr todo r/\res=.ok (eG false c0' cs) r)\/(XB (R d) (orW false) rr todo r/\res=.bad r))/\KpR p H H'/\RdL C H' p l ws rr/\m=todo.length,⟨cs.length,[c0'],cs,[v],r0',rfl,aa,.cons (cv.ts (fun a zs e=>ad gL _ _ _ e)) .nil,rfl,by simp,hg,k1.trans (KpR.same (ad gL _)),R1.same (ad gL _),rfl⟩,?_⟩;clear hg;rintro m σ H' ⟨done,todo,vs,rr,rfl,eL,ca,ed,nd,hl,kp,RR1,rfl⟩;obtain⟨dx,i,e0⟩:=RR1.obj;refine⟨_,rfl,p,dx,_,rfl,e0,aP l i (by decide +kernel) (by decide +kernel),?_⟩;have cs':(rr.headD ""≠orW false/\todo=[]/\res=.ok (eG false c0' cs) r/\rr=r)\/∃us1 r2,rr=orW false::us1/\R d us1 r2/\((∃rb,r2=.bad rb/\res=.bad rb)\/∃c1 todo' r1,r2=.ok c1 r1/\todo=c1::todo'/\((XL (R d) (orW false) r1 todo' r/\res=.ok (eG false c0' cs) r)\/(XB (R d) (orW false) r1 todo' r/\res=.bad r))):=by
  rcases hl with⟨hl,e⟩|⟨hl,e⟩
  ·cases hl with
   |nil h=>exact .inl ⟨h,rfl,e,rfl⟩
   |cons h hl=>exact .inr ⟨_,_,rfl,h,.inr ⟨_,_,_,rfl,rfl,.inl ⟨hl,e⟩⟩⟩
  ·cases hl with
   |here h=>exact .inr ⟨_,_,rfl,h,.inl ⟨_,rfl,e⟩⟩
   |cons h hl=>exact .inr ⟨_,_,rfl,h,.inr ⟨_,_,_,rfl,rfl,.inr ⟨hl,e⟩⟩⟩
 clear hl;rcases cs' with⟨h,rfl,er,rfl⟩|⟨us1,r2,rfl,h,hg⟩
 ·refine RR1.no (by decide +kernel) h ⟨_,rfl,aJ ?_⟩;rw[Z8]at ed;have lv:=ca.len;rw[<-ed]at ca;refine⟨_,rfl,_,L,vs,rfl,eL,fun z=>?_,?_,fun v' e1=>?_,fun n1 a b H2 s2 eb ea=>?_⟩
  ·rw[z]at lv;exact nd (List.length_eq_zero_iff.mp lv.symm)
  ·rw[lv,<-ed,Zq];omega
  ·subst e1;cases ca with
   |cons g t =>cases t;exact q _ _ er _ _ kp g RR1
  ·cases cs with
   |nil=>exact absurd (by rw[lv,<-ed];rfl) n1
   |cons c1 cs =>exact q _ _ er _ _ (kp.trans (KpR.same s2)) (.many (o:=false) ea eb (ca.ts fun a zs e=>s2 _ _ e)) (RR1.same s2)
 refine RR1.yes (by decide +kernel) fun H2 k2 R2=>⟨_,rfl,bG ⟨_,fun _ _ z=>z,?_⟩⟩
 have eL2:=k2 _ _ eL n1;refine⟨_,rfl,.inl ⟨rfl,_,SqL.of eL2⟩,_,rfl,_,rfl,p,l,ws,us1,d,r2,rfl,R2,h,fun c1 r1 e2 v3 H3 k3 cv3 R3=>?_,fun rb e2 H3 dd k3 R3 hd=>?_⟩
 rotate_left
 ·rcases hg with⟨rb',e4,e5⟩|⟨_,_,_,e4,_⟩
  ·rw[e2]at e4;cases e4;exact qe _ e5 H3 dd (kp.trans (k2.trans k3)) R3 hd
  ·rw[e2]at e4;cases e4
 rcases hg with⟨rb',e4,e5⟩|⟨c1',todo',r1',e4,rfl,hg⟩
 ·rw[e2]at e4;cases e4
 rw[e2]at e4;cases e4;have eL3:=k3 _ _ eL2 n1;have lv:=ca.len;have ca3:=(ca.ts (RR1.ts k2)).ts (R2.ts k3);refine⟨L,vs,v3,rfl,rfl,eL3,Nat.lt_of_le_of_lt (m:=1000) ?_ (by decide),?_⟩
 ·have:(c0'::cs).length=done.length+(c1::todo').length:=by rw[ed,Zs]
  simp only[Zq]at this;omega
 ·have tu:=sH (o:=.lst (vs++[v3])) eL3;refine⟨todo'.length,Nat.lt_succ_self _,done++[c1],todo',vs++[v3],r1,rfl,aa,(ca3.app cv3).ts tu,by rw[ed,Zv];rfl,by simp,hg,fun b o e n=>?_,R3.upd n1 n2,rfl⟩;rw[ac]
  ·exact k3 _ _ (k2 _ _ (kp _ _ e n) n) n
  ·rintro rfl;rw[nH]at e;cases e
abbrev gN:Stmt:=top 33
abbrev rg:List Str:=["reader","depth","parts"]
theorem jh:FnScope rg ["reader","depth"] (ai gN):=⟨rfl,rfl,rfl,by decide +kernel,rfl,by decide +kernel,by decide +kernel⟩
theorem iU{k:Nat}{R:RX}{f C cQ:Addr}{fd:FuncData}(hk:3<=k)(F:Fun K "read_some" "read_some" gN f fd)(FX_read_each:FnX P w K mg base k "read_each" ["reader","depth"] (spX C cQ R))(c8:MFn P w K mg base 3 C "passes" ["self","word"] (spPasses C))(j3:Fn P w K mg base 1 "alone_or" ["word","parts"] spAlo1):FnOk P w K mg base (CXr P w) (k+1) f fd ["reader","depth"] (spX C cQ (XM true R)):=by
 refine F.okX jh (fun vs H Q E h=>?_) (fun cdv A outer s H vs Q E hr h=>?_)
 ·obtain⟨p,l,ws,us,d,res,rfl,_⟩:=h;rfl
 obtain⟨p,l,ws,us,d,res,rfl,R0,hm,q,qe⟩:=h;refine⟨_,(b_c (aq (i:=2) jh.nd (bA (q_a (fq FX_read_each (dD aZ) (hr.mono (by omega)) (q_a (q_v 0) (q_a (q_v 1) af))) af)))
   (b_c (yM aZ (mL (lG rfl rfl) (bO (dr c8 (hr.mono (by omega)) (q_v 0) (q_a aj af))) (b_1 (bJ (eM (q_v 2) (fq FX_read_each (dD jP) (hr.mono (by omega)) (q_a (q_v 0) (q_a (q_v 1) af))))))))
   (b_1 (ak (aG j3 (hr.mono (by omega)) (q_a aj (q_a (q_v 2) af))))))),?_⟩
 try rw[cxK]
 have npl:l≠p:=fun z=>by obtain⟨dx,i,e⟩:=R0.obj;have:=R0.lst;rw[z,e]at this;cases this
 obtain⟨r1,h1,hg⟩:∃r1,R d us r1/\((∃r,r1=.bad r/\res=.bad r)\/∃(c0:Cq) (r0:List Str) (cs:List Cq) (r:List Str),r1=.ok c0 r0/\cs.length<=800/\((XL (R d) (orW true) r0 cs r/\res=.ok (eG true c0 cs) r)\/(XB (R d) (orW true) r0 cs r/\res=.bad r))):=by
  cases hm with
  |ok c0 r0 cs r h0 h1 h2=>exact⟨_,h0,.inr ⟨c0,r0,cs,r,rfl,h2,.inl ⟨h1,rfl⟩⟩⟩
  |bad0 r h0=>exact⟨_,h0,.inl ⟨r,rfl,rfl⟩⟩
  |bad c0 r0 cs r h0 h1 h2=>exact⟨_,h0,.inr ⟨c0,r0,cs,r,rfl,h2,.inr ⟨h1,rfl⟩⟩⟩
 clear hm;refine⟨_,rfl,_,rfl,p,l,ws,us,d,r1,rfl,R0,h1,fun c0' r0' e1 v H1 k1 cv R1=>⟨sz rfl,fun L gL=>?_⟩,fun r e1 H1 dd k1 R1 hd=>?_⟩
 rotate_left
 ·rcases hg with⟨r',e2,e3⟩|⟨c0,r0,cs,r',e2,_⟩
  ·rw[e1]at e2;cases e2;exact qe _ e3 H1 dd k1 R1 hd
  ·rw[e1]at e2;cases e2
 rcases hg with⟨r',e2,e3⟩|⟨c0,r0,cs,r,e2,h3,hg⟩
 ·rw[e1]at e2;cases e2
 rw[e1]at e2;cases e2;have n1:L≠p:=fun z=>by obtain⟨dx,i,e⟩:=R1.obj;rw[z,e]at gL;cases gL
 have n2:L≠l:=fun z=>by rw[z,R1.lst]at gL;cases gL
 have nH:H L=none:=by
  cases e:H L with
  |none=>rfl
  |some o=>rw[k1 _ _ e n1]at gL;cases gL
 refine⟨fun m σ H'=>∃(done todo:List Cq) (vs:List V) (rr:List Str),σ=[some (.ref p),some (.int d),some (.ref L)]/\H' L=some (.lst vs)/\CqsAt H' vs done/\c0'::cs=done++todo/\done≠[]/\((XL (R d) (orW true) rr todo r/\res=.ok (eG true c0' cs) r)\/(XB (R d) (orW true) rr todo r/\res=.bad r))/\KpR p H H'/\RdL C H' p l ws rr/\m=todo.length,⟨cs.length,[c0'],cs,[v],r0',rfl,aa,.cons (cv.ts (fun a zs e=>ad gL _ _ _ e)) .nil,rfl,by simp,hg,k1.trans (KpR.same (ad gL _)),R1.same (ad gL _),rfl⟩,?_⟩;clear hg;rintro m σ H' ⟨done,todo,vs,rr,rfl,eL,ca,ed,nd,hl,kp,RR1,rfl⟩;obtain⟨dx,i,e0⟩:=RR1.obj;refine⟨_,rfl,p,dx,_,rfl,e0,aP l i (by decide +kernel) (by decide +kernel),?_⟩;have cs':(rr.headD ""≠orW true/\todo=[]/\res=.ok (eG true c0' cs) r/\rr=r)\/∃us1 r2,rr=orW true::us1/\R d us1 r2/\((∃rb,r2=.bad rb/\res=.bad rb)\/∃c1 todo' r1,r2=.ok c1 r1/\todo=c1::todo'/\((XL (R d) (orW true) r1 todo' r/\res=.ok (eG true c0' cs) r)\/(XB (R d) (orW true) r1 todo' r/\res=.bad r))):=by
  rcases hl with⟨hl,e⟩|⟨hl,e⟩
  ·cases hl with
   |nil h=>exact .inl ⟨h,rfl,e,rfl⟩
   |cons h hl=>exact .inr ⟨_,_,rfl,h,.inr ⟨_,_,_,rfl,rfl,.inl ⟨hl,e⟩⟩⟩
  ·cases hl with
   |here h=>exact .inr ⟨_,_,rfl,h,.inl ⟨_,rfl,e⟩⟩
   |cons h hl=>exact .inr ⟨_,_,rfl,h,.inr ⟨_,_,_,rfl,rfl,.inr ⟨hl,e⟩⟩⟩
 clear hl;rcases cs' with⟨h,rfl,er,rfl⟩|⟨us1,r2,rfl,h,hg⟩
 ·refine RR1.no (by decide +kernel) h ⟨_,rfl,aJ ?_⟩;rw[Z8]at ed;have lv:=ca.len;rw[<-ed]at ca;refine⟨_,rfl,_,L,vs,rfl,eL,fun z=>?_,?_,fun v' e1=>?_,fun n1 a b H2 s2 eb ea=>?_⟩
  ·rw[z]at lv;exact nd (List.length_eq_zero_iff.mp lv.symm)
  ·rw[lv,<-ed,Zq];omega
  ·subst e1;cases ca with
   |cons g t =>cases t;exact q _ _ er _ _ kp g RR1
  ·cases cs with
   |nil=>exact absurd (by rw[lv,<-ed];rfl) n1
   |cons c1 cs =>exact q _ _ er _ _ (kp.trans (KpR.same s2)) (.many (o:=true) ea eb (ca.ts fun a zs e=>s2 _ _ e)) (RR1.same s2)
 refine RR1.yes (by decide +kernel) fun H2 k2 R2=>⟨_,rfl,bG ⟨_,fun _ _ z=>z,?_⟩⟩
 have eL2:=k2 _ _ eL n1;refine⟨_,rfl,.inl ⟨rfl,_,SqL.of eL2⟩,_,rfl,_,rfl,p,l,ws,us1,d,r2,rfl,R2,h,fun c1 r1 e2 v3 H3 k3 cv3 R3=>?_,fun rb e2 H3 dd k3 R3 hd=>?_⟩
 rotate_left
 ·rcases hg with⟨rb',e4,e5⟩|⟨_,_,_,e4,_⟩
  ·rw[e2]at e4;cases e4;exact qe _ e5 H3 dd (kp.trans (k2.trans k3)) R3 hd
  ·rw[e2]at e4;cases e4
 rcases hg with⟨rb',e4,e5⟩|⟨c1',todo',r1',e4,rfl,hg⟩
 ·rw[e2]at e4;cases e4
 rw[e2]at e4;cases e4;have eL3:=k3 _ _ eL2 n1;have lv:=ca.len;have ca3:=(ca.ts (RR1.ts k2)).ts (R2.ts k3);refine⟨L,vs,v3,rfl,rfl,eL3,Nat.lt_of_le_of_lt (m:=1000) ?_ (by decide),?_⟩
 ·have:(c0'::cs).length=done.length+(c1::todo').length:=by rw[ed,Zs]
  simp only[Zq]at this;omega
 ·have tu:=sH (o:=.lst (vs++[v3])) eL3;refine⟨todo'.length,Nat.lt_succ_self _,done++[c1],todo',vs++[v3],r1,rfl,aa,(ca3.app cv3).ts tu,by rw[ed,Zv];rfl,by simp,hg,fun b o e n=>?_,R3.upd n1 n2,rfl⟩;rw[ac]
  ·exact k3 _ _ (k2 _ _ (kp _ _ e n) n) n
  ·rintro rfl;rw[nH]at e;cases e
theorem sQ{c:Cq}(h:AtOk c):c.ws=c.hd::(if c.kind="nothing" then[]else[c.arg]):=by cases h<;>first|rfl|(simp only[Cq.ws,Cq.hd,Cq.kind,Cq.arg];rfl)
theorem Cw{c:Cq}(h:AtOk c):PyProof.Rows.KTD.datumAt c.hd FT=some (tf c.kind):=by
 cases h with
 |w h =>simp only[W6,Ze,Zo,ZJ]at h;rcases h with rfl|rfl|rfl|rfl|rfl|rfl<;>rfl
 |num h=>rcases h with rfl|rfl<;>rfl
 |item=>rfl
 |says=>rfl
theorem kT{c:Cq}(h:AtOk c):c.hd≠"not"/\c.hd≠"("/\c.hd≠"or"/\c.hd≠"and":=by
 cases h with
 |w h =>
  have:∀s∈W6,s≠"not"/\s≠"("/\s≠"or"/\s≠"and":=by decide +kernel
  exact this _ h
 |num h =>
  rcases h with rfl|rfl
  ·show("due":Str)≠"not"/\("due":Str)≠"("/\("due":Str)≠"or"/\("due":Str)≠"and";decide +kernel
  ·show("depth":Str)≠"not"/\("depth":Str)≠"("/\("depth":Str)≠"or"/\("depth":Str)≠"and";decide +kernel
 |item=>show("beneath":Str)≠"not"/\("beneath":Str)≠"("/\("beneath":Str)≠"or"/\("beneath":Str)≠"and";decide +kernel
 |says=>show("says":Str)≠"not"/\("says":Str)≠"("/\("says":Str)≠"or"/\("says":Str)≠"and";decide +kernel
theorem Cv{H:Hp}{a:Addr}{v:V}{c:Cq}(ok:AtOk c)(e:H a=some (.tup [.str c.hd,v]))(h:ArgAt H v c):CqAt H (.ref a) c:=by
 cases h with
 |num=>exact .num e
 |item h=>exact .item e h
 |says=>exact .says e
theorem AJ{H:Hp}{a:Addr}{c:Cq}(ok:AtOk c)(n:c.kind="nothing")(e:H a=some (.tup [.str c.hd])):CqAt H (.ref a) c:=by
 cases ok with
 |w=>exact .w e
 |num=>exact absurd n (by show¬(("number":Str)="nothing");decide +kernel)
 |item=>exact absurd n (by show¬(("item":Str)="nothing");decide +kernel)
 |says=>exact absurd n (by show¬(("word":Str)="nothing");decide +kernel)
inductive spPlX(C cQ:Addr)(vs:List V)(H:Hp)(Q:VK)(E_:XK):Prop
 |mk (p l:Addr) (ws us:List Str) (res:Res) (h0:vs=[.ref p]) (h1:RdL C H p l ws us) (h2:XPl us res) (h3:∀c r,res=.ok c r->∀v H',KpR p H H'->CqAt H' v c->RdL C H' p l ws r->Q v H')
   (h4:∀r,res=.bad r->∀H' dd,KpR p H H'->RdL C H' p l ws r->H' dd=some (.xd [("at",.int ((ws.length:Int)-r.length))])->E_ (.ref cQ) (some dd) H'):spPlX C cQ vs H Q E_
theorem yX{c:Cq}(ok:AtOk c):Asc c.arg:=by
 cases ok with
 |w=>exact⟨by show(0:Nat)<=300;decide,by show("":Str).cps.all (·<128)=true;decide +kernel⟩
 |num h h0 h1=>exact⟨Zr h1.len (by decide),iG _⟩
 |@item x y h0 h1 h2 h3 =>refine⟨Zr (kh h2 h3) (by decide),?_⟩;show(eH x y).cps.all (·<128)=true;unfold eH;rw[<-Yq,aW,aW,List.all_append,List.all_append,Yq,Yq,Yq,iG,iG];decide +kernel
 |says h0 h1 h2 h3=>exact⟨Zr h1 (by decide),h3⟩
abbrev fW:Stmt:=top 37
abbrev pj:List Str:=["reader","word","kind","following"]
theorem dM:FnScope pj ["reader"] (ai fW):=⟨rfl,rfl,rfl,by decide +kernel,rfl,by decide +kernel,by decide +kernel⟩
theorem oj{f C cQ ff:Addr}{fd:FuncData}(F:Fun K "read_plain" "read_plain" fW f fd)(v5:Fn P w K mg base 3 "may_follow" ["kind","word"] spMayG)(l4:Fn P w K mg base 2 "read_following" ["kind","word"] spFollowing)(j7:MFn P w K mg base 2 C "here" ["self"] (spHere C))(j5:MFnX P w K mg base 3 C "go_on" ["self","good"] (spGoX C cQ))(u0:mg "FOLLOWING" = some (.ref ff))(T:Tab K ff FT):FnOk P w K mg base (CXr P w) 4 f fd ["reader"] (spPlX C cQ):=by
 refine F.okX dM (fun vs H Q E h=>?_) (fun cdv A outer s H vs Q E hr h=>?_)
 ·obtain⟨p,l,ws,us,res,rfl,_⟩:=h;rfl
 obtain⟨p,l,ws,us,res,rfl,R0,hx,q,qe⟩:=h;refine⟨_,(b_c (aq (i:=1) dM.nd (bE j7 (hr.mono (by decide)) (q_v 0)))
   (b_c (bJ (jA j5 (dD aZ) (hr.mono (by decide)) (q_v 0) (q_a (bo zE (q_v 1) (xT u0)) af)))
   (b_c (aq (i:=2) dM.nd (ar Dk (xT u0) (q_v 1)))
   (b_c (aC (au aK (q_v 2) aj) (b_1 (ak (cw (q_a (q_v 1) af)))) b_0)
   (b_c (aq (i:=3) dM.nd (bE j7 (hr.mono (by decide)) (q_v 0)))
   (b_c (bJ (jA j5 (dD aZ) (hr.mono (by decide)) (q_v 0) (q_a (aG v5 (hr.mono (by decide)) (q_a (q_v 2) (q_a (q_v 3) af))) af)))
   (b_1 (ak (cw (q_a (q_v 1) (q_a (aG l4 (hr.mono (by decide)) (q_a (q_v 2) (q_a (q_v 3) af))) af))))))))))),?_⟩
 try rw[cxK]
 obtain⟨dx,i,e0⟩:=R0.obj;refine⟨_,rfl,p,dx,_,rfl,e0,aP l i (by decide +kernel) (by decide +kernel),R0.here ?_⟩;refine⟨_,rfl,p,dx,_,rfl,e0,aP l i (by decide +kernel) (by decide +kernel),⟨_,rfl,ff,us.headD "",FT,rfl,rfl,T,?_⟩⟩;cases hx with
 |bad1 h =>rw[h];exact R0.goX (fun z=>by cases z) (fun z=>by cases z) fun _ H1 dd s1 R1 hd=>qe _ rfl H1 dd (KpR.same s1) R1 hd
 |bad2 hd k us' h h1 h2 h3 h4 =>subst h;have h1':PyProof.Rows.KTD.datumAt ((hd::us').headD "") FT=some (tf k):=h1;rw[h1'];refine R0.goX (fun _=>by simp) (fun _ x r H1 e k1 R1=>?_) (fun z=>by cases z);cases e;refine⟨_,rfl,ff,_,FT,_,rfl,rfl,T,h1,?_⟩;refine⟨_,rfl,rfl,_,rfl,aU (fun z=>h2 (by injection z)) ?_⟩;obtain⟨dx,i,e1⟩:=R1.obj;refine⟨_,rfl,p,dx,_,rfl,e1,aP l i (by decide +kernel) (by decide +kernel),R1.here ?_⟩;refine⟨_,rfl,p,dx,_,rfl,e1,aP l i (by decide +kernel) (by decide +kernel),⟨_,rfl,_,rfl,k,_,rfl,h3,fun H2 s2=>?_⟩⟩;rw[h4];exact(R1.same s2).goX (fun z=>by cases z) (fun z=>by cases z) fun _ H3 dd s3 R3 hd=>qe _ rfl H3 dd (k1.trans (KpR.same (s2.trans s3))) R3 hd
 |ok c r ok hu =>
  subst hu;have ft:=Cw ok;have hh:(c.ws++r).headD "" = c.hd:=by rw[sQ ok];rfl
  rw[sQ ok]at R0;rw[hh,ft];refine R0.goX (fun _=>by simp) (fun _ x r' H1 e k1 R1=>?_) (fun z=>by cases z);cases e;refine⟨_,rfl,ff,c.hd,FT,_,rfl,rfl,T,ft,?_⟩;refine⟨_,rfl,rfl,_,rfl,cX (fun n=>?_) (fun n=>?_)⟩
  ·have n':c.kind="nothing":=by injection n
   rw[EN n']at R1;refine⟨_,rfl,sz rfl,fun a ga=>?_⟩;have w1:=ad ga (.tup [.str c.hd]);exact q _ _ rfl _ _ (k1.trans (KpR.same w1)) (AJ ok n' aa) (R1.same w1)
  ·have n':c.kind≠"nothing":=fun z=>n (by rw[z]);rw[EM n']at R1;obtain⟨dx,i,e1⟩:=R1.obj;refine⟨_,rfl,p,dx,_,rfl,e1,aP l i (by decide +kernel) (by decide +kernel),R1.here ?_⟩;refine⟨_,rfl,p,dx,_,rfl,e1,aP l i (by decide +kernel) (by decide +kernel),⟨_,rfl,_,rfl,c.kind,c.arg,rfl,yX ok,fun H2 s2=>?_⟩⟩;rw[xB ok n'];have R2:RdL C H2 p l ws (c.arg::r):=R1.same s2;refine R2.goX (fun _=>by simp) (fun _ x r' H3 e k3 R3=>?_) (fun z=>by cases z);cases e;refine⟨_,rfl,_,rfl,_,rfl,c,rfl,ok,n',fun v H4 s4 av=>⟨sz rfl,fun a ga=>?_⟩⟩;have w1:=ad ga (.tup [.str c.hd,v]);refine q _ _ rfl _ _ (k1.trans ((KpR.same s2).trans (k3.trans (KpR.same (s4.trans w1))))) (Cv ok aa ?_) (R3.same (s4.trans w1));cases av with
   |num=>exact .num
   |item h=>exact .item (w1 _ _ h)
   |says=>exact .says
abbrev iq:Stmt:=top 36
abbrev sO:List Str:=["reader","depth","condition"]
theorem jR:FnScope sO ["reader","depth"] (ai iq):=⟨rfl,rfl,rfl,by decide +kernel,rfl,by decide +kernel,by decide +kernel⟩
theorem rE{k n:Nat}{f C cQ:Addr}{fd:FuncData}{t1:Tok}(hk:3<=k)(F:Fun K "read_one" "read_one" iq f fd)(FX_read_one:FnX P w K mg base k "read_one" ["reader","depth"] (spX C cQ (XO n)))(FX_read_some:FnX P w K mg base (k+2) "read_some" ["reader","depth"] (spX C cQ (XM true (XM false (XO n)))))(FX_read_plain:FnX P w K mg base 4 "read_plain" ["reader"] (spPlX C cQ))(c8:MFn P w K mg base 3 C "passes" ["self","word"] (spPasses C))(j7:MFn P w K mg base 2 C "here" ["self"] (spHere C))(j5:MFnX P w K mg base 3 C "go_on" ["self","good"] (spGoX C cQ))(u3:mg "MOST_DEEP" = some (.int 12 t1)):FnOk P w K mg base (CXr P w) (k+3) f fd ["reader","depth"] (spX C cQ (XO (n+1))):=by
 refine F.okX jR (fun vs H Q E h=>?_) (fun cdv A outer s H vs Q E hr h=>?_)
 ·obtain⟨p,l,ws,us,d,res,rfl,_⟩:=h;rfl
 obtain⟨p,l,ws,us,d,res,rfl,R0,h,q,qe⟩:=h;refine⟨_,(b_c (aC (t_w (dZ (au fN (q_v 1) (bS u3)) (eV (bO (dr c8 (hr.mono (by omega)) (q_v 0) (q_a aj af)))))) (b_1 (ak (cw (q_a aj (q_a (fq FX_read_one (dD aZ) (hr.mono (by omega)) (q_a (q_v 0) (q_a (aw bW (q_v 1) ag) af))) af))))) b_0)
   (b_c (aC (t_w (dZ (au fN (q_v 1) (bS u3)) (eV (bO (dr c8 (hr.mono (by omega)) (q_v 0) (q_a aj af)))))) (b_c (aq (i:=2) jR.nd (fq FX_read_some (dD aZ) (hr.mono (by omega)) (q_a (q_v 0) (q_a (aw bW (q_v 1) ag) af))))
   (b_c (bJ (jA j5 (dD aZ) (hr.mono (by omega)) (q_v 0) (q_a (bo aK (bE j7 (hr.mono (by omega)) (q_v 0)) aj) af)))
   (b_1 (ak (q_v 2))))) b_0)
   (b_1 (ak (fq FX_read_plain (dD aZ) (hr.mono (by omega)) (q_a (q_v 0) af)))))),?_⟩
 try rw[cxK]
 obtain⟨dx,i,e0⟩:=R0.obj;rcases h with⟨d12,us',r0,rfl,h,rfl⟩|⟨d12,us',r0,rfl,h,hc⟩|⟨hh,hx⟩
 ·refine⟨_,rfl,_,_,rfl,rfl,⟨_,rfl,aH d12 ⟨_,rfl,p,dx,_,rfl,e0,aP l i (by decide +kernel) (by decide +kernel),RdL.yes (t:="not") R0 (by decide +kernel) fun H1 k1 R1=>⟨_,rfl,bG ?_⟩⟩⟩⟩;refine⟨_,rfl,_,rfl,_,_,rfl,rfl,p,l,ws,us',d+1,r0,rfl,R1,h,fun c r e v H2 k2 cv R2=>⟨sz rfl,fun a ga=>?_⟩,fun r e H2 dd k2 R2 hd=>qe r (by rw[e];rfl) H2 dd (k1.trans k2) R2 hd⟩;have w1:=ad ga (.tup [.str "not",v]);exact q (.no c) r (by rw[e];rfl) _ _ (k1.trans (k2.trans (KpR.same w1))) (.no aa (cv.ts fun a zs e=>w1 _ _ e)) (R2.same w1)
 ·refine⟨_,rfl,_,_,rfl,rfl,⟨_,rfl,aH d12 ⟨_,rfl,p,dx,_,rfl,e0,aP l i (by decide +kernel) (by decide +kernel),RdL.no (t:="not") R0 (by decide +kernel) (by show¬(opn="not");decide +kernel) ⟨_,rfl,aJ ?_⟩⟩⟩⟩;refine⟨_,rfl,_,_,rfl,rfl,⟨_,rfl,aH d12 ⟨_,rfl,p,dx,_,rfl,e0,aP l i (by decide +kernel) (by decide +kernel),RdL.yes (t:="(") R0 (by decide +kernel) fun H1 k1 R1=>⟨_,rfl,bG ?_⟩⟩⟩⟩;refine⟨_,rfl,_,rfl,_,_,rfl,rfl,p,l,ws,us',d+1,r0,rfl,R1,h,fun c r e v H2 k2 cv R2=>?_,fun r e H2 dd k2 R2 hd=>?_⟩
  rotate_left
  ·subst e;cases hc;exact qe r rfl H2 dd (k1.trans k2) R2 hd
  subst e;obtain⟨dx,i,e2⟩:=R2.obj;refine⟨_,rfl,p,dx,_,rfl,e2,aP l i (by decide +kernel) (by decide +kernel),⟨_,rfl,p,dx,_,rfl,e2,aP l i (by decide +kernel) (by decide +kernel),R2.here ⟨rfl,?_⟩⟩⟩;cases hc with
  |ok _ r =>rw[decide_eq_true (show V.str ((cls::r).headD "")=V.str ")" from rfl)];refine R2.goX (fun _=>by simp) (fun _ x r' H3 e k3 R3=>?_) (fun z=>by cases z);cases e;exact⟨_,rfl,q _ _ rfl _ _ (k1.trans (k2.trans k3)) (cv.ts (R2.ts k3)) R3⟩
  |no _ _ hn =>rw[decide_eq_false (show¬V.str (r.headD "")=V.str ")" from fun z=>hn (by injection z))];exact R2.goX (fun z=>by cases z) (fun z=>by cases z) fun _ H3 dd s3 R3 hd=>qe _ rfl H3 dd (k1.trans (k2.trans (KpR.same s3))) R3 hd
 ·refine⟨_,rfl,_,_,rfl,rfl,⟨_,rfl,cX (fun d12=>?_) (fun d12=>?_)⟩⟩
  ·have hh:=hh d12;refine⟨_,rfl,p,dx,_,rfl,e0,aP l i (by decide +kernel) (by decide +kernel),RdL.no (t:="not") R0 (by decide +kernel) hh.1 ⟨_,rfl,aJ ?_⟩⟩;refine⟨_,rfl,_,_,rfl,rfl,⟨_,rfl,aH d12 ⟨_,rfl,p,dx,_,rfl,e0,aP l i (by decide +kernel) (by decide +kernel),RdL.no (t:="(") R0 (by decide +kernel) hh.2 ⟨_,rfl,aJ ?_⟩⟩⟩⟩;exact⟨_,rfl,p,l,ws,us,res,rfl,R0,hx,q,qe⟩
  ·refine aJ ⟨_,rfl,_,_,rfl,rfl,⟨_,rfl,aU d12 (aJ ?_)⟩⟩;exact⟨_,rfl,p,l,ws,us,res,rfl,R0,hx,q,qe⟩
def bC:List Str:=["place","text","size","depth","due"]
inductive QTl:List Str->Str->Bool->Prop
 |none:QTl [] "place" false
 |key {k:Str} (h:k∈bC):QTl ["by",k] k false
 |back {k:Str} (h:k∈bC):QTl ["by",k,"back"] k true
inductive QRes where
 |ok (c:Cq)(key:Str)(back:Bool)
 |bad (r:List Str)
inductive XQ(R:RX)(ws:List Str):QRes->Prop
 |bad0 (r:List Str) (h:R 0 ws (.bad r)):XQ R ws (.bad r)
 |ok (c:Cq) (r:List Str) (key:Str) (back:Bool) (h:R 0 ws (.ok c r)) (h1:QTl r key back):XQ R ws (.ok c key back)
 |more (c:Cq) (r:List Str) (h:R 0 ws (.ok c r)) (h1:r.headD ""≠"by") (h2:r≠[]):XQ R ws (.bad r)
 |key (c:Cq) (r:List Str) (h:R 0 ws (.ok c ("by"::r))) (h1:inV (.str (r.headD "")) (bC.map V.str)=false):XQ R ws (.bad r)
 |key2 (c:Cq) (k:Str) (r:List Str) (h:R 0 ws (.ok c ("by"::k::r))) (h0:k∈bC) (h1:r.headD ""≠"back") (h2:r≠[]):XQ R ws (.bad r)
 |back2 (c:Cq) (k:Str) (r:List Str) (h:R 0 ws (.ok c ("by"::k::"back"::r))) (h0:k∈bC) (h2:r≠[]):XQ R ws (.bad r)
inductive spQX(cQ:Addr)(R:RX)(vs:List V)(H:Hp)(Q:VK)(E_:XK):Prop
 |mk (ws:List Str) (res:QRes) (h0:vs=[.str (Str.join aI ws)]) (h1:ws≠[]) (h2:∀x∈ws,32∉x.cps.toList) (h3:(Str.join aI ws).length<=100000) (h4:ws.length<=100000) (h5:XQ R ws res)
   (h6:∀c key back,res=.ok c key back->∀a v H',Same H H'->H' a=some (.tup [v,.str key,.bl back])->CqAt H' v c->Q (.ref a) H')
   (h7:∀r,res=.bad r->∀H' dd,Same H H'->H' dd=some (.xd [("at",.int ((ws.length:Int)-r.length))])->E_ (.ref cQ) (some dd) H'):spQX cQ R vs H Q E_
theorem RdL.spot{C p l:Addr}{H:Hp}{ws us:List Str}(R:RdL C H p l ws us):∃dx i,H p=some (.ins C dx (fu l i))/\(i:Int)=(ws.length:Int)-us.length:=by obtain⟨pre,rfl,dx,h,_⟩:=R;refine⟨dx,_,h,?_⟩;rw[Zs];omega
theorem qc{k:Str}(h:k∈bC):inV (.str k) (bC.map V.str)=true:=by simp only[bC,Ze,Zo,ZJ]at h;rcases h with rfl|rfl|rfl|rfl|rfl<;>decide +kernel
abbrev dX:Stmt:=top 32
abbrev kO:List Str:=["text","reader","condition","key","back"]
theorem bz:FnScope kO ["text"] (ai dX):=⟨rfl,rfl,rfl,by decide +kernel,rfl,by decide +kernel,by decide +kernel⟩
theorem kD{R:RX}{f C cQ kk:Addr}{fd:FuncData}{bm:List Value}(F:Fun K "read_question" "read_question" dX f fd)(DL:MkFn P w K mg base 1 C "Reader" ["self","words"] (spRInit C))(T:Txt K C)(FX_read_some:FnX P w K mg base 44 "read_some" ["reader","depth"] (spX C cQ R))(c8:MFn P w K mg base 3 C "passes" ["self","word"] (spPasses C))(j7:MFn P w K mg base 2 C "here" ["self"] (spHere C))(j5:MFnX P w K mg base 3 C "go_on" ["self","good"] (spGoX C cQ))(j6:MFn P w K mg base 1 C "is_through" ["self"] (spThrough C))(Eg:mg "KEYS" = some (.ref kk))(hK:∀H,SqT K H kk (bC.map V.str))(j2:ExI P w K mg base 1 cQ bm ["self","at"] (ug cQ))(g0:mg "NoQuestion" = some (.ref cQ)):FnOk P w K mg base (CXr P w) 45 f fd ["text"] (spQX cQ R):=by
 refine F.okX bz (fun vs H Q E h=>?_) (fun cdv A outer s H vs Q E hr h=>?_)
 ·obtain⟨ws,res,rfl,_⟩:=h;rfl
 obtain⟨ws,res,rfl,ne,nb,l1,l2,h1,q,qe⟩:=h;refine⟨_,(b_c (aq (i:=1) bz.nd (qH DL (hr.mono (by decide)) (q_a (mJ (q_v 0) aj) af)))
   (b_c (aq (i:=2) bz.nd (fq FX_read_some (dD aZ) (hr.mono (by decide)) (q_a (q_v 1) (q_a ag af))))
   (b_c (aq (i:=3) bz.nd aj)
   (b_c (aq (i:=4) bz.nd cY)
   (b_c (aC (bO (dr c8 (hr.mono (by decide)) (q_v 1) (q_a aj af))) (b_c (aq (i:=3) bz.nd (bE j7 (hr.mono (by decide)) (q_v 1)))
   (b_c (bJ (jA j5 (dD aZ) (hr.mono (by decide)) (q_v 1) (q_a (bo (CU (K:=K) rfl) (q_v 3) (xT Eg)) af)))
   (b_1 (aq (i:=4) bz.nd (dr c8 (hr.mono (by decide)) (q_v 1) (q_a aj af)))))) b_0)
   (b_c (aC (eO (bO (bE j6 (hr.mono (by decide)) (q_v 1)))) (b_1 (qO aZ rfl j2 (hr.mono (by decide)) g0 (q_a (fm (q_v 1)) af))) b_0)
   (b_1 (ak (cw (q_a (q_v 2) (q_a (q_v 3) (q_a (q_v 4) af)))))))))))),?_⟩
 try rw[cxK]
 refine⟨_,rfl,rfl,_," ",rfl,rfl,rfl,l1,fun D gD=>?_⟩;rw[show Txt.split (Str.join aI ws) " " = ws from lT (c:=32) ne nb];have wD:=ad gD (.lst (ws.map V.str));have eD:upd H D (.lst (ws.map V.str)) D=some (.lst (ws.map V.str)):=aa;generalize upd H D (.lst (ws.map V.str))=H1 at wD eD ⊢;intro x dx gx gdx nx;have nDx:D≠x:=fun z=>by rw[z,gx]at eD;cases eD
 have nDdx:D≠dx:=fun z=>by rw[z,gdx]at eD;cases eD
 refine⟨x,dx,D,ws,rfl,aa,by rw[ac nDx,ac nDdx];exact eD,l2,fun H2 k2 R2=>⟨rfl,?_⟩⟩;have w2:Same H H2:=fun b o e=>by
  have e1:=wD _ _ e;have n1:b≠x:=fun z=>by rw[z,gx]at e1;cases e1
  have n2:b≠dx:=fun z=>by rw[z,gdx]at e1;cases e1
  exact k2 _ _ (by rw[ac n1,ac n2];exact e1) n1
 have R2:RdL C H2 x D ws ws:=⟨[],rfl,R2⟩
 have nHx:H x=none:=by
  cases e:H x with
  |none=>rfl
  |some o=>rw[wD _ _ e]at gx;cases gx
 have fs:∀{H3:Hp},KpR x H2 H3->Same H H3:=fun k b o e=>k _ _ (w2 _ _ e) fun z=>by rw[z,nHx]at e;cases e
 have fin:∀(r:List Str) (H5:Hp) (σ:St) (D':Ends),res=.bad r->r≠[]->KpR x H2 H5->RdL C H5 x D ws r->σ[1]?=some (some (.ref x))->yh (yj (lW (jF C "is_through" (spThrough C) [] E0 (tVar 1) dJ))) (sF (ug cQ) cQ E (cA (yg K (tVar 1) "spot") dJ)) uh D' σ H5:=by intro r H5 σ D' er nr k5 R5 hσ;obtain⟨dy,i,e5,ei⟩:=R5.spot;refine⟨_,hσ,x,dy,_,rfl,e5,aP D i (by decide +kernel) (by decide +kernel),R5.through ⟨_,rfl,?_⟩⟩;rw[show r.isEmpty=false by cases r with|nil=>exact absurd rfl nr|cons=>rfl];refine bG ⟨_,hσ,x,C,dy,_,_,rfl,e5,T.cl,T.nS,fD D i,?_⟩;refine⟨sz rfl,fun ea t hea ht nt=>⟨ea,t,_,rfl,aa,fun dd hdd=>⟨rfl,some dd,aa,?_⟩⟩⟩;obtain⟨a1,a2⟩:=pw hea hdd;exact qe r er _ dd ((fs k5).trans a1) (by rw[a2,ei])
 have r1:∃r1,R 0 ws r1/\(∀r,r1=.bad r->res=.bad r)/\∀c r,r1=.ok c r->(∃key back,QTl r key back/\res=.ok c key back)\/(r.headD ""≠"by"/\r≠[]/\res=.bad r)\/∃r':List Str,r=("by":Str)::r'/\((inV (.str (r'.headD "")) (bC.map V.str)=false/\res=.bad r')\/∃(k:Str) (r2:List Str),r'=k::r2/\k∈bC/\((r2.headD ""≠"back"/\r2≠[]/\res=.bad r2)\/∃r3:List Str,r2=("back":Str)::r3/\r3≠[]/\res=.bad r3)):=by
  cases h1 with
  |bad0 r h=>exact⟨_,h,fun _ e=>by cases e;rfl,fun _ _ e=>by cases e⟩
  |ok c r key back h h1=>exact⟨_,h,fun _ e=>(by cases e),fun _ _ e=>by cases e;exact .inl ⟨key,back,h1,rfl⟩⟩
  |more c r h h1 h2=>exact⟨_,h,fun _ e=>(by cases e),fun _ _ e=>by cases e;exact .inr (.inl ⟨h1,h2,rfl⟩)⟩
  |key c r h h1=>exact⟨_,h,fun _ e=>(by cases e),fun _ _ e=>by cases e;exact .inr (.inr ⟨r,rfl,.inl ⟨h1,rfl⟩⟩)⟩
  |key2 c k r h h0 h1 h2=>exact⟨_,h,fun _ e=>(by cases e),fun _ _ e=>by cases e;exact .inr (.inr ⟨_,rfl,.inr ⟨k,r,rfl,h0,.inl ⟨h1,h2,rfl⟩⟩⟩)⟩
  |back2 c k r h h0 h2=>exact⟨_,h,fun _ e=>(by cases e),fun _ _ e=>by cases e;exact .inr (.inr ⟨_,rfl,.inr ⟨k,_,rfl,h0,.inr ⟨r,rfl,h2,rfl⟩⟩⟩)⟩
 clear h1;obtain⟨r1,h1,hb,ho⟩:=r1;refine⟨_,rfl,x,D,ws,ws,0,r1,rfl,R2,h1,fun c r e1 v H3 k3 cv R3=>?_,fun r e1 H3 dd k3 R3 hd=>qe r (hb r e1) H3 dd (fs k3) hd⟩;have ho:=ho c r e1;clear hb h1 e1;obtain⟨dy,i,e3⟩:=R3.obj;rcases ho with⟨key,back,h2,er⟩|⟨hn,nr,er⟩|⟨r',rfl,ho⟩
 ·have q:=q c key back er;clear er qe fin;cases h2 with
  |none =>refine⟨_,rfl,x,dy,_,rfl,e3,aP D i (by decide +kernel) (by decide +kernel),RdL.no (t:="by") R3 (by decide +kernel) (by decide +kernel) ⟨_,rfl,aJ ?_⟩⟩;refine⟨_,rfl,x,dy,_,rfl,e3,aP D i (by decide +kernel) (by decide +kernel),R3.through ⟨_,rfl,aJ ?_⟩⟩;refine⟨_,rfl,_,rfl,_,rfl,sz rfl,fun a ga=>?_⟩;exact q a v _ ((fs k3).trans (ad ga _)) aa (cv.ts fun a zs e=>ad ga _ _ _ e)
  |key h =>refine⟨_,rfl,x,dy,_,rfl,e3,aP D i (by decide +kernel) (by decide +kernel),RdL.yes (t:="by") R3 (by decide +kernel) fun H4 k4 R4=>⟨_,rfl,bG ?_⟩⟩;obtain⟨dy,i,e4⟩:=R4.obj;refine⟨_,rfl,x,dy,_,rfl,e4,aP D i (by decide +kernel) (by decide +kernel),R4.here ?_⟩;refine⟨_,rfl,x,dy,_,rfl,e4,aP D i (by decide +kernel) (by decide +kernel),⟨_,rfl,kk,_,rfl,.inr (hK _),rfl,rfl,?_⟩⟩;rw[show(if false=true then !inV (.str (List.headD [key] "")) (bC.map V.str)else inV (.str (List.headD [key] "")) (bC.map V.str))=true from qc h];refine R4.goX (fun _=>by simp) (fun _ x' r' H5 e k5 R5=>?_) (fun z=>by cases z);cases e;obtain⟨dy,i,e5⟩:=R5.obj;refine⟨_,rfl,x,dy,_,rfl,e5,aP D i (by decide +kernel) (by decide +kernel),RdL.no (t:="back") R5 (by decide +kernel) (by decide +kernel) ?_⟩;refine⟨_,rfl,x,dy,_,rfl,e5,aP D i (by decide +kernel) (by decide +kernel),R5.through ⟨_,rfl,aJ ?_⟩⟩;refine⟨_,rfl,_,rfl,_,rfl,sz rfl,fun a ga=>?_⟩;exact q a v _ ((fs (k3.trans (k4.trans k5))).trans (ad ga _)) aa (((cv.ts (R3.ts k4)).ts (R4.ts k5)).ts fun a zs e=>ad ga _ _ _ e)
  |back h =>refine⟨_,rfl,x,dy,_,rfl,e3,aP D i (by decide +kernel) (by decide +kernel),RdL.yes (t:="by") R3 (by decide +kernel) fun H4 k4 R4=>⟨_,rfl,bG ?_⟩⟩;obtain⟨dy,i,e4⟩:=R4.obj;refine⟨_,rfl,x,dy,_,rfl,e4,aP D i (by decide +kernel) (by decide +kernel),R4.here ?_⟩;refine⟨_,rfl,x,dy,_,rfl,e4,aP D i (by decide +kernel) (by decide +kernel),⟨_,rfl,kk,_,rfl,.inr (hK _),rfl,rfl,?_⟩⟩;rw[show(if false=true then !inV (.str (List.headD [key,"back"] "")) (bC.map V.str)else inV (.str (List.headD [key,"back"] "")) (bC.map V.str))=true from qc h];refine R4.goX (fun _=>by simp) (fun _ x' r' H5 e k5 R5=>?_) (fun z=>by cases z);cases e;obtain⟨dy,i,e5⟩:=R5.obj;refine⟨_,rfl,x,dy,_,rfl,e5,aP D i (by decide +kernel) (by decide +kernel),RdL.yes (t:="back") R5 (by decide +kernel) fun H6 k6 R6=>?_⟩;obtain⟨dy,i,e6⟩:=R6.obj;refine⟨_,rfl,x,dy,_,rfl,e6,aP D i (by decide +kernel) (by decide +kernel),R6.through ⟨_,rfl,aJ ?_⟩⟩;refine⟨_,rfl,_,rfl,_,rfl,sz rfl,fun a ga=>?_⟩;exact q a v _ ((fs (k3.trans (k4.trans (k5.trans k6)))).trans (ad ga _)) aa ((((cv.ts (R3.ts k4)).ts (R4.ts k5)).ts (R5.ts k6)).ts fun a zs e=>ad ga _ _ _ e)
 ·refine⟨_,rfl,x,dy,_,rfl,e3,aP D i (by decide +kernel) (by decide +kernel),RdL.no (t:="by") R3 (by decide +kernel) hn ⟨_,rfl,aJ ?_⟩⟩;exact fin r H3 _ _ er nr k3 R3 rfl
 ·refine⟨_,rfl,x,dy,_,rfl,e3,aP D i (by decide +kernel) (by decide +kernel),RdL.yes (t:="by") R3 (by decide +kernel) fun H4 k4 R4=>⟨_,rfl,bG ?_⟩⟩;obtain⟨dy,i,e4⟩:=R4.obj;refine⟨_,rfl,x,dy,_,rfl,e4,aP D i (by decide +kernel) (by decide +kernel),R4.here ?_⟩;refine⟨_,rfl,x,dy,_,rfl,e4,aP D i (by decide +kernel) (by decide +kernel),⟨_,rfl,kk,_,rfl,.inr (hK _),rfl,rfl,?_⟩⟩;rcases ho with⟨hf,er⟩|⟨k,r2,rfl,hk,ho⟩
  ·rw[show(if false=true then !inV (.str (r'.headD "")) (bC.map V.str)else inV (.str (r'.headD "")) (bC.map V.str))=false from hf];exact R4.goX (fun z=>by cases z) (fun z=>by cases z) fun _ H5 dd s5 R5 hd=>qe r' er H5 dd (fs (k3.trans (k4.trans (KpR.same s5)))) hd
  ·rw[show(if false=true then !inV (.str ((k::r2).headD "")) (bC.map V.str)else inV (.str ((k::r2).headD "")) (bC.map V.str))=true from qc hk];refine R4.goX (fun _=>by simp) (fun _ x' r' H5 e k5 R5=>?_) (fun z=>by cases z);cases e;obtain⟨dy,i,e5⟩:=R5.obj;rcases ho with⟨hn,nr,er⟩|⟨r3,rfl,nr,er⟩
   ·refine⟨_,rfl,x,dy,_,rfl,e5,aP D i (by decide +kernel) (by decide +kernel),RdL.no (t:="back") R5 (by decide +kernel) hn ?_⟩;exact fin r2 H5 _ _ er nr (k3.trans (k4.trans k5)) R5 rfl
   ·refine⟨_,rfl,x,dy,_,rfl,e5,aP D i (by decide +kernel) (by decide +kernel),RdL.yes (t:="back") R5 (by decide +kernel) fun H6 k6 R6=>?_⟩;exact fin r3 H6 _ _ er nr (k3.trans (k4.trans (k5.trans k6))) R6 rfl
def Cq.mny:Cq->Bool
 |.many _ _=>true
 |_=>false
def Cq.isOr:Cq->Bool
 |.many o _=>o
 |_=>false
inductive GoodC:Nat->Nat->Cq->Prop
 |at{h d:Nat} {c:Cq} (ok:AtOk c):GoodC (h+1) d c
 |no {h d d':Nat} {c:Cq} (g:GoodC h d c) (hd:d+(if c.mny then 2 else 1)<=d'):GoodC (h+1) d' (.no c)
 |many {h d:Nat} {o:Bool} {cs:List Cq} (h1:2<=cs.length) (h2:cs.length<=90) (g:∀c∈cs,GoodC h (d-(if brk c (orW o)then 1 else 0)) c) (hd:∀c∈cs,brk c (orW o)=true->1<=d):GoodC (h+1) d (.many o cs)
theorem GoodC.mono{h d:Nat}{c:Cq}(g:GoodC h d c):∀{h' d':Nat},h<=h'->d<=d'->GoodC h' d' c:=by
 induction g with
 |@«at» h d c ok =>
  intro h' d' hh hd;obtain⟨h',rfl⟩:∃x,h'=x+1:=⟨h'-1,by omega⟩
  exact .at ok
 |@no h d e c g hd ih =>
  intro h' d' hh hd';obtain⟨h',rfl⟩:∃x,h'=x+1:=⟨h'-1,by omega⟩
  exact .no (ih (by omega) (Zb _)) (by omega)
 |@many h d o cs h1 h2 g hd ih =>
  intro h' d' hh hd';obtain⟨h',rfl⟩:∃x,h'=x+1:=⟨h'-1,by omega⟩
  exact .many h1 h2 (fun c hc=>ih c hc (by omega) (by split<;>omega)) (fun c hc z=>Zr (hd c hc z) hd')
theorem GoodC.hds{h d:Nat}{c:Cq}(g:GoodC h d c):decide (c.hd="or")=c.isOr/\decide (c.hd="and")=(c.mny&&!c.isOr)/\(c.mny=false->c.isOr=false):=by
 cases g with
 | «at» ok =>
  have a:=kT ok;have b:c.isOr=false/\c.mny=false:=by cases ok<;>exact⟨rfl,rfl⟩
  rw[b.1,b.2,decide_eq_false a.2.2.1,decide_eq_false a.2.2.2];exact⟨rfl,rfl,fun _=>rfl⟩
 |no g hd =>
  refine⟨decide_eq_false ?_,decide_eq_false ?_,fun _=>rfl⟩
  ·show¬(("not":Str)="or");decide +kernel
  ·show¬(("not":Str)="and");decide +kernel
 |@many h d o cs =>show decide (orW o="or")=o/\decide (orW o="and")=!o/\_;cases o<;>refine⟨by decide +kernel,by decide +kernel,fun z=>by cases z⟩
theorem GoodC.brkA{h d:Nat}{c:Cq}(g:GoodC h d c){t:Str}(n:t≠"or"):brk c t=c.mny:=by
 obtain⟨a,b,e⟩:=g.hds;unfold brk;rw[a,b,decide_eq_false n];cases c with
 |many o=>cases o<;>rfl
 |_=>rfl
theorem GoodC.brkO{h d:Nat}{c:Cq}(g:GoodC h d c):brk c "or" = c.isOr:=by obtain⟨a,b,e⟩:=g.hds;unfold brk;rw[a,b,decide_eq_true rfl];cases c.isOr<;>cases c.mny<;>rfl
theorem pN{R:List Str->Res->Prop}{o:Bool}{r:List Str}(hr:r.headD ""≠orW o):∀(cs:List Cq) (c:Cq),(∀x∈c::cs,∀r',(r'=r\/∃z,r'=orW o::z)->R (fH (brk x (orW o)) x.ws++r') (.ok x r')) ->
  ∃r0,R (Cq.wsL o (c::cs)++r) (.ok c r0)/\XL R (orW o) r0 cs r
 | [],c,h=>⟨r,h c ZA r (.inl rfl),.nil hr⟩
 |d::cs,c,h=>by obtain⟨r1,a,b⟩:=pN hr cs d fun x hx=>h x (Zu _ hx);refine⟨orW o::(Cq.wsL o (d::cs)++r),?_,.cons a b⟩;have:=h c ZA (orW o::(Cq.wsL o (d::cs)++r)) (.inr ⟨_,rfl⟩);rw[Cq.wsL,Zv];exact this
theorem uI{R:List Str->Res->Prop}{o:Bool}{us r:List Str}(hb:R us (.bad r)):∀(cs:List Cq) (c:Cq),(∀x∈c::cs,∀z,R (fH (brk x (orW o)) x.ws++orW o::z) (.ok x (orW o::z))) ->
  ∃r0,R (Cq.wsL o (c::cs)++orW o::us) (.ok c r0)/\XB R (orW o) r0 cs r
 | [],c,h=>⟨orW o::us,h c ZA us,.here hb⟩
 |d::cs,c,h=>by obtain⟨r1,a,b⟩:=uI hb cs d fun x hx=>h x (Zu _ hx);refine⟨orW o::(Cq.wsL o (d::cs)++orW o::us),?_,.cons a b⟩;have:=h c ZA (Cq.wsL o (d::cs)++orW o::us);rw[Cq.wsL,Zv];exact this
theorem wM{o:Bool}{c:Cq}{cs:List Cq}(h:2<=(c::cs).length):eG o c cs=.many o (c::cs):=by
 cases cs with
 |nil=>simp at h
 |cons=>rfl
theorem XM1{o:Bool}{R:RX}{d:Int}{us:List Str}{c:Cq}{r:List Str}(h:R d us (.ok c r))(hr:r.headD ""≠orW o):XM o R d us (.ok c r):=.ok c r [] r h (.nil hr) (by simp)
theorem AH{o:Bool}{R:RX}{d:Int}{us:List Str}{c:Cq}{cs:List Cq}{r r0:List Str}(h:R d us (.ok c r0))(hl:XL (R d) (orW o) r0 cs r)(h1:2<=(c::cs).length)(h2:(c::cs).length<=90):XM o R d us (.ok (.many o (c::cs)) r):=by have:=XM.ok (o:=o) c r0 cs r h hl (by simp at h2;omega);rw[wM h1]at this;exact this
theorem fP:∀(h d:Nat) (c:Cq),GoodC h d c ->
  (∀(n:Nat) (D:Int) (r:List Str),(13:Int)<=n+D->D+d+(if c.mny then 1 else 0)<=12->XO n D (fH c.mny c.ws++r) (.ok c r)) /\
  (c.isOr=false->∀(n:Nat) (D:Int) (r:List Str),(13:Int)<=n+D->D+d<=12->r.headD ""≠"and"->XM false (XO n) D (c.ws++r) (.ok c r)) /\
  (∀(n:Nat) (D:Int) (r:List Str),(13:Int)<=n+D->D+d<=12->r.headD ""≠"and"->r.headD ""≠"or"->XM true (XM false (XO n)) D (c.ws++r) (.ok c r))
 |0,d,c,g=>by cases g
 |h+1,d,c,g=>by
  have E:c.isOr=false->∀(n:Nat) (D:Int) (r:List Str),(13:Int)<=n+D->D+d<=12->r.headD ""≠"and"->(c.mny=false->XO n D (c.ws++r) (.ok c r))->XM false (XO n) D (c.ws++r) (.ok c r):=fun no n D r hn hD hr hu=>by
   cases hm:c.mny with
   |false=>exact XM1 (o:=false) (hu hm) hr
   |true =>
    cases g with
    | «at» ok=>cases ok<;>cases hm
    |no=>cases hm
    |@many _ _ o cs h1 h2 g hd =>
     have no:o=false:=no;subst no;cases cs with
     |nil=>simp at h1
     |cons c1 cs =>
      obtain⟨r0,a,b⟩:=pN (R:=XO n D) (o:=false) (r:=r) hr cs c1 fun x hx r' hr'=>by have gx:=g x hx;have hb:=gx.brkA (t:=orW false) (by decide +kernel);have dx:=hd x hx;have:=(fP h _ x gx).1 n D r' hn (by rw[hb]at dx ⊢;split<;>(rename_i z;first|(have:=dx z;omega)|omega));rw[hb];exact this
      exact AH a b h1 h2
  have S:∀(n:Nat) (D:Int) (r:List Str),(13:Int)<=n+D->D+d<=12->r.headD ""≠"and"->r.headD ""≠"or"->(c.isOr=false->XM false (XO n) D (c.ws++r) (.ok c r))->XM true (XM false (XO n)) D (c.ws++r) (.ok c r):=fun n D r hn hD hr hr2 hE=>by
   cases ho:c.isOr with
   |false=>exact XM1 (o:=true) (hE ho) hr2
   |true =>
    cases g with
    | «at» ok=>cases ok<;>cases ho
    |no=>cases ho
    |@many _ _ o cs h1 h2 g hd =>
     have ho:o=true:=ho;subst ho;cases cs with
     |nil=>simp at h1
     |cons c1 cs =>
      obtain⟨r0,a,b⟩:=pN (R:=XM false (XO n) D) (o:=true) (r:=r) hr2 cs c1 fun x hx r' hr'=>by
       have gx:=g x hx;have hb:brk x (orW true)=x.isOr:=gx.brkO;have dx:=hd x hx;have hra:r'.headD ""≠"and":=by
        rcases hr' with rfl|⟨z,rfl⟩
        ·exact hr
        ·show¬(orW true="and");decide +kernel
       obtain⟨u,e,_⟩:=fP h _ x gx;rw[hb]at dx u e ⊢;cases hx:x.isOr with
       |false =>rw[hx]at u e;exact e rfl n D r' hn (by simp;omega) hra
       |true =>
        have hm:x.mny=true:=by
         cases hq:x.mny with
         |true=>rfl
         |false=>rw[gx.hds.2.2 hq]at hx;cases hx
        rw[hx]at u;rw[hm]at u;have:=dx hx;exact XM1 (o:=false) (u n D r' hn (by simp;omega)) hra
      exact AH a b h1 h2
  have U:∀(n:Nat) (D:Int) (r:List Str),(13:Int)<=n+D->D+d+(if c.mny then 1 else 0)<=12->c.mny=false->XO n D (c.ws++r) (.ok c r):=fun n D r hn hD hm=>by
   rw[hm]at hD;simp at hD;obtain⟨n,rfl⟩:∃x,n=x+1:=⟨n-1,by omega⟩
   have hn':(13:Int)<=n+(D+1):=by omega
   cases g with
   | «at» ok =>
    have hh:(c.ws++r).headD "" = c.hd:=by rw[sQ ok];rfl
    exact .inr (.inr ⟨fun _=>by rw[hh];exact⟨(kT ok).1,(kT ok).2.1⟩,.ok c r ok rfl⟩)
   |@no _ e _ c' g he =>have hb:brk c' gG=c'.mny:=g.brkA (by decide +kernel);refine .inl ⟨by split at he<;>omega,fH (brk c' gG) c'.ws++r,.ok c' r,rfl,?_,rfl⟩;rw[hb];exact(fP h _ c' g).1 n (D+1) r hn' (by split at he<;>simp_all<;>omega)
   |many=>cases hm
  refine⟨fun n D r hn hD=>?_,fun no n D r hn hD hr=>E no n D r hn hD hr fun hm=>U n D r hn (by rw[hm];simpa using hD) hm,fun n D r hn hD hr hr2=>S n D r hn hD hr hr2 fun no=>E no n D r hn hD hr fun hm=>U n D r hn (by rw[hm];simpa using hD) hm⟩;cases hm:c.mny with
  |false=>exact U n D r hn hD hm
  |true =>
   rw[hm]at hD;simp at hD;obtain⟨n,rfl⟩:∃x,n=x+1:=⟨n-1,by omega⟩
   have nc:∀t:Str,t="and"\/t="or"->(cls::r).headD ""≠t:=by
    rintro t (rfl|rfl)
    ·show¬(cls="and");decide +kernel
    ·show¬(cls="or");decide +kernel
   refine .inr (.inl ⟨by omega,c.ws++cls::r,.ok c (cls::r),?_,S n (D+1) (cls::r) (by omega) (by omega) (nc _ (.inl rfl)) (nc _ (.inr rfl)) fun no=>E no n (D+1) (cls::r) (by omega) (by omega) (nc _ (.inl rfl)) fun hm'=>(by rw[hm]at hm';cases hm'),.ok c r⟩);show(opn::(c.ws++[cls]))++r=opn::(c.ws++cls::r);rw[List.cons_append,Zv];rfl
abbrev XS:RX:=XM true (XM false (XO 13))
theorem BA{h d:Nat}{c:Cq}{us r:List Str}(g:GoodC h d c)(hd:d<=12)(hb:XM false (XO 13) 0 us (.bad r)):XS 0 (c.ws++("or":Str)::us) (.bad r):=by
 have one:∀z,c.isOr=false->XM false (XO 13) 0 (c.ws++orW true::z) (.ok c (orW true::z)):=fun z no=>(fP h d c g).2.1 no 13 0 _ (by decide) (by omega) (by show¬(orW true="and");decide +kernel);cases ho:c.isOr with
 |false=>exact .bad c _ [] r (one us ho) (.here hb) (by simp)
 |true =>
  cases g with
  | «at» ok=>cases ok<;>cases ho
  |no=>cases ho
  |@many h _ o cs h1 h2 g hdd =>
   have ho:o=true:=ho;subst ho;cases cs with
   |nil=>simp at h1
   |cons c1 cs =>
    rw[Cq.ws];obtain⟨r0,a,b⟩:=uI (R:=XM false (XO 13) 0) (o:=true) hb cs c1 fun x hx z=>by
     have gx:=g x hx;have hbx:brk x (orW true)=x.isOr:=gx.brkO;have dx:=hdd x hx;have hra:(orW true::z).headD ""≠"and":=by show¬(orW true="and");decide +kernel
     rw[hbx]at dx gx ⊢;obtain⟨u,e1,_⟩:=fP h _ x gx;cases hx:x.isOr with
     |false =>rw[hx]at e1;exact e1 rfl 13 0 _ (by decide) (by simp;omega) hra
     |true =>
      have hm:x.mny=true:=by
       cases hq:x.mny with
       |true=>rfl
       |false=>rw[gx.hds.2.2 hq]at hx;cases hx
      have:=dx hx;rw[hx,hm]at u;exact XM1 (o:=false) (u 13 0 _ (by decide) (by simp;omega)) hra
    exact .bad c1 r0 cs r a b (by simp at h2;omega)
def Pt(ds:Nat->Nat):Nat->List Nat
 |0=>[0]
 |k+1=>(Pt ds k).take (ds (k+1))++[k+1]
def oX(ds:Nat->Nat)(n:Nat):Prop:=ds 0=0/\∀k,k+1<n->ds (k+1)<=ds k+1
theorem qF{ds:Nat->Nat}{n:Nat}(g:oX ds n):∀k,k<n->(Pt ds k).length=ds k+1
 |0,_=>by rw[g.1];rfl
 |k+1,h=>by have ih:=qF g k (by omega);have:=g.2 k h;rw[Pt,Zs,Z2,ih,ZC];omega
theorem Am{ds:Nat->Nat}{n:Nat}(g:oX ds n){k:Nat}(h:k+1<n):(Pt ds (k+1)).take (ds (k+1))=(Pt ds k).take (ds (k+1)):=by have ih:=qF g k (by omega);have:=g.2 k h;rw[Pt,List.take_append_of_le_length (by rw[Z2];omega),List.take_take,Nat.min_self]
def under(ds:Nat->Nat)(tops:Nat->Bool)(k:Nat):Bool:=((Pt ds k).take (ds k)).any tops
def gR(ds:Nat->Nat)(tops:Nat->Bool)(k:Nat):Option Nat:=(Pt ds k).findIdx? tops
theorem ng{p:Nat->Bool}:∀(l:List Nat) (n:Nat),(l.take n).findIdx? p=match l.findIdx? p with
  |some a=>if a<n then some a else none
  |none=>none
 | [],n=>by simp
 |x::l,0=>by
  rw[List.take_zero,List.findIdx?_nil];cases List.findIdx? p (x::l)with
  |none=>rfl
  |some a=>simp
 |x::l,n+1=>by
  rw[List.take_succ_cons,List.findIdx?_cons,List.findIdx?_cons,ng l n];cases p x with
  |true=>simp
  |false =>
   cases List.findIdx? p l with
   |none=>simp
   |some a =>
    by_cases c:a<n
    ·simp[c]
    ·simp[c]
theorem find_some{p:Nat->Bool}(l:List Nat):(l.findIdx? p).isSome=l.any p:=by
 induction l with
 |nil=>rfl
 |cons x l ih =>
  rw[List.findIdx?_cons,List.any_cons];cases p x with
  |true=>rfl
  |false=>simpa using ih
def dC(ds:Nat->Nat)(tops:Nat->Bool):Nat->Option Nat
 |0=>none
 |k+1=>match gR ds tops k with
  |some a=>if a<ds (k+1)then some a else none
  |none=>none
theorem zq{ds:Nat->Nat}{n:Nat}(g:oX ds n){tops:Nat->Bool}{k:Nat}(h:k<n):(dC ds tops k).isSome=under ds tops k/\gR ds tops k=(if tops k=true/\dC ds tops k=none then some (ds k)else dC ds tops k):=by
 cases k with
 |zero =>
  refine⟨by unfold under dC;rw[g.1];rfl,?_⟩;unfold gR dC;rw[Pt,g.1];cases hT:tops 0 with
  |true=>simp[hT]
  |false=>simp[hT]
 |succ k =>
  have e:dC ds tops (k+1)=((Pt ds k).take (ds (k+1))).findIdx? tops:=by rw[ng];rfl
  refine⟨by rw[e,find_some];unfold under;rw[Am g h],?_⟩;have l:=qF g k (by omega);have:=g.2 k h;rw[e];unfold gR;rw[Pt,List.findIdx?_append];cases hf:((Pt ds k).take (ds (k+1))).findIdx? tops with
  |some a=>simp
  |none =>
   cases hT:tops (k+1)with
   |true=>simp[hT,l];omega
   |false=>simp[hT]
structure Rw where
 d:Nat
 h:Int
 n:Int
 t:Str
 b:Bool
 w:Option Int
 f:Bool
 ok:PyData.strOk t=true
 deriving DecidableEq
def whV:Option Int->V
 |none=>.non
 |some i=>.int i
def kE:Option Nat->V
 |none=>.non
 |some i=>.int (i:Int)
theorem xI(o:Option Nat):(!decide (kE o=V.non))=o.isSome:=by
 cases o with
 |none=>rfl
 |some i=>rfl
def RR(H:Hp)(a:Addr)(r:Rw):Prop:=∃p,H a=some (.tup [.int (r.d:Int),.ref p,.str r.t,.bl r.b,whV r.w,.bl r.f])/\H p=some (.tup ([r.h,r.n].map V.int))/\PyData.strOk r.t=true
abbrev LT:=List (Addr×Rw)
def am{α:Type}(L:List (Addr×α)):List V:=L.map fun x=>V.ref x.1
def vals{α:Type}(L:List (Addr×α)):List α:=L.map Prod.snd
theorem ah{α:Type}(L:List (Addr×α)):(am L).length=L.length:=Zi ..
theorem aT{α:Type}(L:List (Addr×α)):(vals L).length=L.length:=Zi ..
def R0:Rw:=⟨0,0,0,"",false,none,false,by decide +kernel⟩
def aX(L:LT)(k:Nat):Rw:=((L[k]?).getD (0,R0)).2
def bK(L:LT)(k:Nat):Addr:=((L[k]?).getD (0,R0)).1
def dep(L:LT)(k:Nat):Nat:=(aX L k).d
def LR(H:Hp)(l:Addr)(L:LT):Prop:=H l=some (.lst (am L))/\∀x∈L,RR H x.1 x.2
theorem Az{H:Hp}{p a:Addr}{xs ys zs:List V}(hp:H p=some (.lst xs))(ha:H a=some (.tup zs)):upd H p (.lst ys) a=some (.tup zs):=by rw[ac (fun z=>by rw[z,hp]at ha;cases ha)];exact ha
def TS(H H':Hp):Prop:=∀a zs,H a=some (.tup zs)->H' a=some (.tup zs)
theorem Same.ts{H H':Hp}(e:Same H H'):TS H H':=fun a zs h=>e a _ h
theorem dA{H:Hp}{p:Addr}{xs ys:List V}(hp:H p=some (.lst xs)):TS H (upd H p (.lst ys)):=fun a zs h=>Az hp h
theorem RR.ts{H H':Hp}{a:Addr}{r:Rw}(x:RR H a r)(e:TS H H'):RR H' a r:=by obtain⟨p,h1,h2,h3⟩:=x;exact⟨p,e _ _ h1,e _ _ h2,h3⟩
theorem LR.same{H H':Hp}{l:Addr}{L:LT}(x:LR H l L)(e:Same H H'):LR H' l L:=⟨e _ _ x.1,fun y hy=>(x.2 y hy).ts (Same.ts e)⟩
theorem LR.at{H:Hp}{l:Addr}{L:LT}(x:LR H l L){k:Nat}(h:k<L.length):RR H (bK L k) (aX L k):=by unfold bK aX;rw[Za h];exact x.2 _ (ZE h)
theorem rL{L:LT}{k:Nat}(h:k<L.length):atI (am L) (k:Int)=some (.ref (bK L k)):=cT (by unfold am bK;rw[Zm,Za h];rfl)
theorem cg{L:LT}{k:Nat}{x:V}(h:(am L)[k]?=some x):k<L.length/\x=.ref (bK L k):=by
 have hk:k<L.length:=by have:=(Zk.mp h).1;rw[ah]at this;exact this
 refine⟨hk,?_⟩;unfold am at h;rw[Zm,Za hk]at h;unfold bK;rw[Za hk];exact(Zw h).symm
inductive Cd where
 |all|done|folded|free|leaf|seen
 |due (i:Int)
 |depth (i:Int)
 |beneath (h n:Int)
 |says (s:Str)
def gC:Cd->Str
 |.all=>"all" |.done=>"done" |.folded=>"folded" |.free=>"free" |.leaf=>"leaf" |.seen=>"seen"
 |.due _=>"due" |.depth _=>"depth" |.beneath _ _=>"beneath" |.says _=>"says"
def CR(H:Hp)(a:Addr):Cd->Prop
 |.due i=>H a=some (.tup [.str "due",.int i])
 |.depth i=>H a=some (.tup [.str "depth",.int i])
 |.beneath h n=>∃p,H a=some (.tup [.str "beneath",.ref p])/\H p=some (.tup ([h,n].map V.int))
 |.says s=>H a=some (.tup [.str "says",.str s])
 |c=>H a=some (.tup [.str (gC c)])
theorem CR.ts{H H':Hp}{a:Addr}{c:Cd}(x:CR H a c)(e:TS H H'):CR H' a c:=by
 cases c with
 |beneath h n =>obtain⟨p,h1,h2⟩:=x;exact⟨p,e _ _ h1,e _ _ h2⟩
 |_=>exact e _ _ x
theorem CR.head{H:Hp}{a:Addr}{c:Cd}(x:CR H a c):∃r,H a=some (.tup (.str (gC c)::r)):=by
 cases c with
 |beneath h n =>obtain⟨p,h1,h2⟩:=x;exact⟨_,h1⟩
 |_=>exact⟨_,x⟩
def occ(s t:Str):Bool:=!(Builtin.Str.occurrences t s 0 t.length 1).isEmpty
def pz(c:Cd)(r:Rw):Bool:=match c with
 |.done=>r.b
 |.folded=>r.f
 |.free=>decide (whV r.w=V.non)
 |.due i=>decide (whV r.w=V.int i)
 |.depth i=>decide ((r.d:Int)<=i)
 |.says s=>occ s r.t
 |_=>true
def fz:Cd->Bool
 |.leaf=>false|.seen=>false|.beneath _ _=>false
 |_=>true
def nmB(L:LT)(h n:Int)(k:Nat):Bool:=decide ([(aX L k).h,(aX L k).n]=[h,n])
def jv(L:LT)(k:Nat):Bool:=decide (k+1=L.length\/dep L (k+1)<=dep L k)
def iH(L:LT)(c:Cd)(k:Nat):Bool:=match c with
 |.leaf=>jv L k
 |.seen=>!under (dep L) (fun j=>(aX L j).f) k
 |.beneath h n=>under (dep L) (nmB L h n) k
 |c=>pz c (aX L k)
theorem iI{L:LT}{c:Cd}{k:Nat}(h:fz c=true):iH L c k=pz c (aX L k):=by cases c<;>first|rfl|cases h
theorem jX{c:Cd}(h:fz c=true):V.str (gC c)≠V.str "or"/\V.str (gC c)≠V.str "and"/\V.str (gC c)≠V.str "not"/\V.str (gC c)≠V.str "leaf"/\V.str (gC c)≠V.str "beneath"/\V.str (gC c)≠V.str "seen":=by
 cases c with
 |leaf=>cases h
 |seen=>cases h
 |beneath h' n=>cases h
 |all=>exact(by decide +kernel:V.str "all"≠V.str "or"/\V.str "all"≠V.str "and"/\V.str "all"≠V.str "not"/\V.str "all"≠V.str "leaf"/\V.str "all"≠V.str "beneath"/\V.str "all"≠V.str "seen")
 |done=>exact(by decide +kernel:V.str "done"≠V.str "or"/\V.str "done"≠V.str "and"/\V.str "done"≠V.str "not"/\V.str "done"≠V.str "leaf"/\V.str "done"≠V.str "beneath"/\V.str "done"≠V.str "seen")
 |folded=>exact(by decide +kernel:V.str "folded"≠V.str "or"/\V.str "folded"≠V.str "and"/\V.str "folded"≠V.str "not"/\V.str "folded"≠V.str "leaf"/\V.str "folded"≠V.str "beneath"/\V.str "folded"≠V.str "seen")
 |free=>exact(by decide +kernel:V.str "free"≠V.str "or"/\V.str "free"≠V.str "and"/\V.str "free"≠V.str "not"/\V.str "free"≠V.str "leaf"/\V.str "free"≠V.str "beneath"/\V.str "free"≠V.str "seen")
 |due i=>exact(by decide +kernel:V.str "due"≠V.str "or"/\V.str "due"≠V.str "and"/\V.str "due"≠V.str "not"/\V.str "due"≠V.str "leaf"/\V.str "due"≠V.str "beneath"/\V.str "due"≠V.str "seen")
 |depth i=>exact(by decide +kernel:V.str "depth"≠V.str "or"/\V.str "depth"≠V.str "and"/\V.str "depth"≠V.str "not"/\V.str "depth"≠V.str "leaf"/\V.str "depth"≠V.str "beneath"/\V.str "depth"≠V.str "seen")
 |says s=>exact(by decide +kernel:V.str "says"≠V.str "or"/\V.str "says"≠V.str "and"/\V.str "says"≠V.str "not"/\V.str "says"≠V.str "leaf"/\V.str "says"≠V.str "beneath"/\V.str "says"≠V.str "seen")
def whD:Option Int->PyData
 |none=>.none
 |some i=>.int i
def rwD(r:Rw):PyData:=.tuple [.int (r.d:Int),.tuple [.int r.h,.int r.n],.str r.t,.bool r.b,whD r.w,.bool r.f]
theorem Cr{H:Hp}(w:Option Int):Dt H (whD w) (whV w):=by
 cases w with
 |none=>simp only[whD,whV,Dt]
 |some i=>simp only[whD,whV,Dt]
theorem RR.dt{H:Hp}{a:Addr}{r:Rw}(x:RR H a r):Dt H (rwD r) (.ref a):=by obtain⟨p,h1,h2,_⟩:=x;have dw:=Cr (H:=H) r.w;unfold rwD;simp only[Dt,DtAll];exact⟨a,_,rfl,.inl h1,_,_,rfl,rfl,_,_,rfl,⟨p,_,rfl,.inl h2,_,_,rfl,rfl,_,_,rfl,rfl,rfl⟩,_,_,rfl,rfl,_,_,rfl,rfl,_,_,rfl,dw,_,_,rfl,rfl,rfl⟩
theorem rS{H:Hp}:∀{L:LT},(∀x∈L,RR H x.1 x.2)->DtAll H ((vals L).map rwD) (am L)
 | [],_=>by simp[DtAll,vals,am]
 |x::L,h=>by show DtAll H (rwD x.2::(vals L).map rwD) (V.ref x.1::am L);simp only[DtAll];exact⟨_,_,rfl,(h x (by simp)).dt,rS fun y hy=>h y (by simp[hy])⟩
theorem LR.dt{H:Hp}{l:Addr}{L:LT}(x:LR H l L):Dt H (.list ((vals L).map rwD)) (.ref l):=by simp only[Dt];exact⟨l,_,rfl,.inl x.1,rS x.2⟩
theorem vn{r:Rw}(h:PyData.strOk r.t=true):(rwD r).canLay0=true/\(rwD r).depth=2:=by
 cases e:r.w with
 |none=>exact⟨by simp[rwD,whD,e,PyData.canLay0,PyData.canLayAll0,h],by simp[rwD,whD,e,PyData.depth,PyData.depthAll]⟩
 |some i=>exact⟨by simp[rwD,whD,e,PyData.canLay0,PyData.canLayAll0,h],by simp[rwD,whD,e,PyData.depth,PyData.depthAll]⟩
theorem mw:∀{L:List Rw},(∀r∈L,PyData.strOk r.t=true)->PyData.canLayAll0 (L.map rwD)=true/\PyData.depthAll (L.map rwD)<=3
 | [],_=>⟨rfl,by simp[PyData.depthAll]⟩
 |x::L,h=>by obtain⟨h1,h2⟩:=mw (L:=L) fun r hr=>h r (by simp[hr]);obtain⟨h3,h4⟩:=vn (h x (by simp));simp only[ZS,PyData.canLayAll0,PyData.depthAll,h1,h3];exact⟨rfl,by omega⟩
theorem LR.ok{H:Hp}{l:Addr}{L:LT}(x:LR H l L):∀r∈vals L,PyData.strOk r.t=true:=fun r hr=>by obtain⟨y,hy,rfl⟩:=y9.mp hr;obtain⟨_,_,_,h3⟩:=x.2 y hy;exact h3
theorem aV{L:List Rw}(h:∀r∈L,PyData.strOk r.t=true):SeqAt.shaped (.list (L.map rwD))=true:=by obtain⟨h1,h2⟩:=mw h;unfold SeqAt.shaped;rw[Zz];refine⟨by simpa[PyData.canLay0]using h1,decide_eq_true ?_⟩;simp only[PyData.depth];omega
theorem dQ{L:List Rw}(h:∀r∈L,PyData.strOk r.t=true):PyData.eqv (.list (L.map rwD)) (.list (L.map rwD))=true:=SeqAt.eqv_refl _ (by simpa[PyData.canLay0]using(mw h).1)
def bls(n:Nat)(f:Nat->Bool):List V:=(List.range n).map fun k=>V.bl (f k)
theorem bg(n:Nat)(f:Nat->Bool):(bls n f).length=n:=by unfold bls;rw[Zi,List.length_range]
theorem eQ{n k:Nat}{f:Nat->Bool}(h:k<n):(bls n f)[k]?=some (.bl (f k)):=by unfold bls;rw[Zm,List.getElem?_range h];rfl
theorem wP(n:Nat)(f:Nat->Bool):bls (n+1) f=bls n f++[.bl (f n)]:=by unfold bls;rw[List.range_succ,ZQ];rfl
def Gd(L:LT):Prop:=oX (dep L) L.length
def lQ:Sp:=fun vs H Q _=>∃(l:Addr) (L:LT) (k:Nat),vs=[.ref l,.int (k:Int)]/\LR H l L/\k<L.length/\Q (.bl (jv L k)) H
def jE:Sp:=fun vs H Q _=>∃(t l:Addr) (L:LT) (tops:Nat->Bool),vs=[.ref t,.ref l]/\LR H l L/\L.length<=63/\Gd L/\H t=some (.lst (bls L.length tops))/\∀p H',H p=none->Same H H'->H' p=some (.lst (bls L.length (under (dep L) tops)))->Q (.ref p) H'
def jC:Sp:=fun vs H Q _=>∃(c a:Addr) (cd:Cd) (r:Rw),vs=[.ref c,.ref a]/\CR H c cd/\fz cd=true/\RR H a r/\Q (.bl (pz cd r)) H
abbrev jb:Stmt:=top 9
abbrev ux:List Str:=["rows","at"]
theorem uc:FnScope ux ["rows","at"] (ai jb):=⟨rfl,rfl,rfl,by decide +kernel,rfl,by decide +kernel,by decide +kernel⟩
theorem tN{f:Addr}{fd:FuncData}(F:Fun K "is_leaf" "is_leaf" jb f fd)(a5:mg "len" = none)(i6:mg "DEPTH" = some (.int 0 tkD)):FnOk P w K mg base CX0 1 f fd ["rows","at"] lQ:=by
 refine F.okQ uc (fun vs H Q E h=>?_) (fun cdv A outer s H vs Q E hr h=>?_)
 ·obtain⟨l,L,k,rfl,_⟩:=h;rfl
 obtain⟨l,L,k,rfl,hL,hk,q⟩:=h;refine⟨_,(b_1 (ak (B1 (bo aK (aw bW (q_v 1) ag) (q_B ba a5 Zx (q_a (q_v 0) af))) (oN (bo iR (ar aE (ar aO (q_v 0) (aw bW (q_v 1) ag)) (bS i6)) (ar aE (ar aO (q_v 0) (q_v 1)) (bS i6))))))),?_⟩;refine⟨_,rfl,_,_,rfl,rfl,_,rfl,l,_,rfl,.inl (SqL.of hL.1),rfl,_,rfl,?_⟩;unfold jv at q;by_cases c:k+1=L.length
 ·rw[decide_eq_true (.inl c)]at q;exact aH (by rw[ah,<-c];rfl) q
 ·refine aU (fun z=>by injection z with z;rw[ah]at z;omega) ?_;have hk1:k+1<L.length:=by omega
  obtain⟨p1,e1,_⟩:=hL.at hk1;obtain⟨p2,e2,_⟩:=hL.at hk;refine⟨_,rfl,_,rfl,_,_,rfl,rfl,l,_,_,_,rfl,rfl,SqL.of hL.1,(show atI (am L) ((k:Int)+1)=_ by rw[show((k:Int)+1)=((k+1:Nat):Int) by omega];exact rL hk1),bK L (k+1),_,_,_,rfl,rfl,SqT.of e1,at0,_,rfl,_,rfl,l,_,_,_,rfl,rfl,SqL.of hL.1,rL hk,bK L k,_,_,_,rfl,rfl,SqT.of e2,at0,_,_,rfl,rfl,?_⟩;have eb:decide (((aX L (k+1)).d:Int)<=((aX L k).d:Int))=decide (k+1=L.length\/dep L (k+1)<=dep L k):=by rw[Z6,Yh,Yh];unfold dep;omega
  rw[<-eb]at q;exact q
def oM(ds:Nat->Nat)(tops:Nat->Bool):Nat->Option Nat
 |0=>none
 |k+1=>gR ds tops k
theorem vd(ds:Nat->Nat)(tops:Nat->Bool)(k:Nat):dC ds tops k=match oM ds tops k with
  |some a=>if a<ds k then some a else none
  |none=>none:=by
 cases k with
 |zero=>rfl
 |succ k=>rfl
abbrev cU:Stmt:=top 10
abbrev jK:List Str:=["tops","rows","truths","above","row","is_top"]
theorem ci:FnScope jK ["tops","rows"] (ai cU):=⟨rfl,rfl,rfl,by decide +kernel,rfl,by decide +kernel,by decide +kernel⟩
section
variable{f:Addr}{cdv:Value}{A:Around}{outer:List Env}{s:Shared}{H:Hp}{E:XK}
theorem Ay(hr:Room 0 (A.deeper (envOfC "are_under" (ai cU) s.heap.objs.size f cdv)))(i6:mg "DEPTH" = some (.int 0 tkD)):∃t,QB (cH CX0 P w K mg base jK "are_under" (ai cU) f cdv A outer s H E).nox ((pD ((aR cU).getD 2 (.Pass ⟨0,0,0,0⟩))).drop 1) t /\
   ∀(D:Ends) (H0:Hp) (x0 x1:Option V) (p a:Addr) (r:Rw) (tb:Bool) (o:Option Nat) (bs:List V) (H2:Hp),Same H0 H2->H0 p=none->H2 p=some (.lst bs)->bs.length<=63->RR H2 a r ->
    (∀H3,Same H0 H3->H3 p=some (.lst (bs++[.bl o.isSome]))->D.nx [x0,x1,some (.ref p),some (kE (if tb=true/\o=none then some r.d else o)),some (.ref a),some (.bl tb)] H3) ->
    t D [x0,x1,some (.ref p),some (kE o),some (.ref a),some (.bl tb)] H2:=by
 refine⟨_,(b_c (bJ (eM (q_v 2) (bo vH (q_v 3) dE)))
   (b_1 (aC (t_w (dZ (bO (q_v 5)) (eV (au oJ (q_v 3) dE)))) (b_1 (aq (i:=3) ci.nd (ar aE (q_v 4) (bS i6)))) b_0))),?_⟩
 intro D H0 x0 x1 p a r tb o bs H2 sm np ep zb hrow nx;refine⟨_,rfl,.inl ⟨rfl,_,SqL.of ep⟩,_,rfl,rfl,p,_,_,rfl,rfl,ep,bq (by omega),?_⟩;rw[xI];have S3:=cL (o:=.lst (bs++[.bl o.isSome])) sm np;have e3:upd H2 p (.lst (bs++[.bl o.isSome])) p=some (.lst (bs++[.bl o.isSome])):=aa;obtain⟨q1,e1,_⟩:=hrow.ts (dA (ys:=bs++[.bl o.isSome]) ep);generalize upd H2 p (.lst (bs++[.bl o.isSome]))=H3 at S3 e3 e1 ⊢;have fin:=nx H3 S3 e3;refine⟨_,rfl,_,rfl,?_⟩;cases tb with
 |false =>rw[EM (fun z=>by cases z.1)]at fin;exact aJ fin
 |true =>
  refine bG ?_;cases o with
  |some i =>rw[EM (fun z=>by cases z.2)]at fin;exact⟨_,rfl,rfl,_,rfl,aU (fun z=>nomatch z) fin⟩
  |none =>rw[EN ⟨rfl,rfl⟩]at fin;exact⟨_,rfl,rfl,_,rfl,aH rfl ⟨_,rfl,a,_,_,_,rfl,rfl,SqT.of e1,at0,fin⟩⟩
end
theorem qB{f:Addr}{fd:FuncData}(F:Fun K "are_under" "are_under" cU f fd)(DV:mg "zip" = none)(i6:mg "DEPTH" = some (.int 0 tkD)):FnOk P w K mg base CX0 1 f fd ["tops","rows"] jE:=by
 refine F.okQ ci (fun vs H Q E h=>?_) (fun cdv A outer s H vs Q E hr h=>?_)
 ·obtain⟨t,l,L,tops,rfl,_⟩:=h;rfl
 obtain⟨t,l,L,tops,rfl,hL,hz,gd,ht,q⟩:=h;obtain⟨tl,htl,hb⟩:=Ay (P:=P) (w:=w) (K:=K) (mg:=mg) (base:=base) (outer:=outer) (s:=s) (H:=H) (E:=E) hr i6;refine⟨_,(b_c (aq (i:=2) ci.nd (bA af))
   (b_c (aq (i:=3) ci.nd dE)
   (b_c (io Yk rfl (uX DV (q_a (q_v 1) (q_a (q_v 0) af))) (oF rfl (gE (ax (i:=4) ci.nd) (gE (ax (i:=5) ci.nd) sY))) (b_c (aC (t_w (dZ (au vH (q_v 3) dE) (eV (au iR (ar aE (q_v 4) (bS i6)) (q_v 3))))) (b_1 (aq (i:=3) ci.nd dE)) b_0)
   htl))
   (b_1 (ak (q_v 2)))))),?_⟩
 refine⟨sz rfl,fun p g=>?_⟩;have w1:=ad g (.lst []);refine⟨_,rfl,_,rfl,l,t,_,_,rfl,SqL.of (w1 _ _ hL.1),SqL.of (w1 _ _ ht),by rw[ah,bg],?_⟩;refine xp (K:=K) (a:=l) (b:=t) (xs:=am L) (ys:=bls L.length tops) (fun k σ H'=>Same H H'/\H' p=some (.lst (bls k (under (dep L) tops)))/\∃o4 o5,σ=[some (.ref t),some (.ref l),some (.ref p),some (kE (oM (dep L) tops k)),o4,o5]) ⟨w1,aa,none,none,rfl⟩ (fun i σ H' _ z=>SqL.of (z.1 _ _ hL.1)) (fun i σ H' _ z=>SqL.of (z.1 _ _ ht)) (by rw[ah,bg]) ?_ ?_
 ·rintro k x y σ H' hx hy ⟨sm,ep,o4,o5,rfl⟩ T hT;obtain⟨hk,rfl⟩:=cg hx;rw[eQ hk]at hy;cases hy;have wT:=ad hT (.tup [.ref (bK L k),.bl (tops k)]);have sm1:=sm.trans wT;have ep1:=wT _ _ ep;have hrow:=(hL.at hk).ts (Same.ts sm1);generalize upd H' T (.tup [.ref (bK L k),.bl (tops k)])=H2 at sm1 ep1 hrow ⊢;obtain⟨pn,e1,_⟩:=id hrow;obtain⟨ki1,ki2⟩:=zq gd (tops:=tops) hk;have kp:=vd (dep L) tops k;have fin:=fun(D:Ends)=>hb D H (some (.ref t)) (some (.ref l)) p (bK L k) (aX L k) (tops k) (dC (dep L) tops k) (bls k (under (dep L) tops)) H2 sm1 g ep1 (by rw[bg];omega) hrow;have last:∀H3,Same H H3->H3 p=some (.lst (bls k (under (dep L) tops)++[.bl (dC (dep L) tops k).isSome]))->Same H H3/\H3 p=some (.lst (bls (k+1) (under (dep L) tops)))/\∃o4 o5,[some (V.ref t),some (.ref l),some (.ref p),some (kE (if tops k=true/\dC (dep L) tops k=none then some (aX L k).d else dC (dep L) tops k)),some (.ref (bK L k)),some (.bl (tops k))]=[some (.ref t),some (.ref l),some (.ref p),some (kE (oM (dep L) tops (k+1))),o4,o5]:=fun H3 s3 e3=>⟨s3,by rw[wP,<-ki1];exact e3,_,_,by show _=[some (.ref t),some (.ref l),some (.ref p),some (kE (gR (dep L) tops k)),_,_];rw[ki2];rfl⟩
  cases hp:oM (dep L) tops k with
  |none =>rw[hp]at kp;rw[kp]at fin last;exact⟨_,rfl,rfl,_,rfl,aJ (fin _ last)⟩
  |some i =>
   rw[hp]at kp;refine⟨_,rfl,rfl,_,rfl,bG ?_⟩;refine⟨_,rfl,bK L k,_,_,_,rfl,rfl,SqT.of e1,at0,_,rfl,_,_,rfl,rfl,_,rfl,cX (fun c=>?_) (fun c=>?_)⟩
   ·have c':¬i<dep L k:=by unfold dep;omega
    have kp':dC (dep L) tops k=none:=kp.trans (EM c');rw[kp']at fin last;exact fin _ last
   ·have c':i<dep L k:=by unfold dep;omega
    have kp':dC (dep L) tops k=some i:=kp.trans (EN c');rw[kp']at fin last;exact fin _ last
 ·rintro σ H' ⟨sm,ep,o4,o5,rfl⟩;rw[ah]at ep;exact⟨_,rfl,q p H' g sm ep⟩
abbrev fT:Stmt:=top 11
abbrev oZ:List Str:=["condition","row","word"]
theorem iA:FnScope oZ ["condition","row"] (ai fT):=⟨rfl,rfl,rfl,by decide +kernel,rfl,by decide +kernel,by decide +kernel⟩
theorem nZ{f:Addr}{fd:FuncData}(F:Fun K "fits_alone" "fits_alone" fT f fd)(i6:mg "DEPTH" = some (.int 0 tkD))(w9:mg "TEXT" = some (.int 2 tkT))(Eh:mg "DONE" = some (.int 3 tkO))(n8:mg "WHOM" = some (.int 4 tkW))(i7:mg "FOLDED" = some (.int 5 tkF)):FnOk P w K mg base CX0 1 f fd ["condition","row"] jC:=by
 refine F.okQ iA (fun vs H Q E h=>?_) (fun cdv A outer s H vs Q E hr h=>?_)
 ·obtain⟨c,a,cd,r,rfl,_⟩:=h;rfl
 obtain⟨c,a,cd,r,rfl,hc,al,hrow,q⟩:=h;obtain⟨p,e1,e2,_⟩:=hrow;refine⟨_,(b_c (aq (i:=2) iA.nd (ar aE (q_v 0) ag))
   (b_c (aC (au aK (q_v 2) aj) (b_1 (ak (ar aE (q_v 1) (bS Eh)))) b_0)
   (b_c (aC (au aK (q_v 2) aj) (b_1 (ak (ar aE (q_v 1) (bS i7)))) b_0)
   (b_c (aC (au aK (q_v 2) aj) (b_1 (ak (bo oJ (ar aE (q_v 1) (bS n8)) dE))) b_0)
   (b_c (aC (au aK (q_v 2) aj) (b_1 (ak (bo aK (ar aE (q_v 1) (bS n8)) (ar aE (q_v 0) ag)))) b_0)
   (b_c (aC (au aK (q_v 2) aj) (b_1 (ak (bo iR (ar aE (q_v 1) (bS i6)) (ar aE (q_v 0) ag)))) b_0)
   (b_c (aC (au aK (q_v 2) aj) (b_1 (ak (bo yH (ar aE (q_v 0) ag) (ar aE (q_v 1) (bS w9))))) b_0)
   (b_1 (ak cY))))))))),?_⟩
 obtain⟨rest,eh⟩:=hc.head;refine⟨_,rfl,c,_,_,_,rfl,rfl,SqT.of eh,at0,?_⟩;have ne:∀{A B:Prop} (x y:Str),decide (V.str x=V.str y)=false->B->(if decide (V.str x=V.str y)=true then A else B):=fun{A B} x y h hB=>by rw[h];exact aJ hB
 cases cd with
 |leaf=>cases al
 |seen=>cases al
 |beneath h' n=>cases al
 |done=>exact⟨_,rfl,rfl,_,rfl,aH rfl ⟨_,rfl,a,_,_,_,rfl,rfl,SqT.of e1,rfl,q⟩⟩
 |folded=>exact⟨_,rfl,rfl,_,rfl,ne _ _ (by decide +kernel) ⟨_,rfl,rfl,_,rfl,aH rfl ⟨_,rfl,a,_,_,_,rfl,rfl,SqT.of e1,rfl,q⟩⟩⟩
 |free=>exact⟨_,rfl,rfl,_,rfl,ne _ _ (by decide +kernel) ⟨_,rfl,rfl,_,rfl,ne _ _ (by decide +kernel) ⟨_,rfl,rfl,_,rfl,aH rfl ⟨_,rfl,a,_,_,_,rfl,rfl,SqT.of e1,rfl,rfl,q⟩⟩⟩⟩
 |due i =>
  have hc':H c=some (.tup [.str "due",.int i]):=hc;have sc:yd (whV r.w) (.int i)=true:=by cases r.w<;>rfl
  exact⟨_,rfl,rfl,_,rfl,ne "due" _ (by decide +kernel) ⟨_,rfl,rfl,_,rfl,ne "due" _ (by decide +kernel) ⟨_,rfl,rfl,_,rfl,ne "due" _ (by decide +kernel) ⟨_,rfl,rfl,_,rfl,aH rfl ⟨_,rfl,a,_,_,_,rfl,rfl,SqT.of e1,rfl,_,rfl,c,_,_,_,rfl,rfl,SqT.of hc',rfl,sc,q⟩⟩⟩⟩⟩
 |depth i =>have hc':H c=some (.tup [.str "depth",.int i]):=hc;exact⟨_,rfl,rfl,_,rfl,ne "depth" _ (by decide +kernel) ⟨_,rfl,rfl,_,rfl,ne "depth" _ (by decide +kernel) ⟨_,rfl,rfl,_,rfl,ne "depth" _ (by decide +kernel) ⟨_,rfl,rfl,_,rfl,ne "depth" _ (by decide +kernel) ⟨_,rfl,rfl,_,rfl,aH rfl ⟨_,rfl,a,_,_,_,rfl,rfl,SqT.of e1,rfl,_,rfl,c,_,_,_,rfl,rfl,SqT.of hc',rfl,_,_,rfl,rfl,q⟩⟩⟩⟩⟩⟩
 |says z =>have hc':H c=some (.tup [.str "says",.str z]):=hc;exact⟨_,rfl,rfl,_,rfl,ne "says" _ (by decide +kernel) ⟨_,rfl,rfl,_,rfl,ne "says" _ (by decide +kernel) ⟨_,rfl,rfl,_,rfl,ne "says" _ (by decide +kernel) ⟨_,rfl,rfl,_,rfl,ne "says" _ (by decide +kernel) ⟨_,rfl,rfl,_,rfl,ne "says" _ (by decide +kernel) ⟨_,rfl,rfl,_,rfl,aH rfl ⟨_,rfl,c,_,_,_,rfl,rfl,SqT.of hc',rfl,_,rfl,a,_,_,_,rfl,rfl,SqT.of e1,rfl,_,_,rfl,rfl,q⟩⟩⟩⟩⟩⟩⟩
 |all=>exact⟨_,rfl,rfl,_,rfl,ne _ _ (by decide +kernel) ⟨_,rfl,rfl,_,rfl,ne _ _ (by decide +kernel) ⟨_,rfl,rfl,_,rfl,ne _ _ (by decide +kernel) ⟨_,rfl,rfl,_,rfl,ne _ _ (by decide +kernel) ⟨_,rfl,rfl,_,rfl,ne _ _ (by decide +kernel) ⟨_,rfl,rfl,_,rfl,ne _ _ (by decide +kernel) q⟩⟩⟩⟩⟩⟩
def sB:Sp:=fun _ _ _ _=>False
def yt(w:Bool):Str:=if w then"and" else"or"
abbrev GL:=List (Addr×(Nat->Bool))
def pV(bs:List (Nat->Bool))(k:Nat):Bool:=bs.all fun g=>g k
def pW(bs:List (Nat->Bool))(k:Nat):Bool:=bs.any fun g=>g k
def gOf(w:Bool)(bs:List (Nat->Bool)):Nat->Bool:=if w then pV bs else pW bs
def CF(L:LT):Nat->Hp->Addr->(Nat->Bool)->Prop
 |0,H,a,g=>∃cd,CR H a cd/\g=iH L cd
 |n+1,H,a,g=>(∃cd,CR H a cd/\g=iH L cd)\/(∃b g',H a=some (.tup [.str "not",.ref b])/\CF L n H b g'/\g=fun k=>!g' k) \/
   ∃(w:Bool) (p:Addr) (bs:GL),H a=some (.tup [.str (yt w),.ref p])/\H p=some (.tup (am bs))/\bs.length<=20/\(∀x∈bs,CF L n H x.1 x.2)/\g=gOf w (vals bs)
theorem CF.ts{L:LT}:∀{n:Nat} {H H':Hp} {a:Addr} {g:Nat->Bool},CF L n H a g->TS H H'->CF L n H' a g
 |0,_,_,_,_,⟨cd,h1,h2⟩,e=>⟨cd,h1.ts e,h2⟩
 |n+1,_,_,_,_,.inl ⟨cd,h1,h2⟩,e=>.inl ⟨cd,h1.ts e,h2⟩
 |n+1,_,_,_,_,.inr (.inl ⟨b,g',h1,h2,h3⟩),e=>.inr (.inl ⟨b,g',e _ _ h1,h2.ts e,h3⟩)
 |n+1,_,_,_,_,.inr (.inr ⟨w,p,bs,h1,h2,h3,h4,h5⟩),e=>.inr (.inr ⟨w,p,bs,e _ _ h1,e _ _ h2,h3,fun x hx=>(h4 x hx).ts e,h5⟩)
def QL(H:Hp)(p:Addr)(n:Nat)(gs:List (Nat->Bool)):Prop:=∃qs:List Addr,H p=some (.lst (qs.map V.ref))/\qs.length=gs.length/\∀(j:Nat) (q:Addr) (g:Nat->Bool),qs[j]?=some q->gs[j]?=some g->H q=some (.lst (bls n g))
theorem QL.same{H H':Hp}{p:Addr}{n:Nat}{gs:List (Nat->Bool)}(x:QL H p n gs)(e:Same H H'):QL H' p n gs:=by obtain⟨qs,h1,h2,h3⟩:=x;exact⟨qs,e _ _ h1,h2,fun j q g a b=>e _ _ (h3 j q g a b)⟩
def jD(n:Nat):Sp:=fun vs H Q _=>∃(c l:Addr) (L:LT) (g:Nat->Bool),vs=[.ref c,.ref l]/\CF L n H c g/\LR H l L/\L.length<=63/\Gd L/\∀p H',Same H H'->H' p=some (.lst (bls L.length g))->Q (.ref p) H'
def ud:Sp:=fun vs H Q _=>∃(p:Addr) (n k:Nat) (gs:List (Nat->Bool)),vs=[.ref p,.int (k:Int)]/\QL H p n gs/\k<n/\gs.length<=63/\∀q H',Same H H'->H' q=some (.lst ((gs.map fun g=>g k).map V.bl))->Q (.ref q) H'
abbrev gP:Stmt:=top 8
abbrev rj:List Str:=["parts","at"]
theorem qU:FnScope rj ["parts","at"] (ai gP):=⟨rfl,rfl,rfl,by decide +kernel,rfl,by decide +kernel,by decide +kernel⟩
theorem qD{f:Addr}{fd:FuncData}(F:Fun K "truths_at" "truths_at" gP f fd):FnOk P w K mg base CX0 1 f fd ["parts","at"] ud:=by
 refine F.okQ qU (fun vs H Q E h=>?_) (fun cdv A outer s H vs Q E hr h=>?_)
 ·obtain⟨p,n,k,gs,rfl,_⟩:=h;rfl
 obtain⟨p,n,k,gs,rfl,⟨qs,e1,e2,e3⟩,hk,hz,q⟩:=h;refine⟨_,(b_1 (ak (aL (own:=["truths"]) (⟨rfl,by decide +kernel,by decide +kernel,rfl,⟨rfl,rfl,trivial⟩⟩:CompOk _ _ [1] ["at"]) rfl (bI (q_v 0)) (fun _ _ _ _=>ax (i:=0) (show(["truths","at"]:List Str).Nodup by decide +kernel)) (ay (by decide)) (fun _ _ _ _=>bp) (fun _ _ _ _=>(ar (AA (K:=K) rfl) (q_v 0) (q_v 1)))))),?_⟩;refine⟨_,rfl,p,rfl,⟨_,SqL.of e1⟩,?_⟩;refine be (xs:=qs.map V.ref) (fun j=>.bl (((gs[j]?).getD fun _=>false) k)) (by rw[Zi];omega) (SqL.of e1) (fun j x H1 hx s1 R kk=>?_) (fun p1 H1 s1 g1=>?_)
 ·rw[Zm]at hx;obtain⟨b,hb,rfl⟩:=Ya.mp hx;have hj:j<gs.length:=by rw[<-e2];exact(Zk.mp hb).1
  have kk':=kk H1 (Same.refl H1);rw[Za hj]at kk';exact⟨_,rfl,_,rfl,b,_,_,_,rfl,rfl,SqL.of (s1 _ _ (e3 j b _ hb (Za hj))),cT (eQ hk),kk'⟩
 ·have e:((List.range (qs.map V.ref).length).map fun j=>V.bl (((gs[j]?).getD fun _=>false) k))=(gs.map fun g=>g k).map V.bl:=by
   rw[Zi,e2];refine List.ext_getElem (by simp) fun i h1 h2=>?_;have hi:i<gs.length:=by simpa using h2
   simp[hi]
  rw[e];exact q p1 _ (s1.trans (ad g1 _)) aa
theorem ge{K:PySem.W.Frag}{p:Addr}{L:LT}{bs:GL}{cap:List Nat}{te:TE}{σ:St}{H0:Hp}{Q:VK}(ep:H0 p=some (.tup (am bs)))(hz:bs.length<=63)(he:∀(j:Nat) (x:Addr×(Nat->Bool)) (H:Hp),bs[j]?=some x->Same H0 H->∀R:VK,(∀q H',Same H H'->H' q=some (.lst (bls L.length x.2))->R (.ref q) H')->te ((bT 1 cap σ).set 0 (some (.ref x.1))) H R)(hq:∀q H,Same H0 H->QL H q L.length (vals bs)->Q (.ref q) H):dY 1 cap (bV 0) fv te σ (Itt K p) H0 Q:=by
 refine xa (N:=bs.length) (fun i ys H=>Same H0 H/\ys.length=i/\∃qs:List Addr,ys=qs.map V.ref/\∀(j:Nat) (q:Addr) (x:Addr×(Nat->Bool)),qs[j]?=some q->bs[j]?=some x->H q=some (.lst (bls L.length x.2))) (by omega) (fun i ys H z=>z.2.1) ⟨Same.refl H0,rfl,[],rfl,fun j q x a=>by simp at a⟩
  (fun i ys H hi z=>⟨am bs,.ref bs[i].1,SqT.of (z.1 _ _ ep),by unfold am;rw[Zm,Za hi];rfl⟩) (fun ys H z=>⟨am bs,SqT.of (z.1 _ _ ep),by rw[ah];exact Zb _⟩) (fun i ys H x H' hi z y A kA=>?_) (fun ys q H z g=>?_)
 ·obtain⟨rfl,y⟩:=y;obtain⟨sm,ly,qs,rfl,hqs⟩:=z;have lqs:qs.length=i:=by simpa using ly
  have hx:=y (am bs) (SqT.of (sm _ _ ep));unfold am at hx;rw[Zm,Za hi]at hx;have ex:x=.ref bs[i].1:=(Zw hx).symm;subst ex;refine he i bs[i] _ (Za hi) sm A fun q H4 s4 e4=>kA _ _ ⟨sm.trans s4,by simp[lqs],qs++[q],by simp,fun j q' x' h1 h2=>?_⟩;by_cases c:j<qs.length
  ·rw[y4 c]at h1;exact s4 _ _ (hqs j q' x' h1 h2)
  ·have ej:j=qs.length:=by have:=(Zk.mp h1).1;rw[Zs,ZC]at this;omega
   subst ej;rw[ZF (Zb _),Nat.sub_self]at h1;cases h1;rw[lqs,Za hi]at h2;cases h2;exact e4
 ·obtain⟨sm,ly,qs,rfl,hqs⟩:=z;have w1:=ad g (.lst (qs.map V.ref));refine hq q _ (sm.trans w1) ⟨qs,aa,by rw[aT];simpa using ly,fun j q' g' h1 h2=>?_⟩;unfold vals at h2;rw[Zm]at h2;obtain⟨x,hx,rfl⟩:=Ya.mp h2;exact w1 _ _ (hqs j q' x h1 hx)
abbrev eT:Stmt:=top 7
abbrev uw:List Str:=["condition","rows","word","parts"]
theorem bw:FnScope uw ["condition","rows"] (ai eT):=⟨rfl,rfl,rfl,by decide +kernel,rfl,by decide +kernel,by decide +kernel⟩
theorem rA{f:Addr}{fd:FuncData}(F:Fun K "fitting" "fitting" eT f fd)(j4:Fn P w K mg base 1 "is_leaf" ["rows","at"] lQ)(b9:Fn P w K mg base 1 "are_under" ["tops","rows"] jE)(h8:Fn P w K mg base 1 "fits_alone" ["condition","row"] jC)(c6:Fn P w K mg base 1 "truths_at" ["parts","at"] ud)(a9:Fn P w K mg base 1 "fitting" ["condition","rows"] sB)(a5:mg "len" = none)(a6:mg "range" = none)(u8:mg "any" = none)(l3:mg "all" = none)(n9:mg "NAME" = some (.int 1 tkN))(i7:mg "FOLDED" = some (.int 5 tkF)):FnOk P w K mg base CX0 3 f fd ["condition","rows"] (jD 0):=by
 refine F.okQ bw (fun vs H Q E h=>?_) (fun cdv A outer s H vs Q E hr h=>?_)
 ·obtain⟨c,l,L,g,rfl,_⟩:=h;rfl
 obtain⟨c,l,L,g,rfl,hcf,hL,hz,gd,q⟩:=h;have ne:∀{A B:Prop} (x y:Str),decide (V.str x=V.str y)=false->B->(if decide (V.str x=V.str y)=true then A else B):=fun{A B} x y h hB=>by rw[h];exact aJ hB
 refine⟨_,(b_c (aq (i:=2) bw.nd (ar aE (q_v 0) ag))
   (b_c (aC (au aK (q_v 2) aj) (b_c (aq (i:=3) bw.nd (aL (own:=["part"]) (⟨rfl,by decide +kernel,by decide +kernel,rfl,⟨rfl,rfl,trivial⟩⟩:CompOk _ _ [1] ["rows"]) rfl (jr (ar aE (q_v 0) ag)) (fun _ _ _ _=>ax (i:=0) (show (["part","rows"]:List Str).Nodup by decide +kernel)) (ay (by decide)) (fun _ _ _ _=>bp) (fun _ _ _ _=>(aG a9 (hr.mono (by omega)) (q_a (q_v 0) (q_a (q_v 1) af))))))
   (b_1 (ak (aL (own:=["at"]) (⟨rfl,by decide +kernel,by decide +kernel,rfl,⟨rfl,rfl,trivial⟩⟩:CompOk _ _ [3] ["parts"]) rfl (dj a6 (q_a (q_B ba a5 Zx (q_a (q_v 1) af)) af)) (fun _ _ _ _=>ax (i:=0) (show (["at","parts"]:List Str).Nodup by decide +kernel)) (ay (by decide)) (fun _ _ _ _=>bp) (fun _ _ _ _=>(q_B (pG (K:=K) rfl rfl) u8 PyProof.Rows.boot_any (q_a (aG c6 (hr.mono (by decide)) (q_a (q_v 1) (q_a (q_v 0) af))) af))))))) b_0)
   (b_c (aC (au aK (q_v 2) aj) (b_c (aq (i:=3) bw.nd (aL (own:=["part"]) (⟨rfl,by decide +kernel,by decide +kernel,rfl,⟨rfl,rfl,trivial⟩⟩:CompOk _ _ [1] ["rows"]) rfl (jr (ar aE (q_v 0) ag)) (fun _ _ _ _=>ax (i:=0) (show (["part","rows"]:List Str).Nodup by decide +kernel)) (ay (by decide)) (fun _ _ _ _=>bp) (fun _ _ _ _=>(aG a9 (hr.mono (by omega)) (q_a (q_v 0) (q_a (q_v 1) af))))))
   (b_1 (ak (aL (own:=["at"]) (⟨rfl,by decide +kernel,by decide +kernel,rfl,⟨rfl,rfl,trivial⟩⟩:CompOk _ _ [3] ["parts"]) rfl (dj a6 (q_a (q_B ba a5 Zx (q_a (q_v 1) af)) af)) (fun _ _ _ _=>ax (i:=0) (show (["at","parts"]:List Str).Nodup by decide +kernel)) (ay (by decide)) (fun _ _ _ _=>bp) (fun _ _ _ _=>(q_B (pF (K:=K) rfl rfl) l3 gc (q_a (aG c6 (hr.mono (by decide)) (q_a (q_v 1) (q_a (q_v 0) af))) af))))))) b_0)
   (b_c (aC (au aK (q_v 2) aj) (b_1 (ak (aL (own:=["fits"]) (⟨rfl,by decide +kernel,by decide +kernel,rfl,trivial⟩:CompOk _ _ [] []) rfl (bI (aG a9 (hr.mono (by omega)) (q_a (ar aE (q_v 0) ag) (q_a (q_v 1) af)))) (fun _ _ _ _=>ax (i:=0) (show (["fits"]:List Str).Nodup by decide +kernel)) (ay (by decide)) (fun _ _ _ _=>bp) (fun _ _ _ _=>(ii (q_v 0)))))) b_0)
   (b_c (aC (au aK (q_v 2) aj) (b_1 (ak (aL (own:=["at"]) (⟨rfl,by decide +kernel,by decide +kernel,rfl,⟨rfl,rfl,trivial⟩⟩:CompOk _ _ [1] ["rows"]) rfl (dj a6 (q_a (q_B ba a5 Zx (q_a (q_v 1) af)) af)) (fun _ _ _ _=>ax (i:=0) (show (["at","rows"]:List Str).Nodup by decide +kernel)) (ay (by decide)) (fun _ _ _ _=>bp) (fun _ _ _ _=>(aG j4 (hr.mono (by decide)) (q_a (q_v 1) (q_a (q_v 0) af))))))) b_0)
   (b_c (aC (au aK (q_v 2) aj) (b_1 (ak (aG b9 (hr.mono (by decide)) (q_a (aL (own:=["row"]) (⟨rfl,by decide +kernel,by decide +kernel,rfl,⟨rfl,rfl,trivial⟩⟩:CompOk _ _ [0] ["condition"]) rfl (bI (q_v 1)) (fun _ _ _ _=>ax (i:=0) (show (["row","condition"]:List Str).Nodup by decide +kernel)) (ay (by decide)) (fun _ _ _ _=>bp) (fun _ _ _ _=>(bo (qv hr.units) (ar (eg (K:=K) rfl) (q_v 0) (bS n9)) (ar (eg (K:=K) rfl) (q_v 1) ag)))) (q_a (q_v 1) af))))) b_0)
   (b_c (aC (au aK (q_v 2) aj) (b_1 (ak (aL (own:=["under"]) (⟨rfl,by decide +kernel,by decide +kernel,rfl,trivial⟩:CompOk _ _ [] []) rfl (bI (aG b9 (hr.mono (by decide)) (q_a (aL (own:=["row"]) (⟨rfl,by decide +kernel,by decide +kernel,rfl,trivial⟩:CompOk _ _ [] []) rfl (bI (q_v 1)) (fun _ _ _ _=>ax (i:=0) (show (["row"]:List Str).Nodup by decide +kernel)) (ay (by decide)) (fun _ _ _ _=>bp) (fun _ _ _ _=>(ar (eg (K:=K) rfl) (q_v 0) (bS i7)))) (q_a (q_v 1) af)))) (fun _ _ _ _=>ax (i:=0) (show (["under"]:List Str).Nodup by decide +kernel)) (ay (by decide)) (fun _ _ _ _=>bp) (fun _ _ _ _=>(ii (q_v 0)))))) b_0)
   (b_1 (ak (aL (own:=["row"]) (⟨rfl,by decide +kernel,by decide +kernel,rfl,⟨rfl,rfl,trivial⟩⟩:CompOk _ _ [0] ["condition"]) rfl (bI (q_v 1)) (fun _ _ _ _=>ax (i:=0) (show (["row","condition"]:List Str).Nodup by decide +kernel)) (ay (by decide)) (fun _ _ _ _=>bp) (fun _ _ _ _=>(aG h8 (hr.mono (by decide)) (q_a (q_v 1) (q_a (q_v 0) af)))))))))))))),?_⟩
 obtain⟨cd,hc,rfl⟩:=hcf;obtain⟨rest,eh⟩:=hc.head;refine⟨_,rfl,c,_,_,_,rfl,rfl,SqT.of eh,at0,?_⟩;by_cases al:fz cd=true
 ·obtain⟨n1,n2,n3,n4,n5,n6⟩:=jX al;refine⟨_,rfl,rfl,_,rfl,aU n1 ⟨_,rfl,rfl,_,rfl,aU n2 ⟨_,rfl,rfl,_,rfl,aU n3 ⟨_,rfl,rfl,_,rfl,aU n4 ⟨_,rfl,rfl,_,rfl,aU n5 ⟨_,rfl,rfl,_,rfl,aU n6 ?_⟩⟩⟩⟩⟩⟩;refine⟨_,rfl,l,rfl,⟨_,SqL.of hL.1⟩,?_⟩;refine be (xs:=am L) (fun k=>.bl (iH L cd k)) (by rw[ah];omega) (SqL.of hL.1) (fun k x H1 hx s1 R kk=>?_) (fun p1 H1 s1 g1=>?_)
  ·obtain⟨hk,rfl⟩:=cg hx;have kk':=kk H1 (Same.refl H1);rw[iI al]at kk';exact⟨_,rfl,_,rfl,c,bK L k,cd,aX L k,rfl,hc.ts (Same.ts s1),al,(hL.at hk).ts (Same.ts s1),kk'⟩
  ·rw[ah];exact q p1 _ (s1.trans (ad g1 _)) aa
 cases cd with
 |leaf =>refine⟨_,rfl,rfl,_,rfl,ne _ _ (by decide +kernel) ⟨_,rfl,rfl,_,rfl,ne _ _ (by decide +kernel) ⟨_,rfl,rfl,_,rfl,ne _ _ (by decide +kernel) ⟨_,rfl,rfl,_,rfl,aH rfl ?_⟩⟩⟩⟩;refine⟨_,rfl,l,_,rfl,.inl (SqL.of hL.1),_,rfl,by rw[ah];omega,by rw[ah];omega,?_⟩;rw[ah,show((L.length:Int)).toNat=L.length by omega];refine ck (N:=L.length) (lo:=0) (fun k=>.bl (jv L k)) (by omega) (fun k H1 hk s1 R kk=>?_) (fun p H1 s1 g1=>q p _ (s1.trans (ad g1 _)) aa);exact⟨_,rfl,_,rfl,l,L,k,(show[V.ref l,V.int (0+(k:Int))]=[V.ref l,V.int (k:Int)] by rw[Int.zero_add]),hL.same s1,hk,kk H1 (Same.refl H1)⟩
 |seen =>
  refine⟨_,rfl,rfl,_,rfl,ne _ _ (by decide +kernel) ⟨_,rfl,rfl,_,rfl,ne _ _ (by decide +kernel) ⟨_,rfl,rfl,_,rfl,ne _ _ (by decide +kernel) ⟨_,rfl,rfl,_,rfl,ne _ _ (by decide +kernel) ⟨_,rfl,rfl,_,rfl,ne _ _ (by decide +kernel) ⟨_,rfl,rfl,_,rfl,aH rfl ?_⟩⟩⟩⟩⟩⟩;refine⟨_,rfl,l,rfl,⟨_,SqL.of hL.1⟩,?_⟩;refine be (xs:=am L) (fun k=>.bl (aX L k).f) (by rw[ah];omega) (SqL.of hL.1) (fun k x H1 hx s1 R kk=>?_) (fun p1 H1 s1 g1=>?_)
  ·obtain⟨hk,rfl⟩:=cg hx;obtain⟨pn,e1,_⟩:=(hL.at hk).ts (Same.ts s1);exact⟨_,rfl,bK L k,_,_,_,rfl,rfl,SqT.of e1,rfl,kk H1 (Same.refl H1)⟩
  ·rw[ah];have w1:=s1.trans (ad g1 (.lst (bls L.length fun k=>(aX L k).f)));refine⟨_,rfl,p1,l,L,fun k=>(aX L k).f,rfl,hL.same w1,hz,gd,aa,fun p2 H2 n2 s2 e2=>?_⟩;refine⟨p2,rfl,⟨_,SqL.of e2⟩,?_⟩;refine be (xs:=bls L.length (under (dep L) fun k=>(aX L k).f)) (fun k=>.bl (!under (dep L) (fun k=>(aX L k).f) k)) (by rw[bg];omega) (SqL.of e2) (fun k x H3 hx s3 R kk=>?_) (fun p3 H3 s3 g3=>?_)
   ·have hk:k<L.length:=by have:=(Zk.mp hx).1;rw[bg]at this;exact this
    rw[eQ hk]at hx;cases hx;exact⟨_,rfl,_,rfl,kk H3 (Same.refl H3)⟩
   ·rw[bg];exact q p3 _ ((w1.trans s2).trans (s3.trans (ad g3 _))) aa
 |beneath bh bn =>
  obtain⟨pb,eb1,eb2⟩:=hc;refine⟨_,rfl,rfl,_,rfl,ne "beneath" _ (by decide +kernel) ⟨_,rfl,rfl,_,rfl,ne "beneath" _ (by decide +kernel) ⟨_,rfl,rfl,_,rfl,ne "beneath" _ (by decide +kernel) ⟨_,rfl,rfl,_,rfl,ne "beneath" _ (by decide +kernel) ⟨_,rfl,rfl,_,rfl,aH rfl ?_⟩⟩⟩⟩⟩;refine⟨_,rfl,l,rfl,⟨_,SqL.of hL.1⟩,?_⟩;refine be (xs:=am L) (fun k=>.bl (nmB L bh bn k)) (by rw[ah];omega) (SqL.of hL.1) (fun k x H1 hx s1 R kk=>?_) (fun p1 H1 s1 g1=>?_)
  ·obtain⟨hk,rfl⟩:=cg hx;obtain⟨pn,e1,e2,_⟩:=(hL.at hk).ts (Same.ts s1);exact⟨_,rfl,bK L k,_,_,_,rfl,rfl,SqT.of e1,rfl,_,rfl,c,_,_,_,rfl,rfl,SqT.of (s1 _ _ eb1),rfl,pn,pb,_,_,rfl,rfl,e2,s1 _ _ eb2,kk H1 (Same.refl H1)⟩
  ·rw[ah];have w1:=s1.trans (ad g1 (.lst (bls L.length (nmB L bh bn))));exact⟨_,rfl,p1,l,L,nmB L bh bn,rfl,hL.same w1,hz,gd,aa,fun p2 H2 n2 s2 e2=>q p2 H2 (w1.trans s2) e2⟩
 |_=>exact absurd rfl al
theorem rB{f:Addr}{fd:FuncData}(F:Fun K "fitting" "fitting" eT f fd)(j4:Fn P w K mg base 1 "is_leaf" ["rows","at"] lQ)(b9:Fn P w K mg base 1 "are_under" ["tops","rows"] jE)(h8:Fn P w K mg base 1 "fits_alone" ["condition","row"] jC)(c6:Fn P w K mg base 1 "truths_at" ["parts","at"] ud)(a9:Fn P w K mg base 3 "fitting" ["condition","rows"] (jD 0))(a5:mg "len" = none)(a6:mg "range" = none)(u8:mg "any" = none)(l3:mg "all" = none)(n9:mg "NAME" = some (.int 1 tkN))(i7:mg "FOLDED" = some (.int 5 tkF)):FnOk P w K mg base CX0 5 f fd ["condition","rows"] (jD 1):=by
 refine F.okQ bw (fun vs H Q E h=>?_) (fun cdv A outer s H vs Q E hr h=>?_)
 ·obtain⟨c,l,L,g,rfl,_⟩:=h;rfl
 obtain⟨c,l,L,g,rfl,hcf,hL,hz,gd,q⟩:=h;have ne:∀{A B:Prop} (x y:Str),decide (V.str x=V.str y)=false->B->(if decide (V.str x=V.str y)=true then A else B):=fun{A B} x y h hB=>by rw[h];exact aJ hB
 refine⟨_,(b_c (aq (i:=2) bw.nd (ar aE (q_v 0) ag))
   (b_c (aC (au aK (q_v 2) aj) (b_c (aq (i:=3) bw.nd (aL (own:=["part"]) (⟨rfl,by decide +kernel,by decide +kernel,rfl,⟨rfl,rfl,trivial⟩⟩:CompOk _ _ [1] ["rows"]) rfl (jr (ar aE (q_v 0) ag)) (fun _ _ _ _=>ax (i:=0) (show (["part","rows"]:List Str).Nodup by decide +kernel)) (ay (by decide)) (fun _ _ _ _=>bp) (fun _ _ _ _=>(aG a9 (hr.mono (by omega)) (q_a (q_v 0) (q_a (q_v 1) af))))))
   (b_1 (ak (aL (own:=["at"]) (⟨rfl,by decide +kernel,by decide +kernel,rfl,⟨rfl,rfl,trivial⟩⟩:CompOk _ _ [3] ["parts"]) rfl (dj a6 (q_a (q_B ba a5 Zx (q_a (q_v 1) af)) af)) (fun _ _ _ _=>ax (i:=0) (show (["at","parts"]:List Str).Nodup by decide +kernel)) (ay (by decide)) (fun _ _ _ _=>bp) (fun _ _ _ _=>(q_B (pG (K:=K) rfl rfl) u8 PyProof.Rows.boot_any (q_a (aG c6 (hr.mono (by decide)) (q_a (q_v 1) (q_a (q_v 0) af))) af))))))) b_0)
   (b_c (aC (au aK (q_v 2) aj) (b_c (aq (i:=3) bw.nd (aL (own:=["part"]) (⟨rfl,by decide +kernel,by decide +kernel,rfl,⟨rfl,rfl,trivial⟩⟩:CompOk _ _ [1] ["rows"]) rfl (jr (ar aE (q_v 0) ag)) (fun _ _ _ _=>ax (i:=0) (show (["part","rows"]:List Str).Nodup by decide +kernel)) (ay (by decide)) (fun _ _ _ _=>bp) (fun _ _ _ _=>(aG a9 (hr.mono (by omega)) (q_a (q_v 0) (q_a (q_v 1) af))))))
   (b_1 (ak (aL (own:=["at"]) (⟨rfl,by decide +kernel,by decide +kernel,rfl,⟨rfl,rfl,trivial⟩⟩:CompOk _ _ [3] ["parts"]) rfl (dj a6 (q_a (q_B ba a5 Zx (q_a (q_v 1) af)) af)) (fun _ _ _ _=>ax (i:=0) (show (["at","parts"]:List Str).Nodup by decide +kernel)) (ay (by decide)) (fun _ _ _ _=>bp) (fun _ _ _ _=>(q_B (pF (K:=K) rfl rfl) l3 gc (q_a (aG c6 (hr.mono (by decide)) (q_a (q_v 1) (q_a (q_v 0) af))) af))))))) b_0)
   (b_c (aC (au aK (q_v 2) aj) (b_1 (ak (aL (own:=["fits"]) (⟨rfl,by decide +kernel,by decide +kernel,rfl,trivial⟩:CompOk _ _ [] []) rfl (bI (aG a9 (hr.mono (by omega)) (q_a (ar aE (q_v 0) ag) (q_a (q_v 1) af)))) (fun _ _ _ _=>ax (i:=0) (show (["fits"]:List Str).Nodup by decide +kernel)) (ay (by decide)) (fun _ _ _ _=>bp) (fun _ _ _ _=>(ii (q_v 0)))))) b_0)
   (b_c (aC (au aK (q_v 2) aj) (b_1 (ak (aL (own:=["at"]) (⟨rfl,by decide +kernel,by decide +kernel,rfl,⟨rfl,rfl,trivial⟩⟩:CompOk _ _ [1] ["rows"]) rfl (dj a6 (q_a (q_B ba a5 Zx (q_a (q_v 1) af)) af)) (fun _ _ _ _=>ax (i:=0) (show (["at","rows"]:List Str).Nodup by decide +kernel)) (ay (by decide)) (fun _ _ _ _=>bp) (fun _ _ _ _=>(aG j4 (hr.mono (by decide)) (q_a (q_v 1) (q_a (q_v 0) af))))))) b_0)
   (b_c (aC (au aK (q_v 2) aj) (b_1 (ak (aG b9 (hr.mono (by decide)) (q_a (aL (own:=["row"]) (⟨rfl,by decide +kernel,by decide +kernel,rfl,⟨rfl,rfl,trivial⟩⟩:CompOk _ _ [0] ["condition"]) rfl (bI (q_v 1)) (fun _ _ _ _=>ax (i:=0) (show (["row","condition"]:List Str).Nodup by decide +kernel)) (ay (by decide)) (fun _ _ _ _=>bp) (fun _ _ _ _=>(bo (qv hr.units) (ar (eg (K:=K) rfl) (q_v 0) (bS n9)) (ar (eg (K:=K) rfl) (q_v 1) ag)))) (q_a (q_v 1) af))))) b_0)
   (b_c (aC (au aK (q_v 2) aj) (b_1 (ak (aL (own:=["under"]) (⟨rfl,by decide +kernel,by decide +kernel,rfl,trivial⟩:CompOk _ _ [] []) rfl (bI (aG b9 (hr.mono (by decide)) (q_a (aL (own:=["row"]) (⟨rfl,by decide +kernel,by decide +kernel,rfl,trivial⟩:CompOk _ _ [] []) rfl (bI (q_v 1)) (fun _ _ _ _=>ax (i:=0) (show (["row"]:List Str).Nodup by decide +kernel)) (ay (by decide)) (fun _ _ _ _=>bp) (fun _ _ _ _=>(ar (eg (K:=K) rfl) (q_v 0) (bS i7)))) (q_a (q_v 1) af)))) (fun _ _ _ _=>ax (i:=0) (show (["under"]:List Str).Nodup by decide +kernel)) (ay (by decide)) (fun _ _ _ _=>bp) (fun _ _ _ _=>(ii (q_v 0)))))) b_0)
   (b_1 (ak (aL (own:=["row"]) (⟨rfl,by decide +kernel,by decide +kernel,rfl,⟨rfl,rfl,trivial⟩⟩:CompOk _ _ [0] ["condition"]) rfl (bI (q_v 1)) (fun _ _ _ _=>ax (i:=0) (show (["row","condition"]:List Str).Nodup by decide +kernel)) (ay (by decide)) (fun _ _ _ _=>bp) (fun _ _ _ _=>(aG h8 (hr.mono (by decide)) (q_a (q_v 1) (q_a (q_v 0) af)))))))))))))),?_⟩
 rcases hcf with⟨cd,hc,rfl⟩|⟨b,g',e1,hb,rfl⟩|⟨w,p,bs,e1,e2,hbs,hb,rfl⟩
 rotate_left
 ·
  refine⟨_,rfl,c,_,_,_,rfl,rfl,SqT.of e1,rfl,?_⟩;refine⟨_,rfl,rfl,_,rfl,ne "not" _ (by decide +kernel) ⟨_,rfl,rfl,_,rfl,ne "not" _ (by decide +kernel) ⟨_,rfl,rfl,_,rfl,aH rfl ?_⟩⟩⟩;refine⟨_,rfl,c,_,_,_,rfl,rfl,SqT.of e1,rfl,_,rfl,b,l,L,g',rfl,hb,hL,hz,gd,fun p1 H1 s1 e3=>?_⟩;refine⟨p1,rfl,⟨_,SqL.of e3⟩,?_⟩;refine be (xs:=bls L.length g') (fun k=>.bl (!g' k)) (by rw[bg];omega) (SqL.of e3) (fun k x H3 hx s3 R kk=>?_) (fun p3 H3 s3 g3=>?_)
  ·have hk:k<L.length:=by have:=(Zk.mp hx).1;rw[bg]at this;exact this
   rw[eQ hk]at hx;cases hx;exact⟨_,rfl,_,rfl,kk H3 (Same.refl H3)⟩
  ·rw[bg];exact q p3 _ (s1.trans (s3.trans (ad g3 _))) aa
 ·
  cases w with
  |true =>
   refine⟨_,rfl,c,_,_,_,rfl,rfl,SqT.of e1,rfl,?_⟩;refine⟨_,rfl,rfl,_,rfl,ne "and" _ (by decide +kernel) ⟨_,rfl,rfl,_,rfl,aH rfl ?_⟩⟩;refine⟨_,rfl,c,_,_,_,rfl,rfl,SqT.of e1,rfl,p,rfl,⟨_,SqT.of e2⟩,?_⟩;refine ge (L:=L) (bs:=bs) e2 (by omega) (fun j x H1 hx s1 R kk=>?_) (fun pp H1 s1 hQ=>?_)
   ·exact⟨_,rfl,_,rfl,x.1,l,L,x.2,rfl,(hb x (Z1 hx)).ts (Same.ts s1),hL.same s1,hz,gd,kk⟩
   ·refine⟨_,rfl,l,_,rfl,.inl (SqL.of (hL.same s1).1),_,rfl,by rw[ah];omega,by rw[ah];omega,?_⟩;rw[ah,show((L.length:Int)).toNat=L.length by omega];refine ck (N:=L.length) (lo:=0) (fun k=>.bl (pV (vals bs) k)) (by omega) (fun k H2 hk s2 R kk=>?_) (fun p2 H2 s2 g2=>q p2 _ (s1.trans (s2.trans (ad g2 _))) aa);refine⟨_,rfl,_,rfl,pp,L.length,k,vals bs,(show[V.ref pp,V.int (0+(k:Int))]=[V.ref pp,V.int (k:Int)] by rw[Int.zero_add]),hQ.same s2,hk,by rw[aT];omega,fun p4 H4 s4 e4=>?_⟩;refine⟨p4,_,rfl,SqL.of e4,?_⟩;rw[show((vals bs).map fun g=>g k).all id=pV (vals bs) k by rw[List.all_map];rfl];exact kk H4 s4
  |false =>
   refine⟨_,rfl,c,_,_,_,rfl,rfl,SqT.of e1,rfl,?_⟩;refine⟨_,rfl,rfl,_,rfl,aH rfl ?_⟩;refine⟨_,rfl,c,_,_,_,rfl,rfl,SqT.of e1,rfl,p,rfl,⟨_,SqT.of e2⟩,?_⟩;refine ge (L:=L) (bs:=bs) e2 (by omega) (fun j x H1 hx s1 R kk=>?_) (fun pp H1 s1 hQ=>?_)
   ·exact⟨_,rfl,_,rfl,x.1,l,L,x.2,rfl,(hb x (Z1 hx)).ts (Same.ts s1),hL.same s1,hz,gd,kk⟩
   ·refine⟨_,rfl,l,_,rfl,.inl (SqL.of (hL.same s1).1),_,rfl,by rw[ah];omega,by rw[ah];omega,?_⟩;rw[ah,show((L.length:Int)).toNat=L.length by omega];refine ck (N:=L.length) (lo:=0) (fun k=>.bl (pW (vals bs) k)) (by omega) (fun k H2 hk s2 R kk=>?_) (fun p2 H2 s2 g2=>q p2 _ (s1.trans (s2.trans (ad g2 _))) aa);refine⟨_,rfl,_,rfl,pp,L.length,k,vals bs,(show[V.ref pp,V.int (0+(k:Int))]=[V.ref pp,V.int (k:Int)] by rw[Int.zero_add]),hQ.same s2,hk,by rw[aT];omega,fun p4 H4 s4 e4=>?_⟩;refine⟨p4,_,rfl,SqL.of e4,?_⟩;rw[show((vals bs).map fun g=>g k).any id=pW (vals bs) k by rw[List.any_map];rfl];exact kk H4 s4
 obtain⟨rest,eh⟩:=hc.head;refine⟨_,rfl,c,_,_,_,rfl,rfl,SqT.of eh,at0,?_⟩;by_cases al:fz cd=true
 ·obtain⟨n1,n2,n3,n4,n5,n6⟩:=jX al;refine⟨_,rfl,rfl,_,rfl,aU n1 ⟨_,rfl,rfl,_,rfl,aU n2 ⟨_,rfl,rfl,_,rfl,aU n3 ⟨_,rfl,rfl,_,rfl,aU n4 ⟨_,rfl,rfl,_,rfl,aU n5 ⟨_,rfl,rfl,_,rfl,aU n6 ?_⟩⟩⟩⟩⟩⟩;refine⟨_,rfl,l,rfl,⟨_,SqL.of hL.1⟩,?_⟩;refine be (xs:=am L) (fun k=>.bl (iH L cd k)) (by rw[ah];omega) (SqL.of hL.1) (fun k x H1 hx s1 R kk=>?_) (fun p1 H1 s1 g1=>?_)
  ·obtain⟨hk,rfl⟩:=cg hx;have kk':=kk H1 (Same.refl H1);rw[iI al]at kk';exact⟨_,rfl,_,rfl,c,bK L k,cd,aX L k,rfl,hc.ts (Same.ts s1),al,(hL.at hk).ts (Same.ts s1),kk'⟩
  ·rw[ah];exact q p1 _ (s1.trans (ad g1 _)) aa
 cases cd with
 |leaf =>refine⟨_,rfl,rfl,_,rfl,ne _ _ (by decide +kernel) ⟨_,rfl,rfl,_,rfl,ne _ _ (by decide +kernel) ⟨_,rfl,rfl,_,rfl,ne _ _ (by decide +kernel) ⟨_,rfl,rfl,_,rfl,aH rfl ?_⟩⟩⟩⟩;refine⟨_,rfl,l,_,rfl,.inl (SqL.of hL.1),_,rfl,by rw[ah];omega,by rw[ah];omega,?_⟩;rw[ah,show((L.length:Int)).toNat=L.length by omega];refine ck (N:=L.length) (lo:=0) (fun k=>.bl (jv L k)) (by omega) (fun k H1 hk s1 R kk=>?_) (fun p H1 s1 g1=>q p _ (s1.trans (ad g1 _)) aa);exact⟨_,rfl,_,rfl,l,L,k,(show[V.ref l,V.int (0+(k:Int))]=[V.ref l,V.int (k:Int)] by rw[Int.zero_add]),hL.same s1,hk,kk H1 (Same.refl H1)⟩
 |seen =>
  refine⟨_,rfl,rfl,_,rfl,ne _ _ (by decide +kernel) ⟨_,rfl,rfl,_,rfl,ne _ _ (by decide +kernel) ⟨_,rfl,rfl,_,rfl,ne _ _ (by decide +kernel) ⟨_,rfl,rfl,_,rfl,ne _ _ (by decide +kernel) ⟨_,rfl,rfl,_,rfl,ne _ _ (by decide +kernel) ⟨_,rfl,rfl,_,rfl,aH rfl ?_⟩⟩⟩⟩⟩⟩;refine⟨_,rfl,l,rfl,⟨_,SqL.of hL.1⟩,?_⟩;refine be (xs:=am L) (fun k=>.bl (aX L k).f) (by rw[ah];omega) (SqL.of hL.1) (fun k x H1 hx s1 R kk=>?_) (fun p1 H1 s1 g1=>?_)
  ·obtain⟨hk,rfl⟩:=cg hx;obtain⟨pn,e1,_⟩:=(hL.at hk).ts (Same.ts s1);exact⟨_,rfl,bK L k,_,_,_,rfl,rfl,SqT.of e1,rfl,kk H1 (Same.refl H1)⟩
  ·rw[ah];have w1:=s1.trans (ad g1 (.lst (bls L.length fun k=>(aX L k).f)));refine⟨_,rfl,p1,l,L,fun k=>(aX L k).f,rfl,hL.same w1,hz,gd,aa,fun p2 H2 n2 s2 e2=>?_⟩;refine⟨p2,rfl,⟨_,SqL.of e2⟩,?_⟩;refine be (xs:=bls L.length (under (dep L) fun k=>(aX L k).f)) (fun k=>.bl (!under (dep L) (fun k=>(aX L k).f) k)) (by rw[bg];omega) (SqL.of e2) (fun k x H3 hx s3 R kk=>?_) (fun p3 H3 s3 g3=>?_)
   ·have hk:k<L.length:=by have:=(Zk.mp hx).1;rw[bg]at this;exact this
    rw[eQ hk]at hx;cases hx;exact⟨_,rfl,_,rfl,kk H3 (Same.refl H3)⟩
   ·rw[bg];exact q p3 _ ((w1.trans s2).trans (s3.trans (ad g3 _))) aa
 |beneath bh bn =>
  obtain⟨pb,eb1,eb2⟩:=hc;refine⟨_,rfl,rfl,_,rfl,ne "beneath" _ (by decide +kernel) ⟨_,rfl,rfl,_,rfl,ne "beneath" _ (by decide +kernel) ⟨_,rfl,rfl,_,rfl,ne "beneath" _ (by decide +kernel) ⟨_,rfl,rfl,_,rfl,ne "beneath" _ (by decide +kernel) ⟨_,rfl,rfl,_,rfl,aH rfl ?_⟩⟩⟩⟩⟩;refine⟨_,rfl,l,rfl,⟨_,SqL.of hL.1⟩,?_⟩;refine be (xs:=am L) (fun k=>.bl (nmB L bh bn k)) (by rw[ah];omega) (SqL.of hL.1) (fun k x H1 hx s1 R kk=>?_) (fun p1 H1 s1 g1=>?_)
  ·obtain⟨hk,rfl⟩:=cg hx;obtain⟨pn,e1,e2,_⟩:=(hL.at hk).ts (Same.ts s1);exact⟨_,rfl,bK L k,_,_,_,rfl,rfl,SqT.of e1,rfl,_,rfl,c,_,_,_,rfl,rfl,SqT.of (s1 _ _ eb1),rfl,pn,pb,_,_,rfl,rfl,e2,s1 _ _ eb2,kk H1 (Same.refl H1)⟩
  ·rw[ah];have w1:=s1.trans (ad g1 (.lst (bls L.length (nmB L bh bn))));exact⟨_,rfl,p1,l,L,nmB L bh bn,rfl,hL.same w1,hz,gd,aa,fun p2 H2 n2 s2 e2=>q p2 H2 (w1.trans s2) e2⟩
 |_=>exact absurd rfl al
theorem rC{f:Addr}{fd:FuncData}(F:Fun K "fitting" "fitting" eT f fd)(j4:Fn P w K mg base 1 "is_leaf" ["rows","at"] lQ)(b9:Fn P w K mg base 1 "are_under" ["tops","rows"] jE)(h8:Fn P w K mg base 1 "fits_alone" ["condition","row"] jC)(c6:Fn P w K mg base 1 "truths_at" ["parts","at"] ud)(a9:Fn P w K mg base 5 "fitting" ["condition","rows"] (jD 1))(a5:mg "len" = none)(a6:mg "range" = none)(u8:mg "any" = none)(l3:mg "all" = none)(n9:mg "NAME" = some (.int 1 tkN))(i7:mg "FOLDED" = some (.int 5 tkF)):FnOk P w K mg base CX0 7 f fd ["condition","rows"] (jD 2):=by
 refine F.okQ bw (fun vs H Q E h=>?_) (fun cdv A outer s H vs Q E hr h=>?_)
 ·obtain⟨c,l,L,g,rfl,_⟩:=h;rfl
 obtain⟨c,l,L,g,rfl,hcf,hL,hz,gd,q⟩:=h;have ne:∀{A B:Prop} (x y:Str),decide (V.str x=V.str y)=false->B->(if decide (V.str x=V.str y)=true then A else B):=fun{A B} x y h hB=>by rw[h];exact aJ hB
 refine⟨_,(b_c (aq (i:=2) bw.nd (ar aE (q_v 0) ag))
   (b_c (aC (au aK (q_v 2) aj) (b_c (aq (i:=3) bw.nd (aL (own:=["part"]) (⟨rfl,by decide +kernel,by decide +kernel,rfl,⟨rfl,rfl,trivial⟩⟩:CompOk _ _ [1] ["rows"]) rfl (jr (ar aE (q_v 0) ag)) (fun _ _ _ _=>ax (i:=0) (show (["part","rows"]:List Str).Nodup by decide +kernel)) (ay (by decide)) (fun _ _ _ _=>bp) (fun _ _ _ _=>(aG a9 (hr.mono (by omega)) (q_a (q_v 0) (q_a (q_v 1) af))))))
   (b_1 (ak (aL (own:=["at"]) (⟨rfl,by decide +kernel,by decide +kernel,rfl,⟨rfl,rfl,trivial⟩⟩:CompOk _ _ [3] ["parts"]) rfl (dj a6 (q_a (q_B ba a5 Zx (q_a (q_v 1) af)) af)) (fun _ _ _ _=>ax (i:=0) (show (["at","parts"]:List Str).Nodup by decide +kernel)) (ay (by decide)) (fun _ _ _ _=>bp) (fun _ _ _ _=>(q_B (pG (K:=K) rfl rfl) u8 PyProof.Rows.boot_any (q_a (aG c6 (hr.mono (by decide)) (q_a (q_v 1) (q_a (q_v 0) af))) af))))))) b_0)
   (b_c (aC (au aK (q_v 2) aj) (b_c (aq (i:=3) bw.nd (aL (own:=["part"]) (⟨rfl,by decide +kernel,by decide +kernel,rfl,⟨rfl,rfl,trivial⟩⟩:CompOk _ _ [1] ["rows"]) rfl (jr (ar aE (q_v 0) ag)) (fun _ _ _ _=>ax (i:=0) (show (["part","rows"]:List Str).Nodup by decide +kernel)) (ay (by decide)) (fun _ _ _ _=>bp) (fun _ _ _ _=>(aG a9 (hr.mono (by omega)) (q_a (q_v 0) (q_a (q_v 1) af))))))
   (b_1 (ak (aL (own:=["at"]) (⟨rfl,by decide +kernel,by decide +kernel,rfl,⟨rfl,rfl,trivial⟩⟩:CompOk _ _ [3] ["parts"]) rfl (dj a6 (q_a (q_B ba a5 Zx (q_a (q_v 1) af)) af)) (fun _ _ _ _=>ax (i:=0) (show (["at","parts"]:List Str).Nodup by decide +kernel)) (ay (by decide)) (fun _ _ _ _=>bp) (fun _ _ _ _=>(q_B (pF (K:=K) rfl rfl) l3 gc (q_a (aG c6 (hr.mono (by decide)) (q_a (q_v 1) (q_a (q_v 0) af))) af))))))) b_0)
   (b_c (aC (au aK (q_v 2) aj) (b_1 (ak (aL (own:=["fits"]) (⟨rfl,by decide +kernel,by decide +kernel,rfl,trivial⟩:CompOk _ _ [] []) rfl (bI (aG a9 (hr.mono (by omega)) (q_a (ar aE (q_v 0) ag) (q_a (q_v 1) af)))) (fun _ _ _ _=>ax (i:=0) (show (["fits"]:List Str).Nodup by decide +kernel)) (ay (by decide)) (fun _ _ _ _=>bp) (fun _ _ _ _=>(ii (q_v 0)))))) b_0)
   (b_c (aC (au aK (q_v 2) aj) (b_1 (ak (aL (own:=["at"]) (⟨rfl,by decide +kernel,by decide +kernel,rfl,⟨rfl,rfl,trivial⟩⟩:CompOk _ _ [1] ["rows"]) rfl (dj a6 (q_a (q_B ba a5 Zx (q_a (q_v 1) af)) af)) (fun _ _ _ _=>ax (i:=0) (show (["at","rows"]:List Str).Nodup by decide +kernel)) (ay (by decide)) (fun _ _ _ _=>bp) (fun _ _ _ _=>(aG j4 (hr.mono (by decide)) (q_a (q_v 1) (q_a (q_v 0) af))))))) b_0)
   (b_c (aC (au aK (q_v 2) aj) (b_1 (ak (aG b9 (hr.mono (by decide)) (q_a (aL (own:=["row"]) (⟨rfl,by decide +kernel,by decide +kernel,rfl,⟨rfl,rfl,trivial⟩⟩:CompOk _ _ [0] ["condition"]) rfl (bI (q_v 1)) (fun _ _ _ _=>ax (i:=0) (show (["row","condition"]:List Str).Nodup by decide +kernel)) (ay (by decide)) (fun _ _ _ _=>bp) (fun _ _ _ _=>(bo (qv hr.units) (ar (eg (K:=K) rfl) (q_v 0) (bS n9)) (ar (eg (K:=K) rfl) (q_v 1) ag)))) (q_a (q_v 1) af))))) b_0)
   (b_c (aC (au aK (q_v 2) aj) (b_1 (ak (aL (own:=["under"]) (⟨rfl,by decide +kernel,by decide +kernel,rfl,trivial⟩:CompOk _ _ [] []) rfl (bI (aG b9 (hr.mono (by decide)) (q_a (aL (own:=["row"]) (⟨rfl,by decide +kernel,by decide +kernel,rfl,trivial⟩:CompOk _ _ [] []) rfl (bI (q_v 1)) (fun _ _ _ _=>ax (i:=0) (show (["row"]:List Str).Nodup by decide +kernel)) (ay (by decide)) (fun _ _ _ _=>bp) (fun _ _ _ _=>(ar (eg (K:=K) rfl) (q_v 0) (bS i7)))) (q_a (q_v 1) af)))) (fun _ _ _ _=>ax (i:=0) (show (["under"]:List Str).Nodup by decide +kernel)) (ay (by decide)) (fun _ _ _ _=>bp) (fun _ _ _ _=>(ii (q_v 0)))))) b_0)
   (b_1 (ak (aL (own:=["row"]) (⟨rfl,by decide +kernel,by decide +kernel,rfl,⟨rfl,rfl,trivial⟩⟩:CompOk _ _ [0] ["condition"]) rfl (bI (q_v 1)) (fun _ _ _ _=>ax (i:=0) (show (["row","condition"]:List Str).Nodup by decide +kernel)) (ay (by decide)) (fun _ _ _ _=>bp) (fun _ _ _ _=>(aG h8 (hr.mono (by decide)) (q_a (q_v 1) (q_a (q_v 0) af)))))))))))))),?_⟩
 rcases hcf with⟨cd,hc,rfl⟩|⟨b,g',e1,hb,rfl⟩|⟨w,p,bs,e1,e2,hbs,hb,rfl⟩
 rotate_left
 ·
  refine⟨_,rfl,c,_,_,_,rfl,rfl,SqT.of e1,rfl,?_⟩;refine⟨_,rfl,rfl,_,rfl,ne "not" _ (by decide +kernel) ⟨_,rfl,rfl,_,rfl,ne "not" _ (by decide +kernel) ⟨_,rfl,rfl,_,rfl,aH rfl ?_⟩⟩⟩;refine⟨_,rfl,c,_,_,_,rfl,rfl,SqT.of e1,rfl,_,rfl,b,l,L,g',rfl,hb,hL,hz,gd,fun p1 H1 s1 e3=>?_⟩;refine⟨p1,rfl,⟨_,SqL.of e3⟩,?_⟩;refine be (xs:=bls L.length g') (fun k=>.bl (!g' k)) (by rw[bg];omega) (SqL.of e3) (fun k x H3 hx s3 R kk=>?_) (fun p3 H3 s3 g3=>?_)
  ·have hk:k<L.length:=by have:=(Zk.mp hx).1;rw[bg]at this;exact this
   rw[eQ hk]at hx;cases hx;exact⟨_,rfl,_,rfl,kk H3 (Same.refl H3)⟩
  ·rw[bg];exact q p3 _ (s1.trans (s3.trans (ad g3 _))) aa
 ·
  cases w with
  |true =>
   refine⟨_,rfl,c,_,_,_,rfl,rfl,SqT.of e1,rfl,?_⟩;refine⟨_,rfl,rfl,_,rfl,ne "and" _ (by decide +kernel) ⟨_,rfl,rfl,_,rfl,aH rfl ?_⟩⟩;refine⟨_,rfl,c,_,_,_,rfl,rfl,SqT.of e1,rfl,p,rfl,⟨_,SqT.of e2⟩,?_⟩;refine ge (L:=L) (bs:=bs) e2 (by omega) (fun j x H1 hx s1 R kk=>?_) (fun pp H1 s1 hQ=>?_)
   ·exact⟨_,rfl,_,rfl,x.1,l,L,x.2,rfl,(hb x (Z1 hx)).ts (Same.ts s1),hL.same s1,hz,gd,kk⟩
   ·refine⟨_,rfl,l,_,rfl,.inl (SqL.of (hL.same s1).1),_,rfl,by rw[ah];omega,by rw[ah];omega,?_⟩;rw[ah,show((L.length:Int)).toNat=L.length by omega];refine ck (N:=L.length) (lo:=0) (fun k=>.bl (pV (vals bs) k)) (by omega) (fun k H2 hk s2 R kk=>?_) (fun p2 H2 s2 g2=>q p2 _ (s1.trans (s2.trans (ad g2 _))) aa);refine⟨_,rfl,_,rfl,pp,L.length,k,vals bs,(show[V.ref pp,V.int (0+(k:Int))]=[V.ref pp,V.int (k:Int)] by rw[Int.zero_add]),hQ.same s2,hk,by rw[aT];omega,fun p4 H4 s4 e4=>?_⟩;refine⟨p4,_,rfl,SqL.of e4,?_⟩;rw[show((vals bs).map fun g=>g k).all id=pV (vals bs) k by rw[List.all_map];rfl];exact kk H4 s4
  |false =>
   refine⟨_,rfl,c,_,_,_,rfl,rfl,SqT.of e1,rfl,?_⟩;refine⟨_,rfl,rfl,_,rfl,aH rfl ?_⟩;refine⟨_,rfl,c,_,_,_,rfl,rfl,SqT.of e1,rfl,p,rfl,⟨_,SqT.of e2⟩,?_⟩;refine ge (L:=L) (bs:=bs) e2 (by omega) (fun j x H1 hx s1 R kk=>?_) (fun pp H1 s1 hQ=>?_)
   ·exact⟨_,rfl,_,rfl,x.1,l,L,x.2,rfl,(hb x (Z1 hx)).ts (Same.ts s1),hL.same s1,hz,gd,kk⟩
   ·refine⟨_,rfl,l,_,rfl,.inl (SqL.of (hL.same s1).1),_,rfl,by rw[ah];omega,by rw[ah];omega,?_⟩;rw[ah,show((L.length:Int)).toNat=L.length by omega];refine ck (N:=L.length) (lo:=0) (fun k=>.bl (pW (vals bs) k)) (by omega) (fun k H2 hk s2 R kk=>?_) (fun p2 H2 s2 g2=>q p2 _ (s1.trans (s2.trans (ad g2 _))) aa);refine⟨_,rfl,_,rfl,pp,L.length,k,vals bs,(show[V.ref pp,V.int (0+(k:Int))]=[V.ref pp,V.int (k:Int)] by rw[Int.zero_add]),hQ.same s2,hk,by rw[aT];omega,fun p4 H4 s4 e4=>?_⟩;refine⟨p4,_,rfl,SqL.of e4,?_⟩;rw[show((vals bs).map fun g=>g k).any id=pW (vals bs) k by rw[List.any_map];rfl];exact kk H4 s4
 obtain⟨rest,eh⟩:=hc.head;refine⟨_,rfl,c,_,_,_,rfl,rfl,SqT.of eh,at0,?_⟩;by_cases al:fz cd=true
 ·obtain⟨n1,n2,n3,n4,n5,n6⟩:=jX al;refine⟨_,rfl,rfl,_,rfl,aU n1 ⟨_,rfl,rfl,_,rfl,aU n2 ⟨_,rfl,rfl,_,rfl,aU n3 ⟨_,rfl,rfl,_,rfl,aU n4 ⟨_,rfl,rfl,_,rfl,aU n5 ⟨_,rfl,rfl,_,rfl,aU n6 ?_⟩⟩⟩⟩⟩⟩;refine⟨_,rfl,l,rfl,⟨_,SqL.of hL.1⟩,?_⟩;refine be (xs:=am L) (fun k=>.bl (iH L cd k)) (by rw[ah];omega) (SqL.of hL.1) (fun k x H1 hx s1 R kk=>?_) (fun p1 H1 s1 g1=>?_)
  ·obtain⟨hk,rfl⟩:=cg hx;have kk':=kk H1 (Same.refl H1);rw[iI al]at kk';exact⟨_,rfl,_,rfl,c,bK L k,cd,aX L k,rfl,hc.ts (Same.ts s1),al,(hL.at hk).ts (Same.ts s1),kk'⟩
  ·rw[ah];exact q p1 _ (s1.trans (ad g1 _)) aa
 cases cd with
 |leaf =>refine⟨_,rfl,rfl,_,rfl,ne _ _ (by decide +kernel) ⟨_,rfl,rfl,_,rfl,ne _ _ (by decide +kernel) ⟨_,rfl,rfl,_,rfl,ne _ _ (by decide +kernel) ⟨_,rfl,rfl,_,rfl,aH rfl ?_⟩⟩⟩⟩;refine⟨_,rfl,l,_,rfl,.inl (SqL.of hL.1),_,rfl,by rw[ah];omega,by rw[ah];omega,?_⟩;rw[ah,show((L.length:Int)).toNat=L.length by omega];refine ck (N:=L.length) (lo:=0) (fun k=>.bl (jv L k)) (by omega) (fun k H1 hk s1 R kk=>?_) (fun p H1 s1 g1=>q p _ (s1.trans (ad g1 _)) aa);exact⟨_,rfl,_,rfl,l,L,k,(show[V.ref l,V.int (0+(k:Int))]=[V.ref l,V.int (k:Int)] by rw[Int.zero_add]),hL.same s1,hk,kk H1 (Same.refl H1)⟩
 |seen =>
  refine⟨_,rfl,rfl,_,rfl,ne _ _ (by decide +kernel) ⟨_,rfl,rfl,_,rfl,ne _ _ (by decide +kernel) ⟨_,rfl,rfl,_,rfl,ne _ _ (by decide +kernel) ⟨_,rfl,rfl,_,rfl,ne _ _ (by decide +kernel) ⟨_,rfl,rfl,_,rfl,ne _ _ (by decide +kernel) ⟨_,rfl,rfl,_,rfl,aH rfl ?_⟩⟩⟩⟩⟩⟩;refine⟨_,rfl,l,rfl,⟨_,SqL.of hL.1⟩,?_⟩;refine be (xs:=am L) (fun k=>.bl (aX L k).f) (by rw[ah];omega) (SqL.of hL.1) (fun k x H1 hx s1 R kk=>?_) (fun p1 H1 s1 g1=>?_)
  ·obtain⟨hk,rfl⟩:=cg hx;obtain⟨pn,e1,_⟩:=(hL.at hk).ts (Same.ts s1);exact⟨_,rfl,bK L k,_,_,_,rfl,rfl,SqT.of e1,rfl,kk H1 (Same.refl H1)⟩
  ·rw[ah];have w1:=s1.trans (ad g1 (.lst (bls L.length fun k=>(aX L k).f)));refine⟨_,rfl,p1,l,L,fun k=>(aX L k).f,rfl,hL.same w1,hz,gd,aa,fun p2 H2 n2 s2 e2=>?_⟩;refine⟨p2,rfl,⟨_,SqL.of e2⟩,?_⟩;refine be (xs:=bls L.length (under (dep L) fun k=>(aX L k).f)) (fun k=>.bl (!under (dep L) (fun k=>(aX L k).f) k)) (by rw[bg];omega) (SqL.of e2) (fun k x H3 hx s3 R kk=>?_) (fun p3 H3 s3 g3=>?_)
   ·have hk:k<L.length:=by have:=(Zk.mp hx).1;rw[bg]at this;exact this
    rw[eQ hk]at hx;cases hx;exact⟨_,rfl,_,rfl,kk H3 (Same.refl H3)⟩
   ·rw[bg];exact q p3 _ ((w1.trans s2).trans (s3.trans (ad g3 _))) aa
 |beneath bh bn =>
  obtain⟨pb,eb1,eb2⟩:=hc;refine⟨_,rfl,rfl,_,rfl,ne "beneath" _ (by decide +kernel) ⟨_,rfl,rfl,_,rfl,ne "beneath" _ (by decide +kernel) ⟨_,rfl,rfl,_,rfl,ne "beneath" _ (by decide +kernel) ⟨_,rfl,rfl,_,rfl,ne "beneath" _ (by decide +kernel) ⟨_,rfl,rfl,_,rfl,aH rfl ?_⟩⟩⟩⟩⟩;refine⟨_,rfl,l,rfl,⟨_,SqL.of hL.1⟩,?_⟩;refine be (xs:=am L) (fun k=>.bl (nmB L bh bn k)) (by rw[ah];omega) (SqL.of hL.1) (fun k x H1 hx s1 R kk=>?_) (fun p1 H1 s1 g1=>?_)
  ·obtain⟨hk,rfl⟩:=cg hx;obtain⟨pn,e1,e2,_⟩:=(hL.at hk).ts (Same.ts s1);exact⟨_,rfl,bK L k,_,_,_,rfl,rfl,SqT.of e1,rfl,_,rfl,c,_,_,_,rfl,rfl,SqT.of (s1 _ _ eb1),rfl,pn,pb,_,_,rfl,rfl,e2,s1 _ _ eb2,kk H1 (Same.refl H1)⟩
  ·rw[ah];have w1:=s1.trans (ad g1 (.lst (bls L.length (nmB L bh bn))));exact⟨_,rfl,p1,l,L,nmB L bh bn,rfl,hL.same w1,hz,gd,aa,fun p2 H2 n2 s2 e2=>q p2 H2 (w1.trans s2) e2⟩
 |_=>exact absurd rfl al
def dh(k:Str)(r:Rw):SKey:=if k="text" then .s r.t else if k="size" then .i r.t.length else if k="depth" then .i r.d else .bi r.w.isNone (r.w.getD 0)
def gX:Sp:=fun vs H Q _=>∃(k:Str) (a:Addr) (r:Rw),vs=[.str k,.ref a]/\RR H a r/\r.t.length<=1000/\∀v H',Same H H'->(dh k r).at H' v->Q v H'
def uf(kv:V):Sp:=fun vs H Q E=>∃v,vs=[v]/\gX [kv,v] H Q E
def eW(k:Str)(b:Bool)(L M:LT):Prop :=
 if k="place" then M=katRev b L else∃p:Array Nat,POk L.length p/\LS (fun i j=>HT.lexLt ((katRev b (L.map fun x=>(dh k x.2).nums)).getD i []) ((katRev b (L.map fun x=>(dh k x.2).nums)).getD j [])) p L.length/\M=katRev b (p.toList.map fun i=>(katRev b L).getD i (0,R0))
abbrev eZ:Str:=(("asked":Str)++".<locals>.")++"<lambda>"
def xZ:Stmt->Expr
 |.Return (some e) _=>e
 |.If _ (s::_) _ _=>xZ s
 |_=>.Name "" ⟨0,0,0,0⟩
def Bf:Expr->Expr
 |.Call _ _ (k::_) _=>k.value
 |e=>e
def Be:Expr->Expr
 |.Lambda _ b _ _=>b
 |e=>e
def Bg:Expr->Scope
 |.Lambda _ _ s _=>s
 |_=>default
def iO:Expr->Pos
 |.Lambda _ _ _ p=>p
 |_=>⟨0,0,0,0⟩
abbrev fX:Stmt:=top 13
abbrev pk:List Str:=["key","row"]
theorem oq:FnScope pk ["key","row"] (ai fX):=⟨rfl,rfl,rfl,by decide +kernel,rfl,by decide +kernel,by decide +kernel⟩
theorem om{f:Addr}{fd:FuncData}(F:Fun K "sort_value" "sort_value" fX f fd)(a5:mg "len" = none)(i6:mg "DEPTH" = some (.int 0 tkD))(w9:mg "TEXT" = some (.int 2 tkT))(n8:mg "WHOM" = some (.int 4 tkW)):FnOk P w K mg base CX0 1 f fd ["key","row"] gX:=by
 refine F.okQ oq (fun vs H Q E h=>?_) (fun cdv A outer s H vs Q E hr h=>?_)
 ·obtain⟨k,a,r,rfl,_⟩:=h;rfl
 obtain⟨k,a,r,rfl,⟨p,e1,e2,_⟩,hlen,q⟩:=h;refine⟨_,(b_c (aC (au aK (q_v 0) aj) (b_1 (ak (ar aE (q_v 1) (bS w9)))) b_0)
   (b_c (aC (au aK (q_v 0) aj) (b_1 (ak (q_B uD a5 Zx (q_a (ar aE (q_v 1) (bS w9)) af)))) b_0)
   (b_c (aC (au aK (q_v 0) aj) (b_1 (ak (ar aE (q_v 1) (bS i6)))) b_0)
   (b_1 (ak (cw (q_a (bo oJ (ar aE (q_v 1) (bS n8)) dE) (q_a (tV (au oJ (ar aE (q_v 1) (bS n8)) dE) ag (ar aE (q_v 1) (bS n8))) af)))))))),?_⟩
 have sEq:∀{y:Str},(V.str k=V.str y)=(k=y):=fun{y}=>propext ⟨fun z=>V.str.inj z,fun z=>by rw[z]⟩;unfold dh at q;refine⟨_,rfl,rfl,_,rfl,cX (fun c=>?_) (fun c=>?_)⟩
 ·rw[EN (V.str.inj c)]at q;exact⟨_,rfl,a,_,_,_,rfl,rfl,SqT.of e1,rfl,q _ _ (Same.refl H) rfl⟩
 rw[EM (fun z=>c (by rw[z]))]at q;refine⟨_,rfl,rfl,_,rfl,cX (fun c=>?_) (fun c=>?_)⟩
 ·rw[EN (V.str.inj c)]at q;exact⟨_,rfl,a,_,_,_,rfl,rfl,SqT.of e1,rfl,r.t,rfl,hlen,q _ _ (Same.refl H) rfl⟩
 rw[EM (fun z=>c (by rw[z]))]at q;refine⟨_,rfl,rfl,_,rfl,cX (fun c=>?_) (fun c=>?_)⟩
 ·rw[EN (V.str.inj c)]at q;exact⟨_,rfl,a,_,_,_,rfl,rfl,SqT.of e1,rfl,q _ _ (Same.refl H) rfl⟩
 rw[EM (fun z=>c (by rw[z]))]at q;refine⟨_,rfl,a,_,_,_,rfl,rfl,SqT.of e1,rfl,rfl,_,rfl,a,_,_,_,rfl,rfl,SqT.of e1,rfl,rfl,_,rfl,?_⟩;cases hw:r.w with
 |none =>rw[hw]at e1 q;exact bG ⟨sz rfl,fun p' g'=>q _ _ (ad g' _) ⟨p',rfl,aa⟩⟩
 |some i =>rw[hw]at e1 q;exact aJ ⟨_,rfl,a,_,_,_,rfl,rfl,SqT.of e1,rfl,sz rfl,fun p' g'=>q _ _ (ad g' _) ⟨p',rfl,aa⟩⟩
abbrev gT:Stmt:=top 12
abbrev yV:List Str:=["question","rows","key","told"]
theorem kI:FnScope yV ["question","rows"] (ai gT):=⟨rfl,rfl,rfl,by decide +kernel,rfl,by decide +kernel,by decide +kernel⟩
abbrev eI:Expr:=Bf (xZ ((aR gT).getD 3 (.Pass ⟨0,0,0,0⟩)))
abbrev eJ:Expr:=Bf (xZ ((aR gT).getD 4 (.Pass ⟨0,0,0,0⟩)))
theorem tw(k8:Fn P w K mg base 1 "sort_value" ["key","row"] gX):LamOkX P w K mg base 2 eZ (Be eI) (Bg eI) "row" "key" uf:=by refine⟨⟨rfl,rfl,rfl,rfl,rfl,by decide +kernel,by decide +kernel,by decide⟩,fun f c' c kv A outer s H v Q hr h=>?_⟩;obtain⟨v',e,h⟩:=h;cases e;exact⟨_,(aG k8 (hr.mono (by decide)) (q_a (q_v 1) (q_a (q_v 0) af))),_,rfl,_,rfl,h⟩
theorem tz(k8:Fn P w K mg base 1 "sort_value" ["key","row"] gX):LamOkX P w K mg base 2 eZ (Be eJ) (Bg eJ) "row" "key" uf:=by refine⟨⟨rfl,rfl,rfl,rfl,rfl,by decide +kernel,by decide +kernel,by decide⟩,fun f c' c kv A outer s H v Q hr h=>?_⟩;obtain⟨v',e,h⟩:=h;cases e;exact⟨_,(aG k8 (hr.mono (by decide)) (q_a (q_v 1) (q_a (q_v 0) af))),_,rfl,_,rfl,h⟩
def cJ(L:LT)(g:Nat->Bool):LT:=((List.range L.length).filter g).map fun i=>(bK L i,aX L i)
theorem tY(L:LT)(g:Nat->Bool):am (cJ L g)=((List.range L.length).filter g).map fun i=>V.ref (bK L i):=by unfold am cJ;rw[List.map_map];rfl
theorem gj(L:LT)(g:Nat->Bool):(cJ L g).length<=L.length:=by unfold cJ;rw[Zi];have:=List.length_filter_le g (List.range L.length);rw[List.length_range]at this;exact this
theorem iW{L:LT}{g:Nat->Bool}{x:Addr×Rw}(h:x∈cJ L g):x∈L:=by obtain⟨i,hi,rfl⟩:=y9.mp h;have hi':i<L.length:=List.mem_range.mp (List.mem_filter.mp hi).1;unfold bK aX;rw[Za hi'];exact ZE hi'
def gU(T:Addr):Sp:=fun vs H Q _=>∃(qa c l:Addr) (k:Str) (b:Bool) (L:LT) (g:Nat->Bool) (pos:Pos),vs=[.ref qa,.ref l]/\H qa=some (.tup [.ref c,.str k,.bl b])/\CF L 2 H c g/\LR H l L/\Gd L/\(∀x∈L,x.2.t.length<=1000)/\L.length<=63/\bD eZ T pos H/\(k≠"place"->pos=iO (if b then eI else eJ)) /\
 ∀D H' M,eW k b (cJ L g) M->SameT T H H'->bD eZ T pos H'->H' D=some (.lst (am M))->H D=none->Q (.ref D) H'
theorem bN{q:Str}{T:Addr}{pos:Pos}{H H':Hp}(h:bD q T pos H)(s:Same H H'):bD q T pos H':=by obtain⟨ps,e1,e2,e3⟩:=h;exact⟨ps,s _ _ e1,e2,e3.imp id fun⟨c,z1,z2⟩=>⟨c,z1,s _ _ z2⟩⟩
theorem iQ{H H':Hp}{D:Addr}(s:Same H H')(h:H' D=none):H D=none:=by
 cases e:H D with
 |none=>rfl
 |some o=>rw[s _ _ e]at h;cases h
theorem qJ(b:Bool)(L:LT):am (katRev b L)=katRev b (am L):=by
 cases b
 ·rfl
 ·show am L.reverse=(am L).reverse;unfold am;rw[List.map_reverse]
theorem vZ(b:Bool)(L:LT):∀ps:List Nat,(∀i∈ps,i<L.length)->am (ps.map fun i=>(katRev b L).getD i (0,R0))=ps.map fun i=>(katRev b (am L)).getD i .non:=fun ps h=>by
 rw[<-qJ];unfold am;rw[List.map_map];refine List.map_congr_left fun i hi=>?_;have hi':i<(katRev b L).length:=by rw[PySem.W.kat_len];exact h i hi
 show V.ref ((katRev b L).getD i (0,R0)).1=((katRev b L).map fun x=>V.ref x.1).getD i .non;rw[Zl,Zl,Zm,Za hi'];rfl
theorem kP(k:Str)(L:LT):kL (L.map fun x=>dh k x.2):=by
 unfold kL dh;by_cases h1:k="text"
 ·refine .inr (.inl fun z hz=>?_);obtain⟨x,_,rfl⟩:=y9.mp hz;exact⟨_,EN h1⟩
 by_cases h2:k="size"
 ·refine .inl fun z hz=>?_;obtain⟨x,_,rfl⟩:=y9.mp hz;exact⟨_,by rw[EM h1,EN h2]⟩
 by_cases h3:k="depth"
 ·refine .inl fun z hz=>?_;obtain⟨x,_,rfl⟩:=y9.mp hz;exact⟨_,by rw[EM h1,EM h2,EN h3]⟩
 ·refine .inr (.inr fun z hz=>?_);obtain⟨x,_,rfl⟩:=y9.mp hz;exact⟨_,_,by rw[EM h1,EM h2,EM h3]⟩
theorem yc{T:Addr}{ps:Array Value}{H H':Hp}(h:H T=some (.tbl ps))(s:SameT T H H'):TS H H':=fun a zs e=>s _ _ e fun z=>by rw[z,h]at e;cases e
theorem qk{k:Str}{L:LT}{T:Addr}{l:Addr}{pos:Pos}{H3 H':Hp}{i:Nat}{v:V}{key:SKey}{R:VK}(tab:bD eZ T pos H3)(hL:∀x∈L,RR H3 x.1 x.2)(hlen:∀x∈L,x.2.t.length<=1000)(hv:(am L)[i]?=some v)(hkey:(L.map fun x=>dh k x.2)[i]?=some key)(sm:SameT T H3 H')(kR:∀kv H'',Same H' H''->key.at H'' kv->R kv H''):uf (.str k) [v] H' R E0:=by obtain⟨ps,tP,_⟩:=tab;unfold am at hv;rw[Zm]at hv hkey;obtain⟨x,hx,rfl⟩:=Ya.mp hv;rw[hx]at hkey;cases hkey;have m:=Z1 hx;exact⟨_,rfl,k,x.1,x.2,rfl,(hL x m).ts (yc tP sm),hlen x m,fun v' H'' s'' hat=>kR v' H'' s'' hat⟩
theorem xH{f c0 T:Addr}{fd:FuncData}(F:Fun K "asked" "asked" gT f fd)(hcode:fd.code=.ref c0)(C:CodeHd base c0 T)(B:Blt base mg)(a9:Fn P w K mg base 7 "fitting" ["condition","rows"] (jD 2))(EB:Fn P w K mg base 1 "sort_value" ["key","row"] gX)(DV:mg "zip" = none)(a8:mg "list" = none)(j9:mg "reversed" = none)(DF:mg "sorted" = none):FnOk P w K mg base CX0 8 f fd ["question","rows"] (gU T):=by
 refine F.okC hcode kI (fun vs H Q E h=>?_) (fun A outer s H vs Q E hr h=>?_)
 ·obtain⟨qa,c,l,k,b,L,g,pos,rfl,_⟩:=h;rfl
 obtain⟨qa,c,l,k,b,L0,g,pos,rfl,eq,ec,hL0,gd,hlen0,hz0,tab,hpos,q⟩:=h;refine⟨_,(b_c (aq (i:=2) kI.nd (ar aE (q_v 0) ag))
   (b_c (B8 (j:=3) kI.nd (own:=["row","fits"]) (⟨rfl,by decide +kernel,by decide +kernel,rfl,trivial⟩:CompOk _ _ [] []) rfl (uX DV (q_a (q_v 1) (q_a (aG a9 (hr.mono (by decide)) (q_a (ar aE (q_v 0) ag) (q_a (q_v 1) af))) af))) (fun _ _ _ _=>AT (K:=K) (n:=2) rfl rfl (gE (ax (i:=0) (show (["row","fits"]:List Str).Nodup by decide +kernel)) (gE (ax (i:=1) (show (["row","fits"]:List Str).Nodup by decide +kernel)) sY))) (AV (pX (ay (by decide)) mo (pX (ay (by decide)) mo zm rV) (xt mo rV))) (fun _ _ _ _=>(Du (bO (q_v 1)))) (fun _ _ _ _=>(q_v 0)))
   (b_c (aC (au aK (q_v 2) aj) (b_1 (ak (tV (bO (ar aE (q_v 0) ag)) (nz rfl a8 j9 (q_a (q_v 3) af)) (q_v 3)))) b_0)
   (b_c (aC (bO (ar aE (q_v 0) ag)) (b_1 (ak (xV (j:=2) DF rfl C B (tw EB) (hr.mono (by decide)) (q_a (q_v 3) af) cY rfl rfl rfl rfl))) b_0)
   (b_1 (ak (Ap (j:=2) DF rfl C B (tz EB) (hr.mono (by decide)) (q_a (q_v 3) af) rfl rfl rfl rfl))))))),?_⟩
 refine⟨_,rfl,qa,_,_,_,rfl,rfl,SqT.of eq,rfl,?_⟩;refine⟨_,rfl,_,rfl,qa,_,_,_,rfl,rfl,SqT.of eq,at0,_,rfl,c,l,L0,g,rfl,ec,hL0,hz0,gd,fun p1 H1 s1 e1=>?_⟩;refine⟨l,p1,am L0,_,rfl,SqL.of (s1 _ _ hL0.1),SqL.of e1,by rw[ah,bg],?_⟩;refine wZ (N:=L0.length) g (fun i=>.ref (bK L0 i)) (by omega) (fun i H2 hi s2=>?_) (fun H2 s2=>?_) (fun i H2 x H3 hi s2 y A B kA kB=>?_) (fun p2 H2 s2 g2=>?_)
 ·exact⟨by rw[ah];exact hi,SqL.of (s2 _ _ (s1 _ _ hL0.1)),SqL.of (s2 _ _ e1)⟩
 ·exact⟨by rw[ah],SqL.of (s2 _ _ (s1 _ _ hL0.1)),SqL.of (s2 _ _ e1)⟩
 ·obtain⟨T',p,q',hT,hx,hy,rfl,rfl⟩:=y;have s3:=ad hT (.tup [p,q']);obtain⟨hk,rfl⟩:=cg hx;obtain rfl:q'=V.bl (g i):=by rw[eQ hk]at hy;exact(Zw hy).symm
  refine⟨T',[_,_],rfl,SqT.of aa,rfl,_,[_],rfl,_,[],rfl,rfl,_,rfl,_,rfl,?_⟩;cases hg:g i with
  |true=>exact bG ⟨_,rfl,kA hg _ (hg▸s3)⟩
  |false=>exact aJ (kB hg _ (hg▸s3))
 rw[<-tY];have hlen:∀x∈cJ L0 g,x.2.t.length<=1000:=fun x hx=>hlen0 x (iW hx);have hz:(cJ L0 g).length<=63:=Zr (gj L0 g) hz0;have hLm:∀x∈cJ L0 g,RR H x.1 x.2:=fun x hx=>hL0.2 x (iW hx);generalize cJ L0 g=L at q hlen hz hLm ⊢;have w2:=(s1.trans s2).trans (ad g2 (.lst (am L)));have d2:H p2=none:=iQ (s1.trans s2) g2;have e2:upd H2 p2 (.lst (am L)) p2=some (.lst (am L)):=aa;generalize upd H2 p2 (.lst (am L))=H3 at w2 e2 ⊢;have sEq:∀{y:Str},(V.str k=V.str y)->k=y:=fun{y} z=>V.str.inj z;refine⟨_,rfl,rfl,_,rfl,cX (fun c1=>?_) (fun c1=>?_)⟩
 ·have hk:=sEq c1;subst hk;refine⟨_,rfl,qa,_,_,_,rfl,rfl,SqT.of (w2 _ _ eq),rfl,_,rfl,?_⟩;cases b with
  |true =>refine bG ⟨_,rfl,p2,am L,rfl,SqL.of e2,fun p4 g4=>?_⟩;have w4:=w2.trans (ad g4 (.lst (am L).reverse));refine q p4 _ L.reverse ?_ (.of w4) (bN tab w4) (by rw[aa];unfold am;rw[List.map_reverse]) (iQ w2 g4);unfold eW;rw[EN rfl];rfl
  |false =>refine aJ ⟨_,rfl,?_⟩;refine q p2 _ L ?_ (.of w2) (bN tab w2) e2 d2;unfold eW;rw[EN rfl];rfl
 have hk:k≠"place":=fun z=>c1 (by rw[z]);obtain rfl:=hpos hk;have fin:∀(b':Bool),b=b'->∀(p:Array Nat) (H4:Hp) (D:Addr),POk (am L).length p->LS (fun i j=>HT.lexLt ((katRev b' ((L.map fun x=>dh k x.2).map SKey.nums)).getD i []) ((katRev b' ((L.map fun x=>dh k x.2).map SKey.nums)).getD j [])) p (am L).length->SameT T H3 H4->bD eZ T (iO (if b' then eI else eJ)) H4->H4 D=none ->
   Q (.ref D) (upd H4 D (.lst (katRev b' (p.toList.map fun i=>(katRev b' (am L)).getD i .non)))):=by
  rintro b' rfl p H4 D hp hs sT t4 g4;have hpl:∀i∈p.toList,i<L.length:=fun i hi=>by have:=(hp.mem_iff).mp (Array.mem_toList_iff.mp hi);rw[ah]at this;simpa using this
  have nD:H3 D=none:=by
   cases e:H3 D with
   |none=>rfl
   |some o =>
    by_cases z:D=T
    ·obtain⟨ps,e1,_⟩:=t4;rw[z,e1]at g4;cases g4
    ·rw[sT _ _ e z]at g4;cases g4
  refine q D _ (katRev b (p.toList.map fun i=>(katRev b L).getD i (0,R0))) ?_ ((SameT.of w2).trans (sT.trans (.of (ad g4 _)))) (bN t4 (ad g4 _)) (by rw[aa,qJ,vZ b L _ hpl]) (iQ w2 nD);unfold eW;rw[EM hk];rw[ah]at hp hs;rw[List.map_map]at hs;exact⟨p,hp,hs,rfl⟩
 refine⟨_,rfl,qa,_,_,_,rfl,rfl,SqT.of (w2 _ _ eq),rfl,_,rfl,?_⟩;cases b with
 |true =>
  refine bG ⟨_,rfl,p2,am L,L.map fun x=>dh k x.2,_,rfl,rfl,e2,by rw[ah];omega,by rw[Zi,ah],?_,bN tab w2,fun i v key H' hv hkey sm R kR=>?_,fin true rfl⟩
  ·exact kP k L
  ·exact qk (l:=l) (bN tab w2) (fun x hx=>(hLm x hx).ts (Same.ts w2)) hlen hv hkey sm kR
 |false =>
  refine aJ ⟨_,rfl,p2,am L,L.map fun x=>dh k x.2,_,rfl,rfl,e2,by rw[ah];omega,by rw[Zi,ah],?_,bN tab w2,fun i v key H' hv hkey sm R kR=>?_,fin false rfl⟩
  ·exact kP k L
  ·exact qk (l:=l) (bN tab w2) (fun x hx=>(hLm x hx).ts (Same.ts w2)) hlen hv hkey sm kR
inductive Sp1 where
 |cut (k:Nat)
 |put (k:Nat)(r:Rw)
def lcs:List Rw->List Rw->Nat
 | [],_=>0
 |_::_,[]=>0
 |x::xs,y::ys=>if x=y then lcs xs ys+1 else max (lcs xs (y::ys)) (lcs (x::xs) ys)
termination_by xs ys=>xs.length+ys.length
theorem mz(xs:List Rw):lcs xs []=0:=by cases xs<;>simp[lcs]
theorem qm(ys:List Rw):lcs [] ys=0:=by simp[lcs]
theorem vo{x:Rw}{xs ys:List Rw}:lcs (x::xs) (x::ys)=lcs xs ys+1:=by rw[lcs,EN rfl]
theorem vp{x y:Rw}{xs ys:List Rw}(h:x≠y):lcs (x::xs) (y::ys)=max (lcs xs (y::ys)) (lcs (x::xs) ys):=by rw[lcs,EM h]
def aF:List Rw->List Rw->Nat->List Sp1
 | [],[],_=>[]
 |_::xs,[],n=>.cut n::aF xs [] n
 | [],y::ys,n=>.put n y::aF [] ys (n+1)
 |x::xs,y::ys,n=>if x=y then aF xs ys (n+1)else if lcs (x::xs) ys<=lcs xs (y::ys)then .cut n::aF xs (y::ys) n else .put n y::aF (x::xs) ys (n+1)
termination_by xs ys=>xs.length+ys.length
def app(l:List Rw):Sp1->List Rw
 |.cut k=>l.eraseIdx k
 |.put k r=>l.take k++r::l.drop k
def okS:List Rw->List Sp1->Prop
 |_,[]=>True
 |l,.cut k::s=>k<l.length/\okS (app l (.cut k)) s
 |l,.put k r::s=>k<=l.length/\okS (app l (.put k r)) s
theorem jm(pre:List Rw)(x:Rw)(xs:List Rw):app (pre++x::xs) (.cut pre.length)=pre++xs:=by
 show(pre++x::xs).eraseIdx pre.length=pre++xs;induction pre with
 |nil=>rfl
 |cons p pre ih =>show p::(pre++x::xs).eraseIdx pre.length=p::(pre++xs);rw[ih]
theorem jn(pre:List Rw)(y:Rw)(xs:List Rw):app (pre++xs) (.put pre.length y)=pre++y::xs:=by unfold app;simp
theorem cM:∀(xs ys pre:List Rw),okS (pre++xs) (aF xs ys pre.length)/\(aF xs ys pre.length).foldl app (pre++xs)=pre++ys
 | [],[],pre=>by simp[aF,okS]
 |x::xs,[],pre=>by rw[aF];have ih:=cM xs [] pre;refine⟨⟨by simp,by rw[jm];exact ih.1⟩,?_⟩;rw[Yi,jm];exact ih.2
 | [],y::ys,pre=>by rw[aF];have ih:=cM [] ys (pre++[y]);rw[Zs,ZC,Zv,Zv]at ih;refine⟨⟨by simp,by rw[jn];exact ih.1⟩,?_⟩;rw[Yi,jn];exact ih.2
 |x::xs,y::ys,pre=>by
  rw[aF];by_cases h:x=y
  ·subst h;rw[EN rfl];have ih:=cM xs ys (pre++[x]);rw[Zs,ZC,Zv,Zv]at ih;exact ih
  ·rw[EM h];by_cases c:lcs (x::xs) ys<=lcs xs (y::ys)
   ·rw[EN c];have ih:=cM xs (y::ys) pre;refine⟨⟨by simp,by rw[jm];exact ih.1⟩,?_⟩;rw[Yi,jm];exact ih.2
   ·rw[EM c];have ih:=cM (x::xs) ys (pre++[y]);rw[Zs,ZC,Zv,Zv]at ih;refine⟨⟨by simp,by rw[jn];exact ih.1⟩,?_⟩;rw[Yi,jn];exact ih.2
termination_by xs ys=>xs.length+ys.length
def yD:Sp1->Bool
 |.cut _=>true
 |.put _ _=>false
def ko(s:List Sp1):Nat:=(s.filter yD).length
def kq(s:List Sp1):Nat:=(s.filter fun x=>!yD x).length
theorem nc1{n:Nat}{s:List Sp1}:ko (.cut n::s)=ko s+1:=rfl
theorem nc2{n:Nat}{r:Rw}{s:List Sp1}:ko (.put n r::s)=ko s:=rfl
theorem np1{n:Nat}{s:List Sp1}:kq (.cut n::s)=kq s:=rfl
theorem np2{n:Nat}{r:Rw}{s:List Sp1}:kq (.put n r::s)=kq s+1:=rfl
theorem cO:∀(xs ys:List Rw) (n:Nat),ko (aF xs ys n)+lcs xs ys=xs.length/\kq (aF xs ys n)+lcs xs ys=ys.length
 | [],[],n=>by simp[aF,ko,kq,lcs]
 |x::xs,[],n=>by have ih:=cO xs [] n;rw[mz]at ih ⊢;rw[aF,nc1,np1];simp only[Zq,List.length_nil]at ih ⊢;omega
 | [],y::ys,n=>by have ih:=cO [] ys (n+1);rw[qm]at ih ⊢;rw[aF,nc2,np2];simp only[Zq,List.length_nil]at ih ⊢;omega
 |x::xs,y::ys,n=>by
  rw[aF];by_cases h:x=y
  ·subst h;rw[EN rfl,vo];have ih:=cO xs ys (n+1);simp only[Zq];omega
  ·rw[EM h,vp h];by_cases c:lcs (x::xs) ys<=lcs xs (y::ys)
   ·rw[EN c,Nat.max_eq_left c];have ih:=cO xs (y::ys) n;rw[nc1,np1];simp only[Zq]at ih ⊢;omega
   ·rw[EM c,Nat.max_eq_right (by omega)];have ih:=cO (x::xs) ys (n+1);rw[nc2,np2];simp only[Zq]at ih ⊢;omega
termination_by xs ys=>xs.length+ys.length
theorem lU:∀(xs:List Rw) (n:Nat),aF xs xs n=[]
 | [],n=>by simp[aF]
 |x::xs,n=>by rw[aF,EN rfl];exact lU xs (n+1)
theorem rN(s:List Sp1):ko s+kq s=s.length:=by
 induction s with
 |nil=>rfl
 |cons x s ih =>
  cases x with
  |cut k=>rw[nc1,np1,Zq];omega
  |put k r=>rw[nc2,np2,Zq];omega
def cK(xs ys:List Rw):List Int:=(List.range (ys.length+1)).map fun j=>((lcs xs (ys.drop j):Nat):Int)
theorem du(xs ys:List Rw):(cK xs ys).length=ys.length+1:=by unfold cK;simp
theorem cn{xs ys:List Rw}{j:Nat}(h:j<=ys.length):bj (cK xs ys) j=((lcs xs (ys.drop j):Nat):Int):=by unfold bj cK;rw[Zm,List.getElem?_range (by omega)];rfl
theorem wY{ns:List Int}{i j:Nat}{v:Int}(h:i<ns.length):bj (ns.set i v) j=if j=i then v else bj ns j:=by
 unfold bj;rw[List.getElem?_set];by_cases c:i=j
 ·rw[EN c,EN c.symm,EN (by omega)];rfl
 ·rw[EM c,EM (ZW c)]
theorem mX{a b:List Int}(hl:a.length=b.length)(h:∀i,i<a.length->bj a i=bj b i):a=b:=by refine List.ext_getElem hl fun i i1 i2=>?_;rw[pK i1,pK i2];exact h i i1
theorem fL{ns:List Int}{k:Nat}(h:k<ns.length):atI (ns.map V.int) (k:Int)=some (.int (bj ns k)):=by have:=pC (ns:=ns) (k:=(k:Int)) (by omega) (by omega);rw[show((k:Int)).toNat=k by omega]at this;exact this
theorem B5(n:Nat):(List.replicate n [V.int 0]).flatten=(List.replicate n (0:Int)).map V.int:=by
 induction n with
 |zero=>rfl
 |succ n ih=>rw[ZZ,ZZ,Yl,ih];rfl
theorem pM(n j:Nat):bj (List.replicate n (0:Int)) j=0:=by
 unfold bj;by_cases h:j<n
 ·rw[List.getElem?_replicate,EN h];rfl
 ·rw[List.getElem?_replicate,EM h];rfl
theorem iP{α β:Type}(f:α->β):∀(l:List α) (k:Nat),(l.map f).eraseIdx k=(l.eraseIdx k).map f
 | [],_=>rfl
 |_::_,0=>rfl
 |x::l,k+1=>ZO (f x::·) (iP f l k)
theorem vk{K:PySem.W.Frag}:PySem.W.kitOne K (.type "tuple") (.type "tuple")=some true:=hZ (t:="tuple") (T:="tuple") (b:=true) rfl fun z=>nomatch z
theorem Aw{n:Nat}(h:n<=2000):n<sizeLine:=by rw[sizeLine_eq];omega
def SR(H:Hp)(a:Addr):Sp1->Prop
 |.cut k=>H a=some (.tup [.str "cut",.int (k:Int)])
 |.put k r=>∃b,H a=some (.tup [.str "put",.int (k:Int),.ref b])/\RR H b r
def SL(H:Hp)(l:Addr)(S:List (Addr×Sp1)):Prop:=H l=some (.lst (am S))/\∀x∈S,SR H x.1 x.2
theorem SR.ts{H H':Hp}{a:Addr}{r:Sp1}(x:SR H a r)(e:TS H H'):SR H' a r:=by
 cases r with
 |cut k=>exact e _ _ x
 |put k r =>obtain⟨b,h1,h2⟩:=x;exact⟨b,e _ _ h1,h2.ts e⟩
theorem SL.same{H H':Hp}{l:Addr}{L:List (Addr×Sp1)}(x:SL H l L)(e:Same H H'):SL H' l L:=⟨e _ _ x.1,fun y hy=>(x.2 y hy).ts (Same.ts e)⟩
theorem fF{α:Type}{L:List (Addr×α)}{k:Nat}(h:k<L.length):atI (am L) (k:Int)=some (.ref L[k].1):=cT (by unfold am;rw[Zm,Za h];rfl)
theorem bF{α:Type}{L:List (Addr×α)}{k:Nat}(h:k<L.length):(vals L).drop k=L[k].2::(vals L).drop (k+1):=by unfold vals;rw[List.drop_eq_getElem_cons (by rw[Zi];exact h),List.getElem_map]
def spD:Sp1->PyData
 |.cut k=>.tuple [.str "cut",.int (k:Int)]
 |.put k r=>.tuple [.str "put",.int (k:Int),rwD r]
theorem uP(r s:Rw):PyData.eqv (rwD r) (rwD s)=decide (r=s):=by
 obtain⟨d,h,n,t,b,w,f,ok⟩:=r;obtain⟨d',h',n',t',b',w',f',ok'⟩:=s;have ew:PyData.eqv (whD w) (whD w')=decide (w=w'):=by
  cases w<;>cases w'<;>simp[whD,PyData.eqv]
  rw[Z6];simp
 simp only[rwD,PyData.eqv,PyData.eqvAll,ew,Rw.mk.injEq];rw[Z6];simp only[Zz,ZI,decide_eq_true_eq,Bool.and_true,and_true];constructor
 ·rintro⟨h1,⟨h2,h3⟩,h4,h5,h6,h7⟩;exact⟨by omega,h2,h3,h4,h5,h6,h7⟩
 ·rintro⟨h1,h2,h3,h4,h5,h6,h7⟩;exact⟨by omega,⟨h2,h3⟩,h4,h5,h6,h7⟩
theorem my(r:Rw):(rwD r).canLay0=true/\(rwD r).depth=2:=vn (r:=r) r.ok
theorem SR.dt{H:Hp}{a:Addr}{r:Sp1}(x:SR H a r):Dt H (spD r) (.ref a):=by
 cases r with
 |cut k =>simp only[spD,Dt,DtAll];exact⟨a,_,rfl,.inl x,_,_,rfl,rfl,_,_,rfl,rfl,rfl⟩
 |put k r =>obtain⟨b,h1,h2⟩:=x;have d:=h2.dt;simp only[spD,Dt,DtAll];exact⟨a,_,rfl,.inl h1,_,_,rfl,rfl,_,_,rfl,rfl,_,_,rfl,d,rfl⟩
theorem pS{H:Hp}:∀{L:List (Addr×Sp1)},(∀x∈L,SR H x.1 x.2)->DtAll H ((vals L).map spD) (am L)
 | [],_=>by simp[DtAll,vals,am]
 |x::L,h=>by show DtAll H (spD x.2::(vals L).map spD) (V.ref x.1::am L);simp only[DtAll];exact⟨_,_,rfl,(h x (by simp)).dt,pS fun y hy=>h y (by simp[hy])⟩
theorem SL.dt{H:Hp}{l:Addr}{L:List (Addr×Sp1)}(x:SL H l L):Dt H (.list ((vals L).map spD)) (.ref l):=by simp only[Dt];exact⟨l,_,rfl,.inl x.1,pS x.2⟩
theorem ql(r:Sp1):(spD r).canLay0=true/\(spD r).depth<=3:=by
 cases r with
 |cut k=>exact⟨by simp[spD,PyData.canLay0,PyData.canLayAll0];decide +kernel,by simp[spD,PyData.depth,PyData.depthAll]⟩
 |put k r =>obtain⟨h1,h2⟩:=my r;refine⟨?_,by simp[spD,PyData.depth,PyData.depthAll,h2]⟩;simp[spD,PyData.canLay0,PyData.canLayAll0,h1];decide +kernel
theorem kj{α:Type}(f:α->PyData)(hf:∀x,(f x).canLay0=true/\(f x).depth<=3):∀L:List α,PyData.canLayAll0 (L.map f)=true/\PyData.depthAll (L.map f)<=3
 | []=>⟨rfl,by simp[PyData.depthAll]⟩
 |x::L=>by obtain⟨h1,h2⟩:=kj f hf L;obtain⟨h3,h4⟩:=hf x;simp only[ZS,PyData.canLayAll0,PyData.depthAll,h1,h3];exact⟨rfl,by omega⟩
theorem jS{α:Type}(f:α->PyData)(hf:∀x,(f x).canLay0=true/\(f x).depth<=3)(L:List α):SeqAt.shaped (.list (L.map f))=true:=by obtain⟨h1,h2⟩:=kj f hf L;unfold SeqAt.shaped;rw[Zz];refine⟨by simpa[PyData.canLay0]using h1,decide_eq_true ?_⟩;simp only[PyData.depth];omega
theorem xh{α:Type}(f:α->PyData)(hf:∀x,(f x).canLay0=true/\(f x).depth<=3)(L:List α):PyData.eqv (.list (L.map f)) (.list (L.map f))=true:=SeqAt.eqv_refl _ (by simpa[PyData.canLay0]using(kj f hf L).1)
theorem gv(r:Rw):SeqAt.shaped (rwD r)=true:=by unfold SeqAt.shaped;rw[(my r).1,(my r).2];rfl
def TB(H:Hp)(p:Addr)(xs ys:List Rw):Prop:=∃as:List Addr,H p=some (.lst (as.map V.ref))/\as.length=xs.length+1/\∀(i:Nat) (a:Addr),as[i]?=some a->H a=some (.lst ((cK (xs.drop i) ys).map V.int))
def wj:Sp:=fun vs H Q _=>∃(a l b:Addr) (r:Rw) (L:LT) (rest:List Rw),vs=[.ref a,.ref l,.ref b]/\RR H a r/\LR H l L/\L.length<=300/\H b=some (.lst ((cK rest (vals L)).map V.int))/\∀p H',H p=none->Same H H'->H' p=some (.lst ((cK (r::rest) (vals L)).map V.int))->Q (.ref p) H'
def wg:Sp:=fun vs H Q _=>∃(a l:Addr) (L M:LT),vs=[.ref a,.ref l]/\LR H a L/\LR H l M/\L.length<=300/\M.length<=300/\∀p H',Same H H'->TB H' p (vals L) (vals M)->Q (.ref p) H'
def nC:Sp:=fun vs H Q _=>∃(a l:Addr) (L M:LT),vs=[.ref a,.ref l]/\LR H a L/\LR H l M/\L.length<=300/\M.length<=300/\∀p H' S,H p=none->Same H H'->SL H' p S->vals S=aF (vals L) (vals M) 0->Q (.ref p) H'
def eU:Sp:=fun vs H Q _=>∃(l p:Addr) (L:LT) (S:List (Addr×Sp1)),vs=[.ref l,.ref p]/\LR H l L/\L.length<=300/\SL H p S/\S.length<=600/\okS (vals L) (vals S)/\∀q H' L',Same H H'->LR H' q L'->vals L'=(vals S).foldl app (vals L)->Q (.ref q) H'
abbrev gO:Stmt:=top 17
abbrev rh:List Str:=["row","new","behind","counts","at"]
theorem fZ:FnScope rh ["row","new","behind"] (ai gO):=⟨rfl,rfl,rfl,by decide +kernel,rfl,by decide +kernel,by decide +kernel⟩
theorem qC{f:Addr}{fd:FuncData}(F:Fun K "stay_with" "stay_with" gO f fd)(a5:mg "len" = none)(a6:mg "range" = none)(Ev:mg "max" = none):FnOk P w K mg base CX0 1 f fd ["row","new","behind"] wj:=by
 refine F.okQ fZ (fun vs H Q E h=>?_) (fun cdv A outer s H vs Q E hr h=>?_)
 ·obtain⟨a,l,b,r,L,rest,rfl,_⟩:=h;rfl
 obtain⟨a,l,b,r,L,rest,rfl,hr1,hL,hz,hb,q⟩:=h;have lv:(vals L).length=L.length:=aT L;refine⟨_,(b_c (aq (i:=3) fZ.nd (aw yI (bA (q_a ag af)) (aw bW (q_B ba a5 Zx (q_a (q_v 1) af)) ag)))
   (b_c (io Yk rfl (AZ a6 (q_a (aw tK (q_B ba a5 Zx (q_a (q_v 1) af)) ag) (q_a (tW oV ag) (q_a (tW oV ag) af)))) (ax (i:=4) fZ.nd) (b_1 (aC (au (oH hr.units) (q_v 0) (ar aO (q_v 1) (q_v 4))) (b_1 (yL (aw bW (ar aO (q_v 2) (aw bW (q_v 4) ag)) ag) (yx (q_v 3) (q_v 4) yN))) (b_1 (yL (q_B (CA rfl) Ev wQ (q_a (ar aO (q_v 2) (q_v 4)) (q_a (ar aO (q_v 3) (aw bW (q_v 4) ag)) af))) (yx (q_v 3) (q_v 4) yN))))))
   (b_1 (ak (q_v 3))))),?_⟩
 refine⟨sz rfl,fun p1 g1=>?_⟩;have w1:=ad g1 (.lst [.int 0]);refine⟨_,rfl,l,_,rfl,.inl (SqL.of (w1 _ _ hL.1)),_,_,rfl,rfl,p1,_,_,rfl,rfl,aa,by rw[ah];omega,by rw[ah];omega,bU (by rw[ah];show 1*_<=1000;omega),fun p2 g2=>?_⟩;rw[B5,ah,show((L.length:Int)+1).toNat=L.length+1 by omega];have w2:=w1.trans (ad g2 (.lst ((List.replicate (L.length+1) (0:Int)).map V.int)));have n2:=w1.free g2;refine⟨_,rfl,l,_,rfl,.inl (SqL.of (w2 _ _ hL.1)),_,_,rfl,rfl,_,rfl,_,rfl,_,_,rfl,⟨by rw[ah];omega,by rw[ah];omega,by decide,by decide⟩,?_⟩;rw[ah,show((L.length:Int)-1 - -1).toNat=L.length by omega];refine xn (fun k σ H'=>Same H H'/\∃(o:Option V) (cs:List Int),σ=[some (.ref a),some (.ref l),some (.ref b),some (.ref p2),o]/\H' p2=some (.lst (cs.map V.int))/\cs.length=L.length+1/\∀j,L.length-k<=j->j<=L.length->bj cs j=((lcs (r::rest) ((vals L).drop j):Nat):Int)) ⟨w2,none,_,rfl,aa,by simp,fun j h1 h2=>?_⟩ ?_ ?_
 ·rw[pM,Yb (by omega),mz];rfl
 ·rintro k σ H' hk ⟨sm,o,cs,rfl,ec,lc,hc⟩;obtain⟨jj,hj⟩:∃jj:Nat,jj=L.length-1-k:=⟨_,rfl⟩
  have hjl:jj<L.length:=by omega
  rw[show(L.length:Int)-1-(k:Int)=(jj:Int) by omega];have hrow:=(hL.2 L[jj] (ZE hjl)).ts (Same.ts sm);have hL':=hL.same sm;have e1:((jj:Int)+1)=((jj+1:Nat):Int):=by omega
  refine⟨_,rfl,_,rfl,_,rfl,l,_,_,_,rfl,rfl,SqL.of hL'.1,fF hjl,_,_,(hr1.ts (Same.ts sm)).dt,hrow.dt,gv _,gv _,_,rfl,?_⟩;rw[uP];have fin:∀v:Int,v=((lcs (r::rest) ((vals L).drop jj):Nat):Int)->Same H (upd H' p2 (.lst ((cs.map V.int).set jj (.int v))))/\∃(o:Option V) (cs':List Int),[some (.ref a),some (.ref l),some (.ref b),some (.ref p2),some (V.int (jj:Int))]=[some (.ref a),some (.ref l),some (.ref b),some (.ref p2),o]/\upd H' p2 (.lst ((cs.map V.int).set jj (.int v))) p2=some (.lst (cs'.map V.int))/\cs'.length=L.length+1/\∀j,L.length-(k+1)<=j->j<=L.length->bj cs' j=((lcs (r::rest) ((vals L).drop j):Nat):Int):=fun v hv=>by
   refine⟨cL sm n2,_,cs.set jj v,rfl,by rw[aa,List.map_set],by rw[List.length_set];exact lc,fun j h1 h2=>?_⟩;rw[wY (by omega)];by_cases c:j=jj
   ·rw[EN c,c];exact hv
   ·rw[EM c];exact hc j (by omega) h2
  have hix:ixN (cs.map V.int).length (jj:Int)=some jj:=by unfold ixN;rw[Zi,EN (by omega),EN (by omega)];simp
  refine cX (fun c=>?_) (fun c=>?_)
  ·refine⟨_,rfl,_,rfl,_,_,rfl,rfl,b,_,_,_,rfl,rfl,SqL.of (sm _ _ hb),(by rw[e1];exact fL (by rw[du];omega)),_,_,rfl,rfl,_,rfl,_,rfl,p2,_,_,jj,rfl,rfl,ec,hix,?_⟩;refine fin _ ?_;rw[cn (by omega),bF hjl,c,vo];omega
  ·refine⟨_,rfl,_,rfl,b,_,_,_,rfl,rfl,SqL.of (sm _ _ hb),fL (by rw[du];omega),_,rfl,_,rfl,_,_,rfl,rfl,p2,_,_,_,rfl,rfl,SqL.of ec,(by rw[e1];exact fL (by omega)),_,_,rfl,_,rfl,_,rfl,p2,_,_,jj,rfl,rfl,ec,hix,?_⟩;refine fin _ ?_;rw[cn (by omega),hc (jj+1) (by omega) (by omega),bF hjl,vp c];split<;>omega
 ·rintro σ H' ⟨sm,o,cs,rfl,ec,lc,hc⟩;have e:cs=cK (r::rest) (vals L):=mX (by rw[lc,du,lv]) fun j hj=>by rw[hc j (by omega) (by omega),cn (by omega)]
  rw[e]at ec;exact⟨_,rfl,q p2 H' n2 sm ec⟩
theorem yY{as:List Addr}{n:Nat}{a:Addr}(hl:as.length=n+1)(ha:as[n]?=some a):atI (as.map V.ref) (-1)=some (.ref a):=by unfold atI ixN;rw[Zi,EM (by decide),EN (by omega),Option.bind_some,show(-1+(as.length:Int)).toNat=n by omega,Zm,ha];rfl
theorem Aq{as:List Addr}{ns:List Int}(h:0<ns.length):as.map V.ref≠ns.map V.int:=fun z=>by
 match as,ns,z with
 |_,[],_=>simp at h
 | [],_::_,z=>simp at z
 |_::_,_::_,z=>simp at z
abbrev dN:Stmt:=top 16
abbrev jV:List Str:=["old","new","table","row"]
theorem dI:FnScope jV ["old","new"] (ai dN):=⟨rfl,rfl,rfl,by decide +kernel,rfl,by decide +kernel,by decide +kernel⟩
theorem jH{f:Addr}{fd:FuncData}(F:Fun K "most_that_stay" "most_that_stay" dN f fd)(x6:Fn P w K mg base 1 "stay_with" ["row","new","behind"] wj)(a5:mg "len" = none)(a8:mg "list" = none)(j9:mg "reversed" = none):FnOk P w K mg base CX0 2 f fd ["old","new"] wg:=by
 refine F.okQ dI (fun vs H Q E h=>?_) (fun cdv A outer s H vs Q E hr h=>?_)
 ·obtain⟨a,l,L,M,rfl,_⟩:=h;rfl
 obtain⟨a,l,L,M,rfl,hL,hM,zL,zM,q⟩:=h;have lv:(vals L).length=L.length:=aT L;refine⟨_,(b_c (aq (i:=2) dI.nd (bA (q_a (aw yI (bA (q_a ag af)) (aw bW (q_B ba a5 Zx (q_a (q_v 1) af)) ag)) af)))
   (b_c (io Yk rfl (CK j9 (q_a (q_v 0) af)) (ax (i:=3) dI.nd) (b_1 (bJ (eM (q_v 2) (aG x6 (hr.mono (by decide)) (q_a (q_v 3) (q_a (q_v 1) (q_a (ar aO (q_v 2) (tW oV ag)) af))))))))
   (b_1 (ak (nz rfl a8 j9 (q_a (q_v 2) af)))))),?_⟩
 refine⟨sz rfl,fun p1 g1=>?_⟩;have w1:=ad g1 (.lst [.int 0]);refine⟨_,rfl,l,_,rfl,.inl (SqL.of (w1 _ _ hM.1)),_,_,rfl,rfl,p1,_,_,rfl,rfl,aa,by rw[ah];omega,by rw[ah];omega,bU (by rw[ah];show 1*_<=1000;omega),fun p2 g2=>?_⟩;rw[B5,ah,show((M.length:Int)+1).toNat=M.length+1 by omega];have w2:=w1.trans (ad g2 (.lst ((List.replicate (M.length+1) (0:Int)).map V.int)));have e2:(List.replicate (M.length+1) (0:Int))=cK [] (vals M):=mX (by rw[du,aT];simp) fun j hj=>by rw[pM,cn (by rw[aT];simp at hj;omega),qm];rfl
 rw[e2]at w2 ⊢;have ep2:upd (upd H p1 (.lst [.int 0])) p2 (.lst ((cK [] (vals M)).map V.int)) p2=some (.lst ((cK [] (vals M)).map V.int)):=aa;generalize upd (upd H p1 (.lst [.int 0])) p2 (.lst ((cK [] (vals M)).map V.int))=H2 at w2 ep2 ⊢;refine⟨sz rfl,fun p3 g3=>?_⟩;have w3:=w2.trans (ad g3 (.lst [.ref p2]));have n3:=w2.free g3;have ep3:=ad g3 (.lst [.ref p2]) _ _ ep2;refine⟨_,rfl,a,_,rfl,SqL.of (w3 _ _ hL.1),?_⟩;refine zj (K:=K) (a:=a) (xs:=am L) (fun k σ H'=>Same H H'/\∃(o:Option V) (as:List Addr),σ=[some (.ref a),some (.ref l),some (.ref p3),o]/\H' p3=some (.lst (as.map V.ref))/\as.length=k+1/\∀(i:Nat) (b:Addr),as[i]?=some b->H' b=some (.lst ((cK ((vals L).drop (L.length-i)) (vals M)).map V.int))) ⟨w3,none,[p2],rfl,aa,rfl,fun i b hb=>?_⟩ (fun i σ H' _ z=>SqL.of (z.1 _ _ hL.1)) ?_ ?_
 ·match i,hb with
  |0,hb =>cases hb;rw[Nat.sub_zero,Yb (by omega)];exact ep3
  |i+1,hb=>simp at hb
 ·rintro k x σ H' hx ⟨sm,o,as,rfl,ea,la,ha⟩;have hk:k<L.length:=by have:=(Zk.mp hx).1;rw[Yo,ah]at this;exact this
  have hj:L.length-1-k<L.length:=by omega
  have ex:x=.ref L[L.length-1-k].1:=by rw[Yf (by rw[ah];exact hk),ah]at hx;unfold am at hx;rw[Zm,Za hj]at hx;exact(Zw hx).symm
  subst ex;obtain⟨b,hb⟩:∃b,as[k]?=some b:=⟨as[k]'(by omega),Za (by omega)⟩
  refine⟨_,rfl,.inl ⟨rfl,_,SqL.of ea⟩,_,rfl,_,rfl,_,rfl,_,rfl,p3,_,_,_,rfl,rfl,SqL.of ea,yY la hb,?_⟩;refine⟨L[L.length-1-k].1,l,b,L[L.length-1-k].2,M,_,rfl,(hL.2 _ (ZE hj)).ts (Same.ts sm),hM.same sm,zM,ha k b hb,fun p4 H4 n4 s4 e4=>?_⟩;have e4':H4 p4=some (.lst ((cK ((vals L).drop (L.length-(k+1))) (vals M)).map V.int)):=by rw[show L.length-(k+1)=L.length-1-k by omega,bF hj,show L.length-1-k+1=L.length-k by omega];exact e4
  refine⟨p3,_,_,rfl,rfl,s4 _ _ ea,bq (by rw[Zi];omega),?_⟩;have nb:∀(b':Addr) (xs:List Rw),H4 b'=some (.lst ((cK xs (vals M)).map V.int))->b'≠p3:=fun b' xs z z2=>by rw[z2,s4 _ _ ea]at z;injection z with z;injection z with z;exact Aq (by rw[du];omega) z
  refine⟨cL (sm.trans s4) n3,_,as++[p4],rfl,by rw[aa,ZQ];rfl,by simp[la],fun i b' hb'=>?_⟩;by_cases c:i<as.length
  ·rw[y4 c]at hb';have z:=s4 _ _ (ha i b' hb');rw[ac (nb b' _ z)];exact z
  ·have:i=k+1:=by have:=(Zk.mp hb').1;rw[Zs,ZC]at this;omega
   subst this;rw[ZF (by omega),la,Nat.sub_self]at hb';cases hb';rw[ac (nb p4 _ e4')];exact e4'
 ·rintro σ H' ⟨sm,o,as,rfl,ea,la,ha⟩;rw[ah]at la;refine⟨_,rfl,p3,_,rfl,SqL.of ea,fun p5 g5=>?_⟩;have w5:=ad g5 (.lst (as.map V.ref).reverse);refine q p5 _ (sm.trans w5) ⟨as.reverse,by rw[aa,List.map_reverse],by rw[Yo,la,lv],fun i b hb=>?_⟩;have hi:i<as.length:=by have:=(Zk.mp hb).1;rw[Yo]at this;exact this
  rw[Yf hi]at hb;have:=ha _ b hb;rw[show L.length-(as.length-1-i)=i by omega]at this;exact w5 _ _ this
abbrev cC:Stmt:=top 15
abbrev iC:List Str:=["old","new","stay","changes","old_at","new_at"]
theorem bv:FnScope iC ["old","new"] (ai cC):=⟨rfl,rfl,rfl,by decide +kernel,rfl,by decide +kernel,by decide +kernel⟩
section
variable{f:Addr}{cdv:Value}{A:Around}{outer:List Env}{s:Shared}{H:Hp}{E:XK}
theorem uJ(hr:Room 2 (A.deeper (envOfC "changes_of" (ai cC) s.heap.objs.size f cdv)))(a5:mg "len" = none):∃t,QB (cH CX0 P w K mg base iC "changes_of" (ai cC) f cdv A outer s H E).nox (pD ((aR cC).getD 4 (.Pass ⟨0,0,0,0⟩))) t /\
   ∀(D:Ends) (a l tb c:Addr) (L M:LT) (o n:Nat) (S:List (Addr×Sp1)) (H0 H2:Hp),Same H0 H2->H0 c=none->LR H0 a L->LR H0 l M->TB H0 tb (vals L) (vals M)->L.length<=300->M.length<=300->SL H2 c S->S.length<=600->o<=L.length->n<=M.length->(o<L.length\/n<M.length) ->
    (∀ (o' n':Nat) (S':List (Addr×Sp1)) (H3:Hp),Same H0 H3->SL H3 c S'->o'<=L.length->n'<=M.length->o+n<o'+n'->S'.length+o+n<=S.length+o'+n'->vals S'++aF ((vals L).drop o') ((vals M).drop n') n'=vals S++aF ((vals L).drop o) ((vals M).drop n) n ->
     D.nx [some (.ref a),some (.ref l),some (.ref tb),some (.ref c),some (.int (o':Int)),some (.int (n':Int))] H3) ->
    t D [some (.ref a),some (.ref l),some (.ref tb),some (.ref c),some (.int (o:Int)),some (.int (n:Int))] H2:=by
 refine⟨_,(b_1 (aC (t_w (dZ (au fN (q_v 4) (q_B ba a5 Zx (q_a (q_v 0) af))) (dZ (au fN (q_v 5) (q_B ba a5 Zx (q_a (q_v 1) af))) (eV (au (oH hr.units) (ar aO (q_v 0) (q_v 4)) (ar aO (q_v 1) (q_v 5))))))) (b_c (oO (i:=4) bv.nd ag tm)
   (b_1 (oO (i:=5) bv.nd ag tm))) (b_1 (aC (t_w (eF (au aK (q_v 5) (q_B ba a5 Zx (q_a (q_v 1) af))) (fw (t_w (dZ (au fN (q_v 4) (q_B ba a5 Zx (q_a (q_v 0) af))) (eV (au Dx (ar aO (ar aO (q_v 2) (aw bW (q_v 4) ag)) (q_v 5)) (ar aO (ar aO (q_v 2) (q_v 4)) (aw bW (q_v 5) ag))))))))) (b_c (bJ (eM (q_v 3) (cw (q_a aj (q_a (q_v 5) af)))))
   (b_1 (oO (i:=4) bv.nd ag tm))) (b_c (bJ (eM (q_v 3) (cw (q_a aj (q_a (q_v 5) (q_a (ar aO (q_v 1) (q_v 5)) af))))))
   (b_1 (oO (i:=5) bv.nd ag tm))))))),?_⟩
 intro D a l tb c L M o n S H0 H2 sm nc hL hM hT zL zM hS zS ho hn hon nx;have hL2:=hL.same sm;have hM2:=hM.same sm;have lL:(am L).length=L.length:=ah L;have lM:(am M).length=M.length:=ah M;have vL:(vals L).length=L.length:=aT L;have vM:(vals M).length=M.length:=aT M;have add:∀(q:Addr) (st:Sp1) (H3:Hp),Same H2 H3->SR H3 q st->SL (upd H3 c (.lst (am S++[.ref q]))) c (S++[(q,st)])/\Same H0 (upd H3 c (.lst (am S++[.ref q]))):=fun q st H3 s3 hq=>by
  have hS3:=hS.same s3;refine⟨⟨by rw[aa];unfold am;rw[ZQ];rfl,fun x hx=>?_⟩,cL (sm.trans s3) nc⟩;rcases ZG.mp hx with hx|hx
  ·exact(hS3.2 x hx).ts (dA hS3.1)
  ·rw[Zd.mp hx];exact hq.ts (dA hS3.1)
 have vadd:∀(q:Addr) (st:Sp1),vals (S++[(q,st)])=vals S++[st]:=fun q st=>by unfold vals;rw[ZQ];rfl
 have eo:((o:Int)+1)=((o+1:Nat):Int):=by omega
 have en:((n:Int)+1)=((n+1:Nat):Int):=by omega
 by_cases c1:o<L.length
 ·by_cases c2:n<M.length
  ·have hr1:=(hL2.2 L[o] (ZE c1)).dt;have hr2:=(hM2.2 M[n] (ZE c2)).dt;refine⟨_,rfl,_,rfl,a,_,rfl,.inl (SqL.of hL2.1),_,_,rfl,rfl,_,rfl,aH (by rw[lL];omega) ?_⟩;refine⟨_,rfl,_,rfl,l,_,rfl,.inl (SqL.of hM2.1),_,_,rfl,rfl,_,rfl,aH (by rw[lM];omega) ?_⟩;refine⟨_,rfl,_,rfl,a,_,_,_,rfl,rfl,SqL.of hL2.1,fF c1,_,rfl,_,rfl,l,_,_,_,rfl,rfl,SqL.of hM2.1,fF c2,_,_,hr1,hr2,gv _,gv _,_,rfl,?_⟩;rw[uP];refine cX (fun e=>?_) (fun e=>?_)
   ·refine⟨_,rfl,_,_,rfl,rfl,_,rfl,_,_,rfl,rfl,?_⟩;have:=nx (o+1) (n+1) S H2 sm hS c1 c2 (by omega) (by omega) (by rw[bF c1,bF c2,aF,EN e]);rw[<-eo,<-en]at this;exact this
   ·obtain⟨as,ea,la,ha⟩:=hT;have ix1:o+1<as.length:=by omega
    have ix0:o<as.length:=by omega
    have at1:atI (as.map V.ref) ((o:Int)+1)=some (.ref as[o+1]):=by rw[eo];exact cT (by rw[Zm,Za ix1];rfl)
    have at0:atI (as.map V.ref) (o:Int)=some (.ref as[o]):=cT (by rw[Zm,Za ix0];rfl);have l1:=sm _ _ (ha (o+1) as[o+1] (Za ix1));have l0:=sm _ _ (ha o as[o] (Za ix0));refine⟨_,rfl,_,rfl,l,_,rfl,.inl (SqL.of hM2.1),rfl,_,rfl,aU (fun z=>by injection z with z;rw[lM]at z;omega) ?_⟩;refine⟨_,rfl,_,rfl,a,_,rfl,.inl (SqL.of hL2.1),_,_,rfl,rfl,_,rfl,aH (by rw[lL];omega) ?_⟩;refine⟨_,rfl,_,rfl,_,_,rfl,rfl,tb,_,_,_,rfl,rfl,SqL.of (sm _ _ ea),at1,_,rfl,as[o+1],_,_,_,rfl,rfl,SqL.of l1,fL (by rw[du];omega),_,rfl,_,rfl,tb,_,_,_,rfl,rfl,SqL.of (sm _ _ ea),at0,_,rfl,_,_,rfl,rfl,as[o],_,_,_,rfl,rfl,SqL.of l0,(by rw[en];exact fL (by rw[du];omega)),_,_,rfl,rfl,_,rfl,cX (fun cc=>?_) (fun cc=>?_)⟩
    ·rw[cn (by omega),cn (by omega)]at cc;refine⟨_,rfl,.inl ⟨rfl,_,SqL.of hS.1⟩,_,rfl,sz rfl,fun q g=>?_⟩;have w1:=ad g (.tup [.str "cut",.int (n:Int)]);refine⟨c,_,_,rfl,rfl,w1 _ _ hS.1,bq (by rw[ah];omega),_,rfl,_,_,rfl,rfl,?_⟩;obtain⟨z1,z2⟩:=add q (.cut n) _ w1 aa;have:=nx (o+1) n _ _ z2 z1 c1 hn (by omega) (by simp;omega) (by rw[vadd,Zv,bF c1,bF c2,aF,EM e,<-bF c2,EN (by rw[bF c1]at cc;omega)];rfl);rw[<-eo]at this;exact this
    ·rw[cn (by omega),cn (by omega)]at cc;refine⟨_,rfl,.inl ⟨rfl,_,SqL.of hS.1⟩,_,rfl,_,rfl,_,rfl,l,_,_,_,rfl,rfl,SqL.of hM2.1,fF c2,sz rfl,fun q g=>?_⟩;have w1:=ad g (.tup [.str "put",.int (n:Int),.ref M[n].1]);refine⟨c,_,_,rfl,rfl,w1 _ _ hS.1,bq (by rw[ah];omega),_,rfl,_,_,rfl,rfl,?_⟩;obtain⟨z1,z2⟩:=add q (.put n M[n].2) _ w1 ⟨_,aa,(hM2.2 _ (ZE c2)).ts (Same.ts w1)⟩;have:=nx o (n+1) _ _ z2 z1 ho c2 (by omega) (by simp;omega) (by rw[vadd,Zv,bF c1,bF c2,aF,EM e,<-bF c1,<-bF c2,EM (by rw[bF c1]at cc ⊢;omega)];rfl);rw[<-en]at this;exact this
  ·have e2:n=M.length:=by omega
   refine⟨_,rfl,_,rfl,a,_,rfl,.inl (SqL.of hL2.1),_,_,rfl,rfl,_,rfl,aH (by rw[lL];omega) ?_⟩;refine⟨_,rfl,_,rfl,l,_,rfl,.inl (SqL.of hM2.1),_,_,rfl,rfl,_,rfl,aU (by rw[lM];omega) ?_⟩;refine⟨_,rfl,_,rfl,l,_,rfl,.inl (SqL.of hM2.1),rfl,_,rfl,aH (by rw[lM,e2]) ?_⟩;refine⟨_,rfl,.inl ⟨rfl,_,SqL.of hS.1⟩,_,rfl,sz rfl,fun q g=>?_⟩;have w1:=ad g (.tup [.str "cut",.int (n:Int)]);refine⟨c,_,_,rfl,rfl,w1 _ _ hS.1,bq (by rw[ah];omega),_,rfl,_,_,rfl,rfl,?_⟩;obtain⟨z1,z2⟩:=add q (.cut n) _ w1 aa;have:=nx (o+1) n _ _ z2 z1 c1 hn (by omega) (by simp;omega) (by rw[vadd,Zv,bF c1,Yb (by omega:(vals M).length<=n),aF];rfl);rw[<-eo]at this;exact this
 ·have e1:o=L.length:=by omega
  have c2:n<M.length:=by omega
  refine⟨_,rfl,_,rfl,a,_,rfl,.inl (SqL.of hL2.1),_,_,rfl,rfl,_,rfl,aU (by rw[lL];omega) ?_⟩;refine⟨_,rfl,_,rfl,l,_,rfl,.inl (SqL.of hM2.1),rfl,_,rfl,aU (fun z=>by injection z with z;rw[lM]at z;omega) ?_⟩;refine⟨_,rfl,_,rfl,a,_,rfl,.inl (SqL.of hL2.1),_,_,rfl,rfl,_,rfl,aU (by rw[lL];omega) ?_⟩;refine⟨_,rfl,.inl ⟨rfl,_,SqL.of hS.1⟩,_,rfl,_,rfl,_,rfl,l,_,_,_,rfl,rfl,SqL.of hM2.1,fF c2,sz rfl,fun q g=>?_⟩;have w1:=ad g (.tup [.str "put",.int (n:Int),.ref M[n].1]);refine⟨c,_,_,rfl,rfl,w1 _ _ hS.1,bq (by rw[ah];omega),_,rfl,_,_,rfl,rfl,?_⟩;obtain⟨z1,z2⟩:=add q (.put n M[n].2) _ w1 ⟨_,aa,(hM2.2 _ (ZE c2)).ts (Same.ts w1)⟩;have:=nx o (n+1) _ _ z2 z1 ho c2 (by omega) (by simp;omega) (by rw[vadd,Zv,bF c2,Yb (by omega:(vals L).length<=o),aF];rfl);rw[<-en]at this;exact this
end
theorem nY{f:Addr}{fd:FuncData}(F:Fun K "changes_of" "changes_of" cC f fd)(l5:Fn P w K mg base 2 "most_that_stay" ["old","new"] wg)(a5:mg "len" = none):FnOk P w K mg base CX0 3 f fd ["old","new"] nC:=by
 refine F.okQ bv (fun vs H Q E h=>?_) (fun cdv A outer s H vs Q E hr h=>?_)
 ·obtain⟨a,l,L,M,rfl,_⟩:=h;rfl
 obtain⟨a,l,L,M,rfl,hL,hM,zL,zM,q⟩:=h;obtain⟨tl,htl,hb⟩:=uJ (P:=P) (w:=w) (K:=K) (mg:=mg) (base:=base) (outer:=outer) (s:=s) (H:=H) (E:=E) hr a5;refine⟨_,(b_c (aq (i:=2) bv.nd (aG l5 (hr.mono (by decide)) (q_a (q_v 0) (q_a (q_v 1) af))))
   (b_c (aq (i:=3) bv.nd (bA af))
   (b_c (aq (i:=4) bv.nd ag)
   (b_c (aq (i:=5) bv.nd ag)
   (b_c (mL Yk (t_w (eF (au fN (q_v 4) (q_B ba a5 Zx (q_a (q_v 0) af))) (fw (au fN (q_v 5) (q_B ba a5 Zx (q_a (q_v 1) af)))))) htl)
   (b_1 (ak (q_v 3)))))))),?_⟩
 refine⟨_,rfl,_,rfl,a,l,L,M,rfl,hL,hM,zL,zM,fun tb H1 s1 hT=>?_⟩;refine⟨sz rfl,fun c g=>?_⟩;have w1:=ad g (.lst []);have nc:=s1.free g;refine⟨fun m σ H'=>∃(o n:Nat) (S:List (Addr×Sp1)),m=(L.length-o)+(M.length-n)/\o<=L.length/\n<=M.length/\Same H1 H'/\SL H' c S/\S.length<=o+n/\vals S++aF ((vals L).drop o) ((vals M).drop n) n=aF (vals L) (vals M) 0/\σ=[some (.ref a),some (.ref l),some (.ref tb),some (.ref c),some (.int (o:Int)),some (.int (n:Int))],⟨_,0,0,[],rfl,ZB _,ZB _,w1,⟨aa,fun x hx=>nomatch hx⟩,Zb _,rfl,rfl⟩,?_⟩;rintro m σ H' ⟨o,n,S,rfl,ho,hn,sm,hS,zS,es,rfl⟩;have lL:(am L).length=L.length:=ah L;have lM:(am M).length=M.length:=ah M;have sm0:=s1.trans sm;have go:(o<L.length\/n<M.length)->∃N:St->Hp->Prop,(∀σ' H'',N σ' H''->∃m',m'<(L.length-o)+(M.length-n)/\∃(o' n':Nat) (S':List (Addr×Sp1)),m'=(L.length-o')+(M.length-n')/\o'<=L.length/\n'<=M.length/\Same H1 H''/\SL H'' c S'/\S'.length<=o'+n'/\vals S'++aF ((vals L).drop o') ((vals M).drop n') n'=aF (vals L) (vals M) 0/\σ'=[some (.ref a),some (.ref l),some (.ref tb),some (.ref c),some (.int (o':Int)),some (.int (n':Int))])/\∀D:Ends,tl { D with nx:=N,ct:=N,bk:=D.nx } [some (.ref a),some (.ref l),some (.ref tb),some (.ref c),some (.int (o:Int)),some (.int (n:Int))] H':=fun hon=>by
  refine⟨fun σ' H''=>∃(o' n':Nat) (S':List (Addr×Sp1)),o+n<o'+n'/\o'<=L.length/\n'<=M.length/\Same H1 H''/\SL H'' c S'/\S'.length<=o'+n'/\vals S'++aF ((vals L).drop o') ((vals M).drop n') n'=aF (vals L) (vals M) 0/\σ'=[some (.ref a),some (.ref l),some (.ref tb),some (.ref c),some (.int (o':Int)),some (.int (n':Int))],fun σ' H'' z=>?_,fun D=>?_⟩
  ·obtain⟨o',n',S',z1,z2,z3,z4,z5,z6,z7,z8⟩:=z;exact⟨_,by omega,o',n',S',rfl,z2,z3,z4,z5,z6,z7,z8⟩
  ·refine hb _ a l tb c L M o n S H1 H' sm g (hL.same s1) (hM.same s1) hT zL zM hS (by omega) ho hn hon fun o' n' S' H3 z1 z2 z3 z4 z5 z6 z7=>⟨o',n',S',z5,z3,z4,z1,z2,by omega,by rw[z7];exact es,rfl⟩
 refine⟨_,rfl,_,rfl,a,_,rfl,.inl (SqL.of (sm0 _ _ hL.1)),_,_,rfl,rfl,_,rfl,cX (fun c1=>?_) (fun c1=>?_)⟩
 ·obtain⟨N,n1,n2⟩:=go (.inl (by rw[lL]at c1;omega));exact bG ⟨N,n1,n2 _⟩
 ·refine⟨_,rfl,_,rfl,l,_,rfl,.inl (SqL.of (sm0 _ _ hM.1)),_,_,rfl,rfl,_,rfl,cX (fun c2=>?_) (fun c2=>?_)⟩
  ·obtain⟨N,n1,n2⟩:=go (.inr (by rw[lM]at c2;omega));exact⟨N,n1,n2 _⟩
  ·rw[lL]at c1;rw[lM]at c2;refine⟨_,rfl,q c H' S nc sm0 hS ?_⟩;rw[<-es,Yb (by rw[aT];omega),Yb (by rw[aT];omega)];simp[aF]
theorem tX{L:LT}{k:Nat}:(am L).eraseIdx k=am (L.eraseIdx k):=by unfold am;rw[iP]
theorem xY{L:LT}{k:Nat}{p:Addr}{r:Rw}:(am L).take k++V.ref p::(am L).drop k=am (L.take k++(p,r)::L.drop k):=by unfold am;rw[ZQ,ZS,List.map_take,List.map_drop]
theorem Ca{k n:Nat}(h:k<n):seqIndex? (k:Int) n=some k:=(mr (by unfold ixN;rw[EN (by omega),EN (by omega)];simp)).1
theorem zC{α:Type}{L:List α}{k:Nat}{p x:α}(h:x∈L.take k++p::L.drop k):x∈L\/x=p:=by
 rcases ZG.mp h with h|h
 ·exact .inl (List.mem_of_mem_take h)
 ·rcases Ze.mp h with h|h
  ·exact .inr h
  ·exact .inl (List.mem_of_mem_drop h)
theorem pP(sc:List Int)(lo hi:Option Int):∃cs:List Int,eA (sc.map V.int) lo hi=cs.map V.int/\cs.length<=sc.length:=by unfold eA;refine⟨(sc.drop (HT.sIx (sc.map V.int).length 0 lo)).take (HT.sIx (sc.map V.int).length (sc.map V.int).length hi-HT.sIx (sc.map V.int).length 0 lo),by rw[List.map_take,List.map_drop],?_⟩;rw[Z2,List.length_drop];omega
theorem qw:∀{l:List Rw} {s:List Sp1} {i:Nat} {x:Sp1},okS l s->s[i]?=some x->(∀k,x=.cut k->k<((s.take i).foldl app l).length)/\(∀k r,x=.put k r->k<=((s.take i).foldl app l).length)
 |l,[],i,x,_,e=>by simp at e
 |l,.cut k::s,0,x,h,e=>by cases e;exact⟨fun k' z=>by injection z with z;rw[<-z];exact h.1,fun k' r z=>(nomatch z)⟩
 |l,.put k r::s,0,x,h,e=>by cases e;exact⟨fun k' z=>(nomatch z),fun k' r' z=>by injection z with z _;rw[<-z];exact h.1⟩
 |l,.cut k::s,i+1,x,h,e=>by rw[List.take_succ_cons,Yi];exact qw h.2 e
 |l,.put k r::s,i+1,x,h,e=>by rw[List.take_succ_cons,Yi];exact qw h.2 e
theorem nG{α:Type}{L:List α}{i:Nat}{x:α}(h:L[i]?=some x):L.take (i+1)=L.take i++[x]:=by rw[List.take_succ,h];rfl
abbrev ja:Stmt:=top 46
abbrev uu:List Str:=["_law_rows_here","_law_steps","_law_found","_law_step"]
theorem iu:FnScope uu ["_law_rows_here","_law_steps"] (ai ja):=⟨rfl,rfl,rfl,by decide +kernel,rfl,by decide +kernel,by decide +kernel⟩
theorem tM{f:Addr}{fd:FuncData}(F:Fun K "_law_changed" "_law_changed" ja f fd)(a5:mg "len" = none)(a8:mg "list" = none)(a7:mg "isinstance" = none)(u9:mg "tuple" = none)(k9:mg "int" = none)(Ei:mg "bool" = none):FnOk P w K mg base CX0 1 f fd ["_law_rows_here","_law_steps"] eU:=by
 refine F.okQ iu (fun vs H Q E h=>?_) (fun cdv A outer s H vs Q E hr h=>?_)
 ·obtain⟨l,p,L,S,rfl,_⟩:=h;rfl
 obtain⟨l,p,L,S,rfl,hL,zL,hS,zS,hok,q⟩:=h;refine⟨_,(b_c (aq (i:=2) iu.nd (gH iD a8 cD (q_a (q_v 0) af)))
   (b_c (io Yk rfl (bI (q_v 1)) (ax (i:=3) iu.nd) (b_c (aC (t_w (eF (eO (bO (q_B kW a7 cj (q_a (q_v 3) (q_a (qG u9 kU) af))))) (eF (au fN (q_B ba a5 Zx (q_a (q_v 3) af)) ag) (eF (eO (bO (q_B kW a7 cj (q_a (ar aE (q_v 3) ag) (q_a (qG k9 fG) af))))) (fw (bO (q_B kW a7 cj (q_a (ar aE (q_v 3) ag) (q_a (qG Ei uC) af))))))))) (b_1 (ak dE)) b_0)
   (b_1 (aC (t_w (dZ (au aK (ar aE (q_v 3) ag) aj) (dZ (au aK (q_B ba a5 Zx (q_a (q_v 3) af)) ag) (eV (mQ iR fN ag (ar aE (q_v 3) ag) (q_B ba a5 Zx (q_a (q_v 2) af))))))) (b_1 (bJ (Ao (q_v 2) (ar aE (q_v 3) ag)))) (b_1 (aC (t_w (dZ (au aK (ar aE (q_v 3) ag) aj) (dZ (au aK (q_B ba a5 Zx (q_a (q_v 3) af)) ag) (eV (mQ iR iR ag (ar aE (q_v 3) ag) (q_B ba a5 Zx (q_a (q_v 2) af))))))) (b_1 (bJ (Db (q_v 2) (ar aE (q_v 3) ag) (ar aE (q_v 3) ag)))) (b_1 (ak dE))))))))
   (b_1 (ak (q_v 2))))),?_⟩
 refine⟨_,rfl,l,_,rfl,.inl (SqL.of hL.1),fun p1 g1=>?_⟩;have w1:=ad g1 (.lst (am L));refine⟨_,rfl,p,rfl,⟨_,SqL.of (w1 _ _ hS.1)⟩,?_⟩;refine pU (K:=K) (a:=p) (xs:=am S) (fun i σ H'=>Same H H'/\∃(L':LT) (o:Option V),LR H' p1 L'/\vals L'=((vals S).take i).foldl app (vals L)/\L'.length<=L.length+i/\σ=[some (.ref l),some (.ref p),some (.ref p1),o]) ⟨w1,L,none,⟨aa,fun x hx=>(hL.2 x hx).ts (Same.ts w1)⟩,rfl,Zb _,rfl⟩ (fun i σ H' _ z=>SqL.of (z.1 _ _ hS.1)) ?_ ?_
 ·rintro i x σ H' hx ⟨sm,L',o,hL',ev,zL',rfl⟩;unfold am at hx;rw[Zm]at hx;obtain⟨y,hy,rfl⟩:=Ya.mp hx;have hi:i<S.length:=(Zk.mp hy).1;have hys:(vals S)[i]?=some y.2:=by unfold vals;rw[Zm,hy];rfl
  have hv:=qw hok hys;rw[<-ev,aT]at hv;have hst:=(hS.2 y (Z1 hy)).ts (Same.ts sm);have lr:(am L').length=L'.length:=ah L';cases e2:y.2 with
  |cut k =>
   rw[e2]at hst;have hst':H' y.1=some (.tup [.str "cut",.int (k:Int)]):=hst;have hk:=hv.1 k e2;refine⟨_,rfl,_,"tuple",_,true,rfl,.tup hst',vk,_,rfl,aJ ?_⟩;refine⟨_,rfl,y.1,_,rfl,.inr (SqT.of hst'),_,_,rfl,rfl,_,rfl,aU (by show¬(2:Int)<2;decide) ?_⟩;refine⟨_,rfl,y.1,_,_,_,rfl,rfl,SqT.of hst',rfl,_,"int",_,true,rfl,.int _,sd (H:=H') (v:=V.int (k:Int)) (.int (k:Int)),_,rfl,aJ ?_⟩;refine⟨_,rfl,y.1,_,_,_,rfl,rfl,SqT.of hst',rfl,_,"bool",_,false,rfl,.int _,qg (H:=H') (v:=V.int (k:Int)) (.int (k:Int)),_,rfl,aJ ?_⟩;refine⟨_,rfl,y.1,_,_,_,rfl,rfl,SqT.of hst',rfl,rfl,_,rfl,aH rfl ?_⟩;refine⟨_,rfl,y.1,_,rfl,.inr (SqT.of hst'),rfl,_,rfl,aH rfl ?_⟩;refine⟨_,rfl,y.1,_,_,_,rfl,rfl,SqT.of hst',rfl,_,_,rfl,rfl,_,rfl,aH (by omega) ?_⟩;refine⟨_,rfl,p1,_,rfl,.inl (SqL.of hL'.1),_,_,rfl,rfl,_,rfl,aH (by rw[lr];omega) ?_⟩;refine⟨_,rfl,.inl ⟨rfl,_,SqL.of hL'.1⟩,_,rfl,y.1,_,_,_,rfl,rfl,SqT.of hst',rfl,p1,_,_,k,_,rfl,rfl,hL'.1,by omega,by omega,(by rw[lr];exact Ca hk),(by unfold am;rw[Zm,Za hk];rfl),?_⟩;rw[tX];refine⟨cL sm g1,L'.eraseIdx k,_,⟨aa,fun x hx=>(hL'.2 x (List.mem_of_mem_eraseIdx hx)).ts (dA hL'.1)⟩,?_,?_,rfl⟩
   ·rw[nG hys,List.foldl_append,<-ev,e2];show vals (L'.eraseIdx k)=(vals L').eraseIdx k;unfold vals;rw[iP]
   ·have:=List.length_eraseIdx_le L' k;omega
  |put k r =>
   rw[e2]at hst;obtain⟨b,hst',hrr⟩:=hst;have hk:=hv.2 k r e2;refine⟨_,rfl,_,"tuple",_,true,rfl,.tup hst',vk,_,rfl,aJ ?_⟩;refine⟨_,rfl,y.1,_,rfl,.inr (SqT.of hst'),_,_,rfl,rfl,_,rfl,aU (by show¬(3:Int)<2;decide) ?_⟩;refine⟨_,rfl,y.1,_,_,_,rfl,rfl,SqT.of hst',rfl,_,"int",_,true,rfl,.int _,sd (H:=H') (v:=V.int (k:Int)) (.int (k:Int)),_,rfl,aJ ?_⟩;refine⟨_,rfl,y.1,_,_,_,rfl,rfl,SqT.of hst',rfl,_,"bool",_,false,rfl,.int _,qg (H:=H') (v:=V.int (k:Int)) (.int (k:Int)),_,rfl,aJ ?_⟩;refine⟨_,rfl,y.1,_,_,_,rfl,rfl,SqT.of hst',rfl,rfl,_,rfl,aU (by decide +kernel) ?_⟩;refine⟨_,rfl,y.1,_,_,_,rfl,rfl,SqT.of hst',rfl,rfl,_,rfl,aH rfl ?_⟩;refine⟨_,rfl,y.1,_,rfl,.inr (SqT.of hst'),rfl,_,rfl,aH rfl ?_⟩;refine⟨_,rfl,y.1,_,_,_,rfl,rfl,SqT.of hst',rfl,_,_,rfl,rfl,_,rfl,aH (by omega) ?_⟩;refine⟨_,rfl,p1,_,rfl,.inl (SqL.of hL'.1),_,_,rfl,rfl,_,rfl,aH (by rw[lr];omega) ?_⟩;refine⟨_,rfl,.inl ⟨rfl,_,SqL.of hL'.1⟩,_,rfl,y.1,_,_,_,rfl,rfl,SqT.of hst',rfl,_,rfl,y.1,_,_,_,rfl,rfl,SqT.of hst',rfl,p1,_,_,_,rfl,rfl,hL'.1,Aw (by rw[lr];omega),by omega,(by rw[lr];omega),?_⟩;rw[show((k:Int)).toNat=k by omega,xY (r:=r)];refine⟨cL sm g1,_,_,⟨aa,fun x hx=>?_⟩,?_,?_,rfl⟩
   ·rcases zC hx with hx|rfl
    ·exact(hL'.2 x hx).ts (dA hL'.1)
    ·exact hrr.ts (dA hL'.1)
   ·rw[nG hys,List.foldl_append,<-ev,e2];show vals (L'.take k++(b,r)::L'.drop k)=(vals L').take k++r::(vals L').drop k;unfold vals;rw[ZQ,ZS,List.map_take,List.map_drop]
   ·rw[Zs,Zq,Z2,List.length_drop];omega
 ·rintro σ H' ⟨sm,L',o,hL',ev,zL',rfl⟩;rw[ah,<-aT S,List.take_length]at ev;exact⟨_,rfl,q p1 H' L' sm hL' ev⟩
def nm(k:Str)(L:LT)(i:Nat):List Int:=(dh k (L.getD i (0,R0)).2).nums
def Fol(k:Str)(b:Bool)(L:LT)(u v:Nat):Prop :=
 if k="place" then(if b=true then v<u else u<v)else if b=true then HT.lexLt (nm k L u) (nm k L v)=false/\(HT.lexLt (nm k L v) (nm k L u)=true\/u<v)else HT.lexLt (nm k L v) (nm k L u)=false/\(HT.lexLt (nm k L u) (nm k L v)=true\/u<v)
theorem AQ{k:Str}{b:Bool}{L:LT}{u v:Nat}(h:Fol k b L u v)(g:Fol k b L v u):False:=by
 unfold Fol at h g;split at h
 ·split at h
  ·rw[EN ‹_›,EN ‹_›]at g;omega
  ·rw[EN ‹_›,EM ‹_›]at g;omega
 ·rw[EM ‹_›]at g;split at h
  ·rw[EN ‹_›]at g;obtain⟨h1,h2⟩:=h;obtain⟨g1,g2⟩:=g;rw[g1]at h2;rw[h1]at g2;simp at h2 g2;omega
  ·rw[EM ‹_›]at g;obtain⟨h1,h2⟩:=h;obtain⟨g1,g2⟩:=g;rw[g1]at h2;rw[h1]at g2;simp at h2 g2;omega
theorem sr{R:Nat->Nat->Prop}(as:∀u v,R u v->R v u->False):∀{a b:List Nat},a.Perm b->a.Pairwise R->b.Pairwise R->a=b
 | [],b,p,_,_=>(List.nil_perm.mp p).symm
 |x::a,[],p,_,_=>absurd p.length_eq (by simp)
 |x::a,y::b,p,ha,hb=>by
  have e:x=y:=by
   by_cases e:x=y
   ·exact e
   ·have h1:x∈b:=by
     rcases Ze.mp (p.mem_iff.mp ZA)with z|z
     ·exact absurd z e
     ·exact z
    have h2:y∈a:=by
     rcases Ze.mp (p.mem_iff.mpr ZA)with z|z
     ·exact absurd z.symm e
     ·exact z
    exact(as _ _ ((List.pairwise_cons.mp ha).1 _ h2) ((List.pairwise_cons.mp hb).1 _ h1)).elim
  subst e;rw[sr as (List.perm_cons _ |>.mp p) (List.pairwise_cons.mp ha).2 (List.pairwise_cons.mp hb).2]
def mH(L:LT)(ix:List Nat):LT:=ix.map fun i=>L.getD i (0,R0)
theorem lH(L:LT):mH L (List.range L.length)=L:=by
 refine List.ext_getElem? fun i=>?_;unfold mH;rw[Zm];by_cases h:i<L.length
 ·rw[List.getElem?_range h];show some (L.getD i (0,R0))=_;rw[Zl,Za h];rfl
 ·rw[Ye (by simpa using h),Ye (by omega)];rfl
theorem ya(L:LT){i:Nat}(h:i<L.length):L.reverse.getD i (0,R0)=L.getD (L.length-1-i) (0,R0):=by rw[Zl,Zl,Yf h]
theorem qt(k:Str)(L:LT){i:Nat}(h:i<L.length):(L.map fun x=>(dh k x.2).nums).getD i []=nm k L i:=by unfold nm;rw[Zl,Zl,Zm,Za h];rfl
theorem vD(k:Str)(L:LT){i:Nat}(h:i<L.length):(L.map fun x=>(dh k x.2).nums).reverse.getD i []=nm k L (L.length-1-i):=by rw[<-qt k L (by omega),Zl,Zl,Yf (by rw[Zi];exact h),Zi]
theorem mR{k:Str}{b:Bool}{L M:LT}(h:eW k b L M):∃ix:List Nat,ix.Perm (List.range L.length)/\ix.Pairwise (Fol k b L)/\M=mH L ix:=by
 unfold eW at h;by_cases hk:k="place"
 ·rw[EN hk]at h;cases b with
  |false =>refine⟨List.range L.length,.refl _,List.pairwise_lt_range.imp fun{u v} z=>?_,by rw[lH];exact h⟩;unfold Fol;rw[EN hk,EM (by decide)];exact z
  |true =>
   refine⟨(List.range L.length).reverse,List.reverse_perm _,List.pairwise_reverse.mpr (List.pairwise_lt_range.imp fun{u v} z=>?_),?_⟩
   ·unfold Fol;rw[EN hk,EN rfl];exact z
   ·unfold mH;rw[List.map_reverse,show(List.range L.length).map (fun i=>L.getD i (0,R0))=L from lH L];exact h
 ·rw[EM hk]at h;obtain⟨p,hp,hs,hM⟩:=h;have hpl:p.toList.Perm (List.range L.length):=by have:p.Perm (List.range L.length).toArray:=hp;simpa using this.toList
  have hlt:∀i∈p.toList,i<L.length:=fun i hi=>by have:=hpl.mem_iff.mp hi;simpa using this
  have hsz:p.size=L.length:=by have:=hpl.length_eq;simpa using this
  have hg:∀a (ha:a<p.toList.length),gA p a=p.toList[a]:=fun a ha=>by unfold gA;rw[ZM]at ha;simp[ha]
  cases b with
  |false =>refine⟨p.toList,hpl,List.pairwise_iff_getElem.mpr fun a c ha hc hac=>?_,hM⟩;have:=hs a c hac (by rw[<-hsz];simpa using hc);rw[hg a ha,hg c hc]at this;obtain⟨h1,h2⟩:=this;have e1:=qt k L (hlt _ (ZE ha));have e2:=qt k L (hlt _ (ZE hc));unfold Fol;rw[EM hk,EM (by decide),<-e1,<-e2];exact⟨h1,h2⟩
  |true =>
   refine⟨(p.toList.map fun i=>L.length-1-i).reverse,?_,List.pairwise_reverse.mpr (List.pairwise_map.mpr (List.pairwise_iff_getElem.mpr fun a c ha hc hac=>?_)),?_⟩
   ·refine(List.reverse_perm _).trans ((hpl.map _).trans ?_);have e:((List.range L.length).map fun i=>L.length-1-i)=(List.range L.length).reverse:=by refine List.ext_getElem (by simp) fun i h1 h2=>?_;simp at h1 ⊢
    rw[e];exact List.reverse_perm _
   ·have:=hs a c hac (by rw[<-hsz];simpa using hc);rw[hg a ha,hg c hc]at this;obtain⟨h1,h2⟩:=this;have l1:=hlt _ (ZE ha);have l2:=hlt _ (ZE hc);have e1:=vD k L l1;have e2:=vD k L l2;unfold Fol;rw[EM hk,EN rfl,<-e1,<-e2];refine⟨h1,h2.imp id fun z=>?_⟩;omega
   ·rw[hM];show(p.toList.map fun i=>L.reverse.getD i (0,R0)).reverse=_;unfold mH;rw[List.map_reverse,List.map_map];congr 1;refine List.map_congr_left fun i hi=>?_;exact ya L (hlt i hi)
theorem ji{k:Str}{b:Bool}{L M M':LT}(h:eW k b L M)(g:eW k b L M'):M=M':=by obtain⟨ix,p1,w1,rfl⟩:=mR h;obtain⟨iy,p2,w2,rfl⟩:=mR g;rw[sr (fun u v a b=>AQ a b) (p1.trans p2.symm) w1 w2]
def wm:Sp:=fun vs H Q _=>∃n:Int,vs=[.int n]/\∀(t:Str) H',Same H H'->PyData.strOk t=true->t.length<=63->Q (.str t) H'
def Len(L:LT):Prop:=∀x∈L,x.2.t.length<=1000
def lS:Sp:=fun vs H Q _=>∃(a:Addr) (cs:List Int),vs=[.ref a]/\H a=some (.lst (cs.map V.int))/\cs.length<=50/\∀p H' L,H p=none->Same H H'->LR H' p L->L.length=cs.length->Gd L->Len L->Q (.ref p) H'
abbrev iZ:Stmt:=top 43
abbrev ur:List Str:=["_law_script","_law_k"]
theorem tZ:FnScope ur ["_law_script","_law_k"] (ai iZ):=⟨rfl,rfl,rfl,by decide +kernel,rfl,by decide +kernel,by decide +kernel⟩
theorem tL{f:Addr}{fd:FuncData}(F:Fun K "_law_cell_at" "_law_cell_at" iZ f fd)(a5:mg "len" = none):FnOk P w K mg base CX0 1 f fd ["_law_script","_law_k"] (gW K):=by
 refine F.okQ tZ (fun vs H Q E h=>?_) (fun cdv A outer s H vs Q E hr h=>?_)
 ·obtain⟨a,ns,k,rfl,_⟩:=h;rfl
 obtain⟨a,ns,k,rfl,hS,h0,q⟩:=h;refine⟨_,(b_c (aC (au fN (q_v 1) (q_B ba a5 Zx (q_a (q_v 0) af))) (b_1 (ak (ar aO (q_v 0) (q_v 1)))) b_0)
   (b_1 (ak ag))),?_⟩
 refine⟨_,rfl,_,rfl,a,_,rfl,.inl hS,_,_,rfl,rfl,_,rfl,?_⟩;refine A6 (fun c=>?_) (fun c=>?_)
 ·have c':k<((ns.map V.int).length:Int):=of_decide_eq_true c;rw[Zi]at c';exact⟨_,rfl,_,rfl,a,_,_,_,rfl,rfl,hS,pC h0 c',q⟩
 ·have c':¬k<((ns.map V.int).length:Int):=of_decide_eq_false (Yt.mpr c);rw[Zi]at c';rw[wW h0 c']at q;exact q
theorem mC(x y:Str):(x++y).length=x.length+y.length:=by show(x.cps++y.cps).size=_;rw[Array.size_append];rfl
theorem vK{x y:Str}(h1:PyData.strOk x=true)(h2:PyData.strOk y=true):PyData.strOk (x++y)=true:=by show(x.cps++y.cps).all (·<0x110000)=true;rw[Array.all_append,Zz];exact⟨h1,h2⟩
theorem vN{x y:Str}(h:PyData.strOk x=true)(hs:∀c∈y.cps.toList,c∈x.cps.toList):PyData.strOk y=true:=by unfold PyData.strOk at h ⊢;rw[<-Yq,Z3]at h ⊢;exact fun c hc=>h c (hs c hc)
abbrev qQ:Stmt:=top 44
abbrev AD:List Str:=["_law_number","_law_some"]
theorem sw:FnScope AD ["_law_number"] (ai qQ):=⟨rfl,rfl,rfl,by decide +kernel,rfl,by decide +kernel,by decide +kernel⟩
theorem zJ{f:Addr}{fd:FuncData}(F:Fun K "_law_text" "_law_text" qQ f fd):FnOk P w K mg base CX0 1 f fd ["_law_number"] wm:=by
 refine F.okQ sw (fun vs H Q E h=>?_) (fun cdv A outer s H vs Q E hr h=>?_)
 ·obtain⟨n,rfl,_⟩:=h;rfl
 obtain⟨n,rfl,q⟩:=h;refine⟨_,(b_c (aq (i:=1) sw.nd (bA (q_a aj (q_a aj (q_a aj (q_a aj (q_a aj (q_a aj (q_a aj (q_a aj (q_a aj (q_a aj (q_a aj (q_a aj af))))))))))))))
   (b_c (aC (au aK (aw bH (aw cm (q_v 0) ag) ag) ag) (b_1 (ak (aw fM (aw fM (aw vG aj (aw bH (aw cm (q_v 0) ag) ag)) (ar aO (q_v 1) (aw bH (q_v 0) ag))) (aw vG aj (aw bH (aw cm (q_v 0) ag) ag))))) b_0)
   (b_1 (ak (ar aO (q_v 1) (aw bH (q_v 0) ag)))))),?_⟩
 refine⟨sz rfl,fun p g=>?_⟩;have w1:=ad g (.lst [.str "",.str "a",.str "b",.str "ab",.str "b a",.str "a b c",.str "B",.str "ab ab",.str "or",.str "not a",.str "( a )",.str "a(b"]);have k0:=ZR n (show(12:Int)≠0 by decide);have k1:=ZX n (show(0:Int)<12 by decide);obtain⟨t,ht,hok,hlen⟩:∃t:Str,atI [V.str "",.str "a",.str "b",.str "ab",.str "b a",.str "a b c",.str "B",.str "ab ab",.str "or",.str "not a",.str "( a )",.str "a(b"] (n%12)=some (.str t)/\PyData.strOk t=true/\t.length<=5:=by
  have:n%12=0\/n%12=1\/n%12=2\/n%12=3\/n%12=4\/n%12=5\/n%12=6\/n%12=7\/n%12=8\/n%12=9\/n%12=10\/n%12=11:=by omega
  rcases this with e|e|e|e|e|e|e|e|e|e|e|e<;>rw[e]<;>exact⟨_,rfl,by decide +kernel,by decide +kernel⟩
 have j0:=ZR (n / 60) (show(30:Int)≠0 by decide);have j1:=ZX (n / 60) (show(0:Int)<30 by decide);refine⟨_,rfl,_,_,rfl,rfl,⟨by decide,by decide⟩,_,_,rfl,rfl,(by show(0:Int)<5;decide),rfl,_,rfl,Dv (fun c=>?_) (fun c=>?_)⟩
 ·refine⟨_,rfl,_,_,rfl,rfl,⟨by decide,by decide⟩,_,_,rfl,rfl,(by show(0:Int)<30;decide),"a",_,rfl,rfl,(by decide +kernel),j0,by omega,fun y ly hy=>?_⟩;refine⟨_,rfl,_,rfl,_,_,rfl,rfl,(by show(0:Int)<12;decide),p,_,_,_,rfl,rfl,SqL.of aa,ht,_,_,rfl,rfl,bU (by rw[ly];omega),?_⟩;refine⟨_,rfl,_,_,rfl,rfl,⟨by decide,by decide⟩,_,_,rfl,rfl,(by show(0:Int)<30;decide),"b",_,rfl,rfl,(by decide +kernel),j0,by omega,fun z lz hz=>?_⟩;refine⟨_,_,rfl,rfl,bU (by rw[mC,ly,lz];omega),q _ _ w1 (vK (vK (vN (by decide +kernel) hy) hok) (vN (by decide +kernel) hz)) (by rw[mC,mC,ly,lz];omega)⟩
 ·exact⟨_,rfl,_,rfl,_,_,rfl,rfl,(by show(0:Int)<12;decide),p,_,_,_,rfl,rfl,SqL.of aa,ht,q _ _ w1 hok (by omega)⟩
theorem jB{L:LT}{x:Addr×Rw}{j:Nat}(h:j<L.length):aX (L++[x]) j=aX L j:=by unfold aX;rw[y4 h]
theorem kH{L:LT}{x:Addr×Rw}:aX (L++[x]) L.length=x.2:=by unfold aX;rw[ZF (Zb _),Nat.sub_self];rfl
def nxt(L:LT):Nat:=match L.length with
 |0=>0
 |k+1=>dep L k+1
theorem uU{L:LT}{x:Addr×Rw}(g:Gd L)(hd:x.2.d<=nxt L):Gd (L++[x])/\nxt (L++[x])=x.2.d+1:=by
 unfold nxt at hd;unfold Gd oX nxt dep at *;rw[Zs,ZC];refine⟨⟨?_,fun k hk=>?_⟩,?_⟩
 ·match hL:L.length,hd with
  |0,hd =>
   have:aX (L++[x]) 0=x.2:=by rw[<-hL];exact kH
   rw[this];exact Nat.le_zero.mp hd
  |n+1,hd=>rw[jB (by omega)];exact g.1
 ·by_cases c:k+1<L.length
  ·rw[jB c,jB (by omega)];exact g.2 k c
  ·have e:k+1=L.length:=by omega
   rw[e,kH,jB (by omega)];rw[<-e]at hd;exact hd
 ·show(aX (L++[x]) L.length).d+1=_;rw[kH]
abbrev qP:Stmt:=top 45
abbrev AC:List Str:=["_law_cells","_law_rows_here","_law_deepest","_law_k","_law_cell","_law_number","_law_depth","_law_name","_law_whom"]
theorem cW:FnScope AC ["_law_cells"] (ai qP):=⟨rfl,rfl,rfl,by decide +kernel,rfl,by decide +kernel,by decide +kernel⟩
theorem zI{f:Addr}{fd:FuncData}(F:Fun K "_law_rows" "_law_rows" qP f fd)(Ej:Fn P w K mg base 1 "_law_text" ["_law_number"] wm)(x8:mg "enumerate" = none)(Ew:mg "min" = none)(k9:mg "int" = none):FnOk P w K mg base CX0 2 f fd ["_law_cells"] lS:=by
 refine F.okQ cW (fun vs H Q E h=>?_) (fun cdv A outer s H vs Q E hr h=>?_)
 ·obtain⟨a,cs,rfl,_⟩:=h;rfl
 obtain⟨a,cs,rfl,hS,hz,q⟩:=h;refine⟨_,(b_c (aq (i:=1) cW.nd (bA af))
   (b_c (aq (i:=2) cW.nd ag)
   (b_c (io Yk rfl (AY x8 (q_a (q_v 0) af)) (oF rfl (gE (ax (i:=3) cW.nd) (gE (ax (i:=4) cW.nd) sY))) (b_c (aq (i:=5) cW.nd (aw bH (aw tJ (aw bH (q_v 4) ag) ag) ag))
   (b_c (aq (i:=6) cW.nd (aw tK (q_v 2) (q_B (CB rfl) Ew wR (q_a (aw bH (q_v 4) ag) (q_a (q_v 2) af)))))
   (b_c (aq (i:=7) cW.nd (cw (q_a (aw bH (q_v 5) ag) (q_a (aw bW ag (ar aO (bA (q_a (q_v 3) (q_a (aw tK ag (q_v 3)) af))) (aw bH (aw cm (q_v 5) ag) ag))) af))))
   (b_c (aq (i:=8) cW.nd (ar aO (bA (q_a dE (q_a (aw bH (aw cm (q_v 5) ag) ag) af))) (gH Cz k9 fG (q_a (bo Dy (aw bH (aw cm (q_v 5) ag) ag) ag) af))))
   (b_c (bJ (eM (q_v 1) (cw (q_a (q_v 6) (q_a (q_v 7) (q_a (aG Ej (hr.mono (by decide)) (q_a (aw cm (q_v 4) ag) af)) (q_a (bo aK (aw bH (aw cm (q_v 5) ag) ag) ag) (q_a (q_v 8) (q_a (bo aK (aw bH (aw cm (q_v 5) ag) ag) ag) af)))))))))
   (b_1 (aq (i:=2) cW.nd (aw bW (q_v 6) ag)))))))))
   (b_1 (ak (q_v 1)))))),?_⟩
 refine⟨sz rfl,fun p g=>?_⟩;have w1:=ad g (.lst []);refine⟨_,rfl,a,_,rfl,w1 _ _ hS,?_⟩;refine xo (K:=K) (xs:=cs.map V.int) (fun k σ H'=>Same H H'/\∃(L:LT) (o3 o4 o5 o6 o7 o8:Option V),LR H' p L/\L.length=k/\Gd L/\Len L/\σ=[some (.ref a),some (.ref p),some (.int (nxt L:Int)),o3,o4,o5,o6,o7,o8]) ⟨w1,[],none,none,none,none,none,none,⟨aa,fun x hx=>nomatch hx⟩,rfl,⟨rfl,fun k hk=>absurd hk (Nat.not_lt_zero _)⟩,(fun x hx=>nomatch hx),rfl⟩ (fun i σ H' _ z=>SqL.of (z.1 _ _ hS)) ?_ ?_
 ·rintro k x σ H' hx ⟨sm,L,o3,o4,o5,o6,o7,o8,hL,ll,gd,gl,rfl⟩ T hT;rw[Zm]at hx;obtain⟨c,hc,rfl⟩:=Ya.mp hx;have hk:k<cs.length:=(Zk.mp hc).1;have wT:=ad hT (.tup [.int (k:Int),.int c]);have sm1:=sm.trans wT;have hL1:=hL.same wT;generalize upd H' T (.tup [.int (k:Int),.int c])=H1 at sm1 hL1 ⊢;refine⟨_,rfl,_,_,rfl,rfl,(by show(0:Int)<1000003;decide),_,_,rfl,rfl,.inr ⟨by decide,by decide⟩,_,_,rfl,rfl,(by show(0:Int)<2147483647;decide),?_⟩
  try dsimp(config:={ proj:=false,iota:=false,eta:=false,zeta:=false }) only
  generalize c%1000003*48271%2147483647=nu;refine⟨_,rfl,_,rfl,_,_,rfl,rfl,(by show(0:Int)<4;decide),_,rfl,_,_,rfl,_,_,rfl,rfl,?_⟩;have c0:=ZR c (show(4:Int)≠0 by decide)
  try dsimp(config:={ proj:=false,iota:=false,eta:=false,zeta:=false }) only
  obtain⟨dd,hdd,dle⟩:∃dd:Nat,(dd:Int)=(nxt L:Int)-(if(nxt L:Int)<c%4 then(nxt L:Int)else c%4)/\dd<=nxt L:=⟨((nxt L:Int)-(if(nxt L:Int)<c%4 then(nxt L:Int)else c%4)).toNat,by split<;>omega,by split<;>omega⟩
  rw[<-hdd];have m0:=ZR (nu / 8) (show(2:Int)≠0 by decide);have m1:=ZX (nu / 8) (show(0:Int)<2 by decide);obtain⟨nv,hnv⟩:∃nv,atI [V.int (k:Int),V.int (200-(k:Int))] (nu / 8%2)=some (.int nv):=by
   have:nu / 8%2=0\/nu / 8%2=1:=by omega
   rcases this with e|e
   ·rw[e];exact⟨_,rfl⟩
   ·rw[e];exact⟨_,rfl⟩
  refine⟨_,rfl,_,_,rfl,rfl,(by show(0:Int)<8;decide),_,rfl,_,rfl,_,_,rfl,rfl,sz rfl,fun p1 g1=>?_⟩;have v1:=ad g1 (.lst [.int (k:Int),.int (200-(k:Int))]);refine⟨_,rfl,_,_,rfl,rfl,⟨by decide,by decide⟩,_,_,rfl,rfl,(by show(0:Int)<2;decide),p1,_,_,_,rfl,rfl,SqL.of aa,hnv,_,_,rfl,rfl,sz rfl,fun p2 g2=>?_⟩;have v2:=v1.trans (ad g2 (.tup [.int (nu%8),.int (1+nv)]));have en:upd (upd H1 p1 (.lst [.int (k:Int),.int (200-(k:Int))])) p2 (.tup [.int (nu%8),.int (1+nv)]) p2=some (.tup [.int (nu%8),.int (1+nv)]):=aa;generalize upd (upd H1 p1 (.lst [.int (k:Int),.int (200-(k:Int))])) p2 (.tup [.int (nu%8),.int (1+nv)])=H2 at v2 en ⊢;refine⟨_,rfl,_,_,rfl,rfl,⟨by decide,by decide⟩,_,_,rfl,rfl,(by show(0:Int)<8;decide),sz rfl,fun p3 g3=>?_⟩;have v3:=ad g3 (.lst [.non,.int (nu / 64%8)]);obtain⟨wo,hwo⟩:∃wo:Option Int,atI [V.non,V.int (nu / 64%8)] (if decide (0<nu / 16%3)=true then 1 else 0)=some (whV wo):=by
   split
   ·exact⟨some _,rfl⟩
   ·exact⟨none,rfl⟩
  refine⟨_,rfl,_,_,rfl,rfl,⟨by decide,by decide⟩,_,_,rfl,rfl,(by show(0:Int)<3;decide),_,_,rfl,rfl,.inr ⟨_,rfl,p3,_,_,_,rfl,rfl,SqL.of aa,hwo,?_⟩⟩;have V3:=v2.trans v3;have hL3:=hL1.same V3;have en3:=v3 _ _ en;have S3:=sm1.trans V3;generalize upd H2 p3 (.lst [.non,.int (nu / 64%8)])=H3 at hL3 en3 S3 ⊢;refine⟨_,rfl,.inl ⟨rfl,_,SqL.of hL3.1⟩,_,rfl,_,rfl,_,rfl,_,_,rfl,rfl,⟨by decide,by decide⟩,_,rfl,fun t H5 s5 hok hlen=>?_⟩;refine⟨_,rfl,_,_,rfl,rfl,⟨by decide,by decide⟩,_,_,rfl,rfl,(by show(0:Int)<2;decide),rfl,_,rfl,_,rfl,_,_,rfl,rfl,⟨by decide,by decide⟩,_,_,rfl,rfl,(by show(0:Int)<3;decide),rfl,sz rfl,fun p6 g6=>?_⟩;generalize decide (V.int (nu / 48%2)=V.int 1)=b1 at g6 ⊢;generalize decide (V.int (nu / 96%3)=V.int 1)=b2 at g6 ⊢;have v6:=ad g6 (.tup [.int (dd:Int),.ref p2,.str t,.bl b1,whV wo,.bl b2]);have V6:=s5.trans v6;have hL6:=hL3.same V6;have hrow:RR (upd H5 p6 (.tup [.int (dd:Int),.ref p2,.str t,.bl b1,whV wo,.bl b2])) p6 ⟨dd,nu%8,1+nv,t,b1,wo,b2,hok⟩:=⟨p2,aa,V6 _ _ en3,hok⟩
  have S6:=S3.trans V6;generalize upd H5 p6 (.tup [.int (dd:Int),.ref p2,.str t,.bl b1,whV wo,.bl b2])=H6 at hL6 hrow S6 ⊢;refine⟨p,_,_,rfl,rfl,hL6.1,bq (by rw[ah];omega),?_⟩;refine⟨_,rfl,_,_,rfl,rfl,?_⟩;obtain⟨gd',en'⟩:=uU (x:=(p6,⟨dd,nu%8,1+nv,t,b1,wo,b2,hok⟩)) gd dle;refine⟨cL S6 g,L++[(p6,⟨dd,nu%8,1+nv,t,b1,wo,b2,hok⟩)],_,_,_,_,_,_,⟨by rw[aa];unfold am;rw[ZQ];rfl,fun x hx=>?_⟩,by simp[ll],gd',(fun x hx=>?_),by rw[en'];rfl⟩
  ·rcases ZG.mp hx with hx|hx
   ·exact(hL6.2 x hx).ts (dA hL6.1)
   ·rw[Zd.mp hx];exact hrow.ts (dA hL6.1)
  ·rcases ZG.mp hx with hx|hx
   ·exact gl x hx
   ·rw[Zd.mp hx];exact Zr hlen (by decide)
 ·rintro σ H' ⟨sm,L,o3,o4,o5,o6,o7,o8,hL,ll,gd,gl,rfl⟩;rw[Zi]at ll;exact⟨_,rfl,q p H' L g sm hL (by omega) gd gl⟩
theorem eR{s:Str}:∀{a b:List Str},a≠[]->b≠[]->(Str.join s (a++b)).cps.toList=(Str.join s a).cps.toList++(s.cps.toList++(Str.join s b).cps.toList)
 | [],_,h,_=>absurd rfl h
 |_,[],_,h=>absurd rfl h
 | [x],y::b,_,_=>by show(x++s++Str.join s (y::b)).cps.toList=_;rw[aW,aW,Zv];rfl
 |x::x2::a,y::b,_,_=>by have ih:=eR (s:=s) (a:=x2::a) (b:=y::b) (by simp) (by simp);show(x++s++Str.join s (x2::a++y::b)).cps.toList=(x++s++Str.join s (x2::a)).cps.toList++_;rw[aW,aW,ih,aW,aW];simp only[Zv]
theorem xG{ws:List Str}(h:ws≠[]):Str.join aI (gG::ws)=("not ":Str)++Str.join aI ws:=by
 refine dv ?_;show(Str.join aI ([gG]++ws)).cps.toList=_;rw[eR (by simp) h,aW];have e1:("not ":Str).cps.toList=gG.cps.toList++aI.cps.toList:=by decide +kernel
 rw[e1,Zv];rfl
theorem rM{ws:List Str}(h:ws≠[])(k:Str):Str.join aI (ws++[("by":Str),k])=Str.join aI ws++(" by ":Str)++k:=by
 refine dv ?_;rw[eR h (by simp),aW,aW];have e1:(" by ":Str).cps.toList=aI.cps.toList++(("by":Str).cps.toList++aI.cps.toList):=by decide +kernel
 rw[e1];show _=(Str.join aI ws).cps.toList++_++_;have e2:(Str.join aI [("by":Str),k]).cps.toList=("by":Str).cps.toList++(aI.cps.toList++k.cps.toList):=by rw[show(["by",k]:List Str)=[("by":Str)]++[k]from rfl,eR (by simp) (by simp)];rfl
 rw[e2];simp only[Zv]
theorem mS{ws:List Str}(h:ws≠[]):Str.join aI (ws++[("back":Str)])=Str.join aI ws++(" back":Str):=by
 refine dv ?_;rw[eR h (by simp),aW];have e1:(" back":Str).cps.toList=aI.cps.toList++("back":Str).cps.toList:=by decide +kernel
 rw[e1];rfl
def Cq.lineIn(t:Str)(c:Cq):Str:=Str.join aI (fH (brk c t) c.ws)
theorem rW{b:Bool}{ws:List Str}(h:ws≠[]):fH b ws≠[]:=by
 cases b
 ·exact h
 ·exact List.cons_ne_nil _ _
theorem wH{o:Bool}:∀{cs:List Cq},cs≠[]->(∀c∈cs,c.ws≠[])->Cq.wsL o cs≠[]
 | [],h,_=>absurd rfl h
 | [c],_,h=>by rw[Cq.wsL];exact rW (h c ZA)
 |c::d::cs,_,h=>by rw[Cq.wsL];simp
theorem qZ{o:Bool}:∀{cs:List Cq},cs≠[]->(∀c∈cs,c.ws≠[])->Str.join aI (Cq.wsL o cs)=Str.join ((" ":Str)++orW o++(" ":Str)) (cs.map (Cq.lineIn (orW o)))
 | [],h,_=>absurd rfl h
 | [c],_,h=>by rw[Cq.wsL];rfl
 |c::d::cs,_,h=>by have ih:=qZ (o:=o) (cs:=d::cs) (by simp) fun x hx=>h x (Zu _ hx);have n:=wH (o:=o) (cs:=d::cs) (by simp) fun x hx=>h x (Zu _ hx);rw[Cq.wsL];refine dv ?_;rw[eR (rW (h c ZA)) (by simp)];rw[show orW o::Cq.wsL o (d::cs)=[orW o]++Cq.wsL o (d::cs)from rfl,eR (by simp) n,ih];show _=(Cq.lineIn (orW o) c++((" ":Str)++orW o++(" ":Str))++Str.join ((" ":Str)++orW o++(" ":Str)) ((d::cs).map (Cq.lineIn (orW o)))).cps.toList;rw[aW,aW,aW,aW];simp only[Zv];rfl
def Wd(x:Str):Prop:=x.length<=130/\32∉x.cps.toList
theorem uq{b:Bool}{ws:List Str}(h:∀x∈ws,Wd x):∀x∈fH b ws,Wd x:=by
 intro x hx;cases b with
 |false=>exact h x hx
 |true =>
  have hx:x∈opn::(ws++[cls]):=hx;rcases Ze.mp hx with rfl|hx
  ·exact⟨by decide +kernel,by decide +kernel⟩
  ·rcases ZG.mp hx with hx|hx
   ·exact h x hx
   ·rw[Zd.mp hx];exact⟨by decide +kernel,by decide +kernel⟩
theorem Di(o:Bool):Wd (orW o):=by cases o<;>exact⟨by decide +kernel,by decide +kernel⟩
theorem Cp{o:Bool}:∀{cs:List Cq},(∀c∈cs,∀x∈c.ws,Wd x)->∀x∈Cq.wsL o cs,Wd x
 | [],_,x,hx=>by rw[Cq.wsL]at hx;cases hx
 | [c],h,x,hx=>by rw[Cq.wsL]at hx;exact uq (h c ZA) x hx
 |c::d::cs,h,x,hx=>by
  rw[Cq.wsL]at hx;rcases ZG.mp hx with hx|hx
  ·exact uq (h c ZA) x hx
  ·rcases Ze.mp hx with rfl|hx
   ·exact Di o
   ·exact Cp (fun z hz=>h z (Zu _ hz)) x hx
theorem mq(i:Int){k:Nat}(h:k≠45)(h1:k<48\/57<k):k∉(aS i).cps.toList:=fun z=>by have:=hW i k z;omega
theorem AtOk.words{c:Cq}(ok:AtOk c):c.ws≠[]/\∀x∈c.ws,Wd x:=by
 cases ok with
 |@w s h =>
  have:∀s∈W6,s.length<=130/\32∉s.cps.toList:=by decide +kernel
  exact⟨by simp[Cq.ws],fun x hx=>by rw[Cq.ws]at hx;rw[Zd.mp hx];exact this s h⟩
 |@num s n h h0 h1 =>
  refine⟨by simp[Cq.ws],fun x hx=>?_⟩;rw[Cq.ws]at hx;simp only[Ze,Zo,ZJ]at hx;rcases hx with rfl|rfl
  ·rcases h with rfl|rfl<;>exact⟨by decide +kernel,by decide +kernel⟩
  ·exact⟨Zr h1.len (by decide),mq n (by decide) (by decide)⟩
 |@item x y h0 h1 h2 h3 =>
  refine⟨by simp[Cq.ws],fun z hz=>?_⟩;rw[Cq.ws]at hz;simp only[Ze,Zo,ZJ]at hz;rcases hz with rfl|rfl
  ·exact⟨by decide +kernel,by decide +kernel⟩
  ·refine⟨Zr (kh h2 h3) (by decide),?_⟩;rw[aW,aW];intro q;rcases ZG.mp q with q|q
   ·rcases ZG.mp q with q|q
    ·exact mq x (by decide) (by decide) q
    ·revert q;decide +kernel
   ·exact mq y (by decide) (by decide) q
 |@says t h0 h1 h2 =>
  refine⟨by simp[Cq.ws],fun z hz=>?_⟩;rw[Cq.ws]at hz;simp only[Ze,Zo,ZJ]at hz;rcases hz with rfl|rfl
  ·exact⟨by decide +kernel,by decide +kernel⟩
  ·exact⟨Zr h1 (by decide),h2⟩
theorem GoodC.words{h d:Nat}{c:Cq}(g:GoodC h d c):c.ws≠[]/\∀x∈c.ws,Wd x:=by
 induction g with
 | «at» ok=>exact ok.words
 |no g hd ih =>
  rw[Cq.ws];refine⟨by simp,fun x hx=>?_⟩;rcases Ze.mp hx with rfl|hx
  ·exact⟨by decide +kernel,by decide +kernel⟩
  ·exact uq ih.2 x hx
 |many h1 h2 g hd ih =>rw[Cq.ws];exact⟨wH (fun z=>by rw[z]at h1;simp at h1) fun c hc=>(ih c hc).1,Cp fun c hc=>(ih c hc).2⟩
theorem Dc:¬(("question":Str)="kept"):=by decide +kernel
def vfl(q k:Addr):List (Str×V):=bL "kept" (.ref k) (bL "question" (.ref q) [])
theorem sI(q k:Addr):(vfl q k).lookup ("kept":Str)=some (.ref k):=by unfold vfl;rw[bf,EN rfl]
theorem Dh(q k:Addr):(vfl q k).lookup ("question":Str)=some (.ref q):=by unfold vfl;rw[bf,EM Dc,bf,EN rfl]
theorem dG(q k:Addr){m:Str}(h1:¬m="kept")(h2:¬m="question"):(vfl q k).lookup m=none:=by
 unfold vfl;rw[bf,EM h1,bf,EM h2]
 all_goals rfl
theorem Co(q k j:Addr):bL "kept" (.ref j) (vfl q k)=vfl q j:=rfl
def VwAt(C:Addr)(H:Hp)(p q k:Addr):Prop:=∃dx,H p=some (.ins C dx (vfl q k))
structure VTx(K:PySem.W.Frag)(C:Addr):Prop where
 cl:Cls K C
 nQ:NoAttr K C "question"
 nK:NoAttr K C "kept"
def LK(H H':Hp):Prop:=(∀a zs,H a=some (.tup zs)->H' a=some (.tup zs))/\∀a zs,H a=some (.lst zs)->H' a=some (.lst zs)
theorem LR.lk{H H':Hp}{l:Addr}{L:LT}(x:LR H l L)(e:LK H H'):LR H' l L:=⟨e.2 _ _ x.1,fun y hy=>(x.2 y hy).ts e.1⟩
theorem SL.lk{H H':Hp}{l:Addr}{L:List (Addr×Sp1)}(x:SL H l L)(e:LK H H'):SL H' l L:=⟨e.2 _ _ x.1,fun y hy=>(x.2 y hy).ts e.1⟩
def KV(T p:Addr)(H H':Hp):Prop:=∀b o,H b=some o->b≠T->b≠p->H' b=some o
theorem KV.lk{T p C q k:Addr}{ps:Array Value}{H H':Hp}(s:KV T p H H')(hT:H T=some (.tbl ps))(hp:VwAt C H p q k):LK H H':=by obtain⟨dx,hp⟩:=hp;exact⟨fun a zs e=>s _ _ e (fun z=>by rw[z,hT]at e;cases e) (fun z=>by rw[z,hp]at e;cases e),fun a zs e=>s _ _ e (fun z=>by rw[z,hT]at e;cases e) (fun z=>by rw[z,hp]at e;cases e)⟩
theorem VwAt.kv{T p C p' q' k':Addr}{ps:Array Value}{H H':Hp}(s:KV T p H H')(hT:H T=some (.tbl ps))(h:VwAt C H p' q' k')(n:p'≠p):VwAt C H' p' q' k':=by obtain⟨dx,h⟩:=h;exact⟨dx,s _ _ h (fun z=>by rw[z,hT]at h;cases h) n⟩
theorem VwAt.same{C p q k:Addr}{H H':Hp}(h:VwAt C H p q k)(s:Same H H'):VwAt C H' p q k:=by obtain⟨dx,h⟩:=h;exact⟨dx,s _ _ h⟩
theorem VwAt.upd{C p q k a:Addr}{H:Hp}{xs ys:List V}(h:VwAt C H p q k)(ha:H a=some (.lst xs)):VwAt C (upd H a (.lst ys)) p q k:=by
 obtain⟨dx,h⟩:=h;refine⟨dx,?_⟩;rw[ac]
 ·exact h
 ·rintro rfl;rw[ha]at h;cases h
def gY(C cQ:Addr)(R:RX):Sp:=fun vs H Q E=>∃(p dx:Addr) (ws:List Str) (res:QRes),vs=[.ref p,.str (Str.join aI ws)]/\H p=some (.ins C dx [])/\ws≠[]/\(∀x∈ws,32∉x.cps.toList)/\(Str.join aI ws).length<=100000/\ws.length<=100000/\XQ R ws res /\
 (∀c key back,res=.ok c key back->∀qa v kl H',(∀b o,H b=some o->b≠p->H' b=some o)->VwAt C H' p qa kl->H' qa=some (.tup [v,.str key,.bl back])->CqAt H' v c->H' kl=some (.lst [])->H kl=none->Q .non H') /\
 ∀r,res=.bad r->∀H' dd,Same H H'->H' dd=some (.xd [("at",.int ((ws.length:Int)-r.length))])->E (.ref cQ) (some dd) H'
abbrev gJ:Stmt:=dB (top 41) 0
abbrev rc:List Str:=["self","text"]
theorem qS:FnScope rc ["self","text"] (ai gJ):=⟨rfl,rfl,rfl,by decide +kernel,rfl,by decide +kernel,by decide +kernel⟩
theorem qz{R:RX}{f C cQ:Addr}{fd:FuncData}(F:Fun K "__init__" "View.__init__" gJ f fd)(V:VTx K C)(FX_read_question:FnX P w K mg base 45 "read_question" ["text"] (spQX cQ R)):FnOk P w K mg base (CXr P w) 46 f fd ["self","text"] (gY C cQ R):=by
 refine F.okX qS (fun vs H Q E h=>?_) (fun cdv A outer s H vs Q E hr h=>?_)
 ·obtain⟨p,dx,ws,res,rfl,_⟩:=h;rfl
 obtain⟨p,dx,ws,res,rfl,e0,ne,nb,l1,l2,hx,q,qe⟩:=h;refine⟨_,(b_c (lK (q_v 0) (fq FX_read_question (dD aZ) (hr.mono (by decide)) (q_a (q_v 1) af)))
   (b_1 (lK (q_v 0) (bA af)))),?_⟩
 try rw[cxK]
 refine⟨_,rfl,ws,res,rfl,ne,nb,l1,l2,hx,fun c key back er qa v H1 s1 ea hc=>?_,fun r er H1 dd s1 hd=>qe r er H1 dd s1 hd⟩;have e1:=s1 _ _ e0;have na:qa≠p:=fun z=>by rw[z,e1]at ea;cases ea
 refine⟨_,rfl,p,C,dx,[],rfl,e1,V.cl,V.nQ,(by show 0<1000;decide),?_⟩;have t1:TS2 H1 (upd H1 p (.ins C dx (bL "question" (.ref qa) []))):=fun a zs e=>by
  rw[ac]
  ·exact e
  ·rintro rfl;rw[e1]at e;cases e
 have e2:upd H1 p (.ins C dx (bL "question" (.ref qa) [])) p=some (.ins C dx (bL "question" (.ref qa) [])):=aa;have k2:∀b o,H b=some o->b≠p->upd H1 p (.ins C dx (bL "question" (.ref qa) [])) b=some o:=fun b o e n=>by rw[ac n];exact s1 _ _ e
 have ea2:=t1 _ _ ea;have hc2:=hc.ts t1;generalize upd H1 p (.ins C dx (bL "question" (.ref qa) []))=H2 at t1 e2 k2 ea2 hc2 ⊢;refine⟨sz rfl,fun kl gk=>?_⟩;have wk:=ad gk (.lst []);have nk:kl≠p:=fun z=>by rw[z,e2]at gk;cases gk
 have gk0:H kl=none:=by
  cases e:H kl with
  |none=>rfl
  |some o=>rw[k2 _ _ e nk]at gk;cases gk
 refine⟨_,rfl,p,C,dx,_,rfl,wk _ _ e2,V.cl,V.nK,(by show 1<1000;decide),?_⟩;refine q c key back er qa v kl _ (fun b o e n=>by rw[ac n];exact wk _ _ (k2 _ _ e n)) ⟨dx,aa⟩ ?_ ?_ ?_ gk0
 ·rw[ac na];exact wk _ _ ea2
 ·refine(hc2.ts fun a zs e=>wk _ _ e).ts fun a zs e=>?_;rw[ac]
  ·exact e
  ·rintro rfl;rw[wk _ _ e2]at e;cases e
 ·rw[ac nk];exact aa
def fE(C:Addr):Sp:=fun vs H Q _=>∃(p qa kl:Addr) (M:LT),vs=[.ref p]/\VwAt C H p qa kl/\LR H kl M/\∀l H',H l=none->Same H H'->LR H' l M->Q (.ref l) H'
abbrev gK:Stmt:=dB (top 41) 2
abbrev re:List Str:=["self"]
theorem qT:FnScope re ["self"] (ai gK):=⟨rfl,rfl,rfl,by decide +kernel,rfl,by decide +kernel,by decide +kernel⟩
theorem qA{f C:Addr}{fd:FuncData}(F:Fun K "rows" "View.rows" gK f fd)(V:VTx K C)(a8:mg "list" = none):FnOk P w K mg base CX0 1 f fd ["self"] (fE C):=by
 refine F.okQ qT (fun vs H Q E h=>?_) (fun cdv A outer s H vs Q E hr h=>?_)
 ·obtain⟨p,qa,kl,M,rfl,_⟩:=h;rfl
 obtain⟨p,qa,kl,M,rfl,⟨dx,e0⟩,hM,q⟩:=h;refine⟨_,(b_1 (ak (gH iD a8 cD (q_a (fm (q_v 0)) af)))),?_⟩;refine⟨_,rfl,p,C,dx,_,_,rfl,e0,V.cl,V.nK,sI qa kl,kl,_,rfl,.inl (SqL.of hM.1),fun l gl=>?_⟩;have wl:=ad gl (.lst (am M));exact q l _ gl wl ⟨aa,fun x hx=>(hM.2 x hx).ts (Same.ts wl)⟩
def eE(C T:Addr):Sp:=fun vs H Q _=>∃(p qa kl c l:Addr) (k:Str) (b:Bool) (L N:LT) (g:Nat->Bool) (pos:Pos),vs=[.ref p,.ref l]/\VwAt C H p qa kl/\LR H kl N/\N.length<=63/\H qa=some (.tup [.ref c,.str k,.bl b])/\CF L 2 H c g/\LR H l L/\Gd L/\Len L/\L.length<=63/\bD eZ T pos H/\(k≠"place"->pos=iO (if b then eI else eJ)) /\
 ∀D ps H' M S,eW k b (cJ L g) M->KV T p H H'->bD eZ T pos H'->VwAt C H' p qa D->LR H' D M->H D=none->H ps=none->SL H' ps S->vals S=aF (vals N) (vals M) 0->Q (.ref ps) H'
theorem kK{k:Str}{b:Bool}{L M:LT}(h:eW k b L M):M.length=L.length/\∀x∈M,x∈L:=by
 obtain⟨ix,pm,_,rfl⟩:=mR h;have ixl:∀i∈ix,i<L.length:=fun i hi=>by have:=pm.mem_iff.mp hi;simpa using this
 refine⟨?_,fun x hx=>?_⟩
 ·unfold mH;rw[Zi];have:=pm.length_eq;simpa using this
 ·obtain⟨i,hi,rfl⟩:=y9.mp hx;rw[Zl,Za (ixl i hi)];exact ZE _
abbrev fh:Stmt:=dB (top 41) 1
abbrev nO:List Str:=["self","rows","told","changes"]
theorem eC:FnScope nO ["self","rows"] (ai fh):=⟨rfl,rfl,rfl,by decide +kernel,rfl,by decide +kernel,by decide +kernel⟩
theorem mF{f C T:Addr}{fd:FuncData}(F:Fun K "follow" "View.follow" fh f fd)(V:VTx K C)(j8:Fn P w K mg base 8 "asked" ["question","rows"] (gU T))(x3:Fn P w K mg base 3 "changes_of" ["old","new"] nC):FnOk P w K mg base CX0 9 f fd ["self","rows"] (eE C T):=by
 refine F.okQ eC (fun vs H Q E h=>?_) (fun cdv A outer s H vs Q E hr h=>?_)
 ·obtain⟨p,qa,kl,c,l,k,b,L,N,g,pos,rfl,_⟩:=h;rfl
 obtain⟨p,qa,kl,c,l,k,b,L,N,g,pos,rfl,⟨dx,e0⟩,hN,zN,eq,hc,hL,gd,gl,zL,tab,hpos,q⟩:=h;refine⟨_,(b_c (aq (i:=2) eC.nd (aG j8 (hr.mono (by decide)) (q_a (fm (q_v 0)) (q_a (q_v 1) af))))
   (b_c (aq (i:=3) eC.nd (aG x3 (hr.mono (by decide)) (q_a (fm (q_v 0)) (q_a (q_v 2) af))))
   (b_c (lK (q_v 0) (q_v 2))
   (b_1 (ak (q_v 3)))))),?_⟩
 refine⟨_,rfl,p,C,dx,_,_,rfl,e0,V.cl,V.nQ,Dh qa kl,_,rfl,qa,c,l,k,b,L,g,pos,rfl,eq,hc,hL,gd,gl,zL,tab,hpos,fun D H1 M told sT1 t1 eD nD=>?_⟩;obtain⟨ps0,tb0,_⟩:=id tab;have npT:p≠T:=fun z=>by rw[z,tb0]at e0;cases e0
 have e1:=sT1 _ _ e0 npT;have lk1:LK H H1:=⟨fun a zs e=>sT1 _ _ e (fun z=>by rw[z,tb0]at e;cases e),fun a zs e=>sT1 _ _ e (fun z=>by rw[z,tb0]at e;cases e)⟩
 obtain⟨lM,sM⟩:=kK told;have pl:=gj L g;have hM1:LR H1 D M:=⟨eD,fun x hx=>(hL.2 x (iW (sM x hx))).ts lk1.1⟩
 refine⟨_,rfl,p,C,dx,_,_,rfl,e1,V.cl,V.nK,sI qa kl,_,rfl,kl,D,N,M,rfl,hN.lk lk1,hM1,by omega,by omega,fun ps H2 S n2 s2 hS eS=>?_⟩;have e2:=s2 _ _ e1;refine⟨_,rfl,_,rfl,p,C,dx,_,rfl,e2,V.cl,V.nK,(by show 2<1000;decide),?_⟩;rw[Co];have up:∀{b o},H2 b=some o->b≠p->upd H2 p (.ins C dx (vfl qa D)) b=some o:=fun{b o} e n=>by rw[ac n];exact e
 have lk2:LK H2 (upd H2 p (.ins C dx (vfl qa D))):=⟨fun a zs e=>up e (fun z=>by rw[z,e2]at e;cases e),fun a zs e=>up e (fun z=>by rw[z,e2]at e;cases e)⟩
 have nps:H ps=none:=by
  cases e:H ps with
  |none=>rfl
  |some o =>
   by_cases z:ps=T
   ·obtain⟨ps1,tb1,_⟩:=t1;rw[z,tb1]at n2;cases n2
   ·rw[sT1 _ _ e z]at n2;cases n2
 obtain⟨ps2,tb2,z1,z2⟩:=bN t1 s2;refine⟨_,rfl,q D ps _ M S told (fun b o e n m=>up (s2 _ _ (sT1 _ _ e n)) m) ⟨ps2,up tb2 (ZW npT),z1,z2.imp id fun⟨c',y1,y2⟩=>⟨c',y1,up y2 (fun z=>by rw[z,e2]at y2;cases y2)⟩⟩ ⟨dx,aa⟩ ((hM1.same s2).lk lk2) nD nps (hS.lk lk2) eS⟩
def cG:List Cq:=[.w "all",.w "done",.w "folded",.w "free",.w "leaf",.w "seen",.num "due" 3,.num "depth" 1,.says "a",.item 0 1,.num "due" 0]
def cds:List Cd:=[.all,.done,.folded,.free,.leaf,.seen,.due 3,.depth 1,.says "a",.beneath 0 1,.due 0]
def cP(n:Int):Cq:=cG.getD (n%11).toNat (.w "all")
def cdN(n:Int):Cd:=cds.getD (n%11).toNat .all
def aD(n:Int):Cq:=if n / 11%2=0 then cP n else .no (cP n)
def gp(L:LT)(n:Int):Nat->Bool:=if n / 11%2=0 then iH L (cdN n)else fun k=>!iH L (cdN n) k
inductive Dq where
 |one (n:Int)
 |many (o:Bool)(ns:List Int)
def Dq.cq:Dq->Cq
 |.one n=>aD n
 |.many o ns=>.many o (ns.map aD)
def Dq.ok:Dq->Prop
 |.one _=>True
 |.many _ ns=>2<=ns.length/\ns.length<=3
def Dq.g(L:LT):Dq->Nat->Bool
 |.one n=>gp L n
 |.many o ns=>gOf (!o) (ns.map (gp L))
theorem A7(n:Int):(n%11).toNat<11:=by have:=ZR n (show(11:Int)≠0 by decide);have:=ZX n (show(0:Int)<11 by decide);omega
theorem hJ(n:Int):cP n∈cG:=by unfold cP;rw[Zl,Za (show(n%11).toNat<cG.length from A7 n)];exact ZE _
theorem sm3{i:Int}(h:i=0\/i=1\/i=3):Sm i:=by rcases h with rfl|rfl|rfl<;>(unfold Sm;decide +kernel)
theorem jY:∀c∈cG,AtOk c:=by
 intro c hc;simp only[cG,Ze,Zo,ZJ]at hc;rcases hc with rfl|rfl|rfl|rfl|rfl|rfl|rfl|rfl|rfl|rfl|rfl
 ·exact .w (by decide +kernel)
 ·exact .w (by decide +kernel)
 ·exact .w (by decide +kernel)
 ·exact .w (by decide +kernel)
 ·exact .w (by decide +kernel)
 ·exact .w (by decide +kernel)
 ·exact .num (.inl rfl) (by decide) (sm3 (.inr (.inr rfl)))
 ·exact .num (.inr rfl) (by decide) (sm3 (.inr (.inl rfl)))
 ·exact .says (by decide +kernel) (by decide +kernel) (by decide +kernel) (by decide +kernel)
 ·exact .item (by decide) (by decide) (sm3 (.inl rfl)) (sm3 (.inr (.inl rfl)))
 ·exact .num (.inl rfl) (by decide) (sm3 (.inl rfl))
theorem iV(n:Int):GoodC 2 1 (aD n):=by
 have a:=jY _ (hJ n);unfold aD;generalize cP n=c at a ⊢;split
 ·exact .at a
 ·refine .no (d:=0) (.at a) ?_;cases a<;>exact Zb _
theorem kF(n:Int)(t:Str):brk (aD n) t=false/\(aD n).mny=false:=by
 have a:=jY _ (hJ n);have h:=kT a;unfold aD;generalize cP n=c at a h ⊢;split
 ·unfold brk;rw[decide_eq_false h.2.2.1,decide_eq_false h.2.2.2];exact⟨rfl,by cases a<;>rfl⟩
 ·refine⟨?_,rfl⟩;show(decide (("not":Str)="or") ||(decide (("not":Str)="and")&&_))=false;rw[show decide (("not":Str)="or")=false by decide +kernel,show decide (("not":Str)="and")=false by decide +kernel];rfl
theorem Dq.good{d:Dq}(h:d.ok):GoodC 3 1 d.cq:=by
 cases d with
 |one n=>exact(iV n).mono (by decide) (Zb _)
 |many o ns =>
  refine .many (by rw[Zi];exact h.1) (by rw[Zi];exact Zr h.2 (by decide)) (fun c hc=>?_) fun c hc z=>?_
  ·obtain⟨n,_,rfl⟩:=y9.mp hc;rw[(kF n _).1];exact iV n
  ·obtain⟨n,_,rfl⟩:=y9.mp hc;rw[(kF n _).1]at z;cases z
theorem oA{H:Hp}{v:V}{n:Int}(h:CqAt H v (cP n)):∃a,v=.ref a/\CR H a (cdN n):=by
 unfold cP at h;unfold cdN;have:=ZR n (show(11:Int)≠0 by decide);have:=ZX n (show(0:Int)<11 by decide);have:(n%11).toNat=0\/(n%11).toNat=1\/(n%11).toNat=2\/(n%11).toNat=3\/(n%11).toNat=4\/(n%11).toNat=5\/(n%11).toNat=6\/(n%11).toNat=7\/(n%11).toNat=8\/(n%11).toNat=9\/(n%11).toNat=10:=by omega
 rcases this with e|e|e|e|e|e|e|e|e|e|e<;>rw[e]at h ⊢
 all_goals simp only[cG,cds,List.getD_cons_zero,List.getD_cons_succ]at h ⊢
 all_goals(cases h;first|exact⟨_,rfl,by assumption⟩|exact⟨_,rfl,_,by assumption,by assumption⟩)
theorem AK{L:LT}{H:Hp}{v:V}{n:Int}(h:CqAt H v (aD n)):∃a,v=.ref a/\CF L 1 H a (gp L n):=by
 unfold aD at h;unfold gp;split at h
 ·rename_i c;rw[EN c];obtain⟨a,rfl,h2⟩:=oA h;exact⟨a,rfl,.inl ⟨_,h2,rfl⟩⟩
 ·rename_i c;rw[EM c];cases h with
  |no e h =>obtain⟨b,rfl,h2⟩:=oA h;exact⟨_,rfl,.inr (.inl ⟨b,_,e,⟨_,h2,rfl⟩,rfl⟩)⟩
theorem uH{L:LT}{H:Hp}:∀{ns:List Int} {vs:List V},CqsAt H vs (ns.map aD)->∃bs:GL,vs=am bs/\vals bs=ns.map (gp L)/\bs.length=ns.length/\∀x∈bs,CF L 1 H x.1 x.2
 | [],_,.nil=>⟨[],rfl,rfl,rfl,fun _ hx=>nomatch hx⟩
 |n::ns,_,.cons h t=>by
  obtain⟨a,rfl,h2⟩:=AK (L:=L) h;obtain⟨bs,rfl,e1,e2,hb⟩:=uH (L:=L) t;refine⟨(a,gp L n)::bs,rfl,?_,ZO (·+1) e2,fun x hx=>?_⟩
  ·show gp L n::vals bs=_;rw[e1];rfl
  ·rcases Ze.mp hx with rfl|hx
   ·exact h2
   ·exact hb x hx
theorem wN(o:Bool):orW o=yt (!o):=by cases o<;>rfl
theorem CD{L:LT}{H:Hp}{v:V}{d:Dq}(ok:d.ok)(h:CqAt H v d.cq):∃a,v=.ref a/\CF L 2 H a (d.g L):=by
 cases d with
 |one n =>
  have h:CqAt H v (aD n):=h;show∃a,v=.ref a/\CF L 2 H a (gp L n);unfold aD at h;unfold gp;split at h
  ·rename_i c;rw[EN c];obtain⟨a,rfl,h2⟩:=oA h;exact⟨a,rfl,.inl ⟨_,h2,rfl⟩⟩
  ·rename_i c;rw[EM c];cases h with
   |no e h =>obtain⟨b,rfl,h2⟩:=oA h;exact⟨_,rfl,.inr (.inl ⟨b,_,e,.inl ⟨_,h2,rfl⟩,rfl⟩)⟩
 |many o ns =>
  cases h with
  |many e e1 h =>obtain⟨bs,rfl,z1,z2,hb⟩:=uH (L:=L) h;rw[wN]at e;refine⟨_,rfl,.inr (.inr ⟨!o,_,bs,e,e1,by rw[z2];exact Zr ok.2 (by decide),hb,?_⟩)⟩;rw[z1];rfl
theorem yT{tl:List Str}{key:Str}{back:Bool}(ht:QTl tl key back):tl.headD ""≠"and"/\tl.headD ""≠"or":=by
 cases ht with
 |none=>exact⟨by decide +kernel,by decide +kernel⟩
 |key=>exact⟨by show¬(("by":Str)="and");decide +kernel,by show¬(("by":Str)="or");decide +kernel⟩
 |back=>exact⟨by show¬(("by":Str)="and");decide +kernel,by show¬(("by":Str)="or");decide +kernel⟩
theorem ss{d:Dq}(h:d.ok){tl:List Str}{key:Str}{back:Bool}(ht:QTl tl key back):XQ XS (d.cq.ws++tl) (.ok d.cq key back):=by refine .ok d.cq tl key back ((fP 3 1 d.cq (Dq.good h)).2.2 13 0 tl (by decide) (by decide) (yT ht).1 (yT ht).2) ht
theorem Da{d:Dq}(h:d.ok){tl:List Str}{key:Str}{back:Bool}(ht:QTl tl key back):∃r,XQ XS ((d.cq.ws++tl)++[("or":Str)]) (.bad r):=by
 have rd:=fun tl h1 h2=>(fP 3 1 d.cq (Dq.good h)).2.2 13 0 tl (by decide) (by decide) h1 h2;cases ht with
 |none =>refine⟨[],.bad0 [] ?_⟩;rw[Z8];refine BA (Dq.good h) (by decide) (.bad0 [] (.inr (.inr ⟨fun _=>⟨by decide +kernel,by decide +kernel⟩,.bad1 ?_⟩)));rfl
 |key hk =>refine⟨_,.key2 d.cq key [("or":Str)] ?_ hk (by decide +kernel) (by simp)⟩;rw[Zv];exact rd (("by":Str)::key::[("or":Str)]) (by show¬(("by":Str)="and");decide +kernel) (by show¬(("by":Str)="or");decide +kernel)
 |back hk =>refine⟨_,.back2 d.cq key [("or":Str)] ?_ hk (by simp)⟩;rw[Zv];exact rd (("by":Str)::key::("back":Str)::[("or":Str)]) (by show¬(("by":Str)="and");decide +kernel) (by show¬(("by":Str)="or");decide +kernel)
theorem CI(t:Str):("":Str)++t=t:=by refine dv ?_;rw[aW];rfl
theorem Cu(t:Str):t++("":Str)=t:=by refine dv ?_;rw[aW,show("":Str).cps.toList=[]from rfl,Z8]
theorem sR:∀c∈cG,c.line.length<=12:=by intro c hc;simp only[cG,Ze,Zo,ZJ]at hc;rcases hc with rfl|rfl|rfl|rfl|rfl|rfl|rfl|rfl|rfl|rfl|rfl<;>decide +kernel
theorem cF(n:Int):(if n / 11%2=0 then("":Str)else("not ":Str))++(cP n).line=(aD n).line/\(aD n).line.length<=16:=by
 have a:=jY _ (hJ n);have l:=sR _ (hJ n);have h:=kT a;unfold aD;generalize cP n=c at a h l ⊢;split
 ·exact⟨CI _,Zr l (by decide)⟩
 ·have hb:brk c gG=false:=by unfold brk;rw[decide_eq_false h.2.2.1,decide_eq_false h.2.2.2];rfl
  have e:(Cq.no c).line=("not ":Str)++c.line:=by unfold Cq.line;rw[Cq.ws,hb];exact xG (AtOk.words a).1
  rw[e];refine⟨rfl,?_⟩;rw[ZT,show("not ":Str).length=4 from rfl];omega
def wn:Sp:=fun vs H Q _=>∃n:Int,vs=[.int n]/\∀H',Same H H'->Q (.str (aD n).line) H'
theorem vx:[V.str "all",V.str "done",V.str "folded",V.str "free",V.str "leaf",V.str "seen",V.str "due 3",V.str "depth 1",V.str "says a",V.str "beneath 0.1",V.str "due 0"]=cG.map fun c=>V.str c.line:=by decide +kernel
abbrev qR:Stmt:=top 47
abbrev AE:List Str:=["_law_cell","_law_some"]
theorem sA:FnScope AE ["_law_cell"] (ai qR):=⟨rfl,rfl,rfl,by decide +kernel,rfl,by decide +kernel,by decide +kernel⟩
theorem zK{f:Addr}{fd:FuncData}(F:Fun K "_law_word" "_law_word" qR f fd):FnOk P w K mg base CX0 1 f fd ["_law_cell"] wn:=by
 refine F.okQ sA (fun vs H Q E h=>?_) (fun cdv A outer s H vs Q E hr h=>?_)
 ·obtain⟨n,rfl,_⟩:=h;rfl
 obtain⟨n,rfl,q⟩:=h;refine⟨_,(b_c (aq (i:=1) sA.nd (bA (q_a aj (q_a aj (q_a aj (q_a aj (q_a aj (q_a aj (q_a aj (q_a aj (q_a aj (q_a aj (q_a aj af)))))))))))))
   (b_1 (ak (aw fM (ar aO (bA (q_a aj (q_a aj af))) (aw bH (aw cm (q_v 0) ag) ag)) (ar aO (q_v 1) (aw bH (q_v 0) ag)))))),?_⟩
 refine⟨sz rfl,fun p g=>?_⟩;rw[vx];have w1:=ad g (.lst (cG.map fun c=>V.str c.line));have e1:upd H p (.lst (cG.map fun c=>V.str c.line)) p=some (.lst (cG.map fun c=>V.str c.line)):=aa;generalize upd H p (.lst (cG.map fun c=>V.str c.line))=H1 at w1 e1 ⊢;refine⟨sz rfl,fun p2 g2=>?_⟩;have w2:=ad g2 (.lst [.str "",.str "not "]);have j0:=ZR (n / 11) (show(2:Int)≠0 by decide);have j1:=ZX (n / 11) (show(0:Int)<2 by decide);have h2:atI [V.str "",V.str "not "] (n / 11%2)=some (.str (if n / 11%2=0 then("":Str)else("not ":Str))):=by
  have:n / 11%2=0\/n / 11%2=1:=by omega
  rcases this with e|e<;>rw[e]<;>rfl
 have k0:=ZR n (show(11:Int)≠0 by decide);have k1:=A7 n;have h1:atI (cG.map fun c=>V.str c.line) (n%11)=some (.str (cP n).line):=by rw[show n%11=(((n%11).toNat:Nat):Int) by omega];refine cT ?_;unfold cP;rw[Zm,Zl,Za (show(n%11).toNat<cG.length from k1)];rfl
 obtain⟨pl,pn⟩:=cF n;refine⟨_,rfl,_,_,rfl,rfl,⟨by decide,by decide⟩,_,_,rfl,rfl,(by show(0:Int)<2;decide),p2,_,_,_,rfl,rfl,SqL.of aa,h2,?_⟩;refine⟨_,rfl,_,rfl,_,_,rfl,rfl,(by show(0:Int)<11;decide),p,_,_,_,rfl,rfl,SqL.of (w2 _ _ e1),h1,_,_,rfl,rfl,bU ?_,?_⟩
 ·rw[<-ZT,pl];omega
 ·rw[pl];exact q _ (w1.trans w2)
theorem sj(o:Bool):(orW o).length<=3:=by cases o<;>decide +kernel
theorem yu:(" ":Str).length=1:=rfl
theorem zB(o:Bool)(ns:List Int)(h1:1<=ns.length)(h3:ns.length<=3):∃d:Dq,d.ok/\Str.join ((" ":Str)++orW o++(" ":Str)) (ns.map fun n=>(aD n).line)=Str.join aI d.cq.ws/\(Str.join aI d.cq.ws).length<=60:=by
 have e:(ns.map fun n=>(aD n).line)=(ns.map aD).map (Cq.lineIn (orW o)):=by rw[List.map_map];refine List.map_congr_left fun n _=>?_;show(aD n).line=Str.join aI (fH (brk (aD n) (orW o)) (aD n).ws);rw[(kF n _).1];rfl
 have gen:2<=ns.length->(Str.join ((" ":Str)++orW o++(" ":Str)) (ns.map fun n=>(aD n).line)).length<=60->∃d:Dq,d.ok/\Str.join ((" ":Str)++orW o++(" ":Str)) (ns.map fun n=>(aD n).line)=Str.join aI d.cq.ws/\(Str.join aI d.cq.ws).length<=60:=fun h2 hl=>by
  have ew:Str.join ((" ":Str)++orW o++(" ":Str)) (ns.map fun n=>(aD n).line)=Str.join aI (Dq.many o ns).cq.ws:=by
   rw[e];show _=Str.join aI (Cq.ws (.many o (ns.map aD)));rw[Cq.ws];refine(qZ (fun z=>?_) fun c hc=>?_).symm
   ·have:=ZO List.length z;rw[Zi]at this;simp at this;rw[this]at h2;simp at h2
   ·obtain⟨n,_,rfl⟩:=y9.mp hc;exact(GoodC.words (iV n)).1
  refine⟨.many o ns,⟨h2,h3⟩,ew,?_⟩;rw[<-ew];exact hl
 have ol:=sj o;have bl:=yu
 match ns,h1,h3,gen with
 | [n],_,_,_=>exact⟨.one n,trivial,rfl,Zr (cF n).2 (by decide)⟩
 | [n,m],_,_,gen =>refine gen (by simp) ?_;show((aD n).line++((" ":Str)++orW o++(" ":Str))++(aD m).line).length<=60;have:=(cF n).2;have:=(cF m).2;simp only[ZT];omega
 | [n,m,k],_,_,gen =>refine gen (by simp) ?_;show((aD n).line++((" ":Str)++orW o++(" ":Str))++((aD m).line++((" ":Str)++orW o++(" ":Str))++(aD k).line)).length<=60;have:=(cF n).2;have:=(cF m).2;have:=(cF k).2;simp only[ZT];omega
theorem tj(s:Str)(l:List Str):Txt.join s l=Str.join s l:=StrLaws.glued_eq_join _ _
theorem qE:∀l:List Int,((l.map fun n=>(aD n).line).map (·.length)).sum<=16*l.length
 | []=>Zb _
 |n::l=>by have:=qE l;have:=(cF n).2;simp only[ZS,List.sum_cons,Zq];omega
def sC(K:PySem.W.Frag):Sp:=fun vs H Q _=>∃(a:Addr) (ns:List Int),vs=[.ref a]/\SqL K H a (ns.map V.int)/\∀d tl key back H',Dq.ok d->QTl tl key back->Same H H'->(Str.join aI (d.cq.ws++tl)).length<=100->Q (.str (Str.join aI (d.cq.ws++tl))) H'
theorem A9{i:Int}(h0:0<=i)(h1:i<5):∃k∈bC,atI [V.str "place",.str "text",.str "size",.str "depth",.str "due"] i=some (.str k)/\k.length<=5:=by
 have:i=0\/i=1\/i=2\/i=3\/i=4:=by omega
 rcases this with e|e|e|e|e<;>rw[e]
 ·exact⟨"place",by decide +kernel,rfl,by decide +kernel⟩
 ·exact⟨"text",by decide +kernel,rfl,by decide +kernel⟩
 ·exact⟨"size",by decide +kernel,rfl,by decide +kernel⟩
 ·exact⟨"depth",by decide +kernel,rfl,by decide +kernel⟩
 ·exact⟨"due",by decide +kernel,rfl,by decide +kernel⟩
abbrev ip:Stmt:=top 48
abbrev sL:List Str:=["_law_script","_law_cell","_law_join","_law_line","_law_key"]
theorem cV:FnScope sL ["_law_script"] (ai ip):=⟨rfl,rfl,rfl,by decide +kernel,rfl,by decide +kernel,by decide +kernel⟩
theorem rD{f:Addr}{fd:FuncData}(F:Fun K "_law_question" "_law_question" ip f fd)(d0:Fn P w K mg base 1 "_law_cell_at" ["_law_script","_law_k"] (gW K))(Ek:Fn P w K mg base 1 "_law_word" ["_law_cell"] wn)(a6:mg "range" = none):FnOk P w K mg base CX0 2 f fd ["_law_script"] (sC K):=by
 refine F.okQ cV (fun vs H Q E h=>?_) (fun cdv A outer s H vs Q E hr h=>?_)
 ·obtain⟨a,ns,rfl,_⟩:=h;rfl
 obtain⟨a,ns,rfl,hS,q⟩:=h;refine⟨_,(b_c (aq (i:=1) cV.nd (aG d0 (hr.mono (by decide)) (q_a (q_v 0) (q_a ag af))))
   (b_c (aq (i:=2) cV.nd (ar aO (bA (q_a aj (q_a aj af))) (aw bH (aw cm (q_v 1) ag) ag)))
   (b_c (aq (i:=3) cV.nd (B0 (q_v 2) (aL (own:=["_law_k"]) (⟨rfl,by decide +kernel,by decide +kernel,rfl,⟨rfl,rfl,trivial⟩⟩:CompOk _ _ [0] ["_law_script"]) rfl (dj a6 (q_a (aw bW ag (aw bH (q_v 1) ag)) af)) (fun _ _ _ _=>ax (i:=0) (show (["_law_k","_law_script"]:List Str).Nodup by decide +kernel)) (ay (by decide)) (fun _ _ _ _=>bp) (fun _ _ _ _=>(aG Ek (hr.mono (by decide)) (q_a (aG d0 (hr.mono (by decide)) (q_a (q_v 1) (q_a (aw bW ag (q_v 0)) af))) af))))))
   (b_c (aq (i:=4) cV.nd (aw bH (aw cm (q_v 1) ag) ag))
   (b_c (aC (au fN (q_v 4) ag) (b_1 (aq (i:=3) cV.nd (aw fM (aw fM (aw fM (q_v 3) aj) (ar aO (bA (q_a aj (q_a aj (q_a aj (q_a aj (q_a aj af)))))) (q_v 4))) (ar aO (bA (q_a aj (q_a aj af))) (aw bH (aw cm (q_v 1) ag) ag))))) b_0)
   (b_1 (ak (q_v 3)))))))),?_⟩
 refine⟨_,rfl,a,ns,0,rfl,hS,by decide,?_⟩;generalize bj ns (Int.toNat 0)=cz;refine⟨sz rfl,fun p1 g1=>?_⟩;have w1:=ad g1 (.lst [.str " and ",.str " or "]);have j0:=ZR (cz / 3) (show(2:Int)≠0 by decide);have j1:=ZX (cz / 3) (show(0:Int)<2 by decide);have h2:∃o:Bool,atI [V.str " and ",V.str " or "] (cz / 3%2)=some (.str ((" ":Str)++orW o++(" ":Str))):=by
  have:cz / 3%2=0\/cz / 3%2=1:=by omega
  rcases this with e|e<;>rw[e]
  ·exact⟨false,by decide +kernel⟩
  ·exact⟨true,by decide +kernel⟩
 obtain⟨o,h2⟩:=h2;refine⟨_,rfl,_,_,rfl,rfl,⟨by decide,by decide⟩,_,_,rfl,rfl,(by show(0:Int)<2;decide),p1,_,_,_,rfl,rfl,SqL.of aa,h2,?_⟩;have hS1:=w1.seq hS;generalize upd H p1 (.lst [.str " and ",.str " or "])=H1 at w1 hS1 ⊢;have i0:=ZR cz (show(3:Int)≠0 by decide);have i1:=ZX cz (show(0:Int)<3 by decide);refine⟨_,rfl,rfl,_,rfl,_,_,rfl,rfl,(by show(0:Int)<3;decide),_,_,rfl,rfl,_,rfl,by omega,by omega,?_⟩;obtain⟨N,eN,n1,n3⟩:∃N:Nat,(1+cz%3:Int).toNat=N/\1<=N/\N<=3:=⟨_,rfl,by omega,by omega⟩
 rw[eN];refine ck (N:=N) (lo:=0) (fun k=>.str (aD (bj ns (1+k))).line) (by omega) (fun k H2 hk s2 R kk=>?_) (fun p2 H2 s2 g2=>?_)
 ·refine⟨_,rfl,_,rfl,_,_,rfl,rfl,a,ns,_,rfl,s2.seq hS1,by omega,_,rfl,fun H3 s3=>?_⟩;rw[show(1+(0+(k:Int))).toNat=1+k by omega];exact kk H3 s3
 have ey:((List.range N).map fun k=>V.str (aD (bj ns (1+k))).line)=(((List.range N).map fun k=>bj ns (1+k)).map fun n=>(aD n).line).map V.str:=by simp only[List.map_map];rfl
 rw[ey];obtain⟨ms,em,lm⟩:∃ms:List Int,((List.range N).map fun k=>bj ns (1+k))=ms/\ms.length=N:=⟨_,rfl,by simp⟩
 rw[em];obtain⟨d,ok,ej,el⟩:=zB o ms (by omega) (by omega);have fit:((ms.map fun n=>(aD n).line).map (·.length)).sum+(ms.map fun n=>(aD n).line).length*((" ":Str)++orW o++(" ":Str)).length<=16777216:=by
  have a:=qE ms;have b:=sj o;have c:=yu;have e:((" ":Str)++orW o++(" ":Str)).length<=5:=by simp only[ZT];omega
  rw[Zi,lm];have:=Nat.mul_le_mul n3 e;omega
 have w2:=w1.trans (s2.trans (ad g2 (.lst ((ms.map fun n=>(aD n).line).map V.str))));refine⟨_,p2,_,rfl,rfl,SqL.of aa,fit,?_⟩;rw[tj,ej];generalize upd H2 p2 (.lst ((ms.map fun n=>(aD n).line).map V.str))=H3 at w2 ⊢;have wne:=(GoodC.words (Dq.good ok)).1;have q:=fun tl key back H'=>q d tl key back H' ok;generalize d.cq.ws=ws at el wne q ⊢;refine⟨_,rfl,_,_,rfl,rfl,⟨by decide,by decide⟩,_,_,rfl,rfl,(by show(0:Int)<6;decide),?_⟩;have l0:=ZR (cz / 6) (show(6:Int)≠0 by decide);refine⟨_,rfl,_,_,rfl,rfl,_,rfl,cX (fun c=>?_) (fun c=>?_)⟩
 ·obtain⟨k,hk,ha,kl⟩:=A9 l0 c;have lby:(" by ":Str).length=4:=rfl;have lbk:(" back":Str).length=5:=rfl;refine⟨_,rfl,_,_,rfl,rfl,bU (by rw[lby];omega),?_⟩;refine⟨sz rfl,fun p4 g4=>?_⟩;have w4:=ad g4 (.lst [.str "place",.str "text",.str "size",.str "depth",.str "due"]);refine⟨_,rfl,p4,_,_,_,rfl,rfl,SqL.of aa,ha,_,_,rfl,rfl,bU (by rw[ZT,lby];omega),?_⟩;rw[<-rM wne k];refine⟨sz rfl,fun p5 g5=>?_⟩;have w5:=ad g5 (.lst [.str "",.str " back"]);have bl:(Str.join aI (ws++[("by":Str),k])).length<=69:=by rw[rM wne k,ZT,ZT,lby];omega
  have W:=w2.trans (w4.trans w5);have m0:=ZR (cz / 36) (show(2:Int)≠0 by decide);have m1:=ZX (cz / 36) (show(0:Int)<2 by decide);have:cz / 36%2=0\/cz / 36%2=1:=by omega
  rcases this with e|e
  ·refine⟨_,rfl,_,_,rfl,rfl,⟨by decide,by decide⟩,_,_,rfl,rfl,(by show(0:Int)<2;decide),p5,_,_,.str "",rfl,rfl,SqL.of aa,by rw[e];rfl,_,_,rfl,rfl,bU (by show _+0<=1000;omega),?_⟩;rw[Cu];exact⟨_,rfl,q _ k false _ (.key hk) W (by omega)⟩
  ·refine⟨_,rfl,_,_,rfl,rfl,⟨by decide,by decide⟩,_,_,rfl,rfl,(by show(0:Int)<2;decide),p5,_,_,.str " back",rfl,rfl,SqL.of aa,by rw[e];rfl,_,_,rfl,rfl,bU (by show _+5<=1000;omega),?_⟩;rw[<-mS (by simp),Zv];have bb:(Str.join aI (ws++([("by":Str),k]++[("back":Str)]))).length<=100:=by rw[<-Zv,mS (by simp),ZT,lbk];omega
   exact⟨_,rfl,q _ k true _ (.back hk) W bb⟩
 ·have:=q [] "place" false H3 .none w2;rw[Z8]at this;exact⟨_,rfl,this (by omega)⟩
theorem zR{ws:List Str}(h:ws≠[]):Str.join aI (ws++[("or":Str)])=Str.join aI ws++(" or":Str):=by
 refine dv ?_;rw[eR h (by simp),aW];have e1:(" or":Str).cps.toList=aI.cps.toList++("or":Str).cps.toList:=by decide +kernel
 rw[e1];rfl
def yO:Sp:=fun vs H Q _=>∃(ws:List Str) (r:List Str),vs=[.str (Str.join aI ws)]/\ws≠[]/\(∀x∈ws,32∉x.cps.toList)/\(Str.join aI ws).length<=100000/\ws.length<=100000/\XQ XS ws (.bad r)/\∀H',Same H H'->Q (.bl true) H'
abbrev jd:Stmt:=top 49
abbrev uA:List Str:=["_law_line","_law_refused_here"]
theorem iw:FnScope uA ["_law_line"] (ai jd):=⟨rfl,rfl,rfl,by decide +kernel,rfl,by decide +kernel,by decide +kernel⟩
theorem tQ{f C cQ:Addr}{fd:FuncData}{bQ:List Value}(F:Fun K "_law_refused" "_law_refused" jd f fd)(MkX_View:MkFnX P w K mg base 46 C "View" ["self","text"] (gY C cQ XS))(DH:ExC K cQ bQ)(g0:mg "NoQuestion" = some (.ref cQ)):FnOk P w K mg base CX0 48 f fd ["_law_line"] yO:=by
 refine F.okQ iw (fun vs H Q E h=>?_) (fun cdv A outer s H vs Q E hr h=>?_)
 ·obtain⟨ws,r,rfl,_⟩:=h;rfl
 obtain⟨ws,r,rfl,ne,nb,l1,l2,hx,q⟩:=h;refine⟨_,(b_c (aq (i:=1) iw.nd cY)
   (b_c (B9 rfl rfl (Ax (Cs MkX_View (hr.mono (by decide)) (q_a (q_v 0) af))) (Dr DH g0 (fun _=>(b_1 (aq (i:=1) iw.nd cY))) CJ))
   (b_1 (ak (q_v 1))))),?_⟩
 try rw[cxK]
 refine⟨_,rfl,fun x dx gx gdx nx=>?_⟩;have fr:Same H (upd (upd H dx (.own x)) x (.ins C dx [])):=fun b o e=>by rw[ac (fun z=>by rw[z,gx]at e;cases e),ac (fun z=>by rw[z,gdx]at e;cases e)];exact e
 refine⟨x,dx,ws,.bad r,rfl,aa,ne,nb,l1,l2,hx,(fun c key back er=>nomatch er),fun r' er H' dd s1 hd=>?_⟩;refine⟨cQ,bQ,rfl,DH,?_⟩;rw[show(Value.ref cQ::bQ).contains (.ref cQ)=true by simp];exact bG ⟨_,rfl,q _ (fr.trans s1)⟩
theorem se{K:PySem.W.Frag}:PySem.W.kitOne K (.type "list") (.type "list")=some true:=hZ (t:="list") (T:="list") (b:=true) rfl fun z=>nomatch z
theorem kY{H:Hp}{p:Addr}(h:H p=some (.lst [])):Dt H (.list []) (.ref p):=by simp only[Dt,DtAll];exact⟨p,_,rfl,.inl h,rfl⟩
theorem LR.upd{H:Hp}{l D:Addr}{L:LT}{xs ys:List V}(x:LR H l L)(hD:H D=some (.lst xs))(n:l≠D):LR (L2.upd H D (.lst ys)) l L:=⟨by rw[ac n];exact x.1,fun y hy=>(x.2 y hy).ts (dA hD)⟩
theorem SL.upd{H:Hp}{l D:Addr}{L:List (Addr×Sp1)}{xs ys:List V}(x:SL H l L)(hD:H D=some (.lst xs))(n:l≠D):SL (L2.upd H D (.lst ys)) l L:=⟨by rw[ac n];exact x.1,fun y hy=>(x.2 y hy).ts (dA hD)⟩
theorem lw{q:Str}{T D:Addr}{pos:Pos}{H:Hp}{xs ys:List V}(h:bD q T pos H)(hD:H D=some (.lst xs)):bD q T pos (L2.upd H D (.lst ys)):=by
 obtain⟨ps,e1,e2,e3⟩:=h;refine⟨ps,?_,e2,e3.imp id fun⟨c,z1,z2⟩=>⟨c,z1,?_⟩⟩
 ·rw[ac (fun z=>by rw[z,hD]at e1;cases e1)];exact e1
 ·rw[ac (fun z=>by rw[z,hD]at z2;cases z2)];exact z2
def QAt(H:Hp)(q:Addr)(d:Dq)(k:Str)(b:Bool):Prop:=d.ok/\∃c,H q=some (.tup [.ref c,.str k,.bl b])/\CqAt H (.ref c) d.cq
theorem QAt.ts{H H':Hp}{q:Addr}{d:Dq}{k:Str}{b:Bool}(h:QAt H q d k b)(s:TS H H'):QAt H' q d k b:=by obtain⟨ok,c,e,hc⟩:=h;exact⟨ok,c,s _ _ e,hc.ts s⟩
theorem QAt.get{H:Hp}{q:Addr}{d:Dq}{k:Str}{b:Bool}(h:QAt H q d k b)(L:LT):∃c,H q=some (.tup [.ref c,.str k,.bl b])/\CF L 2 H c (d.g L):=by obtain⟨ok,c,e,hc⟩:=h;obtain⟨a,ea,h⟩:=CD (L:=L) ok hc;cases ea;exact⟨c,e,h⟩
structure HeldAt(X:List Addr)(H:Hp)(x a1 a2 s1 s2:Addr)(M:LT)(S:List (Addr×Sp1)):Prop where
 tup:H x=some (.tup [.ref a1,.ref a2,.ref s1,.ref s2])
 l1:LR H a1 M
 l2:LR H a2 M
 t1:SL H s1 S
 t2:SL H s2 S
 n:a1∉X/\a2∉X/\s1∉X/\s2∉X
def HeldOk(X:List Addr)(H:Hp)(x:Addr):Prop:=∃a1 a2 s1 s2 M S,HeldAt X H x a1 a2 s1 s2 M S
theorem HeldOk.lk{X:List Addr}{H H':Hp}{x:Addr}(h:HeldOk X H x)(e:LK H H'):HeldOk X H' x:=by obtain⟨a1,a2,s1,s2,M,S,h⟩:=h;exact⟨a1,a2,s1,s2,M,S,e.1 _ _ h.tup,h.l1.lk e,h.l2.lk e,h.t1.lk e,h.t2.lk e,h.n⟩
theorem oU{H:Hp}{D:Addr}{xs ys:List V}(hD:H D=some (.lst xs)):TS H (upd H D (.lst ys)):=dA hD
theorem HeldOk.upd{X:List Addr}{H:Hp}{x D:Addr}{xs ys:List V}(h:HeldOk X H x)(hD:H D=some (.lst xs))(m:D∈X):HeldOk X (upd H D (.lst ys)) x:=by obtain⟨a1,a2,s1,s2,M,S,h⟩:=h;have ne:∀{b:Addr},b∉X->b≠D:=fun n z=>n (z▸m);exact⟨a1,a2,s1,s2,M,S,oU hD _ _ h.tup,h.l1.upd hD (ne h.n.1),h.l2.upd hD (ne h.n.2.1),h.t1.upd hD (ne h.n.2.2.1),h.t2.upd hD (ne h.n.2.2.2),h.n⟩
theorem bY{X:List Addr}{H:Hp}{b p:Addr}{o:HO}(n:b∉X)(e:H b=some o)(g:H p=none):b∉p::X:=fun z=>by
 rcases Ze.mp z with rfl|z
 ·rw[g]at e;cases e
 ·exact n z
theorem HeldOk.add{X:List Addr}{H:Hp}{x p:Addr}(h:HeldOk X H x)(g:H p=none):HeldOk (p::X) H x:=by obtain⟨a1,a2,s1,s2,M,S,h⟩:=h;exact⟨a1,a2,s1,s2,M,S,h.tup,h.l1,h.l2,h.t1,h.t2,bY h.n.1 h.l1.1 g,bY h.n.2.1 h.l2.1 g,bY h.n.2.2.1 h.t1.1 g,bY h.n.2.2.2 h.t2.1 g⟩
theorem HeldOk.sub{X:List Addr}{H:Hp}{x p:Addr}(h:HeldOk (p::X) H x):HeldOk X H x:=by obtain⟨a1,a2,s1,s2,M,S,h⟩:=h;have ne:∀{b:Addr},b∉p::X->b∉X:=fun n z=>n (Zu _ z);exact⟨a1,a2,s1,s2,M,S,h.tup,h.l1,h.l2,h.t1,h.t2,ne h.n.1,ne h.n.2.1,ne h.n.2.2.1,ne h.n.2.2.2⟩
structure Nm where
 C:Addr
 T:Addr
 pos:Pos
 d:Dq
 key:Str
 back:Bool
 a:Addr
 sc:List Int
 v:Addr
 e:Addr
 qh:Addr
 qa:Addr
 qe:Addr
 ph:Addr
structure SO(K:PySem.W.Frag)(n:Nm)(X:List Addr)(H:Hp)(hs:List Addr)(pc:Addr)(cs:List Int)(kl ke pm:Addr)(M ME MM:LT):Prop where
 sS:(Rd H n.a (.lst (n.sc.map V.int))/\n.a∉X)\/∀H',SqL K H' n.a (n.sc.map V.int)
 tab:bD eZ n.T n.pos H
 qh:QAt H n.qh n.d n.key n.back
 qa:QAt H n.qa n.d n.key n.back
 qe:QAt H n.qe (.one 0) "place" false
 held:H n.ph=some (.lst (hs.map V.ref))
 hok:∀x∈hs,HeldOk X H x
 vw:VwAt n.C H n.v n.qa kl
 ve:VwAt n.C H n.e n.qe ke
 nve:n.e≠n.v
 cell:H pc=some (.lst (cs.map V.int))
 lM:LR H kl M
 lE:LR H ke ME
 mn:LR H pm MM
 out:pc∉X/\kl∉X/\ke∉X/\pm∉X
 z:cs.length<=50/\M.length<=63/\ME.length<=63/\MM.length<=63
section
variable{n:Nm}{X:List Addr}{H H':Hp}{hs:List Addr}{pc kl ke pm:Addr}{cs:List Int}{M ME MM:LT}
theorem SO.seq(O:SO K n X H hs pc cs kl ke pm M ME MM):SqL K H n.a (n.sc.map V.int):=by
 rcases O.sS with h|h
 ·exact .inl h.1
 ·exact h H
theorem SO.kv(O:SO K n X H hs pc cs kl ke pm M ME MM)(s:KV n.T n.v H H')(t:bD eZ n.T n.pos H'){kl':Addr}{M':LT}(vw:VwAt n.C H' n.v n.qa kl')(lM:LR H' kl' M')(o:kl'∉X)(z:M'.length<=63):SO K n X H' hs pc cs kl' ke pm M' ME MM:=by
 obtain⟨ps,hT,_⟩:=id O.tab;have lk:=s.lk hT O.vw;obtain⟨dx,ev⟩:=O.vw;refine⟨?_,t,O.qh.ts lk.1,O.qa.ts lk.1,O.qe.ts lk.1,lk.2 _ _ O.held,fun x hx=>(O.hok x hx).lk lk,vw,O.ve.kv s hT O.nve,O.nve,lk.2 _ _ O.cell,lM,O.lE.lk lk,O.mn.lk lk,⟨O.out.1,o,O.out.2.2⟩,⟨O.z.1,z,O.z.2.2⟩⟩;refine O.sS.imp (fun h=>⟨?_,h.2⟩) id;rcases h.1 with e|⟨ob,e⟩
 ·exact .inl (lk.2 _ _ e)
 ·exact .inr ⟨ob,s _ _ e (fun z=>by rw[z,hT]at e;cases e) (fun z=>by rw[z,ev]at e;cases e)⟩
theorem SO.kve(O:SO K n X H hs pc cs kl ke pm M ME MM)(s:KV n.T n.e H H')(t:bD eZ n.T n.pos H'){ke':Addr}{ME':LT}(ve:VwAt n.C H' n.e n.qe ke')(lE:LR H' ke' ME')(o:ke'∉X)(z:ME'.length<=63):SO K n X H' hs pc cs kl ke' pm M ME' MM:=by
 obtain⟨ps,hT,_⟩:=id O.tab;have lk:=s.lk hT O.ve;obtain⟨dx,ev⟩:=O.ve;refine⟨?_,t,O.qh.ts lk.1,O.qa.ts lk.1,O.qe.ts lk.1,lk.2 _ _ O.held,fun x hx=>(O.hok x hx).lk lk,O.vw.kv s hT (ZW O.nve),ve,O.nve,lk.2 _ _ O.cell,O.lM.lk lk,lE,O.mn.lk lk,⟨O.out.1,O.out.2.1,o,O.out.2.2.2⟩,⟨O.z.1,O.z.2.1,z,O.z.2.2.2⟩⟩;refine O.sS.imp (fun h=>⟨?_,h.2⟩) id;rcases h.1 with e|⟨ob,e⟩
 ·exact .inl (lk.2 _ _ e)
 ·exact .inr ⟨ob,s _ _ e (fun z=>by rw[z,hT]at e;cases e) (fun z=>by rw[z,ev]at e;cases e)⟩
theorem SO.lkT(O:SO K n X H hs pc cs kl ke pm M ME MM)(s:SameT n.T H H'):LK H H':=by obtain⟨ps,hT,_⟩:=id O.tab;exact KV.lk (p:=n.v) (fun b o e n _=>s b o e n) hT O.vw
theorem SO.sameT(O:SO K n X H hs pc cs kl ke pm M ME MM)(s:SameT n.T H H')(t:bD eZ n.T n.pos H'):SO K n X H' hs pc cs kl ke pm M ME MM:=by have lk:=O.lkT s;obtain⟨ps,hT,_⟩:=id O.tab;obtain⟨dx,ev⟩:=O.vw;exact O.kv (fun b o e n _=>s b o e n) t ⟨dx,s _ _ ev (fun z=>by rw[z,hT]at ev;cases ev)⟩ (O.lM.lk lk) O.out.2.1 O.z.2.1
theorem SO.same(O:SO K n X H hs pc cs kl ke pm M ME MM)(s:Same H H'):SO K n X H' hs pc cs kl ke pm M ME MM:=O.sameT (.of s) (bN O.tab s)
theorem SO.mine(O:SO K n X H hs pc cs kl ke pm M ME MM){pm':Addr}{MM':LT}(h:LR H pm' MM')(o:pm'∉X)(z:MM'.length<=63):SO K n X H hs pc cs kl ke pm' M ME MM' :=
 ⟨O.sS,O.tab,O.qh,O.qa,O.qe,O.held,O.hok,O.vw,O.ve,O.nve,O.cell,O.lM,O.lE,h,⟨O.out.1,O.out.2.1,O.out.2.2.1,o⟩,⟨O.z.1,O.z.2.1,O.z.2.2.1,z⟩⟩
theorem SO.cells(O:SO K n X H hs pc cs kl ke pm M ME MM){pc':Addr}{cs':List Int}(h:H pc'=some (.lst (cs'.map V.int)))(o:pc'∉X)(z:cs'.length<=50):SO K n X H hs pc' cs' kl ke pm M ME MM :=
 ⟨O.sS,O.tab,O.qh,O.qa,O.qe,O.held,O.hok,O.vw,O.ve,O.nve,h,O.lM,O.lE,O.mn,⟨o,O.out.2⟩,⟨z,O.z.2⟩⟩
theorem SO.add(O:SO K n X H hs pc cs kl ke pm M ME MM){p:Addr}(g:H p=none):SO K n (p::X) H hs pc cs kl ke pm M ME MM:=by
 refine⟨O.sS.imp (fun h=>⟨h.1,?_⟩) id,O.tab,O.qh,O.qa,O.qe,O.held,fun x hx=>(O.hok x hx).add g,O.vw,O.ve,O.nve,O.cell,O.lM,O.lE,O.mn,⟨bY O.out.1 O.cell g,bY O.out.2.1 O.lM.1 g,bY O.out.2.2.1 O.lE.1 g,bY O.out.2.2.2 O.mn.1 g⟩,O.z⟩;rcases h.1 with e|⟨ob,e⟩
 ·exact bY h.2 e g
 ·exact bY h.2 e g
theorem SO.sub{p:Addr}(O:SO K n (p::X) H hs pc cs kl ke pm M ME MM):SO K n X H hs pc cs kl ke pm M ME MM:=by have ne:∀{b:Addr},b∉p::X->b∉X:=fun n z=>n (Zu _ z);exact⟨O.sS.imp (fun h=>⟨h.1,ne h.2⟩) id,O.tab,O.qh,O.qa,O.qe,O.held,fun x hx=>(O.hok x hx).sub,O.vw,O.ve,O.nve,O.cell,O.lM,O.lE,O.mn,⟨ne O.out.1,ne O.out.2.1,ne O.out.2.2.1,ne O.out.2.2.2⟩,O.z⟩
theorem SO.upd(O:SO K n X H hs pc cs kl ke pm M ME MM){p:Addr}{xs ys:List V}(h:H p=some (.lst xs))(m:p∈X)(np:p≠n.ph):SO K n X (upd H p (.lst ys)) hs pc cs kl ke pm M ME MM:=by
 have ne:∀{b:Addr},b∉X->b≠p:=fun n z=>n (z▸m);have ts:=oU (ys:=ys) h;refine⟨O.sS.imp (fun z=>⟨?_,z.2⟩) id,lw O.tab h,O.qh.ts ts,O.qa.ts ts,O.qe.ts ts,by rw[ac np.symm];exact O.held,fun x hx=>(O.hok x hx).upd h m,O.vw.upd h,O.ve.upd h,O.nve,by rw[ac (ne O.out.1)];exact O.cell,O.lM.upd h (ne O.out.2.1),O.lE.upd h (ne O.out.2.2.1),O.mn.upd h (ne O.out.2.2.2),O.out,O.z⟩;rcases z.1 with e|⟨ob,e⟩
 ·exact .inl (by rw[ac (ne z.2)];exact e)
 ·exact .inr ⟨ob,by rw[ac (ne z.2)];exact e⟩
theorem SO.hold(O:SO K n X H hs pc cs kl ke pm M ME MM){x:Addr}(hx:HeldOk X H x)(m:n.ph∈X):SO K n X (L2.upd H n.ph (.lst (hs.map V.ref++[.ref x]))) (hs++[x]) pc cs kl ke pm M ME MM:=by
 have ne:∀{b:Addr},b∉X->b≠n.ph:=fun n z=>n (z▸m);have h:=O.held;have ts:=oU (ys:=hs.map V.ref++[.ref x]) h;refine⟨O.sS.imp (fun z=>⟨?_,z.2⟩) id,lw O.tab h,O.qh.ts ts,O.qa.ts ts,O.qe.ts ts,by rw[aa,ZQ];rfl,fun y hy=>?_,O.vw.upd h,O.ve.upd h,O.nve,by rw[ac (ne O.out.1)];exact O.cell,O.lM.upd h (ne O.out.2.1),O.lE.upd h (ne O.out.2.2.1),O.mn.upd h (ne O.out.2.2.2),O.out,O.z⟩
 ·rcases z.1 with e|⟨ob,e⟩
  ·exact .inl (by rw[ac (ne z.2)];exact e)
  ·exact .inr ⟨ob,by rw[ac (ne z.2)];exact e⟩
 ·rcases ZG.mp hy with hy|hy
  ·exact(O.hok y hy).upd h m
  ·rw[Zd.mp hy];exact hx.upd h m
end
theorem vS{L:LT}{g:Nat->Bool}(h:∀k,g k=true):cJ L g=L:=by
 unfold cJ;rw[List.filter_eq_self.mpr (fun k _=>h k)];refine List.ext_getElem? fun i=>?_;rw[Zm];by_cases c:i<L.length
 ·rw[List.getElem?_range c];unfold bK aX;rw[Za c];show some ((L[i]?.getD (0,R0)).1,(L[i]?.getD (0,R0)).2)=_;rw[Za c];rfl
 ·rw[Ye (by simpa using c),Ye (by omega)];rfl
theorem yn{L M:LT}(h:eW "place" false (cJ L ((Dq.one 0).g L)) M):M=L:=by unfold eW at h;rw[EN rfl]at h;rw[h];show cJ L _=L;exact vS fun k=>rfl
theorem uL(ns:List Int){j:Int}(h0:0<=j){m:Nat}(h1:j<=m):∃cs:List Int,eA (ns.map V.int) none (some j)=cs.map V.int/\cs.length<=m:=by
 refine⟨ns.take j.toNat,?_,by rw[Z2];omega⟩;unfold eA;rw[show HT.sIx (ns.map V.int).length 0 none=0 from rfl,show HT.sIx (ns.map V.int).length (ns.map V.int).length (some j)=min j.toNat (ns.map V.int).length from EM (by omega),List.drop_zero,Nat.sub_zero,List.map_take];rw[Nat.min_def];split
 ·rfl
 ·rw[List.take_of_length_le (Zb _),List.take_of_length_le (by omega)]
theorem xf(xs:List V)(x:V):eA (xs++[x]) none (some (-1))=xs:=by
 have e:HT.sIx (xs++[x]).length (xs++[x]).length (some (-1))=xs.length:=by show(if(-1:Int)<0 then((-1:Int)+((xs++[x]).length:Int)).toNat else min (-1:Int).toNat (xs++[x]).length)=xs.length;rw[EN (by decide),Zs,ZC];omega
 unfold eA;rw[e,show HT.sIx (xs++[x]).length 0 none=0 from rfl,List.drop_zero,Nat.sub_zero,List.take_left]
abbrev cu:Stmt:=top 50
abbrev kN:List Str:=["_law_script","_law_line","_law_question_here","_law_view","_law_every","_law_mine","_law_held","_law_cells","_law_k","_law_rows_here","_law_steps","_law_told","_law_more","_law_kept","_law_first","_law_left"]
theorem bu:FnScope kN ["_law_script"] (ai cu):=⟨rfl,rfl,rfl,by decide +kernel,rfl,by decide +kernel,by decide +kernel⟩
abbrev yG:List Stmt:=pD ((aR cu).getD 8 (.Pass ⟨0,0,0,0⟩))
theorem bt:("rows":Str)≠"kept"/\("rows":Str)≠"question":=by decide +kernel
theorem cE:("follow":Str)≠"kept"/\("follow":Str)≠"question":=by decide +kernel
section
variable{f:Addr}{cdv:Value}{A:Around}{outer:List Env}{s:Shared}{H:Hp}{E:XK}{C T:Addr}
theorem Bi(hr:Room 48 (A.deeper (envOfC "law" (ai cu) s.heap.objs.size f cdv)))(i4:MFn P w K mg base 1 C "rows" ["self"] (fE C))(i5:MFn P w K mg base 9 C "follow" ["self","rows"] (eE C T))(d0:Fn P w K mg base 1 "_law_cell_at" ["_law_script","_law_k"] (gW K))(a8:mg "list" = none) :
  ∃t,QB (cH CX0 P w K mg base kN "law" (ai cu) f cdv A outer s H E).nox (yG.drop 6) t /\
   ∀(D:Ends) (n:Nm) (k:Nat) (pr ps pt:Addr) (L:LT) (S:List (Addr×Sp1)) (hs:List Addr) (pc:Addr) (cs:List Int) (kl ke pm:Addr) (M ME:LT) (o1 o12 o13 o14 o15:Option V) (H2:Hp),n.C=C->n.T=T->k<6->hs.length<=k->SO K n [pr,n.ph] H2 hs pc cs kl ke pm M ME M->pr≠n.ph->LR H2 pr L->Gd L->Len L->L.length<=50->LR H2 pt M->SL H2 ps S->pt∉[pr,n.ph]->ps∉[pr,n.ph] ->
    (∀(hs':List Addr) (pc':Addr) (cs':List Int) (ke':Addr) (ME':LT) (o9 o10 o11 o12:Option V) (H3:Hp),hs'.length<=k+1->SO K n [n.ph] H3 hs' pc' cs' kl ke' pm M ME' M->D.nx [some (.ref n.a),o1,some (.ref n.qh),some (.ref n.v),some (.ref n.e),some (.ref pm),some (.ref n.ph),some (.ref pc'),some (.int (k:Int)),o9,o10,o11,o12,o13,o14,o15] H3) ->
    t D [some (.ref n.a),o1,some (.ref n.qh),some (.ref n.v),some (.ref n.e),some (.ref pm),some (.ref n.ph),some (.ref pc),some (.int (k:Int)),some (.ref pr),some (.ref ps),some (.ref pt),o12,o13,o14,o15] H2:=by
 refine⟨_,(b_c (bJ (dr i5 (hr.mono (by decide)) (q_v 4) (q_a (gH iD a8 cD (q_a (q_v 9) af)) af)))
   (b_c (bJ (eM (q_v 6) (cw (q_a (q_v 11) (q_a (gH iD a8 cD (q_a (q_v 11) af)) (q_a (q_v 10) (q_a (gH iD a8 cD (q_a (q_v 10) af)) af)))))))
   (b_c (aC (au (dS hr.units) (bE i4 (hr.mono (by decide)) (q_v 4)) (q_v 9)) (b_1 (ak cY)) b_0)
   (b_c (bJ (eM (q_v 9) (cw (q_a ag (q_a (cw (q_a ag (q_a ag af))) (q_a aj (q_a cY (q_a dE (q_a cY af)))))))))
   (b_c (aC (t_w (eF (au (dS hr.units) (bE i4 (hr.mono (by decide)) (q_v 3)) (q_v 5)) (fw (au (dS hr.units) (bE i4 (hr.mono (by decide)) (q_v 4)) (qI iN (q_v 9) xU (kG (tW oV ag))))))) (b_1 (ak cY)) b_0)
   (b_c (aq (i:=12) bu.nd (qI iN (q_v 0) (kG (aw bW ag (aw tJ ag (q_v 8)))) (kG (aw bW ag (aw tJ ag (q_v 8))))))
   (b_1 (aq (i:=7) bu.nd (aw CT (qI iN (q_v 7) xU (kG (aw bH (aw cm (aG d0 (hr.mono (by decide)) (q_a (q_v 0) (q_a ag af))) (aw bW (q_v 8) ag)) ag))) (qI iN (q_v 12) xU (kG (aw bW ag (aw bH (q_v 8) ag))))))))))))),?_⟩
 rintro D n k pr ps pt L S hs pc cs kl ke pm M ME o1 o12 o13 o14 o15 H2 rfl rfl hk lh O npr hL gd gl zL hT hS nt ns nx;obtain⟨de,ee⟩:=O.ve;refine⟨_,rfl,n.e,de,_,rfl,ee,dG n.qe ke cE.1 cE.2,?_⟩;refine⟨_,rfl,pr,_,rfl,.inl (SqL.of hL.1),fun p3 g3=>?_⟩;have w3:=ad g3 (.lst (am L));have O3:=O.same w3;have hL3:LR (upd H2 p3 (.lst (am L))) p3 L:=⟨aa,fun x hx=>(hL.2 x hx).ts (Same.ts w3)⟩
 have hLr:=hL.same w3;have hT3:=hT.same w3;have hS3:=hS.same w3;generalize upd H2 p3 (.lst (am L))=H3 at w3 O3 hL3 hLr hT3 hS3 ⊢;obtain⟨ce,eqe,cfe⟩:=O3.qe.get L;refine⟨n.e,n.qe,ke,ce,p3,"place",false,L,ME,_,n.pos,rfl,O3.ve,O3.lE,O3.z.2.2.1,eqe,cfe,hL3,gd,gl,by omega,O3.tab,(fun z=>absurd rfl z),fun De pe H4 Me Se told kv t4 ve4 lE4 nDe npe _ _=>?_⟩;obtain rfl:=yn told;have nX:∀{x:Addr},H3 x=none->x∉[pr,n.ph]:=fun{x} g z=>by
  simp only[Ze,Zo,ZJ]at z;rcases z with rfl|rfl
  ·rw[hLr.1]at g;cases g
  ·rw[O3.held]at g;cases g
 obtain⟨pt0,hT0,_⟩:=id O3.tab;have lk:=kv.lk hT0 O3.ve;have O4:=O3.kve kv t4 ve4 lE4 (nX nDe) (by omega);have hL4:=hLr.lk lk;have hT4:=hT3.lk lk;have hS4:=hS3.lk lk;clear hLr hT3 hS3 lk kv O3 O hL hT hS w3 g3;refine⟨_,rfl,.inl ⟨rfl,_,SqL.of O4.held⟩,_,rfl,_,rfl,pt,_,rfl,.inl (SqL.of hT4.1),fun p5 g5=>?_⟩;have w5:=ad g5 (.lst (am M));have O5:=O4.same w5;have hU5:LR (upd H4 p5 (.lst (am M))) p5 M:=⟨aa,fun x hx=>(hT4.2 x hx).ts (Same.ts w5)⟩
 have hL5:=hL4.same w5;have hT5:=hT4.same w5;have hS5:=hS4.same w5;have n5:p5∉[pr,n.ph]:=fun z=>by
  simp only[Ze,Zo,ZJ]at z;rcases z with rfl|rfl
  ·rw[hL4.1]at g5;cases g5
  ·rw[O4.held]at g5;cases g5
 generalize upd H4 p5 (.lst (am M))=H5 at w5 O5 hU5 hL5 hT5 hS5 ⊢;refine⟨_,rfl,_,rfl,ps,_,rfl,.inl (SqL.of hS5.1),fun p6 g6=>?_⟩;have w6:=ad g6 (.lst (am S));have O6:=O5.same w6;have hV6:SL (upd H5 p6 (.lst (am S))) p6 S:=⟨aa,fun x hx=>(hS5.2 x hx).ts (Same.ts w6)⟩
 have hL6:=hL5.same w6;have hT6:=hT5.same w6;have hU6:=hU5.same w6;have hS6:=hS5.same w6;have n6:p6∉[pr,n.ph]:=fun z=>by
  simp only[Ze,Zo,ZJ]at z;rcases z with rfl|rfl
  ·rw[hL5.1]at g6;cases g6
  ·rw[O5.held]at g6;cases g6
 generalize upd H5 p6 (.lst (am S))=H6 at w6 O6 hV6 hL6 hT6 hU6 hS6 ⊢;refine⟨sz rfl,fun x7 g7=>?_⟩;have w7:=ad g7 (.tup [.ref pt,.ref p5,.ref ps,.ref p6]);have O7:=O6.same w7;have e7:upd H6 x7 (.tup [.ref pt,.ref p5,.ref ps,.ref p6]) x7=some (.tup [.ref pt,.ref p5,.ref ps,.ref p6]):=aa;have hL7:=hL6.same w7;have k7:HeldOk [pr,n.ph] (upd H6 x7 (.tup [.ref pt,.ref p5,.ref ps,.ref p6])) x7:=⟨pt,p5,ps,p6,M,S,e7,hT6.same w7,hU6.same w7,hS6.same w7,hV6.same w7,nt,n5,ns,n6⟩
 generalize upd H6 x7 (.tup [.ref pt,.ref p5,.ref ps,.ref p6])=H7 at O7 hL7 k7 ⊢;clear hL4 hT4 hS4 hU5 hL5 hT5 hS5 O4 O5 O6 hV6 hL6 hT6 hU6 hS6 w5 w6 w7 e7 g5 g6 g7;refine⟨n.ph,_,_,rfl,rfl,O7.held,bq (by rw[Zi];omega),?_⟩;have O8:=O7.hold k7 (by simp);have hL8:LR (upd H7 n.ph (.lst (hs.map V.ref++[.ref x7]))) pr Me:=hL7.upd O7.held npr;generalize upd H7 n.ph (.lst (hs.map V.ref++[.ref x7]))=H8 at O8 hL8 ⊢;clear O7 hL7 k7;obtain⟨d8,e8⟩:=O8.ve;refine⟨_,rfl,n.e,d8,_,rfl,e8,dG n.qe De bt.1 bt.2,n.e,n.qe,De,Me,rfl,O8.ve,O8.lE,fun p9 H9 g9 s9 h9=>?_⟩;have O9:=O8.same s9;have hL9:=hL8.same s9;refine⟨_,rfl,_,_,h9.dt,hL9.dt,aV h9.ok,aV hL9.ok,_,rfl,?_⟩;rw[dQ hL9.ok];refine aJ ?_;clear O8 hL8 h9 s9 g9;refine⟨_,rfl,.inl ⟨rfl,_,SqL.of hL9.1⟩,sz rfl,fun pA gA=>?_⟩;have wA:=ad gA (.tup [.int 0,.int 1000]);refine⟨sz rfl,fun pB gB=>?_⟩;have wB:=wA.trans (ad gB (.tup [.int 0,.ref pA,.str "a",.bl true,.non,.bl false]));have O10:=O9.same wB;have hL10:=hL9.same wB;generalize upd (upd H9 pA (.tup [.int 0,.int 1000])) pB (.tup [.int 0,.ref pA,.str "a",.bl true,.non,.bl false])=H10 at O10 hL10 ⊢;refine⟨pr,_,_,rfl,rfl,hL10.1,bq (by rw[ah];omega),?_⟩;have O11:=O10.upd (ys:=am Me++[.ref pB]) hL10.1 (by simp) npr;have e11:upd H10 pr (.lst (am Me++[.ref pB])) pr=some (.lst (am Me++[.ref pB])):=aa;have ts11:=oU (ys:=am Me++[.ref pB]) hL10.1;have hR11:∀x∈Me,RR (upd H10 pr (.lst (am Me++[.ref pB]))) x.1 x.2:=fun x hx=>(hL10.2 x hx).ts ts11;generalize upd H10 pr (.lst (am Me++[.ref pB]))=H11 at O11 e11 hR11 ⊢;clear O10 hL10 O9 hL9 wA wB gA gB ts11;have O12:=O11.sub;clear O11;obtain⟨d12,v12⟩:=O12.vw;refine⟨_,rfl,n.v,d12,_,rfl,v12,dG n.qa kl bt.1 bt.2,n.v,n.qa,kl,M,rfl,O12.vw,O12.lM,fun p13 H13 g13 s13 h13=>?_⟩;have O13:=O12.same s13;refine⟨_,rfl,_,_,h13.dt,O13.mn.dt,aV h13.ok,aV O13.mn.ok,_,rfl,?_⟩;rw[dQ O13.mn.ok];refine aJ ?_;obtain⟨d13,v13⟩:=O13.ve;refine⟨_,rfl,n.e,d13,_,rfl,v13,dG n.qe De bt.1 bt.2,n.e,n.qe,De,Me,rfl,O13.ve,O13.lE,fun p14 H14 g14 s14 h14=>?_⟩;have O14:=O13.same s14;have e14:=s14 _ _ (s13 _ _ e11);refine⟨_,rfl,_,rfl,_,rfl,pr,_,rfl,SqL.of e14,fun p15 g15=>?_⟩;rw[xf];have w15:=ad g15 (.lst (am Me));have O15:=O14.same w15;have h15:LR (upd H14 p15 (.lst (am Me))) p15 Me:=⟨aa,fun x hx=>(((hR11 x hx).ts (Same.ts s13)).ts (Same.ts s14)).ts (Same.ts w15)⟩
 have g14:=h14.same w15;refine⟨_,_,g14.dt,h15.dt,aV g14.ok,aV h15.ok,_,rfl,?_⟩;rw[dQ h15.ok];refine aJ ?_;generalize upd H14 p15 (.lst (am Me))=H15 at O15 ⊢;clear O12 O13 O14 h13 h14 g14 h15 w15 g15 e14 e11 hR11 s13 s14 g13;refine⟨_,rfl,_,rfl,_,_,rfl,rfl,.inl ⟨by decide,by decide⟩,_,_,rfl,rfl,_,rfl,_,rfl,_,_,rfl,rfl,.inl ⟨by decide,by decide⟩,_,_,rfl,rfl,_,rfl,n.a,_,rfl,O15.seq,fun p16 g16=>?_⟩;obtain⟨ms,em,lm⟩:=pP n.sc (some (13+8*(k:Int))) (some (21+8*(k:Int)));rw[em];have w16:=ad g16 (.lst (ms.map V.int));have O16:=O15.same w16;have e16:upd H15 p16 (.lst (ms.map V.int)) p16=some (.lst (ms.map V.int)):=aa;generalize upd H15 p16 (.lst (ms.map V.int))=H16 at O16 e16 ⊢;refine⟨_,rfl,_,rfl,n.a,n.sc,3,rfl,O16.seq,by decide,_,rfl,_,_,rfl,rfl,?_⟩;have cd:wI (bj n.sc (Int.toNat 3)) ((k:Int)+1):=⟨by omega,by omega⟩
 refine⟨_,_,rfl,rfl,cd,_,_,rfl,rfl,(by show(0:Int)<9;decide),_,rfl,pc,_,rfl,SqL.of O16.cell,fun p17 g17=>?_⟩;have m0:=ZR (bj n.sc (Int.toNat 3) / ((k:Int)+1)) (show(9:Int)≠0 by decide);have m1:=ZX (bj n.sc (Int.toNat 3) / ((k:Int)+1)) (show(0:Int)<9 by decide);obtain⟨xs,ex,lx⟩:=uL cs m0 (m:=8) (by omega);rw[ex];have w17:=ad g17 (.lst (xs.map V.int));have O17:=O16.same w17;have e17:upd H16 p17 (.lst (xs.map V.int)) p17=some (.lst (xs.map V.int)):=aa;have f17:=w17 _ _ e16;generalize upd H16 p17 (.lst (xs.map V.int))=H17 at O17 e17 f17 ⊢;have k0:=ZR (k:Int) (show(5:Int)≠0 by decide);have k1:=ZX (k:Int) (show(0:Int)<5 by decide);obtain⟨ys,ey,ly⟩:=uL ms (j:=4+(k:Int)%5) (by omega) (m:=8) (by omega);refine⟨_,rfl,_,rfl,_,_,rfl,rfl,(by show(0:Int)<5;decide),_,_,rfl,rfl,_,rfl,p16,_,rfl,SqL.of f17,fun p18 g18=>?_⟩;rw[ey];have w18:=ad g18 (.lst (ys.map V.int));have O18:=O17.same w18;have e18:upd H17 p18 (.lst (ys.map V.int)) p18=some (.lst (ys.map V.int)):=aa;have f18:=w18 _ _ e17;generalize upd H17 p18 (.lst (ys.map V.int))=H18 at O18 e18 f18 ⊢;refine⟨p17,p18,_,_,rfl,rfl,f18,e18,bU (by simp only[Zi];omega),fun p19 g19=>?_⟩;rw[<-ZQ];have w19:=ad g19 (.lst ((xs++ys).map V.int));refine nx (hs++[x7]) p19 (xs++ys) De Me _ _ _ _ _ (by simp;omega) ((O18.same w19).cells aa (fun z=>?_) (by simp;omega));rw[Zd.mp z,O18.held]at g19;cases g19
end
theorem wt{L M:List Rw}{S:List (Addr×Sp1)}(h:vals S=aF L M 0):S.length<=L.length+M.length:=by have h1:=cO L M 0;have h2:=rN (aF L M 0);rw[<-h,aT]at h2;rw[<-h]at h1;omega
section
variable{f:Addr}{cdv:Value}{A:Around}{outer:List Env}{s:Shared}{H:Hp}{E:XK}{C T:Addr}
theorem Bh(hr:Room 48 (A.deeper (envOfC "law" (ai cu) s.heap.objs.size f cdv)))(i4:MFn P w K mg base 1 C "rows" ["self"] (fE C))(i5:MFn P w K mg base 9 C "follow" ["self","rows"] (eE C T))(j8:Fn P w K mg base 8 "asked" ["question","rows"] (gU T))(i8:Fn P w K mg base 1 "_law_changed" ["_law_rows_here","_law_steps"] eU)(x4:Fn P w K mg base 2 "_law_rows" ["_law_cells"] lS)(d0:Fn P w K mg base 1 "_law_cell_at" ["_law_script","_law_k"] (gW K))(a8:mg "list" = none)(a7:mg "isinstance" = none) :
  ∃t,QB (cH CX0 P w K mg base kN "law" (ai cu) f cdv A outer s H E).nox yG t /\
   ∀(D:Ends) (n:Nm) (k:Nat) (hs:List Addr) (pc:Addr) (cs:List Int) (kl ke pm:Addr) (M ME:LT) (o1 o9 o10 o11 o12 o13 o14 o15:Option V) (H2:Hp),n.C=C->n.T=T->n.pos=iO (if n.back then eI else eJ)->k<6->hs.length<=k->SO K n [n.ph] H2 hs pc cs kl ke pm M ME M ->
    (∀(hs':List Addr) (pc':Addr) (cs':List Int) (kl' ke' pm':Addr) (M' ME':LT) (o9 o10 o11 o12:Option V) (H3:Hp),hs'.length<=k+1->SO K n [n.ph] H3 hs' pc' cs' kl' ke' pm' M' ME' M'->D.nx [some (.ref n.a),o1,some (.ref n.qh),some (.ref n.v),some (.ref n.e),some (.ref pm'),some (.ref n.ph),some (.ref pc'),some (.int (k:Int)),o9,o10,o11,o12,o13,o14,o15] H3) ->
    t D [some (.ref n.a),o1,some (.ref n.qh),some (.ref n.v),some (.ref n.e),some (.ref pm),some (.ref n.ph),some (.ref pc),some (.int (k:Int)),o9,o10,o11,o12,o13,o14,o15] H2:=by
 obtain⟨t2,htl,hb2⟩:=Bi (P:=P) (w:=w) (K:=K) (mg:=mg) (base:=base) (outer:=outer) (s:=s) (H:=H) (E:=E) hr i4 i5 d0 a8;refine⟨_,(b_c (aq (i:=9) bu.nd (aG x4 (hr.mono (by decide)) (q_a (q_v 7) af)))
   (b_c (aq (i:=10) bu.nd (dr i5 (hr.mono (by decide)) (q_v 3) (q_a (q_v 9) af)))
   (b_c (aC (t_w (eF (eO (bO (q_B kW a7 cj (q_a (q_v 10) (q_a (qG a8 cD) af))))) (fw (au (dS hr.units) (aG i8 (hr.mono (by decide)) (q_a (q_v 5) (q_a (q_v 10) af))) (aG j8 (hr.mono (by decide)) (q_a (q_v 2) (q_a (q_v 9) af))))))) (b_1 (ak cY)) b_0)
   (b_c (aq (i:=5) bu.nd (aG j8 (hr.mono (by decide)) (q_a (q_v 2) (q_a (q_v 9) af))))
   (b_c (aq (i:=11) bu.nd (bE i4 (hr.mono (by decide)) (q_v 3)))
   (b_c (aC (t_w (eF (eO (bO (q_B kW a7 cj (q_a (q_v 11) (q_a (qG a8 cD) af))))) (eF (au (dS hr.units) (q_v 11) (q_v 5)) (eF (au (dS hr.units) (dr i5 (hr.mono (by decide)) (q_v 3) (q_a (q_v 9) af)) (bA af)) (fw (au (dS hr.units) (bE i4 (hr.mono (by decide)) (q_v 3)) (q_v 5))))))) (b_1 (ak cY)) b_0)
   htl)))))),?_⟩
 rintro D n k hs pc cs kl ke pm M ME o1 o9 o10 o11 o12 o13 o14 o15 H2 rfl rfl hpos hk lh O nx;refine⟨_,rfl,pc,cs,rfl,O.cell,O.z.1,fun pr H3 L g3 s3 hL eL gd gl=>?_⟩;have npr:pr≠n.ph:=fun z=>by rw[z,O.held]at g3;cases g3
 have zL:L.length<=50:=by have:=O.z.1;omega
 have O3:=(O.add g3).same s3;clear O s3 g3;obtain⟨d3,v3⟩:=O3.vw;obtain⟨c3,q3,cf3⟩:=O3.qa.get L;refine⟨_,rfl,n.v,d3,_,rfl,v3,dG n.qa kl cE.1 cE.2,_,rfl,n.v,n.qa,kl,c3,pr,n.key,n.back,L,M,_,n.pos,rfl,O3.vw,O3.lM,O3.z.2.1,q3,cf3,hL,gd,gl,by omega,O3.tab,(fun _=>hpos),fun D4 ps H4 M' S told kv t4 vw4 lM4 nD nps hS eS=>?_⟩;have nX:∀{x:Addr},H3 x=none->x∉[pr,n.ph]:=fun{x} g z=>by
  simp only[Ze,Zo,ZJ]at z;rcases z with rfl|rfl
  ·rw[hL.1]at g;cases g
  ·rw[O3.held]at g;cases g
 obtain⟨lM',_⟩:=kK told;have pl:=gj L (n.d.g L);obtain⟨pt0,hT0,_⟩:=id O3.tab;have lk:=kv.lk hT0 O3.vw;have O4:=O3.kv kv t4 vw4 lM4 (nX nD) (by omega);have hL4:=hL.lk lk;have ns:=nX nps;clear O3 hL lk kv hT0 nX vw4 lM4 cf3 q3;have lead:=cM (vals M) (vals M') [];rw[List.length_nil,List.nil_append,List.nil_append,<-eS]at lead;have zS:=wt eS;rw[aT,aT]at zS;have zM:=O4.z.2.2.2;refine⟨_,rfl,_,"list",_,true,rfl,.lst hS.1,se,_,rfl,aJ ?_⟩;refine⟨_,rfl,_,rfl,pm,ps,M,S,rfl,O4.mn,by omega,hS,by omega,lead.1,fun p5 H5 L5 s5 h5 e5=>?_⟩;rw[lead.2]at e5;have O5:=O4.same s5;have hL5:=hL4.same s5;have hS5:=hS.same s5;obtain⟨c5,q5,cf5⟩:=O5.qh.get L;refine⟨_,rfl,_,rfl,n.qh,c5,pr,n.key,n.back,L,_,n.pos,rfl,q5,cf5,hL5,gd,gl,by omega,O5.tab,(fun _=>hpos),fun D6 H6 M6 told6 sT6 t6 eD6 nD6=>?_⟩;obtain rfl:=ji told6 told;have lk6:=O5.lkT sT6;have O6:=O5.sameT sT6 t6;have hL6:=hL5.lk lk6;have hS6:=hS5.lk lk6;have h6:=h5.lk lk6;have hD6:LR H6 D6 M6:=⟨eD6,O6.lM.2⟩
 have d6:=h6.dt;rw[e5]at d6;refine⟨_,_,d6,hD6.dt,aV hD6.ok,aV hD6.ok,_,rfl,?_⟩;rw[dQ hD6.ok];refine aJ ?_;clear O4 O5 hL4 hL5 hS hS5 h5 h6 d6 hD6 lk6 sT6 s5 cf5 q5 e5 lead eD6 nD6;obtain⟨c7,q7,cf7⟩:=O6.qh.get L;refine⟨_,rfl,_,rfl,n.qh,c7,pr,n.key,n.back,L,_,n.pos,rfl,q7,cf7,hL6,gd,gl,by omega,O6.tab,(fun _=>hpos),fun D7 H7 M7 told7 sT7 t7 eD7 nD7=>?_⟩;obtain rfl:=ji told7 told6;have lk7:=O6.lkT sT7;have n7:D7∉[pr,n.ph]:=fun z=>by
  simp only[Ze,Zo,ZJ]at z;rcases z with rfl|rfl
  ·rw[hL6.1]at nD7;cases nD7
  ·rw[O6.held]at nD7;cases nD7
 have O7a:=O6.sameT sT7 t7;have O7:=O7a.mine (pm':=D7) ⟨eD7,O7a.lM.2⟩ n7 (by omega);have hL7:=hL6.lk lk7;have hS7:=hS6.lk lk7;clear O6 O7a hL6 hS6 lk7 sT7 cf7 q7 eD7 nD7 t7 t6 t4;obtain⟨d8,v8⟩:=O7.vw;refine⟨_,rfl,n.v,d8,_,rfl,v8,dG n.qa D4 bt.1 bt.2,n.v,n.qa,D4,M7,rfl,O7.vw,O7.lM,fun pt H8 g8 s8 hT=>?_⟩;have nt:pt∉[pr,n.ph]:=fun z=>by
  simp only[Ze,Zo,ZJ]at z;rcases z with rfl|rfl
  ·rw[hL7.1]at g8;cases g8
  ·rw[O7.held]at g8;cases g8
 have O8:=O7.same s8;have hL8:=hL7.same s8;have hS8:=hS7.same s8;clear O7 hL7 hS7 s8 g8 v8;refine⟨_,rfl,_,"list",_,true,rfl,.lst hT.1,se,_,rfl,aJ ?_⟩;refine⟨_,rfl,_,rfl,_,_,hT.dt,O8.mn.dt,aV hT.ok,aV O8.mn.ok,_,rfl,?_⟩;rw[dQ O8.mn.ok];refine aJ ?_;obtain⟨d9,v9⟩:=O8.vw;obtain⟨c9,q9,cf9⟩:=O8.qa.get L;refine⟨_,rfl,n.v,d9,_,rfl,v9,dG n.qa D4 cE.1 cE.2,_,rfl,n.v,n.qa,D4,c9,pr,n.key,n.back,L,M7,_,n.pos,rfl,O8.vw,O8.lM,O8.z.2.1,q9,cf9,hL8,gd,gl,by omega,O8.tab,(fun _=>hpos),fun D9 p9 H9 M9 S9 told9 kv9 t9 vw9 lM9 nD9 np9 hS9 eS9=>?_⟩;obtain rfl:=ji told9 told7;have nX:D9∉[pr,n.ph]:=fun z=>by
  simp only[Ze,Zo,ZJ]at z;rcases z with rfl|rfl
  ·rw[hL8.1]at nD9;cases nD9
  ·rw[O8.held]at nD9;cases nD9
 obtain⟨pt1,hT1,_⟩:=id O8.tab;have lk9:=kv9.lk hT1 O8.vw;have O9:=O8.kv kv9 t9 vw9 lM9 nX (by omega);have hL9:=hL8.lk lk9;have hT9:=hT.lk lk9;have hSS:=hS8.lk lk9;rw[lU]at eS9;refine⟨sz rfl,fun p10 g10=>?_⟩;have w10:=ad g10 (.lst []);have d10:=(hS9.same w10).dt;rw[eS9]at d10;refine⟨_,_,d10,kY aa,rfl,rfl,_,rfl,aJ ?_⟩;have O10:=O9.same w10;have hL10:=hL9.same w10;have hT10:=hT9.same w10;have hS10:=hSS.same w10;generalize upd H9 p10 (.lst [])=H10 at O10 hL10 hT10 hS10 ⊢;clear O8 O9 hL8 hL9 hT hT9 hS8 hSS lk9 kv9 hT1 vw9 lM9 d10 w10 g10 hS9 cf9 q9;obtain⟨d11,v11⟩:=O10.vw;refine⟨_,rfl,n.v,d11,_,rfl,v11,dG n.qa D9 bt.1 bt.2,n.v,n.qa,D9,M9,rfl,O10.vw,O10.lM,fun p11 H11 g11 s11 h11=>?_⟩;have O11:=O10.same s11;refine⟨_,rfl,_,_,h11.dt,O11.mn.dt,aV h11.ok,aV O11.mn.ok,_,rfl,?_⟩;rw[dQ O11.mn.ok];refine aJ ?_;exact hb2 _ n k pr ps pt L S hs pc cs D9 ke D7 M9 ME o1 o12 o13 o14 o15 H11 rfl rfl hk lh O11 npr (hL10.same s11) gd gl zL (hT10.same s11) (hS10.same s11) nt ns fun hs' pc' cs' ke' ME' o9 o10 o11 o12 H' z1 z2=>nx hs' pc' cs' D9 ke' D7 M9 ME' o9 o10 o11 o12 H' z1 z2
end
section
variable{f:Addr}{cdv:Value}{A:Around}{outer:List Env}{s:Shared}{H:Hp}{E:XK}{C T:Addr}
theorem CM(hr:Room 48 (A.deeper (envOfC "law" (ai cu) s.heap.objs.size f cdv)))(i4:MFn P w K mg base 1 C "rows" ["self"] (fE C))(i5:MFn P w K mg base 9 C "follow" ["self","rows"] (eE C T))(i8:Fn P w K mg base 1 "_law_changed" ["_law_rows_here","_law_steps"] eU)(a5:mg "len" = none) :
  ∃t,QB (cH CX0 P w K mg base kN "law" (ai cu) f cdv A outer s H E).nox ((aR cu).drop 9) t /\
   ∀(D:Ends) (n:Nm) (hs:List Addr) (pc:Addr) (cs:List Int) (kl ke pm:Addr) (M ME:LT) (o1 o8 o9 o10 o11 o12 o13 o14 o15:Option V) (H2:Hp),n.C=C->n.T=T->n.pos=iO (if n.back then eI else eJ)->SO K n [n.ph] H2 hs pc cs kl ke pm M ME M->(∀H',D.rt (.bl true) H') ->
    t D [some (.ref n.a),o1,some (.ref n.qh),some (.ref n.v),some (.ref n.e),some (.ref pm),some (.ref n.ph),some (.ref pc),o8,o9,o10,o11,o12,o13,o14,o15] H2:=by
 refine⟨_,(b_c (io Yk rfl (bI (q_v 6)) (oF rfl (gE (ax (i:=11) bu.nd) (gE (ax (i:=13) bu.nd) (gE (ax (i:=10) bu.nd) (gE (ax (i:=14) bu.nd) sY))))) (b_1 (aC (t_w (eF (au (dS hr.units) (q_v 11) (q_v 13)) (fw (au (dS hr.units) (q_v 10) (q_v 14))))) (b_1 (ak cY)) b_0)))
   (b_c (aq (i:=11) bu.nd (bE i4 (hr.mono (by decide)) (q_v 3)))
   (b_c (bJ (eM (q_v 11) (cw (q_a ag (q_a (cw (q_a ag (q_a ag af))) (q_a aj (q_a cY (q_a dE (q_a cY af)))))))))
   (b_c (aC (au (dS hr.units) (bE i4 (hr.mono (by decide)) (q_v 3)) (q_v 5)) (b_1 (ak cY)) b_0)
   (b_c (aq (i:=15) bu.nd (dr i5 (hr.mono (by decide)) (q_v 3) (q_a (bA af) af)))
   (b_1 (ak (lJ (bo aK (q_B ba a5 Zx (q_a (q_v 15) af)) (q_B ba a5 Zx (q_a (q_v 5) af))) (lJ (bo (oH hr.units) (aG i8 (hr.mono (by decide)) (q_a (q_v 5) (q_a (q_v 15) af))) (bA af)) (oN (bo (oH hr.units) (bE i4 (hr.mono (by decide)) (q_v 3)) (bA af)))))))))))),?_⟩
 rintro D n hs pc cs kl ke pm M ME o1 o8 o9 o10 o11 o12 o13 o14 o15 H2 rfl rfl hpos O rt;refine⟨_,rfl,n.ph,rfl,⟨_,SqL.of O.held⟩,?_⟩;refine pU (K:=K) (a:=n.ph) (xs:=hs.map V.ref) (fun i σ H'=>H'=H2/\∃o10 o11 o13 o14:Option V,σ=[some (.ref n.a),o1,some (.ref n.qh),some (.ref n.v),some (.ref n.e),some (.ref pm),some (.ref n.ph),some (.ref pc),o8,o9,o10,o11,o12,o13,o14,o15]) ⟨rfl,o10,o11,o13,o14,rfl⟩ (fun i σ H' _ z=>z.1▸SqL.of O.held) ?_ ?_
 ·rintro i x σ H' hx ⟨rfl,o10,o11,o13,o14,rfl⟩;rw[Zm]at hx;obtain⟨y,hy,rfl⟩:=Ya.mp hx;obtain⟨a1,a2,s1,s2,M1,S1,h⟩:=O.hok y (Z1 hy);refine⟨y,[_,_,_,_],rfl,SqT.of h.tup,rfl,_,[_,_,_],rfl,_,[_,_],rfl,_,[_],rfl,_,[],rfl,rfl,?_⟩;refine⟨_,rfl,_,rfl,_,_,h.l1.dt,h.l2.dt,aV h.l1.ok,aV h.l2.ok,_,rfl,?_⟩;rw[dQ h.l2.ok];refine aJ ?_;refine⟨_,rfl,_,rfl,_,_,h.t1.dt,h.t2.dt,jS _ ql _,jS _ ql _,_,rfl,?_⟩;rw[xh _ ql];exact aJ ⟨rfl,_,_,_,_,rfl⟩
 rintro σ H' ⟨rfl,o10,o11,o13,o14,rfl⟩;obtain⟨d3,v3⟩:=O.vw;refine⟨_,rfl,n.v,d3,_,rfl,v3,dG n.qa kl bt.1 bt.2,n.v,n.qa,kl,M,rfl,O.vw,O.lM,fun pt H3 g3 s3 h3=>?_⟩;have O3:=(O.add g3).same s3;have np:pt≠n.ph:=fun z=>by rw[z,O.held]at g3;cases g3
 have zM:=O.z.2.1;clear O;refine⟨_,rfl,.inl ⟨rfl,_,SqL.of h3.1⟩,sz rfl,fun pA gA=>?_⟩;have wA:=ad gA (.tup [.int 0,.int 1000]);refine⟨sz rfl,fun pB gB=>?_⟩;have wB:=wA.trans (ad gB (.tup [.int 0,.ref pA,.str "a",.bl true,.non,.bl false]));have O4:=O3.same wB;have h4:=h3.same wB;generalize upd (upd H3 pA (.tup [.int 0,.int 1000])) pB (.tup [.int 0,.ref pA,.str "a",.bl true,.non,.bl false])=H4 at O4 h4 ⊢;refine⟨pt,_,_,rfl,rfl,h4.1,bq (by rw[ah];omega),?_⟩;have O5:=(O4.upd (ys:=am M++[.ref pB]) h4.1 (by simp) np).sub;generalize upd H4 pt (.lst (am M++[.ref pB]))=H5 at O5 ⊢;clear O3 O4 h3 h4 wA wB gA gB s3 g3;obtain⟨d6,v6⟩:=O5.vw;refine⟨_,rfl,n.v,d6,_,rfl,v6,dG n.qa kl bt.1 bt.2,n.v,n.qa,kl,M,rfl,O5.vw,O5.lM,fun p6 H6 g6 s6 h6=>?_⟩;have O6:=O5.same s6;refine⟨_,rfl,_,_,h6.dt,O6.mn.dt,aV h6.ok,aV O6.mn.ok,_,rfl,?_⟩;rw[dQ O6.mn.ok];refine aJ ?_;clear O5 h6 s6 g6;obtain⟨d7,v7⟩:=O6.vw;refine⟨_,rfl,n.v,d7,_,rfl,v7,dG n.qa kl cE.1 cE.2,sz rfl,fun p7 g7=>?_⟩;have w7:=ad g7 (.lst []);have O7:=O6.same w7;have e7:upd H6 p7 (.lst []) p7=some (.lst []):=aa;generalize upd H6 p7 (.lst [])=H7 at O7 e7 ⊢;clear O6;have hL7:LR H7 p7 []:=⟨e7,fun x hx=>nomatch hx⟩
 obtain⟨c7,q7,cf7⟩:=O7.qa.get [];refine⟨n.v,n.qa,kl,c7,p7,n.key,n.back,[],M,_,n.pos,rfl,O7.vw,O7.lM,O7.z.2.1,q7,cf7,hL7,⟨rfl,fun k hk=>absurd hk (Nat.not_lt_zero _)⟩,(fun x hx=>nomatch hx),by simp,O7.tab,(fun _=>hpos),fun D8 ps H8 M8 S told kv t8 vw8 lM8 nD nps hS eS=>?_⟩;obtain rfl:M8=[]:=by obtain⟨l8,_⟩:=kK told;exact List.length_eq_zero_iff.mp (by rw[l8];exact Nat.le_zero.mp (gj [] (n.d.g [])))
 have nX:D8∉[n.ph]:=fun z=>by rw[Zd.mp z,O7.held]at nD;cases nD
 have O8:=O7.kv kv t8 vw8 lM8 nX (by simp);have cp:=rN (vals S);have sm:=cO (vals M) (vals ([]:LT)) 0;rw[<-eS,aT]at sm;rw[aT]at cp;have l0:lcs (vals M) (vals ([]:LT))=0:=mz _;have l1:(vals ([]:LT)).length=0:=rfl;have lead:=cM (vals M) (vals ([]:LT)) [];rw[List.length_nil,List.nil_append,List.nil_append,<-eS]at lead;refine⟨_,rfl,ps,_,rfl,.inl (SqL.of hS.1),_,rfl,pm,_,rfl,.inl (SqL.of O8.mn.1),rfl,_,rfl,aH (ZO V.int (by rw[ah,ah];omega)) ?_⟩;refine⟨_,rfl,_,rfl,pm,ps,M,S,rfl,O8.mn,by omega,hS,by omega,lead.1,fun p9 H9 L9 s9 h9 e9=>?_⟩;rw[lead.2]at e9;obtain rfl:L9=[]:=by have:=ZO List.length e9;rw[aT]at this;exact List.length_eq_zero_iff.mp this
 refine⟨sz rfl,fun p10 g10=>?_⟩;have w10:=ad g10 (.lst []);refine⟨_,_,(h9.same w10).dt,kY aa,rfl,rfl,_,rfl,bG ?_⟩;have O10:=(O8.same s9).same w10;generalize upd H9 p10 (.lst [])=H10 at O10 ⊢;obtain⟨d11,v11⟩:=O10.vw;refine⟨_,rfl,n.v,d11,_,rfl,v11,dG n.qa D8 bt.1 bt.2,n.v,n.qa,D8,[],rfl,O10.vw,O10.lM,fun p11 H11 g11 s11 h11=>?_⟩;refine⟨sz rfl,fun p12 g12=>?_⟩;have w12:=ad g12 (.lst []);exact⟨_,_,(h11.same w12).dt,kY aa,rfl,rfl,rt _⟩
end
section
variable{f:Addr}{cdv:Value}{A:Around}{outer:List Env}{s:Shared}{H:Hp}{E:XK}{C T:Addr}
theorem CN(hr:Room 48 (A.deeper (envOfC "law" (ai cu) s.heap.objs.size f cdv)))(i4:MFn P w K mg base 1 C "rows" ["self"] (fE C))(i5:MFn P w K mg base 9 C "follow" ["self","rows"] (eE C T))(j8:Fn P w K mg base 8 "asked" ["question","rows"] (gU T))(i8:Fn P w K mg base 1 "_law_changed" ["_law_rows_here","_law_steps"] eU)(x4:Fn P w K mg base 2 "_law_rows" ["_law_cells"] lS)(d0:Fn P w K mg base 1 "_law_cell_at" ["_law_script","_law_k"] (gW K))(a8:mg "list" = none)(a7:mg "isinstance" = none)(a5:mg "len" = none)(a6:mg "range" = none) :
  ∃t,QB (cH CX0 P w K mg base kN "law" (ai cu) f cdv A outer s H E).nox ((aR cu).drop 8) t /\
   ∀(D:Ends) (n:Nm) (pc:Addr) (cs:List Int) (kl ke pm:Addr) (o1:Option V) (H2:Hp),n.C=C->n.T=T->n.pos=iO (if n.back then eI else eJ)->SO K n [n.ph] H2 [] pc cs kl ke pm [] [] []->(∀H',D.rt (.bl true) H') ->
    t D [some (.ref n.a),o1,some (.ref n.qh),some (.ref n.v),some (.ref n.e),some (.ref pm),some (.ref n.ph),some (.ref pc),none,none,none,none,none,none,none,none] H2:=by
 obtain⟨t1,hbd,hb1⟩:=Bh (P:=P) (w:=w) (K:=K) (mg:=mg) (base:=base) (outer:=outer) (s:=s) (H:=H) (E:=E) hr i4 i5 j8 i8 x4 d0 a8 a7;obtain⟨t2,htc,hc⟩:=CM (P:=P) (w:=w) (K:=K) (mg:=mg) (base:=base) (outer:=outer) (s:=s) (H:=H) (E:=E) hr i4 i5 i8 a5;refine⟨_,(b_c (io Yk rfl (dj a6 (q_a ag af)) (ax (i:=8) bu.nd) hbd)
   htc),?_⟩
 rintro D n pc cs kl ke pm o1 H2 e1 e2 hpos O rt;refine⟨_,rfl,by decide,by decide,?_⟩;refine uS (lo:=0) (fun i σ H'=>∃(hs:List Addr) (pc:Addr) (cs:List Int) (kl ke pm:Addr) (M ME:LT) (o8 o9 o10 o11 o12:Option V),hs.length<=i/\SO K n [n.ph] H' hs pc cs kl ke pm M ME M/\σ=[some (.ref n.a),o1,some (.ref n.qh),some (.ref n.v),some (.ref n.e),some (.ref pm),some (.ref n.ph),some (.ref pc),o8,o9,o10,o11,o12,none,none,none]) ⟨[],pc,cs,kl,ke,pm,[],[],none,none,none,none,none,Zb _,O,rfl⟩ ?_ ?_
 ·rintro i σ H' hi ⟨hs,pc,cs,kl,ke,pm,M,ME,o8,o9,o10,o11,o12,lh,O,rfl⟩;have b:=fun D=>hb1 D n i hs pc cs kl ke pm M ME o1 o9 o10 o11 o12 none none none H' e1 e2 hpos hi lh O;rw[<-Int.zero_add (i:Int)]at b;exact b _ fun hs' pc' cs' kl' ke' pm' M' ME' o9 o10 o11 o12 H3 z1 z2=>⟨hs',pc',cs',kl',ke',pm',M',ME',_,_,_,_,_,z1,z2,rfl⟩
 ·rintro σ H' ⟨hs,pc,cs,kl,ke,pm,M,ME,o8,o9,o10,o11,o12,lh,O,rfl⟩;exact hc _ n hs pc cs kl ke pm M ME o1 o8 o9 o10 o11 o12 none none none H' e1 e2 hpos O rt
end
def oQ(K:PySem.W.Frag)(T:Addr):Sp:=fun vs H Q _=>∃(a:Addr) (ns:List Int),vs=[.ref a]/\SqL K H a (ns.map V.int)/\ns.length<=63/\H T=some (.tbl #[])/\∀H',Q (.bl true) H'
theorem uB:XQ XS [("all":Str)] (.ok (Dq.cq (.one 0)) "place" false):=by have:=ss (d:=.one 0) trivial .none;rw[Z8]at this;exact this
theorem nw{C x dx:Addr}{H H':Hp}(gx:H x=none)(gdx:H dx=none)(k:∀b o,upd (upd H dx (.own x)) x (.ins C dx []) b=some o->b≠x->H' b=some o):Same H H':=fun b o e=>by
 have n1:b≠x:=fun z=>by rw[z,gx]at e;cases e
 exact k _ _ (by rw[ac n1,ac (fun z=>by rw[z,gdx]at e;cases e)];exact e) n1
theorem yE:∀ws:List Str,ws.length<=(Str.join aI ws).length+1
 | []=>ZB _
 | [x]=>by simp
 |x::y::r=>by have a:=yE (y::r);show _<=(x++aI++Str.join aI (y::r)).length+1;rw[ZT,ZT,show aI.length=1 from rfl];simp only[Zq]at a ⊢;omega
theorem CH(sc:List Int):∃cs:List Int,eA (sc.map V.int) (some 4) (some 13)=cs.map V.int/\cs.length<=50:=by obtain⟨cs,e,_⟩:=pP sc (some 4) (some 13);refine⟨cs,e,?_⟩;have l:=ZO List.length e;rw[Zi]at l;rw[<-l];unfold eA;rw[Z2];have e1:HT.sIx (sc.map V.int).length 0 (some 4)=min 4 (sc.map V.int).length:=HT.sIx_nat _ _ 4;have e2:HT.sIx (sc.map V.int).length (sc.map V.int).length (some 13)=min 13 (sc.map V.int).length:=HT.sIx_nat _ _ 13;rw[e1,e2];omega
theorem Bp{f C T cQ:Addr}{fd:FuncData}(F:Fun K "law" "law" cu f fd)(DG:Fn P w K mg base 2 "_law_question" ["_law_script"] (sC K))(pi:Fn P w K mg base 45 "read_question" ["text"] (calm (spQX cQ XS)))(DW:MkFn P w K mg base 46 C "View" ["self","text"] (calm (gY C cQ XS)))(i4:MFn P w K mg base 1 C "rows" ["self"] (fE C))(i5:MFn P w K mg base 9 C "follow" ["self","rows"] (eE C T))(DM:Fn P w K mg base 48 "_law_refused" ["_law_line"] yO)(j8:Fn P w K mg base 8 "asked" ["question","rows"] (gU T))(i8:Fn P w K mg base 1 "_law_changed" ["_law_rows_here","_law_steps"] eU)(x4:Fn P w K mg base 2 "_law_rows" ["_law_cells"] lS)(d0:Fn P w K mg base 1 "_law_cell_at" ["_law_script","_law_k"] (gW K))(a8:mg "list" = none)(a7:mg "isinstance" = none)(a5:mg "len" = none)(a6:mg "range" = none):FnOk P w K mg base CX0 49 f fd ["_law_script"] (oQ K T):=by
 refine F.okQ bu (fun vs H Q E h=>?_) (fun cdv A outer s H vs Q E hr h=>?_)
 ·obtain⟨a,ns,rfl,_⟩:=h;rfl
 obtain⟨a,sc,rfl,hS,hlen,hT,hq⟩:=h;obtain⟨t1,htl,hl⟩:=CN (P:=P) (w:=w) (K:=K) (mg:=mg) (base:=base) (outer:=outer) (s:=s) (H:=H) (E:=E) hr i4 i5 j8 i8 x4 d0 a8 a7 a5 a6;refine⟨_,(b_c (aq (i:=1) bu.nd (aG DG (hr.mono (by decide)) (q_a (q_v 0) af)))
   (b_c (aq (i:=2) bu.nd (aG pi (hr.mono (by decide)) (q_a (q_v 1) af)))
   (b_c (aq (i:=3) bu.nd (qH DW (hr.mono (by decide)) (q_a (q_v 1) af)))
   (b_c (aq (i:=4) bu.nd (qH DW (hr.mono (by decide)) (q_a aj af)))
   (b_c (aq (i:=5) bu.nd (bA af))
   (b_c (aq (i:=6) bu.nd (bA af))
   (b_c (aC (t_w (eF (au (dS hr.units) (bE i4 (hr.mono (by decide)) (q_v 3)) (bA af)) (fw (eO (bO (aG DM (hr.mono (by decide)) (q_a (aw fM (q_v 1) aj) af))))))) (b_1 (ak cY)) b_0)
   (b_c (aq (i:=7) bu.nd (qI iN (q_v 0) (kG ag) (kG ag)))
   htl)))))))),?_⟩
 refine⟨_,rfl,a,sc,rfl,hS,fun d tl key back H1 ok ht s1 ll=>?_⟩;have gw:=GoodC.words (Dq.good ok);have wne:d.cq.ws++tl≠[]:=by simp[gw.1]
 have wnb:∀x∈d.cq.ws++tl,32∉x.cps.toList:=fun x hx=>by
  rcases ZG.mp hx with hx|hx
  ·exact(gw.2 x hx).2
  ·have kb:∀k∈bC,32∉k.cps.toList:=by decide +kernel
   cases ht with
   |none=>cases hx
   |key hk =>
    simp only[Ze,Zo,ZJ]at hx;rcases hx with rfl|rfl
    ·decide +kernel
    ·exact kb _ hk
   |back hk =>
    simp only[Ze,Zo,ZJ]at hx;rcases hx with rfl|rfl|rfl
    ·decide +kernel
    ·exact kb _ hk
    ·decide +kernel
 have wl:(d.cq.ws++tl).length<=90000:=Zr (yE _) (by omega);have rq:=ss ok ht;obtain⟨rb,rqb⟩:=Da ok ht;refine⟨_,rfl,?_⟩;show spQX cQ XS _ _ _ _;refine⟨_,_,rfl,wne,wnb,by omega,by omega,rq,fun c key' back' er qh cv H2 s2 eq hc=>?_,fun r er=>nomatch er⟩;cases er;obtain⟨c2,xs2,rfl,_⟩:=hc.head;have Q2:QAt H2 qh d key back:=⟨ok,c2,eq,hc⟩
 have S2:=s1.trans s2;clear hc eq s2;refine⟨_,rfl,fun x dx gx gdx nx=>?_⟩;show gY C cQ XS _ _ _ _;refine⟨x,dx,_,_,rfl,aa,wne,wnb,by omega,by omega,rq,fun c key' back' er qa cv kl H3 k3 vw eq hc ek gk=>⟨rfl,?_⟩,fun r er=>nomatch er⟩;cases er;obtain⟨c3,xs3,rfl,_⟩:=hc.head;have s3:=nw gx gdx k3;have A3:QAt H3 qa d key back:=⟨ok,c3,eq,hc⟩
 have Q3:=Q2.ts (Same.ts s3);have S3:=S2.trans s3;clear Q2 k3 hc eq S2;intro y dy gy gdy ny;show gY C cQ XS _ _ _ _;refine⟨y,dy,[("all":Str)],_,rfl,aa,by simp,by decide +kernel,by decide +kernel,by decide,uB,fun c key' back' er qe cv ke H4 k4 ve eq hc eke gke=>⟨rfl,?_⟩,fun r er=>nomatch er⟩;cases er;obtain⟨c4,xs4,rfl,_⟩:=hc.head;have s4:=nw gy gdy k4;have E4:QAt H4 qe (.one 0) "place" false:=⟨trivial,c4,eq,hc⟩
 have Q4:=Q3.ts (Same.ts s4);have A4:=A3.ts (Same.ts s4);have V4:=vw.same s4;have K4:=s4 _ _ ek;have S4:=S3.trans s4;have nyx:y≠x:=fun z=>by obtain⟨dz,vz⟩:=vw;rw[<-z,gy]at vz;cases vz
 clear Q3 A3 k4 hc eq S3 vw ek;refine⟨sz rfl,fun pm g5=>?_⟩;have s5:=ad g5 (.lst []);have e5:upd H4 pm (.lst []) pm=some (.lst []):=aa;have S5:=S4.trans s5;have Q5:=Q4.ts (Same.ts s5);have A5:=A4.ts (Same.ts s5);have E5:=E4.ts (Same.ts s5);have V5:=V4.same s5;have W5:=ve.same s5;have K5:=s5 _ _ K4;have J5:=s5 _ _ eke;generalize upd H4 pm (.lst [])=H5 at e5 S5 Q5 A5 E5 V5 W5 K5 J5 ⊢;clear Q4 A4 E4 V4 ve K4 eke S4 s5;refine⟨sz rfl,fun ph g6=>?_⟩;have s6:=ad g6 (.lst []);have np:∀{b:Addr} {o:HO},H5 b=some o->b∉[ph]:=fun{b o} e z=>by rw[Zd.mp z,g6]at e;cases e
 have sS:(Rd (upd H5 ph (.lst [])) a (.lst (sc.map V.int))/\a∉[ph])\/∀H',SqL K H' a (sc.map V.int):=by
  rcases hS with(h|⟨ob,h⟩)|h
  ·exact .inl ⟨.inl (s6 _ _ (S5 _ _ h)),np (S5 _ _ h)⟩
  ·exact .inl ⟨.inr ⟨ob,s6 _ _ (S5 _ _ h)⟩,np (S5 _ _ h)⟩
  ·exact .inr fun _=>.inr h
 have O6:SO K ⟨C,T,iO (if back then eI else eJ),d,key,back,a,sc,x,y,qh,qa,qe,ph⟩ [ph] (upd H5 ph (.lst [])) [] pm [] kl ke pm [] [] [] :=
  ⟨sS,⟨#[],s6 _ _ (S5 _ _ hT),trivial,.inl rfl⟩,Q5.ts (Same.ts s6),A5.ts (Same.ts s6),E5.ts (Same.ts s6),aa,(fun x hx=>nomatch hx),V5.same s6,W5.same s6,nyx,s6 _ _ e5,⟨s6 _ _ K5,fun x hx=>nomatch hx⟩,⟨s6 _ _ J5,fun x hx=>nomatch hx⟩,⟨s6 _ _ e5,fun x hx=>nomatch hx⟩,⟨np e5,np K5,np J5,np e5⟩,by simp⟩
 generalize upd H5 ph (.lst [])=H6 at O6 ⊢;clear sS np s6 g6 Q5 A5 E5 V5 W5 K5 J5 e5 S5 g5;obtain⟨d7,v7⟩:=O6.vw;refine⟨_,rfl,x,d7,_,rfl,v7,dG qa kl bt.1 bt.2,x,qa,kl,[],rfl,O6.vw,O6.lM,fun p7 H7 g7 s7 h7=>?_⟩;refine⟨sz rfl,fun p8 g8=>?_⟩;have w8:=ad g8 (.lst []);refine⟨_,_,(h7.same w8).dt,kY aa,rfl,rfl,_,rfl,aJ ?_⟩;have O8:=(O6.same s7).same w8;generalize upd H7 p8 (.lst [])=H8 at O8 ⊢;clear O6 h7 s7 w8 v7;have lor:(" or":Str).length=3:=rfl;have jor:=zR wne;refine⟨_,rfl,_,_,rfl,rfl,bU (by rw[lor];omega),?_⟩;refine⟨_,rb,ZO (fun t=>[V.str t]) jor.symm,by simp,fun z hz=>?_,by rw[jor,ZT,lor];omega,by rw[Zs,ZC];omega,rqb,fun H9 s9=>⟨_,rfl,aJ ?_⟩⟩
 ·rcases ZG.mp hz with hz|hz
  ·exact wnb z hz
  ·rw[Zd.mp hz];decide +kernel
 have O9:=O8.same s9;clear O8 s9;obtain⟨cs,ec,lc⟩:=CH sc;refine⟨_,rfl,_,rfl,_,rfl,a,_,rfl,O9.seq,fun pc g10=>?_⟩;rw[ec];have w10:=ad g10 (.lst (cs.map V.int));refine hl _ ⟨C,T,iO (if back then eI else eJ),d,key,back,a,sc,x,y,qh,qa,qe,ph⟩ pc cs kl ke pm _ _ rfl rfl rfl ((O9.same w10).cells aa (fun z=>?_) lc) hq;have oh:=O9.held;rw[<-Zd.mp z,g10]at oh;cases oh
theorem xm{k:Nat}{f:Addr}{fd:FuncData}{ps:List Str}{sp:Sp}(h:∀vs H Q E,¬sp vs H Q E):FnOk P w K mg base (CXr P w) k f fd ps sp:=⟨fun _ _ _ _ z=>absurd z (h _ _ _ _),fun _ _ _ _ _ _ _ _ _ _ _ _ _ z=>absurd z (h _ _ _ _)⟩
theorem xq{x q:Str}{st:Stmt}{f c T:Addr}{fd:FuncData}(a:PySem.W.nsIn K mainGlobals x=some (some (.ref f)))(F:Fun K x q st f fd)(t:PySem.W.tabIn K x=some (c,T)):fd.code=.ref c:=by obtain⟨oc,od,kV,dc,pm,an,cd,ct,sl,rfl,l0,c0⟩:=id F.ex;exact yl a l0 t
end
def hG:Nat->(List Value->Prop)->Prop
 |0,p=>p []
 |n+1,p=>∀a,hG n fun us=>p (a::us)
theorem dP:∀{n:Nat} {p:List Value->Prop},hG n p->∀us:List Value,us.length=n->p us
 |0,_,h,[],_=>h
 |_+1,_,h,a::us,e=>dP (h a) us (Nat.succ.inj e)
section
variable{P:Program}{w:World}{K:PySem.W.Frag}{mg:Str->Option Value}{base h:Heap}{n m x q:Str}{st:Stmt}{C f:Addr}{k:Nat}{ps:List Str}{sp:Sp}{bm:List Value}
structure Bx(P:Program)(w:World)(K:PySem.W.Frag)(mg:Str->Option Value)(base h:Heap):Prop where
 X:K.In h
 G:h.Ns mainGlobals mg
def A1(K:PySem.W.Frag)(n:Str)(st:Stmt)(f:Addr):Prop:=PySem.W.nsIn K mainGlobals n=some (some (.ref f))/\∃fd,Fun K n n st f fd
def A2(K:PySem.W.Frag)(C:Addr)(m q:Str)(st:Stmt)(f:Addr):Prop:=PySem.W.findIn K (.ref C) m=some (some (.ref f))/\PySem.W.isFn K (.ref f)=true/\∃fd,Fun K m q st f fd
def AF(K:PySem.W.Frag):List (Str×Stmt×Addr)->Prop
 | []=>True
 |(n,st,f)::l=>A1 K n st f/\AF K l
def AM(K:PySem.W.Frag):List (Addr×Str×Str×Stmt×Addr)->Prop
 | []=>True
 |(C,m,q,st,f)::l=>A2 K C m q st f/\AM K l
def AN(p:Str->Prop):List Str->Prop
 | []=>True
 |n::l=>p n/\AN p l
theorem anI{p p':Str->Prop}(i:∀{n},p n->p' n):∀{l:List Str},AN p l->AN p' l
 | [],_=>True.intro
 |_::_,h=>⟨i h.1,anI i h.2⟩
theorem gf{l:List (Str×Stmt×Addr)}{oc kV dc pm cd ct:Value}{od an:Option Addr}{sl:Array (Option Value)}(a:PySem.W.nsIn K mainGlobals n=some (some (.ref f)))(b:K.lookup f=some ⟨oc,od,.func (PySem.W.fnOf n n (bR st) (aR st) (ai st) .none kV dc pm an cd ct),sl⟩)(c:PySem.W.codeIn K cd n=true)(d:PySem.W.keepIn K (.ref f)=true)(r:AF K l):AF K ((n,st,f)::l):=⟨⟨a,_,uT b c d⟩,r⟩
theorem gm{l:List (Addr×Str×Str×Stmt×Addr)}{oc kV dc pm cd ct:Value}{od an:Option Addr}{sl:Array (Option Value)}(a:PySem.W.findIn K (.ref C) m=some (some (.ref f)))(i:PySem.W.isFn K (.ref f)=true)(b:K.lookup f=some ⟨oc,od,.func (PySem.W.fnOf m q (bR st) (aR st) (ai st) .none kV dc pm an cd ct),sl⟩)(c:PySem.W.codeIn K cd q=true)(d:PySem.W.keepIn K (.ref f)=true)(r:AM K l):AM K ((C,m,q,st,f)::l):=⟨⟨a,i,_,uT b c d⟩,r⟩
theorem gn{l:List Str}(a:PySem.W.nsIn K mainGlobals n=some none)(r:AN (fun n=>PySem.W.nsIn K mainGlobals n=some none) l):AN (fun n=>PySem.W.nsIn K mainGlobals n=some none) (n::l):=⟨a,r⟩
theorem mkF(B:Bx P w K mg base h)(A:A1 K n st f)(ok:∀{fd},Fun K n n st f fd->FnOk P w K mg base CX0 k f fd ps sp)(hb:∀(kV doc pm:Value) (an:Option Addr) (cdv ct:Value),hG ps.length fun us=>bindArgs (PySem.W.fnOf n n (bR st) (aR st) (ai st) .none kV doc pm an cdv ct) ⟨us,[]⟩=pure (ps.zip us):=by(repeat intro _);rfl):Fn P w K mg base k n ps sp:=by obtain⟨a,fd,F⟩:=A;exact⟨f,fd,ok F,ZN B.X B.G a,F.kp,F.binds fun a b c d e g=>dP (hb a b c d e g)⟩
theorem mkR(B:Bx P w K mg base h)(A:A1 K n st f)(ok:∀{fd},Fun K n n st f fd->FnOk P w K mg base (CXr P w) k f fd ps sp)(hb:∀(kV doc pm:Value) (an:Option Addr) (cdv ct:Value),hG ps.length fun us=>bindArgs (PySem.W.fnOf n n (bR st) (aR st) (ai st) .none kV doc pm an cdv ct) ⟨us,[]⟩=pure (ps.zip us):=by(repeat intro _);rfl):FnX P w K mg base k n ps sp:=by obtain⟨a,fd,F⟩:=A;exact⟨f,fd,ok F,ZN B.X B.G a,F.kp,F.binds fun a b c d e g=>dP (hb a b c d e g)⟩
theorem mkM(B:Bx P w K mg base h)(L:Cls K C)(A:A2 K C m q st f)(ok:∀{fd},Fun K m q st f fd->FnOk P w K mg base CX0 k f fd ps sp)(hb:∀(kV doc pm:Value) (an:Option Addr) (cdv ct:Value),hG ps.length fun us=>bindArgs (PySem.W.fnOf m q (bR st) (aR st) (ai st) .none kV doc pm an cdv ct) ⟨us,[]⟩=pure (ps.zip us):=by(repeat intro _);rfl):MFn P w K mg base k C m ps sp:=by obtain⟨a,i,fd,F⟩:=A;exact⟨L,f,fd,ok F,⟨a,i,F.kp⟩,F.binds fun a b c d e g=>dP (hb a b c d e g)⟩
theorem mkX(B:Bx P w K mg base h)(L:Cls K C)(A:A2 K C m q st f)(ok:∀{fd},Fun K m q st f fd->FnOk P w K mg base (CXr P w) k f fd ps sp)(hb:∀(kV doc pm:Value) (an:Option Addr) (cdv ct:Value),hG ps.length fun us=>bindArgs (PySem.W.fnOf m q (bR st) (aR st) (ai st) .none kV doc pm an cdv ct) ⟨us,[]⟩=pure (ps.zip us):=by(repeat intro _);rfl):MFnX P w K mg base k C m ps sp:=by obtain⟨a,i,fd,F⟩:=A;exact⟨L,f,fd,ok F,⟨a,i,F.kp⟩,F.binds fun a b c d e g=>dP (hb a b c d e g)⟩
theorem mkC(B:Bx P w K mg base h)(L:Cls K C)(g:mg x=some (.ref C))(mk:PySem.W.makesIn K C=true)(kc:PySem.W.keepIn K (.ref C)=true)(A:A2 K C "__init__" q st f)(ok:∀{fd},Fun K "__init__" q st f fd->FnOk P w K mg base CX0 k f fd ps sp)(hb:∀(kV doc pm:Value) (an:Option Addr) (cdv ct:Value),hG ps.length fun us=>bindArgs (PySem.W.fnOf "__init__" q (bR st) (aR st) (ai st) .none kV doc pm an cdv ct) ⟨us,[]⟩=pure (ps.zip us):=by(repeat intro _);rfl):MkFn P w K mg base k C x ps sp:=by obtain⟨a,i,fd,F⟩:=A;exact⟨L,g,f,fd,ok F,⟨mk,a,i,kc⟩,F.binds fun a b c d e g=>dP (hb a b c d e g)⟩
theorem mkY(B:Bx P w K mg base h)(L:Cls K C)(g:mg x=some (.ref C))(mk:PySem.W.makesIn K C=true)(kc:PySem.W.keepIn K (.ref C)=true)(A:A2 K C "__init__" q st f)(ok:∀{fd},Fun K "__init__" q st f fd->FnOk P w K mg base (CXr P w) k f fd ps sp)(hb:∀(kV doc pm:Value) (an:Option Addr) (cdv ct:Value),hG ps.length fun us=>bindArgs (PySem.W.fnOf "__init__" q (bR st) (aR st) (ai st) .none kV doc pm an cdv ct) ⟨us,[]⟩=pure (ps.zip us):=by(repeat intro _);rfl):MkFnX P w K mg base k C x ps sp:=by obtain⟨a,i,fd,F⟩:=A;exact⟨L,g,f,fd,ok F,⟨mk,a,i,kc⟩,F.binds fun a b c d e g=>dP (hb a b c d e g)⟩
theorem mkE(B:Bx P w K mg base h)(e:ExcAtI K C f bm)(A:A2 K C m q st f)(ok:∀{fd},Fun K m q st f fd->FnOk P w K mg base CX0 k f fd ps sp)(hb:∀(kV doc pm:Value) (an:Option Addr) (cdv ct:Value),hG ps.length fun us=>bindArgs (PySem.W.fnOf m q (bR st) (aR st) (ai st) .none kV doc pm an cdv ct) ⟨us,[]⟩=pure (ps.zip us):=by(repeat intro _);rfl):ExI P w K mg base k C bm ps sp:=by obtain⟨a,i,fd,F⟩:=A;exact⟨f,fd,e,ok F,F.binds fun a b c d e g=>dP (hb a b c d e g)⟩
end
theorem AI{l:PySem.W.OpenLaw}{w:World}{K:PySem.W.Frag}{h:Heap}{mg:Str->Option Value}{fa f1 f2 f3 f4 f5 f6 f7 f8 f9 f10 f11 f12 f13 f14 f15 f16 f17 f18 f19 f20 f21 f22 f23 f24 f25 f26 f27 f28 f29 m1 m2 m3 m4 m5 m6 m7 m8 m9:Addr}{C_Reader:Addr}{C_View:Addr}(X:K.In h)(G:h.Ns mainGlobals mg)(hfa:mg "law" = some (.ref fa)){DZ:Tok}{Ex:Tok}{El:Tok}{Ez:Tok}{ED:Tok}{EF:Tok}{EG:Tok}{EH:Tok}{Ey:Tok}{x5:Addr}{D3 c_NoQuestion c_LimbError c0 T:Addr}(DX:PySem.W.nsIn K mainGlobals "Reader" = some (some (.ref C_Reader)))(DN:PySem.W.plainGet K C_Reader Str.empty=true)(DO:PySem.W.hasDictIn K C_Reader=true)(DP:PySem.W.plainOver K C_Reader=true)(DQ:PySem.W.findIn K (.ref C_Reader) "__setattr__" = some (some (.builtin "object.__setattr__")))(DR:PySem.W.makesIn K C_Reader=true)(DS:PySem.W.keepIn K (.ref C_Reader)=true)(r9:PySem.W.findIn K (.ref C_Reader) "words" = some none)(u4:PySem.W.findIn K (.ref C_Reader) "spot" = some none)(Em:PySem.W.nsIn K mainGlobals "View" = some (some (.ref C_View)))(D5:PySem.W.plainGet K C_View Str.empty=true)(Ea:PySem.W.hasDictIn K C_View=true)(Eb:PySem.W.plainOver K C_View=true)(Ec:PySem.W.findIn K (.ref C_View) "__setattr__" = some (some (.builtin "object.__setattr__")))(Ed:PySem.W.makesIn K C_View=true)(Ee:PySem.W.keepIn K (.ref C_View)=true)(p0:PySem.W.findIn K (.ref C_View) "question" = some none)(x9:PySem.W.findIn K (.ref C_View) "kept" = some none)(u5:PySem.W.nsIn K mainGlobals "NoQuestion" = some (some (.ref c_NoQuestion)))(DT:PySem.W.nsIn K mainGlobals "LimbError" = some (some (.ref c_LimbError)))(zF:AF K (("is_figures",fU,f1)::("is_item_word",eB,f2)::("item_in",jc,f3)::("may_follow",fV,f4)::("read_following",dO,f5)::("alone_or",im,f6)::("read_plain",fW,f7)::("read_one",iq,f8)::("read_each",gM,f9)::("read_some",gN,f10)::("read_question",dX,f11)::("is_leaf",jb,f12)::("are_under",cU,f13)::("fits_alone",fT,f14)::("truths_at",gP,f15)::("fitting",eT,f16)::("sort_value",fX,f17)::("asked",gT,f18)::("stay_with",gO,f19)::("most_that_stay",dN,f20)::("changes_of",cC,f21)::("_law_cell_at",iZ,f22)::("_law_text",qQ,f23)::("_law_rows",qP,f24)::("_law_changed",ja,f25)::("_law_word",qR,f26)::("_law_question",ip,f27)::("_law_refused",jd,f28)::("law",cu,f29)::[]))(zM:AM K ((c_NoQuestion,"__init__","NoQuestion.__init__",dH,m1)::(C_Reader,"__init__","Reader.__init__",fg,m2)::(C_Reader,"is_through","Reader.is_through",cZ,m3)::(C_Reader,"here","Reader.here",fe,m4)::(C_Reader,"go_on","Reader.go_on",dF,m5)::(C_Reader,"passes","Reader.passes",dW,m6)::(C_View,"__init__","View.__init__",gJ,m7)::(C_View,"rows","View.rows",gK,m8)::(C_View,"follow","View.follow",fh,m9)::[]))(zN:AN (fun n=>PySem.W.nsIn K mainGlobals n=some none) ("isinstance"::"int"::"bool"::"tuple"::"len"::"all"::"any"::"max"::"min"::"range"::"zip"::"list"::"reversed"::"sorted"::"enumerate"::[]))(t0:PySem.W.nsIn K mainGlobals "MOST_FIGURES" = some (some (.int 60 DZ)))(DU:PySem.W.nsIn K mainGlobals "FIGURES" = some (some (.str FIG Ex)))(DD:PySem.W.nsIn K mainGlobals "MOST_DEEP" = some (some (.int 12 El)))(Ef:PySem.W.nsIn K mainGlobals "DEPTH" = some (some (.int 0 Ez)))(En:PySem.W.nsIn K mainGlobals "NAME" = some (some (.int 1 ED)))(Eo:PySem.W.nsIn K mainGlobals "TEXT" = some (some (.int 2 EF)))(Ep:PySem.W.nsIn K mainGlobals "DONE" = some (some (.int 3 EG)))(Er:PySem.W.nsIn K mainGlobals "WHOM" = some (some (.int 4 EH)))(DY:PySem.W.nsIn K mainGlobals "FOLDED" = some (some (.int 5 Ey)))(DE:PySem.W.nsIn K mainGlobals "FOLLOWING" = some (some (.ref x5)))(t_FOLLOWING:PyProof.Rows.KTD.tabLook (lX K) (fun b=>K.lookup b) x5 FT=true)(u6:pT K c_NoQuestion m1=true)(u7:∃c d cd sl,K.lookup c_NoQuestion=some ⟨c,d,.cls cd,sl⟩/\cd.mro=Value.ref c_NoQuestion::Value.ref c_LimbError::VE)(if_NoQuestion:∃oI,K.lookup m1=some oI/\oI.cls=.type "function")(Es:PySem.W.nsIn K mainGlobals "KEYS" = some (some (.ref D3)))(t_KEYS:∃(o:Obj) (its:Array Value) (n:Nat),K.lookup D3=some o/\o.cls=.type "tuple"/\o.data=.seq its n/\its.size<=sizeLine/\Vals (bC.map V.str) its.toList)(tb1:PySem.W.tabIn K "asked" = some (c0,T))(aN:PySem.W.findIn K (.ref c_NoQuestion) "at" = some none)(s1:PySem.W.findIn K (.ref c_NoQuestion) "__setattr__" = some (some (.builtin "object.__setattr__")))(s2:((PySem.W.clsIn K c_NoQuestion).any fun cd=>lF cd.mro&&cd.hasDict)=true)(e6:PySem.W.mroIn K c_NoQuestion (.type "object")=some true)
  :∃fd:FuncData,(∀(s:Shared) (v:Value),BindsTo s fd ⟨[v],[]⟩ [("_law_script",v)])/\∀base:Heap,K.In base->base.Ns mainGlobals mg->Blt base mg->PySem.W.CodeHd base c0 T->FnOk l.prog w K mg base CX0 49 fa fd ["_law_script"] (oQ K T):=by
 obtain⟨Af1,Af2,Af3,Af4,Af5,Af6,Af7,Af8,Af9,Af10,Af11,Af12,Af13,Af14,Af15,Af16,Af17,Af18,Af19,Af20,Af21,Af22,Af23,Af24,Af25,Af26,Af27,Af28,⟨a0,_,F0⟩,_⟩:=zF;obtain⟨Am1,Am2,Am3,Am4,Am5,Am6,Am7,Am8,Am9,_⟩:=zM;obtain⟨a7,k9,Ei,u9,a5,l3,u8,Ev,Ew,a6,DV,a8,j9,DF,x8,_⟩:=anI (p':=fun n=>mg n=none) (fun z=>PySem.W.mg_none_of X G z) zN;have e:=hfa.symm.trans (ZN X G a0);cases e;obtain⟨oc,od,kV,dc,pm,an,cd,ct,sl,rfl,l0,c0⟩:=id F0.ex;have q0:=ZN X G t0;have DJ:=ZN X G DU;have u3:=ZN X G DD;have i6:=ZN X G Ef;have n9:=ZN X G En;have w9:=ZN X G Eo;have Eh:=ZN X G Ep;have n8:=ZN X G Er;have i7:=ZN X G DY;have u0:=ZN X G DE;have EA:=ZN X G DX;have l7:Cls K C_Reader:=⟨DN,DO,DP,DQ⟩
 have t5:Txt K C_Reader:=⟨l7,r9,u4⟩
 have EI:=ZN X G Em;have D1:Cls K C_View:=⟨D5,Ea,Eb,Ec⟩
 have Et:VTx K C_View:=⟨D1,p0,x9⟩
 have Eu:Tab K x5 FT:=⟨t_FOLLOWING⟩
 have g0:=ZN X G u5;have DI:ExcAtI K c_NoQuestion m1 (Value.ref c_LimbError::VE):=⟨u6,u7,by rw[List.contains_cons];rfl,if_NoQuestion⟩
 have Eg:=ZN X G Es;have hK:∀H,SqT K H D3 (bC.map V.str):=fun _=>.inr t_KEYS;have sN:ExS K c_NoQuestion:=⟨s1,s2,e6⟩
 refine⟨PySem.W.fnOf "law" "law" (bR cu) (aR cu) (ai cu) .none kV dc pm an cd ct,fun s v=>.of_eq rfl,fun base _ _ Bl C=>?_⟩;have B:Bx l.prog w K mg base h:=⟨X,G⟩
 have i9:=mkF B Af1 fun F=>og F a5 l3 q0 DJ;have r6:=mkF B Af2 fun F=>lD F i9 a5;have DK:=mkF B Af3 fun F=>tO F k9;have v5:=mkF B Af4 fun F=>oi F i9 r6;have l4:=mkF B Af5 fun F=>jI F DK k9;have j3:=mkF B Af6 fun F=>rn F a5 u9;have j2:=mkE B DI Am1 fun F=>iS F sN aN;have DL:=mkC B l7 EA DR DS Am2 fun F=>mE F t5;have j6:=mkM B l7 Am3 fun F=>ie F t5 a5;have j7:=mkM B l7 Am4 fun F=>mD F t5 j6;have j5:=mkX B l7 Am5 fun F=>kz F t5 j2 g0;have D2:=mkM B l7 Am5 fun F=>lC F t5;have c8:=mkM B l7 Am6 fun F=>kC F j7 D2;have FX_read_plain:=mkR B Af7 fun F=>oj F v5 l4 j7 j5 u0 Eu;have XO_:∀n,FnX l.prog w K mg base (3*n+3) "read_one" ["reader","depth"] (spX C_Reader c_NoQuestion (XO n)):=fun n=>by
  induction n with
  |zero=>exact mkR B Af8 fun _=>xm fun _ _ _ _ z=>by obtain⟨_,_,_,_,_,_,_,_,z,_⟩:=z;exact z
  |succ n ih =>have e1:=mkR B Af9 fun F=>iT (k:=3*n+3) (by omega) F ih c8 j3;have e2:=mkR B Af10 fun F=>iU (k:=3*n+4) (by omega) F e1 c8 j3;exact mkR B Af8 fun F=>rE (k:=3*n+3) (by omega) F ih e2 FX_read_plain c8 j7 j5 u3
 have FX_read_each:=mkR B Af9 fun F=>iT (k:=42) (by omega) F (XO_ 13) c8 j3;have FX_read_some:=mkR B Af10 fun F=>iU (k:=43) (by omega) F FX_read_each c8 j3;have FX_read_question:=mkR B Af11 fun F=>kD F DL t5 FX_read_some c8 j7 j5 j6 Eg hK j2 g0;have j4:=mkF B Af12 fun F=>tN F a5 i6;have b9:=mkF B Af13 fun F=>qB F DV i6;have h8:=mkF B Af14 fun F=>nZ F i6 w9 Eh n8 i7;have c6:=mkF B Af15 fun F=>qD F;have EJ:=mkF (k:=1) (ps:=["condition","rows"]) (sp:=sB) B Af16 fun _=>xl;have EK:=mkF B Af16 fun F=>rA F j4 b9 h8 c6 EJ a5 a6 u8 l3 n9 i7;have EL:=mkF B Af16 fun F=>rB F j4 b9 h8 c6 EK a5 a6 u8 l3 n9 i7;have a9:=mkF B Af16 fun F=>rC F j4 b9 h8 c6 EL a5 a6 u8 l3 n9 i7;have k8:=mkF B Af17 fun F=>om F a5 i6 w9 n8;have j8:=mkF B Af18 fun F=>xH F (xq Af18.1 F tb1) C Bl a9 k8 DV a8 j9 DF;have x6:=mkF B Af19 fun F=>qC F a5 a6 Ev;have l5:=mkF B Af20 fun F=>jH F x6 a5 a8 j9;have x3:=mkF B Af21 fun F=>nY F l5 a5;have MkX_View:=mkY B D1 EI Ed Ee Am7 fun F=>qz F Et FX_read_question;have DW:=MkX_View.calm;have pi:=FX_read_question.calm;have i4:=mkM B D1 Am8 fun F=>qA F Et a8;have i5:=mkM B D1 Am9 fun F=>mF F Et j8 x3;have d0:=mkF B Af22 fun F=>tL F a5;have Ej:=mkF B Af23 fun F=>zJ F;have x4:=mkF B Af24 fun F=>zI F Ej x8 Ew k9;have i8:=mkF B Af25 fun F=>tM F a5 a8 a7 u9 k9 Ei;have Ek:=mkF B Af26 fun F=>zK F;have DG:=mkF B Af27 fun F=>rD F d0 Ek a6;have DM:=mkF B Af28 fun F=>tQ F MkX_View (rT DI) g0;exact Bp F0 DG pi DW i4 i5 DM j8 i8 x4 d0 a8 a7 a5 a6
theorem DC{l:PySem.W.OpenLaw}{q:Program}{loose:List Str}{XP:(Str->Option Value)->Heap->Prop}{YP:World->Heap->Prop}{d:DefRec}{K:Params->PySem.W.Frag}{c0 T:Addr}(hn:l.most=some 63)(hdf:d.params.defaults=[])(hY:∀ (w:World) (h:Heap),YP w h->(K w.params).In h)(ht:∀ w:World,PySem.W.tabIn (K w.params) "asked" = some (c0,T))(hd:∃ d',(PyProof.Rows.recsOf q).find? (fun e=>e.name == ("asked":Str))=some d')(nt:∀ w:World,PySem.W.noTabs (K w.params)=true)(F:∀ (w:World) (mg:Str->Option Value) (fa:Addr) (h:Heap),(K w.params).In h->h.Ns mainGlobals mg->mg d.name=some (.ref fa) ->
   ∃ fd:FuncData,(∀ (s:Shared) (u:Value),BindsTo s fd ⟨[u],[]⟩ [("_law_script",u)])/\∀ base:Heap,(K w.params).In base->base.Ns mainGlobals mg->Blt base mg->PySem.W.CodeHd base c0 T->FnOk l.prog w (K w.params) mg base CX0 49 fa fd ["_law_script"] (oQ (K w.params) T)) :
  PySem.W.WalkO q loose XP YP l.row.toRowW d [] (fun f vs=>PySem.call f vs) :=
 L2.wG (n:=63) (k:=49) (x:="_law_script") (tabs:=fun _=>[("asked",c0,T)]) (sp:=fun w=>oQ (K w.params) T) hn (by decide) hdf ⟨rfl,by decide,by decide⟩ hY (fun w t htm=>by rw[Zd.mp htm];exact⟨ht w,hd⟩) nt
  (fun w mg fa h k g e=>let⟨fd,b,r⟩:=F w mg fa h k g e;⟨fd,b,fun base k2 g2 bl cs=>r base k2 g2 bl (cs _ (Zd.mpr rfl))⟩) (fun w H a ns hl hT hS=>⟨a,ns,rfl,hS,hl,hT _ (Zd.mpr rfl),fun _=>rfl⟩)
end K60
namespace PySem.W.Fast
def tw10582014830800536972:=()
def tw17190848427169087199:=()
def tw12597577958575117169:=()
def tw10444585751199258070:=()
def tw1852915544340035917:=()
def tw5050818498470160229:=()
def tw9908841321951409454:=()
def tw12751858049012653541:=()
def tw17707663593836835277:=()
def tw11964718741999746977:=()
def tw8147758970433786427:=()
def tw9157470195594603917:=()
def tw3056418888211897042:=()
def tw4768904024124391731:=()
def tw7540732983034471270:=()
def tw12253589086211954263:=()
def tw2671663181169351141:=()
def tw3497052378631064071:=()
def tw8224943029339767410:=()
def tw2934775960242273818:=()
def tw12871899037280579748:=()
def tw6542353058931633336:=()
def tw4067781337745724429:=()
def tw925445937397469501:=()
def tw8190988845687090874:=()
def tw10741372877008969415:=()
def tw7130435701855468289:=()
def tw16525910446156674892:=()
def tw1979498018432060440:=()
def tw18039990485951282685:=()
def tw6921486153920347285:=()
def tw15341705506497011175:=()
def tw10545503711616251074:=()
def tw18331673383490614620:=()
def tw9985480547524969080:=()
def tw14911658939153998184:=()
def tw156929467343898427:=()
def tw12188035019453512484:=()
def tw8178506121343818669:=()
def tw5643183756031685939:=()
def tw7245629398428297112:=()
def tw4640257119254332200:=()
def tw14461158780582121681:=()
def tw14247546643551581249:=()
def tw935146844013814296:=()
def tw17629145062836416359:=()
def tw1636320597399376598:=()
def tw8891421934643821971:=()
def tw14898822285736519821:=()
def tw15263556160165624385:=()
def tw18135944500345667953:=()
def tw3393168084431588952:=()
end PySem.W.Fast
open PySem PySem.W PyProof.Rows
set_option maxRecDepth 100000 in
set_option maxHeartbeats 0 in
theorem PySem.Challenge.cw_limb_k60_views_holds : PySem.Challenge.rw_limb_k60_views.Holds := by
  w_on; o_law; k_head; (case hw => w_witness2)
  k_fill
  refine' K60.DC (l := PySem.Challenge.rw_limb_k60_views) rfl rfl (fun w h Y => PySem.W.km_in_of Y) ?ht ?hd ?nt ?F
  case ht => intro w; with_unfolding_all rfl
  case hd => exact ⟨_, rfl⟩
  case nt => intro w; kernel_rfl
  case F =>
    intro w mg fa h KX G hmg
    refine' K60.AI KX G hmg ?DX ?DN ?DO ?DP ?DQ ?DR ?DS ?r9 ?u4 ?Em ?D5 ?Ea ?Eb ?Ec ?Ed ?Ee ?p0 ?x9 ?u5 ?DT ?zF ?zM ?zN ?t0 ?DU ?DD ?Ef ?En ?Eo ?Ep ?Er ?DY ?DE ?t_FOLLOWING ?u6 ?u7 ?if_NoQuestion ?Es ?t_KEYS ?tb1 ?aN ?s1 ?s2 ?e6
    (case DX => k_is)
    (case DN => k_is)
    (case DO => k_is)
    (case DP => k_is)
    (case DQ => k_is)
    (case DR => k_is)
    (case DS => k_is)
    (case r9 => k_is)
    (case u4 => k_is)
    (case Em => k_is)
    (case D5 => k_is)
    (case Ea => k_is)
    (case Eb => k_is)
    (case Ec => k_is)
    (case Ed => k_is)
    (case Ee => k_is)
    (case p0 => k_is)
    (case x9 => k_is)
    (case u5 => k_is)
    (case DT => k_is)
    (case zF => (repeat refine K60.gf (by k_is) (by k_is) (by k_is) (by k_is) ?_); exact True.intro)
    (case zM => (repeat refine K60.gm (by k_is) (by k_is) (by k_is) (by k_is) (by k_is) ?_); exact True.intro)
    (case zN => (repeat refine K60.gn (by k_is) ?_); exact True.intro)
    (case t0 => k_is)
    (case DU => k_is)
    (case DD => k_is)
    (case Ef => k_is)
    (case En => k_is)
    (case Eo => k_is)
    (case Ep => k_is)
    (case Er => k_is)
    (case DY => k_is)
    (case DE => k_is)
    (case t_FOLLOWING => rfl)
    (case u6 => kernel_rfl)
    (case u7 => exact ⟨_, _, _, _, rfl, rfl⟩)
    (case if_NoQuestion => exact ⟨_, rfl, rfl⟩)
    (case Es => k_is)
    (case t_KEYS => exact ⟨_, _, _, rfl, rfl, rfl, by decide, .cons ⟨_, rfl⟩ (.cons ⟨_, rfl⟩ (.cons ⟨_, rfl⟩ (.cons ⟨_, rfl⟩ (.cons ⟨_, rfl⟩ .nil))))⟩)
    (case tb1 => with_unfolding_all rfl)
    (case aN => k_is)
    (case s1 => k_is)
    (case s2 => rfl)
    (case e6 => k_is)
