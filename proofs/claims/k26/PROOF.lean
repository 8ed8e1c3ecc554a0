import PyProof.Rows.All
import Wide.All
import OpenK.AllK
import Wide.FinOn
import PyProof.EqAt
import PyProof.EqKinds
import PyProof.TupleCall
import Lean
import PySem.Challenge.RW_limb_k26_no_sign_is_lost
def zd:=@PySem.wpAny_bind
def ze:=@PySem.Heap.get?_push_of_some
def zh:=@Nat.le_refl
def zi:=@PySem.wpAny_pure
def zj:=@List.getD_eq_getElem?_getD
def zk:=@PyProof.Rows.wpS_bind
def zl:=@PyProof.Rows.wpS_pure
def zm:=@List.getElem?_eq_getElem
def zn:=@List.map_cons
def zo:=@Bool.false_ne_true
def zp:=@List.size_toArray
def zq:=@PySem.Heap.lt_size
def zr:=@List.length_map
def zt:=@List.length_append
def zw:=@PySem.Heap.get?_push_size
def zA:=@Array.length_toList
def zC:=@Nat.lt_of_lt_of_le
def zD:=@List.mem_cons
def zE:=@Option.some.inj
def zG:=@Array.toList_append
def zH:=@List.append_assoc
def zI:=@List.take_append_drop
def zJ:=@Nat.ne_of_lt
def zK:=@List.pairwise_append
def zL:=@Bool.and_eq_true
def zO:=@List.take_of_length_le
def zP:=@List.mem_cons_of_mem
def zQ:=@List.lookup_cons
def zR:=@Nat.zero_le
def zS:=@Nat.le_trans
def zT:=@List.getElem?_eq_some_iff
def zU:=@List.mem_append_right
def zV:=@List.map_append
def zW:=@List.getElem?_append_right
def zX:=@List.length_drop
def zY:=@PySem.wpAny_callSpecial?_slot
def zZ:=@Nat.add_sub_cancel_left
def z9:=@List.mem_append
def Za:=@List.length_take
def Zb:=@PyProof.Rows.wpS_forRange
def Zd:=@PySem.Heap.SameBut.update
def Ze:=@Array.getD_eq_getD_getElem?
def Zf:=@PyProof.Rows.slot_tuple_getitem
def Zg:=@List.mem_cons_self
def Zh:=@PySem.wpAny_call_entry
def Zi:=@PyProof.Rows.wpS_mono
def Zj:=@Array.map_append
def Zk:=@List.take_sublist
def Zl:=@PySem.wpAny_newObj_type
def Zm:=@PySem.F.slot_dict_keyiterator_next
def Zn:=@PySem.Paired.length
def Zo:=@Nat.lt_or_ge
def Zq:=@PySem.W.kia_one
def Zr:=@PySem.wpAny_field
def Zs:=@List.length_cons
def Zt:=@List.not_mem_nil
def Zu:=@List.drop_sublist
def Zv:=@PySem.PassesOwn.never
def Zw:=@Int.emod_lt_of_pos
def Zx:=@PySem.wpAny_mono
def Zy:=@Array.size_map
def Zz:=@List.getElem?_map
def ZA:=@List.append_nil
def ZB:=@PySem.mem_of_lookup
def ZC:=@Option.map_eq_some_iff
def ZD:=@List.getElem?_append_left
def ZE:=@List.pairwise_iff_getElem
def ZF:=@congrArg
def ZG:=@List.nodup_cons
def ZH:=@Int.emod_nonneg
def ZI:=@Nat.lt_irrefl
def ZJ:=@PySem.wpAny_typeNameOfWhole_keyiter
def ZK:=@beq_iff_eq
def ZL:=@List.drop_of_length_le
def ZM:=@Nat.ne_of_gt
def ZN:=@PyProof.Rows.callWith_type1
def ZO:=@Bool.false_eq_true
def ZP:=@Array.getElem?_toList
def ZQ:=@Bool.eq_false_iff
set_option Elab.async false
set_option linter.all false
set_option maxRecDepth 100000
set_option maxHeartbeats 2000000
local macro_rules | `(tactic| omega) => `(tactic| first | with_reducible first | assumption | exact Nat.le_of_lt (by assumption) | exact Nat.le_refl _ | exact Nat.lt_add_one _ | exact Nat.le_trans (by assumption) (by decide) | exact Nat.lt_of_lt_of_le (by assumption) (by decide) | exact Nat.sub_lt_sub_left (by assumption) (Nat.lt_add_one _) | exact Nat.le_antisymm (by assumption) (Nat.le_of_not_lt (by assumption)) | lia)
namespace L2
open PySem PySem.Spec PyProof.Rows
abbrev Key:=Sum Int Str
def fz:Key->Value->Bool
 |.inl k,v=>Value.isInt k v
 |.inr x,v=>Value.isStrOf x v
def wS(w:World):Key->Int
 |.inl k=>hashInt k
 |.inr x=>hashStr w x
theorem aT:∀{k:Key} {v:Value},fz k v=true->(∃i t,k=Sum.inl i/\v=Value.int i t)\/(∃x t,k=Sum.inr x/\v=Value.str x t)
 |.inl i,v,h=>by obtain⟨t,e⟩:=Value.isInt_shape (k:=i) (v:=v) h;exact .inl ⟨i,t,rfl,e⟩
 |.inr x,v,h=>by obtain⟨t,e⟩:=Value.isStrOf_shape (x:=x) (v:=v) h;exact .inr ⟨x,t,rfl,e⟩
theorem nJ(i:Int)(t:Tok):fz (.inl i) (.int i t)=true:=by simp[fz,Value.isInt]
theorem nK(x:Str)(t:Tok):fz (.inr x) (.str x t)=true:=by simp[fz,Value.isStrOf]
theorem tK(a b:Int):decide ((Sum.inl a:Key)=Sum.inl b)=(a==b):=by
 by_cases e:a=b
 ·subst e;simp
 ·have h:¬(Sum.inl a:Key)=Sum.inl b:=fun q=>e (Sum.inl.inj q);rw[decide_eq_false h];exact(beq_eq_false_iff_ne.mpr e).symm
theorem tN(a b:Str):decide ((Sum.inr a:Key)=Sum.inr b)=decide (a=b):=by
 by_cases e:a=b
 ·subst e;simp
 ·have h:¬(Sum.inr a:Key)=Sum.inr b:=fun q=>e (Sum.inr.inj q);rw[decide_eq_false h,decide_eq_false e]
theorem tL(a:Int)(b:Str):decide ((Sum.inl a:Key)=Sum.inr b)=false:=decide_eq_false (fun q=>nomatch q)
theorem tM(a:Str)(b:Int):decide ((Sum.inr a:Key)=Sum.inl b)=false:=decide_eq_false (fun q=>nomatch q)
def aZ(prog:Program)(w:World):PySem.KeyKind prog w Key where
 is:=fz
 hash:=wS w
 inj:=fun v a b ha hb=>by
  rcases aT ha with⟨i,t,rfl,rfl⟩|⟨x,t,rfl,rfl⟩
  ·rcases aT hb with⟨j,u,rfl,e⟩|⟨y,u,rfl,e⟩
   ·injection e with e1 _;rw[e1]
   ·exact nomatch e
  ·rcases aT hb with⟨j,u,rfl,e⟩|⟨y,u,rfl,e⟩
   ·exact nomatch e
   ·injection e with e1 _;rw[e1]
 byValue:=fun k v h=>by rcases aT h with⟨i,t,rfl,rfl⟩|⟨x,t,rfl,rfl⟩<;>rfl
 pyHash:=fun hv h=>by
  rcases aT hv with⟨i,t,rfl,rfl⟩|⟨x,t,rfl,rfl⟩
  ·exact wpAny_pyHash_int h
  ·exact wpAny_pyHash_str h
 eqBool:=fun hu hv h=>by
  rcases aT hu with⟨i,t,rfl,rfl⟩|⟨x,t,rfl,rfl⟩
  ·rcases aT hv with⟨j,u,rfl,rfl⟩|⟨y,u,rfl,rfl⟩
   ·rw[tK]at h;exact wpAny_eqBool_int h
   ·rw[tL]at h;exact SeqAt.EqAt.int_str i t y u _ _ _ _ h
  ·rcases aT hv with⟨j,u,rfl,rfl⟩|⟨y,u,rfl,rfl⟩
   ·rw[tM]at h;exact SeqAt.EqAt.str_int x t j u _ _ _ _ h
   ·rw[tN]at h;exact wpAny_eqBool_str h
 «strs»:=fun k x t v h=>by
  rcases aT h with⟨i,u,rfl,e⟩|⟨y,u,rfl,e⟩
  ·exact nomatch e
  ·injection e with e1 _;subst e1;cases v<;>rfl
theorem kI(prog:Program)(w:World)(i:Int)(t:Tok):(aZ prog w).is (.inl i) (.int i t)=true:=nJ i t
theorem kJ(prog:Program)(w:World)(x:Str)(t:Tok):(aZ prog w).is (.inr x) (.str x t)=true:=nK x t
open PySem PySem.Spec PyProof.Rows
inductive V where
 |non|bl (b:Bool)|int (i:Int)|str (x:Str)|byt (b:Array UInt8)|flt (b:UInt64)|ref (a:Addr)|ty (n:String)
 deriving DecidableEq
def RelV:V->Value->Prop
 |.non,u=>u=Value.none
 |.bl b,u=>u=Value.bool b
 |.int i,u=>∃t,u=Value.int i t
 |.str x,u=>∃t,u=Value.str x t
 |.byt b,u=>∃t,u=Value.bytes b t
 |.flt b,u=>∃t,u=Value.float b t
 |.ref a,u=>u=Value.ref a
 |.ty n,u=>u=Value.type n
abbrev Vals:List V->List Value->Prop:=Paired RelV
theorem Vals.length{xs:List V}{us:List Value}(r:Vals xs us):xs.length=us.length:=Zn r
theorem Vals.get:∀{xs:List V} {us:List Value} {i:Nat} {x:V},Vals xs us->xs[i]?=some x->∃u,us[i]?=some u/\RelV x u
 |_,_,_,_,.nil,e=>by simp at e
 |_,_,0,_,.cons r _,e=>by simp at e;subst e;exact⟨_,rfl,r⟩
 |_,_,i+1,x,.cons _ t,e=>by obtain⟨u,h1,h2⟩:=Vals.get (i:=i) (x:=x) t (by simpa using e);exact⟨u,by simpa using h1,h2⟩
theorem Vals.append:∀{xs ys:List V} {us ws:List Value},Vals xs us->Vals ys ws->Vals (xs++ys) (us++ws)
 |_,_,_,_,.nil,s=>s
 |_,_,_,_,.cons r t,s=>.cons r (Vals.append t s)
theorem Vals.take:∀{xs:List V} {us:List Value} (n:Nat),Vals xs us->Vals (xs.take n) (us.take n)
 |_,_,0,_=>.nil
 |_,_,_+1,.nil=>.nil
 |_,_,n+1,.cons r t=>.cons r (Vals.take n t)
theorem Vals.drop:∀{xs:List V} {us:List Value} (n:Nat),Vals xs us->Vals (xs.drop n) (us.drop n)
 |_,_,0,r=>r
 |_,_,_+1,.nil=>.nil
 |_,_,n+1,.cons _ t=>Vals.drop n t
def RelO:Option V->Option Value->Prop
 |some v,some u=>RelV v u
 |none,none=>True
 |_,_=>False
def KV{κ:Type}:List (κ×V)->List (κ×Value)->Prop:=Paired fun(p:κ×V) (q:κ×Value)=>p.1=q.1/\RelV p.2 q.2
def kV:Key->V
 |.inl i=>.int i
 |.inr x=>.str x
inductive HO where
 |lst (xs:List V)
 |tup (xs:List V)
 |dK (kvs:List (Key×V))|dT (kvs:List (List Key×V))
 |set (S:Int->Bool)(n:Nat)
 |ins (C dx:Addr)(fs:List (Str×V))
 |own (x:Addr)
 |xd (fs:List (Str×V))
 |met (f x:Addr)
 |rng (lo hi:Int)
 |frz (o:Obj)(u:HO)
 |tbl (ps:Array Value)
 |ext (φ:Heap->Prop)
abbrev Hp:=Addr->Option HO
def upd(H:Hp)(a:Addr)(o:HO):Hp:=fun b=>if b=a then some o else H b
theorem ae{H:Hp}{a:Addr}{o:HO}:upd H a o a=some o:=by unfold upd;rw[if_pos rfl]
theorem af{H:Hp}{a b:Addr}{o:HO}(h:b≠a):upd H a o b=H b:=by unfold upd;rw[if_neg h]
theorem dg{H:Hp}{a b:Addr}{o u:HO}(h:H a=some o)(h':H b=some u)(d:o≠u):a≠b:=by intro e;subst e;rw[h]at h';exact d (zE h')
theorem aq{H:Hp}{a b:Addr}{o:HO}(h:H a=some o)(h':H b=none):a≠b:=by intro e;subst e;rw[h]at h';cases h'
section
variable(P:Program)(w:World)
def ObjOk(H:Hp)(h:Heap)(a:Addr):HO->Prop
 |.lst xs=>xs.length<=sizeLine/\∃(its:List Value) (n:Nat),Vals xs its/\h.get? a=some { cls:=.type "list",data:=.seq its.toArray n }
 |.tup xs=>xs.length<=sizeLine/\∃its:List Value,Vals xs its/\IsTup h a its.toArray
 |.dK kvs=>kvs.length<=sizeLine/\(a==sysModules)=false/\∃vs,KV kvs vs/\h.DictOf (aZ P w) a vs
 |.dT kvs=>kvs.length<=sizeLine/\(a==sysModules)=false/\∃xs:List (List Key×Addr×Value),
   Paired (fun(p:List Key×V) (q:List Key×Addr×Value)=>p.1=q.1/\H q.2.1=some (.tup (p.1.map kV))/\RelV p.2 q.2.2) kvs xs /\
   ∃o es ep,h.get? a=some o/\o.ExactDict/\o.data=.dict es ep/\es.toList=xs.map (entryOfKey (tupleKind (aZ P w)))/\(xs.map (·.1)).Nodup
 |.set S n=>h.SetOf (intKind P w) a S n
 |.ins C dx fs=>H dx=some (.own a)/\fs.length<=1000/\dx≠a/\h.get? a=some (PySem.W.instObj C dx) /\
   ∃mA,h.Ns1 dx mA/\(∀f,RelO (fs.lookup f) (mA f))/\PySem.Within mA (fs.map (·.1))
 |.own _=>∃o,h.get? a=some o
 |.xd fs=>∃mA,h.Ns1 a mA/\∀f,RelO (fs.lookup f) (mA f)
 |.rng lo hi=>∃t u v,h.get? a=some { cls:=.type "range",data:=.fields #[.int lo t,.int hi u,.int 1 v] }
 |.frz o u=>h.get? a=some o/\ObjOk H h a u
 |.tbl ps=>h.get? a=some { cls:=.none,data:=.fields ps }
 |.met f x=>h.get? a=some (PySem.W.methodObj (.ref f) (.ref x))
 |.ext φ=>φ h/\(∃o,h.get? a=some o)/\∀h1 h2:Heap,φ h1->(∀o,h1.get? a=some o->h2.get? a=some o)->φ h2
def HOk(H:Hp)(h:Heap):Prop:=∀a o,H a=some o->ObjOk P w H h a o
end
section
variable{P:Program}{w:World}{H H':Hp}{h h':Heap}{a:Addr}{o:HO}
theorem ObjOk.lt(x:ObjOk P w H h a o):a<h.objs.size:=by
 cases o with
 |lst xs=>obtain⟨_,_,_,_,e⟩:=x;exact zq e
 |tup xs=>obtain⟨_,_,_,p⟩:=x;exact p.lt
 |dK kvs=>obtain⟨_,_,_,_,o,_,_,e,_⟩:=x;exact zq e
 |dT kvs=>obtain⟨_,_,_,_,o,_,_,e,_⟩:=x;exact zq e
 |set S n=>obtain⟨o,_,_,_,e,_⟩:=x;exact zq e
 |ins C dx fs=>obtain⟨_,_,_,e,_⟩:=x;exact zq e
 |own y=>obtain⟨_,e⟩:=x;exact zq e
 |xd fs=>obtain⟨_,⟨_,_,_,e,_⟩,_⟩:=x;exact zq e
 |rng lo hi=>obtain⟨_,_,_,e⟩:=x;exact zq e
 |frz ob u=>obtain⟨e,_⟩:=x;exact zq e
 |tbl ps=>exact zq (show h.get? a=some _ from x)
 |met f y=>exact zq (show h.get? a=some _ from x)
 |ext φ=>obtain⟨_,⟨_,e⟩,_⟩:=x;exact zq e
theorem Paired.mapP{α β:Type}{F G:α->β->Prop}:∀{l₁:List α} {l₂:List β},Paired F l₁ l₂->(∀a b,F a b->G a b)->Paired G l₁ l₂
 |_,_,.nil,_=>.nil
 |_,_,.cons r t,f=>.cons (f _ _ r) (Paired.mapP t f)
theorem ObjOk.stay(x:ObjOk P w H h a o)(k:∀b u,(b=a\/H b=some (.own a))->h.get? b=some u->h'.get? b=some u)(ho:∀b,H b=some (.own a)->H' b=some (.own a))(ht:∀b xs,H b=some (.tup xs)->H' b=some (.tup xs)):ObjOk P w H' h' a o:=by
 induction o with
 |lst xs=>obtain⟨z,its,n,r,e⟩:=x;exact⟨z,its,n,r,k _ _ (.inl rfl) e⟩
 |tup xs=>obtain⟨z,its,r,ob,e,c⟩:=x;exact⟨z,its,r,ob,k _ _ (.inl rfl) e,c⟩
 |dK kvs=>obtain⟨z,y,vs,r,ob,es,ep,e,c⟩:=x;exact⟨z,y,vs,r,ob,es,ep,k _ _ (.inl rfl) e,c⟩
 |dT kvs =>obtain⟨z,y,xs,r,ob,es,ep,e,c⟩:=x;exact⟨z,y,xs,Paired.mapP r fun p q z=>⟨z.1,ht _ _ z.2.1,z.2.2⟩,ob,es,ep,k _ _ (.inl rfl) e,c⟩
 |set S n=>obtain⟨ob,es,ep,t,e,c⟩:=x;exact⟨ob,es,ep,t,k _ _ (.inl rfl) e,c⟩
 |ins C dx fs =>obtain⟨d,z,ne,e,mA,⟨od,es,ep,e2,c⟩,r⟩:=x;exact⟨ho _ d,z,ne,k _ _ (.inl rfl) e,mA,⟨od,es,ep,k _ _ (.inr d) e2,c⟩,r⟩
 |own y=>obtain⟨ob,e⟩:=x;exact⟨ob,k _ _ (.inl rfl) e⟩
 |xd fs=>obtain⟨mA,⟨od,es,ep,e,c⟩,r⟩:=x;exact⟨mA,⟨od,es,ep,k _ _ (.inl rfl) e,c⟩,r⟩
 |rng lo hi=>obtain⟨t,u,v,e⟩:=x;exact⟨t,u,v,k _ _ (.inl rfl) e⟩
 |frz ob u ih=>obtain⟨e,q⟩:=x;exact⟨k _ _ (.inl rfl) e,ih q⟩
 |tbl ps =>have e:h.get? a=some { cls:=.none,data:=.fields ps }:=x;show h'.get? a=some { cls:=.none,data:=.fields ps };exact k a _ (.inl rfl) e
 |met f y =>have e:h.get? a=some (PySem.W.methodObj (.ref f) (.ref y)):=x;show h'.get? a=some (PySem.W.methodObj (.ref f) (.ref y));exact k a _ (.inl rfl) e
 |ext φ=>obtain⟨p,⟨o,e⟩,st⟩:=x;exact⟨st _ _ p fun o q=>k _ _ (.inl rfl) q,⟨o,k _ _ (.inl rfl) e⟩,st⟩
theorem HOk.lt(x:HOk P w H h)(e:H a=some o):a<h.objs.size:=(x a o e).lt
theorem HOk.fresh(x:HOk P w H h)(e:h.objs.size<=a):H a=none:=by
 cases q:H a with
 |none=>rfl
 |some u=>exact absurd (zC (x.lt q) e) (ZI _)
theorem HOk.kept(x:HOk P w H h)(k:∀b u,h.get? b=some u->h'.get? b=some u):HOk P w H h':=fun a o e =>
 (x a o e).stay (fun b u _ q=>k b u q) (fun _ q=>q) fun _ _ q=>q
theorem HOk.laid(x:HOk P w H h)(k:∀b u,h.get? b=some u->h'.get? b=some u)(hp:h.objs.size<=a)(new:ObjOk P w (upd H a o) h' a o):HOk P w (upd H a o) h':=fun b u e=>by
 have hn:=x.fresh hp;by_cases hb:b=a
 ·subst hb;rw[ae]at e;cases e;exact new
 ·rw[af hb]at e;exact(x b u e).stay (fun c v _ q=>k c v q) (fun c q=>by rw[af (aq q hn)];exact q) fun c xs q=>by rw[af (aq q hn)];exact q
end
def Rd(H:Hp)(a:Addr)(u:HO):Prop:=H a=some u\/∃o,H a=some (.frz o u)
theorem Rd.of{H:Hp}{a:Addr}{u:HO}(h:H a=some u):Rd H a u:=.inl h
theorem Rd.ok{P:Program}{w:World}{H:Hp}{h:Heap}{a:Addr}{u:HO}(r:Rd H a u)(x:HOk P w H h):ObjOk P w H h a u:=by
 rcases r with r|⟨o,r⟩
 ·exact x a u r
 ·obtain⟨_,q⟩:=x a _ r;exact q
def Mut:Option HO->Prop
 |some (.lst _)=>True
 |some (.dK _)=>True
 |some (.dT _)=>True
 |some (.set _ _)=>True
 |some (.ins _ _ _)=>True
 |some (.ext _)=>True
 |_=>False
section
variable{P:Program}{w:World}{H:Hp}{h h':Heap}{x e:Addr}{o':HO}
theorem HOk.write(ok:HOk P w H h)(mu:Mut (H x))(he:e=x\/H e=some (.own x))(k:∀b u,b≠e->h.get? b=some u->h'.get? b=some u)(heo:∃u,h'.get? e=some u)(new:ObjOk P w (upd H x o') h' x o'):HOk P w (upd H x o') h':=fun b u q=>by
 have nown:∀c y,H c=some (.own y)->c≠x:=fun c y r z=>by subst z;rw[r]at mu;exact mu
 have ntup:∀c xs,H c=some (.tup xs)->c≠x:=fun c xs r z=>by subst z;rw[r]at mu;exact mu
 by_cases hb:b=x
 ·subst hb;rw[ae]at q;cases q;exact new
 ·rw[af hb]at q;by_cases hbe:b=e
  ·have q':H b=some (.own x):=by
    rcases he with z|z
    ·exact absurd (hbe.trans z) hb
    ·rw[hbe];exact z
   rw[q]at q';cases q';obtain⟨v,hv⟩:=heo;exact⟨v,by rw[hbe];exact hv⟩
  ·refine(ok b u q).stay (fun c v hc r=>k c v ?_ r) (fun c r=>by rw[af (nown c b r)];exact r) fun c xs r=>by rw[af (ntup c xs r)];exact r
   rcases hc with rfl|hc
   ·exact hbe
   ·rintro rfl;rcases he with z|z
    ·exact nown c b hc z
    ·rw[hc]at z;cases z;exact hb rfl
end
structure Un(fs ex:List Addr)(H H':Hp)(h h':Heap):Prop where
 keep:∀b o,h.get? b=some o->H b=none->b∉fs->b∉ex->h'.get? b=some o
 slot:∀b o,h.get? b=some o->H b=none->b∈fs->b∉ex->∃sl,h'.get? b=some { o with slots:=sl }
 free:∀b o,h.get? b=some o->H b=none->b∉ex->H' b=none
 there:∀b o,h.get? b=some o->b∉ex->∃o',h'.get? b=some o'
 tups:∀b xs,H b=some (.tup xs)->H' b=some (.tup xs)
 frzs:∀b o u,H b=some (.frz o u)->H' b=some (.frz o u)
 tbls:∀b ps,H b=some (.tbl ps)->∃more,H' b=some (.tbl (ps++more))
section
variable{fs fs' ex ex':List Addr}{H H1 H2:Hp}{h h1 h2 h':Heap}{a x e:Addr}{o:HO}
theorem Un.any(u:Un fs ex H H1 h h1){b:Addr}{ob:Obj}(q:h.get? b=some ob)(n:H b=none)(hx:b∉ex):∃sl,h1.get? b=some { ob with slots:=sl }:=by
 by_cases hb:b∈fs
 ·exact u.slot b ob q n hb hx
 ·exact⟨ob.slots,u.keep b ob q n hb hx⟩
theorem Un.kept(k:∀b u,h.get? b=some u->h'.get? b=some u):Un fs ex H H h h' :=
 ⟨fun b ob q _ _ _=>k b ob q,fun b ob q _ _ _=>⟨ob.slots,k b ob q⟩,fun _ _ _ n _=>n,fun b ob q _=>⟨ob,k b ob q⟩,fun _ _ q=>q,fun _ _ _ q=>q,fun _ ps q=>⟨#[],by rw[q];simp⟩⟩
theorem Un.refl:Un fs ex H H h h:=Un.kept fun _ _ q=>q
theorem Un.laid(k:∀b u,h.get? b=some u->h'.get? b=some u)(hp:h.objs.size<=a)(hn:H a=none):Un fs ex H (upd H a o) h h' where
 keep:=fun b u q _ _ _=>k b u q
 slot:=fun b u q _ _ _=>⟨u.slots,k b u q⟩
 free:=fun b u q n _=>by rw[af (zJ (zC (zq q) hp))];exact n
 there:=fun b u q _=>⟨u,k b u q⟩
 tups:=fun b xs q=>by rw[af (aq q hn)];exact q
 frzs:=fun b u xs q=>by rw[af (aq q hn)];exact q
 tbls:=fun b ps q=>⟨#[],by rw[af (aq q hn),q];simp⟩
theorem Un.write(mu:Mut (H x))(he:e=x\/H e=some (.own x))(k:∀b u,b≠e->h.get? b=some u->h'.get? b=some u)(heo:∃u,h'.get? e=some u):Un fs ex H (upd H x o) h h':=by
 have hx:∀b,H b=none->b≠x:=fun b n z=>by subst z;rw[n]at mu;exact mu
 have hb:∀b,H b=none->b≠e:=fun b n z=>by
  subst z;rcases he with r|r
  ·exact hx b n r
  ·rw[n]at r;cases r
 have hm:∀b u,H b=some u->¬Mut (some u)->b≠x:=fun b u q nm z=>by subst z;rw[q]at mu;exact nm mu
 refine⟨fun b u q n _ _=>k b u (hb b n) q,fun b u q n _ _=>⟨u.slots,k b u (hb b n) q⟩,fun b u q n _=>by rw[af (hx b n)];exact n,fun b u q _=>?_,
  fun b xs q=>by rw[af (hm b _ q fun z=>z)];exact q,fun b u xs q=>by rw[af (hm b _ q fun z=>z)];exact q,fun b ps q=>⟨#[],by rw[af (hm b _ q fun z=>z),q];simp⟩⟩
 by_cases hbe:b=e
 ·subst hbe;exact heo
 ·exact⟨u,k b u hbe q⟩
end
def trk(h:Heap)(H:Hp):List Addr:=(List.range h.objs.size).filter fun a=>(H a).isSome
def dU(h:Heap)(H:Hp):Heap:=PySem.W.hideAll h (trk h H)
theorem nC(h:Heap)(H:Hp):(dU h H).objs.size=h.objs.size:=PySem.W.hideAll_size _ _
theorem pR{h:Heap}{H:Hp}{b:Addr}{o:Obj}(e:h.get? b=some o)(n:H b=none):(dU h H).get? b=some o :=
 PySem.W.hideAll_get _ e fun hm=>by have q:(H b).isSome=true:=(List.mem_filter.mp hm).2;rw[n]at q;simp at q
theorem rQ{h:Heap}{H:Hp}{b:Addr}{o:Obj}(e:(dU h H).get? b=some o):h.get? b=some o/\H b=none:=by
 have e':h.get? b=some o:=PySem.W.of_hideAll (trk h H) e;refine⟨e',?_⟩;cases q:H b with
 |none=>rfl
 |some x =>have hm:b∈trk h H:=List.mem_filter.mpr ⟨List.mem_range.mpr (zq e'),by simp[q]⟩;have z:(dU h H).get? b=none:=PySem.W.hideAll_none (trk h H) hm;rw[z]at e;cases e
open PySem PySem.Spec PyProof.Rows
structure Mod(K:PySem.W.Frag)(mg:Str->Option Value)(base:Heap):Prop where
 kin:K.In base
 glob:base.Ns mainGlobals mg
 blt:∃mb,base.Ns builtinsNs mb/\∀x:Str,x≠"__name__"->mb x=bootBuiltins x
 nolimit:base.NoLimit
structure Cx where
 prog:Program
 w:World
 K:PySem.W.Frag
 mg:Str->Option Value
 base:Heap
 A:Around
 N:List Str
 s₀:Shared
 H₀:Hp
 env:Env
 outer:List Env
 stack:List Env
 ex:List Addr
 fn:Str->Bool
 calm:Bool
 pn:List (Addr×Obj)
 xe:Value->Shared->Prop
def frs(l:List Env):List Addr:=l.filterMap (·.frame)
abbrev Cx.fs(X:Cx):List Addr:=frs X.outer
def Vis(sc:Scope)(x:Str):Prop:=sc.names.lookup x=some .local\/sc.names.lookup x=some .cell\/sc.names.lookup x=some .free
def Loc(sc:Scope)(x:Str):Prop:=sc.names.lookup x=some .local\/sc.names.lookup x=some .cell
def wM(env:Env)(h:Heap)(m:Str->Option Value)(x:Str)(u:Value):Prop :=
 (env.kindOf x=some .local/\m x=some u)\/((env.kindOf x=some .cell\/env.kindOf x=some .free)/\∃c,env.cells.lookup x=some c/\h.IsCell c (some u))
structure Cx.Ok(X:Cx):Prop where
 mod:Mod X.K X.mg X.base
 kind:X.env.scope.kind=.function
 glob:X.env.globals=mainGlobals
 blt:X.env.builtins=builtinsNs
 above:X.s₀.heap.objs.size<=X.env.locals
 inj:∀x y c,X.env.cells.lookup x=some c->X.env.cells.lookup y=some c->x=y
 has:∀x,(X.env.kindOf x=some .cell\/X.env.kindOf x=some .free)->∃c,X.env.cells.lookup x=some c
 cab:∀x c,X.fn x=true->X.env.cells.lookup x=some c->X.s₀.heap.objs.size<=c
 hd:X.calm=true->X.A.handled=none
 frames:X.A.frames=some X.stack
 stk:X.stack=X.outer\/(X.stack=X.env::X.outer/\X.env.frame=some X.env.locals)
 exf:∀b∈X.ex,b≠X.env.locals/\∀x c,X.env.cells.lookup x=some c->c≠b
 bs:∀b o,X.base.get? b=some o->X.s₀.heap.get? b=some o/\X.H₀ b=none
 bsz:X.base.objs.size<=X.s₀.heap.objs.size
 noex:∀b o,X.base.get? b=some o->b∉X.ex
 exfs:∀b∈X.ex,b∉X.fs
 funs:X.s₀.heap.FunFrames X.base X.outer
 frf:∀b∈X.fs,X.H₀ b=none
structure Inv(X:Cx)(pins:List (Addr×Obj))(σ:List (Option V))(H:Hp)(s:Shared):Prop where
 ok:X.Ok
 os:s.os=X.s₀.os
 bare:AllBare s.gens
 base:Un X.fs X.ex X.H₀ H X.s₀.heap s.heap
 loc:∃m,s.heap.Ns X.env.locals m/\∀(i:Nat) (x:Str) (v:V),X.N[i]?=some x->σ[i]?=some (some v)->Vis X.env.scope x->∃u,RelV v u/\wM X.env s.heap m x u
 cell:∀x c,X.env.cells.lookup x=some c->∃v,s.heap.IsCell c v
 free:H X.env.locals=none
 freeC:∀x c,X.env.cells.lookup x=some c->H c=none
 pin:∀p∈X.pn++pins,s.heap.get? p.1=some p.2/\H p.1=none/\p.1≠X.env.locals/\p.1∉X.fs/\∀v,p.2.data≠.cell v
 hok:HOk X.prog X.w H s.heap
 len:σ.length=X.N.length
section
variable{X:Cx}{pins:List (Addr×Obj)}{σ:List (Option V)}{H H':Hp}{s:Shared}{h':Heap}
theorem Cx.Ok.nofr(ok:X.Ok){b:Addr}{o:Obj}(e:X.base.get? b=some o):b∉X.fs:=fun hb=>by have:=(ok.funs.mem hb).1;rw[e]at this;cases this
theorem Inv.bs(I:Inv X pins σ H s):∀b o,X.base.get? b=some o->s.heap.get? b=some o/\H b=none:=fun b o e =>
 ⟨I.base.keep b o (I.ok.bs b o e).1 (I.ok.bs b o e).2 (I.ok.nofr e) (I.ok.noex b o e),I.base.free b o (I.ok.bs b o e).1 (I.ok.bs b o e).2 (I.ok.noex b o e)⟩
theorem Inv.bk(I:Inv X pins σ H s):∀b o,X.base.get? b=some o->s.heap.get? b=some o:=fun b o e=>(I.bs b o e).1
theorem Inv.mod(I:Inv X pins σ H s):Mod X.K X.mg X.base:=I.ok.mod
theorem Inv.kIn(I:Inv X pins σ H s):X.K.In s.heap:=I.ok.mod.kin.keeps I.bk
theorem Inv.fr(I:Inv X pins σ H s):∃m,Fr X.base X.env.locals s.heap m :=
 let⟨m,hn,_⟩:=I.loc
 ⟨m,hn,I.bk,zS I.ok.bsz I.ok.above⟩
theorem Inv.lt(I:Inv X pins σ H s):X.env.locals<s.heap.objs.size:=let⟨_,hn,_⟩:=I.loc;hn.lt
theorem Inv.sz(I:Inv X pins σ H s):X.s₀.heap.objs.size<=s.heap.objs.size:=zS I.ok.above (Nat.le_of_lt I.lt)
theorem Inv.nofs(I:Inv X pins σ H s){a:Addr}(h:s.heap.objs.size<=a):a∉X.fs:=fun hb=>by obtain⟨_,o,ho,_⟩:=I.ok.funs.mem hb;exact absurd (zC (zq ho) (zS I.sz h)) (ZI _)
theorem Inv.cne(I:Inv X pins σ H s):∀x c,X.env.cells.lookup x=some c->c≠X.env.locals:=fun x c e z=>by obtain⟨v,o,ho,hd⟩:=I.cell x c e;obtain⟨m,⟨o',es,ep,ho',hd',_⟩,_⟩:=I.loc;rw[z,ho']at ho;cases ho;rw[hd']at hd;cases hd
theorem Inv.funs(I:Inv X pins σ H s):s.heap.FunFrames X.base X.outer:=by
 have all:∀(l:List Env),(∀b∈frs l,b∈X.fs)->X.s₀.heap.FunFrames X.base l->s.heap.FunFrames X.base l:=by
  intro l;induction l with
  |nil=>intro _ _;trivial
  |cons env r ih =>intro hs hl;obtain⟨hk,⟨L,o,hf,hn,ho,hd⟩,hr⟩:=hl;have hL:L∈X.fs:=hs L (by unfold frs;rw[List.filterMap_cons,hf];exact Zg);obtain⟨sl,e⟩:=I.base.slot L o ho (I.ok.frf L hL) hL fun z=>I.ok.exfs L z hL;exact⟨hk,⟨L,_,hf,hn,e,hd⟩,ih (fun b hb=>hs b (by unfold frs;rw[List.filterMap_cons,hf];exact zP _ hb)) hr⟩
 exact all X.outer (fun _ hb=>hb) I.ok.funs
theorem Inv.stack(I:Inv X pins σ H s):s.heap.FunFrames X.base X.stack:=by
 rcases I.ok.stk with e|⟨e,hf⟩
 ·rw[e];exact I.funs
 ·rw[e];obtain⟨m,hn,_⟩:=I.loc;refine .cons (by rw[I.ok.kind];decide) hf hn ?_ I.funs;exact Heap.get?_none_of_le (zS I.ok.bsz I.ok.above)
theorem Inv.stkSub(I:Inv X pins σ H s):∀b∈frs X.stack,b∈X.env.locals::X.fs:=fun b hb=>by
 rcases I.ok.stk with e|⟨e,hf⟩
 ·rw[e]at hb;exact zP _ hb
 ·rw[e]at hb;unfold frs at hb;rw[List.filterMap_cons,hf]at hb;exact hb
theorem Inv.stkFree(I:Inv X pins σ H s):∀b∈frs X.stack,H b=none:=fun b hb=>by
 rcases zD.mp (I.stkSub b hb)with e|hb
 ·rw[e];exact I.free
 ·obtain⟨_,o,ho,_⟩:=I.ok.funs.mem hb;exact I.base.free b o ho (I.ok.frf b hb) fun z=>I.ok.exfs b z hb
theorem Inv.step{g':Array GenState}{t':Nat}{d':Drawn}{ch:List Addr}(I:Inv X pins σ H s)(hch:∀b∈ch,(b∈X.ex\/X.s₀.heap.objs.size<=b)/\b≠X.env.locals/\(∀x c,X.env.cells.lookup x=some c->c≠b)/\∀p∈X.pn++pins,p.1≠b)(keep:∀b o,b≠X.env.locals->b∉X.fs->b∉ch->s.heap.get? b=some o->H b=none->h'.get? b=some o)(slot:∀b o,b≠X.env.locals->b∈X.fs->b∉ch->s.heap.get? b=some o->H b=none->∃sl,h'.get? b=some { o with slots:=sl })(free:∀b o,b∉ch->s.heap.get? b=some o->H b=none->H' b=none)(there:∀b o,b∉ch->s.heap.get? b=some o->∃o',h'.get? b=some o')(tups:∀b xs,H b=some (.tup xs)->H' b=some (.tup xs))(frzs:∀b o u,H b=some (.frz o u)->H' b=some (.frz o u))(tbls:∀b ps,H b=some (.tbl ps)->∃more,H' b=some (.tbl (ps++more)))(ns:∀m,s.heap.Ns X.env.locals m->h'.Ns X.env.locals m)(hok:HOk X.prog X.w H' h')(hg:AllBare g') :
  Inv X pins σ H' { s with heap:=h',gens:=g',drawn:=d',toks:=t' }:=by
 have neL:∀b o,X.s₀.heap.get? b=some o->b≠X.env.locals:=fun b o e=>zJ (zC (zq e) I.ok.above);have neC:∀b o,X.s₀.heap.get? b=some o->b∉X.ex->b∉ch:=fun b o e hx hb=>by
  rcases(hch b hb).1 with z|z
  ·exact hx z
  ·exact absurd (zC (zq e) z) (ZI _)
 have cellK:∀x c,X.env.cells.lookup x=some c->∀v,s.heap.IsCell c v->h'.IsCell c v:=fun x c e v ⟨o,ho,hd⟩=>by
  have nch:c∉ch:=fun z=>(hch c z).2.2.1 x c e rfl;by_cases hc:c∈X.fs
  ·obtain⟨sl,q⟩:=slot c o (I.cne x c e) hc nch ho (I.freeC x c e);exact⟨_,q,hd⟩
  ·exact⟨o,keep c o (I.cne x c e) hc nch ho (I.freeC x c e),hd⟩
 refine⟨I.ok,I.os,hg,⟨fun b o e n hb hx=>?_,fun b o e n hb hx=>?_,fun b o e n hx=>?_,fun b o e hx=>?_,fun b xs e=>tups b xs (I.base.tups b xs e),fun b o xs e=>frzs b o xs (I.base.frzs b o xs e),fun b ps e=>?_⟩,?_,fun x c e=>?_,?_,fun x c e=>?_,fun p hp=>?_,hok,I.len⟩
 ·exact keep b o (neL b o e) hb (neC b o e hx) (I.base.keep b o e n hb hx) (I.base.free b o e n hx)
 ·obtain⟨sl,e1⟩:=I.base.slot b o e n hb hx;obtain⟨sl',e2⟩:=slot b _ (neL b o e) hb (neC b o e hx) e1 (I.base.free b o e n hx);exact⟨sl',e2⟩
 ·obtain⟨o',e1⟩:=I.base.there b o e hx;exact free b o' (neC b o e hx) e1 (I.base.free b o e n hx)
 ·obtain⟨o',e1⟩:=I.base.there b o e hx;exact there b o' (neC b o e hx) e1
 ·obtain⟨m1,e1⟩:=I.base.tbls b ps e;obtain⟨m2,e2⟩:=tbls b _ e1;exact⟨m1++m2,by rw[e2,Array.append_assoc]⟩
 ·obtain⟨m,hn,hl⟩:=I.loc;refine⟨m,ns m hn,fun i x v e1 e2 e3=>?_⟩;obtain⟨u,r,l⟩:=hl i x v e1 e2 e3;refine⟨u,r,?_⟩;rcases l with l|⟨k,c,e,z⟩
  ·exact .inl l
  ·exact .inr ⟨k,c,e,cellK x c e _ z⟩
 ·obtain⟨v,z⟩:=I.cell x c e;exact⟨v,cellK x c e v z⟩
 ·obtain⟨m,⟨o,_,_,ho,_⟩,_⟩:=I.loc;exact free _ o (fun z=>(hch _ z).2.1 rfl) ho I.free
 ·obtain⟨v,o,ho,hd⟩:=I.cell x c e;exact free c o (fun z=>(hch c z).2.2.1 x c e rfl) ho (I.freeC x c e)
 ·obtain⟨e,n,ne,nf,d⟩:=I.pin p hp;have nch:p.1∉ch:=fun z=>(hch p.1 z).2.2.2 p hp rfl;exact⟨keep p.1 p.2 ne nf nch e n,free p.1 p.2 nch e n,ne,nf,d⟩
theorem Inv.un{t':Nat}(I:Inv X pins σ H s)(u:Un X.fs [] H H' s.heap h')(hok:HOk X.prog X.w H' h'):Inv X pins σ H' { s with heap:=h',toks:=t' }:=by
 obtain⟨m,⟨o,es,ep,ho,r⟩,_⟩:=id I.loc;obtain⟨sl,hL⟩:=u.any ho I.free (by simp);exact I.step (g':=s.gens) (d':=s.drawn) (ch:=[]) (fun _ z=>nomatch z) (fun b o _ hb _ e n=>u.keep b o e n hb (by simp)) (fun b o _ hb _ e n=>u.slot b o e n hb (by simp)) (fun b o _ e n=>u.free b o e n (by simp)) (fun b o _ e=>u.there b o e (by simp)) u.tups u.frzs u.tbls (fun m' hm=>by
  obtain⟨o',es',ep',ho',r'⟩:=hm;rw[ho]at ho';cases ho';exact⟨_,es',ep',hL,r'⟩) hok I.bare
theorem Inv.call{g':Array GenState}{t':Nat}{d':Drawn}{ch:List Addr}(I:Inv X pins σ H s)(u:Un (frs X.stack) ch H H' s.heap h')(hok:HOk X.prog X.w H' h')(hg:AllBare g')(hch:∀b∈ch,(b∈X.ex\/X.s₀.heap.objs.size<=b)/\b≠X.env.locals/\(∀x c,X.env.cells.lookup x=some c->c≠b)/\∀p∈X.pn++pins,p.1≠b) :
  Inv X pins σ H' { s with heap:=h',gens:=g',drawn:=d',toks:=t' }:=by
 obtain⟨m,⟨o,es,ep,ho,r⟩,_⟩:=id I.loc;obtain⟨sl,hL⟩:=u.any ho I.free fun z=>(hch _ z).2.1 rfl;exact I.step (ch:=ch) hch (fun b o hL hb hc e n=>u.keep b o e n (fun z=>(zD.mp (I.stkSub b z)).elim hL hb) hc) (fun b o _ _ hc e n=>u.any e n hc) (fun b o hc e n=>u.free b o e n hc) (fun b o hc e=>u.there b o e hc) u.tups u.frzs u.tbls (fun m' hm=>by
  obtain⟨o',es',ep',ho',r'⟩:=hm;rw[ho]at ho';cases ho';exact⟨_,es',ep',hL,r'⟩) hok hg
theorem Inv.turned{t':Nat}{it:Addr}(I:Inv X pins σ H s)(k:∀b o,b≠it->s.heap.get? b=some o->h'.get? b=some o)(hn:H it=none)(hL:it≠X.env.locals)(h1:it∈X.ex\/X.s₀.heap.objs.size<=it)(h2:∀x c,X.env.cells.lookup x=some c->c≠it)(h3:∀p∈X.pn++pins,p.1≠it):Inv X pins σ H { s with heap:=h',toks:=t' }:=by
 have nit:∀b u,H b=some u->b≠it:=fun b u e z=>by rw[z,hn]at e;cases e
 refine I.step (g':=s.gens) (d':=s.drawn) (ch:=[it]) (fun b hb=>?_) (fun b o _ _ hc e _=>k b o (fun z=>hc (by simp[z])) e) (fun b o _ _ hc e _=>⟨o.slots,k b o (fun z=>hc (by simp[z])) e⟩) (fun _ _ _ _ n=>n)
  (fun b o hc e=>⟨o,k b o (fun z=>hc (by simp[z])) e⟩) (fun _ _ e=>e) (fun _ _ _ e=>e) (fun b ps e=>⟨#[],by rw[e];simp⟩) (fun m hm=>?_) (fun b u e=>?_) I.bare
 ·have e:b=it:=by simpa using hb
  subst e;exact⟨h1,hL,h2,h3⟩
 ·obtain⟨o,es,ep,ho,r⟩:=hm;exact⟨o,es,ep,k _ o (Ne.symm hL) ho,r⟩
 ·refine(I.hok b u e).stay (fun c v hc q=>k c v ?_ q) (fun _ q=>q) fun _ _ q=>q;rcases hc with z|z
  ·rw[z];exact nit b u e
  ·exact nit c _ z
theorem Inv.tok(I:Inv X pins σ H s)(t:Nat):Inv X pins σ H { s with toks:=t }:=I.un (h':=s.heap) (t':=t) Un.refl I.hok
theorem Inv.kept{t':Nat}(I:Inv X pins σ H s)(k:∀b u,s.heap.get? b=some u->h'.get? b=some u):Inv X pins σ H { s with heap:=h',toks:=t' }:=I.un (Un.kept k) (I.hok.kept k)
theorem Inv.laid{a:Addr}{o:HO}{t':Nat}(I:Inv X pins σ H s)(k:∀b u,s.heap.get? b=some u->h'.get? b=some u)(hp:s.heap.objs.size<=a)(new:ObjOk X.prog X.w (upd H a o) h' a o) :
  Inv X pins σ (upd H a o) { s with heap:=h',toks:=t' }:=I.un (Un.laid k hp (I.hok.fresh hp)) (I.hok.laid k hp new)
theorem Inv.write{x e:Addr}{o:HO}{t':Nat}(I:Inv X pins σ H s)(mu:Mut (H x))(he:e=x\/H e=some (.own x))(k:∀b u,b≠e->s.heap.get? b=some u->h'.get? b=some u)(heo:∃u,h'.get? e=some u)(new:ObjOk X.prog X.w (upd H x o) h' x o):Inv X pins σ (upd H x o) { s with heap:=h',toks:=t' }:=I.un (Un.write mu he k heo) (I.hok.write mu he k heo new)
theorem Inv.weak{σ':List (Option V)}(I:Inv X pins σ H s)(hl:σ'.length=σ.length)(w:∀(i:Nat) v,σ'[i]?=some (some v)->σ[i]?=some (some v)):Inv X pins σ' H s :=
 ⟨I.ok,I.os,I.bare,I.base,let⟨m,hn,hl'⟩:=I.loc;⟨m,hn,fun i x v e1 e2 e3=>hl' i x v e1 (w i v e2) e3⟩,I.cell,I.free,I.freeC,I.pin,I.hok,hl.trans I.len⟩
theorem Inv.pins_of{pins':List (Addr×Obj)}(I:Inv X pins σ H s)(h:∀p∈pins',s.heap.get? p.1=some p.2/\H p.1=none/\p.1≠X.env.locals/\p.1∉X.fs/\∀v,p.2.data≠.cell v):Inv X pins' σ H s :=
 ⟨I.ok,I.os,I.bare,I.base,I.loc,I.cell,I.free,I.freeC,fun p hp=>(z9.mp hp).elim (fun z=>I.pin p (List.mem_append_left _ z)) (h p),I.hok,I.len⟩
theorem jY{N:List Str}(hN:N.Nodup){i j:Nat}{x:Str}(a:N[i]?=some x)(b:N[j]?=some x):i=j:=by obtain⟨h1,e1⟩:=zT.mp a;obtain⟨h2,e2⟩:=zT.mp b;exact(List.getElem_inj hN).mp (e1.trans e2.symm)
theorem oM{M:Model}{A:Around}{E:Value->Shared->Prop}{i:Nat}{x:Str}{v:V}{u:Value}{Q:Unit->Shared->Prop}(I:Inv X pins σ H s)(hN:X.N.Nodup)(hi:X.N[i]?=some x)(hx:Loc X.env.scope x)(r:RelV v u)(h:∀s',Inv X pins (σ.set i (some v)) H s'->(∃a,Heap.SameBut a s.heap s'.heap/\(a=X.env.locals\/X.env.cells.lookup x=some a))->Q () s')(hf:X.fn x=true\/X.env.scope.names.lookup x=some .local:=by first|exact .inl rfl|exact .inr rfl|assumption):wpAny M A (storeName X.env x u) Q E s:=by
 obtain⟨m,hn,hl⟩:=id I.loc;have hcls:(X.env.scope.kind == .class ||(X.env.scope.kind == .module&&X.env.locals != X.env.globals))=false:=by rw[I.ok.kind];rfl
 have hiσ:i<σ.length:=by rw[I.len];exact(zT.mp hi).1
 have cne:=I.cne;have tracked:∀{a:Addr} {h':Heap},(∃o,s.heap.get? a=some o/\H a=none)->Heap.SameBut a s.heap h'->HOk X.prog X.w H h':=fun{a h'} ha hs b ob e=>by
  obtain⟨_,_,hfree⟩:=ha;refine(I.hok b ob e).stay (fun c w' hc q=>(hs.2 c ?_).trans q) (fun _ q=>q) fun _ _ q=>q;rintro rfl;rcases hc with rfl|hc
  ·rw[hfree]at e;cases e
  ·rw[hfree]at hc;cases hc
 rcases hx with hk|hk
 ·refine wpAny_storeName_local hk hn (fun h' hn' hs=>?_) hcls;obtain⟨oL,_,_,hoL,_⟩:=id hn;refine h _ ⟨I.ok,I.os,I.bare,⟨fun b o e n hb hx=>?_,fun b o e n hb hx=>?_,I.base.free,fun b o e hx=>?_,I.base.tups,I.base.frzs,I.base.tbls⟩,⟨_,hn',fun j y v' e1 e2 e3=>?_⟩,fun y c e=>?_,I.free,I.freeC,fun p hp=>?_,tracked ⟨oL,hoL,I.free⟩ hs,by simpa using I.len⟩ ⟨_,hs,.inl rfl⟩
  ·exact(hs.2 b (zJ (zC (zq e) I.ok.above))).trans (I.base.keep b o e n hb hx)
  ·obtain⟨sl,e1⟩:=I.base.slot b o e n hb hx;exact⟨sl,(hs.2 b (zJ (zC (zq e) I.ok.above))).trans e1⟩
  ·obtain⟨o',e1⟩:=I.base.there b o e hx;exact⟨o',(hs.2 b (zJ (zC (zq e) I.ok.above))).trans e1⟩
  ·by_cases hj:j=i
   ·subst hj;rw[hi]at e1;cases e1;rw[List.getElem?_set_self hiσ]at e2;cases e2;exact⟨u,r,.inl ⟨hk,by simp⟩⟩
   ·rw[List.getElem?_set_ne (Ne.symm hj)]at e2;obtain⟨u',r',q⟩:=hl j y v' e1 e2 e3;refine⟨u',r',?_⟩;rcases q with⟨k,e⟩|⟨k,c,e,z⟩
    ·refine .inl ⟨k,?_⟩;have:y≠x:=fun e=>hj (jY hN e1 (e▸hi));simp[this,e]
    ·exact .inr ⟨k,c,e,z.sameBut hs (cne y c e)⟩
  ·obtain⟨w',z⟩:=I.cell y c e;exact⟨w',z.sameBut hs (cne y c e)⟩
  ·obtain⟨e,n,ne,nf,d⟩:=I.pin p hp;exact⟨(hs.2 p.1 ne).trans e,n,ne,nf,d⟩
 ·have hfn:X.fn x=true:=by
   rcases hf with z|z
   ·exact z
   ·rw[z]at hk;cases hk
  obtain⟨c,hc⟩:=I.ok.has x (.inl hk);obtain⟨w',z⟩:=I.cell x c hc;refine wpAny_storeName_cell I.ok.kind hk hc z (fun h' hc' hs=>?_);obtain⟨oc,hoc,hocd⟩:=id z;refine h { s with heap:=h' } ⟨I.ok,I.os,I.bare,⟨fun b o e n hb hx=>?_,fun b o e n hb hx=>?_,I.base.free,fun b o e hx=>?_,I.base.tups,I.base.frzs,I.base.tbls⟩,⟨m,hn.sameBut hs (Ne.symm (cne x c hc)),fun j y v' e1 e2 e3=>?_⟩,fun y c' e=>?_,I.free,I.freeC,fun p hp=>?_,tracked ⟨oc,hoc,I.freeC x c hc⟩ hs,by simpa using I.len⟩ ⟨c,hs,.inr hc⟩
  ·exact(hs.2 b (zJ (zC (zq e) (I.ok.cab x c hfn hc)))).trans (I.base.keep b o e n hb hx)
  ·obtain⟨sl,e1⟩:=I.base.slot b o e n hb hx;exact⟨sl,(hs.2 b (zJ (zC (zq e) (I.ok.cab x c hfn hc)))).trans e1⟩
  ·obtain⟨o',e1⟩:=I.base.there b o e hx;exact⟨o',(hs.2 b (zJ (zC (zq e) (I.ok.cab x c hfn hc)))).trans e1⟩
  ·by_cases hj:j=i
   ·subst hj;rw[hi]at e1;cases e1;rw[List.getElem?_set_self hiσ]at e2;cases e2;exact⟨u,r,.inr ⟨.inl hk,c,hc,hc'⟩⟩
   ·rw[List.getElem?_set_ne (Ne.symm hj)]at e2;obtain⟨u',r',q⟩:=hl j y v' e1 e2 e3;refine⟨u',r',?_⟩;rcases q with q|⟨k,c',e,z'⟩
    ·exact .inl q
    ·refine .inr ⟨k,c',e,z'.sameBut hs ?_⟩;rintro rfl;exact hj (jY hN e1 (I.ok.inj _ _ _ e hc▸hi))
  ·by_cases hcc:c'=c
   ·subst hcc;exact⟨_,hc'⟩
   ·obtain⟨w2,z2⟩:=I.cell y c' e;exact⟨w2,z2.sameBut hs hcc⟩
  ·obtain⟨e,n,ne,nf,d⟩:=I.pin p hp;refine⟨(hs.2 p.1 ?_).trans e,n,ne,nf,d⟩;intro q;rw[q,hoc]at e;have q':oc=p.2:=zE e;exact d w' (by rw[<-q'];exact hocd)
theorem kC{M:Model}{A:Around}{E:Value->Shared->Prop}{i:Nat}{x:Str}{v:V}{u:Value}{Q:Unit->Shared->Prop}(I:Inv X pins σ H s)(hN:X.N.Nodup)(hi:X.N[i]?=some x)(hx:Loc X.env.scope x)(r:RelV v u)(h:∀s',Inv X pins (σ.set i (some v)) H s'->Q () s')(hf:X.fn x=true\/X.env.scope.names.lookup x=some .local:=by first|exact .inl rfl|exact .inr rfl|assumption):wpAny M A (storeName X.env x u) Q E s :=
 oM I hN hi hx r (fun s' I' _=>h s' I') hf
theorem Inv.call'{s':Shared}{ch:List Addr}(I:Inv X pins σ H s)(ho:s'.os=s.os)(u:Un (frs X.stack) ch H H' s.heap s'.heap)(hok:HOk X.prog X.w H' s'.heap)(hg:AllBare s'.gens)(hch:∀b∈ch,(b∈X.ex\/X.s₀.heap.objs.size<=b)/\b≠X.env.locals/\(∀x c,X.env.cells.lookup x=some c->c≠b)/\∀p∈X.pn++pins,p.1≠b):Inv X pins σ H' s':=by obtain⟨h',g',d',t',o'⟩:=s';have e:o'=s.os:=ho;subst e;exact I.call (g':=g') (t':=t') (d':=d') u hok hg hch
end
abbrev XK:=Value->Option Addr->Hp->Prop
abbrev St:=List (Option V)
abbrev VK:=V->Hp->Prop
abbrev TE:=St->Hp->VK->Prop
abbrev TT:=St->Hp->(Bool->Hp->Prop)->Prop
abbrev TA:=St->Hp->(List V->Hp->Prop)->Prop
structure Ends where
 nx:St->Hp->Prop
 rt:VK
 bk:St->Hp->Prop:=fun _ _=>False
 ct:St->Hp->Prop:=fun _ _=>False
abbrev TS:=Ends->St->Hp->Prop
def EP(X:Cx)(pins:List (Addr×Obj))(σ:St)(Q:VK)(u:Value)(s':Shared):Prop:=∃v H',Inv X pins σ H' s'/\RelV v u/\Q v H'
def TP(X:Cx)(pins:List (Addr×Obj))(σ:St)(Q:Bool->Hp->Prop)(b:Bool)(s':Shared):Prop:=∃H',Inv X pins σ H' s'/\Q b H'
def AP(X:Cx)(pins:List (Addr×Obj))(σ:St)(Q:List V->Hp->Prop)(us:List Value)(s':Shared):Prop:=∃vs H',Inv X pins σ H' s'/\Vals vs us/\Q vs H'
def SP(X:Cx)(pins:List (Addr×Obj))(D:Ends)(f:Flow)(s':Shared):Prop :=
 match f with
 |.next=>∃σ' H',Inv X pins σ' H' s'/\D.nx σ' H'
 |.brk=>∃σ' H',Inv X pins σ' H' s'/\D.bk σ' H'
 |.cont=>∃σ' H',Inv X pins σ' H' s'/\D.ct σ' H'
 |.ret u=>∃v σ' H',Inv X pins σ' H' s'/\RelV v u/\D.rt v H'
def PE(X:Cx)(e:Expr)(t:TE):Prop :=
 ∀(pins:List (Addr×Obj)) (s:Shared) (σ:St) (H:Hp) (Q:VK),Inv X pins σ H s->t σ H Q->wpAny (model X.prog X.w) X.A (eval e X.env) (EP X pins σ Q) X.xe s
def PT(X:Cx)(e:Expr)(t:TT):Prop :=
 ∀(pins:List (Addr×Obj)) (s:Shared) (σ:St) (H:Hp) (Q:Bool->Hp->Prop),Inv X pins σ H s->t σ H Q->wpAny (model X.prog X.w) X.A (isTrue e X.env (eval e X.env)) (TP X pins σ Q) X.xe s
def PW(X:Cx)(e:Expr)(t:TT):Prop :=
 ∀(whole:Sem Value) (pins:List (Addr×Obj)) (s:Shared) (σ:St) (H:Hp) (Q:Bool->Hp->Prop),Inv X pins σ H s->t σ H Q->wpAny (model X.prog X.w) X.A (isTrue e X.env whole) (TP X pins σ Q) X.xe s
theorem PW.pt{X:Cx}{e:Expr}{t:TT}(h:PW X e t):PT X e t:=h _
def PA(X:Cx)(es:List Expr)(t:TA):Prop :=
 ∀(pos:Pos) (pins:List (Addr×Obj)) (s:Shared) (σ:St) (H:Hp) (Q:List V->Hp->Prop),Inv X pins σ H s->t σ H Q->wpAny (model X.prog X.w) X.A (spliced (backTo pos (starEach es X.env))) (AP X pins σ Q) X.xe s
def PS(X:Cx)(st:Stmt)(t:TS):Prop :=
 ∀(pins:List (Addr×Obj)) (s:Shared) (σ:St) (H:Hp) (D:Ends),Inv X pins σ H s->t D σ H->wpAny (model X.prog X.w) X.A (exec st X.env) (SP X pins D) X.xe s
def PSs(X:Cx)(st:List Stmt)(t:TS):Prop :=
 ∀(pins:List (Addr×Obj)) (s:Shared) (σ:St) (H:Hp) (D:Ends),Inv X pins σ H s->t D σ H->wpAny (model X.prog X.w) X.A (execs st X.env) (SP X pins D) X.xe s
theorem thn{α:Type}{t:Sem α}{Q Q':α->Shared->Prop}{M:Model}{A:Around}{E:Value->Shared->Prop}{s:Shared}(h:wpAny M A t Q E s)(hQ:∀a s,Q a s->Q' a s):wpAny M A t Q' E s:=Zx h hQ fun _ _ x=>x
open PySem PySem.Spec PyProof.Rows
section
variable{X:Cx}
def qF(i:Nat):TE:=fun σ H Q=>∃v,σ[i]?=some (some v)/\Q v H
def tC(v:V):TE:=fun _ H Q=>Q v H
theorem uC{i:Nat}{x:Str}{pos:Pos}(hN:X.N[i]?=some x)(hv:Vis X.env.scope x)(hd:(x==("__debug__":Str))=false:=by decide)(hcd:(x==("__classdict__":Str))=false:=by decide):PE X (.Name x pos) (qF i):=by
 intro pins s σ H Q I h;obtain⟨v,e,h⟩:=h;obtain⟨m,hn,hl⟩:=I.loc;obtain⟨u,r,l⟩:=hl i x v hN e hv;have fin:EP X pins σ Q u s:=⟨v,H,I,r,h⟩
 rcases l with⟨hk,hm⟩|⟨hk,c,hc,hcell⟩
 ·exact wpAny_Name (wpAny_loadName_local I.ok.kind hk hn hm fin) hd
 ·rcases hk with hk|hk
  ·exact wpAny_Name (wpAny_loadName_cell I.ok.kind hk hc hcell fin) hd
  ·exact wpAny_Name (wpAny_loadName_free I.ok.kind hk hc hcell fin hcd) hd
theorem ut{i j pos}:PE X (.Constant (.int i) j pos) (tC (.int i)):=fun _ _ _ H _ I h=>wpAny_Constant_int ⟨.int i,H,I.tok _,⟨_,rfl⟩,h⟩
theorem wj{b j pos}:PE X (.Constant (.bool b) j pos) (tC (.bl b)):=fun _ _ _ H _ I h=>Constant_bool ⟨.bl b,H,I,rfl,h⟩
theorem ux{j pos}:PE X (.Constant .none j pos) (tC .non):=fun _ _ _ H _ I h=>Constant_none ⟨.non,H,I,rfl,h⟩
theorem uA{x j pos}:PE X (.Constant (.str x) j pos) (tC (.str x)):=fun _ _ _ H _ I h=>Calls.Constant_str ⟨.str x,H,I.tok _,⟨_,rfl⟩,h⟩
def Gl(X:Cx)(x:Str):Prop:=X.env.kindOf x=some .globalImplicit
theorem iy{E:Value->Shared->Prop}{pins:List (Addr×Obj)}{s:Shared}{σ:St}{H:Hp}{x:Str}{u:Value}{pos:Pos}{Q:Value->Shared->Prop}(I:Inv X pins σ H s)(hg:Gl X x)(hm:X.mg x=some u)(h:Q u s)(hd:(x==("__debug__":Str))=false:=by decide):wpAny (model X.prog X.w) X.A (eval (.Name x pos) X.env) Q E s :=
 Calls.Name_function_global I.ok.kind hg (Calls.loadGlobal_global (by rw[I.ok.glob];exact I.mod.glob.keeps I.bk) hm h) hd
theorem dE{E:Value->Shared->Prop}{pins:List (Addr×Obj)}{s:Shared}{σ:St}{H:Hp}{x:Str}{u:Value}{pos:Pos}{Q:Value->Shared->Prop}(I:Inv X pins σ H s)(hg:Gl X x)(hm:X.mg x=none)(hv:bootBuiltins x=some u)(h:Q u s)(hn:x≠"__name__":=by decide)(hd:(x==("__debug__":Str))=false:=by decide):wpAny (model X.prog X.w) X.A (eval (.Name x pos) X.env) Q E s:=by obtain⟨mb,h1,h2⟩:=I.mod.blt;exact Calls.Name_function_global I.ok.kind hg (Calls.loadGlobal_builtin (by rw[I.ok.glob];exact I.mod.glob.keeps I.bk) hm (by rw[I.ok.blt];exact h1.keeps I.bk) ((h2 x hn).trans hv) h) hd
theorem lr{x:Str}{v:V}{u:Value}{pos:Pos}(hg:Gl X x)(hm:X.mg x=some u)(r:RelV v u)(hd:(x==("__debug__":Str))=false:=by decide):PE X (.Name x pos) (tC v) :=
 fun _ _ _ H _ I h=>iy I hg hm ⟨v,H,I,r,h⟩ hd
theorem rX{x:Str}{v:V}{u:Value}{pos:Pos}(hg:Gl X x)(hm:X.mg x=none)(hv:bootBuiltins x=some u)(r:RelV v u)(hn:x≠"__name__":=by decide)(hd:(x==("__debug__":Str))=false:=by decide):PE X (.Name x pos) (tC v) :=
 fun _ _ _ H _ I h=>dE I hg hm hv ⟨v,H,I,r,h⟩ hn hd
variable{a b:Expr}{ta tb:TE}{pos:Pos}
def PC(X:Cx)(op:CmpOp)(a b:Expr)(t:TE):Prop :=
 ∀(pins:List (Addr×Obj)) (s:Shared) (σ:St) (H:Hp) (Q:VK),Inv X pins σ H s->t σ H Q ->
  wpAny (model X.prog X.w) X.A (eval a X.env) (fun v s₁=>wpAny (model X.prog X.w) X.A (eval b X.env) (fun u s₂=>wpAny (model X.prog X.w) X.A (compareOp op v u) (EP X pins σ Q) X.xe s₂) X.xe s₁) X.xe s
def tB(t:TE):TT:=fun σ H Q=>t σ H fun x H1=>∃c,x=.bl c/\Q c H1
theorem oy{op:CmpOp}{t:TE}(h:PC X op a b t)(h1:behindInMarks op b=false:=by first|exact nobehind _ (by decide) (by decide)|rfl):PT X (.Compare a [op] [b] pos) (tB t):=by intro pins s σ H Q I hw;refine wpAny_isTrue_Compare1 (thn (h pins s σ H _ I hw) fun v s1 h1=>thn h1 fun u s2 h2=>thn h2 fun c s3 hz9=>?_) h1;obtain⟨x,H1,I1,r1,q1⟩:=hz9;obtain⟨d,rfl,q⟩:=q1;cases r1;exact wpAny_truthy_bool ⟨H1,I1,q⟩
theorem uN{e:Expr}{t:TE}(h:PE X e t)(he:∀whole,isTrue e X.env whole=(do let v ←whole;standAt e.pos;holding [v] (truthy v)):=by intro _;rfl):PT X e (tB t):=by intro pins s σ H Q I hw;refine isTrue_plain (thn (h pins s σ H _ I hw) fun v s1 hz9=>?_) (he _);obtain⟨x,H1,I1,r1,q1⟩:=hz9;obtain⟨d,rfl,q⟩:=q1;cases r1;exact wpAny_truthy_bool ⟨H1,I1,q⟩
variable{tA tB':TT}{rest:List Expr}
def vh(t u:TT):TT:=fun σ H Q=>t σ H fun c H1=>if c=true then u σ H1 Q else Q false H1
def tOr(t u:TT):TT:=fun σ H Q=>t σ H fun c H1=>if c=true then Q true H1 else u σ H1 Q
def vt(t:TT):TT:=fun σ H Q=>t σ H fun c H1=>Q (!c) H1
theorem sD(ha:PT X a tA):PW X (.BoolOp .And [a] pos) tA:=by
 intro wh pins s σ H Q I h;refine isTrue_and (thn (ha pins s σ H Q I h) fun c s1 e=>?_);cases c with
 |true=>exact isTrue_and_nil e
 |false=>exact e
theorem uP(ha:PT X a tA):PW X (.BoolOp .Or [a] pos) tA:=by
 intro wh pins s σ H Q I h;refine isTrue_or (thn (ha pins s σ H Q I h) fun c s1 e=>?_);cases c with
 |false=>exact isTrue_or_nil e
 |true=>exact e
theorem uO(ha:PT X a tA)(hb:PW X (.BoolOp .And (b::rest) pos) tB'):PW X (.BoolOp .And (a::b::rest) pos) (vh tA tB'):=by
 intro wh pins s σ H Q I h;refine isTrue_and (thn (ha pins s σ H _ I h) fun c s1 ⟨H1,I1,q1⟩=>?_);cases c with
 |true=>exact hb wh pins s1 σ H1 Q I1 q1
 |false=>exact⟨H1,I1,q1⟩
theorem wx(ha:PT X a tA)(hb:PW X (.BoolOp .Or (b::rest) pos) tB'):PW X (.BoolOp .Or (a::b::rest) pos) (tOr tA tB'):=by
 intro wh pins s σ H Q I h;refine isTrue_or (thn (ha pins s σ H _ I h) fun c s1 ⟨H1,I1,q1⟩=>?_);cases c with
 |true=>exact⟨H1,I1,q1⟩
 |false=>exact hb wh pins s1 σ H1 Q I1 q1
theorem uM(ha:PT X a tA):PT X (.UnaryOp .Not a pos) (vt tA):=by intro pins s σ H Q I h;exact isTrue_not (ha pins s σ H (fun c H1=>Q (!c) H1) I h)
def rf(ta tb:TE):TE:=fun σ H Q=>ta σ H fun x H1=>∃c,x=.bl c/\if c=true then tb σ H1 Q else Q (.bl false) H1
theorem uy{op}{t:TE}(h:PE X a t):PE X (.BoolOp op [a] pos) t:=fun pins s σ H Q I hw=>BoolOp_one (h pins s σ H Q I hw)
theorem uq(ha:PE X a ta)(hb:PE X (.BoolOp .And (b::rest) pos) tb):PE X (.BoolOp .And (a::b::rest) pos) (rf ta tb):=by
 intro pins s σ H Q I h;refine BoolOp_and (thn (ha pins s σ H _ I h) fun v s1 hz9=>?_);obtain⟨x,H1,I1,r1,q1⟩:=hz9;obtain⟨c,rfl,q1⟩:=q1;cases r1;refine wpAny_truthy_bool ?_;cases c with
 |true=>exact hb pins s1 σ H1 Q I1 q1
 |false=>exact⟨.bl false,H1,I1,rfl,q1⟩
end
open PySem PySem.Spec PyProof.Rows
def SqL(K:PySem.W.Frag)(H:Hp)(a:Addr)(xs:List V):Prop :=
 Rd H a (.lst xs) \/
  ∃(o:Obj) (its:Array Value) (n:Nat),K.lookup a=some o/\o.cls=.type "list"/\o.dict=none/\o.data=.seq its n/\its.size<=sizeLine/\Vals xs its.toList
def SqT(K:PySem.W.Frag)(H:Hp)(a:Addr)(xs:List V):Prop :=
 Rd H a (.tup xs) \/
  ∃(o:Obj) (its:Array Value) (n:Nat),K.lookup a=some o/\o.cls=.type "tuple"/\o.data=.seq its n/\its.size<=sizeLine/\Vals xs its.toList
def wP:Value->Option V
 |.none=>some .non
 |.bool b=>some (.bl b)
 |.int i _=>some (.int i)
 |.str x _=>some (.str x)
 |.bytes b _=>some (.byt b)
 |.float b _=>some (.flt b)
 |.ref a=>some (.ref a)
 |.type n=>some (.ty n)
 |_=>none
theorem RelV.abs{x:V}{u:Value}(r:RelV x u):wP u=some x:=by
 cases x with
 |non=>cases r;rfl
 |bl _=>cases r;rfl
 |int _=>obtain⟨t,rfl⟩:=r;rfl
 |str _=>obtain⟨t,rfl⟩:=r;rfl
 |byt _=>obtain⟨t,rfl⟩:=r;rfl
 |flt _=>obtain⟨t,rfl⟩:=r;rfl
 |ref _=>cases r;rfl
 |ty _=>cases r;rfl
theorem RelV.inj{x y:V}{u:Value}(r:RelV x u)(q:RelV y u):x=y:=zE (r.abs.symm.trans q.abs)
theorem Vals.inj:∀{xs ys:List V} {us:List Value},Vals xs us->Vals ys us->xs=ys
 |_,_,_,.nil,.nil=>rfl
 |_,_,_,.cons r t,.cons r' t'=>by rw[r.inj r',Vals.inj t t']
section
variable{X:Cx}{pins:List (Addr×Obj)}{σ:St}{H:Hp}{s:Shared}{a:Addr}{xs ys:List V}
theorem SqL.of{K:PySem.W.Frag}(h:H a=some (.lst xs)):SqL K H a xs:=.inl (.inl h)
theorem SqT.of{K:PySem.W.Frag}(h:H a=some (.tup xs)):SqT K H a xs:=.inl (.inl h)
theorem Inv.list(I:Inv X pins σ H s)(h:SqL X.K H a xs):∃its:List Value,Vals xs its/\PlainL s.heap a its.toArray/\xs.length<=sizeLine:=by
 rcases h with h|⟨o,its,n,hk,hc,hd,hs,hz,r⟩
 ·obtain⟨z,its,n,r,e⟩:=h.ok I.hok;exact⟨its,r,⟨_,n,e,rfl,rfl,rfl⟩,z⟩
 ·refine⟨its.toList,r,⟨o,n,I.kIn a o hk,hc,hd,by simpa using hs⟩,?_⟩;have e:=r.length;simp only[zA]at e;omega
theorem Inv.tuple(I:Inv X pins σ H s)(h:SqT X.K H a xs):∃its:List Value,Vals xs its/\IsTup s.heap a its.toArray/\xs.length<=sizeLine:=by
 rcases h with h|⟨o,its,n,hk,hc,hs,hz,r⟩
 ·obtain⟨z,its,r,p⟩:=h.ok I.hok;exact⟨its,r,p,z⟩
 ·refine⟨its.toList,r,⟨o,I.kIn a o hk,hc,n,by simpa using hs⟩,?_⟩;have e:=r.length;simp only[zA]at e;omega
theorem Inv.list_inj(I:Inv X pins σ H s)(h:SqL X.K H a xs)(h':SqL X.K H a ys):xs=ys:=by
 obtain⟨its,r,⟨o,n,e,_,_,d⟩,_⟩:=I.list h;obtain⟨its',r',⟨o',n',e',_,_,d'⟩,_⟩:=I.list h';rw[e]at e';cases e';rw[d]at d';injection d' with d1 _;have:its=its':=by simpa using ZF Array.toList d1
 subst this;exact r.inj r'
end
abbrev Cx.wish(X:Cx)(E:Value->Shared->Prop):Cx:={ X with xe:=E }
abbrev Cx.nox(X:Cx):Cx:=X.wish fun _ _=>False
theorem Cx.Ok.wish{X:Cx}(ok:X.Ok)(E:Value->Shared->Prop):(X.wish E).Ok :=
 ⟨ok.mod,ok.kind,ok.glob,ok.blt,ok.above,ok.inj,ok.has,ok.cab,ok.hd,ok.frames,ok.stk,ok.exf,ok.bs,ok.bsz,ok.noex,ok.exfs,ok.funs,ok.frf⟩
theorem Cx.Ok.unwish{X:Cx}{E:Value->Shared->Prop}(ok:(X.wish E).Ok):X.Ok :=
 ⟨ok.mod,ok.kind,ok.glob,ok.blt,ok.above,ok.inj,ok.has,ok.cab,ok.hd,ok.frames,ok.stk,ok.exf,ok.bs,ok.bsz,ok.noex,ok.exfs,ok.funs,ok.frf⟩
section
variable{X:Cx}{pins:List (Addr×Obj)}{σ:St}{H:Hp}{s:Shared}{E:Value->Shared->Prop}
theorem Inv.wish(I:Inv X pins σ H s)(E:Value->Shared->Prop):Inv (X.wish E) pins σ H s:=⟨I.ok.wish E,I.os,I.bare,I.base,I.loc,I.cell,I.free,I.freeC,I.pin,I.hok,I.len⟩
theorem Inv.unwish(I:Inv (X.wish E) pins σ H s):Inv X pins σ H s:=⟨I.ok.unwish,I.os,I.bare,I.base,I.loc,I.cell,I.free,I.freeC,I.pin,I.hok,I.len⟩
theorem SP.unwish{D:Ends}{f:Flow}{s':Shared}(h:SP (X.wish E) pins D f s'):SP X pins D f s':=by
 cases f with
 |next=>obtain⟨σ',H',I,q⟩:=h;exact⟨σ',H',I.unwish,q⟩
 |brk=>obtain⟨σ',H',I,q⟩:=h;exact⟨σ',H',I.unwish,q⟩
 |cont=>obtain⟨σ',H',I,q⟩:=h;exact⟨σ',H',I.unwish,q⟩
 |ret u=>obtain⟨v,σ',H',I,r,q⟩:=h;exact⟨v,σ',H',I.unwish,r,q⟩
theorem PSs.nox{st:List Stmt}{t:TS}(h:PSs X.nox st t):PSs X st t:=fun pins s σ H D I hw =>
 Zx (h pins s σ H D (I.wish _) hw) (fun _ _ q=>q.unwish) fun _ _ z=>False.elim z
end
section
variable{X:Cx}{st:Stmt}{rest:List Stmt}{t u:TS}{e:Expr}{te:TE}{pos:Pos}
def rk:TS:=fun D σ H=>D.nx σ H
def qE(t u:TS):TS:=fun D σ H=>t { D with nx:=u D } σ H
theorem sA:PSs X [] rk:=fun _ _ σ H _ I h=>wpAny_execs_nil ⟨σ,H,I,h⟩
theorem qu(h1:PS X st t)(h2:PSs X rest u):PSs X (st::rest) (qE t u):=by
 intro pins s σ H D I h;refine wpAny_execs_cons (thn (h1 pins s σ H { D with nx:=u D } I h) fun f s1 q=>?_);cases f with
 |next =>obtain⟨σ',H',I',q⟩:=q;exact h2 pins s1 σ' H' D I' q
 |ret v=>exact q
 |brk=>exact q
 |cont=>exact q
theorem sB(h1:PS X st t):PSs X [st] t:=by
 intro pins s σ H D I h;refine wpAny_execs_cons (thn (h1 pins s σ H D I h) fun f s1 q=>?_);cases f with
 |next=>exact wpAny_execs_nil q
 |ret v=>exact q
 |brk=>exact q
 |cont=>exact q
theorem Inv.quiet{pins:List (Addr×Obj)}{σ:St}{H:Hp}{s:Shared}(I:Inv X pins σ H s):interactive X.env=false:=by simp[interactive,I.ok.kind]
def ri(te:TE):TS:=fun D σ H=>te σ H fun _ H1=>D.nx σ H1
theorem sx(he:PE X e te)(hs:swapsWith e none pos.line X.env=pure false:=by rfl):PS X (.Expr e pos) (ri te):=by intro pins s σ H D I h;exact wpAny_Expr_any (thn (he pins s σ H _ I h) fun v s1 ⟨x,H1,I1,r1,q1⟩=>⟨σ,H1,I1,q1⟩) I.quiet hs
def vw(te:TE):TS:=fun D σ H=>te σ H D.rt
theorem uK(he:PE X e te):PS X (.Return (some e) pos) (vw te):=by intro pins s σ H D I h;exact wpAny_Return_some (thn (he pins s σ H _ I h) fun v s1 ⟨x,H1,I1,r1,q1⟩=>⟨x,σ,H1,I1,r1,q1⟩)
def vp(c:TT)(t u:TS):TS:=fun D σ H=>c σ H fun b H1=>if b=true then t D σ H1 else u D σ H1
theorem ww{c:Expr}{a b:List Stmt}{tc:TT}(hc:PT X c tc)(ha:PSs X a t)(hb:PSs X b u):PS X (.If c a b pos) (vp tc t u):=by
 intro pins s σ H D I h;refine wpAny_If (thn (hc pins s σ H _ I h) fun d s1 ⟨H1,I1,q1⟩=>?_);cases d with
 |true=>exact ha pins s1 σ H1 D I1 q1
 |false=>exact hb pins s1 σ H1 D I1 q1
end
abbrev TG:=V->St->Hp->(St->Hp->Prop)->Prop
abbrev TGs:=List V->St->Hp->(St->Hp->Prop)->Prop
def PG(X:Cx)(target:Expr)(t:TG):Prop :=
 ∀(pins:List (Addr×Obj)) (s:Shared) (σ:St) (H:Hp) (v:V) (u:Value) (Q:St->Hp->Prop),Inv X pins σ H s->RelV v u->t v σ H Q ->
  wpAny (model X.prog X.w) X.A (assign target X.env u) (fun _ s'=>∃σ' H',Inv X pins σ' H' s'/\Q σ' H') X.xe s
def PGs(X:Cx)(ts:List Expr)(t:TGs):Prop :=
 ∀(pins:List (Addr×Obj)) (s:Shared) (σ:St) (H:Hp) (vs:List V) (us:List Value) (Q:St->Hp->Prop),Inv X pins σ H s->Vals vs us->t vs σ H Q ->
  wpAny (model X.prog X.w) X.A (assignInOrder ((assignEach ts X.env).map (·.2)) us) (fun _ s'=>∃σ' H',Inv X pins σ' H' s'/\Q σ' H') X.xe s
abbrev sU:=V->V->V->Hp->(Hp->Prop)->Prop
def wN(X:Cx)(t:sU):Prop :=
 ∀(pins:List (Addr×Obj)) (s:Shared) (σ:St) (H:Hp) (o i v:V) (ov iv u:Value) (Q:Hp->Prop),Inv X pins σ H s->RelV o ov->RelV i iv->RelV v u->t o i v H Q ->
  wpAny (model X.prog X.w) X.A (setItem ov iv u) (fun _ s'=>∃H',Inv X pins σ H' s'/\Q H') X.xe s
abbrev TIp:=V->V->Hp->VK->Prop
def PIp(X:Cx)(op:Operator)(t:TIp):Prop :=
 ∀(pins:List (Addr×Obj)) (s:Shared) (σ:St) (H:Hp) (x y:V) (v u:Value) (Q:VK),Inv X pins σ H s->RelV x v->RelV y u->t x y H Q ->
  wpAny (model X.prog X.w) X.A (inplaceOp op v u) (EP X pins σ Q) X.xe s
section
variable{X:Cx}{pos:Pos}
def bM(i:Nat):TG:=fun v σ H Q=>Q (σ.set i (some v)) H
theorem si{i:Nat}{x:Str}(hN:X.N.Nodup)(hi:X.N[i]?=some x)(hx:Loc X.env.scope x)(hf:X.fn x=true\/X.env.scope.names.lookup x=some .local:=by first|exact .inl rfl|exact .inr rfl|assumption):PG X (.Name x pos) (bM i):=by intro pins s σ H v u Q I r h;exact wpAny_assign_Name (kC I hN hi hx r (fun s' I'=>⟨_,H,I',h⟩) hf)
def jJ:TGs:=fun vs σ H Q=>vs=[]/\Q σ H
def db(t:TG)(u:TGs):TGs:=fun vs σ H Q=>∃v r,vs=v::r/\t v σ H fun σ' H'=>u r σ' H' Q
theorem sj:PGs X [] jJ:=by intro pins s σ H vs us Q I r h;obtain⟨e,h⟩:=h;subst e;cases r;exact assignInOrder_nil ⟨σ,H,I,h⟩
theorem qo{e:Expr}{es:List Expr}{t:TG}{u:TGs}(h1:PG X e t)(h2:PGs X es u)(hs:(assignEach (e::es) X.env).map (·.2)=assign e X.env::(assignEach es X.env).map (·.2):=by rfl):PGs X (e::es) (db t u):=by
 intro pins s σ H vs us Q I r h;obtain⟨v,vr,e1,h⟩:=h;subst e1;cases r with
 |cons r rr =>rw[hs];refine assignInOrder_cons (thn (h1 pins s σ H _ _ _ I r h) fun _ s1 ⟨σ1,H1,I1,q1⟩=>?_);exact h2 pins s1 σ1 H1 _ _ Q I1 rr q1
def jK(K:PySem.W.Frag)(n:Nat)(t:TGs):TG:=fun v σ H Q=>∃a xs,v=.ref a/\SqT K H a xs/\xs.length=n/\t xs σ H Q
theorem uD{es:List Expr}{k:Nat}{t:TGs}{n:Nat}(hc:X.calm=true)(h:PGs X es t)(hn:(assignEach es X.env).length=n:=by rfl)(hst:(assignEach es X.env).findIdx? (·.1)=none:=by rfl):PG X (.Tuple es k pos) (jK X.K n t):=by intro pins s σ H v u Q I r hw;obtain⟨a,xs,e1,hq,hl,hw⟩:=hw;subst e1;cases r;obtain⟨its,rv,ht,hz⟩:=I.tuple hq;refine assign_Tuple_tuple (I.ok.hd hc) ht (by simp[hn,<-hl,rv.length]) hst fun h' hx=>?_;have I1:Inv X pins σ H { s with heap:=h' }:=I.kept (t':=s.toks) fun b o e=>hx b o (zJ (zq e)) e;exact h pins _ σ H xs _ Q I1 (by simpa using rv) hw
def vk(te:TE)(g:TG):TS:=fun D σ H=>te σ H fun x H1=>g x σ H1 D.nx
theorem uL{i:Nat}{x:Str}{e:Expr}{te:TE}{pos':Pos}(hN:X.N.Nodup)(hi:X.N[i]?=some x)(hx:Loc X.env.scope x)(he:PE X e te)(hs:swapsWith e (some (.Name x pos')) pos.line X.env=pure false:=by rfl)(hf:X.fn x=true\/X.env.scope.names.lookup x=some .local:=by first|exact .inl rfl|exact .inr rfl|assumption) :
  PS X (.Assign [.Name x pos'] e pos) (vk te (bM i)):=by
 intro pins s σ H D I h;refine wpAny_Assign_Name (thn (he pins s σ H _ I h) fun v s1 hz9=>?_) hs;obtain⟨y,H1,I1,r1,q1⟩:=hz9;exact kC I1 hN hi hx r1 (fun s2 I2=>⟨_,H1,I2,q1⟩) hf
end
section
variable{X:Cx}{pos:Pos}
def oP(c:TT)(tb:TS):TS:=fun D σ H=>∃W:Nat->St->Hp->Prop,(∃m,W m σ H)/\∀m σ H,W m σ H ->
 c σ H fun b H1=>if b=true then∃N:St->Hp->Prop,(∀σ' H',N σ' H'->∃m',m'<m/\W m' σ' H')/\tb { D with nx:=N,ct:=N,bk:=D.nx } σ H1 else D.nx σ H1
theorem qt{c:Expr}{body:List Stmt}{tc:TT}{tb:TS}(hp:PassesOwn (model X.prog X.w) X.A X.env X.xe)(hc:PT X c tc)(hb:PSs X body tb):PS X (.While c body [] pos) (oP tc tb):=by
 intro pins s σ H D I h;obtain⟨W,⟨m0,w0⟩,turn⟩:=h;refine wpAny_While (codeAny_whileLoop (fun n s'=>∃σ' H',Inv X pins σ' H' s'/\W n σ' H') ?_ m0 ⟨σ,H,I,w0⟩);rintro n s1 ⟨σ1,H1,I1,w1⟩;refine wpAny_passesOwn hp (thn (hc pins s1 σ1 H1 _ I1 (turn n σ1 H1 w1)) fun b s2 ⟨H2,I2,q2⟩=>?_);cases b with
 |true =>
  obtain⟨N,hN,q2⟩:=q2;rw[if_pos rfl];refine wpAny_passesOwn hp (thn (hb pins s2 σ1 H2 _ I2 q2) fun f s3 q3=>?_);cases f with
  |next =>obtain⟨σ3,H3,I3,n3⟩:=q3;obtain⟨m',hm,w3⟩:=hN σ3 H3 n3;exact⟨m',hm,σ3,H3,I3,w3⟩
  |cont =>obtain⟨σ3,H3,I3,n3⟩:=q3;obtain⟨m',hm,w3⟩:=hN σ3 H3 n3;exact⟨m',hm,σ3,H3,I3,w3⟩
  |brk=>exact q3
  |ret v=>exact q3
 |false =>rw[if_neg zo];exact wpAny_execs_nil ⟨σ1,H2,I2,q2⟩
end
structure It where
 go:Nat->Hp->Prop
 yld:Nat->Hp->V->Hp->Prop
 stop:Nat->Hp->Prop
def bn(X:Cx)(pins:List (Addr×Obj))(H:Hp)(b:Addr):Prop :=
 H b=none/\b≠X.env.locals/\b∉X.fs/\(b∈X.ex\/X.s₀.heap.objs.size<=b)/\(∀x c,X.env.cells.lookup x=some c->c≠b)/\∀p∈X.pn++pins,p.1≠b
theorem Inv.fpOk{X:Cx}{pins:List (Addr×Obj)}{σ:St}{H H':Hp}{s:Shared}{b:Addr}(I:Inv X pins σ H s)(hb:s.heap.objs.size<=b)(hn:H' b=none):bn X pins H' b:=by
 refine⟨hn,ZM (zC I.lt hb),I.nofs hb,.inr (zS I.sz hb),fun x c e z=>?_,fun p hp z=>?_⟩
 ·obtain⟨v,q⟩:=I.cell x c e;exact absurd (zC q.lt (by rw[z];exact hb)) (ZI _)
 ·exact absurd (zC (zq (I.pin p hp).1) (by rw[z];exact hb)) (ZI _)
structure Turn(P:Program)(w:World)(K:PySem.W.Frag)(tg:Expr)(J:It)(fp:List Addr)(it:Addr)(tn:Nat->Heap->Prop):Prop where
 mem:it∈fp
 obj:∀i h,tn i h->∀b∈fp,∃o,h.get? b=some o/\∀v,o.data≠.cell v
 keep:∀i h h',tn i h->(∀b∈fp,∀o,h.get? b=some o->h'.get? b=some o)->tn i h'
 item:∀(X:Cx),X.prog=P->X.w=w->X.K=K->X.calm=true->∀(i:Nat) (pins:List (Addr×Obj)) (s:Shared) (σ:St) (H:Hp) (E:Value->Shared->Prop),Inv X pins σ H s->(∀b∈fp,bn X pins H b)->tn i s.heap->J.go i H ->
  wpAny (model P w) X.A (pyNext (.ref it)) (fun r s1=>∃ u,r=some u /\
   wpAny (model P w) X.A (letOwnedTupleGo tg (.ref it) u) (fun _ s2=>∃ x H',Inv X pins σ H' s2/\RelV x u/\J.yld i H x H'/\tn (i+1) s2.heap/\∀ b∈fp,H' b=none) E s1) E s
 done:∀(X:Cx),X.prog=P->X.w=w->X.K=K->X.calm=true->∀(i:Nat) (pins:List (Addr×Obj)) (s:Shared) (σ:St) (H:Hp) (E:Value->Shared->Prop),Inv X pins σ H s->(∀b∈fp,bn X pins H b)->tn i s.heap->J.stop i H ->
  wpAny (model P w) X.A (pyNext (.ref it)) (fun r s1=>r=none/\Inv X pins σ H s1) E s
 self:∀(A:Around) (i:Nat) (s:Shared) (Q:Value->Shared->Prop) (E:Value->Shared->Prop),tn i s.heap->Q (.ref it) s->wpAny (model P w) A (pyIter (.ref it)) Q E s
abbrev TI:=St->Hp->(It->Hp->Prop)->Prop
def PIE(X:Cx)(pins:List (Addr×Obj))(σ:St)(tg:Expr)(R:It->Hp->Prop)(itv:Value)(s2:Shared):Prop :=
 ∃(it:Addr) (fp:List Addr) (tn:Nat->Heap->Prop) (J:It) (H':Hp),itv=.ref it/\Inv X pins σ H' s2/\Turn X.prog X.w X.K tg J fp it tn/\tn 0 s2.heap/\(∀b∈fp,bn X pins H' b)/\R J H'
def PI(X:Cx)(tg iter:Expr)(wi:TI):Prop :=
 ∀(pins:List (Addr×Obj)) (s:Shared) (σ:St) (H:Hp) (R:It->Hp->Prop),Inv X pins σ H s->wi σ H R ->
  wpAny (model X.prog X.w) X.A (eval iter X.env) (fun v s1=>wpAny (model X.prog X.w) X.A (pyIter v) (PIE X pins σ tg R) X.xe s1) X.xe s
theorem lX{M:Model}{A:Around}{E:Value->Shared->Prop}{s:Shared}{tg:Expr}{it:Addr}{u:Value}{o:Obj}{n:String}{vs:Array Value}{Q:Unit->Shared->Prop}(ho:s.heap.get? it=some o)(hc:o.cls=.type n)(hd:o.data=.fields vs)(hn:["enumerate","zip","dict_itemiterator","dict_reverseitemiterator","odict_iterator","itertools.zip_longest","itertools.pairwise"].contains n=false)(hQ:Q () s):wpAny M A (letOwnedTupleGo tg (.ref it) u) Q E s:=by
 unfold letOwnedTupleGo;cases tg<;>first
  |exact zi hQ
  | (cases u<;>first
    |exact zi hQ
    | (refine zd (wpAny_load ho ?_)
       rw[hc,hd];show wpAny M A (if(["enumerate","zip","dict_itemiterator","dict_reverseitemiterator","odict_iterator","itertools.zip_longest","itertools.pairwise"].contains n&&vs[0]?==some (rawInt _))=true then _ else _) Q E s;rw[if_neg (by intro h;rw[hn,Bool.false_and]at h;cases h)];exact zi hQ))
def Itl(K:PySem.W.Frag)(a:Addr):It :=
 ⟨fun i H=>∃xs x,SqL K H a xs/\xs[i]?=some x,fun i H x H'=>H'=H/\∀xs,SqL K H a xs->xs[i]?=some x,fun i H=>∃xs,SqL K H a xs/\xs.length<=i⟩
def Itr(lo:Int)(n:Nat):It:=⟨fun i _=>i<n,fun i H x H'=>H'=H/\x=.int (lo+i),fun i _=>n<=i⟩
theorem oT{P:Program}{w:World}{K:PySem.W.Frag}{tg:Expr}(a it:Addr):Turn P w K tg (Itl K a) [it] it (fun i h=>h.IsListIter it a i) where
 mem:=by simp
 obj:=fun i h st b hb=>by
  have e:b=it:=by simpa using hb
  subst e;obtain⟨o,e,c,d⟩:=st;exact⟨o,e,fun v z=>by rw[d]at z;cases z⟩
 keep:=fun i h h' st k=>st.at fun o e=>k it (by simp) o e
 item:=by intro X hP hw hK hc i pins s σ H E I hf st hg;subst hP hw hK;obtain⟨xs,x,hq,hx⟩:=hg;obtain⟨its,rv,p,hz⟩:=I.list hq;obtain⟨u,hu,ru⟩:=rv.get hx;obtain⟨f0,f1,f2,f3,f4,f5⟩:=hf it (by simp);refine wpAny_pyNext_list_item st p.isList (x:=u) (by simpa using hu) fun h' st' sb=>?_;have I1:Inv X pins σ H { s with heap:=h' }:=I.turned (t':=s.toks) (fun b o hb e=>(sb.2 b hb).trans e) f0 f1 f3 f4 f5;obtain⟨o,e,c,d⟩:=id st';exact⟨u,rfl,lX (s:={ s with heap:=h' }) e c d (by decide) ⟨x,H,I1,ru,⟨rfl,fun ys hy=>by rw[I.list_inj hy hq];exact hx⟩,st',fun b hb=>(hf b hb).1⟩⟩
 done:=by intro X hP hw hK hc i pins s σ H E I hf st hg;subst hP hw hK;obtain⟨xs,hq,hx⟩:=hg;obtain⟨its,rv,p,hz⟩:=I.list hq;obtain⟨f0,f1,f2,f3,f4,f5⟩:=hf it (by simp);have hl:=rv.length;exact wpAny_pyNext_list_end (I.ok.hd hc) st p.isList (by simp;omega) fun h' eb=>⟨rfl,I.turned (t':=s.toks) (fun b o hb e=>eb b o hb e) f0 f1 f3 f4 f5⟩
 self:=fun _ _ _ _ _ st h=>wpAny_pyIter_listiter st h
theorem mI{P:Program}{w:World}{K:PySem.W.Frag}{tg:Expr}(it:Addr)(lo:Int)(n:Nat):Turn P w K tg (Itr lo n) [it] it (fun i h=>IsRangeIter h it (lo+(i:Nat)*1) ((n:Int)-(i:Nat)) 1) where
 mem:=by simp
 obj:=fun i h st b hb=>by
  have e:b=it:=by simpa using hb
  subst e;exact⟨_,st,fun v z=>by
   have z':Data.fields _=Data.cell v:=z;cases z'⟩
 keep:=fun i h h' st k=>k it (by simp) _ st
 item:=by intro X hP hw hK hc i pins s σ H E I hf st hg;subst hP hw hK;obtain⟨f0,f1,f2,f3,f4,f5⟩:=hf it (by simp);have W:=Walks.range (prog:=X.prog) (w:=X.w) (I.ok.hd hc) it lo 1 n;refine W.item i s _ _ hg st fun v h' tk hv st' kk=>?_;obtain⟨t,rfl⟩:=hv;have I1:Inv X pins σ H { s with heap:=h',toks:=tk }:=I.turned (fun b o hb e=>kk b o (by simpa using hb) e) f0 f1 f3 f4 f5;refine⟨_,rfl,lX (s:={ s with heap:=h',toks:=tk }) (n:="range_iterator") st' rfl rfl (by decide) ⟨.int (lo+i),H,I1,⟨t,?_⟩,⟨rfl,rfl⟩,st',fun b hb=>(hf b hb).1⟩⟩;rw[Int.mul_one]
 done:=by intro X hP hw hK hc i pins s σ H E I hf st hg;subst hP hw hK;obtain⟨f0,f1,f2,f3,f4,f5⟩:=hf it (by simp);exact wpAny_pyNext_range_end (I.ok.hd hc) st (by have:n<=i:=hg;omega) fun h' eb=>⟨rfl,I.turned (t':=s.toks) (fun b o hb e=>eb b o hb e) f0 f1 f3 f4 f5⟩
 self:=fun _ _ _ _ _ st h=>wpAny_pyIter_rangeiter st h
open PySem PySem.Spec PyProof.Rows
section
variable{X:Cx}{tg:Expr}
def qO(K:PySem.W.Frag)(tl:TE):TI:=fun σ H R=>tl σ H fun x H1=>∃a,x=.ref a/\(∃xs,SqL K H1 a xs)/\R (Itl K a) H1
theorem sq{l:Expr}{tl:TE}(hl:PE X l tl):PI X tg l (qO X.K tl):=by
 intro pins s σ H R I h;refine thn (hl pins s σ H _ I h) fun v s1 hz9=>?_;obtain⟨x,H1,I1,r1,q1⟩:=hz9;obtain⟨a,e,⟨xs,hq⟩,q⟩:=q1;subst e;cases r1;obtain⟨its,rv,p,hz⟩:=I1.list hq;refine wpAny_pyIter_list p.isList ?_;refine⟨s1.heap.objs.size,[s1.heap.objs.size],_,_,H1,rfl,I1.kept (t':=s1.toks) fun b o e=>ze _ e,oT a _,⟨_,zw _ rfl,rfl,rfl⟩,fun b hb=>?_,q⟩;have e:b=s1.heap.objs.size:=by simpa using hb
 subst e;exact I1.fpOk (zh _) (I1.hok.fresh (zh _))
theorem qw{pins:List (Addr×Obj)}{σ:St}{H:Hp}{s:Shared}{R:It->Hp->Prop}{E:Value->Shared->Prop}{lo hi:Int}{t u v:Tok}{tk:Nat}(I:Inv X pins σ H s)(h1:-(2^62)<=lo)(h2:lo<2^62)(h3:-(2^62)<=hi)(h4:hi<2^62)(q:R (Itr lo (hi-lo).toNat) H):wpAny (model X.prog X.w) X.A (pyIter (.ref s.heap.objs.size)) (PIE X pins σ tg R) E { s with heap:=s.heap.push { cls:=.type "range",data:=.fields #[.int lo t,.int hi u,.int 1 v] },toks:=tk }:=by
 refine wpAny_pyIter_range (IsRange.new ..) (small_one h1 h2 h3 h4) ?_;have I1:Inv X pins σ H { s with heap:=s.heap.push { cls:=.type "range",data:=.fields #[.int lo t,.int hi u,.int 1 v] },toks:=tk }:=I.kept fun b o e=>ze _ e;refine⟨(s.heap.push { cls:=.type "range",data:=.fields #[.int lo t,.int hi u,.int 1 v] }).objs.size,[(s.heap.push { cls:=.type "range",data:=.fields #[.int lo t,.int hi u,.int 1 v] }).objs.size],_,_,H,rfl,
  I1.kept (t':=tk) fun b o e=>ze _ e,mI _ lo (hi - lo).toNat,?_,fun b hb=>?_,q⟩
 ·have e1:lo+((0:Nat):Int)*1=lo:=by simp
  have e2:(((hi-lo).toNat:Nat):Int)-((0:Nat):Int)=Builtin.Range.rangeSize lo hi 1:=by rw[rangeSize_one];split<;>omega
  show IsRangeIter _ _ (lo+((0:Nat):Int)*1) ((((hi-lo).toNat:Nat):Int)-((0:Nat):Int)) 1;rw[e1,e2];exact zw _ rfl
 ·have e:b=(s.heap.push { cls:=.type "range",data:=.fields #[.int lo t,.int hi u,.int 1 v] }).objs.size:=by simpa using hb
  subst e;exact I1.fpOk (zh _) (I1.hok.fresh (zh _))
def qP(ta:TA):TI:=fun σ H R=>ta σ H fun vs H1=>∃j:Int,vs=[.int j]/\-(2^62)<=j/\j<2^62/\R (Itr 0 j.toNat) H1
theorem ot{a:Expr}{ta:TA}{p pos:Pos}(hg:Gl X "range")(hm:X.mg "range" = none)(ha:PA X [a] ta)(hs:starEach [a] X.env=[(false,eval a X.env)]:=by rfl):PI X tg (.Call (.Name "range" p) [a] [] pos) (qP ta):=by
 intro pins s σ H R I h;refine Call_ (dE I hg hm boot_range (ZN (thn (ha pos pins s σ H _ I h) fun us s1 hz9=>?_) hs rfl));obtain⟨vs,H1,I1,r1,q1⟩:=hz9;obtain⟨j,e,q1,q2,q⟩:=q1;subst e;cases r1 with
 |cons r rr =>cases rr;obtain⟨t,rfl⟩:=r;exact call_range_1 (qw I1 (by omega) (by omega) q1 q2 (by simpa using q))
def vo(wi:TI)(g:TG)(tb:TS):TS:=fun D σ H=>wi σ H fun J H1=>∃W:Nat->Nat->St->Hp->Prop,(∃m,W 0 m σ H1)/\∀i m σ H,W i m σ H ->
 (J.stop i H/\D.nx σ H)\/(J.go i H/\∃N:St->Hp->Prop,(∀σ' H',N σ' H'->∃m',m'<m/\W (i+1) m' σ' H')/\∀x H',J.yld i H x H'->g x σ H' fun σ2 H2=>tb { D with nx:=N,ct:=N,bk:=D.nx } σ2 H2)
def eR(fp:List Addr)(h:Heap):List (Addr×Obj):=fp.filterMap fun b=>(h.get? b).map fun o=>(b,o)
theorem cO{fp:List Addr}{h:Heap}{b:Addr}{o:Obj}(hb:b∈fp)(e:h.get? b=some o):(b,o)∈eR fp h:=List.mem_filterMap.mpr ⟨b,hb,by rw[e];rfl⟩
theorem nU{fp:List Addr}{h:Heap}{p:Addr×Obj}(hp:p∈eR fp h):p.1∈fp/\h.get? p.1=some p.2:=by
 obtain⟨b,hb,e⟩:=List.mem_filterMap.mp hp;cases q:h.get? b with
 |none=>rw[q]at e;cases e
 |some o =>rw[q]at e;have e':(b,o)=p:=zE e;subst e';exact⟨hb,q⟩
theorem Inv.pinned{pins:List (Addr×Obj)}{σ:St}{H:Hp}{s:Shared}{fp:List Addr}(I:Inv X pins σ H s)(hf:∀b∈fp,bn X pins H b)(ho:∀b∈fp,∃o,s.heap.get? b=some o/\∀v,o.data≠.cell v):Inv X (pins++eR fp s.heap) σ H s :=
 I.pins_of fun p hp=>(z9.mp hp).elim (fun z=>I.pin p (zU _ z)) fun z=>by obtain⟨hb,e⟩:=nU z;obtain⟨f0,f1,f2,_⟩:=hf p.1 hb;obtain⟨o,e',d⟩:=ho p.1 hb;rw[e]at e';cases e';exact⟨e,f0,f1,f2,d⟩
theorem Inv.unpinned{pins pl:List (Addr×Obj)}{σ:St}{H:Hp}{s:Shared}(I:Inv X (pins++pl) σ H s):Inv X pins σ H s:=I.pins_of fun p hp=>I.pin p (zU _ (List.mem_append_left _ hp))
theorem uJ{iter:Expr}{body:List Stmt}{wi:TI}{g:TG}{tb:TS}{pos:Pos}(hp:PassesOwn (model X.prog X.w) X.A X.env X.xe)(hc:X.calm=true)(hi:PI X tg iter wi)(hg:PG X tg g)(hb:PSs X body tb)(hs:∀x,foldedSetIterable iter X.env x=pure x:=by intro _;rfl):PS X (.For tg iter body [] pos) (vo wi g tb):=by
 intro pins s σ H D I h;refine wpAny_For (thn (hi pins s σ H _ I h) fun v s1 h1=>thn h1 fun itv s2 h2=>?_) hs;obtain⟨it,fp,tn,J,H2,e,I2,T,st2,f2,W,⟨m0,w0⟩,turn⟩:=h2;subst e;have stat:∀{H':Hp},(∀b∈fp,H' b=none)->∀b∈fp,bn X pins H' b:=fun hn b hb=>⟨hn b hb,(f2 b hb).2⟩
 refine codeAny_forLoop_any (fun n s'=>∃i σ' H',Inv X pins σ' H' s'/\tn i s'.heap/\(∀b∈fp,H' b=none)/\W i n σ' H') ?_ m0 ⟨0,σ,H2,I2,st2,fun b hb=>(f2 b hb).1,w0⟩;rintro n s3 ⟨i,σ3,H3,I3,st3,fr3,w3⟩;rcases turn i n σ3 H3 w3 with⟨stop,qn⟩|⟨go,N,hN,step⟩
 ·refine wpAny_passesOwn hp (thn (T.done X rfl rfl rfl hc i pins s3 σ3 H3 X.xe I3 (stat fr3) st3 stop) fun r s4 ⟨hr,I4⟩=>?_);subst hr;exact wpAny_execs_nil ⟨σ3,H3,I4,qn⟩
 ·refine wpAny_passesOwn hp (thn (T.item X rfl rfl rfl hc i pins s3 σ3 H3 X.xe I3 (stat fr3) st3 go) fun r s4 ⟨u,hr,h4⟩=>?_);subst hr;refine wpAny_passesOwn hp (thn h4 fun _ s5 hz9=>?_);obtain⟨x,H5,I5,r5,y5,st5,fr5⟩:=hz9;have I5':=I5.pinned (stat fr5) (T.obj _ _ st5);refine wpAny_passesOwn hp (thn (hg _ s5 σ3 H5 x u _ I5' r5 (step x H5 y5)) fun _ s6 ⟨σ6,H6,I6,q6⟩=>?_);refine wpAny_passesOwn hp (thn (hb _ s6 σ6 H6 _ I6 q6) fun f s7 q7=>?_);have again:∀{σ7:St} {H7:Hp},Inv X (pins++eR fp s5.heap) σ7 H7 s7->N σ7 H7->∃m,m<n/\∃i σ' H',Inv X pins σ' H' s7/\tn i s7.heap/\(∀b∈fp,H' b=none)/\W i m σ' H':=fun{σ7 H7} I7 n7=>by obtain⟨m',hm,w7⟩:=hN σ7 H7 n7;refine⟨m',hm,i+1,σ7,H7,I7.unpinned,T.keep _ _ _ st5 fun b hb o e=>(I7.pin (b,o) (zU _ (zU _ (cO hb e)))).1,fun b hb=>?_,w7⟩;obtain⟨o,e,d⟩:=T.obj _ _ st5 b hb;exact(I7.pin (b,o) (zU _ (zU _ (cO hb e)))).2.1
  cases f with
  |next=>obtain⟨σ7,H7,I7,n7⟩:=q7;exact again I7 n7
  |cont=>obtain⟨σ7,H7,I7,n7⟩:=q7;exact again I7 n7
  |brk=>obtain⟨σ7,H7,I7,q7⟩:=q7;exact⟨σ7,H7,I7.unpinned,q7⟩
  |ret v=>obtain⟨x7,σ7,H7,I7,r7,q7⟩:=q7;exact⟨x7,σ7,H7,I7.unpinned,r7,q7⟩
end
theorem pM{K:PySem.W.Frag}{a:Addr}{xs:List V}{g:TG}{tb:TS}{D:Ends}{σ:St}{H:Hp}(Pv:Nat->St->Hp->Prop)(h0:Pv 0 σ H)(hl:∀i σ H,i<=xs.length->Pv i σ H->SqL K H a xs)(hs:∀i x σ H,xs[i]?=some x->Pv i σ H->g x σ H fun σ2 H2=>tb { D with nx:=Pv (i+1),ct:=Pv (i+1),bk:=D.nx } σ2 H2)(hd:∀σ H,Pv xs.length σ H->D.nx σ H) :
  ∃W:Nat->Nat->St->Hp->Prop,(∃m,W 0 m σ H)/\∀i m σ H,W i m σ H ->
   ((Itl K a).stop i H/\D.nx σ H)\/((Itl K a).go i H/\∃N:St->Hp->Prop,(∀σ' H',N σ' H'->∃m',m'<m/\W (i+1) m' σ' H')/\∀x H',(Itl K a).yld i H x H'->g x σ H' fun σ2 H2=>tb { D with nx:=N,ct:=N,bk:=D.nx } σ2 H2):=by
 refine⟨fun i m σ H=>m=xs.length-i/\i<=xs.length/\Pv i σ H,⟨xs.length,by simp,zR _,h0⟩,?_⟩;rintro i m σ H ⟨rfl,hi,p⟩;have q:=hl i σ H hi p;by_cases hlt:i<xs.length
 ·refine .inr ⟨⟨xs,xs[i],q,by simp[hlt]⟩,Pv (i+1),fun σ' H' p'=>⟨xs.length-(i+1),by omega,rfl,hlt,p'⟩,fun x H' y=>?_⟩;obtain⟨e,y⟩:=y;subst e;exact hs i x σ _ (y xs q) p
 ·have e:i=xs.length:=by omega
  subst e;exact .inl ⟨⟨xs,q,zh _⟩,hd σ H p⟩
theorem nw{lo:Int}{n:Nat}{g:TG}{tb:TS}{D:Ends}{σ:St}{H:Hp}(Pv:Nat->St->Hp->Prop)(h0:Pv 0 σ H)(hs:∀i σ H,i<n->Pv i σ H->g (.int (lo+i)) σ H fun σ2 H2=>tb { D with nx:=Pv (i+1),ct:=Pv (i+1),bk:=D.nx } σ2 H2)(hd:∀σ H,Pv n σ H->D.nx σ H) :
  ∃W:Nat->Nat->St->Hp->Prop,(∃m,W 0 m σ H)/\∀i m σ H,W i m σ H ->
   ((Itr lo n).stop i H/\D.nx σ H)\/((Itr lo n).go i H/\∃N:St->Hp->Prop,(∀σ' H',N σ' H'->∃m',m'<m/\W (i+1) m' σ' H')/\∀x H',(Itr lo n).yld i H x H'->g x σ H' fun σ2 H2=>tb { D with nx:=N,ct:=N,bk:=D.nx } σ2 H2):=by
 refine⟨fun i m σ H=>m=n-i/\i<=n/\Pv i σ H,⟨n,by simp,zR _,h0⟩,?_⟩;rintro i m σ H ⟨rfl,hi,p⟩;by_cases hlt:i<n
 ·refine .inr ⟨hlt,Pv (i+1),fun σ' H' p'=>⟨n-(i+1),by omega,rfl,hlt,p'⟩,fun x H' y=>?_⟩;obtain⟨e,y⟩:=y;subst e y;exact hs i σ _ hlt p
 ·have e:i=n:=by omega
  subst e;exact .inl ⟨zh _,hd σ H p⟩
open PySem PySem.Spec PyProof.Rows
abbrev R2:=V->V->Hp->VK->Prop
def OpR(X:Cx)(f:Value->Value->Sem Value)(r:R2):Prop :=
 ∀(pins:List (Addr×Obj)) (s:Shared) (σ:St) (H:Hp) (x y:V) (v u:Value) (Q:VK),Inv X pins σ H s->RelV x v->RelV y u->r x y H Q ->
  wpAny (model X.prog X.w) X.A (f v u) (EP X pins σ Q) X.xe s
def UnR(X:Cx)(f:Value->Sem Value)(r:V->Hp->VK->Prop):Prop :=
 ∀(pins:List (Addr×Obj)) (s:Shared) (σ:St) (H:Hp) (x:V) (v:Value) (Q:VK),Inv X pins σ H s->RelV x v->r x H Q ->
  wpAny (model X.prog X.w) X.A (f v) (EP X pins σ Q) X.xe s
def cN(X:Cx)(f:Value)(r:List V->Hp->VK->Prop):Prop :=
 ∀(pins:List (Addr×Obj)) (s:Shared) (σ:St) (H:Hp) (xs:List V) (us:List Value) (Q:VK),Inv X pins σ H s->Vals xs us->r xs H Q ->
  wpAny (model X.prog X.w) X.A (call f us) (EP X pins σ Q) X.xe s
def tOp(r:R2)(ta tb:TE):TE:=fun σ H Q=>ta σ H fun x H1=>tb σ H1 fun y H2=>r x y H2 Q
def rI(C:Int->Int->Prop)(g:Int->Int->V):R2:=fun x y H Q=>∃i j,x=.int i/\y=.int j/\C i j/\Q (g i j) H
def rI0(g:Int->Int->V):R2:=fun x y H Q=>∃i j,x=.int i/\y=.int j/\Q (g i j) H
section
variable{X:Cx}{a b c:Expr}{ta tb tc:TE}{pos:Pos}
theorem pE(ha:PE X a ta)(hb:PE X b tb){pins:List (Addr×Obj)}{s:Shared}{σ:St}{H:Hp}{R:V->V->Hp->Prop}(I:Inv X pins σ H s)(h:ta σ H fun x H1=>tb σ H1 fun y H2=>R x y H2){Q:Value->Shared->Prop}{f:Value->Value->Sem Value}(hf:∀v u s2 x y H2,Inv X pins σ H2 s2->RelV x v->RelV y u->R x y H2->wpAny (model X.prog X.w) X.A (f v u) Q X.xe s2) :
  wpAny (model X.prog X.w) X.A (eval a X.env) (fun v s₁=>wpAny (model X.prog X.w) X.A (eval b X.env) (fun u s₂=>wpAny (model X.prog X.w) X.A (f v u) Q X.xe s₂) X.xe s₁) X.xe s:=by
 refine thn (ha pins s σ H _ I h) fun v s1 hz9=>?_;obtain⟨x,H1,I1,r1,q1⟩:=hz9;refine thn (hb pins s1 σ H1 _ I1 q1) fun u s2 hz9=>?_;obtain⟨y,H2,I2,r2,q2⟩:=hz9;exact hf v u s2 x y H2 I2 r1 r2 q2
theorem wr{op:Operator}{r:R2}(ho:OpR X (binaryOp op) r)(ha:PE X a ta)(hb:PE X b tb):PE X (.BinOp a op b pos) (tOp r ta tb):=by intro pins s σ H Q I h;exact wpAny_BinOp (pE ha hb I h fun v u s2 x y H2 I2 rx ry q=>ho pins s2 σ H2 x y v u Q I2 rx ry q)
theorem opI{f:Value->Value->Sem Value}{C:Int->Int->Prop}{g:Int->Int->Int}(rule:∀(i j:Int) (t u:Tok) (s:Shared) (Q:Value->Shared->Prop) (E:Value->Shared->Prop),C i j->Q (.int (g i j) s.toks) { s with toks:=s.toks+1 }->wpAny (model X.prog X.w) X.A (f (.int i t) (.int j u)) Q E s) :
  OpR X f (rI C fun i j=>.int (g i j)):=by
 intro pins s σ H x y v u Q I rx ry h;obtain⟨i,j,rfl,rfl,hc,q⟩:=h;obtain⟨t,rfl⟩:=rx;obtain⟨t',rfl⟩:=ry;exact rule i j t t' s _ _ hc ⟨.int (g i j),H,I.tok _,⟨_,rfl⟩,q⟩
theorem uf{f:Value->Value->Sem Value}{g:Int->Int->Int}(rule:∀(i j:Int) (t u:Tok) (s:Shared) (Q:Value->Shared->Prop) (E:Value->Shared->Prop),Q (.int (g i j) s.toks) { s with toks:=s.toks+1 }->wpAny (model X.prog X.w) X.A (f (.int i t) (.int j u)) Q E s) :
  OpR X f (rI0 fun i j=>.int (g i j)):=by
 intro pins s σ H x y v u Q I rx ry h;obtain⟨i,j,rfl,rfl,q⟩:=h;obtain⟨t,rfl⟩:=rx;obtain⟨t',rfl⟩:=ry;exact rule i j t t' s _ _ ⟨.int (g i j),H,I.tok _,⟨_,rfl⟩,q⟩
theorem ue{f:Value->Value->Sem Value}{g:Int->Int->Bool}(rule:∀(i j:Int) (t u:Tok) (s:Shared) (Q:Value->Shared->Prop) (E:Value->Shared->Prop),Q (.bool (g i j)) s->wpAny (model X.prog X.w) X.A (f (.int i t) (.int j u)) Q E s) :
  OpR X f (rI0 fun i j=>.bl (g i j)):=by
 intro pins s σ H x y v u Q I rx ry h;obtain⟨i,j,rfl,rfl,q⟩:=h;obtain⟨t,rfl⟩:=rx;obtain⟨t',rfl⟩:=ry;exact rule i j t t' s _ _ ⟨.bl (g i j),H,I,rfl,q⟩
def sR(i j:Int):Prop:=0<j/\j<1073741824
def sS(i j:Int):Prop:=0<=j/\j<=1000000/\i.natAbs<2^64
def CMul(i j:Int):Prop:=(-(2^64)<i/\i<2^64)\/(-(2^64)<j/\j<2^64)
theorem CMul.ok{i j:Int}(h:CMul i j):IntMulOk i j:=by
 rcases h with⟨h1,h2⟩|⟨h1,h2⟩
 ·exact .of_left (intBits_le_64 h1 h2)
 ·exact .of_right (intBits_le_64 h1 h2)
theorem ug:OpR X (binaryOp .Add) (rI0 fun i j=>.int (i+j)):=uf fun _ _ _ _ _ _ _ q=>add_int q
theorem um:OpR X (binaryOp .Sub) (rI0 fun i j=>.int (i-j)):=uf fun _ _ _ _ _ _ _ q=>sub_int q
theorem uk:OpR X (binaryOp .Mult) (rI CMul fun i j=>.int (i*j)):=opI fun _ _ _ _ _ _ _ hc q=>mul_int q hc.ok
theorem rU:OpR X (binaryOp .FloorDiv) (rI sR fun i j=>.int (i / j)):=opI fun i j _ _ _ _ _ hc q=>by have h1:(0:Int)<j:=hc.1;have h2:j<1073741824:=hc.2;exact floordiv_int (by omega) (by rw[Int.fdiv_eq_ediv_of_nonneg i (by omega)];exact q) (.inl (PyProof.noPylong_small (by omega)))
theorem uh:OpR X (binaryOp .Mod) (rI (fun _ j=>0<j) fun i j=>.int (i%j)):=opI fun i j _ _ _ _ _ hc q=>by have h1:(0:Int)<j:=hc;exact mod_int' (by omega) (by rw[Int.fmod_eq_emod_of_nonneg i (by omega)];exact q)
theorem ul:OpR X (binaryOp .Pow) (rI sS fun i j=>.int (i^j.toNat)):=opI fun _ _ _ _ _ _ _ hc q=>pow_int_small hc.1 hc.2.1 hc.2.2 q
end
def vd:V->V->Bool
 |.non,.non=>true|.non,.int _=>true|.int _,.non=>true|.non,.bl _=>true|.bl _,.non=>true|.non,.str _=>true|.str _,.non=>true
 |.int _,.int _=>true|.bl _,.bl _=>true|.str _,.str _=>true|.byt _,.byt _=>true
 |.int _,.str _=>true|.str _,.int _=>true|.bl _,.str _=>true|.str _,.bl _=>true
 |_,_=>false
def rEq:R2:=fun x y H Q=>vd x y=true/\Q (.bl (decide (x=y))) H
def rNe:R2:=fun x y H Q=>vd x y=true/\Q (.bl (!decide (x=y))) H
theorem kR{i j:Int}:decide (V.int i=V.int j)=(i==j):=by rw[Bool.eq_iff_iff];simp
theorem ng{i j:Bool}:decide (V.bl i=V.bl j)=(i==j):=by rw[Bool.eq_iff_iff];simp
theorem kT{i j:Str}:decide (V.str i=V.str j)=(i==j):=by rw[Bool.eq_iff_iff];simp
theorem kQ{i j:Array UInt8}:decide (V.byt i=V.byt j)=(i.toList==j.toList):=by rw[Bool.eq_iff_iff];cases i;cases j;simp
section
variable{X:Cx}{a b c:Expr}{ta tb tc:TE}{pos:Pos}
theorem aA{pins:List (Addr×Obj)}{σ:St}{H:Hp}{s:Shared}{Q:VK}{k k':Bool}(I:Inv X pins σ H s)(q:Q (.bl k) H)(e:k=k'):EP X pins σ Q (.bool k') s:=by subst e;exact⟨.bl k,H,I,rfl,q⟩
theorem vZ:OpR X (compareOp .Eq) rEq:=by
 intro pins s σ H x y v u Q I rx ry h;obtain⟨hs,q⟩:=h;cases x with
 |non =>
  cases rx;cases y with
  |non=>cases ry;exact PySem.EqNone.eq_none_none (aA I q (by simp))
  |bl j=>cases ry;exact PySem.EqNone.eq_none_bool (aA I q (by simp))
  |int j=>obtain⟨t',rfl⟩:=ry;exact PySem.EqNone.eq_none_int (aA I q (by simp))
  |str j=>obtain⟨t',rfl⟩:=ry;exact PySem.EqNone.eq_none_str (aA I q (by simp))
  |_=>exact absurd (show false=true from hs) zo
 |bl i =>
  cases rx;cases y with
  |non=>cases ry;exact PySem.EqNone.eq_bool_none (aA I q (by simp))
  |bl j=>cases ry;exact eq_bool (aA I q ng)
  |str j=>obtain⟨t',rfl⟩:=ry;exact PySem.EqMixed.eq_bool_str (aA I q (by simp))
  |_=>exact absurd (show false=true from hs) zo
 |int i =>
  obtain⟨t,rfl⟩:=rx;cases y with
  |non=>cases ry;exact PySem.EqNone.eq_int_none (aA I q (by simp))
  |int j=>obtain⟨t',rfl⟩:=ry;exact eq_int (aA I q kR)
  |str j=>obtain⟨t',rfl⟩:=ry;exact PySem.EqMixed.eq_int_str (aA I q (by simp))
  |_=>exact absurd (show false=true from hs) zo
 |str i =>
  obtain⟨t,rfl⟩:=rx;cases y with
  |non=>cases ry;exact PySem.EqNone.eq_str_none (aA I q (by simp))
  |bl j=>cases ry;exact PySem.EqMixed.eq_str_bool (aA I q (by simp))
  |int j=>obtain⟨t',rfl⟩:=ry;exact PySem.EqMixed.eq_str_int (aA I q (by simp))
  |str j=>obtain⟨t',rfl⟩:=ry;exact eq_str (aA I q kT)
  |_=>exact absurd (show false=true from hs) zo
 |byt i =>
  obtain⟨t,rfl⟩:=rx;cases y with
  |byt j=>obtain⟨t',rfl⟩:=ry;exact PySem.W.eq_bytes (aA I q kQ)
  |_=>exact absurd (show false=true from hs) zo
 |_=>cases y<;>exact absurd (show false=true from hs) zo
theorem wg:OpR X (compareOp .NotEq) rNe:=by
 intro pins s σ H x y v u Q I rx ry h;obtain⟨hs,q⟩:=h;cases x with
 |non =>
  cases rx;cases y with
  |non=>cases ry;exact PySem.EqNone.ne_none_none (aA I q (by simp))
  |bl j=>cases ry;exact PySem.EqNone.ne_none_bool (aA I q (by simp))
  |int j=>obtain⟨t',rfl⟩:=ry;exact PySem.EqNone.ne_none_int (aA I q (by simp))
  |str j=>obtain⟨t',rfl⟩:=ry;exact PySem.EqNone.ne_none_str (aA I q (by simp))
  |_=>exact absurd (show false=true from hs) zo
 |bl i =>
  cases rx;cases y with
  |non=>cases ry;exact PySem.EqNone.ne_bool_none (aA I q (by simp))
  |bl j=>cases ry;exact ne_bool (aA I q (ZF not ng))
  |str j=>obtain⟨t',rfl⟩:=ry;exact PySem.EqMixed.ne_bool_str (aA I q (by simp))
  |_=>exact absurd (show false=true from hs) zo
 |int i =>
  obtain⟨t,rfl⟩:=rx;cases y with
  |non=>cases ry;exact PySem.EqNone.ne_int_none (aA I q (by simp))
  |int j=>obtain⟨t',rfl⟩:=ry;exact ne_int (aA I q (ZF not kR))
  |str j=>obtain⟨t',rfl⟩:=ry;exact PySem.EqMixed.ne_int_str (aA I q (by simp))
  |_=>exact absurd (show false=true from hs) zo
 |str i =>
  obtain⟨t,rfl⟩:=rx;cases y with
  |non=>cases ry;exact PySem.EqNone.ne_str_none (aA I q (by simp))
  |bl j=>cases ry;exact PySem.EqMixed.ne_str_bool (aA I q (by simp))
  |int j=>obtain⟨t',rfl⟩:=ry;exact PySem.EqMixed.ne_str_int (aA I q (by simp))
  |str j=>obtain⟨t',rfl⟩:=ry;exact ne_str (aA I q (ZF not kT))
  |_=>exact absurd (show false=true from hs) zo
 |byt i =>
  obtain⟨t,rfl⟩:=rx;cases y with
  |byt j=>obtain⟨t',rfl⟩:=ry;exact PySem.W.ne_bytes (aA I q (ZF not kQ))
  |_=>exact absurd (show false=true from hs) zo
 |_=>cases y<;>exact absurd (show false=true from hs) zo
theorem wf:OpR X (compareOp .Lt) (rI0 fun i j=>.bl (decide (i<j))):=ue fun _ _ _ _ _ _ _ q=>lt_int q
theorem wa:OpR X (compareOp .Gt) (rI0 fun i j=>.bl (decide (j<i))):=ue fun _ _ _ _ _ _ _ q=>gt_int q
theorem rV:OpR X (compareOp .IsNot) (fun x y H Q=>y=.non/\Q (.bl (!decide (x=.non))) H):=by
 intro pins s σ H x y v u Q I rx ry h;obtain⟨rfl,q⟩:=h;cases ry;refine isnot_none_gen (aA I q ?_);cases x<;>first
  |(cases rx;rfl)
  |(obtain⟨t,rfl⟩:=rx;rfl)
theorem nS(b:Expr){op:CmpOp}(h:op≠.In:=by decide)(h2:op≠.NotIn:=by decide):behindInMarks op b=false:=by
 have e1:(op==CmpOp.In)=false:=by cases op<;>first|rfl|exact absurd rfl h
 have e2:(op==CmpOp.NotIn)=false:=by cases op<;>first|rfl|exact absurd rfl h2
 cases b<;>simp[behindInMarks,e1,e2]
theorem rZ{op:CmpOp}{r:R2}(ho:OpR X (compareOp op) r)(ha:PE X a ta)(hb:PE X b tb)(hm:behindInMarks op b=false):PE X (.Compare a [op] [b] pos) (tOp r ta tb):=by intro pins s σ H Q I h;exact wpAny_Compare1 (pE ha hb I h fun v u s2 x y H2 I2 rx ry q=>ho pins s2 σ H2 x y v u Q I2 rx ry q) hm
def rn(t:TE):TT:=fun σ H Q=>t σ H fun x H'=>∃k,x=.bl k/\Q k H'
theorem sC{op:CmpOp}{r:R2}(ho:OpR X (compareOp op) r)(ha:PE X a ta)(hb:PE X b tb)(hm:behindInMarks op b=false):PT X (.Compare a [op] [b] pos) (rn (tOp r ta tb)):=by
 intro pins s σ H Q I h;refine wpAny_isTrue_Compare1 (thn (ha pins s σ H _ I h) fun v s1 ⟨x,H1,I1,r1,q1⟩=>thn (hb pins s1 σ H1 _ I1 q1) fun u s2 ⟨y,H2,I2,r2,q2⟩ =>
  thn (ho pins s2 σ H2 x y v u _ I2 r1 r2 q2) fun c s3 ⟨z,H3,I3,r3,k,e,q3⟩=>?_) hm
 subst e;cases r3;exact wpAny_truthy_bool ⟨H3,I3,q3⟩
theorem gR:(sizeLine:Nat)<2^63:=by rw[sizeLine_eq];decide
theorem mx:OpR X (binaryOp .Add) (fun x y H Q=>∃i j,x=.str i/\y=.str j/\i.length+j.length<=sizeLine/\Q (.str (i++j)) H):=by intro pins s σ H x y v u Q I rx ry h;obtain⟨i,j,rfl,rfl,hz,q⟩:=h;obtain⟨t,rfl⟩:=rx;obtain⟨t',rfl⟩:=ry;exact add_str (fun t' tk=>⟨.str (i++j),H,I.tok _,⟨_,rfl⟩,q⟩) hz
theorem fJ{x:V}{us:List Value}(r:Vals [x] us):∃u,us=[u]/\RelV x u:=by
 cases r with
 |cons r1 r2=>cases r2;exact⟨_,rfl,r1⟩
theorem mJ{x y:V}{us:List Value}(r:Vals [x,y] us):∃u w',us=[u,w']/\RelV x u/\RelV y w':=by
 cases r with
 |cons r1 r2 =>
  cases r2 with
  |cons r3 r4=>cases r4;exact⟨_,_,rfl,r1,r3⟩
theorem mQ(hc:X.calm=true):cN X (.builtin "max") (fun xs H Q=>∃i j,xs=[.int i,.int j]/\Q (.int (if j>i then j else i)) H):=by
 intro pins s σ H xs us Q I r h;obtain⟨i,j,rfl,q⟩:=h;obtain⟨u,w',rfl,⟨t,rfl⟩,⟨t',rfl⟩⟩:=mJ r;refine max_two_ints (I.ok.hd hc) fun h' tk k=>⟨_,H,I.kept k,?_,q⟩
 by_cases hj:j>i
 ·rw[if_pos hj,if_pos hj];exact⟨_,rfl⟩
 ·rw[if_neg hj,if_neg hj];exact⟨_,rfl⟩
end
open PySem PySem.Spec PyProof.Rows
structure ObjM(h:Heap)(x dx C:Addr)(mA:Str->Option Value):Prop where
 obj:h.get? x=some (PySem.W.instObj C dx)
 ns:h.Ns1 dx mA
 ne:dx≠x
theorem nM{h:Heap}{dx:Addr}{mA:Str->Option Value}(n:h.Ns1 dx mA):∃od,h.get? dx=some od/\∀name,PySem.W.lookIn name od=some (mA name):=by
 obtain⟨o,es,ep,ho,hd,hk,_,hm⟩:=n;refine⟨o,ho,fun name=>?_⟩;have e:=hm name;unfold nsFind findBy at e;rw[<-Array.find?_toList]at e;unfold PySem.W.lookIn;rw[hd];dsimp only;split
 ·rename_i y q;rw[q]at e;exact ZF some e
 ·rename_i q;rw[q]at e;have a:es.toList.any (·.refKey)=false:=by rw[List.any_eq_false];intro y hy;obtain⟨z,t,hkey⟩:=hk y (Array.mem_toList_iff.mp hy);simp[DictEntry.refKey,hkey]
  have a':¬es.toList.any (·.refKey)=true:=by rw[a];exact zo
  rw[if_neg a'];exact ZF some e
theorem ObjM.look{h:Heap}{x dx C:Addr}{mA:Str->Option Value}(I:ObjM h x dx C mA):∃od,PySem.W.InstAt h x (PySem.W.instObj C dx) C (some od)/\∀name,PySem.W.lookIn name od=some (mA name) :=
 let⟨od,ho,hl⟩:=nM I.ns
 ⟨od,⟨I.obj,rfl,rfl,ho⟩,hl⟩
section
variable{prog:Program}{w:World}{A:Around}{E:Value->Shared->Prop}{s:Shared}{K:PySem.W.Frag}{x dx C f:Addr}{mA:Str->Option Value}{name:Str}{v:Value}
theorem rG{expr:Bool}{Q:Value->Shared->Prop}(X:K.In s.heap)(I:ObjM s.heap x dx C mA)(hg:PySem.W.plainGet K C name=true)(hh:PySem.W.hasDictIn K C=true)(ha:PySem.W.findIn K (.ref C) name=some none)(hv:mA name=some v)(hv':PySem.W.handedIn v=true)(h:Q v { s with toks:=s.toks+1 }) :
  wpAny (model prog w) A (getAttr (.ref x) name expr) Q E s:=by
 obtain⟨od,J,hl⟩:=I.look;exact PySem.W.get_value X J (PySem.W.plainGet_of hg).1 (PySem.W.findObj_own hh ha rfl (by rw[hl,hv])) hv' h
theorem pO{pl:Sem Bool}{Q:Value×List Value->Shared->Prop}(X:K.In s.heap)(I:ObjM s.heap x dx C mA)(hg:PySem.W.plainGet K C name=true)(hf:PySem.W.findIn K (.ref C) name=some (some (.ref f)))(ht:PySem.W.isFn K (.ref f)=true)(hv:mA name=none)(h:Q (.ref f,[.ref x]) s) :
  wpAny (model prog w) A (getMethod (.ref x) name pl) Q E s:=by
 obtain⟨od,J,hl⟩:=I.look;exact PySem.W.method_fn X J (PySem.W.plainGet_of hg).1 (PySem.W.plainGet_of hg).2 hf (ZK.mp ht) (by show(PySem.W.lookIn name od).map (·.isSome)=some false;rw[hl,hv];rfl) h
theorem sH{ns:List Str}{Q:Unit->Shared->Prop}(X:K.In s.heap)(I:ObjM s.heap x dx C mA)(hs:PySem.W.findIn K (.ref C) "__setattr__" = some (some (.builtin "object.__setattr__")))(hp:PySem.W.plainOver K C=true)(ht:PySem.W.takerIn K C name=some none)(hh:PySem.W.hasDictIn K C=true)(hw:PySem.Within mA ns)(hsz:ns.length<=sizeLine)(h:∀h',ObjM h' x dx C (fun y=>if y=name then some v else mA y)->Heap.SameBut dx s.heap h'->Q () { s with heap:=h',toks:=s.toks+2 }) :
  wpAny (model prog w) A (setAttr (.ref x) name v) Q E s:=by
 obtain⟨od,J,hl⟩:=I.look;refine PySem.W.set_plain X J hs (PySem.W.osa_open (s:={ s with toks:=s.toks+1 }) (r:=none) X J hp ht fun b=>?_);obtain⟨cd,hc,hd'⟩:=PySem.W.any_some hh;have hx:s.heap.get? x=some ⟨.ref C,some dx,.plain,#[]⟩:=I.obj;refine zd (zi (zd (zd (wpAny_loadPart hx (zd (PySem.W.Looks.here (s:={ s with toks:=s.toks+1 }) (PySem.W.looks_clsIn X hc) ?_))))));rw[hd'];refine zi (a:=some dx) (zd (zi (zd ?_)));refine wpAny_nsSet1 (s:={ s with toks:=s.toks+1 }) I.ns fun h' hn2 hs2=>?_;obtain⟨oD,esD,epD,hoD,hdD,hcD⟩:=hn2.count (PySem.Within.cons name v hw);refine zd (wpAny_lookBehind hoD (by rw[hdD];exact pastItsLine_dict (zS hcD (by rw[Zs];omega))) ?_);exact zi (h _ ⟨(hs2.2 _ (Ne.symm I.ne)).trans I.obj,hn2,I.ne⟩ hs2)
theorem pZ{R:Result->Shared->Prop}{vs:List Value}{kw:List (Str×Value)}(X:K.In s.heap)(hm:PySem.W.makesIn K C=true)(hi:PySem.W.findIn K (.ref C) "__init__" = some (some (.ref f)))(hf:PySem.W.typeIn K (.ref f)=some (.type "function"))(h:codeAny (model prog w) (A.under (.builtin "type.__call__" ⟨.ref C::vs,kw⟩)) (.call (.ref f) ⟨.ref (s.heap.objs.size+1)::vs,kw⟩) (PySem.W.InitBack (s.heap.objs.size+1) R)
   { s with heap:=(s.heap.push PySem.W.emptyDict).push (PySem.W.instObj C s.heap.objs.size) }) :
  codeAny (model prog w) A (.call (.ref C) ⟨vs,kw⟩) R s:=by
 obtain⟨hh,g,d,t,os⟩:=s;exact PySem.W.make_core (PySem.W.makes_of X hm) (PySem.W.looks_findIn X hi) (fun self=>PySem.W.bind_fn X self hf) (.inl rfl) h
end
def bI(f:Str)(v:V):List (Str×V)->List (Str×V)
 | []=>[(f,v)]
 |(g,x)::r=>if g=f then(g,v)::r else(g,x)::bI f v r
theorem bH(f g:Str)(v:V):∀fs:List (Str×V),(bI f v fs).lookup g=if g=f then some v else fs.lookup g
 | []=>by
  show List.lookup g [(f,v)]=_;by_cases h:g=f
  ·have hb:(g==f)=true:=ZK.mpr h;simp only[List.lookup,hb,if_pos h]
  ·have hb:(g==f)=false:=beq_eq_false_iff_ne.mpr h;simp only[List.lookup,hb,if_neg h]
 |(k,x)::r=>by
  have ih:=bH f g v r;rw[show bI f v ((k,x)::r)=(if k=f then(k,v)::r else(k,x)::bI f v r)from rfl];by_cases hk:k=f
  ·rw[if_pos hk];by_cases h:g=k
   ·have hb:(g==k)=true:=ZK.mpr h;simp only[List.lookup,hb,if_pos (h.trans hk)]
   ·have hb:(g==k)=false:=beq_eq_false_iff_ne.mpr h;simp only[List.lookup,hb,if_neg (fun e:g=f=>h (e.trans hk.symm))]
  ·rw[if_neg hk];by_cases h:g=k
   ·have hb:(g==k)=true:=ZK.mpr h;simp only[List.lookup,hb,if_neg (fun e:g=f=>hk (h.symm.trans e))]
   ·have hb:(g==k)=false:=beq_eq_false_iff_ne.mpr h;simp only[List.lookup,hb];exact ih
theorem eM(f:Str)(v:V):∀fs:List (Str×V),f∈(bI f v fs).map (·.1)/\∀g,g∈fs.map (·.1)->g∈(bI f v fs).map (·.1)
 | []=>⟨by simp[bI],fun g h=>by simp at h⟩
 |(k,x)::r=>by
  obtain⟨i1,i2⟩:=eM f v r;rw[show bI f v ((k,x)::r)=(if k=f then(k,v)::r else(k,x)::bI f v r)from rfl];by_cases hk:k=f
  ·rw[if_pos hk];subst hk;exact⟨by simp,fun g h=>by simpa using h⟩
  ·rw[if_neg hk];refine⟨?_,fun g h=>?_⟩
   ·rw[zn];exact zP _ i1
   ·rw[zn]at h ⊢;rcases zD.mp h with e|e
    ·exact zD.mpr (.inl e)
    ·exact zP _ (i2 g e)
theorem fR(f:Str)(v:V):∀fs:List (Str×V),(bI f v fs).length<=fs.length+1
 | []=>by simp[bI]
 |(k,x)::r=>by
  have ih:=fR f v r;rw[show bI f v ((k,x)::r)=(if k=f then(k,v)::r else(k,x)::bI f v r)from rfl];by_cases hk:k=f
  ·rw[if_pos hk,Zs,Zs];omega
  ·rw[if_neg hk,Zs,Zs];omega
theorem RelO.some_of{v:V}{o:Option Value}(r:RelO (some v) o):∃u,o=some u/\RelV v u:=by
 cases o with
 |none=>exact(show False from r).elim
 |some u=>exact⟨u,rfl,r⟩
theorem RelO.none_of{o:Option Value}(r:RelO none o):o=none:=by
 cases o with
 |none=>rfl
 |some u=>exact(show False from r).elim
theorem nB{v:V}{u:Value}(r:RelV v u):PySem.W.handedIn u=true:=by
 cases v with
 |non=>cases(show u=Value.none from r);rfl
 |bl b=>cases(show u=Value.bool b from r);rfl
 |int i=>obtain⟨t,e⟩:=(show∃t,u=Value.int i t from r);cases e;rfl
 |str x=>obtain⟨t,e⟩:=(show∃t,u=Value.str x t from r);cases e;rfl
 |byt b=>obtain⟨t,e⟩:=(show∃t,u=Value.bytes b t from r);cases e;rfl
 |flt b=>obtain⟨t,e⟩:=(show∃t,u=Value.float b t from r);cases e;rfl
 |ref a=>cases(show u=Value.ref a from r);rfl
 |ty n=>cases(show u=Value.type n from r);rfl
section
variable{P:Program}{w:World}{H H':Hp}{h h':Heap}{a C dx:Addr}{fs fs':List (Str×V)}
theorem fu(hok:HOk P w H h)(e:H a=some (.ins C dx fs)):∃mA,ObjM h a dx C mA/\(∀f,RelO (fs.lookup f) (mA f))/\PySem.Within mA (fs.map (·.1))/\fs.length<=1000/\H dx=some (.own a):=by
 obtain⟨d,z,ne,ob,mA,n,r,q⟩:=(show ObjOk P w H h a (.ins C dx fs)from hok a _ e)
 exact⟨mA,⟨ob,n,ne⟩,r,q,z,d⟩
end
structure Cls(K:PySem.W.Frag)(C:Addr):Prop where
 pg:PySem.W.plainGet K C Str.empty=true
 hd:PySem.W.hasDictIn K C=true
 po:PySem.W.plainOver K C=true
 sa:PySem.W.findIn K (.ref C) "__setattr__" = some (some (.builtin "object.__setattr__"))
theorem Cls.get{K:PySem.W.Frag}{C:Addr}(c:Cls K C)(f:Str):PySem.W.plainGet K C f=true:=c.pg
def NoAttr(K:PySem.W.Frag)(C:Addr)(f:Str):Prop:=PySem.W.findIn K (.ref C) f=some none
theorem NoAttr.taker{K:PySem.W.Frag}{C:Addr}{f:Str}(n:NoAttr K C f):PySem.W.takerIn K C f=some none:=by unfold PySem.W.takerIn;rw[show PySem.W.findIn K (.ref C) f=some none from n];rfl
structure Con(K:PySem.W.Frag)(C:Addr)(f:Str)(v:V)(u:Value):Prop where
 at_:PySem.W.findIn K (.ref C) f=some (some u)
 rel:RelV v u
 get:PySem.W.specialIn K u "__get__" = some none
 cp:PySem.W.copiedNames.contains f=false
structure Meth(K:PySem.W.Frag)(C:Addr)(m:Str)(f:Addr):Prop where
 at_:PySem.W.findIn K (.ref C) m=some (some (.ref f))
 fn:PySem.W.isFn K (.ref f)=true
 kp:PySem.W.keepIn K (.ref f)=true
section
variable{X:Cx}{pins:List (Addr×Obj)}{σ:St}{H:Hp}{s:Shared}{a C dx:Addr}{fs:List (Str×V)}{f:Str}{v:V}{A:Around}{E:Value->Shared->Prop}
theorem lW{b:Bool}{Q:Value->Shared->Prop}(I:Inv X pins σ H s)(e:H a=some (.ins C dx fs))(c:Cls X.K C)(n:NoAttr X.K C f)(l:fs.lookup f=some v)(h:∀u s',Inv X pins σ H s'->RelV v u->Q u s'):wpAny (model X.prog X.w) A (getAttr (.ref a) f b) Q E s:=by obtain⟨mA,O,r,_,_,_⟩:=fu I.hok e;obtain⟨u,hu,ru⟩:=RelO.some_of (v:=v) (o:=mA f) (by rw[<-l];exact r f);exact rG I.kIn O (c.get f) c.hd n hu (nB ru) (h u _ (I.tok _) ru)
theorem gL{m:Str}{g:Addr}{pl:Sem Bool}{Q:Value×List Value->Shared->Prop}(I:Inv X pins σ H s)(e:H a=some (.ins C dx fs))(c:Cls X.K C)(k:Meth X.K C m g)(l:fs.lookup m=none)(h:Q (.ref g,[.ref a]) s):wpAny (model X.prog X.w) A (getMethod (.ref a) m pl) Q E s:=by obtain⟨mA,O,r,_,_,_⟩:=fu I.hok e;have hn:mA m=none:=RelO.none_of (by rw[<-l];exact r m);exact pO I.kIn O (c.get m) k.at_ k.fn hn h
theorem mG{y:V}{u:Value}{Q:Unit->Shared->Prop}(I:Inv X pins σ H s)(e:H a=some (.ins C dx fs))(c:Cls X.K C)(n:NoAttr X.K C f)(hl:fs.length<1000)(ry:RelV y u)(h:∀s',Inv X pins σ (upd H a (.ins C dx (bI f y fs))) s'->Q () s'):wpAny (model X.prog X.w) A (setAttr (.ref a) f u) Q E s:=by
 obtain⟨mA,O,r,wi,_,ho⟩:=fu I.hok e;have hz:(fs.map (·.1)).length<=sizeLine:=by rw[zr,sizeLine_eq];omega
 refine sH I.kIn O c.sa c.po n.taker c.hd wi hz fun h' O' sb=>h _ ?_;have hd:∃o,h'.get? dx=some o:=let⟨o,_,_,e',_⟩:=O'.ns;⟨o,e'⟩
 refine I.write (x:=a) (e:=dx) (by rw[e];exact True.intro) (.inr ho) (fun b q hb z=>(sb.2 b hb).trans z) hd ?_;refine⟨by rw[af O.ne];exact ho,?_,O.ne,O'.obj,_,O'.ns,fun g=>?_,fun g hg=>?_⟩
 ·have:=fR f y fs;omega
 ·show RelO ((bI f y fs).lookup g) (if g=f then some u else mA g);rw[bH];by_cases q:g=f
  ·rw[if_pos q,if_pos q];exact ry
  ·rw[if_neg q,if_neg q];exact r g
 ·by_cases q:g=f
  ·rw[q];exact(eM f y fs).1
  ·refine(eM f y fs).2 g (wi g fun z=>hg ?_);show(if g=f then some u else mA g)=none;rw[if_neg q];exact z
theorem Inv.made(I:Inv X pins σ H s):Inv X pins σ (upd (upd H s.heap.objs.size (.own (s.heap.objs.size+1))) (s.heap.objs.size+1) (.ins C s.heap.objs.size []))
  { s with heap:=(s.heap.push PySem.W.emptyDict).push (PySem.W.instObj C s.heap.objs.size) }:=by
 have e1:(s.heap.push PySem.W.emptyDict).get? s.heap.objs.size=some PySem.W.emptyDict:=zw s.heap rfl;have e2:((s.heap.push PySem.W.emptyDict).push (PySem.W.instObj C s.heap.objs.size)).get? (s.heap.objs.size+1)=some (PySem.W.instObj C s.heap.objs.size):=by
  have:=zw (s.heap.push PySem.W.emptyDict) (o:=PySem.W.instObj C s.heap.objs.size) rfl
  rwa [Heap.size_push]at this
 have e3:(s.heap.push PySem.W.emptyDict).Ns s.heap.objs.size (fun _=>none):=⟨PySem.W.emptyDict,#[],_,e1,rfl,(fun e he=>absurd he (by simp)),fun _=>rfl⟩
 have I1:=I.laid (a:=s.heap.objs.size) (o:=.own (s.heap.objs.size+1)) (h':=s.heap.push PySem.W.emptyDict) (t':=s.toks) (fun b u q=>ze _ q) (zh _) ⟨_,e1⟩;refine I1.laid (a:=s.heap.objs.size+1) (o:=.ins C s.heap.objs.size []) (t':=s.toks) (fun b u q=>ze _ q) (Nat.le_of_eq (Heap.size_push _ _)) ?_;have ne:s.heap.objs.size≠s.heap.objs.size+1:=zJ (Nat.lt_succ_self _);refine⟨by rw[af ne,ae],zR _,ne,e2,fun _=>none,(Heap.Ns1.of_empty e3).at fun o q=>ze _ q,fun _=>True.intro,fun y hy=>absurd rfl hy⟩
theorem rC{prog:Program}{w:World}{env:Env}{e:Expr}{f:Str}{pos:Pos}{s:Shared}{Q:Value->Shared->Prop}(hb:attributeBase e f env (eval e env)=eval e env)(h:wpAny (model prog w) A (eval e env) (fun o s₁=>wpAny (model prog w) A (getAttr o f true) Q E s₁) E s):wpAny (model prog w) A (eval (.Attribute e f pos) env) Q E s :=
 Attribute_any_ h (by rw[arm_eval_Attribute,hb])
end
def vn(K:PySem.W.Frag)(ta:TE)(f:Str):TE:=fun σ H Q=>ta σ H fun x H1=>∃a C dx fs v,x=.ref a/\H1 a=some (.ins C dx fs)/\Cls K C/\NoAttr K C f/\fs.lookup f=some v/\Q v H1
def uY(K:PySem.W.Frag)(ta tv:TE)(f:Str):TS:=fun D σ H=>tv σ H fun y H1=>ta σ H1 fun x H2=>∃a C dx fs,x=.ref a/\H2 a=some (.ins C dx fs)/\Cls K C/\NoAttr K C f/\fs.length<1000 /\
 D.nx σ (upd H2 a (.ins C dx (bI f y fs)))
section
variable{X:Cx}{o e value:Expr}{f:Str}{pos pos' tpos:Pos}{ta tv:TE}
theorem ur(he:PE X e ta)(hb:attributeBase e f X.env (eval e X.env)=eval e X.env):PE X (.Attribute e f pos) (vn X.K ta f):=by intro pins s σ H Q I h;refine rC hb (thn (he pins s σ H _ I h) fun u s1 hz9=>?_);obtain⟨x,H1,I1,rx,a,C,dx,fs,v,ex,ea,c,n,l,q⟩:=hz9;subst ex;obtain rfl:u=Value.ref a:=rx;exact lW I1 ea c n l fun u' s2 I2 ru=>⟨v,H1,I2,ru,q⟩
theorem uI(ha:PE X o ta)(hv:PE X value tv)(hs:swapsWith value (some (.Attribute o f pos')) pos.line X.env=pure false):PS X (.Assign [.Attribute o f pos'] value pos) (uY X.K ta tv f):=by intro pins s σ H D I h;refine plainObj_wpAny_Assign_Attribute (thn (hv pins s σ H _ I h) fun u s1 ⟨y,H1,I1,ry,q⟩=>thn (ha pins s1 σ H1 _ I1 q) fun ov s2 hz9=>?_) hs;obtain⟨x,H2,I2,rx,a,C,dx,fs,ex,ea,c,n,l,q2⟩:=hz9;subst ex;obtain rfl:ov=Value.ref a:=rx;exact mG I2 ea c n l ry fun s3 I3=>⟨σ,_,I3,q2⟩
end
section
variable{X:Cx}{pins:List (Addr×Obj)}{σ:St}{H:Hp}{s:Shared}{A:Around}{E:Value->Shared->Prop}{Q:Value->Shared->Prop}{c:Value}{b:Bool}
inductive TyOf(K:PySem.W.Frag)(H:Hp):V->Value->Prop where
 |non:TyOf K H .non (.type "NoneType")
 |bl (x:Bool):TyOf K H (.bl x) (.type "bool")
 |int (i:Int):TyOf K H (.int i) (.type "int")
 |str (x:Str):TyOf K H (.str x) (.type "str")
 |flt (x:UInt64):TyOf K H (.flt x) (.type "float")
 |lst {a:Addr} {xs:List V} (e:H a=some (.lst xs)):TyOf K H (.ref a) (.type "list")
 |frz {a:Addr} {o:Obj} {xs:List V} (e:H a=some (.frz o (.lst xs))):TyOf K H (.ref a) (.type "list")
 |tup {a:Addr} {xs:List V} (e:H a=some (.tup xs)):TyOf K H (.ref a) (.type "tuple")
 |dK {a:Addr} {kvs:List (Key×V)} (e:H a=some (.dK kvs)):TyOf K H (.ref a) (.type "dict")
 |dT {a:Addr} {kvs:List (List Key×V)} (e:H a=some (.dT kvs)):TyOf K H (.ref a) (.type "dict")
 |ins {a C dx:Addr} {fs:List (Str×V)} (e:H a=some (.ins C dx fs)) (cl:Cls K C) (ha:PySem.W.findIn K (.ref C) "__class__" = some (some (.builtin "object.__class__")))
   (hn:PySem.W.specialIn K (.builtin "object.__class__") "__get__" = some (some (.builtin "getset_descriptor.__get__"))) (htk:PySem.W.takesIn K (.builtin "object.__class__")=some true)
   (hm:PySem.W.mroIn K C (.type "object")=some true):TyOf K H (.ref a) (.ref C)
theorem nG{x:V}{u t:Value}(I:Inv X pins σ H s)(rx:RelV x u)(ty:TyOf X.K H x t)(e:PySem.W.kitOne X.K t c=some b)(h:∀tk,Q (.bool b) { s with toks:=tk }) :
  wpAny (model X.prog X.w) A (call (.builtin "isinstance") [u,c]) Q E s:=by
 cases ty with
 |non=>cases(show u=Value.none from rx);exact Zq PySem.W.kitx_none I.kIn True.intro e (fun z=>nomatch z) h
 |bl y=>cases(show u=Value.bool y from rx);exact Zq PySem.W.kitx_bool I.kIn True.intro e (fun z=>nomatch z) h
 |int i=>obtain⟨t,q⟩:=(show∃t,u=Value.int i t from rx);cases q;exact Zq PySem.W.kitx_int I.kIn True.intro e (fun z=>nomatch z) h
 |str y=>obtain⟨t,q⟩:=(show∃t,u=Value.str y t from rx);cases q;exact Zq PySem.W.kitx_str I.kIn True.intro e (fun z=>nomatch z) h
 |flt y=>obtain⟨t,q⟩:=(show∃t,u=Value.float y t from rx);cases q;exact Zq PySem.W.kitx_float I.kIn True.intro e (fun z=>nomatch z) h
 |@lst a xs ea =>
  cases(show u=Value.ref a from rx);obtain⟨_,_,n,_,h1⟩:=(show ObjOk X.prog X.w H s.heap a (.lst xs)from I.hok a _ ea)
  exact Zq PySem.W.kitx_list I.kIn ⟨_,h1,rfl⟩ e (fun z=>nomatch z) h
 |@frz a ob xs ea =>
  cases(show u=Value.ref a from rx);obtain⟨_,_,_,n,_,h1⟩:=(show ObjOk X.prog X.w H s.heap a (.frz ob (.lst xs))from I.hok a _ ea)
  exact Zq PySem.W.kitx_list I.kIn ⟨_,h1,rfl⟩ e (fun z=>nomatch z) h
 |@tup a xs ea =>
  cases(show u=Value.ref a from rx);obtain⟨_,_,_,p⟩:=(show ObjOk X.prog X.w H s.heap a (.tup xs)from I.hok a _ ea)
  obtain⟨o,h1,h2,_⟩:=p;exact Zq PySem.W.kitx_tuple I.kIn ⟨o,h1,h2⟩ e (fun z=>nomatch z) h
 |@dK a kvs ea =>
  cases(show u=Value.ref a from rx);obtain⟨_,_,vs,_,p⟩:=(show ObjOk X.prog X.w H s.heap a (.dK kvs)from I.hok a _ ea)
  obtain⟨o,es,ep,h1,h2,_⟩:=p;exact Zq PySem.W.kitx_dict I.kIn ⟨o,h1,h2.1⟩ e (fun z=>nomatch z) h
 |@dT a kvs ea =>
  cases(show u=Value.ref a from rx);obtain⟨_,_,xs,_,o,es,ep,h1,h2,_⟩:=(show ObjOk X.prog X.w H s.heap a (.dT kvs)from I.hok a _ ea)
  exact Zq PySem.W.kitx_dict I.kIn ⟨o,h1,h2.1⟩ e (fun z=>nomatch z) h
 |@ins a C dx fs ea cl ha hn htk hm =>cases(show u=Value.ref a from rx);obtain⟨mA,O,_⟩:=fu I.hok ea;obtain⟨od,J,_⟩:=O.look;exact Zq (PySem.W.kitx_own (cl.get _) cl.hd ha hn htk hm) I.kIn J e (fun z=>nomatch z) h
end
open PySem PySem.Spec PyProof.Rows
structure Room(k:Nat)(A:Around):Prop where
 hd:A.handled=none
 dp:A.depth+3*k+5<recursionLimit
 un:A.units+16*k+200<cLine
theorem Room.mono{j k:Nat}{A:Around}(r:Room k A)(h:j<=k):Room j A:=⟨r.hd,by have:=r.dp;omega,by have:=r.un;omega⟩
theorem Room.deeper{k:Nat}{A:Around}(r:Room (k+1) A)(env:Env):Room k (A.deeper env) :=
 ⟨r.hd,by have:=r.dp;show A.depth+1+3*k+5<_;omega,by have:=r.un;show A.units+3+16*k+200<_;omega⟩
theorem mi{A:Around}{C:Addr}{us:List Value}{kw:List (Str×Value)}:(A.under (.builtin "type.__call__" ⟨.ref C::us,kw⟩)).depth=A.depth+1:=by
 first|rfl|simp[Around.under,Code.weight,Code.isCreation,Code.isGuard,Code.isCaller,Code.frames,Code.isFrame,guardIds]
theorem mj{A:Around}{C:Addr}{us:List Value}{kw:List (Str×Value)}:(A.under (.builtin "type.__call__" ⟨.ref C::us,kw⟩)).units=A.units+1:=by
 first|rfl|simp[Around.under,Code.cUnits,Code.frames,Code.isFrame]
theorem Room.make{k:Nat}{A:Around}(r:Room (k+1) A)(C:Addr)(us:List Value)(kw:List (Str×Value)):Room k (A.under (.builtin "type.__call__" ⟨.ref C::us,kw⟩)) :=
 ⟨r.hd,by have:=r.dp;rw[mi];omega,by have:=r.un;rw[mj];omega⟩
theorem Room.depth{k:Nat}{A:Around}(r:Room k A):A.depth<recursionLimit:=by have:=r.dp;omega
theorem Room.units{k:Nat}{A:Around}(r:Room k A):A.units+64<cLine:=by have:=r.un;omega
def fb:TA:=fun _ H Q=>Q [] H
def hV(ta:TE)(tr:TA):TA:=fun σ H Q=>ta σ H fun x H1=>tr σ H1 fun xs H2=>Q (x::xs) H2
section
variable{X:Cx}{e:Expr}{es:List Expr}{te:TE}{t:TA}{pos:Pos}
theorem ke:PA X [] fb:=fun _ _ _ _ H Q I h=>Calls.spliced_nil ⟨[],H,I,.nil,h⟩
theorem lq(ha:PE X e te)(hr:PA X es t)(hs:starEach (e::es) X.env=(false,eval e X.env)::starEach es X.env:=by rfl):PA X (e::es) (hV te t):=by intro pos pins s σ H Q I h;rw[hs];show wpAny _ _ (spliced ((false,eval e X.env)::backTo pos (starEach es X.env))) _ _ s;refine Calls.spliced_cons (thn (ha pins s σ H _ I h) fun u s1 hz9=>?_);obtain⟨x,H1,I1,r1,q1⟩:=hz9;exact thn (hr pos pins s1 σ H1 _ I1 q1) fun us s2 ⟨xs,H2,I2,r2,q2⟩=>⟨x::xs,H2,I2,.cons r1 r2,q2⟩
def vx(t:TA):TE:=fun σ H Q=>t σ H fun xs H1=>xs.length<=sizeLine/\∀p,H1 p=none->Q (.ref p) (upd H1 p (.tup xs))
def vq(t:TA):TE:=fun σ H Q=>t σ H fun xs H1=>xs.length<=sizeLine/\∀p,H1 p=none->Q (.ref p) (upd H1 p (.lst xs))
theorem uB{x1}(h:PA X es t):PE X (.Tuple es x1 pos) (vx t):=by intro pins s σ H Q I hq;refine wpAny_Tuple_spliced (thn (h pos pins s σ H _ I hq) fun us s1 ⟨xs,H1,I1,r,z,q⟩=>⟨by rw[<-r.length];exact z,?_⟩);have hf:H1 s1.heap.objs.size=none:=I1.hok.fresh (zh _);refine⟨.ref s1.heap.objs.size,upd H1 s1.heap.objs.size (.tup xs),I1.laid (t':=s1.toks) (fun b u e=>ze _ e) (zh _) ?_,rfl,q _ hf⟩;exact⟨z,us,r,⟨_,zw _ rfl,rfl,_,rfl⟩⟩
theorem uu(h:PA X es t):PE X (.List es pos) (vq t):=by intro pins s σ H Q I hq;refine wpAny_List_spliced (thn (h pos pins s σ H _ I hq) fun us s1 ⟨xs,H1,I1,r,z,q⟩=>⟨by rw[<-r.length];exact z,?_⟩);have hf:H1 s1.heap.objs.size=none:=I1.hok.fresh (zh _);refine⟨.ref s1.heap.objs.size,upd H1 s1.heap.objs.size (.lst xs),I1.laid (t':=s1.toks) (fun b u e=>ze _ e) (zh _) ?_,rfl,q _ hf⟩;exact⟨z,us,0,r,zw _ rfl⟩
end
abbrev Sp:=List V->Hp->VK->XK->Prop
abbrev CXT:=List Env->Hp->Shared->XK->Value->Shared->Prop
structure Env0(P:Program)(w:World)(K:PySem.W.Frag)(mg:Str->Option Value)(base:Heap)(A:Around)(outer:List Env)(s:Shared)(H:Hp):Prop where
 frames:A.frames=some outer
 mod:Mod K mg base
 bs:∀b o,base.get? b=some o->s.heap.get? b=some o/\H b=none
 bsz:base.objs.size<=s.heap.objs.size
 funs:s.heap.FunFrames base outer
 frf:∀b∈frs outer,H b=none
 hok:HOk P w H s.heap
 bare:AllBare s.gens
def CE(outer:List Env)(P:Program)(w:World)(H:Hp)(s:Shared)(Q:VK)(u:Value)(s':Shared):Prop :=
 ∃v H',s'.os=s.os/\AllBare s'.gens/\Un (frs outer) [] H H' s.heap s'.heap/\HOk P w H' s'.heap/\RelV v u/\Q v H'
def CR(CX:CXT)(outer:List Env)(P:Program)(w:World)(H:Hp)(s:Shared)(Q:VK)(E:XK)(r:Result)(s':Shared):Prop :=
 match r with
 |.ok (.ret u)=>CE outer P w H s Q u s'
 |.ok _=>False
 |.error e=>CX outer H s E e s'
structure FnOk(P:Program)(w:World)(K:PySem.W.Frag)(mg:Str->Option Value)(base:Heap)(CX:CXT)(k:Nat)(f:Addr)(fd:FuncData)(ps:List Str)(sp:Sp):Prop where
 len:∀vs H Q E,sp vs H Q E->vs.length=ps.length
 run:∀(A:Around) (outer:List Env) (s:Shared) (H:Hp) (args:Args) (us:List Value) (vs:List V) (Q:VK) (E:XK),Room k A->Env0 P w K mg base A outer s H->BindsTo s fd args (ps.zip us)->Vals vs us->sp vs H Q E ->
  codeAny (model P w) A (.call (.ref f) args) (CR CX outer P w H s Q E) s
theorem Env0.make{P:Program}{w:World}{K:PySem.W.Frag}{mg:Str->Option Value}{base:Heap}{A:Around}{outer:List Env}{s:Shared}{H:Hp}(e:Env0 P w K mg base A outer s H)(C:Addr)(us:List Value)(kw:List (Str×Value)) :
  Env0 P w K mg base (A.under (.builtin "type.__call__" ⟨.ref C::us,kw⟩)) outer s H:=⟨by first|exact e.frames|(simpa[Around.under,Code.envs,Code.isFrame,pushEnvs]using e.frames),e.mod,e.bs,e.bsz,e.funs,e.frf,e.hok,e.bare⟩
section
variable{X:Cx}{pins:List (Addr×Obj)}{σ:St}{H:Hp}{s s':Shared}
theorem Inv.env0(I:Inv X pins σ H s):Env0 X.prog X.w X.K X.mg X.base X.A X.stack s H :=
 ⟨I.ok.frames,I.ok.mod,I.bs,zS I.ok.bsz I.sz,I.stack,I.stkFree,I.hok,I.bare⟩
theorem Inv.after{Q:VK}{u:Value}(I:Inv X pins σ H s)(h:CE X.stack X.prog X.w H s Q u s'):EP X pins σ Q u s':=by obtain⟨v,H',os,bare,un,hok,r,q⟩:=h;obtain⟨hh,g,d,t,os'⟩:=s';obtain rfl:os'=s.os:=os;exact⟨v,H',I.call (h':=hh) (g':=g) (d':=d) (t':=t) (ch:=[]) un hok bare (fun b z=>absurd z (by simp)),r,q⟩
end
def jp(sp:Sp)(dvs:List V)(E:XK)(t:TA):TE:=fun σ H Q=>t σ H fun vs H1=>sp (vs++dvs) H1 Q E
def jq(C:Addr)(m:Str)(sp:Sp)(dvs:List V)(E:XK)(ta:TE)(t:TA):TE:=fun σ H Q=>ta σ H fun x H1=>∃a dx fs,x=.ref a/\H1 a=some (.ins C dx fs)/\fs.lookup m=none /\
 t σ H1 fun vs H2=>sp (x::(vs++dvs)) H2 Q E
def rj(C:Addr)(sp:Sp)(dvs:List V)(E:XK)(t:TA):TE:=fun σ H Q=>t σ H fun vs H1=>∀x dx,H1 x=none->H1 dx=none->dx≠x ->
 sp (.ref x::(vs++dvs)) (upd (upd H1 dx (.own x)) x (.ins C dx [])) (fun v H2=>v=.non/\Q (.ref x) H2) E
def Binds(K:PySem.W.Frag)(fd:FuncData)(ps:List Str)(ds:List Value):Prop :=
 ∀(s:Shared) (us:List Value),K.In s.heap->(us++ds).length=ps.length->BindsTo s fd ⟨us,[]⟩ (ps.zip (us++ds))
theorem Binds.all{K:PySem.W.Frag}{fd:FuncData}{ps:List Str}(h:∀us:List Value,us.length=ps.length->bindArgs fd ⟨us,[]⟩=pure (ps.zip us)):Binds K fd ps []:=fun s us _ hl=>by rw[ZA]at hl ⊢;exact .of_eq (h us hl)
def cQ(CX:CXT)(X:Cx)(E:XK):Prop:=∀(pins:List (Addr×Obj)) (σ:St) (H:Hp) (s:Shared) (e:Value) (s':Shared),Inv X pins σ H s->CX X.stack H s E e s'->X.xe e s'
section
variable{X:Cx}{CX:CXT}{k:Nat}{f C:Addr}{fd:FuncData}{ps:List Str}{sp:Sp}{dvs:List V}{ds:List Value}{E:XK}{x m:Str}{p pos apos:Pos}{e o:Expr}{es:List Expr}{ta:TE}{t:TA}
theorem km{pins:List (Addr×Obj)}{σ:St}{H:Hp}{s:Shared}{Q:VK}{us:List Value}{vs:List V}(F:FnOk X.prog X.w X.K X.mg X.base CX k f fd ps sp)(hr:Room k X.A)(hb:Binds X.K fd ps ds)(hd:Vals dvs ds)(hx:cQ CX X E)(I:Inv X pins σ H s)(r:Vals vs us)(h:sp (vs++dvs) H Q E):wpAny (model X.prog X.w) X.A (call (.ref f) us) (EP X pins σ Q) X.xe s:=by
 have r2:Vals (vs++dvs) (us++ds):=r.append hd;have hl:(us++ds).length=ps.length:=by rw[<-r2.length];exact F.len _ _ _ _ h
 refine wpAny_call (codeAny_mono (F.run X.A X.stack s H ⟨us,[]⟩ (us++ds) (vs++dvs) Q E hr I.env0 (hb s us I.kIn hl) r2 h) fun r s' hq=>?_);cases r with
 |error e=>exact hx pins σ H s e s' I hq
 |ok fl =>
  cases fl with
  |ret u=>exact I.after hq
  |next=>exact False.elim hq
  |brk=>exact False.elim hq
  |cont=>exact False.elim hq
theorem rY(F:FnOk X.prog X.w X.K X.mg X.base CX k f fd ps sp)(hr:Room k X.A)(hg:Gl X x)(hm:X.mg x=some (.ref f))(hk:PySem.W.keepIn X.K (.ref f)=true)(hb:Binds X.K fd ps ds)(hd:Vals dvs ds)(hx:cQ CX X E)(ha:PA X (e::es) t)(hdb:(x==("__debug__":Str))=false:=by decide)(he:starEach (e::es) X.env=(false,eval e X.env)::starEach es X.env:=by rfl)(hpl:(backTo pos (starEach es X.env)).any (·.1)=false:=by rfl) :
  PE X (.Call (.Name x p) (e::es) [] pos) (jp sp dvs E t):=by
 intro pins s σ H Q I h;refine wpAny_Call_Name_kw (iy I hg hm ?_ hdb);refine PySem.W.callWith_K (h₀:=X.base) I.ok.mod.kin hk (thn (ha pos pins s σ H _ I h) fun us s1 ⟨vs,H1,I1,r,q⟩=>⟨I1.kIn,?_⟩) he hpl;exact km F hr hb hd hx I1 r q
theorem sh{pl:Sem Bool}(he:PE X o ta)(c:Cls X.K C)(hm:Meth X.K C m f)(F:FnOk X.prog X.w X.K X.mg X.base CX k f fd ps sp)(hr:Room k X.A)(hb:Binds X.K fd ps ds)(hd:Vals dvs ds)(hx:cQ CX X E)(ha:PA X (e::es) t)(hst:starEach (e::es) X.env=(false,eval e X.env)::starEach es X.env:=by rfl)(hpl:(backTo pos (starEach es X.env)).any (·.1)=false:=by rfl)(ht:eval (.Call (.Attribute o m apos) (e::es) [] pos) X.env=(do
   let ov ←eval o X.env
   standAt apos.atName
   let(f,first) ←holding [ov] (getMethod ov m pl)
   callWith pos f first (backTo pos (starEach (e::es) X.env)) (backToKw pos (keywordEach [] X.env))):=by rfl) :
  PE X (.Call (.Attribute o m apos) (e::es) [] pos) (jq C m sp dvs E ta t):=by
 intro pins s σ H Q I h;refine PySem.W.methodCall_KW (pl:=pl) (thn (he pins s σ H _ I h) fun u s1 hz9=>?_) ht;obtain⟨x,H1,I1,rx,a,dx,fs,ex,ea,l,q⟩:=hz9;subst ex;obtain rfl:u=Value.ref a:=rx;refine gL I1 ea c hm l ?_;refine PySem.W.callWith_K (first:=[.ref a]) (h₀:=X.base) I.ok.mod.kin hm.kp (thn (ha pos pins s1 σ H1 _ I1 q) fun us s2 ⟨vs,H2,I2,r,q2⟩=>⟨I2.kIn,?_⟩) hst hpl;exact km (us:=.ref a::us) (vs:=.ref a::vs) F hr hb hd hx I2 (.cons rfl r) q2
theorem qk{pl:Sem Bool}(he:PE X o ta)(c:Cls X.K C)(hm:Meth X.K C m f)(F:FnOk X.prog X.w X.K X.mg X.base CX k f fd ps sp)(hr:Room k X.A)(hb:Binds X.K fd ps ds)(hd:Vals dvs ds)(hx:cQ CX X E)(ht:eval (.Call (.Attribute o m apos) [] [] pos) X.env=(do
   let ov ←eval o X.env
   standAt apos.atName
   let(f,first) ←holding [ov] (getMethod ov m pl)
   callWith pos f first (backTo pos (starEach [] X.env)) (backToKw pos (keywordEach [] X.env))):=by rfl) :
  PE X (.Call (.Attribute o m apos) [] [] pos) (jq C m sp dvs E ta fb):=by
 intro pins s σ H Q I h;refine PySem.W.methodCall_KW (pl:=pl) (thn (he pins s σ H _ I h) fun u s1 hz9=>?_) ht;obtain⟨x,H1,I1,rx,a,dx,fs,ex,ea,l,q⟩:=hz9;subst ex;obtain rfl:u=Value.ref a:=rx;refine gL I1 ea c hm l ?_;exact PySem.W.callWith_K0 (first:=[.ref a]) I1.kIn hm.kp (km (us:=[.ref a]) (vs:=[.ref a]) F hr hb hd hx I1 (.cons rfl .nil) q)
structure Mk(K:PySem.W.Frag)(C f:Addr):Prop where
 makes:PySem.W.makesIn K C=true
 init:PySem.W.findIn K (.ref C) "__init__" = some (some (.ref f))
 fn:PySem.W.isFn K (.ref f)=true
 kp:PySem.W.keepIn K (.ref C)=true
theorem qA{pins:List (Addr×Obj)}{σ:St}{H:Hp}{s:Shared}{Q:VK}{us:List Value}{vs:List V}(M:Mk X.K C f)(F:FnOk X.prog X.w X.K X.mg X.base CX k f fd ps sp)(hr:Room (k+1) X.A)(hb:Binds X.K fd ps ds)(hd:Vals dvs ds)(hx:cQ CX X E)(I:Inv X pins σ H s)(r:Vals vs us)(h:∀x dx,H x=none->H dx=none->dx≠x->sp (.ref x::(vs++dvs)) (upd (upd H dx (.own x)) x (.ins C dx [])) (fun v H2=>v=.non/\Q (.ref x) H2) E) :
  wpAny (model X.prog X.w) X.A (call (.ref C) us) (EP X pins σ Q) X.xe s:=by
 have hq:=h (s.heap.objs.size+1) s.heap.objs.size (I.hok.fresh (Nat.le_succ _)) (I.hok.fresh (zh _)) (zJ (Nat.lt_succ_self _));have I2:=Inv.made (C:=C) I;have r2:Vals (V.ref (s.heap.objs.size+1)::(vs++dvs)) (Value.ref (s.heap.objs.size+1)::(us++ds)):=.cons rfl (r.append hd);have hl:(Value.ref (s.heap.objs.size+1)::us++ds).length=ps.length:=by have e:=r2.length;rw[F.len _ _ _ _ hq]at e;exact e.symm
 refine wpAny_call (pZ (f:=f) I.kIn M.makes M.init (ZK.mp M.fn) (codeAny_mono (F.run _ X.stack _ _ ⟨Value.ref (s.heap.objs.size+1)::us,[]⟩ (Value.ref (s.heap.objs.size+1)::(us++ds)) _ _ E (hr.make C us [])
  (I2.env0.make C us []) (hb _ (Value.ref (s.heap.objs.size+1)::us) I2.kIn hl) r2 hq) fun r s' hq'=>?_))
 cases r with
 |error e=>exact hx pins σ _ _ e s' I2 hq'
 |ok fl =>
  cases fl with
  |ret u =>obtain⟨v,H',I3,rv,ev,q3⟩:=I2.after hq';subst ev;exact⟨rv,⟨V.ref (s.heap.objs.size+1),H',I3,rfl,q3⟩⟩
  |next=>exact False.elim hq'
  |brk=>exact False.elim hq'
  |cont=>exact False.elim hq'
theorem qj(M:Mk X.K C f)(F:FnOk X.prog X.w X.K X.mg X.base CX k f fd ps sp)(hr:Room (k+1) X.A)(hg:Gl X x)(hm:X.mg x=some (.ref C))(hb:Binds X.K fd ps ds)(hd:Vals dvs ds)(hx:cQ CX X E)(hdb:(x==("__debug__":Str))=false:=by decide):PE X (.Call (.Name x p) [] [] pos) (rj C sp dvs E fb):=by intro pins s σ H Q I h;refine wpAny_Call_Name_kw (iy I hg hm ?_ hdb);exact PySem.W.callWith_K0 I.kIn M.kp (qA (us:=[]) M F hr hb hd hx I .nil h)
end
section
variable{X:Cx}{CX:CXT}{k:Nat}{f C:Addr}{fd:FuncData}{ps ks:List Str}{sp:Sp}{E:XK}{x m:Str}{p pos apos kpos:Pos}{e o:Expr}{es:List Expr}{kws:List Keyword}{te ta:TE}{t tk:TA}{nm:Option Str}
structure KBinds(K:PySem.W.Frag)(fd:FuncData)(ps ks:List Str)(g:List Value->List Value->List Value)(gV:List V->List V->List V):Prop where
 to:∀(s:Shared) (us ws:List Value),K.In s.heap->(g us ws).length=ps.length->BindsTo s fd ⟨us,ks.zip ws⟩ (ps.zip (g us ws))
 rel:∀{vs:List V} {us:List Value} {zs:List V} {ws:List Value},Vals vs us->Vals zs ws->Vals (gV vs zs) (g us ws)
variable{g:List Value->List Value->List Value}{gV:List V->List V->List V}
end
structure FnScope(N P:List Str)(sc:Scope):Prop where
 kind:sc.kind=.function
 co:sc.isCoroutine=false
 gen:sc.isGenerator=false
 nd:N.Nodup
 pre:N.take P.length=P
 par:∀x∈P,sc.names.lookup x=some .local\/sc.names.lookup x=some .cell
 nofree:∀y∈sc.names,y.2≠.free
theorem iM{kindOf:Str->Option NameKind}{x:Str}:∀{binds:List (Str×Value)} {m:Str->Option Value},(∀v,(x,v)∉binds)->bindL kindOf binds m x=m x
 | [],_,_=>rfl
 |(n,v)::r,m,h=>by
  unfold bindL;rw[iM fun w hw=>h w (zP _ hw)];split
  ·have:x≠n:=by rintro rfl;exact h v Zg
   simp[this]
  ·rfl
theorem iK{kindOf:Str->Option NameKind}{x:Str}:∀{binds:List (Str×Value)} {m:Str->Option Value},(∀v,(x,v)∉binds)->bindC kindOf binds m x=m x
 | [],_,_=>rfl
 |(n,v)::r,m,h=>by
  unfold bindC;rw[iK fun w hw=>h w (zP _ hw)];split
  ·rfl
  ·have:x≠n:=by rintro rfl;exact h v Zg
   simp[this]
theorem iL{kindOf:Str->Option NameKind}{x:Str}{v:Value}:∀{P:List Str} {vs:List Value} {i:Nat} {m:Str->Option Value},P.Nodup->P[i]?=some x->vs[i]?=some v->kindOf x=some .local ->
  bindL kindOf (P.zip vs) m x=some v
 | [],_,_,_,_,h,_,_=>by simp at h
 |_::_,[],_,_,_,_,h,_=>by simp at h
 |p::P,w::vs,0,m,nd,h1,h2,hk=>by simp at h1 h2;subst h1;subst h2;show bindL kindOf ((p,w)::P.zip vs) m p=_;unfold bindL;rw[iM fun v hv=>(ZG.mp nd).1 (List.of_mem_zip hv).1,if_pos hk];simp
 |p::P,w::vs,i+1,m,nd,h1,h2,hk=>by show bindL kindOf ((p,w)::P.zip vs) m x=_;unfold bindL;exact iL (i:=i) (ZG.mp nd).2 (by simpa using h1) (by simpa using h2) hk
theorem iJ{kindOf:Str->Option NameKind}{x:Str}{v:Value}:∀{P:List Str} {vs:List Value} {i:Nat} {m:Str->Option Value},P.Nodup->P[i]?=some x->vs[i]?=some v->kindOf x≠some .local ->
  bindC kindOf (P.zip vs) m x=some v
 | [],_,_,_,_,h,_,_=>by simp at h
 |_::_,[],_,_,_,_,h,_=>by simp at h
 |p::P,w::vs,0,m,nd,h1,h2,hk=>by simp at h1 h2;subst h1;subst h2;show bindC kindOf ((p,w)::P.zip vs) m p=_;unfold bindC;rw[iK fun v hv=>(ZG.mp nd).1 (List.of_mem_zip hv).1,if_neg hk];simp
 |p::P,w::vs,i+1,m,nd,h1,h2,hk=>by show bindC kindOf ((p,w)::P.zip vs) m x=_;unfold bindC;exact iJ (i:=i) (ZG.mp nd).2 (by simpa using h1) (by simpa using h2) hk
def start(N:List Str)(vs:List V):St:=vs.map some++List.replicate (N.length-vs.length) none
def dO(CX:CXT)(P:Program)(w:World)(K:PySem.W.Frag)(mg:Str->Option Value)(base:Heap)(N:List Str)(qual:Str)(scope:Scope)(f:Addr)(cd:Value)(A:Around)(outer:List Env)(s:Shared)(H:Hp)(E:XK):Cx where
 prog:=P
 w:=w
 K:=K
 mg:=mg
 base:=base
 A:=A.deeper (envOfC qual scope s.heap.objs.size f cd)
 N:=N
 s₀:=s
 H₀:=H
 env:=envOfC qual scope s.heap.objs.size f cd
 outer:=outer
 stack:=envOfC qual scope s.heap.objs.size f cd::outer
 ex:=[]
 calm:=true
 fn:=fun _=>true
 pn:=[]
 xe:=fun e s'=>wpAny (model P w) (A.deeper (envOfC qual scope s.heap.objs.size f cd)) (leaving (envOfC qual scope s.heap.objs.size f cd) e) (fun _ s''=>CX outer H s E e s'') (fun e' s''=>CX outer H s E e' s'') s'
theorem jH{sc:Scope}{n:Nat}{x:Str}(h:sc.names.lookup x=some .cell):∃c,(cellsFrom n sc.names []).lookup x=some c:=by have q:=PySem.W.cellsFrom_some sc.names n [] (.inl h);exact Option.isSome_iff_exists.mp q
theorem nF{CX:CXT}{P:Program}{w:World}{K:PySem.W.Frag}{mg:Str->Option Value}{base:Heap}{N ps:List Str}{qual:Str}{scope:Scope}{f:Addr}{cd:Value}{A:Around}{outer:List Env}{s s1:Shared}{H:Hp}{E:XK}{us:List Value}{vs:List V}(S:FnScope N ps scope)(hd:A.handled=none)(e0:Env0 P w K mg base A outer s H)(hl:vs.length=ps.length)(r:Vals vs us)(x:InCallC s s.heap.objs.size (bindL (envOfC qual scope s.heap.objs.size f cd).kindOf (ps.zip us) fun _=>none) (cellsFrom (s.heap.objs.size+1) scope.names []) (bindC (envOfC qual scope s.heap.objs.size f cd).kindOf (ps.zip us) fun _=>none) s1) :
  Inv (dO CX P w K mg base N qual scope f cd A outer s H E) [] (start N vs) H s1:=by
 have hpl:ps.length<=N.length:=by have:=ZF List.length S.pre;rw[Za]at this;omega
 obtain⟨h1,tk,rfl,hk⟩:=x.done;have noA:∀b:Addr,b∉(dO CX P w K mg base N qual scope f cd A outer s H E).ex:=fun b z=>absurd (show b∈([]:List Addr)from z) (by simp);refine⟨⟨e0.mod,S.kind,rfl,rfl,zh _,fun y z c h1 h2=>?_,fun y hy=>?_,fun y c _ h=>?_,fun _=>hd,Around.frames_deeper e0.frames,.inr ⟨rfl,rfl⟩,fun b z=>absurd z (noA b),e0.bs,e0.bsz,fun b _ _=>noA b,fun b z=>absurd z (noA b),e0.funs,e0.frf⟩,
  rfl,e0.bare,Un.kept hk,⟨_,x.toInCall.ns,fun i y v h1 h2 h3=>?_⟩,fun y c h=>⟨_,x.cell y c h⟩,e0.hok.fresh (zh _),fun y c h=>?_,fun p hp=>absurd (show p∈([]:List (Addr×Obj)) from hp) (by simp),e0.hok.kept hk,?_⟩
 ·exact name_of_addr x.apart (ZB h1) (ZB h2)
 ·have hy:scope.names.lookup y=some .cell\/scope.names.lookup y=some .free:=hy;rcases hy with hy|hy
  ·exact jH hy
  ·exact absurd rfl (S.nofree _ (ZB hy))
 ·exact Nat.le_of_lt (x.above y c (ZB h))
 ·have hi:i<vs.length:=by
   unfold start at h2;by_cases hi:i<vs.length
   ·exact hi
   ·rw[zW (by simpa using hi)]at h2;rw[List.getElem?_replicate]at h2;split at h2<;>cases h2
  have ha:vs[i]?=some v:=by
   unfold start at h2;rw[ZD (by simpa using hi),Zz]at h2;cases e:vs[i]? with
   |none=>rw[e]at h2;cases h2
   |some a=>rw[e]at h2;cases h2;rfl
  obtain⟨u,hu,rv⟩:=r.get ha;have hp:ps[i]?=some y:=by rw[<-S.pre,List.getElem?_take_of_lt (by omega)];exact h1
  have ndP:ps.Nodup:=by rw[<-S.pre];exact S.nd.sublist (Zk _ _)
  refine⟨u,rv,?_⟩;rcases S.par y (List.mem_of_getElem? hp)with k|k
  ·exact .inl ⟨k,iL ndP hp hu k⟩
  ·obtain⟨c,e⟩:=jH (n:=s.heap.objs.size+1) k;refine .inr ⟨.inl k,c,e,?_⟩;have q:=x.cell y c e;rw[iJ ndP hp hu (by show scope.names.lookup y≠_;rw[k];decide)]at q;exact q
 ·exact e0.hok.fresh (Nat.le_of_lt (x.above y c (ZB h)))
 ·unfold start;show _=N.length;rw[zt,zr,List.length_replicate];omega
theorem vQ{CX:CXT}{P:Program}{w:World}{K:PySem.W.Frag}{mg:Str->Option Value}{base:Heap}{k:Nat}{f:Addr}{name qual:Str}{params:Arguments}{body:List Stmt}{scope:Scope}{dV kV doc pm cdv ct oc:Value}{an od:Option Addr}{osl:Array (Option Value)}{N ps:List Str}{sp:Sp}(lk:K.lookup f=some ⟨oc,od,.func (PySem.W.fnOf name qual params body scope dV kV doc pm an cdv ct),osl⟩)(hcd:PySem.W.codeIn K cdv qual=true)(S:FnScope N ps scope)(len:∀ vs H Q E,sp vs H Q E->vs.length=ps.length)(hbody:∀ (A:Around) (outer:List Env) (s:Shared) (H:Hp) (vs:List V) (Q:VK) (E:XK),Room k (A.deeper (envOfC qual scope s.heap.objs.size f cdv))->sp vs H Q E ->
   ∃ t,PSs (dO CX P w K mg base N qual scope f cdv A outer s H E) body t/\t { nx:=fun _ H'=>Q .non H',rt:=Q } (start N vs) H) :
  FnOk P w K mg base CX (k+1) f (PySem.W.fnOf name qual params body scope dV kV doc pm an cdv ct) ps sp:=by
 refine⟨len,fun A outer s H args us vs Q E hr e0 hb r hsp=>?_⟩;have hl:=len _ _ _ _ hsp;have KX:K.In s.heap:=e0.mod.kin.keeps fun b o e=>(e0.bs b o e).1;have lim:s.heap.NoLimit:=e0.mod.nolimit.keeps fun b o e=>(e0.bs b o e).1;have hkind:∀y∈ps.zip us,scope.names.lookup y.1=some .local\/(scope.names.lookup y.1=some .cell/\((cellsFrom (s.heap.objs.size+1) scope.names []).lookup y.1).isSome=true):=fun⟨n,v⟩ hy=>by
  rcases S.par n (List.of_mem_zip hy).1 with q|q
  ·exact .inl q
  ·exact .inr ⟨q,PySem.W.cellsFrom_some _ _ _ (.inl q)⟩
 refine codeAny_call_function hr.depth (KX _ _ lk) rfl S.co S.gen rfl (PySem.W.codeRec_of KX hcd) (hb _ _ _ _ ?_);refine wpAny_newFunctionEnv_cells S.kind hkind fun env he s1 x=>?_;subst he;refine⟨lim.keeps x.toInCall.keep,codeAny_func ?_⟩;obtain⟨t,ht,hq⟩:=hbody A outer s H vs Q E (hr.deeper _) hsp;have I:Inv (dO CX P w K mg base N qual scope f cdv A outer s H E) [] (start N vs) H s1:=nF S hr.hd e0 hl r x;refine Zx (ht [] s1 (start N vs) H _ I hq) (fun fl s' hs=>?_) fun e s' hs=>hs;have fin:∀{σ':St} {H':Hp} {v:V} {u:Value},Inv (dO CX P w K mg base N qual scope f cdv A outer s H E) [] σ' H' s'->RelV v u->Q v H'->CE outer P w H s Q u s' :=
  fun{σ' H' v u} J rv q=>⟨v,H',J.os,J.bare,J.base,J.hok,rv,q⟩
 cases fl with
 |ret u =>obtain⟨v,σ',H',J,rv,q⟩:=hs;exact fin J rv q
 |next =>obtain⟨σ',H',J,q⟩:=hs;exact fin (v:=V.non) (u:=Value.none) J rfl q
 |brk =>obtain⟨_,_,_,q⟩:=hs;exact False.elim q
 |cont =>obtain⟨_,_,_,q⟩:=hs;exact False.elim q
open PySem PySem.Spec PyProof.Rows
section
variable{X:Cx}{x:Str}{p pos:Pos}{e:Expr}{es:List Expr}{t:TA}{id T:String}{r:List V->Hp->VK->Prop}
def tCB(r:List V->Hp->VK->Prop)(t:TA):TE:=fun σ H Q=>t σ H fun vs H1=>r vs H1 Q
theorem qh(hc:cN X (.builtin id) r)(hg:Gl X x)(hm:X.mg x=none)(hv:bootBuiltins x=some (.builtin id))(ha:PA X (e::es) t)(hn:x≠"__name__":=by decide)(hdb:(x==("__debug__":Str))=false:=by decide)(he:starEach (e::es) X.env=(false,eval e X.env)::starEach es X.env:=by rfl)(hpl:(backTo pos (starEach es X.env)).any (·.1)=false:=by rfl):PE X (.Call (.Name x p) (e::es) [] pos) (tCB r t):=by intro pins s σ H Q I h;refine wpAny_Call_Name_kw (dE I hg hm hv ?_ hn hdb);exact PyProof.Rows.callWith_builtin1 (thn (ha pos pins s σ H _ I h) fun us s1 ⟨vs,H1,I1,r1,q1⟩=>hc pins s1 σ H1 vs us Q I1 r1 q1) he hpl
theorem oq(hc:cN X (.type T) r)(hg:Gl X x)(hm:X.mg x=none)(hv:bootBuiltins x=some (.type T))(ha:PA X (e::es) t)(hn:x≠"__name__":=by decide)(hdb:(x==("__debug__":Str))=false:=by decide)(he:starEach (e::es) X.env=(false,eval e X.env)::starEach es X.env:=by rfl)(hpl:(backTo pos (starEach es X.env)).any (·.1)=false:=by rfl):PE X (.Call (.Name x p) (e::es) [] pos) (tCB r t):=by intro pins s σ H Q I h;refine wpAny_Call_Name_kw (dE I hg hm hv ?_ hn hdb);exact ZN (thn (ha pos pins s σ H _ I h) fun us s1 ⟨vs,H1,I1,r1,q1⟩=>hc pins s1 σ H1 vs us Q I1 r1 q1) he hpl
end
end L2
namespace HT
open PySem PyProof.Rows
section
variable{prog:Program}{w:World}{A:Around}{E:Value->Shared->Prop}{s:Shared}
theorem cat_tup{t b:Addr}{vs ws:List Value}{Q:Value->Shared->Prop}(ht:IsTup s.heap t vs.toArray)(hb:IsTup s.heap b ws.toArray)(hv:vs≠[])(h1:ws=[]->Q (.ref t) s)(h2:ws≠[]->Q (.ref s.heap.objs.size) { s with heap:=s.heap.push { cls:=.type "tuple",data:=.seq (vs++ws).toArray } })(hsz:vs.length+ws.length<=sizeLine):wpAny (model prog w) A (binaryOp .Add (.ref t) (.ref b)) Q E s:=by
 obtain⟨⟨cls,dd,data,sl⟩,ho,hc,n,hd⟩:=id ht;obtain⟨⟨cls2,dd2,data2,sl2⟩,ho2,hc2,n2,hd2⟩:=id hb;simp only at hc hd hc2 hd2;subst hc hd hc2 hd2;have e:vs.toArray++ws.toArray=(vs++ws).toArray:=by simp
 by_cases hw:ws=[]
 ·exact concat_meets ⟨_,ho,rfl⟩ ⟨_,ho2,rfl⟩ noFill_tuple_add seq_tuple_add PySem.F.slot_tuple_add PySem.F.entry_tuple_add (PySem.F.args_tuple_add_2 _ _)
   (tuple_addW1 t b vs.toArray ws.toArray n n2 dd dd2 sl sl2 (by simpa using hv) (by simp[hw])) ⟨ho,ho2,h1 hw⟩
 ·refine concat_meets ⟨_,ho,rfl⟩ ⟨_,ho2,rfl⟩ noFill_tuple_add seq_tuple_add PySem.F.slot_tuple_add PySem.F.entry_tuple_add (PySem.F.args_tuple_add_2 _ _)
   (tuple_addW2 t b vs.toArray ws.toArray n n2 dd dd2 sl sl2 (by simpa using hv) (by simpa using hw) (by rw[zp,zp];exact hsz)) ⟨ho,ho2,?_⟩
  rw[e];exact h2 hw
def sIx(n d:Nat):Option Int->Nat
 |none=>d
 |some v=>if v<0 then(v+(n:Int)).toNat else min v.toNat n
theorem sIx_none(n d:Nat):sIx n d none=d:=rfl
theorem sIx_nat(n d k:Nat):sIx n d (some (k:Int))=min k n:=by show(if(k:Int)<0 then((k:Int)+(n:Int)).toNat else min (k:Int).toNat n)=min k n;rw[if_neg (by omega),Int.toNat_natCast]
theorem uZ(n d:Nat)(hd:d<=n)(o:Option Int):sIx n d o<=n:=by
 cases o with
 |none=>exact hd
 |some v =>
  show(if v<0 then(v+(n:Int)).toNat else min v.toNat n)<=n;by_cases hv:v<0
  ·rw[if_pos hv];omega
  ·rw[if_neg hv];exact Nat.min_le_right _ _
theorem kO(v:Int)(n d:Nat):(if v<0 then max (v+(n:Int)) 0 else min v (n:Int))=((sIx n d (some v):Nat):Int):=by
 show(if v<0 then max (v+(n:Int)) 0 else min v (n:Int))=(((if v<0 then(v+(n:Int)).toNat else min v.toNat n):Nat):Int);by_cases hv:v<0
 ·simp only[if_pos hv];omega
 ·simp only[if_neg hv];omega
theorem lR(lo hi:Option Int)(n:Nat):Builtin.Slice.sliceAdjust lo hi 1 (n:Int)=(((sIx n 0 lo:Nat):Int),((sIx n n hi:Nat):Int)):=by
 have h1:¬((1:Int)<0):=by omega
 unfold Builtin.Slice.sliceAdjust;simp only[h1,if_false];refine Prod.ext ?_ ?_
 ·cases lo with
  |none=>rfl
  |some v=>exact kO v n 0
 ·cases hi with
  |none=>rfl
  |some v=>exact kO v n n
theorem my(i j:Nat):Builtin.Slice.slicePlaces (i:Int) (j:Int) 1=j-i:=by
 unfold Builtin.Slice.slicePlaces;have h1:(1:Int)>0:=by omega
 simp only[h1,if_true,Int.ediv_one];split<;>omega
theorem hU{v:Value}{o:Option Int}{Q:Option Int->Shared->Prop}(p:IsPart v o)(h:Q o s):wpAny (model prog w) A (Builtin.Slice.slicePartIndex v) Q E s:=by
 cases p with
 |none=>exact slicePart_none h
 |int i t=>exact slicePart_int h
theorem sliceApplied_gen{sl:Addr}{vl vu:Value}{lo hi:Option Int}{n:Nat}{Q:Int×Int×Nat->Shared->Prop}(hs:s.heap.IsSliceOf sl vl vu .none)(pl:IsPart vl lo)(pu:IsPart vu hi)(h:Q (((sIx n 0 lo:Nat):Int),1,sIx n n hi-sIx n 0 lo) s):wpAny (model prog w) A (Builtin.Slice.sliceApplied (.ref sl) (pure (n:Int))) Q E s:=by obtain⟨os,hos,hcs,hds⟩:=id hs;unfold Builtin.Slice.sliceApplied Builtin.Slice.sliceFields;refine zd (zd (Zr hos hds (x:=vl) rfl (zd (Zr hos hds (x:=vu) rfl (zd (Zr hos hds (x:=.none) rfl (zi ?_)))))));refine zd (slicePart_none ?_);show wpAny _ _ (if((1:Int)==0)=true then _ else _) _ _ s;rw[if_neg (by decide)];refine zd (hU pl (zd (hU pu (zd (zi ?_)))));show wpAny _ _ (match Builtin.Slice.sliceAdjust lo hi 1 (n:Int)with|(lo,hi)=>pure (lo,(1:Int),Builtin.Slice.slicePlaces lo hi 1)) _ _ s;rw[lR lo hi n];show wpAny _ _ (pure (((sIx n 0 lo:Nat):Int),(1:Int),Builtin.Slice.slicePlaces ((sIx n 0 lo:Nat):Int) ((sIx n n hi:Nat):Int) 1)) _ _ s;rw[my];exact zi h
theorem qq(xs:Array Value)(i k:Nat):((List.range k).filterMap fun(m:Nat)=>xs[((i:Int)+(m:Int)*1).toNat]?).toArray=((xs.toList.drop i).take k).toArray:=by
 have e:(fun(m:Nat)=>xs[((i:Int)+(m:Int)*1).toNat]?)=fun m=>xs[i+m]?:=by
  funext m;have:((i:Int)+(m:Int)*1).toNat=i+m:=by omega
  rw[this]
 rw[e];have:=pick_run xs i k;rw[List.filterMap_map]at this;have e2:((fun x=>xs[x]?)∘fun x=>i+x)=fun m=>xs[i+m]?:=rfl;rw[e2]at this;rw[this]
theorem getItem_tuple_cut{t sl:Addr}{items:Array Value}{vl vu:Value}{lo hi:Option Int}{Q:Value->Shared->Prop}(ht:IsTup s.heap t items)(hs:s.heap.IsSliceOf sl vl vu .none)(pl:IsPart vl lo)(pu:IsPart vu hi)(hw:¬(sIx items.size 0 lo=0/\sIx items.size items.size hi=items.size))(h:Q (.ref s.heap.objs.size) { s with heap:=s.heap.push { cls:=.type "tuple",data:=.seq ((items.toList.drop (sIx items.size 0 lo)).take (sIx items.size items.size hi-sIx items.size 0 lo)).toArray } })(hsz:items.size<=sizeLine):wpAny (model prog w) A (getItem (.ref t) (.ref sl)) Q E s:=by
 have htake:sizeOk (.seq ((items.toList.drop (sIx items.size 0 lo)).take (sIx items.size items.size hi-sIx items.size 0 lo)).toArray):=by show((items.toList.drop (sIx items.size 0 lo)).take (sIx items.size items.size hi-sIx items.size 0 lo)).toArray.size<=sizeLine;rw[zp,Za,zX,zA];omega
 have hj:sIx items.size items.size hi<=items.size:=uZ _ _ (zh _) hi;obtain⟨os,hos,hcs,hds⟩:=id hs;have hTs:s.TypeIs (.ref sl) "slice":=⟨os,hos,hcs⟩
 unfold getItem
 try with_reducible refine wpAny_holding ?_
 first|refine zd (zi ?_)|skip
 refine zd (wpAny_sequenceKey ht.typeIs (by decide) ?_);refine zd (zY (name:=Str.ofString "__getitem__") ht.typeIs Zf
  (Zh Zf ht.typeIs entry_tuple_getitem ?_ (args_tuple_getitem _ _)))
 show wpAny _ _ (Builtin.Tuple.tupleItemsOf (.ref t) >>= _) _ _ s;refine zd (tupleItemsOf_ ht ?_);refine zd (wpAny_typeOf hTs ?_);rw[if_pos (by decide)];refine zd (sliceApplied_gen hs pl pu ?_);have hno:¬((((sIx items.size 0 lo:Nat):Int)==0&&(1:Int)==1&&(sIx items.size items.size hi-sIx items.size 0 lo)==items.size)=true):=by intro q;rw[zL,zL]at q;have q1:((sIx items.size 0 lo:Nat):Int)=0:=eq_of_beq q.1.1;have q2:sIx items.size items.size hi-sIx items.size 0 lo=items.size:=eq_of_beq q.2;exact hw ⟨by omega,by omega⟩
 show wpAny _ _ (if(((sIx items.size 0 lo:Nat):Int)==0&&(1:Int)==1&&(sIx items.size items.size hi-sIx items.size 0 lo)==items.size)=true then _ else _) _ _ s;rw[if_neg hno,qq]
 first
  |exact zd (m:=Builtin.Tuple.tupleExact _) (Zl (zi ⟨_,rfl,zi h⟩) htake)
  |exact zd (m:=Builtin.Tuple.tupleExact _) (Zl (zd (zi (zi ⟨_,rfl,zi h⟩))) htake)
  |exact zd (zd (m:=Builtin.Tuple.tupleExact _) (Zl (zi (zi ⟨_,rfl,zi h⟩)) htake))
  |exact zd (zd (m:=Builtin.Tuple.tupleExact _) (Zl (zi ⟨_,rfl,zi h⟩) htake))
end
end HT
namespace L2
open PySem PySem.Spec PyProof.Rows
abbrev TO:=St->Hp->(Option Int->Hp->Prop)->Prop
def PO(X:Cx)(e:Option Expr)(t:TO):Prop :=
 ∀(pins:List (Addr×Obj)) (s:Shared) (σ:St) (H:Hp) (Q:Option Int->Hp->Prop),Inv X pins σ H s->t σ H Q ->
  wpAny (model X.prog X.w) X.A (evalPart e X.env) (fun u s'=>∃o H',Inv X pins σ H' s'/\IsPart u o/\Q o H') X.xe s
def lM:TO:=fun _ H Q=>Q none H
def rm(t:TE):TO:=fun σ H Q=>t σ H fun x H1=>∃i,x=.int i/\Q (some i) H1
section
variable{X:Cx}{e:Expr}{te:TE}{lo hi:Option Expr}{tl th:TO}{pos p2:Pos}
theorem su:PO X none lM:=by intro pins s σ H Q I h;rw[evalPart_none];exact zi ⟨none,H,I,.none,h⟩
theorem sv(h:PE X e te):PO X (some e) (rm te):=by intro pins s σ H Q I hw;rw[evalPart_some];refine thn (h pins s σ H _ I hw) fun u s1 hz9=>?_;obtain⟨x,H1,I1,r1,q1⟩:=hz9;obtain⟨i,rfl,q⟩:=q1;obtain⟨t,rfl⟩:=r1;exact⟨some i,H1,I1,.int i t,q⟩
def SlR(X:Cx)(r:V->Option Int->Option Int->Hp->VK->Prop):Prop :=
 ∀(pins:List (Addr×Obj)) (s:Shared) (σ:St) (H:Hp) (x:V) (v vl vu:Value) (lo hi:Option Int) (sl:Addr) (Q:VK),Inv X pins σ H s->RelV x v->s.heap.IsSliceOf sl vl vu .none->IsPart vl lo->IsPart vu hi->r x lo hi H Q ->
  ∃T id,typeLookup (.type T) "__getitem__" = pure (some (.builtin id))/\s.TypeIs v T/\wpAny (model X.prog X.w) X.A (getItem v (.ref sl)) (EP X pins σ Q) X.xe s
def tSl(r:V->Option Int->Option Int->Hp->VK->Prop)(te:TE)(tl th:TO):TE:=fun σ H Q=>te σ H fun x H1=>tl σ H1 fun l H2=>th σ H2 fun u H3=>r x l u H3 Q
theorem qm{r:V->Option Int->Option Int->Hp->VK->Prop}(hr:SlR X r)(he:PE X e te)(hl:PO X lo tl)(hu:PO X hi th):PE X (.Subscript e (.Slice lo hi none p2) pos) (tSl r te tl th):=by intro pins s σ H Q I h;refine Subscript_ (thn (he pins s σ H _ I h) fun v s1 hz9=>?_);obtain⟨x,H1,I1,r1,q1⟩:=hz9;refine wpAny_Slice (thn (hl pins s1 σ H1 _ I1 q1) fun vl s2 ⟨l,H2,I2,pl,q2⟩=>thn (hu pins s2 σ H2 _ I2 q2) fun vu s3 hz9=>?_);obtain⟨u,H3,I3,pu,q3⟩:=hz9;rw[evalPart_none];refine zi ?_;have I4:Inv X pins σ H3 { s3 with heap:=s3.heap.push { cls:=.type "slice",data:=.fields #[vl,vu,.none] } }:=I3.kept (t':=s3.toks) fun b ob q=>ze _ q;obtain⟨T,id,hT,ht,hg⟩:=hr pins { s3 with heap:=s3.heap.push { cls:=.type "slice",data:=.fields #[vl,vu,.none] } } σ H3 x v vl vu l u s3.heap.objs.size Q I4 r1 (Heap.IsSliceOf.new ..) pl pu q3;show wpAny (model X.prog X.w) X.A (subscriptTail e (.Slice lo hi none p2) v (.ref s3.heap.objs.size)) (EP X pins σ Q) X.xe { s3 with heap:=s3.heap.push { cls:=.type "slice",data:=.fields #[vl,vu,.none] } };exact tail_any (ops:=[.ref s3.heap.objs.size,v]) ht hT hg (by with_unfolding_all rfl)
def aQ(xs:List V)(lo hi:Option Int):List V:=(xs.drop (HT.sIx xs.length 0 lo)).take (HT.sIx xs.length xs.length hi-HT.sIx xs.length 0 lo)
theorem fO(xs:List V)(lo hi:Option Int):(aQ xs lo hi).length<=xs.length:=by unfold aQ;rw[Za,zX];omega
def wZ(K:PySem.W.Frag):V->Option Int->Option Int->Hp->VK->Prop:=fun x lo hi H Q=>∃a xs,x=.ref a/\SqT K H a xs /\
 ¬(HT.sIx xs.length 0 lo=0/\HT.sIx xs.length xs.length hi=xs.length)/\∀p,H p=none->Q (.ref p) (upd H p (.tup (aQ xs lo hi)))
theorem ve:SlR X (wZ X.K):=by
 intro pins s σ H x v vl vu lo hi sl Q I rx hs pl pu h;obtain⟨a,xs,rfl,hx,hw,q⟩:=h;cases rx;obtain⟨its,r,ht,hz⟩:=I.tuple hx;have hlen:its.toArray.size=xs.length:=by rw[zp];exact r.length.symm
 refine⟨"tuple",_,Zf.lookup,ht.typeIs,?_⟩;refine HT.getItem_tuple_cut ht hs pl pu (by rw[hlen];exact hw) ?_ (by rw[hlen];exact hz);rw[hlen];refine⟨.ref s.heap.objs.size,_,I.laid (t':=s.toks) (o:=.tup (aQ xs lo hi)) (fun b ob q=>ze _ q) (zh _) ?_,rfl,q _ (I.hok.fresh (zh _))⟩;exact⟨zS (fO xs lo hi) hz,_,(r.drop (HT.sIx xs.length 0 lo)).take (HT.sIx xs.length xs.length hi-HT.sIx xs.length 0 lo),IsTup.new _ _⟩
def wy(K:PySem.W.Frag):R2:=fun x y H Q=>∃a b xs ys,x=.ref a/\y=.ref b/\SqT K H a xs/\SqT K H b ys/\xs≠[]/\xs.length+ys.length<=sizeLine /\
 (ys=[]->Q (.ref a) H)/\(ys≠[]->∀p,H p=none->Q (.ref p) (upd H p (.tup (xs++ys))))
theorem Vals.nil_iff{xs:List V}{us:List Value}(r:Vals xs us):us=[]↔xs=[]:=by
 cases r with
 |nil=>simp
 |cons _ _=>simp
theorem rT:OpR X (binaryOp .Add) (wy X.K):=by intro pins s σ H x y v u Q I rx ry h;obtain⟨a,b,xs,ys,rfl,rfl,ha,hb,hx,hz,q1,q2⟩:=h;cases rx;cases ry;obtain⟨its,r1,p1,_⟩:=I.tuple ha;obtain⟨its2,r2,p2,_⟩:=I.tuple hb;refine HT.cat_tup p1 p2 (fun z=>hx (r1.nil_iff.mp z)) (fun z=>⟨.ref a,H,I,rfl,q1 (r2.nil_iff.mp z)⟩) (fun z=>?_) (by rw[<-r1.length,<-r2.length];exact hz);refine⟨.ref s.heap.objs.size,_,I.laid (t':=s.toks) (o:=.tup (xs++ys)) (fun b ob q=>ze _ q) (zh _) ?_,rfl,q2 (fun w=>z (r2.nil_iff.mpr w)) _ (I.hok.fresh (zh _))⟩;exact⟨by rw[zt];exact hz,_,r1.append r2,IsTup.new _ _⟩
end
open PySem PySem.Spec PyProof.Rows
def ixN(n:Nat)(i:Int):Option Nat:=if 0<=i then(if i<n then some i.toNat else none)else if -(n:Int)<=i then some (i+n).toNat else none
def atI{α:Type}(xs:List α)(i:Int):Option α:=(ixN xs.length i).bind fun j=>xs[j]?
theorem rH{n:Nat}{i:Int}{j:Nat}(h:ixN n i=some j):seqIndex? i n=some j/\j<n/\-(n:Int)<=i/\i<n:=by
 unfold ixN at h;by_cases h0:0<=i
 ·rw[if_pos h0]at h;by_cases h1:i<n
  ·rw[if_pos h1]at h;have e:i.toNat=j:=zE h;exact⟨by rw[seqIndex_of h0 h1,e],by omega,by omega,h1⟩
  ·rw[if_neg h1]at h;cases h
 ·rw[if_neg h0]at h;by_cases h1:-(n:Int)<=i
  ·rw[if_pos h1]at h;have e:(i+n).toNat=j:=zE h;exact⟨by rw[seqIndex_neg (by omega) h1,e],by omega,h1,by omega⟩
  ·rw[if_neg h1]at h;cases h
theorem ik{α:Type}{xs:List α}{i:Int}{v:α}(h:atI xs i=some v):∃j,seqIndex? i xs.length=some j/\xs[j]?=some v/\j<xs.length/\-(xs.length:Int)<=i/\i<xs.length:=by
 unfold atI at h;cases e:ixN xs.length i with
 |none=>rw[e]at h;cases h
 |some j =>rw[e]at h;obtain⟨h1,h2,h3,h4⟩:=rH e;exact⟨j,h1,h,h2,h3,h4⟩
theorem bU{α:Type}{xs:List α}{j:Nat}{v:α}(h:xs[j]?=some v):atI xs (j:Int)=some v:=by
 have hj:j<xs.length:=(zT.mp h).1;have e:ixN xs.length (j:Int)=some j:=by unfold ixN;rw[if_pos (by omega),if_pos (by omega)];simp
 unfold atI;rw[e];exact h
def kM(b:Expr):Prop:=∀o i,subscripted b false o i=operate [o,i] (getItem o i)
def IxR(X:Cx)(r:R2):Prop :=
 ∀(value slice:Expr) (pins:List (Addr×Obj)) (s:Shared) (σ:St) (H:Hp) (x y:V) (v u:Value) (Q:VK),Inv X pins σ H s->RelV x v->RelV y u->r x y H Q ->
  subscripted slice false v u=operate [v,u] (getItem v u)->wpAny (model X.prog X.w) X.A (subscriptTail value slice v u) (EP X pins σ Q) X.xe s
def MtR(X:Cx)(id:String)(r:V->List V->Hp->VK->Prop):Prop :=
 ∀(pins:List (Addr×Obj)) (s:Shared) (σ:St) (H:Hp) (x:V) (xs:List V) (v:Value) (us:List Value) (Q:VK),Inv X pins σ H s->RelV x v->Vals xs us->r x xs H Q ->
  wpAny (model X.prog X.w) X.A (call (.builtin id) (v::us)) (EP X pins σ Q) X.xe s
section
variable{X:Cx}{a b:Expr}{ta tb:TE}{pos:Pos}
theorem wq{r:R2}(hr:IxR X r)(ha:PE X a ta)(hb:PE X b tb)(hs:kM b):PE X (.Subscript a b pos) (tOp r ta tb):=by intro pins s σ H Q I h;exact Subscript_ (pE ha hb I h fun v u s2 x y H2 I2 rx ry q=>hr a b pins s2 σ H2 x y v u Q I2 rx ry q (hs _ _))
def uS(K:PySem.W.Frag):R2:=fun x y H Q=>∃p xs i v,x=.ref p/\y=.int i/\SqL K H p xs/\atI xs i=some v/\Q v H
def mE(K:PySem.W.Frag):R2:=fun x y H Q=>∃p xs i v,x=.ref p/\y=.int i/\SqT K H p xs/\atI xs i=some v/\Q v H
def uT:R2:=fun x y H Q=>∃z i c,x=.str z/\y=.int i/\z.length<=sizeLine/\atI z.cps.toList i=some c/\Q (.str ⟨#[c]⟩) H
theorem rJ:IxR X (uS X.K):=by
 intro value slice pins s σ H x y v u Q I rx ry h hs;obtain⟨p,xs,i,z,rfl,rfl,hq,he,q⟩:=h;cases rx;obtain⟨t,rfl⟩:=ry;obtain⟨its,r,pl,hz⟩:=I.list hq;obtain⟨j,h1,h2,h3,h4,h5⟩:=ik he;obtain⟨w,ew,rw'⟩:=r.get h2;have hl:=r.length;have hn:=gR;have fin:EP X pins σ Q w s:=⟨z,H,I,rw',q⟩
 by_cases h0:0<=i
 ·have hj:i.toNat=j:=by rw[seqIndex_of h0 h5]at h1;exact zE h1
  exact item_listR pl.isList h0 (by omega) (by rw[hj];simpa using ew) fin hs
 ·have hj:(i+(its.toArray.size:Int)).toNat=j:=by rw[seqIndex_neg (by omega) h4]at h1;rw[zp,<-hl];exact zE h1
  exact subscriptTail_builtinR (x:=w) pl.isList.typeIs slot_list_getitem.lookup
   (wpAny_getItem_list_neg (Q:=fun r s'=>r=w/\EP X pins σ Q r s') pl.isList (by omega) (by rw[zp]<;>omega) (by omega) (by rw[hj];simpa using ew) ⟨rfl,fin⟩) hs
theorem tH:IxR X (mE X.K):=by
 intro value slice pins s σ H x y v u Q I rx ry h hs;obtain⟨p,xs,i,z,rfl,rfl,hq,he,q⟩:=h;cases rx;obtain⟨t,rfl⟩:=ry;obtain⟨its,r,pl,hz⟩:=I.tuple hq;obtain⟨j,h1,h2,h3,h4,h5⟩:=ik he;obtain⟨w,ew,rw'⟩:=r.get h2;have hl:=r.length;have hn:=gR;have fin:EP X pins σ Q w s:=⟨z,H,I,rw',q⟩
 exact subscriptTail_builtinR (x:=w) pl.typeIs slot_tuple_getitem.lookup
  (getItem_tuple (j:=j) (Q:=fun r s'=>r=w/\EP X pins σ Q r s') pl (by omega) (by omega) (by rw[zp,<-hl];exact h1) (by simpa using ew) ⟨rfl,fin⟩) hs
theorem tG:IxR X uT:=by
 intro value slice pins s σ H x y v u Q I rx ry h hs;obtain⟨z,i,c,rfl,rfl,hz,he,q⟩:=h;obtain⟨t,rfl⟩:=rx;obtain⟨t',rfl⟩:=ry;obtain⟨j,h1,h2,h3,h4,h5⟩:=ik he;have hl:z.cps.toList.length=z.length:=by simp[Str.length]
 rw[hl]at h1 h4 h5;have hn:=gR;exact tail_any (typeIs_str s z t) slot_str_getitem.lookup (getItem_str (c:=c) (by
  have e1:decide (i < -(2^63:Int))=false:=decide_eq_false (by omega);have e2:decide (i>=2^63)=false:=decide_eq_false (by omega);rw[e1,e2,Bool.or_false]) (by rw[h1];simpa using h2) ⟨.str ⟨#[c]⟩,H,I.tok _,⟨_,rfl⟩,q⟩) hs
theorem kr(lo hi:Option Int)(n:Nat):(sliceBounds lo hi none n).1=((HT.sIx n 0 lo:Nat):Int)/\(sliceBounds lo hi none n).2.1=((HT.sIx n n hi:Nat):Int)/\(sliceBounds lo hi none n).2.2=1:=by
 refine⟨?_,?_,rfl⟩
 ·cases lo with
  |none=>simp[sliceBounds,HT.sIx]
  |some i =>
   simp only[sliceBounds,HT.sIx,Option.getD_none,show(1:Int)>0 by decide,if_true];by_cases h:i<0
   ·simp only[h,if_true]<;>omega
   ·simp only[h,if_false]<;>omega
 ·cases hi with
  |none=>simp[sliceBounds,HT.sIx]
  |some i =>
   simp only[sliceBounds,HT.sIx,Option.getD_none,show(1:Int)>0 by decide,if_true];by_cases h:i<0
   ·simp only[h,if_true]<;>omega
   ·simp only[h,if_false]<;>omega
theorem jj(its:List Value)(lo hi:Option Int):slicePick its.toArray lo hi none=((its.drop (HT.sIx its.length 0 lo)).take (HT.sIx its.length its.length hi-HT.sIx its.length 0 lo)).toArray:=by obtain⟨h1,h2,h3⟩:=kr lo hi its.toArray.size;unfold slicePick;rw[h1,h2,h3];simp only[sliceRange_one,pick_run,zp]<;>rfl
def uW(K:PySem.W.Frag):V->Option Int->Option Int->Hp->VK->Prop:=fun x lo hi H Q=>∃a xs,x=.ref a/\SqL K H a xs/\∀p,H p=none->Q (.ref p) (upd H p (.lst (aQ xs lo hi)))
theorem sI:SlR X (uW X.K):=by intro pins s σ H x v vl vu lo hi sl Q I rx hs pl pu h;obtain⟨a,xs,rfl,hx,q⟩:=h;cases rx;obtain⟨its,r,ht,hz⟩:=I.list hx;have hlen:=r.length;refine⟨"list",_,slot_list_getitem.lookup,ht.isList.typeIs,?_⟩;refine wpAny_getItem_list_slice ht.isList hs pl pu .none (by simp) ?_ (by rw[zp]<;>omega);rw[jj,<-hlen];refine⟨.ref s.heap.objs.size,_,I.laid (t':=s.toks) (o:=.lst (aQ xs lo hi)) (fun b ob q=>ze _ q) (zh _) ?_,rfl,q _ (I.hok.fresh (zh _))⟩;exact⟨zS (fO xs lo hi) hz,_,0,(r.drop (HT.sIx xs.length 0 lo)).take (HT.sIx xs.length xs.length hi-HT.sIx xs.length 0 lo),zw _ rfl⟩
def cZ:V->Bool
 |.non=>true
 |.bl _=>true
 |.int _=>true
 |.str _=>true
 |_=>false
def eqV:V->V->Bool
 |.non,.non=>true
 |.bl a,.bl b=>a==b
 |.bl a,.int b=>(if a then 1 else 0)==b
 |.int a,.bl b=>a==(if b then 1 else 0)
 |.int a,.int b=>a==b
 |.str a,.str b=>a==b
 |_,_=>false
theorem tm{A:Around}{s:Shared}{y x:V}{u v:Value}(ry:RelV y u)(rx:RelV x v)(fy:cZ y=true)(fx:cZ x=true):SeqAt.EqAt A s u v (eqV y x):=by
 cases y with
 |non =>
  cases ry;cases x with
  |non=>cases rx;exact SeqAt.EqAt.same _
  |bl b=>cases rx;exact SeqAt.EqAt.none_bool b
  |int b=>obtain⟨t,rfl⟩:=rx;exact SeqAt.EqAt.none_int b t
  |str b=>obtain⟨t,rfl⟩:=rx;exact SeqAt.EqAt.none_str b t
  |_=>exact absurd (show false=true from fx) zo
 |bl a =>
  cases ry;cases x with
  |non=>cases rx;exact SeqAt.EqAt.bool_none a
  |bl b=>cases rx;exact SeqAt.EqAt.bool_bool a b
  |int b=>obtain⟨t,rfl⟩:=rx;exact SeqAt.EqAt.bool_int a b t
  |str b=>obtain⟨t,rfl⟩:=rx;exact SeqAt.EqAt.bool_str a b t
  |_=>exact absurd (show false=true from fx) zo
 |int a =>
  obtain⟨t',rfl⟩:=ry;cases x with
  |non=>cases rx;exact SeqAt.EqAt.int_none a t'
  |bl b=>cases rx;exact SeqAt.EqAt.int_bool a t' b
  |int b=>obtain⟨t,rfl⟩:=rx;exact SeqAt.EqAt.int_int a t' b t
  |str b=>obtain⟨t,rfl⟩:=rx;exact SeqAt.EqAt.int_str a t' b t
  |_=>exact absurd (show false=true from fx) zo
 |str a =>
  obtain⟨t',rfl⟩:=ry;cases x with
  |non=>cases rx;exact SeqAt.EqAt.str_none a t'
  |bl b=>cases rx;exact SeqAt.EqAt.str_bool a t' b
  |int b=>obtain⟨t,rfl⟩:=rx;exact SeqAt.EqAt.str_int a t' b t
  |str b=>obtain⟨t,rfl⟩:=rx;exact SeqAt.EqAt.str_str a t' b t
  |_=>exact absurd (show false=true from fx) zo
 |_=>exact absurd (show false=true from fy) zo
def eqU(x:V)(u:Value):Bool:=match u with
 |.none=>eqV .non x
 |.bool b=>eqV (.bl b) x
 |.int i _=>eqV (.int i) x
 |.str z _=>eqV (.str z) x
 |_=>false
theorem no{x y:V}{u:Value}(r:RelV y u)(f:cZ y=true):eqU x u=eqV y x:=by
 cases y with
 |non=>cases r;rfl
 |bl b=>cases r;rfl
 |int i=>obtain⟨t,rfl⟩:=r;rfl
 |str z=>obtain⟨t,rfl⟩:=r;rfl
 |_=>exact absurd (show false=true from f) zo
theorem ii{x:V}:∀{xs:List V} {us:List Value},Vals xs us->xs.all cZ=true->us.any (eqU x)=xs.any fun y=>eqV y x
 |_,_,.nil,_=>rfl
 |y::xs,u::us,.cons r t,f=>by rw[List.all_cons,zL]at f;rw[List.any_cons,List.any_cons,no r f.1,ii t f.2]
theorem gh{A:Around}{s:Shared}{x:V}{v:Value}(rx:RelV x v)(fx:cZ x=true):∀{xs:List V} {us:List Value},Vals xs us->xs.all cZ=true->∀u∈us,SeqAt.EqAt A s u v (eqU x u)
 |_,_,.nil,_=>fun u hu=>by cases hu
 |y::xs,u::us,.cons r t,f=>fun u' hu=>by
  rw[List.all_cons,zL]at f;rcases zD.mp hu with rfl|hu
  ·rw[no r f.1];exact tm r rx f.1 fx
  ·exact gh rx fx t f.2 u' hu
def inV(x:V)(xs:List V):Bool:=xs.any fun y=>eqV y x
def rIn(K:PySem.W.Frag)(neg:Bool):R2:=fun x y H Q=>∃p xs,y=.ref p/\(SqL K H p xs\/SqT K H p xs)/\cZ x=true/\xs.all cZ=true/\Q (.bl (if neg then !inV x xs else inV x xs)) H
theorem oj:OpR X (compareOp .In) (rIn X.K false):=by
 intro pins s σ H x y v u Q I rx ry h;obtain⟨p,xs,rfl,hq,fx,fs,q⟩:=h;cases ry;rcases hq with hq|hq
 ·obtain⟨its,r,pl,hz⟩:=I.list hq;refine SeqAt.in_listAt (eqU x) pl.isList (fun w hw=>gh rx fx r fs w (by simpa using hw)) ⟨.bl _,H,I,rfl,?_⟩;rw[show its.toArray.any (eqU x)=its.any (eqU x) by simp,ii r fs];exact q
 ·obtain⟨its,r,pl,hz⟩:=I.tuple hq;refine SeqAt.in_tupleAt (eqU x) pl (fun w hw=>gh rx fx r fs w (by simpa using hw)) ⟨.bl _,H,I,rfl,?_⟩;rw[show its.toArray.any (eqU x)=its.any (eqU x) by simp,ii r fs];exact q
theorem jG:cN X (.builtin "len") (fun xs H Q=>∃p ys,xs=[.ref p]/\(SqL X.K H p ys\/SqT X.K H p ys)/\Q (.int ys.length) H):=by
 intro pins s σ H xs us Q I r h;obtain⟨p,ys,rfl,hq,q⟩:=h;obtain⟨u,rfl,rx⟩:=fJ r;cases rx;have hn:=gR;rcases hq with hq|hq
 ·obtain⟨its,r',pl,hz⟩:=I.list hq;have hlen:=r'.length;exact Calls.call_len_list pl.isList (by simp only[zp]<;>omega) ⟨.int ys.length,H,I.tok _,⟨s.toks+1,by rw[zp,hlen]⟩,q⟩
 ·obtain⟨its,r',pl,hz⟩:=I.tuple hq;have hlen:=r'.length;exact len_tuple pl (by simp only[zp]<;>omega) ⟨.int ys.length,H,I.tok _,⟨s.toks+1,by rw[zp,hlen]⟩,q⟩
def tyV(K:PySem.W.Frag)(T:String)(x:V)(H:Hp):Prop:=match x with
 |.str _=>T="str"
 |.int _=>T="int"
 |.ref p=>(T="list"/\∃xs,SqL K H p xs)\/(T="tuple"/\∃o,K.lookup p=some o/\o.cls=.type "tuple"/\o.dict=none) \/
   (T="dict"/\((∃kvs,H p=some (.dK kvs))\/∃kvs,H p=some (.dT kvs)))\/(T="set"/\∃S n,H p=some (.set S n))
 |_=>False
theorem vy{pins:List (Addr×Obj)}{σ:St}{H:Hp}{s:Shared}{T:String}{x:V}{v:Value}(I:Inv X pins σ H s)(r:RelV x v)(ty:tyV X.K T x H) :
  s.TypeIs v T/\∀a,v=.ref a->∃ob,s.heap.get? a=some ob/\ob.dict=none:=by
 cases x with
 |str z =>obtain⟨t,rfl⟩:=r;cases(show T="str" from ty);exact⟨typeIs_str s z t,fun _ e=>nomatch e⟩
 |int i =>obtain⟨t,rfl⟩:=r;cases(show T="int" from ty);exact⟨typeIs_int s i t,fun _ e=>nomatch e⟩
 |ref p =>
  cases r;rcases ty with⟨rfl,xs,hq⟩|⟨rfl,o,hk,hc,hd⟩|⟨rfl,hk⟩|⟨rfl,S,n,hk⟩
  ·obtain⟨its,_,pl,_⟩:=I.list hq;refine⟨pl.isList.typeIs,fun a e=>?_⟩;cases e;obtain⟨o,n,e,c,hd,_⟩:=pl;exact⟨o,e,hd⟩
  ·refine⟨⟨o,I.kIn p o hk,hc⟩,fun a e=>?_⟩;cases e;exact⟨o,I.kIn _ o hk,hd⟩
  ·have z:∃o,s.heap.get? p=some o/\o.ExactDict:=by
    rcases hk with⟨kvs,hk⟩|⟨kvs,hk⟩
    ·obtain⟨_,_,_,_,o,_,_,e,ex,_⟩:=I.hok p _ hk;exact⟨o,e,ex⟩
    ·obtain⟨_,_,_,_,o,_,_,e,ex,_⟩:=I.hok p _ hk;exact⟨o,e,ex⟩
   obtain⟨o,e,ex⟩:=z;refine⟨⟨o,e,ex.1⟩,fun a e2=>?_⟩;cases e2;exact⟨o,e,ex.2.1⟩
  ·obtain⟨o,_,_,_,e,ex,_⟩:=I.hok p _ hk;refine⟨⟨o,e,ex.1⟩,fun a e2=>?_⟩;cases e2;exact⟨o,e,ex.2.1⟩
 |_=>exact False.elim ty
def tBM(K:PySem.W.Frag)(T:String)(r:V->List V->Hp->VK->Prop)(to:TE)(t:TA):TE:=fun σ H Q=>to σ H fun x H1=>tyV K T x H1/\t σ H1 fun xs H2=>r x xs H2 Q
variable{o e:Expr}{es:List Expr}{to:TE}{t:TA}{name:Str}{apos cpos:Pos}{T id:String}{r:V->List V->Hp->VK->Prop}
theorem qV(pa:PlainAttrs T)(slot:Slot T name id)(hty:typeOf (.builtin id)=pure (.type "method_descriptor"))(hm:MtR X id r)(ho:PE X o to)(ha:PA X (e::es) t)(hbase:attributeBase o name X.env (eval o X.env)=eval o X.env:=by rfl)(hfew:((backTo cpos (starEach (e::es) X.env)).all (fun x=>!x.1)&&(backToKw cpos (keywordEach [] X.env)).all (fun x=>x.1.isSome)
  &&decide ((e::es).length+([]:List Keyword).length+(if ([]:List Keyword).isEmpty then 0 else 1)<30))=true:=by rfl)(hline:(apos.endLine == cpos.line)=true:=by rfl)(hs:starEach (e::es) X.env=(false,eval e X.env)::starEach es X.env:=by rfl)(hplain:(backTo cpos (starEach es X.env)).any (·.1)=false:=by rfl) :
  PE X (.Call (.Attribute o name apos) (e::es) [] cpos) (tBM X.K T r to t):=by
 intro pins s σ H Q I h;refine wpAny_Call_method_late hbase hfew hline rfl (thn (ho pins s σ H _ I h) fun v s1 hz9=>?_);obtain⟨x,H1,I1,r1,ty,q1⟩:=hz9;obtain⟨h1,h2⟩:=vy I1 r1 ty;refine⟨T,id,pa,slot,hty,h1,h2,?_⟩;have hA:=ha cpos pins s1 σ H1 _ I1 q1;rw[hs]at hA ⊢;refine Calls.callWith_builtin (by show(false ||(backTo cpos (starEach es X.env)).any (·.1))=false;rw[hplain]<;>rfl) (Calls.evalArgs_plain ?_);exact thn hA fun us s2 ⟨vs,H2,I2,r2,q2⟩=>hm pins s2 σ H2 x vs v us Q I2 r1 r2 q2
end
open PySem PySem.Spec PyProof.Rows
def MtM(X:Cx)(id:String)(r:V->List V->Hp->VK->Prop):Prop :=
 ∀(pins:List (Addr×Obj)) (s:Shared) (σ:St) (H:Hp) (x:V) (xs:List V) (v:Value) (us:List Value) (Q:VK),Inv X pins σ H s->RelV x v->Vals xs us->r x xs H Q ->
  wpAny (model X.prog X.w) X.A (call (.builtin id) (v::us)) (EP X pins σ Q) X.xe s
theorem Vals.one:∀{x:V} {us:List Value},Vals [x] us->∃u,us=[u]/\RelV x u
 |_,_,.cons r .nil=>⟨_,rfl,r⟩
section
variable{X:Cx}{pins:List (Addr×Obj)}{σ:St}{H:Hp}{s:Shared}{l b:Addr}{xs ys zs:List V}
theorem Inv.lset{its its':List Value}{n:Nat}{f:Array Value->Array Value}{t':Nat}(I:Inv X pins σ H s)(hH:H l=some (.lst xs))(e:s.heap.get? l=some { cls:=.type "list",data:=.seq its.toArray n })(hf:f its.toArray=its'.toArray)(hv:Vals ys its')(hz:ys.length<=sizeLine) :
  Inv X pins σ (upd H l (.lst ys)) { s with heap:=s.heap.update l (Obj.mapSeq f),toks:=t' }:=by
 have q:=PySem.IsL.update e f;rw[hf]at q;refine I.write (x:=l) (e:=l) (by rw[hH];exact trivial) (.inl rfl) (fun b' u hb hu=>(Heap.get?_update_other s.heap (Obj.mapSeq f) (Ne.symm hb)).trans hu) ⟨_,q⟩ ?_;exact⟨hz,its',_,hv,q⟩
theorem Inv.lstM(I:Inv X pins σ H s)(hH:H l=some (.lst xs)):xs.length<=sizeLine/\∃(its:List Value) (n:Nat),Vals xs its/\xs.length=its.length/\s.heap.get? l=some { cls:=.type "list",data:=.seq its.toArray n }:=by obtain⟨z,its,n,r,e⟩:=I.hok l _ hH;exact⟨z,its,n,r,r.length,e⟩
end
section
variable{X:Cx}
def lA:V->List V->Hp->VK->Prop:=fun x vs H Q=>∃l xs y,x=.ref l/\vs=[y]/\H l=some (.lst xs)/\xs.length<sizeLine/\Q .non (upd H l (.lst (xs++[y])))
theorem nQ:MtM X "list.append" lA:=by intro pins s σ H x vs v us Q I rx rv h;obtain⟨l,xs,y,rfl,rfl,hH,hz,q⟩:=h;cases rx;obtain⟨u,rfl,ru⟩:=rv.one;obtain⟨z,its,n,r,hl,e⟩:=I.lstM hH;refine call_meets F.slot_list_append ⟨_,e,rfl⟩ F.entry_list_append (F.args_list_append_2 _ _) (PySem.list_append l its.toArray n u (by rw[zp];omega)) ⟨e,?_⟩;refine⟨.non,_,I.lset (its':=its++[u]) hH e (by simp) (r.append (.cons ru .nil)) ?_,rfl,q⟩;rw[zt,List.length_singleton];omega
end
open PySem PySem.Spec PyProof.Rows
section
variable{κ:Type}[DecidableEq κ]
def aS(kvs:List (κ×V))(k:κ):Option V:=(kvs.find? fun kv=>decide (kv.1=k)).map (·.2)
def aD(kvs:List (κ×V))(k:κ)(v:V):List (κ×V) :=
 if(kvs.any fun kv=>decide (kv.1=k))=true then kvs.map (fun kv=>if kv.1=k then(kv.1,v)else kv)else kvs++[(k,v)]
theorem eB{p:κ×V}{r:List (κ×V)}{k:κ}(e:p.1=k):aS (p::r) k=some p.2:=by simp[aS,List.find?_cons,e]
theorem cW{p:κ×V}{r:List (κ×V)}{k:κ}(e:¬p.1=k):aS (p::r) k=aS r k:=by simp[aS,List.find?_cons,e]
theorem cB(k:κ):∀kvs:List (κ×V),(kvs.any fun kv=>decide (kv.1=k))=(aS kvs k).isSome
 | []=>rfl
 |p::r=>by
  rw[List.any_cons];by_cases e:p.1=k
  ·simp only[eB e,decide_eq_true e,Bool.true_or,Option.isSome_some]
  ·rw[cW e,decide_eq_false e,Bool.false_or];exact cB k r
theorem fS(kvs:List (κ×V))(k:κ)(v:V):(aD kvs k v).length<=kvs.length+1:=by
 unfold aD;split
 ·rw[zr];omega
 ·rw[zt,Zs,List.length_nil];omega
theorem qv{kvs:List (κ×V)}{k:κ}(v:V)(h:aS kvs k=none):aD kvs k v=kvs++[(k,v)]:=by unfold aD;rw[cB,h];exact if_neg (by decide)
theorem RelO.isSome_eq{o:Option V}{u:Option Value}(r:RelO o u):o.isSome=u.isSome:=by
 cases o with
 |none=>cases u with
  |none=>rfl
  |some _=>exact(show False from r).elim
 |some _=>cases u with
  |none=>exact(show False from r).elim
  |some _=>rfl
theorem KV.val{kvs:List (κ×V)}{vs:List (κ×Value)}(r:KV kvs vs)(k:κ):RelO (aS kvs k) (valueAt vs k):=by
 unfold KV at r;induction r with
 |nil=>exact True.intro
 |@cons p q ps qs h t ih =>
  obtain⟨h1,h2⟩:=h;by_cases e:p.1=k
  ·have e':q.1=k:=h1.symm.trans e;have b:valueAt (q::qs) k=some q.2:=by simp[valueAt,List.find?_cons,e']
   rw[eB e,b];exact h2
  ·have e':¬q.1=k:=fun z=>e (h1.trans z);have b:valueAt (q::qs) k=valueAt qs k:=by simp[valueAt,List.find?_cons,e']
   rw[cW e,b];exact ih
theorem KV.any{kvs:List (κ×V)}{vs:List (κ×Value)}(r:KV kvs vs)(k:κ):(kvs.any fun kv=>decide (kv.1=k))=vs.any fun kv=>decide (kv.1=k):=by
 unfold KV at r;induction r with
 |nil=>rfl
 |cons h t ih=>rw[List.any_cons,List.any_cons,ih,h.1]
theorem KV.repl{kvs:List (κ×V)}{vs:List (κ×Value)}(r:KV kvs vs)(k:κ){y:V}{u:Value}(ry:RelV y u) :
  KV (kvs.map fun kv=>if kv.1=k then(kv.1,y)else kv) (vs.map fun kv=>if kv.1=k then(kv.1,u)else kv):=by
 unfold KV at r ⊢;induction r with
 |nil=>exact .nil
 |@cons p q ps qs h t ih =>
  rw[zn,zn];refine .cons ?_ ih;obtain⟨h1,h2⟩:=h;by_cases e:p.1=k
  ·rw[if_pos e,if_pos (h1.symm.trans e)];exact⟨h1,ry⟩
  ·rw[if_neg e,if_neg (fun z=>e (h1.trans z))];exact⟨h1,h2⟩
theorem KV.put{kvs:List (κ×V)}{vs:List (κ×Value)}(r:KV kvs vs)(k:κ){y:V}{u:Value}(ry:RelV y u):KV (aD kvs k y) (stored vs k u):=by
 unfold aD stored;rw[r.any k];by_cases e:(vs.any fun kv=>decide (kv.1=k))=true
 ·rw[if_pos e,if_pos e];exact r.repl k ry
 ·rw[if_neg e,if_neg e];exact Paired.snoc r ⟨rfl,ry⟩
theorem KV.length{kvs:List (κ×V)}{vs:List (κ×Value)}(r:KV kvs vs):kvs.length=vs.length:=Zn r
end
theorem gP{P:Program}{w:World}{k:Key}{u:Value}(r:RelV (kV k) u):(aZ P w).is k u=true:=by
 cases k with
 |inl i=>obtain⟨t,e⟩:=(show∃t,u=Value.int i t from r);subst e;exact kI P w i t
 |inr x=>obtain⟨t,e⟩:=(show∃t,u=Value.str x t from r);subst e;exact kJ P w x t
theorem iQ{P:Program}{w:World}:∀{ks:List Key} {us:List Value},Vals (ks.map kV) us->ItemsAre (aZ P w) ks us
 | [],_,r=>by rw[List.map_nil]at r;cases r;exact .nil
 |k::ks,_,r=>by
  rw[zn]at r;cases r with
  |cons h t=>exact .cons (gP h) (iQ t)
abbrev KT(H:Hp):List (List Key×V)->List (List Key×Addr×Value)->Prop:=Paired fun p q=>p.1=q.1/\H q.2.1=some (.tup (p.1.map kV))/\RelV p.2 q.2.2
theorem KT.val{H:Hp}{kvs:List (List Key×V)}{xs:List (List Key×Addr×Value)}(r:KT H kvs xs)(k:List Key):RelO (aS kvs k) ((atKey xs k).map (·.2)):=by
 induction r with
 |nil=>exact True.intro
 |@cons p q ps qs h t ih =>
  obtain⟨h1,_,h2⟩:=h;by_cases e:p.1=k
  ·have e':q.1=k:=h1.symm.trans e;have b:atKey (q::qs) k=some q.2:=by simp[atKey,List.find?_cons,e']
   rw[eB e,b];exact h2
  ·have e':¬q.1=k:=fun z=>e (h1.trans z);have b:atKey (q::qs) k=atKey qs k:=by simp[atKey,List.find?_cons,e']
   rw[cW e,b];exact ih
theorem KT.repl{H:Hp}{kvs:List (List Key×V)}{xs:List (List Key×Addr×Value)}(r:KT H kvs xs)(k:List Key){y:V}{u:Value}(ry:RelV y u) :
  KT H (kvs.map fun kv=>if kv.1=k then(kv.1,y)else kv) (xs.map (putAt k u)):=by
 induction r with
 |nil=>exact .nil
 |@cons p q ps qs h t ih =>
  rw[zn,zn];refine .cons ?_ ih;obtain⟨h1,h2,h3⟩:=h;unfold putAt;by_cases e:p.1=k
  ·rw[if_pos e,if_pos (h1.symm.trans e)];exact⟨h1,h2,ry⟩
  ·rw[if_neg e,if_neg (fun z=>e (h1.trans z))];exact⟨h1,h2,h3⟩
theorem KT.put{H:Hp}{kvs:List (List Key×V)}{xs:List (List Key×Addr×Value)}(r:KT H kvs xs)(k:List Key){b:Addr}{y:V}{u:Value}(hb:H b=some (.tup (k.map kV)))(ry:RelV y u) :
  KT H (aD kvs k y) (storedH xs k b u):=by
 have e:(kvs.any fun kv=>decide (kv.1=k))=(atKey xs k).isSome:=by rw[cB,(r.val k).isSome_eq,Option.isSome_map]
 unfold aD storedH;rw[e];by_cases q:(atKey xs k).isSome=true
 ·rw[if_pos q,if_pos q];exact r.repl k ry
 ·rw[if_neg q,if_neg q];exact Paired.snoc r ⟨rfl,hb,ry⟩
theorem KT.keeps{H H':Hp}{kvs:List (List Key×V)}{xs:List (List Key×Addr×Value)}(r:KT H kvs xs)(ht:∀b ys,H b=some (.tup ys)->H' b=some (.tup ys)):KT H' kvs xs :=
 Paired.mapP r fun _ _ z=>⟨z.1,ht _ _ z.2.1,z.2.2⟩
section
variable{P:Program}{w:World}{H:Hp}{h:Heap}{a:Addr}
theorem rc{u:HO}(ok:HOk P w H h)(e:Rd H a u):ObjOk P w H h a u:=e.ok ok
theorem gI{kvs:List (Key×V)}(ok:HOk P w H h)(e:Rd H a (.dK kvs)):kvs.length<=sizeLine/\(a==sysModules)=false/\∃vs,KV kvs vs/\h.DictOf (aZ P w) a vs :=
 show ObjOk P w H h a (.dK kvs)from rc ok e
theorem vO{kvs:List (Key×V)}(ok:HOk P w H h)(e:H a=some (.dK kvs)):kvs.length<=sizeLine/\(a==sysModules)=false/\∃vs,KV kvs vs/\h.DictOf (aZ P w) a vs:=gI ok (.inl e)
theorem eL{ks:List Key}(ok:HOk P w H h)(e:H a=some (.tup (ks.map kV))):(tupleKind (aZ P w)).is h ks a:=by
 obtain⟨_,its,r,o,h1,h2,n,h3⟩:=(show ObjOk P w H h a (.tup (ks.map kV))from ok a _ e)
 exact⟨o,its.toArray,n,h1,h2,h3,by simpa using iQ r⟩
theorem fq{kvs:List (List Key×V)}(ok:HOk P w H h)(e:Rd H a (.dT kvs)):kvs.length<=sizeLine/\(a==sysModules)=false /\
  ∃xs,KT H kvs xs/\h.DictOfH (tupleKind (aZ P w)) a xs:=by
 obtain⟨z,y,xs,r,o,es,ep,h1,h2,h3,h4,h5⟩:=(show ObjOk P w H h a (.dT kvs)from rc ok e)
 refine⟨z,y,xs,r,o,es,ep,h1,h2,h3,h4,fun x hx=>?_,h5⟩;have all:∀{l:List (List Key×V)} {m:List (List Key×Addr×Value)},KT H l m->∀x∈m,(tupleKind (aZ P w)).is h x.1 x.2.1:=by
  intro l m q;induction q with
  |nil=>intro x hx;exact nomatch hx
  |@cons p q ps qs hq t ih =>
   intro x hx;rcases zD.mp hx with e|hx
   ·subst e;exact eL ok (by rw[<-hq.1];exact hq.2.1)
   ·exact ih x hx
 exact all r x hx
theorem vP{kvs:List (List Key×V)}(ok:HOk P w H h)(e:H a=some (.dT kvs)):kvs.length<=sizeLine/\(a==sysModules)=false /\
  ∃xs,KT H kvs xs/\h.DictOfH (tupleKind (aZ P w)) a xs:=fq ok (.inl e)
end
def DGet(H:Hp)(a:Addr)(y:V)(r:Option V):Prop :=
 (∃kvs k,Rd H a (.dK kvs)/\y=kV k/\r=aS kvs k)\/∃kvs k b,Rd H a (.dT kvs)/\y=.ref b/\H b=some (.tup (k.map kV))/\r=aS kvs k
def DPut(H:Hp)(a:Addr)(y v:V)(H':Hp):Prop :=
 (∃kvs k,H a=some (.dK kvs)/\y=kV k/\kvs.length<sizeLine/\H'=upd H a (.dK (aD kvs k v))) \/
 ∃kvs k b,H a=some (.dT kvs)/\y=.ref b/\H b=some (.tup (k.map kV))/\kvs.length<sizeLine/\H'=upd H a (.dT (aD kvs k v))
theorem DGet.t{H:Hp}{a b:Addr}{kvs:List (List Key×V)}{k:List Key}(e:H a=some (.dT kvs))(eb:H b=some (.tup (k.map kV))):DGet H a (.ref b) (aS kvs k):=.inr ⟨kvs,k,b,.inl e,rfl,eb,rfl⟩
theorem DPut.t{H:Hp}{a b:Addr}{kvs:List (List Key×V)}{k:List Key}{v:V}(e:H a=some (.dT kvs))(eb:H b=some (.tup (k.map kV)))(hl:kvs.length<sizeLine) :
  DPut H a (.ref b) v (upd H a (.dT (aD kvs k v))):=.inr ⟨kvs,k,b,e,rfl,eb,hl,rfl⟩
section
variable{X:Cx}{pins:List (Addr×Obj)}{σ:St}{H:Hp}{s:Shared}{a:Addr}{y v:V}{u r:Value}{o:Option V}{A:Around}{E:Value->Shared->Prop}
theorem Inv.big(I:Inv X pins σ H s):sysModules<s.heap.objs.size:=by have h:mainGlobals<s.heap.objs.size:=(I.mod.glob.keeps I.bk).lt;exact Nat.lt_trans (by decide) h
theorem mX{Q:Value->Shared->Prop}(hu:A.units+1<cLine)(I:Inv X pins σ H s)(g:DGet H a y (some v))(ry:RelV y u)(h:∀w' s',Inv X pins σ H s'->RelV v w'->Q w' s') :
  wpAny (model X.prog X.w) A (getItem (.ref a) u) Q E s:=by
 rcases g with⟨kvs,k,e,ey,l⟩|⟨kvs,k,b,e,ey,eb,l⟩
 ·subst ey;obtain⟨z,hd,vs,rel,dd⟩:=gI I.hok e;obtain⟨w',hw,rw'⟩:=RelO.some_of (v:=v) (o:=valueAt vs k) (by rw[l];exact rel.val k);exact wpAny_getItem_of (gP ry) dd.mapOf hw (h w' _ (I.tok _) rw')
 ·subst ey;cases(show u=Value.ref b from ry);obtain⟨z,hd,xs,rel,dd⟩:=fq I.hok e;obtain⟨w',hw,rw'⟩:=RelO.some_of (v:=v) (o:=(atKey xs k).map (·.2)) (by rw[l];exact rel.val k);obtain⟨p,hp,hp2⟩:=ZC.mp hw;refine wpAny_getItem_heap (tupleKind_room_in1 hu) (eL I.hok eb) dd hp ?_;rw[hp2];exact h w' _ (I.tok _) rw'
theorem wQ{Q:Value->Shared->Prop}(hu:A.units+1<cLine)(I:Inv X pins σ H s)(g:DGet H a y o)(ry:RelV y u)(h:∀s',Inv X pins σ H s'->Q (.bool o.isSome) s') :
  wpAny (model X.prog X.w) A (compareOp .In u (.ref a)) Q E s:=by
 rcases g with⟨kvs,k,e,ey,l⟩|⟨kvs,k,b,e,ey,eb,l⟩
 ·subst ey;obtain⟨z,hd,vs,rel,dd⟩:=gI I.hok e;refine wpAny_in_of (gP ry) hd dd.mapOf ?_;rw[<-(rel.val k).isSome_eq,<-l];exact h _ (I.tok _)
 ·subst ey;cases(show u=Value.ref b from ry);obtain⟨z,hd,xs,rel,dd⟩:=fq I.hok e;refine wpAny_in_heap (tupleKind_room_in1 hu) (eL I.hok eb) hd dd ?_;have q:=(rel.val k).isSome_eq;rw[Option.isSome_map]at q;rw[<-q,<-l];exact h _ (I.tok _)
theorem rE{Q:Value->Shared->Prop}(hu:A.units+1<cLine)(I:Inv X pins σ H s)(g:DGet H a y o)(ry:RelV y u)(h:∀s',Inv X pins σ H s'->Q (.bool (!o.isSome)) s') :
  wpAny (model X.prog X.w) A (compareOp .NotIn u (.ref a)) Q E s:=by
 rcases g with⟨kvs,k,e,ey,l⟩|⟨kvs,k,b,e,ey,eb,l⟩
 ·subst ey;obtain⟨z,hd,vs,rel,dd⟩:=gI I.hok e;refine wpAny_notIn_of (gP ry) hd dd.mapOf ?_;rw[<-(rel.val k).isSome_eq,<-l];exact h _ (I.tok _)
 ·subst ey;cases(show u=Value.ref b from ry);obtain⟨z,hd,xs,rel,dd⟩:=fq I.hok e;refine wpAny_notIn_heap (tupleKind_room_in1 hu) (eL I.hok eb) hd dd ?_;have q:=(rel.val k).isSome_eq;rw[Option.isSome_map]at q;rw[<-q,<-l];exact h _ (I.tok _)
theorem kP{h':Heap}{t':Nat}{ob:HO}(I:Inv X pins σ H s)(mu:Mut (H a))(hs:Heap.SameBut a s.heap h')(he:∃q,h'.get? a=some q)(new:ObjOk X.prog X.w (upd H a ob) h' a ob) :
  Inv X pins σ (upd H a ob) { s with heap:=h',toks:=t' } :=
 I.write (x:=a) (e:=a) mu (.inl rfl) (fun b q hb z=>(hs.2 b hb).trans z) he new
theorem ti{P:Program}{w:World}{H':Hp}{h':Heap}{kvs:List (Key×V)}{vs:List (Key×Value)}(z:kvs.length<=sizeLine)(hd:(a==sysModules)=false)(rel:KV kvs vs)(dd:h'.DictOf (aZ P w) a vs) :
  ObjOk P w H' h' a (.dK kvs):=⟨z,hd,vs,rel,dd⟩
theorem mY{H':Hp}{Q:Unit->Shared->Prop}(hu:A.units+1<cLine)(I:Inv X pins σ H s)(g:DPut H a y v H')(ry:RelV y u)(rv:RelV v r)(h:∀s',Inv X pins σ H' s'->Q () s') :
  wpAny (model X.prog X.w) A (setItem (.ref a) u r) Q E s:=by
 rcases g with⟨kvs,k,e,ey,l,eH⟩|⟨kvs,k,b,e,ey,eb,l,eH⟩
 ·subst ey eH;obtain⟨z,hd,vs,rel,dd⟩:=vO I.hok e;have hz:vs.length<=sizeLine:=by rw[<-rel.length];exact z
  have hl:(aD kvs k v).length<=sizeLine:=by have:=fS kvs k v;omega
  refine wpAny_setItem_pairs (hsz:=hz) (gP ry) dd fun h' dd' hs=>h _ ?_;have he:∃q,h'.get? a=some q:=let⟨q,_,_,hq,_⟩:=dd';⟨q,hq⟩
  exact kP I (by rw[e];exact True.intro) hs he (ti hl hd (rel.put k rv) dd')
 ·subst ey eH;cases(show u=Value.ref b from ry);obtain⟨z,hd,xs,rel,dd⟩:=vP I.hok e;have hz:xs.length<=sizeLine:=by rw[<-Zn rel];exact z
  have hl:(aD kvs k v).length<=sizeLine:=by have:=fS kvs k v;omega
  refine wpAny_setItem_heap (hsz:=hz) (tupleKind_room_in1 hu) (eL I.hok eb) dd fun h' dd' hs=>h _ ?_;obtain⟨q,es,ep,hq,h2,h3,h4,_,h5⟩:=dd';refine kP I (by rw[e];exact True.intro) hs ⟨q,hq⟩ ⟨hl,hd,_,(rel.put k eb rv).keeps fun c ys ec=>?_,q,es,ep,hq,h2,h3,h4,h5⟩;rw[af (dg ec e (fun z=>nomatch z))];exact ec
end
def pA(i:Expr):Prop:=∀ov iv,subscripted i false ov iv=operate [ov,iv] (getItem ov iv)
theorem sK{prog:Program}{w:World}{A:Around}{E:Value->Shared->Prop}{s:Shared}{env:Env}{value slice:Expr}{pos:Pos}{T id:String}{Q:Value->Shared->Prop}(hl:typeLookup (.type T) "__getitem__" = pure (some (.builtin id)))(hs:pA slice)(h:wpAny (model prog w) A (eval value env) (fun o s₁=>wpAny (model prog w) A (eval slice env) (fun i s₂=>s₂.TypeIs o T/\wpAny (model prog w) A (getItem o i) Q E s₂) E s₁) E s) :
  wpAny (model prog w) A (eval (.Subscript value slice pos) env) Q E s:=by
 refine Subscript_ (Zx h (fun o s₁ h₁=>Zx h₁ (fun i s₂ h₂=>?_) fun _ _ x=>x) fun _ _ x=>x);obtain⟨hT,h₂⟩:=h₂;unfold subscriptTail;refine zd ?_;rw[getitemInPython_of_ne hT.not_modules];refine zd (wpAny_specialOf hT hl ?_);have fin:wpAny (model prog w) A (subscripted slice false o i) (fun r s₃=>wpAny (model prog w) A (letTemporaryGo value o r >>= fun _=>pure r) Q E s₃) E s₂:=by rw[hs o i];exact wpAny_operating (Zx h₂ (fun r s₃ h₃=>zd (wpAny_letTemporaryGo (zi h₃))) fun _ _ x=>x)
 first
  |exact zi (zd fin)
  |exact zd (zi (zd fin))
  |exact zd fin
theorem kH{X:Cx}{pins:List (Addr×Obj)}{σ:St}{H:Hp}{s:Shared}{a:Addr}{y:V}{o:Option V}(I:Inv X pins σ H s)(g:DGet H a y o):s.TypeIs (.ref a) "dict":=by
 rcases g with⟨kvs,k,e,_,_⟩|⟨kvs,k,b,e,_,_,_⟩
 ·obtain⟨_,_,vs,_,dd⟩:=gI I.hok e;exact dd.typeIs
 ·obtain⟨_,_,xs,_,dd⟩:=fq I.hok e;exact dd.typeIs
def rh(td ty:TE):TE:=fun σ H Q=>td σ H fun x H1=>ty σ H1 fun y H2=>∃a v,x=.ref a/\DGet H2 a y (some v)/\Q v H2
def vm(ty td:TE):TE:=fun σ H Q=>ty σ H fun y H1=>td σ H1 fun x H2=>∃a o,x=.ref a/\DGet H2 a y o/\Q (.bl o.isSome) H2
def lL(ty td:TE):TE:=fun σ H Q=>ty σ H fun y H1=>td σ H1 fun x H2=>∃a o,x=.ref a/\DGet H2 a y o/\Q (.bl (!o.isSome)) H2
def rd(td ty tv:TE):TS:=fun D σ H=>tv σ H fun v H1=>td σ H1 fun x H2=>ty σ H2 fun y H3=>∃a H4,x=.ref a/\DPut H3 a y v H4/\D.nx σ H4
section
variable{X:Cx}{o i e value:Expr}{pos pos' tpos:Pos}{td ty tv:TE}
theorem sf(hu:X.A.units+1<cLine)(ho:PE X o td)(hi:PE X i ty)(hs:pA i):PE X (.Subscript o i pos) (rh td ty):=by intro pins s σ H Q I h;refine sK PySem.F.slot_dict_getitem.lookup hs (thn (ho pins s σ H _ I h) fun u s1 ⟨x,H1,I1,rx,q1⟩=>thn (hi pins s1 σ H1 _ I1 q1) fun iv s2 hz9=>?_);obtain⟨y,H2,I2,ry,a,v,ex,g,q2⟩:=hz9;subst ex;obtain rfl:u=Value.ref a:=rx;exact⟨kH I2 g,mX hu I2 g ry fun w' s3 I3 rw'=>⟨v,H2,I3,rw',q2⟩⟩
theorem uo(hu:X.A.units+1<cLine)(hi:PE X i ty)(ho:PE X o td):PC X .In i o (vm ty td):=by intro pins s σ H Q I h;refine thn (hi pins s σ H _ I h) fun iv s1 ⟨y,H1,I1,ry,q1⟩=>thn (ho pins s1 σ H1 _ I1 q1) fun u s2 hz9=>?_;obtain⟨x,H2,I2,rx,a,ov,ex,g,q2⟩:=hz9;subst ex;obtain rfl:u=Value.ref a:=rx;exact wQ hu I2 g ry fun s3 I3=>⟨.bl ov.isSome,H2,I3,rfl,q2⟩
theorem oo(hu:X.A.units+1<cLine)(hi:PE X i ty)(ho:PE X o td):PC X .NotIn i o (lL ty td):=by intro pins s σ H Q I h;refine thn (hi pins s σ H _ I h) fun iv s1 ⟨y,H1,I1,ry,q1⟩=>thn (ho pins s1 σ H1 _ I1 q1) fun u s2 hz9=>?_;obtain⟨x,H2,I2,rx,a,ov,ex,g,q2⟩:=hz9;subst ex;obtain rfl:u=Value.ref a:=rx;exact rE hu I2 g ry fun s3 I3=>⟨.bl (!ov.isSome),H2,I3,rfl,q2⟩
theorem sw(hu:X.A.units+1<cLine)(ho:PE X o td)(hi:PE X i ty)(hv:PE X value tv)(hs:swapsWith value (some (.Subscript o i pos')) pos.line X.env=pure false) :
  PS X (.Assign [.Subscript o i pos'] value pos) (rd td ty tv):=by
 intro pins s σ H D I h;refine wpAny_Assign_Subscript (thn (hv pins s σ H _ I h) fun r s1 ⟨v,H1,I1,rv,q1⟩=>thn (ho pins s1 σ H1 _ I1 q1) fun u s2 ⟨x,H2,I2,rx,q2⟩=>thn (hi pins s2 σ H2 _ I2 q2) fun iv s3 hz9=>?_) hs;obtain⟨y,H3,I3,ry,a,H4,ex,g,q3⟩:=hz9;subst ex;obtain rfl:u=Value.ref a:=rx;exact mY hu I3 g ry rv fun s4 I4=>⟨σ,H4,I4,q3⟩
end
theorem pK{P:Program}{w:World}{H:Hp}(h:Heap)(hb:sysModules<h.objs.size):ObjOk P w H (h.push { cls:=.type "dict",data:=.dict #[] }) h.objs.size (.dT []) :=
 ⟨zR _,beq_eq_false_iff_ne.mpr (Ne.symm (zJ hb)),[],.nil,_,#[],0,zw _ rfl,⟨rfl,rfl,rfl⟩,rfl,rfl,List.nodup_nil⟩
def oN:TE:=fun _ H Q=>∀p,H p=none->Q (.ref p) (upd H p (.dT []))
section
variable{X:Cx}{pos:Pos}
theorem qi:PE X (.Dict [] [] pos) oN:=fun pins s σ H Q I h =>
 wpAny_Dict_empty ⟨.ref s.heap.objs.size,_,I.laid (a:=s.heap.objs.size) (o:=.dT []) (t':=s.toks) (fun _ _ q=>ze _ q) (zh _) (pK s.heap I.big),rfl,h _ (I.hok.fresh (zh _))⟩
end
def oO:List (TE×TE)->St->Hp->(List (V×V)->Hp->Prop)->Prop
 | [],_,H,Q=>Q [] H
 |(tk,tv)::r,σ,H,Q=>tk σ H fun x H1=>tv σ H1 fun y H2=>oO r σ H2 fun ps H3=>Q ((x,y)::ps) H3
abbrev VV:List (V×V)->List (Value×Value)->Prop:=Paired fun p q=>RelV p.1 q.1/\RelV p.2 q.2
def PPs(X:Cx)(pos:Pos)(keys:List (Option Expr))(values:List Expr)(trs:List (TE×TE)):Prop :=
 ∀(pins:List (Addr×Obj)) (s:Shared) (σ:St) (H:Hp) (Q:List (V×V)->Hp->Prop),Inv X pins σ H s->oO trs σ H Q ->
  wpAny (model X.prog X.w) X.A (evalPairs (pairTrees keys values X.env pos)) (fun vs s'=>∃ps H',Inv X pins σ H' s'/\VV ps vs/\Q ps H') X.xe s
structure M1(X:Cx)(o:Expr)(m:Str)(apos:Pos)(e:Expr)(cpos:Pos):Prop where
 base:attributeBase o m X.env (eval o X.env)=eval o X.env
 few:((backTo cpos (starEach [e] X.env)).all (fun x=>!x.1)&&(backToKw cpos (keywordEach [] X.env)).all (fun x=>x.1.isSome)
 &&decide (([e]:List Expr).length+([]:List Keyword).length+(if ([]:List Keyword).isEmpty then 0 else 1)<30))=true
 line:(apos.endLine==cpos.line)=true
 trees:backTo cpos (starEach [e] X.env)=[(false,eval e X.env)]
structure M2(X:Cx)(o:Expr)(m:Str)(apos:Pos)(e f:Expr)(cpos:Pos):Prop where
 base:attributeBase o m X.env (eval o X.env)=eval o X.env
 few:((backTo cpos (starEach [e,f] X.env)).all (fun x=>!x.1)&&(backToKw cpos (keywordEach [] X.env)).all (fun x=>x.1.isSome)
 &&decide (([e,f]:List Expr).length+([]:List Keyword).length+(if ([]:List Keyword).isEmpty then 0 else 1)<30))=true
 line:(apos.endLine==cpos.line)=true
 trees:backTo cpos (starEach [e,f] X.env)=[(false,eval e X.env),(false,eval f X.env)]
end L2
namespace Att
open PySem PySem.W PySem.Calls PyProof.Rows
theorem gN{P:Params}{h:Heap}:∀(ns:List Int) (vs:List Value),WellAll P h vs (ns.map WData.int)->IntsAre vs ns:=by
 intro ns;induction ns with
 |nil =>intro vs w;rw[List.map_nil]at w;cases w;exact .nil
 |cons n ns ih =>
  intro vs w;rw[zn]at w;cases w with
  |cons a b =>cases a;exact .cons _ _ (ih _ b)
theorem oG{l:OpenLaw}{n:Nat}(hn:l.most=some n){P:Params}{h:Heap}{args:List WData}{vals:List Value}(hpre:l.row.toRowW.claim.pre args=true)(hwl:WellAll P h vals args) :
  ∃a vs ns,vals=[Value.ref a]/\args=[WData.list (ns.map WData.int)]/\h.get? a=some { cls:=.type "list",data:=.seq vs.toArray }/\IntsAre vs ns/\ns.length<=n:=by
 have hsh:WShape.hasAll [] args [.list .int]=true:=(pre_splitW hpre).1;have hc:l.pre.holds [] { args:=args }=true:=(pre_splitW hpre).2;obtain⟨d,r,rfl,h1,h2⟩:=hasAllW_cons hsh;obtain rfl:=hasAllW_nil h2;obtain⟨xs,rfl,h3⟩:=hasW_list h1;obtain⟨ns,rfl⟩:=items_int h3;have hlen:ns.length<=n:=by
  unfold OpenLaw.pre at hc;have h4:(WTm.not (.lt (.lit (.int (n:Int))) (.len (.arg 0)))).holds [] { args:=[.list (ns.map .int)] }=true:=by have h4:=(holds_andW hc).1;rw[hn]at h4;exact h4
  have h5:=condW_of h4 (w_not (w_lt w_lit (w_len_list (w_arg rfl))));rw[zr]at h5;refine Nat.le_of_not_lt fun q=>?_;have q':(n:Int)<((ns.length:Nat):Int):=by omega
  first
   |(rw[decide_eq_true q']at h5;exact absurd h5 (by decide))
   |(simp at h5;omega)
 cases hwl with
 |cons w1 w2 =>
  cases w2;cases w1 with
  |list ho hall=>exact⟨_,_,ns,rfl,rfl,ho,gN ns _ hall,hlen⟩
theorem ox(l:OpenLaw)(args:List WData):l.row.toRowW.claim.post args (.bool true) args=true :=
 postW_of (r:=l.row.toRowW) (X:=(true==true))
  (show WShape.has [] (.bool true) .bool=true by first|rfl|decide|simp[WShape.has,WShape.arms,WShape.armsAll])
  (show(WTm.eq .res (.lit (.bool true))).value [] { args:=args,res:=some (.bool true),after:=args }=some (.bool (true==true))from w_eq_bool (w_res rfl) w_lit) rfl
theorem attach_call{l:OpenLaw}{n:Nat}{q:Program}{loose:List Str}{XP:(Str->Option Value)->Heap->Prop}{YP:World->Heap->Prop}{d:DefRec}(hn:l.most=some n)(hdf:d.params.defaults=[])(call:∀ (w:World) (s₀ s₁:Shared) (mg mb:Str->Option Value) (fa:Addr) (o:Obj) (pm cd doc:Value) (a:Addr) (vs:List Value) (ns:List Int),
   Ground q loose [] XP w s₀ mg mb s₁.heap->YP w s₁.heap ->
   s₁.heap.get? fa=some o->o.data=.func (docDef d.name d.params d.body d.scope pm cd doc)->s₁.heap.CodeRec cd d.name->mg d.name=some (.ref fa) ->
   s₁.heap.get? a=some { cls:=.type "list",data:=.seq vs.toArray }->IntsAre vs ns->ns.length<=n->s₁.gens=#[] ->
   codeAny (model l.prog w) callerA (.call (.ref fa) ⟨[.ref a],[]⟩) (fun r s'=>r=.ok (.ret (.bool true))/\OldK s₁.heap s'.heap/\s'.os=s₁.os/\AllBare s'.gens) s₁) :
  WalkO q loose XP YP l.row.toRowW d [] (fun f vs=>PySem.call f vs):=by
 intro w s₀ s₁ mg mb G Y fa o pm cd doc dV kV ho hd hcd hD hmg hg args vals as hpre hlay hrd hwl hlo;obtain rfl:dV=.none:=Dflts.none hD hdf;obtain rfl:kV=.none:=Dflts.noKw hD;obtain⟨a,vs,ns,rfl,rfl,hobj,hints,hlen⟩:=oG hn hpre hwl;refine enter_call (codeAny_mono (call w s₀ s₁ mg mb fa o pm cd doc a vs ns G Y ho (fd_plain hd) hcd hmg hobj hints hlen hg) fun r s' hq=>?_);obtain⟨rfl,h2,h3,h4⟩:=hq;exact⟨.inl ⟨.bool true,.bool true,[],rfl,fun _=>rfl,.bool true,ox l _,fun _=>⟨List.Pairwise.nil,fun _ hm=>(nomatch hm)⟩⟩,h2,h3,h4⟩
end Att
namespace L2
open PySem PySem.Spec PyProof.Rows
theorem iX:∀{vs:List Value} {ns:List Int},IntsAre vs ns->Vals (ns.map V.int) vs
 |_,_,.nil=>.nil
 |_,_,.cons n t h=>.cons ⟨t,rfl⟩ (iX h)
def pC(H:Hp):Prop:=∀b,H b=none\/∃o xs,H b=some (.frz o (.lst xs))
theorem pW{P:Program}{w:World}{K:PySem.W.Frag}{mg mb:Str->Option Value}{CX:CXT}{k:Nat}{fa a:Addr}{fd:FuncData}{x:Str}{sp:Sp}{s₁:Shared}{vs:List Value}{ns:List Int}(KX:K.In s₁.heap)(hns:s₁.heap.Ns mainGlobals mg)(hb:s₁.heap.Ns builtinsNs mb)(hbb:∀x:Str,x≠"__name__"->mb x=bootBuiltins x)(hlim:s₁.heap.NoLimit)(hg:s₁.gens=#[])(ha:s₁.heap.get? a=some { cls:=.type "list",data:=.seq vs.toArray })(hi:IntsAre vs ns)(hl:ns.length<=sizeLine)(hr:Room k callerA)(F:∀base:Heap,K.In base->base.Ns mainGlobals mg->FnOk P w K mg base CX k fa fd [x] sp)(hbind:∀(s:Shared) (u:Value),BindsTo s fd ⟨[u],[]⟩ [(x,u)])(hsp:∀H:Hp,pC H->SqL K H a (ns.map V.int)->sp [.ref a] H (fun v _=>v=.bl true) fun _ _ _=>False)(hCX:∀H e s',CX [] H s₁ (fun _ _ _=>False) e s'->False) :
  codeAny (model P w) callerA (.call (.ref fa) ⟨[.ref a],[]⟩) (fun r s'=>r=.ok (.ret (.bool true))/\OldK s₁.heap s'.heap/\s'.os=s₁.os/\AllBare s'.gens) s₁:=by
 have rv:=iX hi;have lenV:=hi.length;have core:∀H:Hp,pC H->SqL K H a (ns.map V.int)->HOk P w H s₁.heap->(∀b,H b≠none->b=a)->(H a≠none->K.lookup a=none) ->
   codeAny (model P w) callerA (.call (.ref fa) ⟨[.ref a],[]⟩) (fun r s'=>r=.ok (.ret (.bool true))/\OldK s₁.heap s'.heap/\s'.os=s₁.os/\AllBare s'.gens) s₁:=by
  intro H hO hS hok hA hK;have base_of:∀{b:Addr} {o:Obj},s₁.heap.get? b=some o->H b=none->(dU s₁.heap H).get? b=some o:=fun e n=>pR e n;have noA:∀{b:Addr} {o:Obj} {es:Array DictEntry} {ep:Nat},s₁.heap.get? b=some o->o.data=.dict es ep->H b=none:=fun{b o es ep} e d=>by
   cases q:H b with
   |none=>rfl
   |some u =>have e':b=a:=hA b (by rw[q];simp);subst e';rw[ha]at e;cases e;have d':Data.seq vs.toArray _=Data.dict es ep:=d;cases d'
  have nsK:∀{b:Addr} {m:Str->Option Value},s₁.heap.Ns b m->(dU s₁.heap H).Ns b m:=fun{b m} ⟨o,es,ep,e,d,r⟩=>⟨o,es,ep,base_of e (noA e d),d,r⟩
  have hKb:K.In (dU s₁.heap H):=fun b o e=>base_of (KX b o e) (by
   cases q:H b with
   |none=>rfl
   |some u =>
    have e':b=a:=hA b (by rw[q];simp);subst e';rw[hK (by rw[q];simp)]at e;cases e)
  have hM:Mod K mg (dU s₁.heap H):=⟨hKb,nsK hns,⟨mb,nsK hb,hbb⟩,let⟨mc,h1,h2⟩:=hlim;⟨mc,nsK h1,h2⟩⟩
  have e0:Env0 P w K mg (dU s₁.heap H) callerA [] s₁ H:=⟨rfl,hM,fun b o e=>rQ e,Nat.le_of_eq (nC _ _),trivial,fun b hb=>absurd (show b∈([]:List Addr)from hb) (by simp),hok,.of_eq hg⟩
  refine codeAny_mono ((F _ hKb (nsK hns)).run callerA [] s₁ H ⟨[.ref a],[]⟩ [.ref a] [.ref a] _ _ hr e0 (hbind s₁ (.ref a)) (.cons rfl .nil) (hsp H hO hS)) fun r s' h=>?_;cases r with
  |error e=>exact(hCX H e s' h).elim
  |ok fl =>
   cases fl with
   |next=>exact False.elim h
   |brk=>exact False.elim h
   |cont=>exact False.elim h
   |ret u =>
    obtain⟨v,H',os,bare,un,hok',r',q⟩:=h;have q':v=.bl true:=q;subst q';obtain rfl:u=Value.bool true:=r';refine⟨rfl,OldK.of_keep fun b o e=>?_,os,bare⟩;cases q:H b with
    |none=>exact un.keep b o e q (by intro z;exact absurd (show b∈([]:List Addr)from z) (by simp)) (by simp)
    |some u =>
     rcases hO b with z|⟨ob,xs,z⟩
     ·rw[q]at z;cases z
     ·have z2:=un.frzs b ob _ z;obtain⟨e1,_⟩:=hok b _ z;obtain⟨e2,_⟩:=hok' b _ z2;rw[e]at e1;cases e1;exact e2
 cases hk:K.lookup a with
 |some o =>have e:=KX a o hk;rw[ha]at e;cases e;refine core (fun _=>none) (fun _=>.inl rfl) (.inr ⟨_,vs.toArray,_,hk,rfl,rfl,rfl,by rw[zp,lenV];exact hl,by simpa using rv⟩) (fun b u z=>by have z':(none:Option HO)=some u:=z;cases z') (fun b z=>absurd rfl z) fun z=>absurd rfl z
 |none =>
  refine core (fun b=>if b=a then some (.frz { cls:=.type "list",data:=.seq vs.toArray } (.lst (ns.map V.int)))else none) (fun b=>?_) (.inl (.inr ⟨{ cls:=.type "list",data:=.seq vs.toArray },if_pos rfl⟩)) (fun b u z=>?_) (fun b z=>?_) fun _=>hk
  ·by_cases hb:b=a
   ·exact .inr ⟨_,_,if_pos hb⟩
   ·exact .inl (if_neg hb)
  ·by_cases hb:b=a
   ·have z':=(if_pos hb).symm.trans z;cases z';subst hb;exact⟨ha,by rw[zr];exact hl,vs,_,rv,ha⟩
   ·have z':=(if_neg hb).symm.trans z;cases z'
  ·by_cases hb:b=a
   ·exact hb
   ·exact absurd (if_neg hb) z
open PySem PySem.Spec PyProof.Rows
theorem sM{l:PySem.W.OpenLaw}{n k:Nat}{q:Program}{loose:List Str}{XP:(Str->Option Value)->Heap->Prop}{YP:World->Heap->Prop}{d:DefRec}{K:Params->PySem.W.Frag}{CX:World->CXT}{sp:World->Sp}{x:Str}(hn:l.most=some n)(hn2:n<=sizeLine)(hdf:d.params.defaults=[])(hr:Room k callerA)(hY:∀ (w:World) (h:Heap),YP w h->(K w.params).In h)(F:∀ (w:World) (mg:Str->Option Value) (fa:Addr) (h:Heap),(K w.params).In h->h.Ns mainGlobals mg->mg d.name=some (.ref fa) ->
   ∃fd:FuncData,(∀(s:Shared) (u:Value),BindsTo s fd ⟨[u],[]⟩ [(x,u)]) /\
    ∀ base:Heap,(K w.params).In base->base.Ns mainGlobals mg->FnOk l.prog w (K w.params) mg base (CX w) k fa fd [x] (sp w))(hsp:∀ (w:World) (H:Hp) (a:Addr) (ns:List Int),ns.length<=n->pC H->SqL (K w.params) H a (ns.map V.int)->sp w [.ref a] H (fun v _=>v=.bl true) fun _ _ _=>False)(hCX:∀ (w:World) (H:Hp) (s:Shared) (e:Value) (s':Shared),CX w [] H s (fun _ _ _=>False) e s'->False) :
  PySem.W.WalkO q loose XP YP l.row.toRowW d [] (fun f vs=>PySem.call f vs):=by
 refine Att.attach_call hn hdf fun w s₀ s₁ mg mb fa o pm cd doc a vs ns G Y ho hd hcd hmg hobj hints hlen hg=>?_;have KX:=hY w _ Y;obtain⟨fd,hb,hF⟩:=F w mg fa _ KX G.T.g hmg;exact pW KX G.T.g G.T.b G.T.builtins G.T.nolimit hg hobj hints (zS hlen hn2) hr hF hb (fun H hO hS=>hsp w H a ns hlen hO hS) fun H e s'=>hCX w H s₁ e s'
open PySem PySem.Spec PyProof.Rows
def bq(s:Stmt)(j:Nat):Stmt:=match s with
 |.ClassDef _ _ _ body _ _ _ _ _ _ _=>body.getD j (.Pass ⟨0,0,0,0⟩)
 |_=>.Pass ⟨0,0,0,0⟩
def bG(s:Stmt):Arguments:=match s with
 |.FunctionDef _ a _ _ _ _ _ _ _ _=>a
 |_=>{ posonlyargs:=[],args:=[],vararg:=none,kwonlyargs:=[],kw_defaults:=[],kwarg:=none,defaults:=[] }
def bo(s:Stmt):List Stmt:=match s with
 |.FunctionDef _ _ b _ _ _ _ _ _ _=>b
 |_=>[]
def ak(s:Stmt):Scope:=match s with
 |.FunctionDef _ _ _ _ _ _ sc _ _ _=>sc
 |_=>{ kind:=.function,names:=[],isGenerator:=false,isCoroutine:=false }
abbrev CX0:CXT:=fun _ _ _ _ _ _=>False
abbrev E0:XK:=fun _ _ _=>False
theorem jn{X:Cx}:cQ CX0 X E0:=fun _ _ _ _ _ _ _ h=>h.elim
structure Fun(K:PySem.W.Frag)(x qual:Str)(st:Stmt)(f:Addr)(fd:FuncData):Prop where
 ex:∃(oc:Value) (od:Option Addr) (kV doc pm:Value) (an:Option Addr) (cdv ct:Value) (osl:Array (Option Value)),
  fd=PySem.W.fnOf x qual (bG st) (bo st) (ak st) .none kV doc pm an cdv ct/\K.lookup f=some ⟨oc,od,.func fd,osl⟩/\PySem.W.codeIn K cdv qual=true
 kp:PySem.W.keepIn K (.ref f)=true
section
variable{P:Program}{w:World}{K:PySem.W.Frag}{mg:Str->Option Value}{base:Heap}
theorem Fun.ok{x qual:Str}{st:Stmt}{f:Addr}{fd:FuncData}{N ps:List Str}{k:Nat}{sp:Sp}(F:Fun K x qual st f fd)(S:FnScope N ps (ak st))(len:∀ vs H Q E,sp vs H Q E->vs.length=ps.length)(hbody:∀ (cdv:Value) (A:Around) (outer:List Env) (s:Shared) (H:Hp) (vs:List V) (Q:VK) (E:XK),Room k (A.deeper (envOfC qual (ak st) s.heap.objs.size f cdv))->sp vs H Q E ->
   ∃ t,PSs (dO CX0 P w K mg base N qual (ak st) f cdv A outer s H E).nox (bo st) t/\t { nx:=fun _ H'=>Q .non H',rt:=Q } (start N vs) H):FnOk P w K mg base CX0 (k+1) f fd ps sp:=by
 obtain⟨oc,od,kV,doc,pm,an,cdv,ct,osl,rfl,lk,hcd⟩:=F.ex;refine vQ lk hcd S len fun A outer s H vs Q E hr hsp=>?_;obtain⟨t,h,q⟩:=hbody cdv A outer s H vs Q E hr hsp;exact⟨t,h.nox,q⟩
theorem Fun.binds{x qual:Str}{st:Stmt}{f:Addr}{fd:FuncData}{ps:List Str}(F:Fun K x qual st f fd)(h:∀(kV doc pm:Value) (an:Option Addr) (cdv ct:Value) (us:List Value),us.length=ps.length->bindArgs (PySem.W.fnOf x qual (bG st) (bo st) (ak st) .none kV doc pm an cdv ct) ⟨us,[]⟩=pure (ps.zip us)):Binds K fd ps []:=by obtain⟨oc,od,kV,doc,pm,an,cdv,ct,osl,rfl,lk,hcd⟩:=F.ex;exact .all (h kV doc pm an cdv ct)
theorem nz{x qual:Str}{st:Stmt}{f:Addr}{oc:Value}{od an:Option Addr}{osl:Array (Option Value)}{kV doc pm cdv ct:Value}(l:K.lookup f=some ⟨oc,od,.func (PySem.W.fnOf x qual (bG st) (bo st) (ak st) .none kV doc pm an cdv ct),osl⟩)(c:PySem.W.codeIn K cdv qual=true)(k:PySem.W.keepIn K (.ref f)=true):Fun K x qual st f (PySem.W.fnOf x qual (bG st) (bo st) (ak st) .none kV doc pm an cdv ct):=⟨⟨oc,od,kV,doc,pm,an,cdv,ct,osl,rfl,l,c⟩,k⟩
end
theorem aP{n:Nat}(h:n<=1000):n<sizeLine:=Nat.lt_of_le_of_lt h (by decide)
theorem aO{A B:Prop}(h:B):if false=true then A else B:=by rw[if_neg zo];exact h
theorem cR{A B:Prop}(h:A):if true=true then A else B:=by rw[if_pos rfl];exact h
theorem wR{c A B:Prop}[Decidable c](h1:c->A)(h2:¬c->B):if c then A else B:=by
 by_cases h:c
 ·rw[if_pos h];exact h1 h
 ·rw[if_neg h];exact h2 h
theorem fw{c A B:Prop}[Decidable c](hc:c)(h:B):if(!decide c)=true then A else B:=by rw[decide_eq_true hc];exact aO h
def Same(H H':Hp):Prop:=∀b o,H b=some o->H' b=some o
theorem Same.refl(H:Hp):Same H H:=fun _ _ h=>h
theorem Same.trans{H H1 H2:Hp}(a:Same H H1)(b:Same H1 H2):Same H H2:=fun c o h=>b c o (a c o h)
theorem Same.free{H H':Hp}(e:Same H H'){l:Addr}(h:H' l=Option.none):H l=Option.none:=by
 cases q:H l with
 |none=>rfl
 |some o =>rw[e l o q]at h;cases h
theorem Same.seq{K:PySem.W.Frag}{H H':Hp}{a:Addr}{xs:List V}(e:Same H H')(h:SqL K H a xs):SqL K H' a xs:=by
 rcases h with(h|⟨o,h⟩)|h
 ·exact .inl (.inl (e _ _ h))
 ·exact .inl (.inr ⟨o,e _ _ h⟩)
 ·exact .inr h
open PySem PySem.Spec PyProof.Rows
section
variable{κ:Type}[DecidableEq κ]
theorem qI{kvs:List (κ×V)}{k:κ}(h:aS kvs k=none):¬k∈kvs.map (·.1):=by intro m;obtain⟨p,hp,e⟩:=List.mem_map.mp m;have q:(kvs.any fun kv=>decide (kv.1=k))=true:=List.any_eq_true.mpr ⟨p,hp,decide_eq_true e⟩;rw[cB,h]at q;exact absurd q (by simp)
theorem iI{kvs:List (κ×V)}{k:κ}{v:V}(h:aS kvs k=some v):k∈kvs.map (·.1):=by
 have q:(kvs.any fun kv=>decide (kv.1=k))=true:=by
  rw[cB,h]
  all_goals rfl
 obtain⟨p,hp,e⟩:=List.any_eq_true.mp q;exact List.mem_map.mpr ⟨p,hp,of_decide_eq_true e⟩
end
open PySem PySem.Spec PyProof.Rows
theorem dI{env:Env}:∀{names:List (Str×NameKind)} {x:Str} {k:NameKind},
  (names.map fun(n,k)=>if(k==NameKind.free&&env.scope.kind == .function&&env.kindOf n==some .cell)then(n,NameKind.cell)else(n,k)).lookup x=some k ->
  ∃k',names.lookup x=some k'/\(k=k'\/(k'=.free/\k=.cell))
 | [],_,_,h=>by simp at h
 |(n,k0)::r,x,k,h=>by
  have ih:=@dI env r x k;rw[zn]at h;by_cases hc:(k0==NameKind.free&&env.scope.kind == .function&&env.kindOf n==some .cell)=true
  ·have e:(if(k0==NameKind.free&&env.scope.kind == .function&&env.kindOf n==some .cell)=true then(n,NameKind.cell)else(n,k0))=(n,NameKind.cell):=if_pos hc;simp only[e]at h;cases hx:x==n with
   |true =>
    simp only[zQ,hx]at h ⊢;have hf:k0=.free:=by have:=hc;simp only[zL,ZK]at this;exact this.1.1
    exact⟨k0,rfl,.inr ⟨hf,(zE h).symm⟩⟩
   |false =>simp only[zQ,hx]at h ⊢;exact ih h
  ·have e:(if(k0==NameKind.free&&env.scope.kind == .function&&env.kindOf n==some .cell)=true then(n,NameKind.cell)else(n,k0))=(n,k0):=if_neg hc;simp only[e]at h;cases hx:x==n with
   |true =>simp only[zQ,hx]at h ⊢;exact⟨k0,rfl,.inl (zE h).symm⟩
   |false =>simp only[zQ,hx]at h ⊢;exact ih h
theorem eS{env:Env}:∀{names:List (Str×NameKind)} {x:Str},names.lookup x=some .free ->
  (names.map fun(n,k)=>if(k==NameKind.free&&env.scope.kind == .function&&env.kindOf n==some .cell)then(n,NameKind.cell)else(n,k)).lookup x=some .cell \/
  (names.map fun(n,k)=>if(k==NameKind.free&&env.scope.kind == .function&&env.kindOf n==some .cell)then(n,NameKind.cell)else(n,k)).lookup x=some .free
 | [],_,h=>by simp at h
 |(n,k0)::r,x,h=>by
  have ih:=@eS env r x;rw[zn];by_cases hc:(k0==NameKind.free&&env.scope.kind == .function&&env.kindOf n==some .cell)=true
  ·have e:(if(k0==NameKind.free&&env.scope.kind == .function&&env.kindOf n==some .cell)=true then(n,NameKind.cell)else(n,k0))=(n,NameKind.cell):=if_pos hc;simp only[e];cases hx:x==n with
   |true =>
    simp only[zQ,hx]at h ⊢
    first|exact .inl rfl|exact .inl trivial
   |false =>simp only[zQ,hx]at h ⊢;exact ih h
  ·have e:(if(k0==NameKind.free&&env.scope.kind == .function&&env.kindOf n==some .cell)=true then(n,NameKind.cell)else(n,k0))=(n,k0):=if_neg hc;simp only[e];cases hx:x==n with
   |true =>simp only[zQ,hx]at h ⊢;exact .inr h
   |false =>simp only[zQ,hx]at h ⊢;exact ih h
def aX(env:Env):List (Str×NameKind)->List (Str×Addr)->List (Str×Addr)
 | [],acc=>acc
 |y::r,acc=>if(y.2==NameKind.free)=true then aX env r ((y.1,(env.cells.lookup y.1).getD 0)::acc)else aX env r acc
theorem im{env:Env}:∀{names:List (Str×NameKind)} {acc:List (Str×Addr)},(∀y∈names,y.2=.free->∃c,env.cells.lookup y.1=some c) ->
  (forIn names acc fun(x:Str×NameKind) (cs:List (Str×Addr))=>if(x.2==NameKind.free)=true then do let c ←cellOf env x.1;pure (ForInStep.yield ((x.1,c)::cs))else pure (ForInStep.yield cs):Sem (List (Str×Addr)))=pure (aX env names acc)
 | [],_,_=>rfl
 |y::r,acc,h=>by
  rw[List.forIn_cons];by_cases hy:(y.2==NameKind.free)=true
  ·obtain⟨c,hc⟩:=h y Zg (by simpa using hy);have e:cellOf env y.1=pure c:=by unfold cellOf;rw[hc]
   rw[if_pos hy,e,pure_bind,pure_bind];show(forIn r ((y.1,c)::acc) _:Sem (List (Str×Addr)))=_;rw[im fun z hz=>h z (zP _ hz)];show _=pure (if(y.2==NameKind.free)=true then aX env r ((y.1,(env.cells.lookup y.1).getD 0)::acc)else aX env r acc);rw[if_pos hy,hc];rfl
  ·rw[if_neg hy,pure_bind];show(forIn r acc _:Sem (List (Str×Addr)))=_;rw[im fun z hz=>h z (zP _ hz)];show _=pure (if(y.2==NameKind.free)=true then aX env r ((y.1,(env.cells.lookup y.1).getD 0)::acc)else aX env r acc);rw[if_neg hy]
theorem rD{scope:Scope}{env:Env}(h:∀y∈scope.names,y.2=.free->∃c,env.cells.lookup y.1=some c):closureFor scope env=pure (aX env scope.names []):=by have q:=im (env:=env) (names:=scope.names) (acc:=[]) h;unfold closureFor;exact(by first|(simp only[bind_pure];exact q)|(rw[bind_pure];exact q)|exact q)
theorem io{env:Env}:∀{names:List (Str×NameKind)} {acc:List (Str×Addr)},(∀y∈names,y.2=.free->∃c,env.cells.lookup y.1=some c)->(∀x c,acc.lookup x=some c->env.cells.lookup x=some c) ->
  ∀x c,(aX env names acc).lookup x=some c->env.cells.lookup x=some c
 | [],_,_,ha=>ha
 |y::r,acc,h,ha=>by
  have hr:∀z∈r,z.2=.free->∃c,env.cells.lookup z.1=some c:=fun z hz=>h z (zP _ hz);intro x c e;unfold aX at e;by_cases hy:(y.2==NameKind.free)=true
  ·rw[if_pos hy]at e;refine io hr (fun x' c' e'=>?_) x c e;obtain⟨d,hd⟩:=h y Zg (by simpa using hy);rw[hd,Option.getD_some]at e';cases hx:x'==y.1 with
   |true =>simp only[zQ,hx]at e';have e1:x'=y.1:=eq_of_beq hx;rw[e1,hd];exact e'
   |false =>simp only[zQ,hx]at e';exact ha x' c' e'
  ·rw[if_neg hy]at e;exact io hr ha x c e
theorem fV{env:Env}:∀{names:List (Str×NameKind)} {acc:List (Str×Addr)} {x:Str},(∃c,acc.lookup x=some c)->∃c,(aX env names acc).lookup x=some c
 | [],_,_,h=>h
 |y::r,acc,x,h=>by
  unfold aX;by_cases hy:(y.2==NameKind.free)=true
  ·rw[if_pos hy];refine fV ?_;cases hx:x==y.1 with
   |true=>exact⟨(env.cells.lookup y.1).getD 0,by simp only[zQ,hx]⟩
   |false =>obtain⟨c,e⟩:=h;exact⟨c,by simp only[zQ,hx];exact e⟩
  ·rw[if_neg hy];exact fV h
theorem il{env:Env}:∀{names:List (Str×NameKind)} {acc:List (Str×Addr)} {x:Str},names.lookup x=some .free->∃c,(aX env names acc).lookup x=some c
 | [],_,_,h=>by simp at h
 |(n,k)::r,acc,x,h=>by
  unfold aX;cases hx:x==n with
  |true =>
   simp only[zQ,hx]at h;have hy:(k==NameKind.free)=true:=by rw[zE h];rfl
   rw[if_pos hy];exact fV ⟨(env.cells.lookup n).getD 0,by simp only[zQ,hx]⟩
  |false =>
   simp only[zQ,hx]at h;by_cases hy:(k==NameKind.free)=true
   ·rw[if_pos hy];exact il h
   ·rw[if_neg hy];exact il h
abbrev aG(X:Cx)(scope:Scope)(N':List Str)(C:Addr)(s0:Shared)(H0:Hp)(ex:List Addr):Cx where
 prog:=X.prog
 w:=X.w
 K:=X.K
 mg:=X.mg
 base:=X.base
 A:=X.A
 N:=N'
 s₀:=s0
 H₀:=H0
 env:=compEnvC scope (aX X.env scope.names []) C X.env
 outer:=X.stack
 stack:=X.stack
 ex:=ex
 fn:=fun _=>false
 calm:=X.calm
 pn:=[]
 xe:=fun _ _=>False
def CapOk(X:Cx)(sc:Scope):List Nat->List Str->Prop
 | [],[]=>True
 |j::js,x::xs=>X.N[j]?=some x/\sc.names.lookup x=some .free/\CapOk X sc js xs
 |_,_=>False
theorem CapOk.get{X:Cx}{sc:Scope}:∀{js:List Nat} {xs:List Str} {i:Nat} {x:Str},CapOk X sc js xs->xs[i]?=some x ->
  ∃j,js[i]?=some j/\X.N[j]?=some x/\sc.names.lookup x=some .free
 | [],[],_,_,_,e=>by simp at e
 |j::js,y::xs,0,x,h,e=>by
  obtain⟨h1,h2,_⟩:=h;have e':y=x:=by simpa using e
  subst e';exact⟨j,rfl,h1,h2⟩
 |j::js,y::xs,i+1,x,h,e=>by obtain⟨_,_,h6⟩:=h;obtain⟨j',q⟩:=CapOk.get (i:=i) (x:=x) h6 (by simpa using e);exact⟨j',by simpa using q.1,q.2⟩
 | [],_::_,_,_,h,_=>h.elim
 |_::_,[],_,_,h,_=>h.elim
theorem CapOk.len{X:Cx}{sc:Scope}:∀{js:List Nat} {xs:List Str},CapOk X sc js xs->js.length=xs.length
 | [],[],_=>rfl
 |j::js,y::xs,h=>by obtain⟨_,_,h6⟩:=h;simp[CapOk.len h6]
 | [],_::_,h=>h.elim
 |_::_,[],h=>h.elim
structure CompOk(X:Cx)(scope:Scope)(cap:List Nat)(capN:List Str):Prop where
 kind:scope.kind=.function
 names:∀x∈scope.names,x.2=.local->scope.names.lookup x.1=some .local
 nocell:∀y∈scope.names,y.2≠.cell
 frees:(scope.names.all fun y=>!(y.2==NameKind.free) ||(X.env.kindOf y.1==some .cell ||X.env.kindOf y.1==some .free))=true
 cap:CapOk X scope cap capN
section
variable{X:Cx}{scope:Scope}{cap:List Nat}{capN:List Str}
theorem CompOk.around(O:CompOk X scope cap capN){y:Str×NameKind}(hy:y∈scope.names)(hf:y.2=.free):X.env.kindOf y.1=some .cell\/X.env.kindOf y.1=some .free:=by have q:=List.all_eq_true.mp O.frees y hy;rw[hf]at q;simpa using q
theorem CompOk.cells(O:CompOk X scope cap capN)(ok:X.Ok):∀y∈scope.names,y.2=.free->∃c,X.env.cells.lookup y.1=some c:=fun y hy hf=>ok.has _ (O.around hy hf)
theorem CompOk.clos(O:CompOk X scope cap capN)(ok:X.Ok):closureFor scope X.env=pure (aX X.env scope.names []):=rD (O.cells ok)
theorem CompOk.sub(O:CompOk X scope cap capN)(ok:X.Ok):∀x c,(aX X.env scope.names []).lookup x=some c->X.env.cells.lookup x=some c:=io (O.cells ok) fun x c e=>by simp at e
theorem CompOk.has(_O:CompOk X scope cap capN){x:Str}(h:scope.names.lookup x=some .free):∃c,(aX X.env scope.names []).lookup x=some c:=il h
end
def bD(n:Nat)(cap:List Nat)(σ:St):St:=List.replicate n none++cap.map (fun j=>(σ[j]?).join)
theorem lT{n:Nat}{cap:List Nat}{σ:St}:(bD n cap σ).length=n+cap.length:=by unfold bD;rw[zt,List.length_replicate,zr]
theorem gH{n:Nat}{cap:List Nat}{σ:St}{i:Nat}{v:V}(h:(bD n cap σ)[i]?=some (some v)):n<=i/\∃j,cap[i-n]?=some j/\σ[j]?=some (some v):=by
 unfold bD at h;by_cases hi:i<n
 ·rw[ZD (by simpa using hi),List.getElem?_replicate]at h;rw[if_pos hi]at h;cases h
 ·have hi':n<=i:=Nat.le_of_not_lt hi;rw[zW (by simpa using hi'),List.length_replicate,Zz]at h;refine⟨hi',?_⟩;cases e:cap[i-n]? with
  |none=>rw[e]at h;cases h
  |some j =>
   rw[e]at h;refine⟨j,rfl,?_⟩;have h':(σ[j]?).join=some v:=by simpa using h
   cases q:σ[j]? with
   |none=>rw[q]at h';cases h'
   |some o =>rw[q]at h';have:o=some v:=h';rw[this]
section
variable{X:Cx}{pins:List (Addr×Obj)}{σ:St}{H:Hp}{s:Shared}{scope:Scope}{cap:List Nat}{capN N':List Str}{C:Addr}{ex:List Addr}
theorem mR(I:Inv X pins σ H s)(O:CompOk X scope cap capN)(hC:s.heap.objs.size<=C)(hex:∀b∈ex,bn X pins H b/\b<s.heap.objs.size):(aG X scope N' C s H ex).Ok where
 mod:=I.ok.mod
 kind:=O.kind
 glob:=I.ok.glob
 blt:=I.ok.blt
 above:=hC
 inj:=fun x y c h1 h2=>I.ok.inj x y c (O.sub I.ok x c h1) (O.sub I.ok y c h2)
 has:=fun x hx=>by
  have hx':(relabel scope X.env).names.lookup x=some .cell\/(relabel scope X.env).names.lookup x=some .free:=hx;have key:∀k,(relabel scope X.env).names.lookup x=some k->(k=.cell\/k=.free)->scope.names.lookup x=some .free:=fun k e hk=>by
   obtain⟨k',e',q⟩:=dI (env:=X.env) e;rcases q with q|⟨q,_⟩
   ·subst q;rcases hk with z|z
    ·subst z;exact absurd rfl (O.nocell _ (ZB e'))
    ·subst z;exact e'
   ·subst q;exact e'
  rcases hx' with e|e
  ·exact O.has (key _ e (.inl rfl))
  ·exact O.has (key _ e (.inr rfl))
 cab:=fun x c h _=>by cases h
 hd:=I.ok.hd
 frames:=I.ok.frames
 stk:=.inl rfl
 exf:=fun b hb=>by obtain⟨⟨f0,f1,f2,f3,f4,f5⟩,lt⟩:=hex b hb;exact⟨zJ (zC lt hC),fun x c e=>f4 x c (O.sub I.ok x c e)⟩
 bs:=I.bs
 bsz:=zS I.ok.bsz I.sz
 noex:=fun b o e hb=>by
  obtain⟨⟨f0,f1,f2,f3,f4,f5⟩,lt⟩:=hex b hb;rcases f3 with z|z
  ·exact I.ok.noex b o e z
  ·exact absurd (zC (zq e) (zS I.ok.bsz z)) (ZI _)
 exfs:=fun b hb z=>by
  obtain⟨⟨f0,f1,f2,f3,f4,f5⟩,lt⟩:=hex b hb;rcases zD.mp (I.stkSub b z)with e|e
  ·exact f1 e
  ·exact f2 e
 funs:=I.stack
 frf:=I.stkFree
theorem nT(I:Inv X pins σ H s){b:Addr}(hb:s.heap.objs.size<=b):b∉frs X.stack:=fun z=>by
 rcases zD.mp (I.stkSub b z)with e|e
 ·exact absurd (zC I.lt hb) (by rw[e];exact ZI _)
 ·exact I.nofs hb e
theorem qb(I:Inv X pins σ H s){b:Addr}(hb:s.heap.objs.size<=b):∀x c,X.env.cells.lookup x=some c->c≠b:=fun x c e z=>by obtain⟨v,q⟩:=I.cell x c e;exact absurd (zC q.lt (by rw[z];exact hb)) (ZI _)
theorem lU{n:Nat}{h1:Heap}{m1:Str->Option Value}{tk:Nat}(I:Inv X pins σ H s)(O:CompOk X scope cap capN)(hN:N'.length=n+capN.length)(hN2:∀i x,n<=i->N'[i]?=some x->capN[i-n]?=some x)(hC:s.heap.objs.size<=C)(hex:∀b∈ex,bn X pins H b/\b<s.heap.objs.size)(hk:∀b o,s.heap.get? b=some o->h1.get? b=some o)(hn:h1.Ns C m1):Inv (aG X scope N' C s H ex) [] (bD n cap σ) H { s with heap:=h1,toks:=tk }:=by
 refine⟨mR I O hC hex,rfl,I.bare,Un.kept hk,⟨m1,hn,fun i x v e1 e2 e3=>?_⟩,fun x c e=>?_,I.hok.fresh hC,fun x c e=>I.freeC x c (O.sub I.ok x c e),fun p hp=>absurd (show p∈([]:List (Addr×Obj))from hp) (by simp),I.hok.kept hk,?_⟩
 ·obtain⟨hi,j,ej,es⟩:=gH e2;obtain⟨j',q1,q2,qf⟩:=O.cap.get (hN2 i x hi e1);have q3:=O.around (ZB qf) rfl;have q4:=eS (env:=X.env) qf;obtain⟨c,q5⟩:=O.has qf;have q6:=O.sub I.ok x c q5;rw[q1]at ej;cases ej;obtain⟨m0,hn0,hl0⟩:=I.loc;obtain⟨u,r,l⟩:=hl0 _ x v q2 es (by
   rcases q3 with z|z
   ·exact .inr (.inl z)
   ·exact .inr (.inr z))
  refine⟨u,r,.inr ⟨q4,c,q5,?_⟩⟩;rcases l with⟨k,_⟩|⟨_,c',e',z⟩
  ·rcases q3 with z|z
   ·have z':X.env.kindOf x=some .cell:=z;rw[z']at k;cases k
   ·have z':X.env.kindOf x=some .free:=z;rw[z']at k;cases k
  ·rw[q6]at e';cases e';obtain⟨o,ho,hd⟩:=z;exact⟨o,hk _ _ ho,hd⟩
 ·obtain⟨v,o,ho,hd⟩:=I.cell x c (O.sub I.ok x c e);exact⟨v,o,hk _ _ ho,hd⟩
 ·rw[lT,O.cap.len];exact hN.symm
end
def lO(X:Cx)(ifs:List Expr)(t:TT):Prop :=
 ∀(pins:List (Addr×Obj)) (s:Shared) (σ:St) (H:Hp) (Q:Bool->Hp->Prop),Inv X pins σ H s->t σ H Q ->
  wpAny (model X.prog X.w) X.A (forIn ifs true fun c r=>if r=true then do let ok ←isTrue c X.env (eval c X.env);pure (ForInStep.yield ok)else pure (ForInStep.yield r)) (TP X pins σ Q) X.xe s
def jt:TT:=fun _ H Q=>Q true H
theorem qr{X:Cx}:lO X [] jt:=fun _ _ _ H _ I h=>wpAny_tests_nil ⟨H,I,h⟩
def GK(n:Nat)(g:TG):Prop:=∀x σ H Q,g x σ H Q->g x σ H (fun σ2 H2=>(σ2.length=σ.length/\∀i,n<=i->σ2[i]?=σ[i]?)/\Q σ2 H2)
theorem iu{n i:Nat}(hi:i<n):GK n (bM i):=fun x σ H Q h=>⟨⟨List.length_set,fun j hj=>List.getElem?_set_ne (by omega)⟩,h⟩
def eZ(n:Nat)(cap:List Nat)(g:TG)(tc:TT)(te:TE)(σ:St)(J:It)(H1:Hp)(Q:VK):Prop :=
 ∃W:Nat->Nat->List V->Hp->Prop,(∃m,W 0 m [] H1)/\∀i m ys H,W i m ys H ->
  (J.stop i H/\∀p,H p=none->Q (.ref p) (upd H p (.lst ys))) \/
  (J.go i H/\ys.length<sizeLine/\∀ x H',J.yld i H x H'->g x (bD n cap σ) H' fun σ2 H2=>tc σ2 H2 fun b H3 =>
   if b=true then te σ2 H3 fun y H4=>∃ m',m'<m/\W (i+1) m' (ys++[y]) H4 else ∃ m',m'<m/\W (i+1) m' ys H3)
def rg(n:Nat)(cap:List Nat)(wi:TI)(g:TG)(tc:TT)(te:TE):TE:=fun σ H Q=>wi σ H fun J H1=>eZ n cap g tc te σ J H1 Q
theorem dN{prog:Program}{w:World}{A:Around}{R:Result->Shared->Prop}{s:Shared}{elt target iter:Expr}{ifs:List Expr}{scope:Scope}{pos:Pos}{it acc:Value}{env:Env}(I:Nat->Shared->Prop)(turn:∀ n s,I n s->wpAny (model prog w) A (pyNext it) (fun r s₁=>match r with
   |none=>R (.ok .next) s₁
   | some v=>wpAny (model prog w) A (letOwnedTupleGo target it v) (fun _ s₁'=>wpAny (model prog w) A (assign target env v) (fun _ s₂ =>
     wpAny (model prog w) A (forIn ifs true fun c r=>if r=true then do let ok ←isTrue c env (eval c env);pure (ForInStep.yield ok) else pure (ForInStep.yield r)) (fun ok s₃ =>
      if ok=true then wpAny (model prog w) A (eval elt env) (fun x s₄ =>
       wpAny (model prog w) A (call (.builtin "list.append") [acc,x]) (fun _ s₅=>∃ m,m<n/\I m s₅) (fun _ _=>False) s₄) (fun _ _=>False) s₃
      else ∃ m,m<n/\I m s₃) (fun _ _=>False) s₂) (fun _ _=>False) s₁') (fun _ _=>False) s₁) (fun _ _=>False) s)(n:Nat)(h:I n s) :
  codeAny (model prog w) A (.compLoop (.ListComp elt [⟨target,iter,ifs,0⟩] scope pos) 0 it acc env) R s:=by
 refine codeAny_loop rfl I (fun n s hI=>?_) n h;show wpAny _ A ((compTurn (.ListComp elt [⟨target,iter,ifs,0⟩] scope pos) 0 it acc env).onRaise (fun x=>do noteFrame x env;theTreesLotGoes x)) _ _ s;refine wpAny_noted (wpAny_noRaise ?_);rw[compTurn_list];refine zd (wpAny_standAt (zd (Zx (turn n s hI) (fun r s₁ h₁=>?_) fun _ _ h'=>h')));cases r with
 |none=>exact zi h₁
 |some v =>
  refine zd (Zx h₁ (fun _ s₁' h₁'=>?_) fun _ _ h'=>h');refine zd (Zx h₁' (fun _ s₂ h₂=>zd (Zx h₂ (fun ok s₃ h₃=>?_) fun _ _ h'=>h')) fun _ _ h'=>h');cases ok with
  |false=>exact zi ⟨rfl,h₃⟩
  |true =>exact zd (zd (Zx h₃ (fun x s₄ h₄=>zd (Zx h₄ (fun _ s₅ h₅=>zi (zi ⟨rfl,h₅⟩)) fun _ _ h'=>h')) fun _ _ h'=>h'))
theorem rW{own capN:List Str}:∀(i:Nat) (x:Str),own.length<=i->(own++capN)[i]?=some x->capN[i-own.length]?=some x:=fun i x hi e=>by rw[zW hi]at e;exact e
section
variable{X:Cx}{pins:List (Addr×Obj)}{σ:St}{H2:Hp}{s2:Shared}{scope:Scope}{cap:List Nat}{capN own:List Str}
variable{elt tg iter:Expr}{ifs:List Expr}{pos:Pos}{g:TG}{tc:TT}{te:TE}{Q:VK}
abbrev cK(its:List Value)(nn:Nat):Obj:={ cls:=.type "list",data:=.seq its.toArray nn }
theorem mS{J:It}{fp:List Addr}{it:Addr}{tn:Nat->Heap->Prop}{E:Value->Shared->Prop}{RR:Value->Addr->Result->Shared->Prop}(O:CompOk X scope cap capN)(hc:X.calm=true)(hg:∀C s0 H0 ex,PG (aG X scope (own++capN) C s0 H0 ex) tg g)(gk:GK own.length g)(ht:∀C s0 H0 ex,lO (aG X scope (own++capN) C s0 H0 ex) ifs tc)(he:∀C s0 H0 ex,PE (aG X scope (own++capN) C s0 H0 ex) elt te)(I2:Inv X pins σ H2 s2)(T:Turn X.prog X.w X.K tg J fp it tn)(st2:tn 0 s2.heap)(f2:∀b∈fp,bn X pins H2 b)(hq:eZ own.length cap g tc te σ J H2 Q)(fin:∀(D C:Addr) (s4:Shared) (H4:Hp) (ys:List V),Inv X pins σ (upd H4 D (.lst ys)) s4->(∃m,s4.heap.Ns C m)->bn X pins (upd H4 D (.lst ys)) C->Q (.ref D) (upd H4 D (.lst ys))->RR (.ref D) C (.ok .next) s4) :
  wpAny (model X.prog X.w) X.A (newList []) (fun acc s₃=>wpAny (model X.prog X.w) X.A (newFunctionEnv scope X.env.globals (aX X.env scope.names []) [] X.env.qual none .none (some X.env)) (fun cenv s₄ =>
   codeAny (model X.prog X.w) X.A (.compStart (.ListComp elt [⟨tg,iter,ifs,0⟩] scope pos) 0 (.ref it) acc { cenv with scope:=relabel scope X.env }) (RR acc cenv.locals) s₄) E s₃) E s2:=by
 obtain⟨W,⟨m0,w0⟩,turn⟩:=hq;refine Zl (wpAny_newFunctionEnv O.nocell (by intro y hy;simp at hy) (fun h₁ hns₁ hsb₁=>?_) O.kind);dsimp only at hns₁ hsb₁ ⊢;generalize hHp:s2.heap.push { cls:=.type "list",dict:=none,data:=.seq ([]:List Value).toArray }=Hp2 at hns₁ hsb₁ ⊢;have hC:Hp2.objs.size=s2.heap.objs.size+1:=by rw[<-hHp,Heap.size_push]
 have hDC:s2.heap.objs.size≠Hp2.objs.size:=by rw[hC];exact zJ (Nat.lt_succ_self _)
 have hCle:s2.heap.objs.size<=Hp2.objs.size:=by rw[hC];exact Nat.le_succ _
 have below:∀b,b<s2.heap.objs.size->b≠Hp2.objs.size/\b≠s2.heap.objs.size:=fun b hb=>⟨by rw[hC];exact zJ (Nat.lt_succ_of_lt hb),zJ hb⟩
 have old:∀b o,s2.heap.get? b=some o->h₁.get? b=some o:=fun b o e=>hsb₁.extBut b o (below b (zq e)).1 (ze _ (hHp▸ze _ e));have hacc:h₁.get? s2.heap.objs.size=some (cK [] 0):=hsb₁.extBut _ _ hDC (ze _ (hHp▸zw _ rfl));generalize hDe:s2.heap.objs.size=D at *;generalize hCe:Hp2.objs.size=C at *;have hfpl:∀b∈fp,b<s2.heap.objs.size:=fun b hb=>by obtain⟨o,e,_⟩:=T.obj _ _ st2 b hb;exact zq e
 have hex:∀b∈fp,bn X pins H2 b/\b<s2.heap.objs.size:=fun b hb=>⟨f2 b hb,hfpl b hb⟩
 have hCle':s2.heap.objs.size<=C:=by rw[hDe];exact hCle
 have hDle:s2.heap.objs.size<=D:=by rw[hDe];exact zh _
 have hDfp:∀b∈fp,D≠b:=fun b hb z=>by have:=hfpl b hb;rw[<-z]at this;exact absurd this (Nat.not_lt.mpr hDle)
 have I0:∀tk,Inv (aG X scope (own++capN) C s2 H2 fp) [] (bD own.length cap σ) H2 { s2 with heap:=h₁,toks:=tk }:=fun tk=>lU I2 O (by simp) rW hCle' hex old hns₁;have Dst:D∉frs X.stack:=nT I2 hDle;have Dcell:∀x c,(aG X scope (own++capN) C s2 H2 fp).env.cells.lookup x=some c->c≠D:=fun x c e=>qb I2 hDle x c (O.sub I2.ok x c e);have pinD:∀{σ':St} {H':Hp} {s':Shared} {its:List Value} {nn:Nat},Inv (aG X scope (own++capN) C s2 H2 fp) [] σ' H' s'->s'.heap.get? D=some (cK its nn)->H' D=none->Inv (aG X scope (own++capN) C s2 H2 fp) [(D,cK its nn)] σ' H' s':=fun{σ' H' s' its nn} I e hn =>
  I.pins_of fun p hp=>by
   have z:p=(D,cK its nn):=by simpa using hp
   subst z;exact⟨e,hn,hDC,Dst,fun v q=>by cases q⟩
 have loop:∀s₃:Shared,s₃={ s2 with heap:=h₁,toks:=s2.toks+([]:List (Str×Value)).length } ->
   codeAny (model X.prog X.w) X.A (.compLoop (.ListComp elt [⟨tg,iter,ifs,0⟩] scope pos) 0 (.ref it) (.ref D) (compEnvC scope (aX X.env scope.names []) C X.env)) (RR (.ref D) C) s₃:=by
  rintro s₃ rfl;refine dN (fun k s'=>∃(i:Nat) (ys:List V) (its:List Value) (nn:Nat) (H':Hp),Inv (aG X scope (own++capN) C s2 H2 fp) [(D,cK its nn)] (bD own.length cap σ) H' s'/\tn i s'.heap/\(∀b∈fp,H' b=none)/\Vals ys its/\ys.length<=sizeLine/\W i k ys H') ?_ m0
   ⟨0,[],[],0,H2,pinD (I0 _) hacc (I2.hok.fresh hDle),T.keep _ _ _ st2 (fun b hb o e=>old b o e),fun b hb=>(f2 b hb).1,.nil,zR _,w0⟩
  rintro k s3 ⟨i,ys,its,nn,H3,I3,st3,fr3,rv,hz,w3⟩;have oD3:s3.heap.get? D=some (cK its nn):=(I3.pin (D,cK its nn) (by simp)).1;have fpY:∀{H':Hp},(∀b∈fp,H' b=none)->∀b∈fp,bn (aG X scope (own++capN) C s2 H2 fp) [(D,cK its nn)] H' b:=fun{H'} hn b hb=>by
   obtain⟨f0,f1,g2,f3,f4,f5⟩:=f2 b hb;refine⟨hn b hb,zJ (zC (hfpl b hb) hCle'),fun z=>?_,.inl hb,fun x c e=>f4 x c (O.sub I2.ok x c e),fun p hp=>?_⟩
   ·rcases zD.mp (I2.stkSub b z)with e|e
    ·exact f1 e
    ·exact g2 e
   ·have z:p=(D,cK its nn):=by simpa[aG]using hp
    subst z;exact hDfp b hb
  rcases turn i k ys H3 w3 with⟨stop,qn⟩|⟨go,hlt,step⟩
  ·refine thn (T.done (aG X scope (own++capN) C s2 H2 fp) rfl rfl rfl hc i _ s3 _ H3 _ I3 (fpY fr3) st3 stop) fun r s4 ⟨hr,I4⟩=>?_;subst hr;obtain⟨oD,nD,_⟩:=I4.pin (D,cK its nn) (by simp);have neD:∀{b:Addr} {u:HO},H3 b=some u->b≠D:=fun{b u} e=>aq e nD;have JX:Inv X pins σ (upd H3 D (.lst ys)) s4:=by
    refine I2.call' (ch:=fp) I4.os ⟨I4.base.keep,I4.base.slot,fun b o e nb hx=>?_,I4.base.there,fun b xs e=>?_,fun b o u e=>?_,fun b ps e=>?_⟩ (fun b u e=>?_) I4.bare (fun b hb=>?_)
    ·rw[af (by rw[<-hDe];exact zJ (zq e))];exact I4.base.free b o e nb hx
    ·have q:=I4.base.tups b xs e;rw[af (neD q)];exact q
    ·have q:=I4.base.frzs b o u e;rw[af (neD q)];exact q
    ·obtain⟨more,q⟩:=I4.base.tbls b ps e;exact⟨more,by rw[af (neD q)];exact q⟩
    ·by_cases hb:b=D
     ·subst hb;rw[ae]at e;cases e;exact⟨hz,its,nn,rv,oD⟩
     ·rw[af hb]at e;exact(I4.hok b u e).stay (fun _ _ _ q=>q) (fun c q=>by rw[af (neD q)];exact q) fun c xs q=>by rw[af (neD q)];exact q
    ·obtain⟨f0,f1,g2,f3,f4,f5⟩:=f2 b hb;exact⟨f3,f1,f4,f5⟩
   obtain⟨m4,hn4,_⟩:=I4.loc;refine fin D C s4 H3 ys JX ⟨m4,hn4⟩ ?_ (qn D nD);refine I2.fpOk (b:=C) hCle' ?_;rw[af (Ne.symm hDC)];exact I4.free
  ·refine thn (T.item (aG X scope (own++capN) C s2 H2 fp) rfl rfl rfl hc i _ s3 _ H3 _ I3 (fpY fr3) st3 go) fun r s4 ⟨u,hr,h4⟩=>?_;subst hr;refine thn h4 fun _ s5 hz9=>?_;obtain⟨x,H5,I5,r5,y5,st5,fr5⟩:=hz9;have I5':=I5.pinned (fpY fr5) (T.obj _ _ st5);refine thn (hg C s2 H2 fp _ s5 _ H5 x u _ I5' r5 (gk _ _ _ _ (step x H5 y5))) fun _ s6 hz9=>?_;obtain⟨σ6,H6,I6,⟨l6,k6⟩,q6⟩:=hz9;refine thn (ht C s2 H2 fp _ s6 σ6 H6 _ I6 q6) fun ok s7 ⟨H7,I7,q7⟩=>?_;have wk:∀{H8:Hp} {s8:Shared} {pl:List (Addr×Obj)},Inv (aG X scope (own++capN) C s2 H2 fp) pl σ6 H8 s8->Inv (aG X scope (own++capN) C s2 H2 fp) pl (bD own.length cap σ) H8 s8:=fun I=>I.weak l6.symm fun j v e=>by obtain⟨hj,_⟩:=gH e;rw[k6 j hj];exact e
   have tn8:∀{σ8:St} {H8:Hp} {s8:Shared},Inv (aG X scope (own++capN) C s2 H2 fp) ([(D,cK its nn)]++eR fp s5.heap) σ8 H8 s8->(∀b∈fp,∀o,s5.heap.get? b=some o->s8.heap.get? b=some o)/\∀b∈fp,H8 b=none:=fun{σ8 H8 s8} I=>by refine⟨fun b hb o e=>(I.pin (b,o) (zU _ (zU _ (cO hb e)))).1,fun b hb=>?_⟩;obtain⟨o,e,d⟩:=T.obj _ _ st5 b hb;exact(I.pin (b,o) (zU _ (zU _ (cO hb e)))).2.1
   cases ok with
   |false =>rw[if_neg zo]at q7 ⊢;obtain⟨m',hm,w7⟩:=q7;obtain⟨t1,t2⟩:=tn8 I7;exact⟨m',hm,i+1,ys,its,nn,H7,wk I7.unpinned,T.keep _ _ _ st5 t1,t2,rv,hz,w7⟩
   |true =>
    rw[if_pos rfl]at q7 ⊢;refine thn (he C s2 H2 fp _ s7 σ6 H7 _ I7 q7) fun y s8 hz9=>?_;obtain⟨yv,H8,I8,r8,m',hm,w8⟩:=hz9;obtain⟨t1,t2⟩:=tn8 I8;obtain⟨oD,nD,_⟩:=I8.pin (D,cK its nn) (by simp);have hil:=rv.length;refine call_meets F.slot_list_append ⟨_,oD,rfl⟩ F.entry_list_append (F.args_list_append_2 _ _) (PySem.list_append D its.toArray nn y (by rw[zp];omega)) ⟨oD,?_⟩;have q:=PySem.IsL.update oD (fun x_1=>x_1.push y);have hf:its.toArray.push y=(its++[y]).toArray:=by simp
    rw[hf]at q;have keepO:∀b o,b≠D->s8.heap.get? b=some o->(s8.heap.update D (Obj.mapSeq fun x_1=>x_1.push y)).get? b=some o:=fun b o hb e=>(Heap.get?_update_other s8.heap (Obj.mapSeq fun x_1=>x_1.push y) (Ne.symm hb)).trans e;have I9:Inv (aG X scope (own++capN) C s2 H2 fp) [] σ6 H8 { s8 with heap:=s8.heap.update D (Obj.mapSeq fun x_1=>x_1.push y),toks:=s8.toks } :=
     (I8.pins_of (pins':=[]) fun p hp=>absurd hp (by simp)).turned (it:=D) keepO nD hDC (.inr hDle) Dcell (fun p hp=>absurd (show p∈([]:List (Addr×Obj))from hp) (by simp))
    refine⟨m',hm,i+1,ys++[yv],its++[y],_,H8,wk (pinD I9 q nD),T.keep _ _ _ st5 (fun b hb o e=>keepO b o (Ne.symm (hDfp b hb)) (t1 b hb o e)),t2,rv.append (.cons r8 .nil),?_,w8⟩;rw[zt,List.length_singleton];omega
 exact codeAny_compStart_list (loop _ rfl) (T.self _ 0 _ _ _ (T.keep _ _ _ st2 (fun b hb o e=>old b o e)) (loop _ rfl))
theorem se{wi:TI}(O:CompOk X scope cap capN)(hc:X.calm=true)(hi:PI X tg iter wi)(hg:∀C s0 H0 ex,PG (aG X scope (own++capN) C s0 H0 ex) tg g)(gk:GK own.length g)(ht:∀C s0 H0 ex,lO (aG X scope (own++capN) C s0 H0 ex) ifs tc)(he:∀C s0 H0 ex,PE (aG X scope (own++capN) C s0 H0 ex) elt te)(hs:∀x,foldedSetIterable iter X.env x=pure x:=by intro _;rfl):PE X (.ListComp elt [⟨tg,iter,ifs,0⟩] scope pos) (rg own.length cap wi g tc te):=by intro pins s σ H Q I h;rw[eval_ListComp];refine wpAny_comprehension_free (use:=none) rfl hs (O.clos I.ok) O.kind O.names (thn (hi pins s σ H _ I h) fun v s1 h1=>thn h1 fun itv s2 h2=>?_);obtain⟨it,fp,tn,J,H2,e,I2,T,st2,f2,hq⟩:=h2;subst e;refine mS (RR:=fun acc C=>compPost (model X.prog X.w) X.A X.xe none (EP X pins σ Q) acc C) O hc hg gk ht he I2 T st2 f2 hq fun D C s4 H4 ys J4 hn4 fC q4=>?_;obtain⟨m,hn⟩:=hn4;obtain⟨f0,f1,g2,f3,f4,f5⟩:=fC;exact⟨m,hn,fun h' sb=>⟨.ref D,_,J4.turned (t':=s4.toks) (fun b o hb e=>(sb.2 b hb).trans e) f0 f1 f3 f4 f5,rfl,q4⟩⟩
end
open PySem PySem.Spec PyProof.Rows
structure Fn(P:Program)(w:World)(K:PySem.W.Frag)(mg:Str->Option Value)(base:Heap)(k:Nat)(x:Str)(ps:List Str)(sp:Sp):Prop where
 ex:∃f fd,FnOk P w K mg base CX0 k f fd ps sp/\mg x=some (.ref f)/\PySem.W.keepIn K (.ref f)=true/\Binds K fd ps []
section
variable{X:Cx}{k:Nat}{x:Str}{p pos:Pos}{e:Expr}{es:List Expr}{ps:List Str}{sp:Sp}{t:TA}
theorem wo(F:Fn X.prog X.w X.K X.mg X.base k x ps sp)(hr:Room k X.A)(ha:PA X (e::es) t)(hg:Gl X x:=by rfl)(hdb:(x==("__debug__":Str))=false:=by decide)(he:starEach (e::es) X.env=(false,eval e X.env)::starEach es X.env:=by rfl)(hpl:(backTo pos (starEach es X.env)).any (·.1)=false:=by rfl) :
  PE X (.Call (.Name x p) (e::es) [] pos) (jp sp [] E0 t):=by
 obtain⟨f,fd,G,m,kp,b⟩:=F.ex;exact rY G hr hg m kp b .nil jn ha hdb he hpl
end
theorem gF:bootBuiltins "isinstance" = some (.builtin "isinstance"):=by decide +kernel
theorem pF:bootBuiltins "max" = some (.builtin "max"):=by decide +kernel
theorem cG:bootBuiltins "list" = some (.type "list"):=by decide +kernel
section
variable{X:Cx}
theorem pH:cN X (.builtin "isinstance") (fun xs H Q=>∃x T t b,xs=[x,.ty T]/\TyOf X.K H x t/\PySem.W.kitOne X.K t (.type T)=some b/\Q (.bl b) H):=by intro pins s σ H xs us Q I r h;obtain⟨x,T,t,b,rfl,ty,e,q⟩:=h;obtain⟨u,w',rfl,rx,ry⟩:=mJ r;cases(show w'=Value.type T from ry);exact nG I rx ty e fun tk=>⟨.bl b,H,I.tok tk,rfl,q⟩
end
theorem pU{K:PySem.W.Frag}{t T:String}{b:Bool}(h1:(Value.type t==Value.type T)=b)(h2:b=false->PySem.W.kitMeta T=true/\(PySem.fastBuiltinMro t).map (·.contains (Value.type T))=some false):PySem.W.kitOne K (.type t) (.type T)=some b:=by
 unfold PySem.W.kitOne;rw[h1];cases b with
 |true=>exact if_pos rfl
 |false =>rw[if_neg zo];obtain⟨m,q⟩:=h2 rfl;show(if PySem.W.kitMeta T=true then PySem.W.subIn K (.type t) (.type T)else none)=_;rw[if_pos m];exact q
theorem ah{H:Hp}{p:Addr}(h:H p=none)(o:HO):Same H (upd H p o):=fun b u q=>by rw[af (aq q h)];exact q
theorem bZ{n:Nat}(h:n<=1000):n<=sizeLine:=Nat.le_of_lt (aP h)
theorem sz{n:Nat}(h:Nat.ble n 1000=true):n<=sizeLine:=bZ (Nat.le_of_ble_eq_true h)
theorem mU{J:It}{N n:Nat}{cap:List Nat}{te:TE}{σ:St}{H0:Hp}{Q:VK}(x0 f:Nat->V)(hz:N<=1000)(hgo:∀i H,i<N->Same H0 H->J.go i H)(hst:∀H,Same H0 H->J.stop N H)(hy:∀i H x H',i<N->Same H0 H->J.yld i H x H'->H'=H/\x=x0 i)(he:∀i H,i<N->Same H0 H->∀R:VK,(∀H',Same H H'->R (f i) H')->te ((bD n cap σ).set 0 (some (x0 i))) H R)(hq:∀p H,Same H0 H->H p=none->Q (.ref p) (upd H p (.lst ((List.range N).map f)))):eZ n cap (bM 0) jt te σ J H0 Q:=by
 refine⟨fun i m ys H=>m=N-i/\i<=N/\Same H0 H/\ys=(List.range i).map f,⟨N,by simp,zR _,Same.refl _,rfl⟩,?_⟩;rintro i m ys H ⟨rfl,hi,sm,rfl⟩;by_cases hlt:i<N
 ·refine .inr ⟨hgo i H hlt sm,?_,fun x H' y=>?_⟩
  ·rw[zr,List.length_range];exact aP (by omega)
  ·obtain⟨e1,e2⟩:=hy i H x H' hlt sm y;subst e1 e2;refine he i H' hlt sm _ fun H4 sm4=>⟨N-(i+1),by omega,rfl,hlt,sm.trans sm4,?_⟩
   rw[List.range_succ,zV];rfl
 ·have e:i=N:=by omega
  subst e;exact .inl ⟨hst H sm,fun p hp=>hq p H sm hp⟩
theorem mT{K:PySem.W.Frag}{a:Addr}{xs:List V}{n:Nat}{cap:List Nat}{te:TE}{σ:St}{H0:Hp}{Q:VK}(f:Nat->V)(hz:xs.length<=1000)(hl:SqL K H0 a xs)(he:∀i x H,xs[i]?=some x->Same H0 H->∀R:VK,(∀H',Same H H'->R (f i) H')->te ((bD n cap σ).set 0 (some x)) H R)(hq:∀p H,Same H0 H->H p=none->Q (.ref p) (upd H p (.lst ((List.range xs.length).map f)))):eZ n cap (bM 0) jt te σ (Itl K a) H0 Q:=by
 refine mU (N:=xs.length) (fun i=>(xs[i]?).getD .non) f hz (fun i H hi sm=>⟨xs,xs[i],sm.seq hl,by simp[hi]⟩) (fun H sm=>⟨xs,sm.seq hl,zh _⟩) (fun i H x H' hi sm y=>⟨y.1,?_⟩) (fun i H hi sm R k=>?_) hq
 ·rw[y.2 xs (sm.seq hl)];rfl
 ·have e:xs[i]?=some xs[i]:=by simp[hi]
  rw[e];exact he i xs[i] H e sm R k
open PySem PySem.Spec PyProof.Rows
def aM:Expr->Bool
 |.Starred _ _=>false
 |_=>true
theorem aW{e:Expr}{es:List Expr}{env:Env}(h:aM e=true):starEach (e::es) env=(false,eval e env)::starEach es env:=by cases e<;>first|rfl|cases h
theorem bx{env:Env}{pos:Pos}:∀{es:List Expr},es.all aM=true->(backTo pos (starEach es env)).any (·.1)=false
 | [],_=>rfl
 |e::es,h=>by rw[List.all_cons,zL]at h;rw[aW h.1];show(false ||(backTo pos (starEach es env)).any (·.1))=false;rw[Bool.false_or];exact bx h.2
section
variable{X:Cx}{x:Str}{p pos:Pos}{e:Expr}{es:List Expr}{te:TE}{t:TA}{id T:String}{r:List V->Hp->VK->Prop}{k:Nat}{ps:List Str}{sp:Sp}
theorem pa(ha:PE X e te)(hr:PA X es t)(hs:aM e=true:=by rfl):PA X (e::es) (hV te t):=lq ha hr (aW hs)
theorem pB(hc:cN X (.builtin id) r)(hm:X.mg x=none)(hv:bootBuiltins x=some (.builtin id))(ha:PA X (e::es) t)(hg:Gl X x:=by rfl)(hs:(e::es).all aM=true:=by rfl)(hn:x≠"__name__":=by decide)(hdb:(x==("__debug__":Str))=false:=by decide) :
  PE X (.Call (.Name x p) (e::es) [] pos) (tCB r t):=by
 rw[List.all_cons,zL]at hs;exact qh hc hg hm hv ha hn hdb (aW hs.1) (bx hs.2)
theorem pTy(hc:cN X (.type T) r)(hm:X.mg x=none)(hv:bootBuiltins x=some (.type T))(ha:PA X (e::es) t)(hg:Gl X x:=by rfl)(hs:(e::es).all aM=true:=by rfl)(hn:x≠"__name__":=by decide)(hdb:(x==("__debug__":Str))=false:=by decide) :
  PE X (.Call (.Name x p) (e::es) [] pos) (tCB r t):=by
 rw[List.all_cons,zL]at hs;exact oq hc hg hm hv ha hn hdb (aW hs.1) (bx hs.2)
theorem pfn(F:Fn X.prog X.w X.K X.mg X.base k x ps sp)(hr:Room k X.A)(ha:PA X (e::es) t)(hg:Gl X x:=by rfl)(hs:(e::es).all aM=true:=by rfl)(hdb:(x==("__debug__":Str))=false:=by decide) :
  PE X (.Call (.Name x p) (e::es) [] pos) (jp sp [] E0 t):=by
 rw[List.all_cons,zL]at hs;exact wo F hr ha hg hdb (aW hs.1) (bx hs.2)
end
open PySem PySem.Spec PyProof.Rows
structure QE(X:Cx)(e:Expr)(t:TE):Prop where
 h:PE X e t
structure QT(X:Cx)(e:Expr)(t:TT):Prop where
 h:PT X e t
structure QW(X:Cx)(e:Expr)(t:TT):Prop where
 h:PW X e t
structure QA(X:Cx)(es:List Expr)(t:TA):Prop where
 h:PA X es t
structure QS(X:Cx)(st:Stmt)(t:TS):Prop where
 h:PS X st t
structure QB(X:Cx)(st:List Stmt)(t:TS):Prop where
 h:PSs X st t
structure QG(X:Cx)(tg:Expr)(g:TG):Prop where
 h:PG X tg g
structure QGs(X:Cx)(ts:List Expr)(g:TGs):Prop where
 h:PGs X ts g
structure QI(X:Cx)(tg iter:Expr)(wi:TI):Prop where
 h:PI X tg iter wi
structure QIf(X:Cx)(ifs:List Expr)(t:TT):Prop where
 h:lO X ifs t
structure QO(X:Cx)(e:Option Expr)(t:TO):Prop where
 h:PO X e t
structure QOp(X:Cx)(f:Value->Value->Sem Value)(r:R2):Prop where
 h:OpR X f r
structure QCall(X:Cx)(f:Value)(r:List V->Hp->VK->Prop):Prop where
 h:cN X f r
structure QIx(X:Cx)(r:R2):Prop where
 h:IxR X r
structure QSl(X:Cx)(r:V->Option Int->Option Int->Hp->VK->Prop):Prop where
 h:SlR X r
structure QSet(X:Cx)(t:sU):Prop where
 h:wN X t
structure QUn(X:Cx)(f:Value->Sem Value)(r:V->Hp->VK->Prop):Prop where
 h:UnR X f r
structure QIp(X:Cx)(op:Operator)(t:TIp):Prop where
 h:PIp X op t
section
variable{X:Cx}{pos p:Pos}{e a b c o:Expr}{es rest:List Expr}{te ta tb tc:TE}{t:TA}{tA tB':TT}{x:Str}
theorem q_v(i:Nat){x:Str}{pos:Pos}(hN:X.N[i]?=some x:=by rfl)(hv:Vis X.env.scope x:=by first|exact Or.inl rfl|exact Or.inr (Or.inl rfl)|exact Or.inr (Or.inr rfl))(hd:(x==("__debug__":Str))=false:=by decide)(hcd:(x==("__classdict__":Str))=false:=by decide):QE X (.Name x pos) (qF i):=⟨uC hN hv hd hcd⟩
theorem ag{i:Int}{j:Nat}:QE X (.Constant (.int i) j pos) (tC (.int i)):=⟨ut⟩
theorem ce{i:Bool}{j:Nat}:QE X (.Constant (.bool i) j pos) (tC (.bl i)):=⟨wj⟩
theorem cE{j:Nat}:QE X (.Constant .none j pos) (tC .non):=⟨ux⟩
theorem bf{i:Str}{j:Nat}:QE X (.Constant (.str i) j pos) (tC (.str i)):=⟨uA⟩
theorem wW{T:String}(hm:X.mg x=none)(hv:bootBuiltins x=some (.type T))(hg:Gl X x:=by rfl)(hn:x≠"__name__":=by decide)(hd:(x==("__debug__":Str))=false:=by decide):QE X (.Name x pos) (tC (.ty T)):=⟨rX hg hm hv rfl hn hd⟩
theorem cL{i:Int}{tk:Tok}(hm:X.mg x=some (.int i tk))(hg:Gl X x:=by rfl)(hd:(x==("__debug__":Str))=false:=by decide):QE X (.Name x pos) (tC (.int i)):=⟨lr hg hm ⟨_,rfl⟩ hd⟩
theorem ao{op:Operator}{r:R2}(ho:QOp X (binaryOp op) r)(ha:QE X a ta)(hb:QE X b tb):QE X (.BinOp a op b pos) (tOp r ta tb):=⟨wr ho.h ha.h hb.h⟩
theorem mD{op}(h:QE X a ta):QE X (.BoolOp op [a] pos) ta:=⟨uy h.h⟩
theorem mz(ha:QE X a ta)(hb:QE X (.BoolOp .And (b::rest) pos) tb):QE X (.BoolOp .And (a::b::rest) pos) (rf ta tb):=⟨uq ha.h hb.h⟩
theorem dZ{op:CmpOp}{r:R2}(ho:QOp X (compareOp op) r)(ha:QE X a ta)(hb:QE X b tb)(hm:behindInMarks op b=false:=by first|exact nS _|with_unfolding_all rfl):QE X (.Compare a [op] [b] pos) (tOp r ta tb):=⟨rZ ho.h ha.h hb.h hm⟩
theorem mC(h:QA X es t):QE X (.List es pos) (vq t):=⟨uu h.h⟩
theorem bg{x1}(h:QA X es t):QE X (.Tuple es x1 pos) (vx t):=⟨uB h.h⟩
theorem ay{r:R2}(hr:QIx X r)(ha:QE X a ta)(hb:QE X b tb)(hs:kM b:=by intro _ _;rfl):QE X (.Subscript a b pos) (tOp r ta tb):=⟨wq hr.h ha.h hb.h hs⟩
theorem bQ{r:V->Option Int->Option Int->Hp->VK->Prop}{lo hi:Option Expr}{tl th:TO}{p2:Pos}(hr:QSl X r)(he:QE X e te)(hl:QO X lo tl)(hu:QO X hi th):QE X (.Subscript e (.Slice lo hi none p2) pos) (tSl r te tl th):=⟨qm hr.h he.h hl.h hu.h⟩
theorem bV:QO X none lM:=⟨su⟩
theorem bJ(h:QE X e te):QO X (some e) (rm te):=⟨sv h.h⟩
theorem aj:QA X [] fb:=⟨ke⟩
theorem q_a(ha:QE X e te)(hr:QA X es t)(hs:aM e=true:=by rfl):QA X (e::es) (hV te t):=⟨pa ha.h hr.h hs⟩
theorem q_B{id:String}{r:List V->Hp->VK->Prop}(hc:QCall X (.builtin id) r)(hm:X.mg x=none)(hv:bootBuiltins x=some (.builtin id))(ha:QA X (e::es) t)(hg:Gl X x:=by rfl)(hs:(e::es).all aM=true:=by rfl)(hn:x≠"__name__":=by decide)(hdb:(x==("__debug__":Str))=false:=by decide) :
  QE X (.Call (.Name x p) (e::es) [] pos) (tCB r t):=⟨pB hc.h hm hv ha.h hg hs hn hdb⟩
theorem kh{T:String}{r:List V->Hp->VK->Prop}(hc:QCall X (.type T) r)(hm:X.mg x=none)(hv:bootBuiltins x=some (.type T))(ha:QA X (e::es) t)(hg:Gl X x:=by rfl)(hs:(e::es).all aM=true:=by rfl)(hn:x≠"__name__":=by decide)(hdb:(x==("__debug__":Str))=false:=by decide) :
  QE X (.Call (.Name x p) (e::es) [] pos) (tCB r t):=⟨pTy hc.h hm hv ha.h hg hs hn hdb⟩
theorem dv{k:Nat}{ps:List Str}{sp:Sp}(F:Fn X.prog X.w X.K X.mg X.base k x ps sp)(hr:Room k X.A)(ha:QA X (e::es) t)(hg:Gl X x:=by rfl)(hs:(e::es).all aM=true:=by rfl)(hdb:(x==("__debug__":Str))=false:=by decide) :
  QE X (.Call (.Name x p) (e::es) [] pos) (jp sp [] E0 t):=⟨pfn F hr ha.h hg hs hdb⟩
theorem aL{op:CmpOp}{r:R2}(ho:QOp X (compareOp op) r)(ha:QE X a ta)(hb:QE X b tb)(hm:behindInMarks op b=false:=by first|exact nS _|with_unfolding_all rfl):QT X (.Compare a [op] [b] pos) (rn (tOp r ta tb)):=⟨sC ho.h ha.h hb.h hm⟩
theorem ju(ha:QT X a tA):QT X (.UnaryOp .Not a pos) (vt tA):=⟨uM ha.h⟩
theorem eA(h:QE X e te)(he:∀whole,isTrue e X.env whole=(do let v ←whole;standAt e.pos;holding [v] (truthy v)):=by intro _;rfl):QT X e (tB te):=⟨uN h.h he⟩
theorem cX(ha:QT X a tA):QW X (.BoolOp .And [a] pos) tA:=⟨sD ha.h⟩
theorem ro(ha:QT X a tA):QW X (.BoolOp .Or [a] pos) tA:=⟨uP ha.h⟩
theorem dq(ha:QT X a tA)(hb:QW X (.BoolOp .And (b::rest) pos) tB'):QW X (.BoolOp .And (a::b::rest) pos) (vh tA tB'):=⟨uO ha.h hb.h⟩
theorem vB(ha:QT X a tA)(hb:QW X (.BoolOp .Or (b::rest) pos) tB'):QW X (.BoolOp .Or (a::b::rest) pos) (tOr tA tB'):=⟨wx ha.h hb.h⟩
theorem t_w(h:QW X e tA):QT X e tA:=⟨h.h.pt⟩
end
section
variable{X:Cx}{pos:Pos}{tg iter elt:Expr}{ifs:List Expr}{g:TG}{gs:TGs}{tc:TT}{te:TE}{scope:Scope}{cap:List Nat}{capN own:List Str}{wi:TI}
theorem bp{i:Nat}{x:Str}(hN:X.N.Nodup)(hi:X.N[i]?=some x:=by rfl)(hx:Loc X.env.scope x:=by first|exact Or.inl rfl|exact Or.inr rfl)(hf:X.fn x=true\/X.env.scope.names.lookup x=some .local:=by first|exact .inl rfl|exact .inr rfl):QG X (.Name x pos) (bM i):=⟨si hN hi hx hf⟩
theorem pQ:QGs X [] jJ:=⟨sj⟩
theorem iw{e:Expr}{es:List Expr}(h1:QG X e g)(h2:QGs X es gs)(hs:(assignEach (e::es) X.env).map (·.2)=assign e X.env::(assignEach es X.env).map (·.2):=by rfl):QGs X (e::es) (db g gs):=⟨qo h1.h h2.h hs⟩
theorem lV{es:List Expr}{k n:Nat}(hc:X.calm=true)(h:QGs X es gs)(hn:(assignEach es X.env).length=n:=by rfl)(hst:(assignEach es X.env).findIdx? (·.1)=none:=by rfl):QG X (.Tuple es k pos) (jK X.K n gs):=⟨uD hc h.h hn hst⟩
theorem gM{l:Expr}(hl:QE X l te):QI X tg l (qO X.K te):=⟨sq hl.h⟩
theorem nE{a:Expr}{ta:TA}{p:Pos}(hm:X.mg "range" = none)(ha:QA X [a] ta)(hg:Gl X "range":=by rfl)(hs:aM a=true:=by rfl):QI X tg (.Call (.Name "range" p) [a] [] pos) (qP ta):=⟨ot hg hm ha.h (aW hs)⟩
theorem pS:QIf X [] jt:=⟨qr⟩
theorem ki(O:CompOk X scope cap capN)(hc:X.calm=true)(hi:QI X tg iter wi)(hg:∀C s0 H0 ex,QG (aG X scope (own++capN) C s0 H0 ex) tg g)(gk:GK own.length g)(ht:∀C s0 H0 ex,QIf (aG X scope (own++capN) C s0 H0 ex) ifs tc)(he:∀C s0 H0 ex,QE (aG X scope (own++capN) C s0 H0 ex) elt te)(hs:∀x,foldedSetIterable iter X.env x=pure x:=by intro _;rfl):QE X (.ListComp elt [⟨tg,iter,ifs,0⟩] scope pos) (rg own.length cap wi g tc te) :=
 ⟨se O hc hi.h (fun C s0 H0 ex=>(hg C s0 H0 ex).h) gk (fun C s0 H0 ex=>(ht C s0 H0 ex).h) (fun C s0 H0 ex=>(he C s0 H0 ex).h) hs⟩
variable{st:Stmt}{rest:List Stmt}{t u:TS}{e c:Expr}
theorem b_0:QB X [] rk:=⟨sA⟩
theorem b_1(h:QS X st t):QB X [st] t:=⟨sB h.h⟩
theorem b_c(h1:QS X st t)(h2:QB X rest u):QB X (st::rest) (qE t u):=⟨qu h1.h h2.h⟩
theorem aV(h:QE X e te):QS X (.Return (some e) pos) (vw te):=⟨uK h.h⟩
theorem bu(h:QE X e te)(hs:swapsWith e none pos.line X.env=pure false:=by rfl):QS X (.Expr e pos) (ri te):=⟨sx h.h hs⟩
theorem bh{body els:List Stmt}(hc:QT X c tc)(ht:QB X body t)(hu:QB X els u):QS X (.If c body els pos) (vp tc t u):=⟨ww hc.h ht.h hu.h⟩
theorem aC{i:Nat}{x:Str}{pos':Pos}(hN:X.N.Nodup)(he:QE X e te)(hi:X.N[i]?=some x:=by rfl)(hx:Loc X.env.scope x:=by first|exact Or.inl rfl|exact Or.inr rfl)(hs:swapsWith e (some (.Name x pos')) pos.line X.env=pure false:=by rfl)(hf:X.fn x=true\/X.env.scope.names.lookup x=some .local:=by first|exact .inl rfl|exact .inr rfl):QS X (.Assign [.Name x pos'] e pos) (vk te (bM i)):=⟨uL hN hi hx he.h hs hf⟩
theorem dj{body:List Stmt}(hp:PassesOwn (model X.prog X.w) X.A X.env X.xe)(hc:X.calm=true)(hi:QI X tg iter wi)(hg:QG X tg g)(hb:QB X body t)(hs:∀x,foldedSetIterable iter X.env x=pure x:=by intro _;rfl):QS X (.For tg iter body [] pos) (vo wi g t):=⟨uJ hp hc hi.h hg.h hb.h hs⟩
theorem lE{body:List Stmt}(hp:PassesOwn (model X.prog X.w) X.A X.env X.xe)(hc:QT X c tc)(hb:QB X body t):QS X (.While c body [] pos) (oP tc t):=⟨qt hp hc.h hb.h⟩
end
theorem Fun.okQ{P:Program}{w:World}{K:PySem.W.Frag}{mg:Str->Option Value}{base:Heap}{x qual:Str}{st:Stmt}{f:Addr}{fd:FuncData}{N ps:List Str}{k:Nat}{sp:Sp}(F:Fun K x qual st f fd)(S:FnScope N ps (ak st))(len:∀ vs H Q E,sp vs H Q E->vs.length=ps.length)(hbody:∀ (cdv:Value) (A:Around) (outer:List Env) (s:Shared) (H:Hp) (vs:List V) (Q:VK) (E:XK),Room k (A.deeper (envOfC qual (ak st) s.heap.objs.size f cdv))->sp vs H Q E ->
   ∃ t,QB (dO CX0 P w K mg base N qual (ak st) f cdv A outer s H E).nox (bo st) t/\t { nx:=fun _ H'=>Q .non H',rt:=Q } (start N vs) H):FnOk P w K mg base CX0 (k+1) f fd ps sp :=
 F.ok S len fun cdv A outer s H vs Q E hr hsp=>let⟨t,h,q⟩:=hbody cdv A outer s H vs Q E hr hsp;⟨t,h.h,q⟩
section
variable{X:Cx}
theorem dh:QOp X (binaryOp .Add) (rI0 fun i j=>.int (i+j)):=⟨ug⟩
theorem jm:QOp X (binaryOp .Sub) (rI0 fun i j=>.int (i-j)):=⟨um⟩
theorem qT:QOp X (binaryOp .Mult) (rI CMul fun i j=>.int (i*j)):=⟨uk⟩
theorem cH:QOp X (binaryOp .FloorDiv) (rI sR fun i j=>.int (i / j)):=⟨rU⟩
theorem be:QOp X (binaryOp .Mod) (rI (fun _ j=>0<j) fun i j=>.int (i%j)):=⟨uh⟩
theorem vY:QOp X (binaryOp .Pow) (rI sS fun i j=>.int (i^j.toNat)):=⟨ul⟩
theorem dX:QOp X (compareOp .Eq) rEq:=⟨vZ⟩
theorem wU:QOp X (compareOp .NotEq) rNe:=⟨wg⟩
theorem tY:QOp X (compareOp .Lt) (rI0 fun i j=>.bl (decide (i<j))):=⟨wf⟩
theorem tX:QOp X (compareOp .Gt) (rI0 fun i j=>.bl (decide (j<i))):=⟨wa⟩
theorem dF:QOp X (compareOp .IsNot) (fun x y H Q=>y=.non/\Q (.bl (!decide (x=.non))) H):=⟨rV⟩
theorem ff:QIx X (uS X.K):=⟨rJ⟩
theorem ax:QIx X (mE X.K):=⟨tH⟩
theorem tP:QSl X (uW X.K):=⟨sI⟩
theorem gG:QCall X (.builtin "len") (fun xs H Q=>∃p ys,xs=[.ref p]/\(SqL X.K H p ys\/SqT X.K H p ys)/\Q (.int ys.length) H):=⟨jG⟩
theorem vM:QCall X (.builtin "isinstance") (fun xs H Q=>∃x T t b,xs=[x,.ty T]/\TyOf X.K H x t/\PySem.W.kitOne X.K t (.type T)=some b/\Q (.bl b) H):=⟨pH⟩
theorem vN(hc:X.calm=true):QCall X (.builtin "max") (fun xs H Q=>∃i j,xs=[.int i,.int j]/\Q (.int (if j>i then j else i)) H):=⟨mQ hc⟩
end
open PySem PySem.Spec PyProof.Rows
mutual
def Dt(H:Hp):PyData->V->Prop
 |.none,v=>v=.non
 |.bool b,v=>v=.bl b
 |.int i,v=>v=.int i
 |.str x,v=>v=.str x
 |.list ds,v=>∃a xs,v=.ref a/\Rd H a (.lst xs)/\DtAll H ds xs
 |.tuple ds,v=>∃a xs,v=.ref a/\Rd H a (.tup xs)/\DtAll H ds xs
 |.dict _,_=>False
def DtAll(H:Hp):List PyData->List V->Prop
 | [],xs=>xs=[]
 |d::ds,xs=>∃y ys,xs=y::ys/\Dt H d y/\DtAll H ds ys
end
section
variable{P:Program}{w:World}{H:Hp}{h:Heap}
mutual
theorem Dt.reads(ok:HOk P w H h):∀(d:PyData) (x:V) (v:Value),Dt H d x->RelV x v->∃as,Reads h v d as
 |.none,x,v,e,r=>by
  have e':x=.non:=by simpa only[Dt]using e
  subst e';cases r;exact⟨_,.none⟩
 |.bool b,x,v,e,r=>by
  have e':x=.bl b:=by simpa only[Dt]using e
  subst e';cases r;exact⟨_,.bool b⟩
 |.int i,x,v,e,r=>by
  have e':x=.int i:=by simpa only[Dt]using e
  subst e';obtain⟨t,rfl⟩:=r;exact⟨_,.int i t⟩
 |.str z,x,v,e,r=>by
  have e':x=.str z:=by simpa only[Dt]using e
  subst e';obtain⟨t,rfl⟩:=r;exact⟨_,.str z t⟩
 |.list ds,x,v,e,r=>by
  have e':∃a xs,x=.ref a/\Rd H a (.lst xs)/\DtAll H ds xs:=by simpa only[Dt]using e
  obtain⟨a,xs,rfl,hr,hd⟩:=e';cases r;obtain⟨_,its,n,rv,eo⟩:=hr.ok ok;obtain⟨as,q⟩:=DtAll.reads ok ds xs its hd rv;exact⟨_,.list eo rfl rfl (by simpa using q)⟩
 |.tuple ds,x,v,e,r=>by
  have e':∃a xs,x=.ref a/\Rd H a (.tup xs)/\DtAll H ds xs:=by simpa only[Dt]using e
  obtain⟨a,xs,rfl,hr,hd⟩:=e';cases r;obtain⟨_,its,rv,o,eo,hc,n,hs⟩:=hr.ok ok;obtain⟨as,q⟩:=DtAll.reads ok ds xs its hd rv;exact⟨_,.tuple eo hc hs (by simpa using q)⟩
 |.dict kvs,x,v,e,r=>by
  have e':False:=by simpa only[Dt]using e
  exact e'.elim
theorem DtAll.reads(ok:HOk P w H h):∀(ds:List PyData) (xs:List V) (vs:List Value),DtAll H ds xs->Vals xs vs->∃as,ReadsAll h vs ds as
 | [],xs,vs,e,r=>by
  have e':xs=[]:=by simpa only[DtAll]using e
  subst e';cases r;exact⟨_,.nil⟩
 |d::ds,xs,vs,e,r=>by
  have e':∃y ys,xs=y::ys/\Dt H d y/\DtAll H ds ys:=by simpa only[DtAll]using e
  obtain⟨y,ys,rfl,h1,h2⟩:=e';cases r with
  |cons r1 r2 =>obtain⟨as,q1⟩:=Dt.reads ok d y _ h1 r1;obtain⟨bs,q2⟩:=DtAll.reads ok ds ys _ h2 r2;exact⟨_,.cons q1 q2⟩
end
end
theorem kU{H:Hp}:∀(ns:List Int),DtAll H (ns.map PyData.int) (ns.map V.int)
 | []=>by simp only[List.map_nil,DtAll]
 |n::ns=>by simp only[zn,DtAll];exact⟨_,_,rfl,by simp only[Dt],kU ns⟩
section
variable{X:Cx}
def uR:R2:=fun x y H Q=>∃dx dy,Dt H dx x/\Dt H dy y/\SeqAt.shaped dx=true/\SeqAt.shaped dy=true/\Q (.bl (PyData.eqv dx dy)) H
def uV:R2:=fun x y H Q=>∃dx dy,Dt H dx x/\Dt H dy y/\SeqAt.shaped dx=true/\SeqAt.shaped dy=true/\Q (.bl (!PyData.eqv dx dy)) H
theorem oh(hu:X.A.units+64<cLine):OpR X (compareOp .Eq) uR:=by intro pins s σ H x y v u Q I rx ry h;obtain⟨dx,dy,h1,h2,s1,s2,q⟩:=h;obtain⟨as,r1⟩:=Dt.reads I.hok dx x v h1 rx;obtain⟨bs,r2⟩:=Dt.reads I.hok dy y u h2 ry;exact eq_dataH r1 r2 s1 s2 hu ⟨.bl _,H,I,rfl,q⟩
theorem om(hu:X.A.units+64<cLine):OpR X (compareOp .NotEq) uV:=by intro pins s σ H x y v u Q I rx ry h;obtain⟨dx,dy,h1,h2,s1,s2,q⟩:=h;obtain⟨as,r1⟩:=Dt.reads I.hok dx x v h1 rx;obtain⟨bs,r2⟩:=Dt.reads I.hok dy y u h2 ry;exact ne_dataH r1 r2 s1 s2 hu ⟨.bl _,H,I,rfl,q⟩
theorem di(hu:X.A.units+64<cLine):QOp X (compareOp .Eq) uR:=⟨oh hu⟩
theorem qU(hu:X.A.units+64<cLine):QOp X (compareOp .NotEq) uV:=⟨om hu⟩
end
section
variable{X:Cx}
variable{o e:Expr}{to te:TE}{apos cpos:Pos}
theorem qX(ho:QE X o to)(he:QE X e te)(hs:aM e=true:=by rfl)(hbase:attributeBase o "append" X.env (eval o X.env)=eval o X.env:=by rfl)(hline:(apos.endLine==cpos.line)=true:=by rfl) :
  QE X (.Call (.Attribute o "append" apos) [e] [] cpos) (tBM X.K "list" lA to (hV te fb)):=by
 have h1:=aW (es:=[]) (env:=X.env) hs;have h2:starEach ([]:List Expr) X.env=[]:=rfl;refine⟨qV PySem.F.plainAttrs_list PySem.F.slot_list_append PySem.F.type_list_append nQ ho.h (pa he.h ke hs) hbase ?_ hline h1 (by rw[h2];rfl)⟩;rw[h1,h2];rfl
end
open PySem PySem.Spec PyProof.Rows
theorem hJ{H H':Hp}{p:Addr}{o:HO}(e:Same H H')(h:H p=none):Same H (upd H' p o):=fun b u q=>by rw[af (aq q h)];exact e _ _ q
def cY(ns:List Int)(k:Nat):Int:=(ns[k]?).getD 0
theorem pD{ns:List Int}{k:Int}(h0:0<=k)(h1:k<ns.length):atI (ns.map V.int) k=some (.int (cY ns k.toNat)):=by
 have hk:k.toNat<ns.length:=by omega
 have ek:k=((k.toNat:Nat):Int):=by omega
 have q:atI (ns.map V.int) ((k.toNat:Nat):Int)=some (.int ns[k.toNat]):=bU (by rw[Zz,zm hk]<;>rfl);rw[<-ek]at q;rw[q];unfold cY;rw[zm hk];rfl
theorem pI{ns:List Int}{k:Int}(h0:0<=k)(h1:¬k<ns.length):cY ns k.toNat=0:=by unfold cY;rw[List.getElem?_eq_none (by omega)];rfl
open PySem PySem.Spec PyProof.Rows
section
variable{prog:Program}{w:World}{A:Around}
theorem cD(calm:A.handled=none)(it t:Addr)(apart:t≠it)(xs:Array Value) :
  Draws prog w A it [it,t] xs.size (fun i v=>xs[i]?=some v) (fun i h=>h.IsTupleIter it t i/\h.IsTuple t xs) where
 live:=fun _ _ q=>let⟨o,eo,_⟩:=q.1;⟨o,eo⟩
 frame:=fun _ _ _ q kp=>⟨let⟨o,eo,r⟩:=q.1;⟨o,kp it (by simp) o eo,r⟩,let⟨o,eo,r⟩:=q.2;⟨o,kp t (by simp) o eo,r⟩⟩
 item:=fun i s Q E lt q cont=>by
  have ei:xs[i]?=some xs[i]:=by simp[lt]
  obtain⟨o,eo,ec,ed⟩:=id q.1;obtain⟨p,ep,_,np,edp⟩:=id q.2;have ty:=q.1.typeIs;unfold Builtin.SmallTypes.nextOf;refine zd (zY (name:=Str.ofString "__next__") ty F.slot_tuple_iterator_next (Zh F.slot_tuple_iterator_next ty F.entry_tuple_iterator_next ?_ (F.args_tuple_iterator_next_1 _)));show wpAny _ _ (field (.ref it) 0 >>= _) _ _ s;refine zd (Zr eo ed (x:=.ref t) rfl ?_);show wpAny _ _ (if(Value.ref t==Value.none)=true then _ else _) _ _ s;rw[if_neg (show¬((Value.ref t==Value.none)=true)from zo)];show wpAny _ _ (field (.ref it) 1 >>= _) _ _ s;refine zd (Zr eo ed (x:=.int i 0) rfl ?_);show wpAny _ _ (seqItems? (.ref t) >>= _) _ _ s;refine zd (wpAny_seqItems ep edp ?_);simp only[Int.toNat_natCast,ei];have sb:=Zd s.heap it (fun ob=>ob.mapFields fun fs=>fs.setIfInBounds 1 (rawInt (i+1)));refine zd (wpAny_setField eo ed (by simp) (zi ⟨xs[i],rfl,zi (cont _ _ s.toks ei ⟨?_,?_⟩ (Zd ..))⟩))
  ·exact⟨_,Heap.get?_update_self _ eo (Obj.isFreed_of_fields (Obj.data_mapFields ed _)),(Obj.cls_mapFields ..).trans ec,by rw[Obj.data_mapFields ed];simp[rawInt]⟩
  ·exact q.2.extBut (Zd ..).extBut apart
 done:=fun s Q E q cont=>by
  have ei:xs[xs.size]?=none:=by simp
  obtain⟨o,eo,ec,ed⟩:=id q.1;obtain⟨p,ep,_,np,edp⟩:=id q.2;have ty:=q.1.typeIs;unfold Builtin.SmallTypes.nextOf;refine zd (zY (name:=Str.ofString "__next__") ty F.slot_tuple_iterator_next (Zh F.slot_tuple_iterator_next ty F.entry_tuple_iterator_next ?_ (F.args_tuple_iterator_next_1 _)));show wpAny _ _ (field (.ref it) 0 >>= _) _ _ s;refine zd (Zr eo ed (x:=.ref t) rfl ?_);show wpAny _ _ (if(Value.ref t==Value.none)=true then _ else _) _ _ s;rw[if_neg (show¬((Value.ref t==Value.none)=true)from zo)];show wpAny _ _ (field (.ref it) 1 >>= _) _ _ s;refine zd (Zr eo ed (x:=.int xs.size 0) rfl ?_);show wpAny _ _ (seqItems? (.ref t) >>= _) _ _ s;refine zd (wpAny_seqItems ep edp ?_);simp only[Int.toNat_natCast,ei];refine zd (wpAny_rule (zd (wpAny_setField eo ed (by simp) ?_)));show wpAny _ _ (newExc (.type "StopIteration") [] >>= _) _ _ _;refine zd ?_;simp only[newExc,newTuple];refine zd (Zl ?_ (by size_fits));refine zd (m:=firstArgMember _ _) (wpAny_of_eq (a:=Value.none) (by first|rfl|(simp only[firstArgMember];rfl)) (Zl ?_ (by size_fits)));simp only[raiseNew];refine zd (wpAny_handled ?_)
  first|rw[show A.in1.handled=none from calm]|rw[calm]
  exact zd (zi (wpAny_throw (cont _ _ (((Zd ..).extBut.push _).push _) ⟨_,zw _ rfl,rfl⟩)))
end
structure ZAp(z u v i j:Addr)(f g:List Addr):Prop where
 uz:u≠z
 vz:v≠z
 uv:u≠v
 ui:u≠i
 uj:u≠j
 vi:v≠i
 vj:v≠j
 iz:i≠z
 jz:j≠z
 ij:i≠j
 zf:z∉f
 zg:z∉g
 vf:v∉f
 vg:v∉g
 jf:j∉f
 ig:i∉g
section
variable{prog:Program}{w:World}{A:Around}{E:Value->Shared->Prop}{s:Shared}{z u v i j:Addr}{f g:List Addr}{n m k:Nat}{P1 P2:Nat->Value->Prop}{S1 S2:Nat->Heap->Prop}{a b:Value}
def lQ(z v i j:Addr)(h h':Heap):Prop:=∀c o,c≠z->c≠v->c≠i->c≠j->h.get? c=some o->h'.get? c=some o
theorem bP{c:Addr}{f:List Addr}{d:Addr}(hc:c∈f)(hd:d∉f):c≠d:=fun e=>hd (e▸hc)
theorem qJ(d1:Draws prog w A i f n P1 S1)(d2:Draws prog w A j g m P2 S2)(ap:ZAp z u v i j f g)(hz:IsZip s.heap z u v .none)(hu:IsPair s.heap u (.ref i) (.ref j))(hv:IsPair s.heap v a b)(h1:S1 k s.heap)(h2:S2 k s.heap)(l1:k<n)(l2:k<m){Q:Value->Shared->Prop}(cont:∀h' tk x y,P1 k x->P2 k y->IsZip h' z u v (rawInt s.heap.objs.size)->IsPair h' v x y->S1 (k+1) h'->S2 (k+1) h'->IsPair h' s.heap.objs.size x y->lQ z v i j s.heap h'->Q (.ref s.heap.objs.size) { s with heap:=h',toks:=tk }) :
  wpAny (model prog w) A (Builtin.«zip.__next__» ⟨[.ref z],[]⟩) (fun fin s'=>∃r,fin=.done (.ret r)/\Q r s') E s:=by
 show wpAny _ _ (field (.ref z) 2 >>= _) _ _ _;refine zd (Zr hz rfl (x:=.bool false) rfl ?_);show wpAny _ _ (field (.ref z) 3 >>= _) _ _ _;refine zd (Zr hz rfl (x:=.ref u) rfl (zd (wpAny_seqItems hu rfl ?_)));show wpAny _ _ (Builtin.SmallTypes.ownedTupleIsFree (.ref z) >>= _) _ _ _;refine zd ?_;unfold Builtin.SmallTypes.ownedTupleIsFree;refine zd (Zr hz rfl (x:=.none) rfl (zi ?_));simp only[if_true];refine zd (wpAny_rule (zd (Zr hz rfl (x:=.ref v) rfl ?_)));refine zd (wpAny_setField_rec hz (by simp) fun q1 z1 b1=>?_)
 replace z1:IsZip q1 z u v .ellipsis:=z1
 refine zd ?_;simp only[List.zipIdx_cons,List.zipIdx_nil,List.forIn_cons,List.forIn_nil];refine zd (zd (wpAny_onRaise ?_));show wpAny _ _ (Builtin.SmallTypes.nextOf (.ref i) >>= _) _ _ _;refine zd (d1.item k { s with heap:=q1 } _ _ l1 (d1.frame _ _ _ h1 fun c hc o e=>b1.extBut c o (bP hc ap.zf) e) fun x q2 t2 px s2 b2=>zi ?_);have v2:IsPair q2 v a b:=b2.extBut _ _ ap.vi (b1.extBut _ _ ap.vz hv);refine zd (wpAny_seqItems v2 rfl (zd (wpAny_updateSeq_pair v2 fun q3 w3 b3=>?_)))
 replace w3:IsPair q3 v x b:=w3
 refine zd (wpAny_letGo (zi ?_));refine zd (zd (wpAny_onRaise ?_));show wpAny _ _ (Builtin.SmallTypes.nextOf (.ref j) >>= _) _ _ _;refine zd (d2.item k { s with heap:=q3,toks:=t2 } _ _ l2 (d2.frame _ _ _ h2 fun c hc o e=>b3.extBut c o (bP hc ap.vg) (b2.extBut c o (bP hc ap.ig) (b1.extBut c o (bP hc ap.zg) e))) fun y q4 t4 py s4 b4=>zi ?_);have v4:IsPair q4 v x b:=b4.extBut _ _ ap.vj w3;refine zd (wpAny_seqItems v4 rfl (zd (wpAny_updateSeq_pair v4 fun q5 w5 b5=>?_)))
 replace w5:IsPair q5 v x y:=w5
 refine zd (wpAny_letGo (zi (zi (zd (wpAny_seqItems w5 rfl (zd (wpAny_newTuple ?_)))))));have sz:q5.objs.size=s.heap.objs.size:=by rw[b5.1,b4.1,b3.1,b2.1,b1.1]
 have z5:IsZip q5 z u v .ellipsis:=b5.extBut _ _ ap.vz.symm (b4.extBut _ _ ap.jz.symm (b3.extBut _ _ ap.vz.symm (b2.extBut _ _ ap.iz.symm z1)));have k5:lQ z v i j s.heap q5:=fun c o c1 c2 c3 c4 e=>b5.extBut _ _ c2 (b4.extBut _ _ c4 (b3.extBut _ _ c2 (b2.extBut _ _ c3 (b1.extBut _ _ c1 e))));have s5:S1 (k+1) q5:=d1.frame _ _ _ s2 fun c hc o e=>b5.extBut c o (bP hc ap.vf) (b4.extBut c o (bP hc ap.jf) (b3.extBut c o (bP hc ap.vf) e));have r5:S2 (k+1) q5:=d2.frame _ _ _ s4 fun c hc o e=>b5.extBut c o (bP hc ap.vg) e;have zlt:z<q5.objs.size:=zq z5;show wpAny _ _ (Builtin.SmallTypes.ownedTupleHandOut (.ref z) (.ref q5.objs.size) >>= _) _ _ _;refine zd ?_;unfold Builtin.SmallTypes.ownedTupleHandOut;refine zd (wpAny_setField_rec (show IsZip (q5.push { cls:=.type "tuple",data:=.seq #[x,y] }) z u v .ellipsis from ze _ z5) (by simp) fun q7 z7 b7=>?_)
 replace z7:IsZip q7 z u v (rawInt q5.objs.size):=z7
 refine wpAny_setField_rec z7 (by simp) fun q8 z8 b8=>?_
 replace z8:IsZip q8 z u v (rawInt q5.objs.size):=z8
 have up:∀c o,c≠z->q5.get? c=some o->q8.get? c=some o:=fun c o c1 e=>b8.extBut _ _ c1 (b7.extBut _ _ c1 (ze _ e));have p8:IsPair q8 q5.objs.size x y:=b8.extBut _ _ (ZM zlt) (b7.extBut _ _ (ZM zlt) (zw _ rfl));rw[sz]at z8 p8;refine zi ⟨_,rfl,?_⟩;show Q (.ref q5.objs.size) _;rw[sz];exact cont q8 _ x y px py z8 (up _ _ ap.vz w5) (d1.frame _ _ _ s5 fun c hc o e=>up c o (bP hc ap.zf) e) (d2.frame _ _ _ r5 fun c hc o e=>up c o (bP hc ap.zg) e) p8 fun c o c1 c2 c3 c4 e=>up c o c1 (k5 c o c1 c2 c3 c4 e)
theorem sQ(d1:Draws prog w A i f n P1 S1)(d2:Draws prog w A j g m P2 S2)(ap:ZAp z u v i j f g)(hz:IsZip s.heap z u v .none)(hu:IsPair s.heap u (.ref i) (.ref j))(hv:IsPair s.heap v a b)(h1:S1 n s.heap){Q:Fin->Shared->Prop}(cont:∀h' e,lQ z v i j s.heap h'->(∃o,h'.get? e=some o/\o.cls=.type "StopIteration")->E (.ref e) { s with heap:=h' }):wpAny (model prog w) A (Builtin.«zip.__next__» ⟨[.ref z],[]⟩) Q E s:=by
 show wpAny _ _ (field (.ref z) 2 >>= _) _ _ _;refine zd (Zr hz rfl (x:=.bool false) rfl ?_);show wpAny _ _ (field (.ref z) 3 >>= _) _ _ _;refine zd (Zr hz rfl (x:=.ref u) rfl (zd (wpAny_seqItems hu rfl ?_)));show wpAny _ _ (Builtin.SmallTypes.ownedTupleIsFree (.ref z) >>= _) _ _ _;refine zd ?_;unfold Builtin.SmallTypes.ownedTupleIsFree;refine zd (Zr hz rfl (x:=.none) rfl (zi ?_));simp only[if_true];refine zd (wpAny_rule (zd (Zr hz rfl (x:=.ref v) rfl ?_)));refine zd (wpAny_setField_rec hz (by simp) fun q1 z1 b1=>?_)
 replace z1:IsZip q1 z u v .ellipsis:=z1
 refine zd ?_;simp only[List.zipIdx_cons,List.zipIdx_nil,List.forIn_cons,List.forIn_nil];refine zd (zd (wpAny_onRaise ?_));show wpAny _ _ (Builtin.SmallTypes.nextOf (.ref i) >>= _) _ _ _;refine zd (d1.done { s with heap:=q1 } _ _ (d1.frame _ _ _ h1 fun c hc o e=>b1.extBut c o (bP hc ap.zf) e) fun q2 e b2 he=>?_);obtain⟨oe,hoe,hce⟩:=he;have z2:IsZip q2 z u v .ellipsis:=b2 _ _ ap.iz.symm z1;have ez:e≠z:=fun x=>by subst x;rw[z2]at hoe;cases hoe;simp at hce
 exact wpAny_setField_rec z2 (by simp) fun q3 _ b3=>cont q3 e (fun c o c1 _ c3 _ x=>b3.extBut _ _ c1 (b2 _ _ c3 (b1.extBut _ _ c1 x))) ⟨oe,b3.extBut _ _ ez hoe,hce⟩
end
section
variable{X:Cx}{pins:List (Addr×Obj)}{σ:St}{H:Hp}{s:Shared}{h':Heap}{ch:List Addr}{t':Nat}
theorem Inv.turnH{H':Hp}(I:Inv X pins σ H s)(hch:∀b∈ch,bn X pins H b)(kp:∀b o,b∉ch->s.heap.get? b=some o->h'.get? b=some o)(up:∀b u,H b=some u->H' b=some u)(dn:∀b o,s.heap.get? b=some o->H b=none->H' b=none)(hok:HOk X.prog X.w H' h') :
  Inv X pins σ H' { s with heap:=h',toks:=t' }:=by
 refine I.step (g':=s.gens) (d':=s.drawn) (ch:=ch) (fun b hb=>?_) (fun b o _ _ hc e _=>kp b o hc e) (fun b o _ _ hc e _=>⟨o.slots,kp b o hc e⟩) (fun b o _ e n=>dn b o e n) (fun b o hc e=>⟨o,kp b o hc e⟩) (fun b xs e=>up _ _ e) (fun b o u e=>up _ _ e) (fun b ps e=>⟨#[],by rw[up _ _ e];simp⟩) (fun m hm=>?_) hok I.bare
 ·obtain⟨f0,f1,f2,f3,f4,f5⟩:=hch b hb;exact⟨f3,f1,f4,f5⟩
 ·obtain⟨o,es,ep,ho,r⟩:=hm;exact⟨o,es,ep,kp _ o (fun z=>(hch _ z).2.1 rfl) ho,r⟩
theorem jO(I:Inv X pins σ H s)(hch:∀b∈ch,bn X pins H b)(kp:∀b o,b∉ch->s.heap.get? b=some o->h'.get? b=some o):HOk X.prog X.w H h':=fun b u e=>by
 have nin:∀{c:Addr} {q:HO},H c=some q->c∉ch:=fun{c q} e z=>by rw[(hch c z).1]at e;cases e
 refine(I.hok b u e).stay (fun c v hc q=>kp c v ?_ q) (fun _ q=>q) fun _ _ q=>q;rcases hc with z|z
 ·rw[z];exact nin e
 ·exact nin z
theorem Inv.turnM(I:Inv X pins σ H s)(hch:∀b∈ch,bn X pins H b)(kp:∀b o,b∉ch->s.heap.get? b=some o->h'.get? b=some o):Inv X pins σ H { s with heap:=h',toks:=t' } :=
 I.turnH hch kp (fun _ _ e=>e) (fun _ _ _ n=>n) (jO I hch kp)
theorem Inv.turnT{xs:List V}{its:List Value}(I:Inv X pins σ H s)(hch:∀b∈ch,bn X pins H b)(kp:∀b o,b∉ch->s.heap.get? b=some o->h'.get? b=some o)(hp:IsTup h' s.heap.objs.size its.toArray)(rv:Vals xs its)(hz:xs.length<=sizeLine) :
  Inv X pins σ (upd H s.heap.objs.size (.tup xs)) { s with heap:=h',toks:=t' }:=by
 have fr:=I.hok.fresh (zh s.heap.objs.size);have ne:∀{b:Addr} {u:HO},H b=some u->b≠s.heap.objs.size:=fun{b u} e=>aq e fr;have hk:=jO I hch kp;refine I.turnH hch kp (fun b u e=>by rw[af (ne e)];exact e) (fun b o e n=>by rw[af (zJ (zq e))];exact n) fun b u e=>?_;by_cases hb:b=s.heap.objs.size
 ·subst hb;rw[ae]at e;cases e;exact⟨hz,its,rv,hp⟩
 ·rw[af hb]at e;exact(hk b u e).stay (fun _ _ _ q=>q) (fun c q=>by rw[af (ne q)];exact q) fun c ys q=>by rw[af (ne q)];exact q
end
def Itz(K:PySem.W.Frag)(a b:Addr)(xs ys:List V):It :=
 ⟨fun i H=>i<xs.length/\SqT K H a xs/\SqT K H b ys,fun i H x H'=>∃T p q,H T=none/\xs[i]?=some p/\ys[i]?=some q/\x=.ref T/\H'=upd H T (.tup [p,q]),fun i H=>i=xs.length/\SqT K H a xs/\SqT K H b ys⟩
abbrev zTn(z u v i1 i2 a b:Addr):Nat->Heap->Prop:=fun i h=>IsZip h z u v .none/\IsPair h u (.ref i1) (.ref i2)/\(∃p q,IsPair h v p q)/\h.IsTupleIter i1 a i/\h.IsTupleIter i2 b i
theorem qH{P:Program}{w:World}{K:PySem.W.Frag}{elts:List Expr}{kt:Nat}{tp:Pos}{z u v i1 i2 a b:Addr}{xs ys:List V}(hl:xs.length=ys.length)(D:[z,u,v,i1,i2].Nodup)(ha:∀c∈[z,u,v,i1,i2],c≠a/\c≠b) :
  Turn P w K (.Tuple elts kt tp) (Itz K a b xs ys) [z,u,v,i1,i2] z (zTn z u v i1 i2 a b):=by
 have nd:(z≠u/\z≠v/\z≠i1/\z≠i2)/\(u≠v/\u≠i1/\u≠i2)/\(v≠i1/\v≠i2)/\i1≠i2:=by simpa using D
 obtain⟨⟨zu,zv,z1,z2⟩,⟨uv,u1,u2⟩,⟨v1,v2⟩,i12⟩:=nd;have az:=ha z (by simp);have av:=ha v (by simp);have a1:=ha i1 (by simp);have a2:=ha i2 (by simp);have ap:ZAp z u v i1 i2 [i1,a] [i2,b]:=⟨zu.symm,zv.symm,uv,u1,u2,v1,v2,z1.symm,z2.symm,i12,by simp[z1,az.1],by simp[z2,az.2],by simp[v1,av.1],by simp[v2,av.2],by simp[i12.symm,a2.1],by simp[i12,a1.2]⟩
 refine⟨by simp,fun i h st c hc=>?_,fun i h h' st k=>?_,?_,?_,fun A i s Q E st h=>wpAny_pyIter_zip st.1 h⟩
 ·obtain⟨e1,e2,⟨p,q,e3⟩,⟨o4,e4,_,d4⟩,⟨o5,e5,_,d5⟩⟩:=st;simp only[zD,Zt,or_false]at hc;rcases hc with rfl|rfl|rfl|rfl|rfl
  ·exact⟨_,e1,fun v z=>nomatch z⟩
  ·exact⟨_,e2,fun v z=>nomatch z⟩
  ·exact⟨_,e3,fun v z=>nomatch z⟩
  ·exact⟨_,e4,fun v z=>by rw[d4]at z;cases z⟩
  ·exact⟨_,e5,fun v z=>by rw[d5]at z;cases z⟩
 ·obtain⟨e1,e2,⟨p,q,e3⟩,⟨o4,e4,r4⟩,⟨o5,e5,r5⟩⟩:=st;exact⟨k z (by simp) _ e1,k u (by simp) _ e2,⟨p,q,k v (by simp) _ e3⟩,⟨o4,k i1 (by simp) _ e4,r4⟩,⟨o5,k i2 (by simp) _ e5,r5⟩⟩
 ·intro X hP hw hK hc i pins s σ H E I hf st hg;subst hP hw hK;obtain⟨e1,e2,⟨p,q,e3⟩,e4,e5⟩:=st;obtain⟨hi,hx,hy⟩:=hg;obtain⟨its,rx,px,zx⟩:=I.tuple hx;obtain⟨jts,ry,py,zy⟩:=I.tuple hy;have lx:i<its.toArray.size:=by rw[zp,<-rx.length];exact hi
  have ly:i<jts.toArray.size:=by rw[zp,<-ry.length,<-hl];exact hi
  have hh:=I.ok.hd hc;have hT:s.TypeIs (.ref z) "zip":=⟨_,e1,rfl⟩
  unfold pyNext;refine zd (wpAny_attempt (zY (name:=Str.ofString "__next__") hT F.slot_zip_next (Zh F.slot_zip_next hT F.entry_zip_next
   (qJ (cD (A:=X.A.in1) hh i1 a a1.1.symm its.toArray) (cD (A:=X.A.in1) hh i2 b a2.2.symm jts.toArray) ap e1 e2 e3 ⟨e4,px⟩ ⟨e5,py⟩ lx ly fun h' tk x y qx qy zz vv s1 s2 pp kp=>zi ?_) (F.args_zip_next_1 _))))
  refine⟨_,rfl,wpAny_letOwnedTupleGo_zip (s:={ s with heap:=h',toks:=tk }) zz fun h2 z2' sb=>?_⟩;obtain⟨xv,ex⟩:∃xv,xs[i]?=some xv:=⟨xs[i],by simp[hi]⟩
  obtain⟨yv,ey⟩:∃yv,ys[i]?=some yv:=⟨ys[i]'(by omega),by simp[show i<ys.length by omega]⟩
  obtain⟨x',gx,rxv⟩:=rx.get ex;obtain⟨y',gy,ryv⟩:=ry.get ey;have qx':its[i]?=some x:=by simpa using qx
  have qy':jts[i]?=some y:=by simpa using qy
  rw[gx]at qx';rw[gy]at qy';cases qx';cases qy';have ltz:z<s.heap.objs.size:=zq e1;have kp2:∀c o,c∉[z,u,v,i1,i2]->s.heap.get? c=some o->h2.get? c=some o:=fun c o hc e=>by simp only[zD,Zt,or_false,not_or]at hc;exact sb.extBut c o hc.1 (kp c o hc.1 hc.2.2.1 hc.2.2.2.1 hc.2.2.2.2 e)
  have tT:IsTup h2 s.heap.objs.size [x,y].toArray:=⟨_,sb.extBut _ _ (ZM ltz) pp,rfl,_,rfl⟩
  refine⟨.ref s.heap.objs.size,upd H s.heap.objs.size (.tup [xv,yv]),I.turnT (t':=tk) hf kp2 tT (.cons rxv (.cons ryv .nil)) (sz rfl),rfl,⟨_,xv,yv,I.hok.fresh (zh _),ex,ey,rfl,rfl⟩,?_,fun c hc=>?_⟩
  ·exact⟨z2',sb.extBut _ _ zu.symm (kp _ _ zu.symm uv u1 u2 e2),⟨_,_,sb.extBut _ _ zv.symm vv⟩,s1.1.extBut sb.extBut z1.symm,s2.1.extBut sb.extBut z2.symm⟩
  ·rw[af]
   ·exact(hf c hc).1
   ·obtain⟨o,eo,_⟩:∃o,s.heap.get? c=some o/\True:=by
     simp only[zD,Zt,or_false]at hc;rcases hc with rfl|rfl|rfl|rfl|rfl
     ·exact⟨_,e1,trivial⟩
     ·exact⟨_,e2,trivial⟩
     ·exact⟨_,e3,trivial⟩
     ·obtain⟨o,eo,_⟩:=e4;exact⟨o,eo,trivial⟩
     ·obtain⟨o,eo,_⟩:=e5;exact⟨o,eo,trivial⟩
    exact zJ (zq eo)
 ·intro X hP hw hK hc i pins s σ H E I hf st hg;subst hP hw hK;obtain⟨e1,e2,⟨p,q,e3⟩,e4,e5⟩:=st;obtain⟨rfl,hx,hy⟩:=hg;obtain⟨its,rx,px,zx⟩:=I.tuple hx;obtain⟨jts,ry,py,zy⟩:=I.tuple hy;have lx:its.toArray.size=xs.length:=by rw[zp,<-rx.length]
  have hh:=I.ok.hd hc;have hT:s.TypeIs (.ref z) "zip":=⟨_,e1,rfl⟩
  unfold pyNext;refine zd (wpAny_attempt (zY (name:=Str.ofString "__next__") hT F.slot_zip_next (Zh F.slot_zip_next hT F.entry_zip_next
   (sQ (cD (A:=X.A.in1) hh i1 a a1.1.symm its.toArray) (cD (A:=X.A.in1) hh i2 b a2.2.symm jts.toArray) ap e1 e2 e3 ⟨by rw[lx];exact e4,px⟩ fun h' e kp he=>?_) (F.args_zip_next_1 _))))
  obtain⟨o,ho,hco⟩:=he;refine zd (wpAny_isInstance (T:="StopIteration") (b:=true) ⟨o,ho,hco⟩ isSubtype_stop (zi ⟨rfl,?_⟩));exact I.turnM (t':=s.toks) hf fun c ob hc e=>by simp only[zD,Zt,or_false,not_or]at hc;exact kp c ob hc.1 hc.2.2.1 hc.2.2.2.1 hc.2.2.2.2 e
theorem ml(l1 l2:Addr)(xs ys:Array Value) :
  Meets (Builtin.«zip.__new__» ⟨[.type "zip",.ref l1,.ref l2],[]⟩) (fun _ R s=>s.heap.IsTuple l1 xs/\s.heap.IsTuple l2 ys /\
   R (.ok (.ret (.ref ((((s.heap.push { cls:=.type "tuple_iterator",data:=.fields #[.ref l1,.int 0 0] }).push { cls:=.type "tuple_iterator",data:=.fields #[.ref l2,.int 0 0] }).push { cls:=.type "tuple",data:=.seq #[.ref s.heap.objs.size,.ref (s.heap.push { cls:=.type "tuple_iterator",data:=.fields #[.ref l1,.int 0 0] }).objs.size] }).push { cls:=.type "tuple",data:=.seq #[.none,.none] }).objs.size)))
    { s with heap:=((((s.heap.push { cls:=.type "tuple_iterator",data:=.fields #[.ref l1,.int 0 0] }).push { cls:=.type "tuple_iterator",data:=.fields #[.ref l2,.int 0 0] }).push { cls:=.type "tuple",data:=.seq #[.ref s.heap.objs.size,.ref (s.heap.push { cls:=.type "tuple_iterator",data:=.fields #[.ref l1,.int 0 0] }).objs.size] }).push { cls:=.type "tuple",data:=.seq #[.none,.none] }).push { cls:=.type "zip",data:=.fields #[.none,.bool false,.bool false,.ref ((s.heap.push { cls:=.type "tuple_iterator",data:=.fields #[.ref l1,.int 0 0] }).push { cls:=.type "tuple_iterator",data:=.fields #[.ref l2,.int 0 0] }).objs.size,.ref (((s.heap.push { cls:=.type "tuple_iterator",data:=.fields #[.ref l1,.int 0 0] }).push { cls:=.type "tuple_iterator",data:=.fields #[.ref l2,.int 0 0] }).push { cls:=.type "tuple",data:=.seq #[.ref s.heap.objs.size,.ref (s.heap.push { cls:=.type "tuple_iterator",data:=.fields #[.ref l1,.int 0 0] }).objs.size] }).objs.size] } }) :=
 .of_wp fun prog w A R s h=>by
  obtain⟨hp,g,d,tk,os⟩:=s;obtain⟨t1,t2,h⟩:=h;have hsub:=sub_zip;have T1:Heap.IsTuple (Shared.heap ⟨hp,g,d,tk,os⟩) l1 xs:=t1;have T2:Heap.IsTuple (Shared.heap ⟨hp.push { cls:=.type "tuple_iterator",data:=.fields #[.ref l1,.int 0 0] },g,d,tk,os⟩) l2 ys:=Heap.IsTuple.push t2 _
  wp_walk using wpAny_pyIter_tuple T1,wpAny_pyIter_tuple T2
  exact⟨_,rfl,h⟩
theorem tV(n:Nat):[n+4,n+2,n+3,n,n+1].Nodup:=by simp
def tE(K:PySem.W.Frag)(ta:TA):TI:=fun σ H R=>ta σ H fun vs H1=>∃a b xs ys,vs=[.ref a,.ref b]/\SqT K H1 a xs/\SqT K H1 b ys/\xs.length=ys.length/\R (Itz K a b xs ys) H1
section
variable{X:Cx}
theorem uF{e1 e2:Expr}{ta:TA}{p pos tp:Pos}{elts:List Expr}{kt:Nat}(hg:Gl X "zip")(hm:X.mg "zip" = none)(ha:PA X [e1,e2] ta)(n1:aM e1=true)(n2:aM e2=true):PI X (.Tuple elts kt tp) (.Call (.Name "zip" p) [e1,e2] [] pos) (tE X.K ta):=by
 intro pins s σ H R I h;refine Call_ (dE I hg hm boot_zip (ZN (thn (ha pos pins s σ H _ I h) fun us s1 hz9=>?_) (aW n1) (bx (by simp[n2]))));obtain⟨vs,H1,I1,r1,q1⟩:=hz9;obtain⟨a,b,xs,ys,e,hx,hy,hl,q⟩:=q1;subst e;obtain⟨ua,ub,rfl,ra,rb⟩:=mJ r1;cases ra;cases rb;obtain⟨its,rx,px,zx⟩:=I1.tuple hx;obtain⟨jts,ry,py,zy⟩:=I1.tuple hy;refine callType_new F.called_zip (by decide) (F.typeCall_zip_2 _ _) (F.newCall_zip_2 _ _) (fun obj=>F.args_object_init_3 obj _ _) F.entry_zip_new (ml a b its.toArray jts.toArray) ⟨px,py,?_⟩;generalize ea:({ cls:=.type "tuple_iterator",data:=.fields #[.ref a,.int 0 0] }:Obj)=oa;generalize eb:({ cls:=.type "tuple_iterator",data:=.fields #[.ref b,.int 0 0] }:Obj)=ob;have z1:(s1.heap.push oa).objs.size=s1.heap.objs.size+1:=Heap.size_push ..;have z2:((s1.heap.push oa).push ob).objs.size=s1.heap.objs.size+2:=by rw[Heap.size_push,z1]
 rw[z2,z1];generalize eu:({ cls:=.type "tuple",data:=.seq #[.ref s1.heap.objs.size,.ref (s1.heap.objs.size+1)] }:Obj)=ou;have z3:(((s1.heap.push oa).push ob).push ou).objs.size=s1.heap.objs.size+3:=by rw[Heap.size_push,z2]
 generalize ev:({ cls:=.type "tuple",data:=.seq #[.none,.none] }:Obj)=ov;have z4:((((s1.heap.push oa).push ob).push ou).push ov).objs.size=s1.heap.objs.size+4:=by rw[Heap.size_push,z3]
 rw[z4,z3];generalize ez:({ cls:=.type "zip",data:=.fields #[.none,.bool false,.bool false,.ref (s1.heap.objs.size+2),.ref (s1.heap.objs.size+3)] }:Obj)=oz;have g5:(((((s1.heap.push oa).push ob).push ou).push ov).push oz).get? (s1.heap.objs.size+4)=some oz:=by rw[<-z4];exact zw _ (by rw[<-ez];rfl)
 have g4:(((((s1.heap.push oa).push ob).push ou).push ov).push oz).get? (s1.heap.objs.size+3)=some ov:=by rw[<-z3];exact ze _ (zw _ (by rw[<-ev];rfl))
 have g3:(((((s1.heap.push oa).push ob).push ou).push ov).push oz).get? (s1.heap.objs.size+2)=some ou:=by rw[<-z2];exact ze _ (ze _ (zw _ (by rw[<-eu];rfl)))
 have g2:(((((s1.heap.push oa).push ob).push ou).push ov).push oz).get? (s1.heap.objs.size+1)=some ob:=by rw[<-z1];exact ze _ (ze _ (ze _ (zw _ (by rw[<-eb];rfl))))
 have g1:(((((s1.heap.push oa).push ob).push ou).push ov).push oz).get? s1.heap.objs.size=some oa:=ze _ (ze _ (ze _ (ze _ (zw _ (by rw[<-ea];rfl)))));have kp:∀c o,s1.heap.get? c=some o->(((((s1.heap.push oa).push ob).push ou).push ov).push oz).get? c=some o:=fun c o e=>ze _ (ze _ (ze _ (ze _ (ze _ e))));generalize((((s1.heap.push oa).push ob).push ou).push ov).push oz=hN at g1 g2 g3 g4 g5 kp ⊢;have I2:Inv X pins σ H1 { s1 with heap:=hN }:=I1.kept (t':=s1.toks) kp;have la:a<s1.heap.objs.size:=px.lt;have lb:b<s1.heap.objs.size:=py.lt;subst ea eb eu ev ez;have base:∀c∈[s1.heap.objs.size+4,s1.heap.objs.size+2,s1.heap.objs.size+3,s1.heap.objs.size,s1.heap.objs.size+1],s1.heap.objs.size<=c:=fun c hc=>by simp only[zD,Zt,or_false]at hc;omega
 refine⟨⟨_,g5,rfl⟩,?_⟩;show wpAny (model X.prog X.w) X.A (pyIter (.ref (s1.heap.objs.size+4))) (PIE X pins σ (.Tuple elts kt tp) R) X.xe { s1 with heap:=hN };refine wpAny_pyIter_zip g5 ?_;refine⟨s1.heap.objs.size+4,[s1.heap.objs.size+4,s1.heap.objs.size+2,s1.heap.objs.size+3,s1.heap.objs.size,s1.heap.objs.size+1],zTn (s1.heap.objs.size+4) (s1.heap.objs.size+2) (s1.heap.objs.size+3) s1.heap.objs.size (s1.heap.objs.size+1) a b,_,H1,rfl,I2,
  qH hl ?_ (fun c hc=>⟨ZM (zC la (base c hc)),ZM (zC lb (base c hc))⟩),⟨g5,g3,⟨_,_,g4⟩,⟨_,g1,rfl,rfl⟩,⟨_,g2,rfl,rfl⟩⟩,fun c hc=>?_,q⟩
 ·exact tV s1.heap.objs.size
 ·exact I1.fpOk (base c hc) (I1.hok.fresh (base c hc))
theorem qR{e1 e2:Expr}{ta:TA}{p pos tp:Pos}{elts:List Expr}{kt:Nat}(hm:X.mg "zip" = none)(ha:QA X [e1,e2] ta)(hg:Gl X "zip":=by rfl)(n1:aM e1=true:=by rfl)(n2:aM e2=true:=by rfl):QI X (.Tuple elts kt tp) (.Call (.Name "zip" p) [e1,e2] [] pos) (tE X.K ta):=⟨uF hg hm ha.h n1 n2⟩
end
open PySem PySem.Spec PyProof.Rows
def qY:R2:=fun x y H Q=>∃a b xs ys,x=.ref a/\y=.ref b/\H a=some (.tup xs)/\H b=some (.tup ys)/\xs.length+ys.length<=sizeLine/\∀p H',Same H H'->H' p=some (.tup (xs++ys))->Q (.ref p) H'
section
variable{X:Cx}
theorem rS:OpR X (binaryOp .Add) qY:=by
 intro pins s σ H x y v u Q I rx ry h;obtain⟨a,b,xs,ys,rfl,rfl,ha,hb,hz,q⟩:=h;by_cases hx:xs=[]
 ·cases rx;cases ry;obtain⟨its,r1,p1,_⟩:=I.tuple (SqT.of (K:=X.K) ha);obtain⟨its2,r2,p2,_⟩:=I.tuple (SqT.of (K:=X.K) hb);obtain⟨⟨cls,dd,data,sl⟩,ho,hc,n,hd⟩:=id p1;obtain⟨⟨cls2,dd2,data2,sl2⟩,ho2,hc2,n2,hd2⟩:=id p2;simp only at hc hd hc2 hd2;subst hc hd hc2 hd2;have e:its=[]:=r1.nil_iff.mpr hx;subst e;refine PySem.concat_meets ⟨_,ho,rfl⟩ ⟨_,ho2,rfl⟩ noFill_tuple_add seq_tuple_add PySem.F.slot_tuple_add PySem.F.entry_tuple_add (PySem.F.args_tuple_add_2 _ _)
   (tuple_addW0 a b _ its2.toArray n n2 dd dd2 sl sl2 (by simp)) ⟨ho,ho2,⟨.ref b,H,I,rfl,q b H (Same.refl H) ?_⟩⟩
  rw[hx];exact hb
 ·exact rT pins s σ H _ _ v u Q I rx ry ⟨a,b,xs,ys,rfl,rfl,SqT.of ha,SqT.of hb,hx,hz,fun e=>q a H (Same.refl H) (by rw[e,ZA];exact ha),fun _ p hp=>q p _ (ah hp _) ae⟩
theorem bX:QOp X (binaryOp .Add) qY:=⟨rS⟩
theorem oC{n d:Nat}{h:Int}(h0:0<=h):HT.sIx n d (some h)=min h.toNat n:=by have e:=HT.sIx_nat n d h.toNat;rw[show((h.toNat:Nat):Int)=h by omega]at e;exact e
variable{K:PySem.W.Frag}(hK:X.K=K)
include hK
theorem vC:QIx X (mE K):=by subst hK;exact ax
omit hK
end
open PySem PySem.Spec PyProof.Rows PySem.W
section
variable{X:Cx}
theorem ci{st:Stmt}:QS X st (fun _ _ _=>False):=⟨fun _ _ _ _ _ _ h=>h.elim⟩
variable{o e d:Expr}{to te td:TE}{apos cpos:Pos}
theorem eG{prog:Program}{w:World}{A:Around}{E:Value->Shared->Prop}{s:Shared}{t sl:Addr}{items:Array Value}{vl vu:Value}{lo hi:Option Int}{Q:Value->Shared->Prop}(ht:IsTup s.heap t items)(hs:s.heap.IsSliceOf sl vl vu .none)(pl:IsPart vl lo)(pu:IsPart vu hi)(hw:HT.sIx items.size 0 lo=0/\HT.sIx items.size items.size hi=items.size)(h:Q (.ref t) s):wpAny (model prog w) A (getItem (.ref t) (.ref sl)) Q E s:=by
 obtain⟨os,hos,hcs,hds⟩:=id hs;have hTs:s.TypeIs (.ref sl) "slice":=⟨os,hos,hcs⟩
 unfold getItem
 try with_reducible refine wpAny_holding ?_
 first|refine zd (zi ?_)|skip
 refine zd (wpAny_sequenceKey ht.typeIs (by decide) ?_);refine zd (zY (name:=Str.ofString "__getitem__") ht.typeIs Zf
  (Zh Zf ht.typeIs entry_tuple_getitem ?_ (args_tuple_getitem _ _)))
 show wpAny _ _ (Builtin.Tuple.tupleItemsOf (.ref t) >>= _) _ _ s;refine zd (tupleItemsOf_ ht ?_);refine zd (wpAny_typeOf hTs ?_);rw[if_pos (by decide)];refine zd (HT.sliceApplied_gen hs pl pu ?_);show wpAny _ _ (if(((HT.sIx items.size 0 lo:Nat):Int)==0&&(1:Int)==1&&(HT.sIx items.size items.size hi-HT.sIx items.size 0 lo)==items.size)=true then _ else _) _ _ s;rw[if_pos (by rw[hw.1,hw.2];simp)];refine zd (m:=Builtin.Tuple.tupleIsExact _) ?_;unfold Builtin.Tuple.tupleIsExact;refine zd (wpAny_typeOf ht.typeIs (zi ?_));rw[if_pos (by decide)];exact zd (wpAny_rule (zi ⟨_,rfl,zi h⟩))
def wY:V->Option Int->Option Int->Hp->VK->Prop:=fun x lo hi H Q=>∃a xs,x=.ref a/\H a=some (.tup xs)/\∀p H',Same H H'->H' p=some (.tup (aQ xs lo hi))->Q (.ref p) H'
theorem bF:QSl X wY:=by
 refine⟨?_⟩;intro pins s σ H x v vl vu lo hi sl Q I rx hs pl pu h;obtain⟨a,xs,rfl,hx,q⟩:=h;by_cases hw:HT.sIx xs.length 0 lo=0/\HT.sIx xs.length xs.length hi=xs.length
 ·cases rx;obtain⟨its,r,ht,hz⟩:=I.tuple (SqT.of (K:=X.K) hx);have hlen:its.toArray.size=xs.length:=by rw[zp];exact r.length.symm
  refine⟨"tuple",_,Zf.lookup,ht.typeIs,eG ht hs pl pu (by rw[hlen];exact hw) ⟨.ref a,H,I,rfl,q a H (Same.refl H) ?_⟩⟩;unfold aQ;rw[hw.1,hw.2,List.drop_zero,Nat.sub_zero,List.take_length];exact hx
 ·exact ve pins s σ H _ v vl vu lo hi sl Q I rx hs pl pu ⟨a,xs,rfl,SqT.of hx,hw,fun p hp=>q p _ (ah hp _) ae⟩
end
section
variable{X:Cx}{pins:List (Addr×Obj)}{σ:St}{H:Hp}{s:Shared}{h':Heap}
theorem qc{P:Program}{w:World}{H:Hp}{h:Heap}{a:Addr}{o:HO}(x:ObjOk P w H h a o):∃ob,h.get? a=some ob:=by
 cases o with
 |lst xs =>obtain⟨_,_,_,_,e⟩:=x;exact⟨_,e⟩
 |tup xs =>obtain⟨_,_,_,ob,e,_⟩:=x;exact⟨ob,e⟩
 |dK kvs =>obtain⟨_,_,_,_,ob,_,_,e,_⟩:=x;exact⟨ob,e⟩
 |dT kvs =>obtain⟨_,_,_,_,ob,_,_,e,_⟩:=x;exact⟨ob,e⟩
 |set S n =>obtain⟨ob,_,_,_,e,_⟩:=x;exact⟨ob,e⟩
 |ins C dx fs =>obtain⟨_,_,_,e,_⟩:=x;exact⟨_,e⟩
 |own y=>exact x
 |xd fs =>obtain⟨_,⟨ob,_,_,e,_⟩,_⟩:=x;exact⟨ob,e⟩
 |rng lo hi =>obtain⟨_,_,_,e⟩:=x;exact⟨_,e⟩
 |frz ob u=>exact⟨ob,x.1⟩
 |tbl ps=>exact⟨_,x⟩
 |met f y=>exact⟨_,x⟩
 |ext φ=>exact x.2.1
theorem none_of(I:Inv X pins σ H s){a:Addr}(hg:s.heap.get? a=none):H a=none:=by
 cases q:H a with
 |none=>rfl
 |some u =>obtain⟨ob,e⟩:=qc (I.hok a u q);rw[hg]at e;cases e
theorem Inv.laidF{a:Addr}{o:HO}{t':Nat}(I:Inv X pins σ H s)(k:∀b u,b≠X.env.locals->s.heap.get? b=some u->h'.get? b=some u)(hn:∃m,s.heap.Ns X.env.locals m/\h'.Ns X.env.locals m)(hg:s.heap.get? a=none)(new:ObjOk X.prog X.w (upd H a o) h' a o):Inv X pins σ (upd H a o) { s with heap:=h',toks:=t' }:=by
 have fr:=none_of I hg;have ne:∀{b:Addr} {u:HO},H b=some u->b≠a:=fun{b u} e=>aq e fr;have lt:∀{b:Addr} {u:Obj},s.heap.get? b=some u->b≠a:=fun{b u} e z=>by rw[z,hg]at e;cases e
 have neL:∀{b:Addr} {u:HO},H b=some u->b≠X.env.locals:=fun{b u} e=>aq e I.free;refine I.step (g':=s.gens) (d':=s.drawn) (ch:=[]) (fun b hb=>by simp at hb) (fun b o hL _ _ e _=>k b o hL e) (fun b o hL _ _ e _=>⟨o.slots,k b o hL e⟩) (fun b o _ e n=>by rw[af (lt e)];exact n) (fun b o _ e=>?_)
  (fun b xs e=>by rw[af (ne e)];exact e) (fun b o u e=>by rw[af (ne e)];exact e) (fun b ps e=>⟨#[],by rw[af (ne e),e];simp⟩) (fun m' hm'=>?_) (fun b u e=>?_) I.bare
 ·by_cases hL:b=X.env.locals
  ·obtain⟨m,_,o',_,_,e',_⟩:=hn;exact⟨o',by rw[hL];exact e'⟩
  ·exact⟨o,k b o hL e⟩
 ·obtain⟨m,h1,h2⟩:=hn;rw[hm'.eq_nsMap,<-h1.eq_nsMap];exact h2
 ·by_cases hb:b=a
  ·subst hb;rw[ae]at e;cases e;exact new
  ·rw[af hb]at e;refine(I.hok b u e).stay (fun c v hc q=>k c v ?_ q) (fun c q=>by rw[af (ne q)];exact q) fun c ys q=>by rw[af (ne q)];exact q
   rcases hc with z|z
   ·rw[z];exact neL e
   ·exact neL z
end
theorem cF(ns:List Int):SeqAt.shaped (.tuple (ns.map .int))=true:=by
 unfold SeqAt.shaped;rw[zL];refine⟨?_,?_⟩
 ·simp only[PyData.canLay0];exact PyProof.Rows.canLayAll_ints ns
 ·refine decide_eq_true ?_;simp only[PyData.depth];rw[PyProof.Rows.depthAll_ints ns];decide
theorem fP:∀(ns ms:List Int),PyData.eqvAll (ns.map .int) (ms.map .int)=decide (ns=ms)
 | [],[]=>by simp[PyData.eqvAll]
 | [],_::_=>by simp[PyData.eqvAll]
 |_::_,[]=>by simp[PyData.eqvAll]
 |x::ns,y::ms=>by simp only[zn,PyData.eqvAll,PyData.eqv];rw[fP ns ms,Bool.eq_iff_iff];simp
theorem fW(ns ms:List Int):PyData.eqv (.tuple (ns.map .int)) (.tuple (ms.map .int))=decide (ns=ms):=by simp only[PyData.eqv];exact fP ns ms
theorem gJ{H:Hp}{a:Addr}{ns:List Int}(h:H a=some (.tup (ns.map V.int))):Dt H (.tuple (ns.map .int)) (.ref a):=by simp only[Dt];exact⟨a,_,rfl,Rd.of h,kU ns⟩
section
variable{X:Cx}
theorem tW(hu:X.A.units+64<cLine):QOp X (compareOp .Eq) (fun x y H Q=>∃(a b:Addr) (ns ms:List Int),x=.ref a/\y=.ref b/\H a=some (.tup (ns.map V.int))/\H b=some (.tup (ms.map V.int))/\Q (.bl (decide (ns=ms))) H):=by refine⟨?_⟩;intro pins s σ H x y v u Q I rx ry h;obtain⟨a,b,ns,ms,rfl,rfl,ha,hb,q⟩:=h;exact oh hu pins s σ H _ _ v u Q I rx ry ⟨_,_,gJ ha,gJ hb,cF ns,cF ms,by rw[fW];exact q⟩
theorem tZ(hu:X.A.units+64<cLine):QOp X (compareOp .NotEq) (fun x y H Q=>∃(a b:Addr) (ns ms:List Int),x=.ref a/\y=.ref b/\H a=some (.tup (ns.map V.int))/\H b=some (.tup (ms.map V.int))/\Q (.bl (!decide (ns=ms))) H):=by refine⟨?_⟩;intro pins s σ H x y v u Q I rx ry h;obtain⟨a,b,ns,ms,rfl,rfl,ha,hb,q⟩:=h;exact om hu pins s σ H _ _ v u Q I rx ry ⟨_,_,gJ ha,gJ hb,cF ns,cF ms,by rw[fW];exact q⟩
end
theorem gO{x:V}{A B:Prop}(h:x≠.non)(hA:A):if(!decide (x=.non))=true then A else B:=by rw[decide_eq_false h];exact cR hA
theorem vT{c A B:Prop}[Decidable c](h:c)(hA:A):if decide c=true then A else B:=by rw[decide_eq_true h];exact cR hA
theorem fX{c A B:Prop}[Decidable c](h1:c->A)(h2:¬c->B):if decide c=true then A else B:=by
 by_cases h:c
 ·exact vT h (h1 h)
 ·rw[decide_eq_false h];exact aO (h2 h)
open PySem PySem.Spec PyProof.Rows
structure CompOk1(X:Cx)(scope:Scope)(cx:Str)(cap:List Nat)(capN:List Str):Prop where
 kind:scope.kind=.function
 names:∀x∈scope.names,x.2=.local->scope.names.lookup x.1=some .local
 onecell:∀y∈scope.names,y.2=.cell->y.1=cx
 own:scope.names.lookup cx=some .cell
 cf:∀(n:Nat) (acc:List (Str×Addr)),cellsFrom n scope.names acc=(cx,n)::acc
 pc:∀h:Heap,pushCells h scope.names=h.push { cls:=.type "cell",data:=.cell none }
 frees:(scope.names.all fun y=>!(y.2==NameKind.free) ||(X.env.kindOf y.1==some .cell ||X.env.kindOf y.1==some .free))=true
 cap:CapOk X scope cap capN
open PySem PySem.Spec PyProof.Rows PySem.W
def mK(h:Heap)(e:Addr)(dc:Option Addr):Prop:=∃o,h.get? e=some o/\o.dict=dc
open PySem PySem.Spec PyProof.Rows PySem.W
section
variable{X:Cx}
theorem mP:QCall X (.builtin "len") (fun xs H Q=>∃x:Str,xs=[.str x]/\x.length<=1000/\Q (.int (x.length:Int)) H):=by refine⟨?_⟩;intro pins s σ H xs us Q I r h;obtain⟨x,rfl,hz,q⟩:=h;obtain⟨u,rfl,rx⟩:=fJ r;obtain⟨t,rfl⟩:=rx;exact PyProof.Rows.len_str (by omega) ⟨.int x.length,H,I.tok _,⟨_,rfl⟩,q⟩
end
theorem jP{v:V}{A B:Prop}(hA:A):if decide (v=v)=true then A else B:=by rw[decide_eq_true rfl];exact cR hA
theorem dr{v u:V}{A B:Prop}(h:v≠u)(hB:B):if decide (v=u)=true then A else B:=by rw[decide_eq_false h];exact aO hB
theorem pG:bootBuiltins "str" = some (.type "str"):=by decide +kernel
inductive TV where
 |flat (v:V)
 |tup (xs:List V)
def jw:V->Value->Bool
 |.non,.none=>true
 |.bl b,.bool c=>b==c
 |.int i,.int j _=>i==j
 |.str x,.str y _=>x==y
 |_,_=>false
theorem iW:∀{v:V} {u:Value},jw v u=true->RelV v u:=by
 intro v u h;unfold jw at h;split at h
 ·exact rfl
 ·obtain rfl:=ZK.mp h;exact rfl
 ·obtain rfl:=ZK.mp h;exact⟨_,rfl⟩
 ·obtain rfl:=ZK.mp h;exact⟨_,rfl⟩
 ·cases h
def kF:List V->List Value->Bool
 | [],[]=>true
 |v::vs,u::us=>jw v u&&kF vs us
 |_,_=>false
theorem fT:∀{vs:List V} {us:List Value},kF vs us=true->Vals vs us
 | [],[],_=>.nil
 |_::_,_::_,h=>by have h:=(zL _ _).mp h;exact .cons (iW h.1) (fT h.2)
 | [],_::_,h=>nomatch h
 |_::_,[],h=>nomatch h
def hW(K:PySem.W.Frag):TV->Value->Bool
 |.flat v,u=>jw v u
 | .tup xs,.ref a=>(match K.lookup a with
  |some o=>o.cls == .type "tuple"&&(match o.data with|.seq its _=>decide (its.size<=1000)&&kF xs its.toList|_=>false)
  | none=>false)
 |_,_=>false
def sV(K:PySem.W.Frag):TV->Value->Prop
 |.flat v,u=>RelV v u
 |.tup xs,u=>∃a,u=.ref a/\∀H,SqT K H a xs
theorem wC{K:PySem.W.Frag}(d:TV)(u:Value)(h:hW K d u=true):sV K d u:=by
 unfold hW at h;split at h
 ·exact iW h
 ·rename_i xs a;split at h
  ·rename_i o ho;obtain⟨e1,e2⟩:=(zL _ _).mp h;split at e2
   ·rename_i its n hd;obtain⟨e3,e4⟩:=(zL _ _).mp e2;exact⟨a,rfl,fun H=>.inr ⟨o,its,n,ho,ZK.mp e1,hd,bZ (of_decide_eq_true e3),fT e4⟩⟩
   ·cases e2
  ·cases h
 ·cases h
structure Tab(K:PySem.W.Frag)(a:Addr)(D:List (Str×TV)):Prop where
 look:KTD.tabLook (hW K) (fun b=>K.lookup b) a D=true
theorem Tab.at{K:PySem.W.Frag}{a:Addr}{D:List (Str×TV)}(T:Tab K a D){h:Heap}(X:K.In h):KTD.TabOf (sV K) h a D:=KTD.tab_of_look wC (fun b o e=>X b o e) T.look
section
variable{prog:Program}{w:World}{A:Around}{E:Value->Shared->Prop}{s:Shared}{d:Addr}{o:Obj}{es:Array DictEntry}{ep:Nat}{x:Str}{tx:Tok}
theorem sL{Q:Option Value->Shared->Prop}(ho:s.heap.get? d=some o)(hd:o.data=.dict es ep)(hall:(es.all fun e=>isExactStrKey e.key)=true)(h:Q ((es.toList.find? fun e=>e.key.isStr x).map (·.val)) { s with toks:=s.toks+1 }) :
  wpAny (model prog w) A (dictGet d (.str x tx)) Q E s:=by
 unfold dictGet;(try with_reducible (refine wpAny_holding ?_))
 refine zd (wpAny_pyHash_str (zd (KTD.kt_dictFind_strs (s:={ s with toks:=s.toks+1 }) ho hd hall ?_)));have hq:Q (findBy (fun y v=>v.isStr y) es x) { s with toks:=s.toks+1 }:=by
  have hf:findBy (fun y v=>v.isStr y) es x=(es.toList.find? fun e=>e.key.isStr x).map (·.val):=by obtain⟨l⟩:=es;simp[findBy]
  rw[hf];exact h
 rw[findBy_of_findIdx?]at hq;cases hi:es.findIdx? fun e=>e.key.isStr x<;>rw[hi]at hq
 ·exact zi hq
 ·exact zd (wpAny_dictEntries (s:={ s with toks:=s.toks+1 }) ho hd (zi hq))
theorem qG{Q:Value->Shared->Prop}{v:Value}(ex:o.ExactDict)(ho:s.heap.get? d=some o)(hd:o.data=.dict es ep)(hall:(es.all fun e=>isExactStrKey e.key)=true)(hv:(es.toList.find? fun e=>e.key.isStr x).map (·.val)=some v)(h:Q v { s with toks:=s.toks+1 }):wpAny (model prog w) A (getItem (.ref d) (.str x tx)) Q E s:=by
 have T:s.TypeIs (.ref d) "dict":=⟨o,ho,ex.1⟩
 unfold getItem;(try with_reducible (refine wpAny_holding ?_))
 refine zd (wpAny_sequenceKey T (by decide) (zd (zY (name:=Str.ofString "__getitem__") T slot_dict_getitem (Zh slot_dict_getitem T entry_dict_getitem ?_ (args_dict_getitem _ _)))));show wpAny _ _ (dictGet d (.str x tx) >>= _) _ _ _;refine zd (sL ho hd hall ?_);rw[hv];exact zi ⟨v,rfl,zi h⟩
end
section
variable{X:Cx}
def uU(K:PySem.W.Frag):R2:=fun x y H Q=>∃a k D d,x=.ref a/\y=.str k/\Tab K a D/\KTD.datumAt k D=some d/\(match d with|.flat v=>Q v H|.tup xs=>∀t,(∀H',SqT K H' t xs)->Q (.ref t) H)
theorem wG:QIx X (uU X.K):=by
 refine⟨?_⟩;intro value slice pins s σ H x y v u Q I rx ry h hs;obtain⟨a,k,D,d,rfl,rfl,T,hk,q⟩:=h;obtain⟨t,rfl⟩:=ry;cases rx;obtain⟨sy,o,es,ep,ho,ex,hd,hr⟩:=T.at I.kIn;obtain⟨v,hv,ok⟩:=hr.find_some hk;have fin:EP X pins σ Q v { s with toks:=s.toks+1 }:=by
  cases d with
  |flat z=>exact⟨z,H,I.tok _,ok,q⟩
  |tup xs =>obtain⟨t,rfl,e⟩:=ok;exact⟨.ref t,H,I.tok _,rfl,q t e⟩
 exact subscriptTail_builtinR (x:=v) (⟨o,ho,ex.1⟩:s.TypeIs (.ref a) "dict") slot_dict_getitem.lookup (qG (Q:=fun r s'=>r=v/\EP X pins σ Q r s') ex ho hd (by obtain⟨l⟩:=es;simpa using hr.exact) hv ⟨rfl,fin⟩) hs
theorem wX{x:Str}{a:Addr}{pos:Pos}(hm:X.mg x=some (.ref a))(hg:Gl X x:=by rfl)(hd:(x==("__debug__":Str))=false:=by decide):QE X (.Name x pos) (tC (.ref a)):=⟨lr hg hm rfl hd⟩
end
open PySem PySem.Spec PyProof.Rows PySem.W
def CXr(P:Program)(w:World):CXT:=fun outer H s E e s' =>
 ∃(ea t:Addr) (C:Value) (vs:List Value) (B:Heap) (H':Hp) (dc:Option Addr),e=.ref ea/\s'.os=s.os/\AllBare s'.gens/\Un (frs outer) [] H H' s.heap s'.heap/\HOk P w H' s'.heap /\
  Heap.FlyingW B outer ea C (.ref t) s'.heap/\s'.heap.TupAt t vs/\B.get? t=none/\(∀b o,b∉frs outer->((∃u,H' b=some u)\/∃o0,s.heap.get? b=some o0)->s'.heap.get? b=some o->B.get? b=some o)/\mK s'.heap ea dc/\E C dc H'
structure ExCls(K:PySem.W.Frag)(C:Addr):Prop where
 cls:∀h,K.In h->∃nm q N bs bm hdct sn sub ab col dd k0 k1 k2 k3 k5 mN,h.get? C=some (excClassObj nm q C N bs bm hdct sn sub ab col dd k0 k1 k2 k3 k5 "ValueError.__new__")/\h.Ns N mN/\mN "__init__" = none/\bm.contains (.type "BaseException")=true /\
  OwnTail h [.type "ValueError",.type "Exception",.type "BaseException",.type "object"] bm
open PySem PySem.Spec PyProof.Rows PySem.W
structure FnX(P:Program)(w:World)(K:PySem.W.Frag)(mg:Str->Option Value)(base:Heap)(k:Nat)(x:Str)(ps:List Str)(sp:Sp):Prop where
 ex:∃f fd,FnOk P w K mg base (CXr P w) k f fd ps sp/\mg x=some (.ref f)/\PySem.W.keepIn K (.ref f)=true/\Binds K fd ps []
def XP(X:Cx)(pins:List (Addr×Obj))(σ:St)(E:XK)(e:Value)(s':Shared):Prop:=∃s0 H0,Inv X pins σ H0 s0/\CXr X.prog X.w X.stack H0 s0 E e s'
abbrev TX:=St->Hp->VK->XK->Prop
structure QX(X:Cx)(e:Expr)(t:TX):Prop where
 h:∀(pins:List (Addr×Obj)) (s:Shared) (σ:St) (H:Hp) (Q:VK) (E:XK),Inv X pins σ H s->t σ H Q E->wpAny (model X.prog X.w) X.A (eval e X.env) (EP X pins σ Q) (XP X pins σ E) s
abbrev TSX:=Ends->St->Hp->XK->Prop
structure QSX(X:Cx)(st:Stmt)(t:TSX):Prop where
 h:∀(pins:List (Addr×Obj)) (s:Shared) (σ:St) (H:Hp) (D:Ends) (E:XK),Inv X pins σ H s->t D σ H E->wpAny (model X.prog X.w) X.A (exec st X.env) (SP X pins D) (XP X pins σ E) s
structure Fl(X:Cx)(H0 H':Hp)(s0 s':Shared)(B:Heap):Prop where
 os:s'.os=s0.os
 bare:AllBare s'.gens
 un:Un (frs X.stack) [] H0 H' s0.heap s'.heap
 hok:HOk X.prog X.w H' s'.heap
 kb:∀b o,b∉frs X.stack->((∃u,H' b=some u)\/∃o0,s0.heap.get? b=some o0)->s'.heap.get? b=some o->B.get? b=some o
structure ExC(K:PySem.W.Frag)(C:Addr)(bm:List Value):Prop where
 cls:∀h,K.In h->∃nm q N bs hdct sn sub ab col dd k0 k1 k2 k3 k5 ni,h.get? C=some (excClassObj nm q C N bs bm hdct sn sub ab col dd k0 k1 k2 k3 k5 ni)
 exc:bm.contains (.type "BaseException")=true
abbrev TH:=Ends->St->Value->Option Addr->Hp->Prop
structure QH(X:Cx)(hs:List ExceptHandler)(th:TH):Prop where
 h:∀(pins:List (Addr×Obj)) (s0:Shared) (H0:Hp) (σ:St) (D:Ends) (ea t:Addr) (C:Value) (B:Heap) (H':Hp) (dc:Option Addr) (s':Shared),Inv X pins σ H0 s0->Fl X H0 H' s0 s' B->Heap.FlyingW B X.stack ea C (.ref t) s'.heap->mK s'.heap ea dc->th D σ C dc H' ->
  wpAny (model X.prog X.w) X.A (handleBy (.ref ea) X.env hs) (SP X pins D) X.xe s'
open PySem PySem.Spec PyProof.Rows PySem.W
abbrev VE:List Value:=[.type "ValueError",.type "Exception",.type "BaseException",.type "object"]
structure ExcAt(K:PySem.W.Frag)(C:Addr)(bm:List Value):Prop where
 isIn:excIn K C VE "ValueError.__new__" = true
 mro:∃c d cd sl,K.lookup C=some ⟨c,d,.cls cd,sl⟩/\cd.mro=Value.ref C::bm
 exc:bm.contains (.type "BaseException")=true
structure ExK(K:PySem.W.Frag)(c:Addr):Prop where
 hc:(clsIn K c).isSome=true
 hga:findIn K (.ref c) "__getattribute__" = some (some (.builtin "BaseException.__getattribute__"))
 hgh:findIn K (.ref c) "__getattr__" = some none
 ha:findIn K (.ref c) "__class__" = some (some (.builtin "object.__class__"))
 hb:mroIn K c (.type "BaseException")=some true
 hm:mroIn K c (.type "object")=some true
open PySem PySem.Spec PyProof.Rows PySem.W
section
variable{X:Cx}{K:PySem.W.Frag}
def qZ(K:PySem.W.Frag):V->List V->Hp->VK->Prop:=fun x xs H Q=>∃(sep:Str) (p:Addr) (ys:List Str),x=.str sep/\xs=[.ref p]/\SqL K H p (ys.map V.str)/\(ys.map (·.length)).sum+ys.length*sep.length<=16777216/\Q (.str (Txt.join sep ys)) H
theorem lK:∀{ys:List Str} {us:List Value},Vals (ys.map V.str) us->StrsAre us ys
 | [],_,h=>by cases h;exact .nil
 |y::ys,_,h=>by
  cases h with
  |cons r1 r2 =>obtain⟨t,rfl⟩:=r1;exact .cons _ _ (lK r2)
theorem rO:MtR X "str.join" (qZ X.K):=by intro pins s σ H x xs v us Q I rx r h;obtain⟨sep,p,ys,rfl,rfl,hl,hz,q⟩:=h;obtain⟨t,rfl⟩:=rx;obtain⟨u,rfl,ru⟩:=fJ r;cases ru;obtain⟨its,rv,pl,_⟩:=I.list hl;exact join_list pl.isList (by simpa using lK rv) hz fun t' k=>⟨.str _,H,I.tok _,⟨_,rfl⟩,q⟩
theorem uQ{o e:Expr}{to te:TE}{apos cpos:Pos}(ho:QE X o to)(he:QE X e te)(hs:aM e=true:=by rfl)(hbase:attributeBase o "join" X.env (eval o X.env)=eval o X.env:=by rfl)(hline:(apos.endLine==cpos.line)=true:=by rfl) :
  QE X (.Call (.Attribute o "join" apos) [e] [] cpos) (tBM X.K "str" (qZ X.K) to (hV te fb)):=by
 have h1:=aW (es:=[]) (env:=X.env) hs;have h2:starEach ([]:List Expr) X.env=[]:=rfl;refine⟨qV PySem.F.plainAttrs_str PySem.F.slot_str_join PySem.F.type_str_join rO ho.h (lq he.h ke (hs:=h1)) (hbase:=hbase) (hfew:=?_) (hline:=hline) (hs:=h1) (hplain:=by rw[h2];rfl)⟩;rw[h1,h2];rfl
theorem wF:QIx X uT:=⟨tG⟩
theorem eO:QOp X (binaryOp .Add) (fun x y H Q=>∃i j,x=.str i/\y=.str j/\i.length+j.length<=sizeLine/\Q (.str (i++j)) H):=⟨mx⟩
end
theorem kY{K:PySem.W.Frag}{a b:Addr}{xs ys:List V}{i j:Nat}{tb:TS}{D:Ends}{σ:St}{H:Hp}(Pv:Nat->St->Hp->Prop)(h0:Pv 0 σ H)(ha:∀i σ H,i<=xs.length->Pv i σ H->SqT K H a xs)(hb:∀i σ H,i<=xs.length->Pv i σ H->SqT K H b ys)(hl:xs.length=ys.length)(hs:∀k x y σ H,xs[k]?=some x->ys[k]?=some y->Pv k σ H->∀T,H T=none->tb { D with nx:=Pv (k+1),ct:=Pv (k+1),bk:=D.nx } ((σ.set i (some x)).set j (some y)) (upd H T (.tup [x,y])))(hd:∀σ H,Pv xs.length σ H->D.nx σ H) :
  ∃W:Nat->Nat->St->Hp->Prop,(∃m,W 0 m σ H)/\∀k m σ H,W k m σ H ->
   ((Itz K a b xs ys).stop k H/\D.nx σ H)\/((Itz K a b xs ys).go k H/\∃N:St->Hp->Prop,(∀σ' H',N σ' H'->∃m',m'<m/\W (k+1) m' σ' H')/\∀x H',(Itz K a b xs ys).yld k H x H'->jK K 2 (db (bM i) (db (bM j) jJ)) x σ H' fun σ2 H2=>tb { D with nx:=N,ct:=N,bk:=D.nx } σ2 H2):=by
 refine⟨fun k m σ H=>m=xs.length-k/\k<=xs.length/\Pv k σ H,⟨xs.length,by simp,zR _,h0⟩,?_⟩;rintro k m σ H ⟨rfl,hk,pv⟩;by_cases hlt:k<xs.length
 ·refine .inr ⟨⟨hlt,ha k σ H hk pv,hb k σ H hk pv⟩,Pv (k+1),fun σ' H' z=>⟨xs.length-(k+1),by omega,rfl,hlt,z⟩,fun x H' y=>?_⟩;obtain⟨T,p,q,hT,hx,hy,rfl,rfl⟩:=y;exact⟨T,[p,q],rfl,SqT.of ae,rfl,p,[q],rfl,q,[],rfl,rfl,hs k p q σ H hx hy pv T hT⟩
 ·have e:k=xs.length:=by omega
  subst e;exact .inl ⟨⟨rfl,ha _ σ H hk pv,hb _ σ H hk pv⟩,hd σ H pv⟩
open PySem PySem.Spec PyProof.Rows PySem.W
def aw(z:Str)(lo hi:Option Int):Str:=if(Builtin.Str.strSliceIndices lo hi 1 z.length).length=z.length then z else⟨((Builtin.Str.strSliceIndices lo hi 1 z.length).filterMap (z.cps[·]?)).toArray⟩
theorem pJ(z:Str)(lo hi:Option Int):(aw z lo hi).length<=z.length:=by
 unfold aw;split
 ·exact zh _
 ·show(List.filterMap _ _).toArray.size<=_;rw[zp];exact zS (List.length_filterMap_le _ _) (indices_len_le _ _ _)
section
variable{X:Cx}{K:PySem.W.Frag}
theorem gQ:QSl X (fun x lo hi H Q=>∃z:Str,x=.str z/\z.length<=1000/\Q (.str (aw z lo hi)) H):=by
 refine⟨?_⟩;intro pins s σ H x v vl vu lo hi sl Q I rx hs pl pu h;obtain⟨z,rfl,hz,q⟩:=h;obtain⟨t,rfl⟩:=rx;have pt:∀{v:Value} {o:Option Int},IsPart v o->∃p:Option (Int×Tok),v=partValue p/\p.map (·.1)=o:=fun{v o} p=>by
  cases p with
  |none=>exact⟨none,rfl,rfl⟩
  |int i t=>exact⟨some (i,t),rfl,rfl⟩
 obtain⟨l,rfl,hl⟩:=pt pl;obtain⟨u,rfl,hu⟩:=pt pu;have e:slicePicked z l u none=Builtin.Str.strSliceIndices lo hi 1 z.length:=by unfold slicePicked;rw[hl,hu];rfl
 refine⟨"str",_,F.slot_str_getitem.lookup,typeIs_str _ _ _,wpAny_getItem_str_slice (l:=l) (u:=u) (st:=none) hs rfl ?_⟩;have hy:=pJ z lo hi;unfold sliceMade;unfold aw at q hy;rw[e];split
 ·rename_i hc;have hc':(Builtin.Str.strSliceIndices lo hi 1 z.length).length=z.length:=by simpa using hc
  rw[if_pos hc']at q;exact⟨.str z,H,I,⟨_,rfl⟩,q⟩
 ·rename_i hc;have hc':¬(Builtin.Str.strSliceIndices lo hi 1 z.length).length=z.length:=by simpa using hc
  rw[if_neg hc']at q hy;exact⟨bZ (zS hy hz),.str _,H,I.tok _,⟨_,rfl⟩,q⟩
end
open PySem PySem.Spec PyProof.Rows PySem.W
open PySem PySem.Spec PyProof.Rows PySem.W
def POk(n:Nat)(p:Array Nat):Prop:=p.Perm (List.range n).toArray
theorem POk.lt{n:Nat}{p:Array Nat}(h:POk n p)(hn:0<n)(k:Nat):p.getD k 0<n:=by
 rw[Ze];cases e:p[k]? with
 |none=>exact hn
 |some x =>have hm:x∈p:=Array.mem_of_getElem? e;have:=(h.mem_iff).mp hm;simpa using this
theorem POk.rev{n:Nat}{p:Array Nat}(h:POk n p)(i j:Nat):POk n (kas_rev p i j):=(mirror_perm p i j _).trans h
theorem POk.bub{n:Nat}{p:Array Nat}(h:POk n p)(i j:Nat):POk n (bubble p i j):=(bubble_perm p i j).trans h
section
variable{X:Cx}
theorem vX{K:PySem.W.Frag}(hK:X.K=K):QOp X (compareOp .In) (rIn K false):=by subst hK;exact⟨oj⟩
end
open PySem PySem.Spec PyProof.Rows PySem.W
def KW{α:Type}(lt:Nat->Nat->Bool)(Q:α->Prop):KasT α->Prop
 |.ret a=>Q a
 |.ask i j k=>KW lt Q (k (lt i j))
theorem KW.bind{α β:Type}{lt:Nat->Nat->Bool}{Q:β->Prop}{f:α->KasT β}:∀{t:KasT α},KW lt (fun a=>KW lt Q (f a)) t->KW lt Q (t.bind f)
 |.ret _,h=>h
 |.ask i j k,h=>KW.bind (t:=k (lt i j)) h
theorem KW.mono{α:Type}{lt:Nat->Nat->Bool}{Q R:α->Prop}(k:∀a,Q a->R a):∀{t:KasT α},KW lt Q t->KW lt R t
 |.ret _,h=>k _ h
 |.ask i j c,h=>KW.mono k (t:=c (lt i j)) h
structure LtOk(lt:Nat->Nat->Bool):Prop where
 as:∀{a b},lt a b=true->lt b a=false
 tr:∀{a b c},lt b a=false->lt c b=false->lt c a=false
def gA(p:Array Nat)(k:Nat):Nat:=p.getD k 0
def Lx(lt:Nat->Nat->Bool)(a b:Nat):Prop:=lt b a=false/\(lt a b=true\/a<b)
section
variable{lt:Nat->Nat->Bool}(O:LtOk lt)
include O
theorem LtOk.lt_le{a b c:Nat}(h:lt a b=true)(h2:lt c b=false):lt a c=true:=by
 cases e:lt a c with
 |true=>rfl
 |false=>rw[O.tr h2 e]at h;cases h
theorem LtOk.le_lt{a b c:Nat}(h:lt b a=false)(h2:lt b c=true):lt a c=true:=by
 cases e:lt a c with
 |true=>rfl
 |false=>rw[O.tr e h]at h2;cases h2
theorem Lx.trans{a b c:Nat}(h:Lx lt a b)(k:Lx lt b c):Lx lt a c:=by
 refine⟨O.tr h.1 k.1,?_⟩;rcases h.2 with x|x
 ·exact .inl (O.lt_le x k.1)
 ·rcases k.2 with y|y
  ·exact .inl (O.le_lt h.1 y)
  ·exact .inr (Nat.lt_trans x y)
theorem Lx.of_lt{a b:Nat}(h:lt a b=true):Lx lt a b:=⟨O.as h,.inl h⟩
end
structure Fx(N:Nat)(p:Array Nat)(m:Nat):Prop where
 sz:p.size=N
 hi:∀k,m<=k->k<N->gA p k=k
 lo:∀i,i<m->gA p i<m
def LS(lt:Nat->Nat->Bool)(p:Array Nat)(m:Nat):Prop:=∀i j,i<j->j<m->Lx lt (gA p i) (gA p j)
def AS(lt:Nat->Nat->Bool)(p:Array Nat)(m:Nat):Prop:=∀i j,i<j->j<m->Lx lt (gA p j) (gA p i)
theorem Fx.succ{N:Nat}{p:Array Nat}{m:Nat}(h:Fx N p m)(hm:m<N):Fx N p (m+1):=⟨h.sz,fun k h1 h2=>h.hi k (by omega) h2,fun i hi=>by
 rcases Zo i m with h1|h1
 ·have:=h.lo i h1;omega
 ·have e:i=m:=by omega
  subst e;rw[h.hi i (zh _) hm];omega⟩
theorem bE{p:Array Nat}{i j k:Nat}(hj:j<=p.size):gA (kas_rev p i j) k=if i<=k/\k<j then gA p (i+j-1-k)else gA p k:=by
 unfold gA kas_rev;rw[Ze,getElem?_mirror_all hj];split
 ·rw[Ze]
 ·rw[Ze]
theorem dS(p:Array Nat)(k:Nat):gA p k=(p[k]?).getD 0:=by unfold gA;rw[Ze]
theorem tu{p:Array Nat}{k d i:Nat}(hk:k<p.size)(hd:d<=k):gA (bubble p k d) i=if i=k-d then gA p k else if k-d<i/\i<=k then gA p (i-1)else gA p i:=by
 rw[dS,getElem?_bubble hk d hd];split
 ·rw[dS]
 ·split
  ·rw[dS]
  ·rw[dS]
theorem Fx.rev{N:Nat}{p:Array Nat}{m i j:Nat}(h:Fx N p m)(hj:j<=m)(hm:m<=N):Fx N (kas_rev p i j) m:=by
 have hs:j<=p.size:=by rw[h.sz];omega
 refine⟨by rw[kas_rev_size];exact h.sz,fun k h1 h2=>?_,fun k hk=>?_⟩
 ·rw[bE hs,if_neg (by omega)];exact h.hi k h1 h2
 ·rw[bE hs];split
  ·exact h.lo _ (by omega)
  ·exact h.lo _ hk
section
variable{lt:Nat->Nat->Bool}(O:LtOk lt){N:Nat}
include O
theorem LS.step{p:Array Nat}{n:Nat}(h:LS lt p n)(hx:Lx lt (gA p (n-1)) (gA p n))(h1:1<=n):LS lt p (n+1):=fun i j hij hj=>by
 rcases Zo j n with h2|h2
 ·exact h i j hij h2
 ·have e:j=n:=by omega
  subst e;rcases Zo i (j-1)with h3|h3
  ·exact(h i (j-1) h3 (by omega)).trans O hx
  ·have e:i=j-1:=by omega
   subst e;exact hx
theorem jR{p:Array Nat}:∀(f n:Nat),1<=n->n+f<=N->Fx N p n->LS lt p n->KW lt (fun m=>n<=m/\m<=n+f/\Fx N p m/\LS lt p m/\(m<n+f->lt (gA p m) (gA p (m-1))=true)) (kas_asc p f n)
 |0,n,_,_,hf,hs=>⟨zh _,zh _,hf,hs,fun h=>absurd h (by omega)⟩
 |f+1,n,h1,hN,hf,hs=>by
  show KW lt _ (if lt (gA p n) (gA p (n-1))=true then .ret n else kas_asc p f (n+1));by_cases c:lt (gA p n) (gA p (n-1))=true
  ·rw[if_pos c];exact⟨zh _,by omega,hf,hs,fun _=>c⟩
  ·rw[if_neg c];have c':=ZQ.mpr c;have hx:Lx lt (gA p (n-1)) (gA p n):=⟨c',.inr (by rw[hf.hi n (zh _) (by omega)];exact hf.lo _ (by omega))⟩
   refine KW.mono (fun m hm=>?_) (jR f (n+1) (by omega) (by omega) (hf.succ (by omega)) (hs.step O hx h1));exact⟨by omega,by omega,hm.2.2.1,hm.2.2.2.1,fun z=>hm.2.2.2.2 (by omega)⟩
theorem AS.rev{p:Array Nat}{n:Nat}(h:AS lt p n)(hn:n<=p.size):LS lt (kas_rev p 0 n) n:=fun i j hij hj=>by rw[bE hn,bE hn,if_pos (by omega),if_pos (by omega)];exact h _ _ (by omega) (by omega)
theorem lg{p:Array Nat}{n:Nat}(h1:1<=n)(hN:n<=N)(hf:Fx N p n)(ha:AS lt p n):KW lt (fun r=>r.1<=N/\1<=r.1/\Fx N r.2 r.1/\LS lt r.2 r.1) (kas_tail3 n N p):=by refine KW.bind (KW.mono (fun m hm=>?_) (jR O (N:=N) (N-n) n h1 (by omega) (hf.rev (zh _) hN) (ha.rev O (by rw[hf.sz];exact hN))));exact⟨by omega,by omega,hm.2.2.1,hm.2.2.2.1⟩
structure Dn(lt:Nat->Nat->Bool)(p:Array Nat)(n q:Nat):Prop where
 hq:q+1<=n
 up:∀i j,i<j->j<n-(q+1)->Lx lt (gA p j) (gA p i)
 cr:∀i j,i<n-(q+1)->n-(q+1)<=j->j<n->lt (gA p j) (gA p i)=true
 eq:∀i j,n-(q+1)<=i->i<j->j<n->lt (gA p i) (gA p j)=false/\lt (gA p j) (gA p i)=false/\gA p i<gA p j
theorem Dn.rev{p:Array Nat}{n q:Nat}(h:Dn lt p n q)(hn:n<=p.size):AS lt (kas_rev p (n-(q+1)) n) n:=fun i j hij hj=>by
 have hq:=h.hq;rw[bE hn,bE hn];by_cases c1:n-(q+1)<=i
 ·rw[if_pos (by omega),if_pos (by omega)];obtain⟨e1,e2,e3⟩:=h.eq (n-(q+1)+n-1-j) (n-(q+1)+n-1-i) (by omega) (by omega) (by omega);exact⟨e2,.inr e3⟩
 ·rw[if_neg (show¬(n-(q+1)<=i/\i<n) by omega)];by_cases c2:n-(q+1)<=j
  ·rw[if_pos (by omega)];exact Lx.of_lt O (h.cr _ _ (by omega) (by omega) (by omega))
  ·rw[if_neg (by omega)];exact h.up _ _ hij (by omega)
theorem Dn.zero{p:Array Nat}{n:Nat}(h:Dn lt p n 0):AS lt p n:=fun i j hij hj=>by
 rcases Zo j (n-1)with c|c
 ·exact h.up i j hij c
 ·exact Lx.of_lt O (h.cr i j (by omega) (by omega) hj)
theorem Dn.start{p:Array Nat}{n:Nat}(h:AS lt p n)(h1:1<=n)(hl:lt (gA p n) (gA p (n-1))=true):Dn lt p (n+1) 0:=by
 refine⟨by omega,fun i j hij hj=>h i j hij (by omega),fun i j hi h2 h3=>?_,fun i j h2 h3 h4=>absurd h3 (by omega)⟩;have e:j=n:=by omega
 subst e;rcases Zo i (j-1)with h3|h3
 ·exact O.lt_le hl (h i (j-1) h3 (by omega)).1
 ·have e:i=j-1:=by omega
  subst e;exact hl
theorem fA:∀(f:Nat) {p:Array Nat} {n q:Nat},n+f<=N->Fx N p n->Dn lt p n q->KW lt (fun r=>n<=r.2.1/\r.2.1<=n+f/\Fx N r.1 r.2.1/\Dn lt r.1 r.2.1 r.2.2) (kas_desc f p n q)
 |0,_,n,_,_,hf,hd=>⟨zh _,zh _,hf,hd⟩
 |f+1,p,n,q,hN,hf,hd=>by
  have hs:n<=p.size:=by rw[hf.sz];omega
  have hq:=hd.hq;show KW lt _ (if lt (gA p n) (gA p (n-1))=true then(if q>0 then kas_desc f (kas_rev p (n-(q+1)) n) (n+1) 0 else kas_desc f p (n+1) 0)else KasT.ask (gA p (n-1)) (gA p n) fun d=>if d=true then .ret (p,n,q)else kas_desc f p (n+1) (q+1));by_cases c:lt (gA p n) (gA p (n-1))=true
  ·rw[if_pos c];have wk:∀{r:Array Nat×Nat×Nat},(n+1<=r.2.1/\r.2.1<=n+1+f/\Fx N r.1 r.2.1/\Dn lt r.1 r.2.1 r.2.2)->n<=r.2.1/\r.2.1<=n+(f+1)/\Fx N r.1 r.2.1/\Dn lt r.1 r.2.1 r.2.2:=fun h=>⟨by omega,by omega,h.2.2.1,h.2.2.2⟩
   by_cases cq:q>0
   ·rw[if_pos cq];have fr:=hf.rev (i:=n-(q+1)) (zh n) (by omega);have e1:gA (kas_rev p (n-(q+1)) n) n=gA p n:=by rw[bE hs,if_neg (by omega)]
    have e2:gA (kas_rev p (n-(q+1)) n) (n-1)=gA p (n-(q+1)):=by rw[bE hs,if_pos (by omega)];congr 1;omega
    have l2:lt (gA p n) (gA p (n-(q+1)))=true:=O.lt_le c (hd.eq (n-(q+1)) (n-1) (zh _) (by omega) (by omega)).1;refine KW.mono (fun r h=>wk h) (fA f (by omega) (fr.succ (by omega)) (Dn.start O (hd.rev O hs) (by omega) (by rw[e1,e2];exact l2)))
   ·rw[if_neg cq];have e:q=0:=by omega
    subst e;exact KW.mono (fun r h=>wk h) (fA f (by omega) (hf.succ (by omega)) (Dn.start O (hd.zero O) (by omega) c))
  ·rw[if_neg c];have c':=ZQ.mpr c;show KW lt _ (if lt (gA p (n-1)) (gA p n)=true then _ else _);by_cases d:lt (gA p (n-1)) (gA p n)=true
   ·rw[if_pos d];exact⟨zh _,Nat.le_add_right _ _,hf,hd⟩
   ·rw[if_neg d];have d':=ZQ.mpr d;have gn:gA p n=n:=hf.hi n (zh _) (by omega);have same:∀i,n-(q+1)<=i->i<n->lt (gA p i) (gA p n)=false/\lt (gA p n) (gA p i)=false:=fun i h1 h2=>by
     rcases Zo i (n-1)with h3|h3
     ·obtain⟨a1,a2,_⟩:=hd.eq i (n-1) h1 h3 (by omega);exact⟨O.tr d' a1,O.tr a2 c'⟩
     ·have e:i=n-1:=by omega
      subst e;exact⟨d',c'⟩
    refine KW.mono (fun r h=>⟨by omega,by omega,h.2.2.1,h.2.2.2⟩) (fA f (n:=n+1) (q:=q+1) (by omega) (hf.succ (by omega)) ⟨by omega,fun i j hij hj=>hd.up i j hij (by omega),fun i j hi h2 h3=>?_,fun i j h1 h2 h3=>?_⟩)
    ·rcases Zo j n with h4|h4
     ·exact hd.cr i j (by omega) (by omega) h4
     ·have e:j=n:=by omega
      subst e;exact O.le_lt d' (hd.cr i (j-1) (by omega) (by omega) (by omega))
    ·rcases Zo j n with h4|h4
     ·exact hd.eq i j (by omega) h2 h4
     ·have e:j=n:=by omega
      subst e;obtain⟨a1,a2⟩:=same i (by omega) h2;exact⟨a1,a2,by rw[gn];exact hf.lo _ h2⟩
theorem fQ{p:Array Nat}{n:Nat}(h1:1<=n)(hN:n<N)(hf:Fx N p n)(ha:AS lt p n)(hl:lt (gA p n) (gA p (n-1))=true):KW lt (fun r=>r.1<=N/\1<=r.1/\Fx N r.2 r.1/\LS lt r.2 r.1) (kas_descPart n N p):=by
 refine KW.bind (KW.mono (fun r hr=>?_) (fA O (N:=N) (N-(n+1)) (by omega) (hf.succ hN) (Dn.start O ha h1 hl)));obtain⟨r1,r2,r3,r4⟩:=hr;show KW lt _ (if r.2.2>0 then _ else _);by_cases c:r.2.2>0
 ·rw[if_pos c];exact lg O (by omega) (by omega) (r3.rev (zh _) (by omega)) (r4.rev O (by rw[r3.sz];omega))
 ·rw[if_neg c];have e:r.2.2=0:=by omega
  rw[e]at r4;exact lg O (by omega) (by omega) r3 (r4.zero O)
theorem pV{p:Array Nat}(hN:1<=N)(hf:Fx N p 1):KW lt (fun r=>r.1<=N/\1<=r.1/\Fx N r.2 r.1/\LS lt r.2 r.1) (kas_count N p):=by
 refine KW.bind (KW.mono (fun n hn=>?_) (jR O (N:=N) (N-1) 1 (zh _) (by omega) hf (fun i j h1 h2=>absurd h1 (by omega))));obtain⟨n1,n2,nf,ns,nl⟩:=hn;show KW lt _ (if(n==N)=true then KasT.ret (n,p)else if n>1 then KasT.ask (gA p 0) (gA p (n-1)) (fun c=>if c=true then .ret (n,p)else kas_descPart n N (kas_rev p 0 n))else kas_descPart n N p);by_cases c:(n==N)=true
 ·rw[if_pos c];exact⟨by omega,n1,nf,ns⟩
 ·rw[if_neg c];have nN:n<N:=by have:n≠N:=fun z=>c (ZK.mpr z);omega
  have hl:=nl (by omega);by_cases c2:n>1
  ·rw[if_pos c2];show KW lt _ (if lt (gA p 0) (gA p (n-1))=true then _ else _);by_cases c3:lt (gA p 0) (gA p (n-1))=true
   ·rw[if_pos c3];exact⟨by omega,n1,nf,ns⟩
   ·rw[if_neg c3];have c3':=ZQ.mpr c3;have hs:n<=p.size:=by rw[nf.sz];omega
    have le0:∀i,i<n->lt (gA p i) (gA p 0)=false:=fun i hi=>by
     rcases Nat.eq_zero_or_pos i with z|z
     ·subst z;cases e:lt (gA p 0) (gA p 0)with
      |false=>rfl
      |true=>rw[O.as e]at e;cases e
     ·exact(ns 0 i z hi).1
    have leN:∀i,i<n->lt (gA p (n-1)) (gA p i)=false:=fun i hi=>by
     rcases Zo i (n-1)with z|z
     ·exact(ns i (n-1) z (by omega)).1
     ·have e:i=n-1:=by omega
      subst e;cases e:lt (gA p (n-1)) (gA p (n-1))with
      |false=>rfl
      |true=>rw[O.as e]at e;cases e
    have all:∀i j,i<n->j<n->lt (gA p i) (gA p j)=false:=fun i j hi hj=>O.tr (leN j hj) (O.tr c3' (le0 i hi));refine fQ O n1 nN (nf.rev (zh _) (by omega)) (fun i j hij hj=>?_) ?_
    ·rw[bE hs,bE hs,if_pos (by omega),if_pos (by omega)];have z:=ns (0+n-1-j) (0+n-1-i) (by omega) (by omega);refine⟨all _ _ (by omega) (by omega),?_⟩;rcases z.2 with y|y
     ·rw[all _ _ (by omega) (by omega)]at y;cases y
     ·exact .inr y
    ·rw[bE hs,bE hs,if_neg (by omega),if_pos (by omega)];exact O.lt_le hl (all _ _ (by omega) (by omega))
  ·rw[if_neg c2];have e:n=1:=by omega
   subst e;exact fQ O n1 nN nf (fun i j h1 h2=>absurd h1 (by omega)) hl
theorem fY{p:Array Nat}{k:Nat}(hs:LS lt p k):∀(f l r:Nat),r-l<=f->r<=k->(∀i,i<l->i<k->lt (gA p k) (gA p i)=false)->(∀i,r<=i->i<k->lt (gA p k) (gA p i)=true)->l<=r ->
  KW lt (fun m=>m<=k/\(∀i,i<m->lt (gA p k) (gA p i)=false)/\∀i,m<=i->i<k->lt (gA p k) (gA p i)=true) (kas_place p k f l r)
 |0,l,r,h1,h2,h3,h4,h5=>⟨by omega,fun i hi=>h3 i hi (by omega),fun i hi=>h4 i (by omega)⟩
 |f+1,l,r,h1,h2,h3,h4,h5=>by
  show KW lt _ (if l>=r then KasT.ret l else KasT.ask (gA p k) (gA p ((l+r) / 2)) fun c=>if c=true then kas_place p k f l ((l+r) / 2)else kas_place p k f ((l+r) / 2+1) r);by_cases c:l>=r
  ·rw[if_pos c];exact⟨by omega,fun i hi=>h3 i hi (by omega),fun i hi=>h4 i (by omega)⟩
  ·rw[if_neg c];show KW lt _ (if lt (gA p k) (gA p ((l+r) / 2))=true then _ else _);by_cases d:lt (gA p k) (gA p ((l+r) / 2))=true
   ·rw[if_pos d];refine fY hs f l ((l+r) / 2) (by omega) (by omega) h3 (fun i hi hk=>?_) (by omega);rcases Nat.eq_or_lt_of_le hi with e|e
    ·rw[<-e];exact d
    ·exact O.lt_le d (hs _ _ e hk).1
   ·rw[if_neg d];have d':=ZQ.mpr d;refine fY hs f ((l+r) / 2+1) r (by omega) h2 (fun i hi hk=>?_) h4 (by omega);rcases Zo i ((l+r) / 2)with e|e
    ·exact O.tr (hs _ _ e (by omega)).1 d'
    ·have e:i=(l+r) / 2:=by omega
     rw[e];exact d'
end
open PySem PySem.Spec PyProof.Rows PySem.W
def Ite(K:PySem.W.Frag)(a:Addr)(xs:List V):It :=
 ⟨fun i H=>i<xs.length/\SqL K H a xs,fun i H x H'=>∃T p,H T=none/\xs[i]?=some p/\x=.ref T/\H'=upd H T (.tup [.int i,p]),fun i H=>i=xs.length/\SqL K H a xs⟩
abbrev eTn(e it a:Addr):Nat->Heap->Prop:=fun i h=>(∃old,IsEnum h e it i old)/\h.IsListIter it a i
theorem oS{P:Program}{w:World}{K:PySem.W.Frag}{elts:List Expr}{kt:Nat}{tp:Pos}{e it a:Addr}{xs:List V}(ne:e≠it)(ha:e≠a/\it≠a) :
  Turn P w K (.Tuple elts kt tp) (Ite K a xs) [e,it] e (eTn e it a):=by
 refine⟨by simp,fun i h st c hc=>?_,fun i h h' st k=>?_,?_,?_,fun A i s Q E st h=>?_⟩
 ·obtain⟨⟨old,e1⟩,⟨o4,e4,_,d4⟩⟩:=st;simp only[zD,Zt,or_false]at hc;rcases hc with rfl|rfl
  ·exact⟨_,e1,fun v z=>nomatch z⟩
  ·exact⟨_,e4,fun v z=>by rw[d4]at z;cases z⟩
 ·obtain⟨⟨old,e1⟩,⟨o4,e4,r4⟩⟩:=st;exact⟨⟨old,k e (by simp) _ e1⟩,⟨o4,k it (by simp) _ e4,r4⟩⟩
 ·intro X hP hw hK hc i pins s σ H E I hf st hg;subst hP hw hK;obtain⟨⟨old,e1⟩,e4⟩:=st;obtain⟨hi,hx⟩:=hg;obtain⟨its,rx,px,zx⟩:=I.list hx;have lx:i<its.toArray.size:=by rw[zp,<-rx.length];exact hi
  have hh:=I.ok.hd hc;refine wpAny_pyNext_enum_itemD (Draws.list (A:=X.A.in1) hh it a ha.2.symm its.toArray) e1 ⟨e4,px.isList⟩ lx ne (by simp[ne,ha.1]) fun x h' tk qx ho hs' hT hsz hk=>?_;refine⟨_,rfl,wpAny_letOwnedTupleGo_enum (s:={ s with heap:=h',toks:=tk+1 }) ho fun h2 he2 sb=>?_⟩;obtain⟨xv,ex⟩:∃xv,xs[i]?=some xv:=⟨xs[i],by simp[hi]⟩
  obtain⟨x',gx,rxv⟩:=rx.get ex;have qx':its[i]?=some x:=by simpa using qx
  rw[gx]at qx';cases qx';have lte:e<s.heap.objs.size:=zq e1;have kp2:∀c o,c∉[e,it]->s.heap.get? c=some o->h2.get? c=some o:=fun c o hc q=>by simp only[zD,Zt,or_false,not_or]at hc;exact sb.extBut c o hc.1 (hk c o hc.1 hc.2 q)
  have tT:IsTup h2 s.heap.objs.size [.int i tk,x].toArray:=⟨_,sb.extBut _ _ (ZM lte) hT,rfl,_,rfl⟩
  refine⟨.ref s.heap.objs.size,upd H s.heap.objs.size (.tup [.int i,xv]),I.turnT (t':=tk+1) hf kp2 tT (.cons ⟨tk,rfl⟩ (.cons rxv .nil)) (sz rfl),rfl,⟨_,xv,I.hok.fresh (zh _),ex,rfl,rfl⟩,?_,fun c hc=>?_⟩
  ·exact⟨⟨_,by simpa using he2⟩,hs'.1.extBut sb.extBut ne.symm⟩
  ·rw[af]
   ·exact(hf c hc).1
   ·obtain⟨o,eo⟩:∃o,s.heap.get? c=some o:=by
     simp only[zD,Zt,or_false]at hc;rcases hc with rfl|rfl
     ·exact⟨_,e1⟩
     ·obtain⟨o,eo,_⟩:=e4;exact⟨o,eo⟩
    exact zJ (zq eo)
 ·intro X hP hw hK hc i pins s σ H E I hf st hg;subst hP hw hK;obtain⟨⟨old,e1⟩,e4⟩:=st;obtain⟨rfl,hx⟩:=hg;obtain⟨its,rx,px,zx⟩:=I.list hx;have lx:its.toArray.size=xs.length:=by rw[zp,<-rx.length]
  have hh:=I.ok.hd hc;refine wpAny_pyNext_enum_endD (Draws.list (A:=X.A.in1) hh it a ha.2.symm its.toArray) e1 ⟨by rw[lx];exact e4,px.isList⟩ fun h' kp=>⟨rfl,?_⟩
  exact I.turnM (t':=s.toks) hf fun c ob hc q=>by simp only[zD,Zt,or_false,not_or]at hc;exact kp c ob hc.2 q
 ·obtain⟨⟨old,e1⟩,_⟩:=st;exact wpAny_pyIter_enum e1 h
def qN(K:PySem.W.Frag)(ta:TA):TI:=fun σ H R=>ta σ H fun vs H1=>∃a xs,vs=[.ref a]/\H1 a=some (.lst xs)/\R (Ite K a xs) H1
section
variable{X:Cx}
theorem so{e1:Expr}{ta:TA}{p pos tp:Pos}{elts:List Expr}{kt:Nat}(hg:Gl X "enumerate")(hm:X.mg "enumerate" = none)(ha:PA X [e1] ta)(n1:aM e1=true):PI X (.Tuple elts kt tp) (.Call (.Name "enumerate" p) [e1] [] pos) (qN X.K ta):=by
 intro pins s σ H R I h;refine Call_ (dE I hg hm boot_enumerate (ZN (thn (ha pos pins s σ H _ I h) fun us s1 hz9=>?_) (aW n1) (bx (by simp))));obtain⟨vs,H1,I1,r1,q1⟩:=hz9;obtain⟨a,xs,e,hx,q⟩:=q1;subst e;obtain⟨ua,rfl,ra⟩:=fJ r1;cases ra;obtain⟨z,its,n,rx,hl',eo⟩:=I1.lstM hx;have la:a<s1.heap.objs.size:=zq eo;refine call_enumerate_1 eo fun h' he hl hz hk=>wpAny_pyIter_enum he ?_;refine⟨s1.heap.objs.size+1,[s1.heap.objs.size+1,s1.heap.objs.size],eTn (s1.heap.objs.size+1) s1.heap.objs.size a,_,H1,rfl,I1.kept (t':=s1.toks) hk,oS (Nat.succ_ne_self _) ⟨ZM (Nat.lt_succ_of_lt la),ZM la⟩,⟨⟨_,he⟩,hl⟩,fun c hc=>?_,q⟩;have hc':s1.heap.objs.size<=c:=by
  simp only[zD,Zt,or_false]at hc;rcases hc with rfl|rfl
  ·exact Nat.le_succ _
  ·exact zh _
 exact I1.fpOk hc' (I1.hok.fresh hc')
theorem tF{e1:Expr}{ta:TA}{p pos tp:Pos}{elts:List Expr}{kt:Nat}(hm:X.mg "enumerate" = none)(ha:QA X [e1] ta)(hg:Gl X "enumerate":=by rfl)(n1:aM e1=true:=by rfl):QI X (.Tuple elts kt tp) (.Call (.Name "enumerate" p) [e1] [] pos) (qN X.K ta):=⟨so hg hm ha.h n1⟩
end
theorem pL{K:PySem.W.Frag}{a:Addr}{xs:List V}{i j:Nat}{tb:TS}{D:Ends}{σ:St}{H:Hp}(Pv:Nat->St->Hp->Prop)(h0:Pv 0 σ H)(ha:∀i σ H,i<=xs.length->Pv i σ H->SqL K H a xs)(hs:∀k x σ H,xs[k]?=some x->Pv k σ H->∀T,H T=none->tb { D with nx:=Pv (k+1),ct:=Pv (k+1),bk:=D.nx } ((σ.set i (some (.int k))).set j (some x)) (upd H T (.tup [.int k,x])))(hd:∀σ H,Pv xs.length σ H->D.nx σ H) :
  ∃W:Nat->Nat->St->Hp->Prop,(∃m,W 0 m σ H)/\∀k m σ H,W k m σ H ->
   ((Ite K a xs).stop k H/\D.nx σ H)\/((Ite K a xs).go k H/\∃N:St->Hp->Prop,(∀σ' H',N σ' H'->∃m',m'<m/\W (k+1) m' σ' H')/\∀x H',(Ite K a xs).yld k H x H'->jK K 2 (db (bM i) (db (bM j) jJ)) x σ H' fun σ2 H2=>tb { D with nx:=N,ct:=N,bk:=D.nx } σ2 H2):=by
 refine⟨fun k m σ H=>m=xs.length-k/\k<=xs.length/\Pv k σ H,⟨xs.length,by simp,zR _,h0⟩,?_⟩;rintro k m σ H ⟨rfl,hk,pv⟩;by_cases hlt:k<xs.length
 ·refine .inr ⟨⟨hlt,ha k σ H hk pv⟩,Pv (k+1),fun σ' H' z=>⟨xs.length-(k+1),by omega,rfl,hlt,z⟩,fun x H' y=>?_⟩;obtain⟨T,p,hT,hx,rfl,rfl⟩:=y;exact⟨T,[.int k,p],rfl,SqT.of ae,rfl,.int k,[p],rfl,p,[],rfl,rfl,hs k p σ H hx pv T hT⟩
 ·have e:k=xs.length:=by omega
  subst e;exact .inl ⟨⟨rfl,ha _ σ H hk pv⟩,hd σ H pv⟩
open PySem PySem.Spec PyProof.Rows PySem.W
section
variable{X:Cx}{pins:List (Addr×Obj)}{σ:St}{H:Hp}{s:Shared}{h':Heap}
structure SK(X:Cx)(pins:List (Addr×Obj))(σ:St)(H1:Hp)(m:Str->Option Value)(kS D:Addr)(e1:Nat)(ks:List (List Int))(as:List Addr)(e:Nat)(H:Hp)(s:Shared):Prop where
 I:Inv X pins σ H s
 sm:Same H1 H
 fk:bn X pins H kS
 fd:bn X pins H D
 bk:X.base.get? kS=none
 bd:X.base.get? D=none
 hk:s.heap.get? kS=some (seqObj "list" (List.toArray (as.map Value.ref)) e)
 hd:s.heap.get? D=some (seqObj "list" #[] e1)
 ns:s.heap.Ns X.env.locals m
 keys:∀(i:Nat) (a:Addr) (k:List Int),as[i]?=some a->ks[i]?=some k->H a=some (.tup (k.map V.int))
end
open PySem PySem.Spec PyProof.Rows PySem.W
section
variable{X:Cx}{pins:List (Addr×Obj)}{σ:St}{H:Hp}{s:Shared}
structure ExOk(X:Cx)(b:Addr):Prop where
 old:b∈X.ex\/X.s₀.heap.get? b=none
 loc:b≠X.env.locals
 cel:∀x c,X.env.cells.lookup x=some c->c≠b
 bas:X.base.get? b=none
 fs:b∉X.fs
end
open PySem PySem.Spec PyProof.Rows PySem.W
section
variable{X:Cx}{o i value:Expr}{pos pos':Pos}{td ty tv:TE}
theorem mB:QE X (.Dict [] [] pos) oN:=⟨qi⟩
theorem aN(hu:X.A.units+64<cLine)(ho:QE X o td)(hi:QE X i ty)(hs:pA i:=by intro _ _;rfl):QE X (.Subscript o i pos) (rh td ty):=⟨sf (by omega) ho.h hi.h hs⟩
theorem wB(hu:X.A.units+64<cLine)(hi:QE X i ty)(ho:QE X o td)(hm:behindInMarks .In o=false:=by with_unfolding_all rfl):QT X (.Compare i [.In] [o] pos) (tB (vm ty td)):=⟨oy (uo (by omega) hi.h ho.h) hm⟩
theorem kD(hu:X.A.units+64<cLine)(hi:QE X i ty)(ho:QE X o td)(hm:behindInMarks .NotIn o=false:=by with_unfolding_all rfl):QT X (.Compare i [.NotIn] [o] pos) (tB (lL ty td)):=⟨oy (oo (by omega) hi.h ho.h) hm⟩
theorem cJ(hu:X.A.units+64<cLine)(ho:QE X o td)(hi:QE X i ty)(hv:QE X value tv)(hs:swapsWith value (some (.Subscript o i pos')) pos.line X.env=pure false:=by rfl):QS X (.Assign [.Subscript o i pos'] value pos) (rd td ty tv):=⟨sw (by omega) ho.h hi.h hv.h hs⟩
end
open PySem PySem.Spec PyProof.Rows PySem.W
open PySem PySem.Spec PyProof.Rows PySem.W
open PySem PySem.Spec PyProof.Rows PySem.W
open PySem PySem.Spec PyProof.Rows PySem.W
section
variable{X:Cx}
structure QPs(X:Cx)(pos:Pos)(keys:List (Option Expr))(values:List Expr)(trs:List (TE×TE)):Prop where
 h:PPs X pos keys values trs
end
open PySem PySem.Spec PyProof.Rows PySem.W
open PySem PySem.Spec PyProof.Rows PySem.W
structure MFn(P:Program)(w:World)(K:PySem.W.Frag)(mg:Str->Option Value)(base:Heap)(k:Nat)(C:Addr)(m:Str)(ps:List Str)(sp:Sp):Prop where
 cl:Cls K C
 ex:∃f fd,FnOk P w K mg base CX0 k f fd ps sp/\Meth K C m f/\Binds K fd ps []
structure MkFn(P:Program)(w:World)(K:PySem.W.Frag)(mg:Str->Option Value)(base:Heap)(k:Nat)(C:Addr)(x:Str)(ps:List Str)(sp:Sp):Prop where
 cl:Cls K C
 mgC:mg x=some (.ref C)
 ex:∃f fd,FnOk P w K mg base CX0 k f fd ps sp/\Mk K C f/\Binds K fd ps []
section
variable{X:Cx}{k:Nat}{C:Addr}{m x f:Str}{p pos pos' apos:Pos}{o e value:Expr}{es:List Expr}{ps:List Str}{sp:Sp}{t:TA}{ta tv:TE}
theorem bz(he:QE X e ta)(hb:attributeBase e f X.env (eval e X.env)=eval e X.env:=by rfl):QE X (.Attribute e f pos) (vn X.K ta f):=⟨ur he.h hb⟩
theorem re(ha:QE X o ta)(hv:QE X value tv)(hs:swapsWith value (some (.Attribute o f pos')) pos.line X.env=pure false:=by rfl):QS X (.Assign [.Attribute o f pos'] value pos) (uY X.K ta tv f):=⟨uI ha.h hv.h hs⟩
theorem aJ{pl:Sem Bool}(F:MFn X.prog X.w X.K X.mg X.base k C m ps sp)(hr:Room k X.A)(he:QE X o ta)(ha:QA X (e::es) t)(hs:(e::es).all aM=true:=by rfl)(ht:eval (.Call (.Attribute o m apos) (e::es) [] pos) X.env=(do
   let ov ←eval o X.env
   standAt apos.atName
   let(f,first) ←holding [ov] (getMethod ov m pl)
   callWith pos f first (backTo pos (starEach (e::es) X.env)) (backToKw pos (keywordEach [] X.env))):=by rfl) :
  QE X (.Call (.Attribute o m apos) (e::es) [] pos) (jq C m sp [] E0 ta t):=by
 obtain⟨f,fd,G,hm,b⟩:=F.ex;rw[List.all_cons,zL]at hs;exact⟨sh (pl:=pl) he.h F.cl hm G hr b .nil jn ha.h (aW hs.1) (bx hs.2) ht⟩
theorem lz{pl:Sem Bool}(F:MFn X.prog X.w X.K X.mg X.base k C m ps sp)(hr:Room k X.A)(he:QE X o ta)(ht:eval (.Call (.Attribute o m apos) [] [] pos) X.env=(do
   let ov ←eval o X.env
   standAt apos.atName
   let(f,first) ←holding [ov] (getMethod ov m pl)
   callWith pos f first (backTo pos (starEach [] X.env)) (backToKw pos (keywordEach [] X.env))):=by rfl) :
  QE X (.Call (.Attribute o m apos) [] [] pos) (jq C m sp [] E0 ta fb):=by
 obtain⟨f,fd,G,hm,b⟩:=F.ex;exact⟨qk (pl:=pl) he.h F.cl hm G hr b .nil jn ht⟩
theorem sE(F:MkFn X.prog X.w X.K X.mg X.base k C x ps sp)(hr:Room (k+1) X.A)(hg:Gl X x:=by rfl)(hdb:(x==("__debug__":Str))=false:=by decide):QE X (.Call (.Name x p) [] [] pos) (rj C sp [] E0 fb):=by obtain⟨f,fd,G,hm,b⟩:=F.ex;exact⟨qj hm G hr hg F.mgC b .nil jn hdb⟩
end
def DRaw(h:Heap)(d:Addr)(es:Array DictEntry)(ep:Nat):Prop:=∃o,h.get? d=some o/\o.ExactDict/\o.data=.dict es ep
theorem DRaw.type{s:Shared}{d:Addr}{es:Array DictEntry}{ep:Nat}(x:DRaw s.heap d es ep):s.TypeIs (.ref d) "dict":=let⟨o,ho,hc,_⟩:=x;⟨o,ho,hc.1⟩
theorem DRaw.at'{h h':Heap}{d:Addr}{es:Array DictEntry}{ep:Nat}(x:DRaw h d es ep)(e:∀o,h.get? d=some o->h'.get? d=some o):DRaw h' d es ep:=let⟨o,ho,r⟩:=x;⟨o,e o ho,r⟩
theorem DRaw.lt{h:Heap}{d:Addr}{es:Array DictEntry}{ep:Nat}(x:DRaw h d es ep):d<h.objs.size:=let⟨_,ho,_⟩:=x;zq ho
section
variable{prog:Program}{w:World}{A:Around}{E:Value->Shared->Prop}{s:Shared}{d it:Addr}{es:Array DictEntry}{ep i:Nat}
theorem kl{Q:Value->Shared->Prop}(hd:(d==sysModules)=false)(hm:DRaw s.heap d es ep)(hQ:Q (.ref s.heap.objs.size) { s with heap:=s.heap.push { cls:=.type "dict_keyiterator",data:=.fields #[.ref d,.int 0 0,.int es.size 0,.int ep 0] } }) :
  wpAny (model prog w) A (pyIter (.ref d)) Q E s:=by
 obtain⟨o,ho,hc,hdat⟩:=id hm;refine wpAny_pyIter_slot hm.type PySem.F.slot_dict_iter (Zh PySem.F.slot_dict_iter hm.type PySem.F.entry_dict_iter ?_ (PySem.F.args_dict_iter_1 _));unfold Builtin.«dict.__iter__»;refine zd ?_;unfold Builtin.Dict.dictSlotNone;refine zd (wpAny_notOrdered_dict hm.type ?_);show wpAny _ _ (pure (Value.ref d)) _ _ s;refine zi ?_;show wpAny _ _ (Builtin.Dict.showsAll d >>= _) _ _ s;unfold Builtin.Dict.showsAll;rw[if_neg (by rw[hd];exact zo)];refine zd (zi ?_);refine zd (wpAny_dictEntries ho hdat ?_);refine zd (wpAny_dictEpoch ho hdat ?_);refine zd (Zl (zi ⟨_,rfl,"dict_keyiterator",_,⟨_,zw _ rfl,rfl⟩,Zm.lookup,?_⟩));simpa[rawInt]using hQ
theorem kj{Q:Option Value->Shared->Prop}(hit:s.heap.IsKeyIter it d i es.size ep)(hm:DRaw s.heap d es ep)(hx:i<es.size)(hQ:∀h',h'.IsKeyIter it d (i+1) es.size ep->Heap.SameBut it s.heap h'->Q (some es[i].key) { s with heap:=h' }):wpAny (model prog w) A (pyNext (.ref it)) Q E s:=by
 obtain⟨o,ho,hc,hd⟩:=id hit;obtain⟨od,hod,hcd,hdd⟩:=id hm;unfold pyNext;refine zd (wpAny_attempt (zY (name:=Str.ofString "__next__") hit.typeIs Zm
  (Zh Zm hit.typeIs PySem.F.entry_dict_keyiterator_next ?_ (PySem.F.args_dict_keyiterator_next_1 _))))
 refine zd (zi ?_);refine zd ?_;refine zd ?_
 first|refine zd (ZJ hit.typeIs (zi ?_))|refine zd (wpAny_typeNameOf_keyiter hit.typeIs (zi ?_))
 refine zd (wpAny_fieldsOf ho hd ?_);have hown:Builtin.Dict_items.ownsTuple "dict_keyiterator" = false:=by decide
 simp only[hown,ZO,if_false];show wpAny _ _ (if(Value.ref d==Value.none)=true then _ else _) _ _ s;rw[if_neg (show¬((Value.ref d==Value.none)=true)from zo)];refine zd (zi ?_);refine zd (wpAny_dictEntries hod hdd ?_);rw[if_neg (by simp)];refine zd (zi ?_);refine zd (wpAny_dictEpoch hod hdd ?_);rw[if_neg (by simp)];refine zi ?_;simp only[show¬((i:Int)<0)from by omega,if_false,Int.toNat_natCast,Array.getElem?_eq_getElem hx];refine zd ?_
 first|refine zd (ZJ hit.typeIs (zi ?_))|refine zd (wpAny_typeNameOf_keyiter hit.typeIs (zi ?_))
 refine zd (wpAny_isOneOf_keyiter hit.typeIs ?_);show wpAny _ _ (setField (.ref it) 1 (rawInt ((i:Int)+1)) >>= _) _ _ s;refine zd (wpAny_setField ho hd (by simp) ?_);have hit':(s.heap.update it (Obj.mapFields (·.setIfInBounds 1 (rawInt ((i:Int)+1))))).IsKeyIter it d (i+1) es.size ep :=
  ⟨_,Heap.get?_update_self _ ho (Obj.isFreed_of_fields (Obj.data_mapFields hd _)),(Obj.cls_mapFields ..).trans hc,by rw[Obj.data_mapFields hd];simp[rawInt]⟩
 refine zd (wpAny_holding ?_);refine zd (wpAny_isOneOf_keyiter (s:={ s with heap:=s.heap.update it (Obj.mapFields (·.setIfInBounds 1 (rawInt ((i:Int)+1)))) }) hit'.typeIs ?_);show wpAny _ _ (pure es[i].key) _ _ _;exact zi (zi ⟨_,rfl,zi (hQ _ hit' (Zd ..))⟩)
theorem lB{Q:Option Value->Shared->Prop}(hh:A.handled=none)(hit:s.heap.IsKeyIter it d es.size es.size ep)(hm:DRaw s.heap d es ep)(hQ:∀h',Heap.ExtBut it s.heap h'->Q none { s with heap:=h' }) :
  wpAny (model prog w) A (pyNext (.ref it)) Q E s:=by
 obtain⟨o,ho,hc,hd⟩:=id hit;obtain⟨od,hod,hcd,hdd⟩:=id hm;unfold pyNext;refine zd (wpAny_attempt (zY (name:=Str.ofString "__next__") hit.typeIs Zm
  (Zh Zm hit.typeIs PySem.F.entry_dict_keyiterator_next ?_ (PySem.F.args_dict_keyiterator_next_1 _))))
 refine zd (zi ?_);refine zd ?_;refine zd ?_
 first|refine zd (ZJ hit.typeIs (zi ?_))|refine zd (wpAny_typeNameOf_keyiter hit.typeIs (zi ?_))
 refine zd (wpAny_fieldsOf ho hd ?_);have hown:Builtin.Dict_items.ownsTuple "dict_keyiterator" = false:=by decide
 simp only[hown,ZO,if_false];show wpAny _ _ (if(Value.ref d==Value.none)=true then _ else _) _ _ s;rw[if_neg (show¬((Value.ref d==Value.none)=true)from zo)];refine zd (zi ?_);refine zd (wpAny_dictEntries hod hdd ?_);rw[if_neg (by simp)];refine zd (zi ?_);refine zd (wpAny_dictEpoch hod hdd ?_);rw[if_neg (by simp)];refine zi ?_;simp only[show¬((es.size:Int)<0)from by omega,if_false,Int.toNat_natCast,Array.getElem?_eq_none (zh _)];refine zd ?_
 first|refine zd (ZJ hit.typeIs (zi ?_))|refine zd (wpAny_typeNameOf_keyiter hit.typeIs (zi ?_))
 show wpAny _ _ (setField (.ref it) 0 .none >>= _) _ _ s;refine zd (wpAny_setField ho hd (by simp) ?_);show wpAny _ _ (newExc (.type "StopIteration") [] >>= _) _ _ _;refine zd ?_;simp only[newExc,newTuple];refine zd (Zl ?_ (by size_fits));refine zd (m:=firstArgMember _ _) (wpAny_of_eq (a:=Value.none) (by first|rfl|(simp only[firstArgMember];rfl)) ?_);refine Zl ?_ (by size_fits);simp only[raiseNew];refine zd (wpAny_handled ?_);rw[show A.in1.handled=none from hh];refine zd (zi (wpAny_throw ?_));refine zd (wpAny_isInstance (T:="StopIteration") (b:=true) ⟨_,zw _ rfl,rfl⟩ isSubtype_stop ?_);exact zi (hQ _ (((Zd ..).extBut.push _).push _))
theorem oB(hh:A.handled=none)(I d:Addr)(hne:d≠I)(es:Array DictEntry)(ep:Nat) :
  Walks prog w A I [I,d] [I] es.size (fun i v=>∃e,es[i]?=some e/\v=e.key) (fun i h=>h.IsKeyIter I d i es.size ep/\DRaw h d es ep) where
 sub:=fun b hb=>by simp at hb;simp[hb]
 frame:=fun _ _ _ st hk=>⟨st.1.at fun o e=>hk I (by simp) o e,st.2.at' fun o e=>hk d (by simp) o e⟩
 item:=fun i s Q E hi st hQ=>kj st.1 st.2 hi fun h' hit' hs'=>hQ _ h' s.toks ⟨es[i],by simp[hi],rfl⟩ ⟨hit',st.2.at' fun o e=>hs'.extBut d o hne e⟩ fun b o hb e=>hs'.extBut b o (fun h=>hb (by simp[h])) e
 done:=fun s Q E st hQ=>lB hh st.1 st.2 fun h' he'=>hQ h' s.toks fun b o hb e=>he' b o (fun h=>hb (by simp[h])) e
 self:=fun _ _ _ _ st hQ=>wpAny_pyIter_keyiter st.1 hQ
theorem sF(lo:(d==sysModules)=false):KdlSrc prog w "dict" d d es.size (fun i v=>∃e,es[i]?=some e/\v=e.key) (fun h=>DRaw h d es ep) where
 type:=fun _ hm=>hm.type
 there:=fun _ hm=>⟨hm.lt,hm.lt⟩
 keep:=fun _ _ hm hk=>hm.at' fun o e=>hk d (.inl rfl) o e
 notList:=by decide
 notTuple:=by decide
 hint:=fun _ _ _ _ hm hq=>kdl_hint_dict hm.type hq
 iter:=fun _ _ hh hm=>⟨_,_,(fun _ _ hq=>kl lo hm hq),oB hh _ d (zJ hm.lt) es ep,⟨⟨_,zw _ rfl,rfl,rfl⟩,hm.at' fun o e=>ze _ e⟩⟩
end
def bC(H:Hp)(kvs:List (List Key×V))(ks:List V):Prop:=Paired (fun(p:List Key×V) (v:V)=>∃b,v=V.ref b/\H b=some (.tup (p.1.map kV))) kvs ks
theorem me{H:Hp}{kvs:List (List Key×V)}{xs:List (List Key×Addr×Value)}(r:KT H kvs xs):bC H kvs (xs.map fun(x:List Key×Addr×Value)=>V.ref x.2.1):=by
 unfold bC;induction r with
 |nil=>exact .nil
 |cons h _ ih=>exact .cons ⟨_,rfl,h.2.1⟩ ih
section
variable{X:Cx}
theorem lS(hc:X.calm=true):cN X (.type "list") (fun xs H Q=>∃p kvs,xs=[.ref p]/\Rd H p (.dT kvs)/\∀l ks,H l=none->bC H kvs ks->Q (.ref l) (upd H l (.lst ks))):=by
 intro pins s σ H xs us Q I r h;obtain⟨p,kvs,rfl,hq,q⟩:=h;obtain⟨u,rfl,rx⟩:=fJ r;cases rx;obtain⟨z,hd,xs,rel,o,es,ep,h1,h2,h3,h4,_,_⟩:=fq I.hok hq;have hsz:es.size=xs.length:=size_of_entries h4;have hkl:kvs.length=xs.length:=Zn rel;refine kdl_call (sF (es:=es) (ep:=ep) hd) (I.ok.hd hc) ⟨o,h1,h2,h3⟩ (by omega) fun h' tk acc' c' kp e hacc=>?_;have ev:Vals (xs.map fun(x:List Key×Addr×Value)=>V.ref x.2.1) acc'.toList:=by
  have gen:∀(vs:List Value) (ys:List (List Key×Addr×Value)),vs.length=ys.length->(∀(j:Nat) (v:Value),vs[j]?=some v->∃x:List Key×Addr×Value,ys[j]?=some x/\v=Value.ref x.2.1)->Vals (ys.map fun(x:List Key×Addr×Value)=>V.ref x.2.1) vs:=by
   intro vs;induction vs with
   |nil =>
    intro ys hl _;cases ys with
    |nil=>exact .nil
    |cons _ _=>cases hl
   |cons v vs ih =>
    intro ys hl hv;cases ys with
    |nil=>cases hl
    |cons y ys =>obtain⟨x,e1,e2⟩:=hv 0 v rfl;cases e1;exact .cons e2 (ih ys (by simpa using hl) fun j v' e'=>hv (j+1) v' (by simpa using e'))
  refine gen _ _ (by rw[zA,hacc.1,hsz]) fun j v e'=>?_;obtain⟨en,e1,e2⟩:=hacc.2 j v (by rw[<-ZP];exact e');rw[entry_at h4]at e1;obtain⟨x,e3,e4⟩:=ZC.mp e1;refine⟨x,e3,?_⟩;rw[e2,<-e4];rfl
 refine⟨.ref s.heap.objs.size,_,I.laid (t':=tk) kp (zh _) (show ObjOk X.prog X.w _ h' _ (.lst (xs.map fun(x:List Key×Addr×Value)=>V.ref x.2.1))from⟨by rw[zr];omega,acc'.toList,c',ev,by simpa using e⟩),rfl,q _ _ (I.hok.fresh (zh _)) (me rel)⟩
theorem dC(hc:X.calm=true):QCall X (.type "list") (fun xs H Q=>∃p kvs,xs=[.ref p]/\Rd H p (.dT kvs)/\∀l ks,H l=none->bC H kvs ks->Q (.ref l) (upd H l (.lst ks))):=⟨lS hc⟩
end
def wz(t:TS):TS:=fun D σ H=>∃Pv:St->Hp->Prop,t { D with nx:=Pv } σ H/\∀σ' H',Pv σ' H'->D.nx σ' H'
theorem oE{X:Cx}{st:Stmt}{t:TS}(h:QS X st t):QS X st (wz t):=⟨fun pins s σ H D I ⟨Pv,h1,h2⟩=>thn (h.h pins s σ H _ I h1) fun fl s' q=>by
 cases fl with
 |next =>obtain⟨σ',H',I',q'⟩:=q;exact⟨σ',H',I',h2 _ _ q'⟩
 | _=>exact q⟩
open PySem PySem.Spec PyProof.Rows PySem.W
open PySem PySem.Spec PyProof.Rows PySem.W
open PySem PySem.Spec PyProof.Rows PySem.W PySem.Builtin PySem.Builtin.ObjectAttr
def on:List Value->Bool
 |.ref _::r=>on r
 |l=>l==VE
structure ExS(K:PySem.W.Frag)(c:Addr):Prop where
 sa:findIn K (.ref c) "__setattr__" = some (some (.builtin "object.__setattr__"))
 ov:((clsIn K c).any fun cd=>on cd.mro&&cd.hasDict)=true
 ob:mroIn K c (.type "object")=some true
open PySem PySem.Spec PyProof.Rows PySem.W
open PySem PySem.Spec PyProof.Rows PySem.W
def tq(K:PySem.W.Frag)(C fI:Addr):Bool:=match K.lookup C with
 | some ⟨.type "type",_,.cls cd,sl⟩=>(match cd.mro,sl.toList with
  |.ref C'::bm,[_,_,_,_,some (.builtin n),_]=>C'==C&&n=="ValueError.__new__"&&!cd.hasDel&&tailIn K VE bm&&nsOkIn K cd.ns&&nsIn K cd.ns "__init__" == some (some (.ref fI))
  | _,_=>false)
 |_=>false
structure ExcAtI(K:PySem.W.Frag)(C fI:Addr)(bm:List Value):Prop where
 isIn:tq K C fI=true
 mro:∃c d cd sl,K.lookup C=some ⟨c,d,.cls cd,sl⟩/\cd.mro=Value.ref C::bm
 exc:bm.contains (.type "BaseException")=true
 fn:∃oI,K.lookup fI=some oI/\oI.cls=.type "function"
structure ExI(P:Program)(w:World)(K:PySem.W.Frag)(mg:Str->Option Value)(base:Heap)(k:Nat)(C:Addr)(bm:List Value)(ps:List Str)(sp:Sp):Prop where
 ex:∃fI fd,ExcAtI K C fI bm/\FnOk P w K mg base CX0 k fI fd ps sp/\Binds K fd ps []
open PySem PySem.Spec PyProof.Rows PySem.W
structure MFnX(P:Program)(w:World)(K:PySem.W.Frag)(mg:Str->Option Value)(base:Heap)(k:Nat)(C:Addr)(m:Str)(ps:List Str)(sp:Sp):Prop where
 cl:Cls K C
 ex:∃f fd,FnOk P w K mg base (CXr P w) k f fd ps sp/\Meth K C m f/\Binds K fd ps []
open PySem PySem.Spec PyProof.Rows PySem.W
open PySem PySem.Spec PyProof.Rows PySem.W
open PySem PySem.Spec PyProof.Rows PySem.W
open PySem PySem.Spec PyProof.Rows PySem.W
structure LamOk(P:Program)(w:World)(K:PySem.W.Frag)(mg:Str->Option Value)(base:Heap)(k:Nat)(qual:Str)(body:Expr)(scope:Scope)(x:Str)(sp:Sp):Prop where
 ex:∃N:List Str,FnScope N [x] scope/\(∀vs H Q E,sp vs H Q E->vs.length=1)/\∀(f c':Addr) (A:Around) (outer:List Env) (s:Shared) (H:Hp) (vs:List V) (Q:VK) (E:XK),Room k (A.deeper (envOfC qual scope s.heap.objs.size f (.ref c')))->sp vs H Q E ->
  ∃t,QE (dO CX0 P w K mg base N qual scope f (.ref c') A outer s H E) body t/\t (start N vs) H Q
open PySem PySem.Spec PyProof.Rows PySem.W
open PySem PySem.Spec PyProof.Rows PySem.W
inductive SKey where
 |i (n:Int)|s (t:Str)|bi (b:Bool)(n:Int)
def SKey.at(H:Hp):SKey->V->Prop
 |.i n,v=>v=.int n
 |.s t,v=>v=.str t
 |.bi b n,v=>∃a,v=.ref a/\H a=some (.tup [.bl b,.int n])
section
variable{X:Cx}{pins:List (Addr×Obj)}{σ:St}{H:Hp}{s:Shared}{h':Heap}
structure SG(X:Cx)(pins:List (Addr×Obj))(σ:St)(H1:Hp)(m:Str->Option Value)(kS D:Addr)(e1:Nat)(ks:List SKey)(as:List V)(us:List Value)(e:Nat)(H:Hp)(s:Shared):Prop where
 I:Inv X pins σ H s
 sm:Same H1 H
 fk:bn X pins H kS
 fd:bn X pins H D
 bk:X.base.get? kS=none
 bd:X.base.get? D=none
 hk:s.heap.get? kS=some (seqObj "list" (List.toArray us) e)
 hd:s.heap.get? D=some (seqObj "list" #[] e1)
 ns:s.heap.Ns X.env.locals m
 vals:Vals as us
 keys:∀(i:Nat) (a:V) (k:SKey),as[i]?=some a->ks[i]?=some k->k.at H a
end
open PySem PySem.Spec PyProof.Rows PySem.W
structure LamScope(x y:Str)(sc:Scope):Prop where
 kind:sc.kind=.function
 co:sc.isCoroutine=false
 gen:sc.isGenerator=false
 lx:sc.names.lookup x=some .local
 ly:sc.names.lookup y=some .free
 nc:∀z∈sc.names,z.2≠.cell
 nf:∀z∈sc.names,z.2=.free->z.1=y
 ne:x≠y
def cxX(CX:CXT)(P:Program)(w:World)(K:PySem.W.Frag)(mg:Str->Option Value)(base:Heap)(N:List Str)(qual:Str)(scope:Scope)(f:Addr)(cd:Value)(cl:List (Str×Addr))(A:Around)(outer:List Env)(s:Shared)(H:Hp)(E:XK):Cx where
 prog:=P
 w:=w
 K:=K
 mg:=mg
 base:=base
 A:=A.deeper (envX qual scope s.heap.objs.size f cd cl)
 N:=N
 s₀:=s
 H₀:=H
 env:=envX qual scope s.heap.objs.size f cd cl
 outer:=outer
 stack:=envX qual scope s.heap.objs.size f cd cl::outer
 ex:=[]
 calm:=true
 fn:=fun _=>false
 pn:=[]
 xe:=fun e s'=>wpAny (model P w) (A.deeper (envX qual scope s.heap.objs.size f cd cl)) (leaving (envX qual scope s.heap.objs.size f cd cl) e) (fun _ s''=>CX outer H s E e s'') (fun e' s''=>CX outer H s E e' s'') s'
open PySem PySem.Spec PyProof.Rows PySem.W
section
variable{X:Cx}{c P:Addr}{params:Arguments}{body:Expr}{scope:Scope}{pos:Pos}{cl:List (Str×Addr)}
structure LamOkX(P:Program)(w:World)(K:PySem.W.Frag)(mg:Str->Option Value)(base:Heap)(k:Nat)(qual:Str)(body:Expr)(scope:Scope)(x y:Str)(sp:V->Sp):Prop where
 sc:LamScope x y scope
 ex:∀(f c' c:Addr) (kv:V) (A:Around) (outer:List Env) (s:Shared) (H:Hp) (v:V) (Q:VK),Room k (A.deeper (envX qual scope s.heap.objs.size f (.ref c') [(y,c)]))->sp kv [v] H Q E0 ->
  ∃t,QE (cxX CX0 P w K mg base [x,y] qual scope f (.ref c') [(y,c)] A outer s H E0) body t/\t [some v,some kv] H Q
end
open PySem PySem.Spec PyProof.Rows PySem.W
open PySem PyProof.Rows PySem.W
def cC:Bool->Keyed->Array Keyed->Nat->Nat->Nat->StateT SortSt Sem (Option Nat):=sortPriv%PySem.Builtin.gallop
def zLo:Array Keyed->Array Keyed->StateT SortSt Sem (Array Keyed):=sortPriv%PySem.Builtin.mergeLo
def zHi:Array Keyed->Array Keyed->StateT SortSt Sem (Array Keyed):=sortPriv%PySem.Builtin.mergeHi
def fh:Nat->StateT SortSt Sem Unit:=sortPriv%PySem.Builtin.setMinGallop
def fg(le:Bool)(ky:Keyed)(ar:Array Keyed)(ba i:Nat):StateT SortSt Sem (Option Bool):=do
 let it ←elem' ar (ba+i)
 if le then lt' it ky else do
  let o ←lt' ky it
  pure (o.map (!·))
theorem sN(le:Bool)(ky:Keyed)(ar:Array Keyed)(ba n at0:Nat):cC le ky ar ba n at0=(do
 let mut las:=0;let mut ofs:=1;let mut lo:=0;let mut hi:=0
 let some rig ←fg le ky ar ba at0|return none
 if rig then
  for _ in[0:n]do
   if ofs>=n-at0 then break
   let some mo ←fg le ky ar ba (at0+ofs)|return none
   if !mo then break
   las:=ofs;ofs:=2*ofs+1
  lo:=at0+las+1;hi:=at0+min ofs (n-at0)
 else
  for _ in[0:n]do
   if ofs>=at0+1 then break
   let some fo ←fg le ky ar ba (at0-ofs)|return none
   if fo then break
   las:=ofs;ofs:=2*ofs+1
  lo:=at0+1-min ofs (at0+1);hi:=at0-las
 for _ in[0:n]do
  if lo>=hi then break
  let some mo ←fg le ky ar ba (lo+(hi-lo) / 2)|return none
  if mo then lo:=lo+(hi-lo) / 2+1 else hi:=lo+(hi-lo) / 2
 return some hi):=rfl
theorem vF(a b:Array Keyed):zLo a b=(do
 liftM (rule "list.sort.merge-lo");let e0 ←elem' b 0;let mut out:Array Keyed:=#[e0];let mut ia:=0;let mut ib:=1
 if ib==b.size then return out++a.extract ia a.size++b.extract ib b.size
 if ia+1==a.size then return out++b.extract ib b.size++a.extract ia a.size
 let mut mg:=gallopOf (←get)
 for _ in[0:a.size+b.size]do
  let mut ac:=0;let mut bc:=0
  for _ in[0:a.size+b.size]do
   let y ←elem' b ib;let x ←elem' a ia
   let some won ←lt' y x|return out++a.extract ia a.size++b.extract ib b.size
   if won then
    let y ←elem' b ib;out:=out.push y;ib:=ib+1;bc:=bc+1;ac:=0
    if ib==b.size then return out++a.extract ia a.size++b.extract ib b.size
    if bc>=mg then break
   else
    let x ←elem' a ia;out:=out.push x;ia:=ia+1;ac:=ac+1;bc:=0
    if ia+1==a.size then return out++b.extract ib b.size++a.extract ia a.size
    if ac>=mg then break
  liftM (rule "list.sort.gallop");mg:=mg+1
  for _ in[0:a.size+b.size]do
   if mg>1 then mg:=mg-1
   fh mg;let y ←elem' b ib
   let some k ←cC false y a ia (a.size-ia) 0|return out++a.extract ia a.size++b.extract ib b.size
   ac:=k
   if k>0 then
    out:=out++a.extract ia (ia+k);ia:=ia+k
    if ia+1==a.size then return out++b.extract ib b.size++a.extract ia a.size
    if ia==a.size then return out++a.extract ia a.size++b.extract ib b.size
   let y ←elem' b ib;out:=out.push y;ib:=ib+1
   if ib==b.size then return out++a.extract ia a.size++b.extract ib b.size
   let x ←elem' a ia
   let some k ←cC true x b ib (b.size-ib) 0|return out++a.extract ia a.size++b.extract ib b.size
   bc:=k
   if k>0 then
    out:=out++b.extract ib (ib+k);ib:=ib+k
    if ib==b.size then return out++a.extract ia a.size++b.extract ib b.size
   let x ←elem' a ia;out:=out.push x;ia:=ia+1
   if ia+1==a.size then return out++b.extract ib b.size++a.extract ia a.size
   if ac<7&&bc<7 then break
  mg:=mg+1;fh mg
 unsupported "internal:list.sort.merge-bound"):=rfl
theorem vE(a b:Array Keyed):zHi a b=(do
 liftM (rule "list.sort.merge-hi");let mut na:=a.size-1;let mut nb:=b.size;let e0 ←elem' a na;let mut out:Array Keyed:=#[e0]
 if na==0 then return a.extract 0 na++b.extract 0 nb++out.reverse
 if nb==1 then return b.extract 0 nb++a.extract 0 na++out.reverse
 let mut mg:=gallopOf (←get)
 for _ in[0:a.size+b.size]do
  let mut ac:=0;let mut bc:=0
  for _ in[0:a.size+b.size]do
   let y ←elem' b (nb-1);let x ←elem' a (na-1)
   let some won ←lt' y x|return a.extract 0 na++b.extract 0 nb++out.reverse
   if won then
    na:=na-1;let x ←elem' a na;out:=out.push x;ac:=ac+1;bc:=0
    if na==0 then return a.extract 0 na++b.extract 0 nb++out.reverse
    if ac>=mg then break
   else
    nb:=nb-1;let y ←elem' b nb;out:=out.push y;bc:=bc+1;ac:=0
    if nb==1 then return b.extract 0 nb++a.extract 0 na++out.reverse
    if bc>=mg then break
  liftM (rule "list.sort.gallop");mg:=mg+1
  for _ in[0:a.size+b.size]do
   if mg>1 then mg:=mg-1
   fh mg;let y ←elem' b (nb-1)
   let some k ←cC false y a 0 na (na-1)|return a.extract 0 na++b.extract 0 nb++out.reverse
   ac:=na-k
   if na-k>0 then
    out:=out++(a.extract k na).reverse;na:=k
    if na==0 then return a.extract 0 na++b.extract 0 nb++out.reverse
   nb:=nb-1;let y ←elem' b nb;out:=out.push y
   if nb==1 then return b.extract 0 nb++a.extract 0 na++out.reverse
   let x ←elem' a (na-1)
   let some k ←cC true x b 0 nb (nb-1)|return a.extract 0 na++b.extract 0 nb++out.reverse
   bc:=nb-k
   if nb-k>0 then
    out:=out++(b.extract k nb).reverse;nb:=k
    if nb==1 then return b.extract 0 nb++a.extract 0 na++out.reverse
    if nb==0 then return a.extract 0 na++b.extract 0 nb++out.reverse
   na:=na-1;let x ←elem' a na;out:=out.push x
   if na==0 then return a.extract 0 na++b.extract 0 nb++out.reverse
   if ac<7&&bc<7 then break
  mg:=mg+1;fh mg
 unsupported "internal:list.sort.merge-bound"):=rfl
def gC(ar:Array Keyed)(at0:Nat)(xs:Array Keyed):Array Keyed:=xs.toList.zipIdx.foldl (fun a (p,j)=>a.setIfInBounds (at0+j) p) ar
theorem vD(i:Nat):mergeAt' i=(do
 let st ←get
 let(some (sa,na,pw),some (sb,nb,_)):=((pendingOf st)[i]?,(pendingOf st)[i+1]?)|unsupported "internal:list.sort.pending"
 set (setPending st (((pendingOf st).setIfInBounds i (sa,na+nb,pw)).eraseIdxIfInBounds (i+1)))
 let y ←elem' (arrOf st) sb
 let some k ←cC false y (arrOf st) sa na 0|return false
 if na-k==0 then return true
 let x ←elem' (arrOf st) (sa+k+(na-k)-1)
 let some nc ←cC true x (arrOf st) sb nb (nb-1)|return false
 if nc==0 then return true
 let mer ←if na-k<=nc then zLo ((arrOf st).extract (sa+k) sb) ((arrOf st).extract sb (sb+nc))else zHi ((arrOf st).extract (sa+k) sb) ((arrOf st).extract sb (sb+nc))
 modify fun st=>setArr st (gC (arrOf st) (sa+k) mer)
 return (failedOf (←get)).isNone):=rfl
open PySem PyProof.Rows PySem.W
section
variable{prog:Program}{w:World}{A:Around}{E:Value->Shared->Prop}{s:Shared}{κ:SortKind}{it:Array Keyed}{lt:Nat->Nat->Bool}{N:Nat}{st:SortSt}
def Zc(prog:Program)(w:World)(A:Around)(s:Shared)(κ:SortKind)(it:Array Keyed)(lt:Nat->Nat->Bool)(N:Nat):Prop :=
 ∀i j (C:Bool->Shared->Prop),i<N->j<N->C (lt i j) s->kas_cmp prog w A κ it i j C s
theorem kG(Z:Zc prog w A s κ it lt N){i j:Nat}{Q:Option Bool->SortSt->Prop}(hk:kindOf st=κ)(hi:i<N)(hj:j<N)(h:Q (some (lt i j)) st):wpS (model prog w) A E s (lt' (kas_item it i) (kas_item it j)) Q st:=by rw[lt'_eq];refine zk (wpS_get ?_);rw[hk];refine zk (wpS_lift (wpAny_attempt (Zx (Z i j (fun c s'=>c=lt i j/\s'=s) hi hj ⟨rfl,rfl⟩) (fun c s' hc=>?_) fun _ _ hF=>hF.elim)));obtain⟨rfl,rfl⟩:=hc;exact⟨rfl,zl h⟩
theorem vG{q:Array Nat}{i:Nat}(hi:i<q.size):elem' (q.map (kas_item it)) i=pure (kas_item it (gA q i)):=by
 rw[elem'_eq];have e:(q.map (kas_item it))[i]?=some (kas_item it (gA q i)):=by
  rw[Array.getElem?_map];have e1:gA q i=q[i]:=by unfold gA;simp[Array.getD,hi]
  rw[e1];simp[hi]
 rw[e]
def zB(lt:Nat->Nat->Bool)(le:Bool)(k x:Nat):Bool:=if le=true then lt x k else !lt k x
theorem wH(Z:Zc prog w A s κ it lt N){le:Bool}{k ba i:Nat}{q:Array Nat}{Q:Option Bool->SortSt->Prop}(hk:kindOf st=κ)(hK:k<N)(hi:ba+i<q.size)(hq:gA q (ba+i)<N)(h:Q (some (zB lt le k (gA q (ba+i)))) st) :
  wpS (model prog w) A E s (fg le (kas_item it k) (q.map (kas_item it)) ba i) Q st:=by
 unfold fg;rw[vG hi];refine zk (zl ?_);cases le with
 |true =>simp only[if_true];exact kG Z hk hq hK h
 |false =>simp only[ZO,if_false];exact zk (kG Z hk hK hq (zl h))
theorem vH{le:Bool}{ky:Keyed}{ar:Array Keyed}{ba n at0:Nat}{B:Nat->Bool}{Q:Option Nat->SortSt->Prop}(hb:∀i (Q:Option Bool->SortSt->Prop),i<n->Q (some (B i)) st->wpS (model prog w) A E s (fg le ky ar ba i) Q st)(h0:at0<n)(mono:∀i j,i<=j->j<n->B j=true->B i=true)(h:∀m,m<=n->(∀i,i<m->B i=true)->(∀i,m<=i->i<n->B i=false)->Q (some m) st):wpS (model prog w) A E s (cC le ky ar ba n at0) Q st:=by
 have fin:∀ lo hi,lo<=hi->hi<=n->(∀ i,i<lo->B i=true)->(∀ i,hi<=i->i<n->B i=false)->wpS (model prog w) A E s (do
   let mut lo:=lo;let mut hi:=hi
   for _ in[0:n]do
    if lo>=hi then break
    let some mo ←fg le ky ar ba (lo+(hi-lo) / 2)|return none
    if mo then lo:=lo+(hi-lo) / 2+1 else hi:=lo+(hi-lo) / 2
   return some hi) Q st:=fun lo hi h1 h2 h3 h4=>by
  refine zk (Zi (Zb (I:=fun x c st'=>st'=st/\∃ lo hi,c=(none,lo,hi)/\lo<=hi/\hi<=n/\hi - lo<=n - x/\(∀ i,i<lo->B i=true)/\(∀ i,hi<=i->i<n->B i=false))
   (Q:=fun c st'=>st'=st/\∃ hi,c=(none,hi,hi)/\hi<=n/\(∀ i,i<hi->B i=true)/\(∀ i,hi<=i->i<n->B i=false)) ?step ?fin ⟨rfl,lo,hi,rfl,h1,h2,by omega,h3,h4⟩) ?post)
  case fin =>
   rintro c st' ⟨rfl,lo,hi,rfl,g1,g2,g3,g4,g5⟩;have e:lo=hi:=by omega
   subst e;exact⟨rfl,lo,rfl,g2,g4,g5⟩
  case post =>rintro c st' ⟨rfl,hi,rfl,g2,g4,g5⟩;exact zl (h hi g2 g4 g5)
  case step =>
   rintro x c st' _ hx ⟨rfl,lo,hi,rfl,g1,g2,g3,g4,g5⟩;dsimp only;by_cases hge:lo>=hi
   ·rw[if_pos hge];have e:lo=hi:=by omega
    subst e;exact zl ⟨rfl,lo,rfl,g2,g4,g5⟩
   ·rw[if_neg hge];refine zk (hb _ _ (by omega) ?_);dsimp only;cases e:B (lo+(hi-lo) / 2)with
    |true =>rw[if_pos rfl];exact zl ⟨rfl,_,_,rfl,by omega,g2,by omega,fun i hi'=>mono i (lo+(hi-lo) / 2) (by omega) (by omega) e,g5⟩
    |false =>
     rw[if_neg (by simp)];refine zl ⟨rfl,_,_,rfl,by omega,by omega,by omega,g4,fun i hi1 hi2=>?_⟩;cases e':B i with
     |false=>rfl
     |true=>rw[mono _ i hi1 hi2 e']at e;cases e
 rw[sN];refine zk (hb at0 _ h0 ?_);dsimp only;cases e:B at0 with
 |true =>
  simp only[if_true];refine zk (Zi (Zb (I:=fun x c st'=>st'=st/\∃ las ofs,c=(none,las,ofs)/\las<ofs/\x+1<=ofs/\las<n - at0/\B (at0+las)=true)
   (Q:=fun c st'=>st'=st/\∃ las ofs,c=(none,las,ofs)/\las<ofs/\las<n - at0/\B (at0+las)=true/\(ofs>=n - at0\/B (at0+ofs)=false)) ?step ?fin ⟨rfl,0,1,rfl,by omega,by omega,by omega,e⟩) ?post)
  case fin =>rintro c st' ⟨rfl,las,ofs,rfl,g1,g2,g3,g4⟩;exact⟨rfl,las,ofs,rfl,g1,g3,g4,.inl (by omega)⟩
  case post =>
   rintro c st' ⟨rfl,las,ofs,rfl,g1,g2,g3,g4⟩;refine fin (at0+las+1) (at0+min ofs (n-at0)) (by omega) (by omega) (fun i hi'=>mono i (at0+las) (by omega) (by omega) g3) fun i hi1 hi2=>?_;rcases g4 with g4|g4
   ·omega
   ·cases e':B i with
    |false=>rfl
    |true=>rw[mono _ i (by omega) hi2 e']at g4;cases g4
  case step =>
   rintro x c st' _ hx ⟨rfl,las,ofs,rfl,g1,g2,g3,g4⟩;dsimp only;by_cases hge:ofs>=n-at0
   ·rw[if_pos hge];exact zl ⟨rfl,las,ofs,rfl,g1,g3,g4,.inl hge⟩
   ·rw[if_neg hge];refine zk (hb _ _ (by omega) ?_);dsimp only;cases e:B (at0+ofs)with
    |true =>rw[if_neg (by simp)];exact zl ⟨rfl,ofs,_,rfl,by omega,by omega,by omega,e⟩
    |false =>rw[if_pos (by simp)];exact zl ⟨rfl,las,ofs,rfl,g1,g3,g4,.inr e⟩
 |false =>
  simp only[ZO,if_false];refine zk (Zi (Zb (I:=fun x c st'=>st'=st/\∃ las ofs,c=(none,las,ofs)/\las<ofs/\x+1<=ofs/\las<=at0/\B (at0 - las)=false)
   (Q:=fun c st'=>st'=st/\∃ las ofs,c=(none,las,ofs)/\las<ofs/\las<=at0/\B (at0 - las)=false/\(ofs>=at0+1\/B (at0 - ofs)=true)) ?step ?fin ⟨rfl,0,1,rfl,by omega,by omega,by omega,e⟩) ?post)
  case fin =>rintro c st' ⟨rfl,las,ofs,rfl,g1,g2,g3,g4⟩;exact⟨rfl,las,ofs,rfl,g1,g3,g4,.inl (by omega)⟩
  case post =>
   rintro c st' ⟨rfl,las,ofs,rfl,g1,g2,g3,g4⟩;refine fin (at0+1-min ofs (at0+1)) (at0-las) (by omega) (by omega) (fun i hi'=>?_) fun i hi1 hi2=>?_
   ·rcases g4 with g4|g4
    ·omega
    ·exact mono i (at0-ofs) (by omega) (by omega) g4
   ·cases e':B i with
    |false=>rfl
    |true=>rw[mono _ i hi1 hi2 e']at g3;cases g3
  case step =>
   rintro x c st' _ hx ⟨rfl,las,ofs,rfl,g1,g2,g3,g4⟩;dsimp only;by_cases hge:ofs>=at0+1
   ·rw[if_pos hge];exact zl ⟨rfl,las,ofs,rfl,g1,g3,g4,.inl hge⟩
   ·rw[if_neg hge];refine zk (hb _ _ (by omega) ?_);dsimp only;cases e:B (at0-ofs)with
    |true =>rw[if_pos rfl];exact zl ⟨rfl,las,ofs,rfl,g1,g3,g4,.inr e⟩
    |false =>rw[if_neg (by simp)];exact zl ⟨rfl,ofs,_,rfl,by omega,by omega,by omega,e⟩
theorem fK(Z:Zc prog w A s κ it lt N){le:Bool}{k ba n at0:Nat}{q:Array Nat}{Q:Option Nat->SortSt->Prop}(hk:kindOf st=κ)(hK:k<N)(hz:ba+n<=q.size)(hq:∀i,ba<=i->i<ba+n->gA q i<N)(h0:at0<n)(mono:∀i j,i<=j->j<n->zB lt le k (gA q (ba+j))=true->zB lt le k (gA q (ba+i))=true)(h:∀m,m<=n->(∀i,i<m->zB lt le k (gA q (ba+i))=true)->(∀i,m<=i->i<n->zB lt le k (gA q (ba+i))=false)->Q (some m) st):wpS (model prog w) A E s (cC le (kas_item it k) (q.map (kas_item it)) ba n at0) Q st :=
 vH (B:=fun i=>zB lt le k (gA q (ba+i))) (fun i _ hi hQ=>wH Z hk hK (by omega) (hq _ (by omega) (by omega)) hQ) h0 mono h
end
open PySem PyProof.Rows PySem.W
section
variable{lt:Nat->Nat->Bool}
theorem aB(p:Array Nat)(k:Nat):gA p k=p.toList.getD k 0:=by unfold gA;rw[Ze,zj,ZP]
theorem fD{l:List Nat}{i x:Nat}(h:x∈l.drop i):∃j,i<=j/\j<l.length/\l.getD j 0=x:=by obtain⟨n,hn,e⟩:=List.mem_iff_getElem.mp h;rw[zX]at hn;refine⟨i+n,by omega,by omega,?_⟩;rw[List.getElem_drop]at e;rw[zj,zm (by omega)];exact e
theorem fE{l:List Nat}{i x:Nat}(h:x∈l.take i):∃j,j<i/\j<l.length/\l.getD j 0=x:=by obtain⟨n,hn,e⟩:=List.mem_iff_getElem.mp h;rw[Za]at hn;refine⟨n,by omega,by omega,?_⟩;rw[List.getElem_take]at e;rw[zj,zm (by omega)];exact e
theorem nO{l:List Nat}{i k x:Nat}(h:x∈(l.drop i).take k):∃j,i<=j/\j<i+k/\j<l.length/\l.getD j 0=x:=by obtain⟨j,h1,h2,e⟩:=fE h;rw[zX]at h2;refine⟨i+j,by omega,by omega,by omega,?_⟩;rw[<-e,zj,zj,List.getElem?_drop]
def Mg(lt:Nat->Nat->Bool)(T o A B:List Nat):Prop:=∀r:List Nat,r.Perm (A++B)->r.Pairwise (Lx lt)->(o++r).Pairwise (Lx lt)/\(o++r).Perm T
def Mh(lt:Nat->Nat->Bool)(T o A B:List Nat):Prop:=∀r:List Nat,r.Perm (A++B)->r.Pairwise (Lx lt)->(r++o).Pairwise (Lx lt)/\(r++o).Perm T
theorem Mg.step{T o A B c A' B':List Nat}(h:Mg lt T o A B)(hp:(c++(A'++B')).Perm (A++B))(hc:c.Pairwise (Lx lt))(hx:∀x∈c,∀y∈A'++B',Lx lt x y):Mg lt T (o++c) A' B':=fun r hr hs=>by rw[zH];exact h (c++r) ((hr.append_left c).trans hp) (zK.mpr ⟨hc,hs,fun x hx' y hy=>hx x hx' y (hr.mem_iff.mp hy)⟩)
theorem Mh.step{T o A B c A' B':List Nat}(h:Mh lt T o A B)(hp:((A'++B')++c).Perm (A++B))(hc:c.Pairwise (Lx lt))(hx:∀y∈A'++B',∀x∈c,Lx lt y x):Mh lt T (c++o) A' B':=fun r hr hs=>by rw[<-zH];exact h (r++c) ((hr.append_right c).trans hp) (zK.mpr ⟨hs,hc,fun y hy x hx'=>hx y (hr.mem_iff.mp hy) x hx'⟩)
structure MF(lt:Nat->Nat->Bool)(N:Nat)(a b:Array Nat):Prop where
 sa:∀i j,i<j->j<a.size->Lx lt (gA a i) (gA a j)
 sb:∀i j,i<j->j<b.size->Lx lt (gA b i) (gA b j)
 cr:∀i j,i<a.size->j<b.size->lt (gA b j) (gA a i)=false->Lx lt (gA a i) (gA b j)
 na:∀i,i<a.size->gA a i<N
 nb:∀i,i<b.size->gA b i<N
 a0:0<a.size
 b0:0<b.size
 fst:lt (gA b 0) (gA a 0)=true
 lst:∀j,j<b.size->lt (gA b j) (gA a (a.size-1))=true
theorem cb{p:Array Nat}(h:∀i j,i<j->j<p.size->Lx lt (gA p i) (gA p j)):p.toList.Pairwise (Lx lt):=by rw[ZE];intro i j hi hj hij;have:=h i j hij (by simpa using hj);rw[aB,aB,zj,zj,zm hi,zm hj]at this;exact this
theorem mq{p:Array Nat}(h:p.toList.Pairwise (Lx lt)):∀i j,i<j->j<p.size->Lx lt (gA p i) (gA p j):=fun i j hij hj=>by
 rw[ZE]at h;have hj':j<p.toList.length:=by simpa using hj
 have:=h i j (by omega) hj' hij;rw[aB,aB,zj,zj,zm (show i<p.toList.length by omega),zm hj'];exact this
variable{N:Nat}{a b:Array Nat}{f:Nat->Keyed}
theorem MF.leA(h:MF lt N a b)(O:LtOk lt){i j:Nat}(hij:i<=j)(hj:j<a.size){x:Nat}(hx:lt x (gA a i)=true):lt x (gA a j)=true:=by
 rcases Zo i j with h1|h1
 ·exact O.lt_le hx (h.sa i j h1 hj).1
 ·have e:i=j:=by omega
  rw[<-e];exact hx
theorem MF.leB(h:MF lt N a b)(O:LtOk lt){i j:Nat}(hij:i<=j)(hj:j<b.size){x:Nat}(hx:lt (gA b j) x=true):lt (gA b i) x=true:=by
 rcases Zo i j with h1|h1
 ·exact O.le_lt (h.sb i j h1 hj).1 hx
 ·have e:i=j:=by omega
  rw[e];exact hx
def Gd(lt:Nat->Nat->Bool)(f:Nat->Keyed)(a b:Array Nat)(r:Array Keyed):Prop:=∃q:Array Nat,r=q.map f/\q.toList.Pairwise (Lx lt)/\q.toList.Perm (a.toList++b.toList)
def LoM(lt:Nat->Nat->Bool)(f:Nat->Keyed)(a b:Array Nat)(out:Array Keyed)(ia ib:Nat):Prop:=∃o:Array Nat,out=o.map f/\Mg lt (a.toList++b.toList) o.toList (a.toList.drop ia) (b.toList.drop ib)
def HiM(lt:Nat->Nat->Bool)(f:Nat->Keyed)(a b:Array Nat)(out:Array Keyed)(na nb:Nat):Prop:=∃o:Array Nat,out=o.map f/\Mh lt (a.toList++b.toList) o.toList.reverse (a.toList.take na) (b.toList.take nb)
theorem aY(p:Array Nat)(i j:Nat):(p.map f).extract i j=(p.extract i j).map f:=by apply Array.toList_inj.mp;simp
theorem dQ(p:Array Nat)(i k:Nat):(p.extract i (i+k)).toList=(p.toList.drop i).take k:=by rw[Array.toList_extract,List.extract_eq_take_drop,zZ]
theorem dP(p:Array Nat)(i:Nat):(p.extract i p.size).toList=p.toList.drop i:=by rw[Array.toList_extract,List.extract_eq_take_drop];exact zO (by simp)
theorem dR(p:Array Nat)(i:Nat):(p.extract 0 i).toList=p.toList.take i:=by rw[Array.toList_extract,List.extract_eq_take_drop,List.drop_zero,Nat.sub_zero]
theorem LoM.chunkA(M:MF lt N a b)(O:LtOk lt){out:Array Keyed}{ia ib:Nat}(h:LoM lt f a b out ia ib)(k:Nat)(hk:ia+k<=a.size)(hb:ib<b.size)(hw:∀i,i<k->lt (gA b ib) (gA a (ia+i))=false):LoM lt f a b (out++(a.map f).extract ia (ia+k)) (ia+k) ib:=by
 obtain⟨o,rfl,h⟩:=h;refine⟨o++a.extract ia (ia+k),by rw[aY,Zj],?_⟩;rw[zG,dQ];have e:a.toList.drop ia=(a.toList.drop ia).take k++a.toList.drop (ia+k):=by rw[<-List.drop_drop,zI]
 have pa:(a.toList.drop ia).Pairwise (Lx lt):=(cb M.sa).sublist (Zu _ _);refine h.step ?_ (pa.sublist (Zk _ _)) fun x hx y hy=>?_
 ·rw[<-zH,<-e]
 ·rcases z9.mp hy with hy|hy
  ·rw[e]at pa;exact(zK.mp pa).2.2 x hx y hy
  ·obtain⟨i,h1,h2,h3,rfl⟩:=nO hx;obtain⟨j,g1,g2,rfl⟩:=fD hy;have h3':i<a.size:=by simpa using h3
   have g2':j<b.size:=by simpa using g2
   rw[<-aB,<-aB];have w:=hw (i-ia) (by omega);rw[show ia+(i-ia)=i by omega]at w;refine M.cr i j h3' g2' ?_;cases e':lt (gA b j) (gA a i)with
   |false=>rfl
   |true=>rw[M.leB O g1 g2' e']at w;cases w
theorem LoM.chunkB(M:MF lt N a b)(O:LtOk lt){out:Array Keyed}{ia ib:Nat}(h:LoM lt f a b out ia ib)(k:Nat)(hk:ib+k<=b.size)(hb:ia<a.size)(hw:∀i,i<k->lt (gA b (ib+i)) (gA a ia)=true):LoM lt f a b (out++(b.map f).extract ib (ib+k)) ia (ib+k):=by
 obtain⟨o,rfl,h⟩:=h;refine⟨o++b.extract ib (ib+k),by rw[aY,Zj],?_⟩;rw[zG,dQ];have e:b.toList.drop ib=(b.toList.drop ib).take k++b.toList.drop (ib+k):=by rw[<-List.drop_drop,zI]
 have pb:(b.toList.drop ib).Pairwise (Lx lt):=(cb M.sb).sublist (Zu _ _);refine h.step ?_ (pb.sublist (Zk _ _)) fun x hx y hy=>?_
 ·refine(List.perm_append_comm_assoc _ _ _).trans ?_;rw[<-e]
 ·rcases z9.mp hy with hy|hy
  ·obtain⟨i,h1,h2,h3,rfl⟩:=nO hx;obtain⟨j,g1,g2,rfl⟩:=fD hy;have g2':j<a.size:=by simpa using g2
   rw[<-aB,<-aB];have w:=hw (i-ib) (by omega);rw[show ib+(i-ib)=i by omega]at w;exact Lx.of_lt O (M.leA O g1 g2' w)
  ·rw[e]at pb;exact(zK.mp pb).2.2 x hx y hy
theorem gi{out:Array Keyed}{p:Array Nat}{i:Nat}(hi:i<p.size):out.push (f (gA p i))=out++(p.map f).extract i (i+1):=by
 apply Array.toList_inj.mp;rw[Array.toList_push,zG,aY,Array.toList_map,dQ];have hi':i<p.toList.length:=by simpa using hi
 have e:(p.toList.drop i).take 1=[gA p i]:=by rw[List.drop_eq_getElem_cons hi',aB,zj,zm hi'];rfl
 rw[e];rfl
theorem LoM.pushA(M:MF lt N a b)(O:LtOk lt){out:Array Keyed}{ia ib:Nat}(h:LoM lt f a b out ia ib)(ha:ia<a.size)(hb:ib<b.size)(hw:lt (gA b ib) (gA a ia)=false):LoM lt f a b (out.push (f (gA a ia))) (ia+1) ib:=by rw[gi ha];refine h.chunkA M O 1 (by omega) hb fun i hi=>?_;rw[show ia+i=ia by omega];exact hw
theorem LoM.pushB(M:MF lt N a b)(O:LtOk lt){out:Array Keyed}{ia ib:Nat}(h:LoM lt f a b out ia ib)(ha:ia<a.size)(hb:ib<b.size)(hw:lt (gA b ib) (gA a ia)=true):LoM lt f a b (out.push (f (gA b ib))) ia (ib+1):=by rw[gi hb];refine h.chunkB M O 1 (by omega) ha fun i hi=>?_;rw[show ib+i=ib by omega];exact hw
theorem LoM.done(M:MF lt N a b){out:Array Keyed}{ia ib:Nat}(h:LoM lt f a b out ia ib)(he:ia=a.size\/ib=b.size):Gd lt f a b (out++(a.map f).extract ia a.size++(b.map f).extract ib b.size):=by
 obtain⟨o,rfl,h⟩:=h;have pa:(a.toList.drop ia).Pairwise (Lx lt):=(cb M.sa).sublist (Zu _ _);have pb:(b.toList.drop ib).Pairwise (Lx lt):=(cb M.sb).sublist (Zu _ _);refine⟨o++a.extract ia a.size++b.extract ib b.size,by rw[aY,aY,Zj,Zj],?_⟩;rw[zG,zG,dP,dP,zH];refine h _ (List.Perm.refl _) ?_;rcases he with rfl|rfl
 ·rw[ZL (by simp),List.nil_append];exact pb
 ·rw[ZL (l:=b.toList) (by simp),ZA];exact pa
theorem LoM.last(M:MF lt N a b)(O:LtOk lt){out:Array Keyed}{ia ib:Nat}(h:LoM lt f a b out ia ib)(he:ia+1=a.size):Gd lt f a b (out++(b.map f).extract ib b.size++(a.map f).extract ia a.size):=by
 obtain⟨o,rfl,h⟩:=h;have pa:(a.toList.drop ia).Pairwise (Lx lt):=(cb M.sa).sublist (Zu _ _);have pb:(b.toList.drop ib).Pairwise (Lx lt):=(cb M.sb).sublist (Zu _ _);refine⟨o++b.extract ib b.size++a.extract ia a.size,by rw[aY,aY,Zj,Zj],?_⟩;rw[zG,zG,dP,dP,zH];refine h _ List.perm_append_comm (zK.mpr ⟨pb,pa,fun x hx y hy=>?_⟩);obtain⟨i,h1,h3,rfl⟩:=fD hx;obtain⟨j,g1,g2,rfl⟩:=fD hy;have g2':j<a.size:=by simpa using g2
 rw[<-aB,<-aB];have w:=M.lst i (by simpa using h3);rw[show j=a.size-1 by omega];exact Lx.of_lt O w
theorem LoM.start(M:MF lt N a b)(O:LtOk lt):LoM lt f a b #[f (gA b 0)] 0 1:=by
 have h:LoM lt f a b #[] 0 0:=⟨#[],by simp,fun r hr hs=>⟨hs,hr⟩⟩
 exact h.pushB M O M.a0 M.b0 M.fst
theorem lC{out:Array Keyed}(p:Array Nat)(i j:Nat)(o:Array Nat)(e:out=o.map f):out++((p.map f).extract i j).reverse=(o++(p.extract i j).reverse).map f:=by rw[e,aY,Zj,Array.map_reverse]
theorem iq(p:Array Nat)(i j:Nat):(p.extract i j).toList=(p.toList.take j).drop i:=by rw[Array.toList_extract,List.extract_eq_take_drop,List.drop_take]
theorem nP{l:List Nat}{i j x:Nat}(h:x∈(l.take j).drop i):∃k,i<=k/\k<j/\k<l.length/\l.getD k 0=x:=by obtain⟨k,h1,h2,e⟩:=fD h;rw[Za]at h2;refine⟨k,h1,by omega,by omega,?_⟩;rw[<-e,zj,zj,List.getElem?_take,if_pos (by omega)]
theorem HiM.chunkA(M:MF lt N a b)(O:LtOk lt){out:Array Keyed}{na nb:Nat}(h:HiM lt f a b out na nb)(k:Nat)(hk:k<=na)(ha:na<=a.size)(hb1:0<nb)(hb:nb<=b.size)(hw:∀i,k<=i->i<na->lt (gA b (nb-1)) (gA a i)=true):HiM lt f a b (out++((a.map f).extract k na).reverse) k nb:=by
 obtain⟨o,e0,h⟩:=h;refine⟨o++(a.extract k na).reverse,lC a k na o e0,?_⟩;rw[zG,Array.toList_reverse,List.reverse_append,List.reverse_reverse,iq];have e:a.toList.take na=a.toList.take k++(a.toList.take na).drop k:=by have:=zI k (a.toList.take na);rw[List.take_take,Nat.min_eq_left hk]at this;exact this.symm
 have pa:(a.toList.take na).Pairwise (Lx lt):=(cb M.sa).sublist (Zk _ _);refine h.step ?_ (pa.sublist (Zu _ _)) fun y hy x hx=>?_
 ·rw[zH];refine(List.perm_append_comm.append_left _).trans ?_;rw[<-zH,<-e]
 ·rcases z9.mp hy with hy|hy
  ·rw[e]at pa;exact(zK.mp pa).2.2 y hy x hx
  ·obtain⟨i,h1,h2,h3,rfl⟩:=nP hx;obtain⟨j,g1,g2,rfl⟩:=fE hy;rw[<-aB,<-aB];exact Lx.of_lt O (M.leB O (show j<=nb-1 by omega) (by omega) (hw i h1 h2))
theorem HiM.chunkB(M:MF lt N a b)(O:LtOk lt){out:Array Keyed}{na nb:Nat}(h:HiM lt f a b out na nb)(k:Nat)(hk:k<=nb)(ha:na<=a.size)(ha1:0<na)(hb:nb<=b.size)(hw:∀i,k<=i->i<nb->lt (gA b i) (gA a (na-1))=false):HiM lt f a b (out++((b.map f).extract k nb).reverse) na k:=by
 obtain⟨o,e0,h⟩:=h;refine⟨o++(b.extract k nb).reverse,lC b k nb o e0,?_⟩;rw[zG,Array.toList_reverse,List.reverse_append,List.reverse_reverse,iq];have e:b.toList.take nb=b.toList.take k++(b.toList.take nb).drop k:=by have:=zI k (b.toList.take nb);rw[List.take_take,Nat.min_eq_left hk]at this;exact this.symm
 have pb:(b.toList.take nb).Pairwise (Lx lt):=(cb M.sb).sublist (Zk _ _);refine h.step ?_ (pb.sublist (Zu _ _)) fun y hy x hx=>?_
 ·rw[zH,<-e]
 ·rcases z9.mp hy with hy|hy
  ·obtain⟨i,h1,h2,h3,rfl⟩:=nP hx;obtain⟨j,g1,g2,rfl⟩:=fE hy;have h3':i<b.size:=by simpa using h3
   have g2':j<a.size:=by simpa using g2
   rw[<-aB,<-aB];have w:=hw i h1 h2;refine M.cr j i g2' h3' ?_;cases e':lt (gA b i) (gA a j)with
   |false=>rfl
   |true=>rw[M.leA O (show j<=na-1 by omega) (by omega) e']at w;cases w
  ·rw[e]at pb;exact(zK.mp pb).2.2 y hy x hx
theorem kf{out:Array Keyed}{p:Array Nat}{i:Nat}(hi:i<p.size):out.push (f (gA p i))=out++((p.map f).extract i (i+1)).reverse:=by
 have e:=gi (f:=f) (out:=#[]) hi;have e2:(p.map f).extract i (i+1)=#[f (gA p i)]:=by rw[<-Array.empty_append (xs:=(p.map f).extract i (i+1)),<-e];rfl
 rw[e2];rfl
theorem HiM.pushA(M:MF lt N a b)(O:LtOk lt){out:Array Keyed}{na nb:Nat}(h:HiM lt f a b out na nb)(ha1:0<na)(ha:na<=a.size)(hb1:0<nb)(hb:nb<=b.size)(hw:lt (gA b (nb-1)) (gA a (na-1))=true):HiM lt f a b (out.push (f (gA a (na-1)))) (na-1) nb:=by rw[kf (show na-1<a.size by omega),Nat.sub_add_cancel ha1];refine h.chunkA M O (na-1) (by omega) ha hb1 hb fun i h1 h2=>?_;rw[show i=na-1 by omega];exact hw
theorem HiM.pushB(M:MF lt N a b)(O:LtOk lt){out:Array Keyed}{na nb:Nat}(h:HiM lt f a b out na nb)(ha1:0<na)(ha:na<=a.size)(hb1:0<nb)(hb:nb<=b.size)(hw:lt (gA b (nb-1)) (gA a (na-1))=false):HiM lt f a b (out.push (f (gA b (nb-1)))) na (nb-1):=by rw[kf (show nb-1<b.size by omega),Nat.sub_add_cancel hb1];refine h.chunkB M O (nb-1) (by omega) ha ha1 hb fun i h1 h2=>?_;rw[show i=nb-1 by omega];exact hw
theorem HiM.done(M:MF lt N a b){out:Array Keyed}{na nb:Nat}(h:HiM lt f a b out na nb)(he:na=0\/nb=0):Gd lt f a b ((a.map f).extract 0 na++(b.map f).extract 0 nb++out.reverse):=by
 obtain⟨o,rfl,h⟩:=h;have pa:(a.toList.take na).Pairwise (Lx lt):=(cb M.sa).sublist (Zk _ _);have pb:(b.toList.take nb).Pairwise (Lx lt):=(cb M.sb).sublist (Zk _ _);refine⟨a.extract 0 na++b.extract 0 nb++o.reverse,by rw[aY,aY,Zj,Zj,Array.map_reverse],?_⟩;rw[zG,zG,dR,dR,Array.toList_reverse];refine h _ (List.Perm.refl _) ?_;rcases he with rfl|rfl
 ·exact pb
 ·rw[List.take_zero,ZA];exact pa
theorem HiM.first(M:MF lt N a b)(O:LtOk lt){out:Array Keyed}{na nb:Nat}(h:HiM lt f a b out na nb)(he:nb=1):Gd lt f a b ((b.map f).extract 0 nb++(a.map f).extract 0 na++out.reverse):=by
 obtain⟨o,rfl,h⟩:=h;have pa:(a.toList.take na).Pairwise (Lx lt):=(cb M.sa).sublist (Zk _ _);have pb:(b.toList.take nb).Pairwise (Lx lt):=(cb M.sb).sublist (Zk _ _);refine⟨b.extract 0 nb++a.extract 0 na++o.reverse,by rw[aY,aY,Zj,Zj,Array.map_reverse],?_⟩;rw[zG,zG,dR,dR,Array.toList_reverse];refine h _ List.perm_append_comm (zK.mpr ⟨pb,pa,fun x hx y hy=>?_⟩);obtain⟨i,h1,h3,rfl⟩:=fE hx;obtain⟨j,g1,g2,rfl⟩:=fE hy;have g2':j<a.size:=by simpa using g2
 rw[<-aB,<-aB,show i=0 by omega];exact Lx.of_lt O (M.leA O (zR _) g2' M.fst)
theorem HiM.start(M:MF lt N a b)(O:LtOk lt):HiM lt f a b #[f (gA a (a.size-1))] (a.size-1) b.size:=by
 have h:HiM lt f a b #[] a.size b.size:=⟨#[],by simp,fun r hr hs=>by
  rw[zO (by simp),zO (by simp)]at hr;have e:(#[]:Array Nat).toList.reverse=[]:=rfl;rw[e,ZA];exact⟨hs,hr⟩⟩
 exact h.pushA M O M.a0 (zh _) M.b0 (zh _) (M.lst _ (by have:=M.b0;omega))
end
open PySem PyProof.Rows PySem.W
abbrev LoC:=Option (Array Keyed)×Array Keyed×Nat×Nat×Nat×Nat×Nat
def dW(a b out:Array Keyed)(ia ib:Nat):Array Keyed:=out++a.extract ia a.size++b.extract ib b.size
def gU(a b out:Array Keyed)(ia ib:Nat):Array Keyed:=out++b.extract ib b.size++a.extract ia a.size
def mh(a b out:Array Keyed)(ia ib mg ac bc:Nat):StateT SortSt Sem (ForInStep LoC):=do
 let x ←elem' a ia
 if(ia+1+1==a.size)=true then pure (.done (some (gU a b (out.push x) (ia+1) ib),out.push x,ia+1,ib,mg,ac,bc))
 else if(decide (ac<7)&&decide (bc<7))=true then pure (.done (none,out.push x,ia+1,ib,mg,ac,bc))else pure (.yield (none,out.push x,ia+1,ib,mg,ac,bc))
def mf(a b out:Array Keyed)(ia ib mg ac bc:Nat):StateT SortSt Sem (ForInStep LoC):=do
 let y ←elem' b ib
 if(ib+1==b.size)=true then pure (.done (some (dW a b (out.push y) ia (ib+1)),out.push y,ia,ib+1,mg,ac,bc))
 else do
  let x ←elem' a ia
  let some k ←cC true x b (ib+1) (b.size-(ib+1)) 0|pure (.done (some (dW a b (out.push y) ia (ib+1)),out.push y,ia,ib+1,mg,ac,bc))
  if k>0 then
   if(ib+1+k==b.size)=true then pure (.done (some (dW a b (out.push y++b.extract (ib+1) (ib+1+k)) ia (ib+1+k)),out.push y++b.extract (ib+1) (ib+1+k),ia,ib+1+k,mg,ac,k))
   else mh a b (out.push y++b.extract (ib+1) (ib+1+k)) ia (ib+1+k) mg ac k
  else mh a b (out.push y) ia (ib+1) mg ac k
def tQ(a b out:Array Keyed)(ia ib mg ac bc:Nat):StateT SortSt Sem (ForInStep LoC):=do
 fh mg
 let y ←elem' b ib
 let some k ←cC false y a ia (a.size-ia) 0|pure (.done (some (dW a b out ia ib),out,ia,ib,mg,ac,bc))
 if k>0 then
  if(ia+k+1==a.size)=true then pure (.done (some (gU a b (out++a.extract ia (ia+k)) (ia+k) ib),out++a.extract ia (ia+k),ia+k,ib,mg,k,bc))
  else if(ia+k==a.size)=true then pure (.done (some (dW a b (out++a.extract ia (ia+k)) (ia+k) ib),out++a.extract ia (ia+k),ia+k,ib,mg,k,bc))
  else mf a b (out++a.extract ia (ia+k)) (ia+k) ib mg k bc
 else mf a b out ia ib mg k bc
section
variable{prog:Program}{w:World}{A:Around}{E:Value->Shared->Prop}{s:Shared}{κ:SortKind}{it:Array Keyed}{lt:Nat->Nat->Bool}{N:Nat}{st:SortSt}{a b:Array Nat}
def gz(st:SortSt)(g:Nat):SortSt:=SortSt.mk' (kindOf st) (arrOf st) (pendingOf st) g (failedOf st)
def SG'(st st':SortSt):Prop:=∃g,st'=gz st g
theorem SG'.refl:SG' st st:=⟨gallopOf st,rfl⟩
theorem SG'.set{st':SortSt}(h:SG' st st')(g:Nat):SG' st (gz st' g):=by obtain⟨g',rfl⟩:=h;exact⟨g,rfl⟩
theorem SG'.kind{st':SortSt}(h:SG' st st')(hk:kindOf st=κ):kindOf st'=κ:=by obtain⟨g',rfl⟩:=h;exact hk
theorem jy{g:Nat}{Q:Unit->SortSt->Prop}(h:Q () (gz st g)):wpS (model prog w) A E s (fh g) Q st:=by have e:fh g=modify fun st=>gz st g:=rfl;rw[e];exact wpS_modify h
theorem aK{q:Array Nat}{i:Nat}{Q:Keyed->SortSt->Prop}(hi:i<q.size)(h:Q (kas_item it (gA q i)) st):wpS (model prog w) A E s (elem' (q.map (kas_item it)) i) Q st:=by rw[vG hi];exact zl h
theorem au{α:Type}{c:Prop}[Decidable c]{x y:StateT SortSt Sem α}{Q:α->SortSt->Prop}(h1:c->wpS (model prog w) A E s x Q st)(h2:¬c->wpS (model prog w) A E s y Q st):wpS (model prog w) A E s (if c then x else y) Q st:=by
 split
 ·exact h1 ‹_›
 ·exact h2 ‹_›
def LoI(lt:Nat->Nat->Bool)(f:Nat->Keyed)(a b:Array Nat)(n:Nat)(c:LoC):Prop:=∃out ia ib mg ac bc,c=(none,out,ia,ib,mg,ac,bc)/\LoM lt f a b out ia ib/\ia+1<a.size/\ib<b.size/\n<=ia+ib
def LoQ(lt:Nat->Nat->Bool)(f:Nat->Keyed)(a b:Array Nat)(st:SortSt)(n:Nat)(r:ForInStep LoC)(st':SortSt):Prop:=SG' st st'/\match r with
 |.done c=>(∃r d,c=(some r,d)/\Gd lt f a b r)\/LoI lt f a b n c
 |.yield c=>LoI lt f a b n c
theorem pf(O:LtOk lt)(M:MF lt N a b){out:Array Keyed}{ia ib mg ac bc n:Nat}{st0:SortSt}(g:SG' st0 st)(l:LoM lt (kas_item it) a b out ia ib)(h1:ia+1<a.size)(h2:ib<b.size)(hn:n<=ia+ib)(hw:lt (gA b ib) (gA a ia)=false) :
  wpS (model prog w) A E s (mh (a.map (kas_item it)) (b.map (kas_item it)) out ia ib mg ac bc) (LoQ lt (kas_item it) a b st0 n) st:=by
 unfold mh gU;rw[Zy,Zy];refine zk (aK (by omega) ?_);have l3:=l.pushA M O (by omega) h2 hw;refine au (fun e=>?_) fun e=>au (fun _=>?_) fun _=>?_
 ·exact zl ⟨g,.inl ⟨_,_,rfl,l3.last M O (by simpa using e)⟩⟩
 ·have e':ia+1+1≠a.size:=by simpa using e
  exact zl ⟨g,.inr ⟨_,_,_,_,_,_,rfl,l3,by omega,h2,by omega⟩⟩
 ·have e':ia+1+1≠a.size:=by simpa using e
  exact zl ⟨g,⟨_,_,_,_,_,_,rfl,l3,by omega,h2,by omega⟩⟩
theorem pe(Z:Zc prog w A s κ it lt N)(O:LtOk lt)(M:MF lt N a b){out:Array Keyed}{ia ib mg ac bc n:Nat}{st0:SortSt}(hk:kindOf st0=κ)(g:SG' st0 st)(l:LoM lt (kas_item it) a b out ia ib)(h1:ia+1<a.size)(h2:ib<b.size)(hn:n<=ia+ib)(hw:lt (gA b ib) (gA a ia)=true) :
  wpS (model prog w) A E s (mf (a.map (kas_item it)) (b.map (kas_item it)) out ia ib mg ac bc) (LoQ lt (kas_item it) a b st0 n) st:=by
 unfold mf dW;rw[Zy,Zy];refine zk (aK h2 ?_);have l3:=l.pushB M O (by omega) h2 hw;refine au (fun e=>?_) fun e=>?_
 ·exact zl ⟨g,.inl ⟨_,_,rfl,l3.done M (.inr (by simpa using e))⟩⟩
 have e':ib+1≠b.size:=by simpa using e
 refine zk (aK (by omega) (zk (fK Z (g.kind hk) (M.na _ (by omega)) (by omega) (fun i _ _=>M.nb i (by omega)) (by omega) (fun i j h3 h4 h5=>?_) fun k hk1 hk2 hk3=>?_)))
 ·exact M.leB O (by omega) (by omega) h5
 refine au (fun hp=>au (fun e=>?_) fun e=>?_) fun hp=>?_
 ·have l4:=l3.chunkB M O k (by omega) (by omega) hk2;exact zl ⟨g,.inl ⟨_,_,rfl,l4.done M (.inr (by simpa using e))⟩⟩
 ·have l4:=l3.chunkB M O k (by omega) (by omega) hk2;have e2:ib+1+k≠b.size:=by simpa using e
  exact pf O M g l4 h1 (by omega) (by omega) (hk3 k (zh _) (by omega))
 ·have e3:k=0:=by omega
  subst e3;exact pf O M g l3 h1 (by omega) (by omega) (hk3 0 (zh _) (by omega))
theorem pd(Z:Zc prog w A s κ it lt N)(O:LtOk lt)(M:MF lt N a b){out:Array Keyed}{ia ib mg ac bc n:Nat}{st0:SortSt}(hk:kindOf st0=κ)(g:SG' st0 st)(l:LoM lt (kas_item it) a b out ia ib)(h1:ia+1<a.size)(h2:ib<b.size)(hn:n<=ia+ib) :
  wpS (model prog w) A E s (tQ (a.map (kas_item it)) (b.map (kas_item it)) out ia ib mg ac bc) (LoQ lt (kas_item it) a b st0 n) st:=by
 unfold tQ dW gU;rw[Zy,Zy];have tf:∀{x y:Nat},zB lt false x y=true->lt x y=false:=fun{x y} z=>by have z':(!lt x y)=true:=z;simpa using z'
 have ft:∀{x y:Nat},zB lt false x y=false->lt x y=true:=fun{x y} z=>by have z':(!lt x y)=false:=z;simpa using z'
 refine zk (jy (zk (aK h2 (zk (fK Z ((g.set _).kind hk) (M.nb _ h2) (by omega) (fun i _ _=>M.na i (by omega)) (by omega) (fun i j h3 h4 h5=>?_) fun k hk1 hk2 hk3=>?_)))))
 ·have z:=tf h5;show(!lt (gA b ib) (gA a (ia+i)))=true;cases e:lt (gA b ib) (gA a (ia+i))with
  |false=>rfl
  |true=>rw[M.leA O (show ia+i<=ia+j by omega) (by omega) e]at z;cases z
 refine au (fun hp=>au (fun e=>?_) fun e=>au (fun e2=>?_) fun e2=>?_) fun hp=>?_
 ·have l4:=l.chunkA M O k (by omega) h2 fun i hi=>tf (hk2 i hi);exact zl ⟨g.set _,.inl ⟨_,_,rfl,l4.last M O (by simpa using e)⟩⟩
 ·have l4:=l.chunkA M O k (by omega) h2 fun i hi=>tf (hk2 i hi);exact zl ⟨g.set _,.inl ⟨_,_,rfl,l4.done M (.inl (by simpa using e2))⟩⟩
 ·have l4:=l.chunkA M O k (by omega) h2 fun i hi=>tf (hk2 i hi);have e':ia+k+1≠a.size:=by simpa using e
  have e2':ia+k≠a.size:=by simpa using e2
  exact pe Z O M hk (g.set _) l4 (by omega) h2 (by omega) (ft (hk3 k (zh _) (by omega)))
 ·have e3:k=0:=by omega
  subst e3;exact pe Z O M hk (g.set _) l (by omega) h2 (by omega) (ft (hk3 0 (zh _) (by omega)))
theorem xf(Z:Zc prog w A s κ it lt N)(O:LtOk lt)(M:MF lt N a b){Q:Array Keyed->SortSt->Prop}(hk:kindOf st=κ)(h:∀r st',Gd lt (kas_item it) a b r->SG' st st'->Q r st'):wpS (model prog w) A E s (zLo (a.map (kas_item it)) (b.map (kas_item it))) Q st:=by
 have a0:=M.a0;have b0:=M.b0;have za:(a.map (kas_item it)).size=a.size:=Zy ..;have zb:(b.map (kas_item it)).size=b.size:=Zy ..;rw[vF];refine zk (wpS_lift (wpAny_rule ⟨rfl,?_⟩));refine zk (aK b0 ?_);have l0:=LoM.start (f:=kas_item it) M O;have dn:∀{out ia ib},LoM lt (kas_item it) a b out ia ib->ia=a.size\/ib=b.size->Gd lt (kas_item it) a b (out++(a.map (kas_item it)).extract ia (a.map (kas_item it)).size++(b.map (kas_item it)).extract ib (b.map (kas_item it)).size):=fun h e=>by rw[za,zb];exact h.done M e
 have ls:∀{out ia ib},LoM lt (kas_item it) a b out ia ib->ia+1=a.size->Gd lt (kas_item it) a b (out++(b.map (kas_item it)).extract ib (b.map (kas_item it)).size++(a.map (kas_item it)).extract ia (a.map (kas_item it)).size):=fun h e=>by rw[za,zb];exact h.last M O e
 have hit:∀{α:Type} {c:Prop} [Decidable c] {x y:StateT SortSt Sem α} {Q:α->SortSt->Prop} {st:SortSt},(c->wpS (model prog w) A E s x Q st)->(¬c->wpS (model prog w) A E s y Q st)->wpS (model prog w) A E s (if c then x else y) Q st:=fun h1 h2=>by
  split
  ·exact h1 ‹_›
  ·exact h2 ‹_›
 refine hit (fun e1=>?_) fun e1=>hit (fun e2=>?_) fun e2=>?_
 ·exact zl (h _ _ (dn l0 (.inr (by rw[<-zb];simpa using e1))) .refl)
 ·exact zl (h _ _ (ls l0 (by rw[<-za];simpa using e2)) .refl)
 have e1':1≠b.size:=by rw[<-zb];simpa using e1
 have e2':1≠a.size:=by rw[<-za];simpa using e2
 refine zk (wpS_get ?_);have J:∀{γ:Type} {m:StateT SortSt Sem γ} {Q R:γ->SortSt->Prop} {st:SortSt},wpS (model prog w) A E s m R st->(∀c st,R c st->Q c st)->wpS (model prog w) A E s m Q st:=fun h k=>Zi h k;refine zk (Zi (Zb (I:=fun x c st'=>SG' st st'/\∃ out ia ib mg,c=(none,out,ia,ib,mg)/\LoM lt (kas_item it) a b out ia ib/\ia+1<a.size/\ib<b.size/\x+1<=ia+ib)
  (Q:=fun c st'=>SG' st st'/\∃ r d,c=(some r,d)/\Gd lt (kas_item it) a b r) ?step ?fin ⟨.refl,_,0,1,_,rfl,l0,by omega,by omega,by omega⟩) ?post)
 case fin =>rintro c st' ⟨_,out,ia,ib,mg,rfl,_,h1,h2,h3⟩;rw[za,zb]at h3;omega
 case post =>rintro c st' ⟨g,r,d,rfl,hr⟩;exact zl (h r st' hr g)
 case step =>
  rintro x c st1 _ hx ⟨g,out,ia,ib,mg,rfl,l1,h1,h2,h3⟩;refine zk (Zi (Zb (I:=fun y c st'=>st'=st1/\∃ out ia' ib' ac bc,c=(none,out,ia',ib',ac,bc)/\LoM lt (kas_item it) a b out ia' ib'/\ia'+1<a.size/\ib'<b.size/\ia+ib+y<=ia'+ib')
   (Q:=fun c st'=>st'=st1/\((∃ r d,c=(some r,d)/\Gd lt (kas_item it) a b r)\/∃ out ia' ib' ac bc,c=(none,out,ia',ib',ac,bc)/\LoM lt (kas_item it) a b out ia' ib'/\ia'+1<a.size/\ib'<b.size/\ia+ib+1<=ia'+ib')) ?step1 ?fin1 ⟨rfl,_,ia,ib,_,_,rfl,l1,h1,h2,by omega⟩) ?post1)
  case fin1 =>rintro c st' ⟨rfl,out,ia',ib',ac,bc,rfl,l2,g1,g2,g3⟩;exact⟨rfl,.inr ⟨out,ia',ib',ac,bc,rfl,l2,g1,g2,by rw[za,zb]at g3;omega⟩⟩
  case step1 =>
   rintro y c st' _ hy ⟨rfl,out,ia',ib',ac,bc,rfl,l2,g1,g2,g3⟩;dsimp only;refine zk (aK g2 (zk (aK (show ia'<a.size by omega) (zk (kG Z (g.kind hk) (M.nb _ g2) (M.na _ (by omega)) ?_)))));cases ew:lt (gA b ib') (gA a ia')with
   |true =>
    refine hit (fun _=>?_) (fun z=>absurd rfl z);refine zk (aK g2 ?_);have l3:=l2.pushB M O (by omega) g2 ew;refine hit (fun e=>?_) fun e=>hit (fun _=>?_) fun _=>?_
    ·exact zl ⟨rfl,.inl ⟨_,_,rfl,dn l3 (.inr (by rw[<-zb];simpa using e))⟩⟩
    ·exact zl ⟨rfl,.inr ⟨_,_,_,_,_,rfl,l3,g1,by have:ib'+1≠b.size:=(by rw[<-zb];simpa using e);omega,by omega⟩⟩
    ·exact zl ⟨rfl,_,_,_,_,_,rfl,l3,g1,by have:ib'+1≠b.size:=(by rw[<-zb];simpa using e);omega,by omega⟩
   |false =>
    refine hit (fun z=>absurd z (by simp)) fun _=>?_;refine zk (aK (show ia'<a.size by omega) ?_);have l3:=l2.pushA M O (by omega) g2 ew;refine hit (fun e=>?_) fun e=>hit (fun _=>?_) fun _=>?_
    ·exact zl ⟨rfl,.inl ⟨_,_,rfl,ls l3 (by rw[<-za];simpa using e)⟩⟩
    ·exact zl ⟨rfl,.inr ⟨_,_,_,_,_,rfl,l3,by have:ia'+1+1≠a.size:=(by rw[<-za];simpa using e);omega,g2,by omega⟩⟩
    ·exact zl ⟨rfl,_,_,_,_,_,rfl,l3,by have:ia'+1+1≠a.size:=(by rw[<-za];simpa using e);omega,g2,by omega⟩
  case post1 =>
   rintro c st' ⟨rfl,⟨r,d,rfl,hr⟩|⟨out,ia',ib',ac,bc,rfl,l2,g1,g2,g3⟩⟩
   ·exact zl ⟨g,r,_,rfl,hr⟩
   refine zk (wpS_lift (wpAny_rule ⟨rfl,?_⟩));refine zk (Zi (Zb (I:=fun y c st'=>SG' st st'/\∃ out ia1 ib1 mg ac bc,c=(none,out,ia1,ib1,mg,ac,bc)/\LoM lt (kas_item it) a b out ia1 ib1/\ia1+1<a.size/\ib1<b.size/\ia'+ib'<=ia1+ib1)
    (Q:=fun c st'=>SG' st st'/\((∃ r d,c=(some r,d)/\Gd lt (kas_item it) a b r)\/∃ out ia1 ib1 mg ac bc,c=(none,out,ia1,ib1,mg,ac,bc)/\LoM lt (kas_item it) a b out ia1 ib1/\ia1+1<a.size/\ib1<b.size/\ia'+ib'<=ia1+ib1)) ?step2 ?fin2 ⟨g,_,_,_,_,_,_,rfl,l2,g1,g2,zh _⟩) ?post2)
   case fin2 =>rintro c st2 ⟨gg,hh⟩;exact⟨gg,.inr hh⟩
   case post2 =>
    rintro c st2 ⟨gg,⟨r,d,rfl,hr⟩|⟨out,ia1,ib1,mg,ac,bc,rfl,l3,k1,k2,k3⟩⟩
    ·exact zl ⟨gg,r,_,rfl,hr⟩
    ·exact zk (jy (zl ⟨gg.set _,out,ia1,ib1,_,rfl,l3,k1,k2,by omega⟩))
   case step2 =>
    rintro y c st2 _ hy ⟨gg,out,ia1,ib1,mg,ac,bc,rfl,l3,k1,k2,k3⟩;dsimp only;refine au (fun _=>?_) fun _=>?_
    ·exact Zi (pd (n:=ia'+ib') (mg:=mg-1) (ac:=ac) (bc:=bc) Z O M hk gg l3 k1 k2 k3) fun r st3 hr=>by
      cases r with
      |done c=>exact hr
      |yield c=>exact hr
    ·exact Zi (pd (n:=ia'+ib') (mg:=mg) (ac:=ac) (bc:=bc) Z O M hk gg l3 k1 k2 k3) fun r st3 hr=>by
      cases r with
      |done c=>exact hr
      |yield c=>exact hr
end
open PySem PyProof.Rows PySem.W
def de(a b out:Array Keyed)(na nb:Nat):Array Keyed:=a.extract 0 na++b.extract 0 nb++out.reverse
def lY(a b out:Array Keyed)(na nb:Nat):Array Keyed:=b.extract 0 nb++a.extract 0 na++out.reverse
abbrev HiC:=Option (Array Keyed)×Nat×Nat×Array Keyed×Nat×Nat×Nat
def ma(a b:Array Keyed)(na nb:Nat)(out:Array Keyed)(mg ac bc:Nat):StateT SortSt Sem (ForInStep HiC):=do
 let x ←elem' a (na-1)
 if(na-1==0)=true then pure (.done (some (de a b (out.push x) (na-1) nb),na-1,nb,out.push x,mg,ac,bc))
 else if(decide (ac<7)&&decide (bc<7))=true then pure (.done (none,na-1,nb,out.push x,mg,ac,bc))else pure (.yield (none,na-1,nb,out.push x,mg,ac,bc))
def lZ(a b:Array Keyed)(na nb:Nat)(out:Array Keyed)(mg ac bc:Nat):StateT SortSt Sem (ForInStep HiC):=do
 let y ←elem' b (nb-1)
 if(nb-1==1)=true then pure (.done (some (lY a b (out.push y) na (nb-1)),na,nb-1,out.push y,mg,ac,bc))
 else do
  let x ←elem' a (na-1)
  let some k ←cC true x b 0 (nb-1) (nb-1-1)|pure (.done (some (de a b (out.push y) na (nb-1)),na,nb-1,out.push y,mg,ac,bc))
  if nb-1-k>0 then
   if(k==1)=true then pure (.done (some (lY a b (out.push y++(b.extract k (nb-1)).reverse) na k),na,k,out.push y++(b.extract k (nb-1)).reverse,mg,ac,nb-1-k))
   else if(k==0)=true then pure (.done (some (de a b (out.push y++(b.extract k (nb-1)).reverse) na k),na,k,out.push y++(b.extract k (nb-1)).reverse,mg,ac,nb-1-k))
   else ma a b na k (out.push y++(b.extract k (nb-1)).reverse) mg ac (nb-1-k)
  else ma a b na (nb-1) (out.push y) mg ac (nb-1-k)
def tz(a b:Array Keyed)(na nb:Nat)(out:Array Keyed)(mg ac bc:Nat):StateT SortSt Sem (ForInStep HiC):=do
 fh mg
 let y ←elem' b (nb-1)
 let some k ←cC false y a 0 na (na-1)|pure (.done (some (de a b out na nb),na,nb,out,mg,ac,bc))
 if na-k>0 then
  if(k==0)=true then pure (.done (some (de a b (out++(a.extract k na).reverse) k nb),k,nb,out++(a.extract k na).reverse,mg,na-k,bc))
  else lZ a b k nb (out++(a.extract k na).reverse) mg (na-k) bc
 else lZ a b na nb out mg (na-k) bc
section
variable{prog:Program}{w:World}{A:Around}{E:Value->Shared->Prop}{s:Shared}{κ:SortKind}{it:Array Keyed}{lt:Nat->Nat->Bool}{N:Nat}{st:SortSt}{a b:Array Nat}
def HiI(lt:Nat->Nat->Bool)(f:Nat->Keyed)(a b:Array Nat)(n:Nat)(c:HiC):Prop:=∃na nb out mg ac bc,c=(none,na,nb,out,mg,ac,bc)/\HiM lt f a b out na nb/\1<=na/\na<=a.size/\2<=nb/\nb<=b.size/\na+nb<=n
def HiQ(lt:Nat->Nat->Bool)(f:Nat->Keyed)(a b:Array Nat)(st:SortSt)(n:Nat)(r:ForInStep HiC)(st':SortSt):Prop:=SG' st st'/\match r with
 |.done c=>(∃r d,c=(some r,d)/\Gd lt f a b r)\/HiI lt f a b n c
 |.yield c=>HiI lt f a b n c
theorem oZ(O:LtOk lt)(M:MF lt N a b){out:Array Keyed}{na nb mg ac bc n:Nat}{st0:SortSt}(g:SG' st0 st)(l:HiM lt (kas_item it) a b out na nb)(h1:1<=na)(h1':na<=a.size)(h2:2<=nb)(h2':nb<=b.size)(hn:na+nb<=n)(hw:lt (gA b (nb-1)) (gA a (na-1))=true) :
  wpS (model prog w) A E s (ma (a.map (kas_item it)) (b.map (kas_item it)) na nb out mg ac bc) (HiQ lt (kas_item it) a b st0 n) st:=by
 unfold ma de;refine zk (aK (by omega) ?_);have l3:=l.pushA M O (by omega) h1' (by omega) h2' hw;refine au (fun e=>?_) fun e=>au (fun _=>?_) fun _=>?_
 ·exact zl ⟨g,.inl ⟨_,_,rfl,l3.done M (.inl (by simpa using e))⟩⟩
 ·have e':na-1≠0:=by simpa using e
  exact zl ⟨g,.inr ⟨_,_,_,_,_,_,rfl,l3,by omega,by omega,h2,h2',by omega⟩⟩
 ·have e':na-1≠0:=by simpa using e
  exact zl ⟨g,⟨_,_,_,_,_,_,rfl,l3,by omega,by omega,h2,h2',by omega⟩⟩
theorem oY(Z:Zc prog w A s κ it lt N)(O:LtOk lt)(M:MF lt N a b){out:Array Keyed}{na nb mg ac bc n:Nat}{st0:SortSt}(hk:kindOf st0=κ)(g:SG' st0 st)(l:HiM lt (kas_item it) a b out na nb)(h1:1<=na)(h1':na<=a.size)(h2:2<=nb)(h2':nb<=b.size)(hn:na+nb<=n)(hw:lt (gA b (nb-1)) (gA a (na-1))=false) :
  wpS (model prog w) A E s (lZ (a.map (kas_item it)) (b.map (kas_item it)) na nb out mg ac bc) (HiQ lt (kas_item it) a b st0 n) st:=by
 unfold lZ de lY;refine zk (aK (by omega) ?_);have l3:=l.pushB M O (by omega) h1' (by omega) h2' hw;refine au (fun e=>?_) fun e=>?_
 ·exact zl ⟨g,.inl ⟨_,_,rfl,l3.first M O (by simpa using e)⟩⟩
 have e':nb-1≠1:=by simpa using e
 have z0:∀i,0+i=i:=fun i=>by omega
 refine zk (aK (by omega) (zk (fK Z (g.kind hk) (M.na _ (by omega)) (by omega) (fun i _ _=>M.nb i (by omega)) (by omega) (fun i j h3 h4 h5=>?_) fun k hk1 hk2 hk3=>?_)))
 ·rw[z0]at h5 ⊢;exact M.leB O (by omega) (by omega) h5
 have hk3':∀i,k<=i->i<nb-1->lt (gA b i) (gA a (na-1))=false:=fun i x y=>by have:=hk3 i x y;rw[z0]at this;exact this
 have hk2':∀i,i<k->lt (gA b i) (gA a (na-1))=true:=fun i x=>by have:=hk2 i x;rw[z0]at this;exact this
 refine au (fun hp=>au (fun e=>?_) fun e=>au (fun e2=>?_) fun e2=>?_) fun hp=>?_
 ·have l4:=l3.chunkB M O k (by omega) h1' (by omega) (by omega) hk3';exact zl ⟨g,.inl ⟨_,_,rfl,l4.first M O (by simpa using e)⟩⟩
 ·have l4:=l3.chunkB M O k (by omega) h1' (by omega) (by omega) hk3';exact zl ⟨g,.inl ⟨_,_,rfl,l4.done M (.inr (by simpa using e2))⟩⟩
 ·have l4:=l3.chunkB M O k (by omega) h1' (by omega) (by omega) hk3';have q1:k≠1:=by simpa using e
  have q2:k≠0:=by simpa using e2
  exact oZ O M g l4 h1 h1' (by omega) (by omega) (by omega) (hk2' (k-1) (by omega))
 ·have e3:k=nb-1:=by omega
  exact oZ O M g l3 h1 h1' (by omega) (by omega) (by omega) (hk2' (nb-1-1) (by omega))
theorem oX(Z:Zc prog w A s κ it lt N)(O:LtOk lt)(M:MF lt N a b){out:Array Keyed}{na nb mg ac bc n:Nat}{st0:SortSt}(hk:kindOf st0=κ)(g:SG' st0 st)(l:HiM lt (kas_item it) a b out na nb)(h1:1<=na)(h1':na<=a.size)(h2:2<=nb)(h2':nb<=b.size)(hn:na+nb<=n) :
  wpS (model prog w) A E s (tz (a.map (kas_item it)) (b.map (kas_item it)) na nb out mg ac bc) (HiQ lt (kas_item it) a b st0 n) st:=by
 unfold tz de;have z0:∀i,0+i=i:=fun i=>by omega
 have tf:∀{x y:Nat},zB lt false x y=true->lt x y=false:=fun{x y} z=>by have z':(!lt x y)=true:=z;simpa using z'
 have ft:∀{x y:Nat},zB lt false x y=false->lt x y=true:=fun{x y} z=>by have z':(!lt x y)=false:=z;simpa using z'
 refine zk (jy (zk (aK (by omega) (zk (fK Z ((g.set _).kind hk) (M.nb _ (by omega)) (by omega) (fun i _ _=>M.na i (by omega)) (by omega) (fun i j h3 h4 h5=>?_) fun k hk1 hk2 hk3=>?_)))))
 ·rw[z0]at h5 ⊢;have z:=tf h5;show(!lt (gA b (nb-1)) (gA a i))=true;cases e:lt (gA b (nb-1)) (gA a i)with
  |false=>rfl
  |true=>rw[M.leA O h3 (by omega) e]at z;cases z
 have hk3':∀i,k<=i->i<na->lt (gA b (nb-1)) (gA a i)=true:=fun i x y=>by have:=ft (hk3 i x y);rw[z0]at this;exact this
 have hk2':∀i,i<k->lt (gA b (nb-1)) (gA a i)=false:=fun i x=>by have:=tf (hk2 i x);rw[z0]at this;exact this
 refine au (fun hp=>au (fun e=>?_) fun e=>?_) fun hp=>?_
 ·have l4:=l.chunkA M O k (by omega) h1' (by omega) h2' hk3';exact zl ⟨g.set _,.inl ⟨_,_,rfl,l4.done M (.inl (by simpa using e))⟩⟩
 ·have l4:=l.chunkA M O k (by omega) h1' (by omega) h2' hk3';have q1:k≠0:=by simpa using e
  exact oY Z O M hk (g.set _) l4 (by omega) (by omega) h2 h2' (by omega) (hk2' (k-1) (by omega))
 ·have e3:k=na:=by omega
  exact oY Z O M hk (g.set _) l h1 h1' h2 h2' hn (hk2' (na-1) (by omega))
theorem xc(Z:Zc prog w A s κ it lt N)(O:LtOk lt)(M:MF lt N a b){Q:Array Keyed->SortSt->Prop}(hk:kindOf st=κ)(h:∀r st',Gd lt (kas_item it) a b r->SG' st st'->Q r st'):wpS (model prog w) A E s (zHi (a.map (kas_item it)) (b.map (kas_item it))) Q st:=by
 have a0:=M.a0;have b0:=M.b0;have za:(a.map (kas_item it)).size=a.size:=Zy ..;have zb:(b.map (kas_item it)).size=b.size:=Zy ..;rw[vE];refine zk (wpS_lift (wpAny_rule ⟨rfl,?_⟩));rw[za,zb];refine zk (aK (by omega) ?_);have l0:=HiM.start (f:=kas_item it) M O;refine au (fun e1=>?_) fun e1=>au (fun e2=>?_) fun e2=>?_
 ·exact zl (h _ _ (l0.done M (.inl (by simpa using e1))) .refl)
 ·exact zl (h _ _ (l0.first M O (by simpa using e2)) .refl)
 have e1':a.size-1≠0:=by simpa using e1
 have e2':b.size≠1:=by simpa using e2
 refine zk (wpS_get ?_);refine zk (Zi (Zb (I:=fun x c st'=>SG' st st'/\∃ na nb out mg,c=(none,na,nb,out,mg)/\HiM lt (kas_item it) a b out na nb/\1<=na/\na<=a.size/\2<=nb/\nb<=b.size/\na+nb+x<=a.size+b.size)
  (Q:=fun c st'=>SG' st st'/\∃ r d,c=(some r,d)/\Gd lt (kas_item it) a b r) ?step ?fin ⟨.refl,_,_,_,_,rfl,l0,by omega,by omega,by omega,by omega,by omega⟩) ?post)
 case fin =>rintro c st' ⟨_,na,nb,out,mg,rfl,_,h1,h1',h2,h2',h3⟩;omega
 case post =>rintro c st' ⟨g,r,d,rfl,hr⟩;exact zl (h r st' hr g)
 case step =>
  rintro x c st1 _ hx ⟨g,na,nb,out,mg,rfl,l1,h1,h1',h2,h2',h3⟩;refine zk (Zi (Zb (I:=fun y c st'=>st'=st1/\∃ na' nb' out ac bc,c=(none,na',nb',out,ac,bc)/\HiM lt (kas_item it) a b out na' nb'/\1<=na'/\na'<=a.size/\2<=nb'/\nb'<=b.size/\na'+nb'+y<=na+nb)
   (Q:=fun c st'=>st'=st1/\((∃ r d,c=(some r,d)/\Gd lt (kas_item it) a b r)\/∃ na' nb' out ac bc,c=(none,na',nb',out,ac,bc)/\HiM lt (kas_item it) a b out na' nb'/\1<=na'/\na'<=a.size/\2<=nb'/\nb'<=b.size/\na'+nb'+1<=na+nb)) ?step1 ?fin1 ⟨rfl,na,nb,out,0,0,rfl,l1,h1,h1',h2,h2',by omega⟩) ?post1)
  case fin1 =>rintro c st' ⟨rfl,na',nb',out,ac,bc,rfl,l2,g1,g1',g2,g2',g3⟩;exact⟨rfl,.inr ⟨na',nb',out,ac,bc,rfl,l2,g1,g1',g2,g2',by omega⟩⟩
  case step1 =>
   rintro y c st' _ hy ⟨rfl,na',nb',out,ac,bc,rfl,l2,g1,g1',g2,g2',g3⟩;dsimp only;refine zk (aK (by omega) (zk (aK (by omega) (zk (kG Z (g.kind hk) (M.nb _ (by omega)) (M.na _ (by omega)) ?_)))));cases ew:lt (gA b (nb'-1)) (gA a (na'-1))with
   |true =>
    refine au (fun _=>?_) (fun z=>absurd rfl z);refine zk (aK (by omega) ?_);have l3:=l2.pushA M O (by omega) g1' (by omega) g2' ew;refine au (fun e=>?_) fun e=>au (fun _=>?_) fun _=>?_
    ·exact zl ⟨rfl,.inl ⟨_,_,rfl,l3.done M (.inl (by simpa using e))⟩⟩
    ·have e':na'-1≠0:=by simpa using e
     exact zl ⟨rfl,.inr ⟨_,_,_,_,_,rfl,l3,by omega,by omega,g2,g2',by omega⟩⟩
    ·have e':na'-1≠0:=by simpa using e
     exact zl ⟨rfl,_,_,_,_,_,rfl,l3,by omega,by omega,g2,g2',by omega⟩
   |false =>
    refine au (fun z=>absurd z (by simp)) fun _=>?_;refine zk (aK (by omega) ?_);have l3:=l2.pushB M O (by omega) g1' (by omega) g2' ew;refine au (fun e=>?_) fun e=>au (fun _=>?_) fun _=>?_
    ·exact zl ⟨rfl,.inl ⟨_,_,rfl,l3.first M O (by simpa using e)⟩⟩
    ·have e':nb'-1≠1:=by simpa using e
     exact zl ⟨rfl,.inr ⟨_,_,_,_,_,rfl,l3,g1,g1',by omega,by omega,by omega⟩⟩
    ·have e':nb'-1≠1:=by simpa using e
     exact zl ⟨rfl,_,_,_,_,_,rfl,l3,g1,g1',by omega,by omega,by omega⟩
  case post1 =>
   rintro c st' ⟨rfl,⟨r,d,rfl,hr⟩|⟨na',nb',out,ac,bc,rfl,l2,g1,g1',g2,g2',g3⟩⟩
   ·exact zl ⟨g,r,_,rfl,hr⟩
   refine zk (wpS_lift (wpAny_rule ⟨rfl,?_⟩));refine zk (Zi (Zb (I:=fun y c st'=>SG' st st'/\HiI lt (kas_item it) a b (na'+nb') c)
    (Q:=fun c st'=>SG' st st'/\((∃ r d,c=(some r,d)/\Gd lt (kas_item it) a b r)\/HiI lt (kas_item it) a b (na'+nb') c)) ?step2 ?fin2 ⟨g,_,_,_,_,_,_,rfl,l2,g1,g1',g2,g2',zh _⟩) ?post2)
   case fin2 =>rintro c st2 ⟨gg,hh⟩;exact⟨gg,.inr hh⟩
   case post2 =>
    rintro c st2 ⟨gg,⟨r,d,rfl,hr⟩|⟨na1,nb1,out,mg,ac,bc,rfl,l3,k1,k1',k2,k2',k3⟩⟩
    ·exact zl ⟨gg,r,_,rfl,hr⟩
    ·exact zk (jy (zl ⟨gg.set _,na1,nb1,out,_,rfl,l3,k1,k1',k2,k2',by omega⟩))
   case step2 =>
    rintro y c st2 _ hy ⟨gg,na1,nb1,out,mg,ac,bc,rfl,l3,k1,k1',k2,k2',k3⟩;dsimp only;refine au (fun _=>?_) fun _=>?_
    ·exact Zi (oX (n:=na'+nb') (mg:=mg-1) (ac:=ac) (bc:=bc) Z O M hk gg l3 k1 k1' k2 k2' k3) fun r st3 hr=>by
      cases r with
      |done c=>exact hr
      |yield c=>exact hr
    ·exact Zi (oX (n:=na'+nb') (mg:=mg) (ac:=ac) (bc:=bc) Z O M hk gg l3 k1 k1' k2 k2' k3) fun r st3 hr=>by
      cases r with
      |done c=>exact hr
      |yield c=>exact hr
end
open PySem PyProof.Rows PySem.W
theorem lN(at0:Nat):∀(l:List Keyed) (n:Nat) (ar:Array Keyed),at0+n+l.length<=ar.size->((l.zipIdx n).foldl (fun a (p,j)=>a.setIfInBounds (at0+j) p) ar).toList=ar.toList.take (at0+n)++(l++ar.toList.drop (at0+n+l.length))
 | [],n,ar,_=>by rw[List.nil_append,List.length_nil,Nat.add_zero,zI];rfl
 |x::l,n,ar,h=>by
  rw[Zs]at h;rw[List.zipIdx_cons,List.foldl_cons];have hs:(ar.setIfInBounds (at0+n) x).size=ar.size:=Array.size_setIfInBounds;have ih:=lN at0 l (n+1) (ar.setIfInBounds (at0+n) x) (by omega);rw[ih,Array.toList_setIfInBounds];have hl:at0+n<ar.toList.length:=by rw[zA];omega
  have e1:(ar.toList.set (at0+n) x).take (at0+(n+1))=ar.toList.take (at0+n)++[x]:=by rw[show at0+(n+1)=at0+n+1 by omega,List.take_add_one,List.take_set_of_le (zh _)];rw[List.getElem?_set_self hl];rfl
  have e2:(ar.toList.set (at0+n) x).drop (at0+(n+1)+l.length)=ar.toList.drop (at0+n+(x::l).length):=by rw[List.drop_set_of_lt (by omega),Zs];congr 1;omega
  rw[e1,e2,zH];rfl
theorem sO{f:Nat->Keyed}{p q:Array Nat}{at0:Nat}(h:at0+q.size<=p.size):∃p':Array Nat,gC (p.map f) at0 (q.map f)=p'.map f/\p'.toList=p.toList.take at0++(q.toList++p.toList.drop (at0+q.size)):=by refine⟨(p.toList.take at0++(q.toList++p.toList.drop (at0+q.size))).toArray,?_,by simp⟩;apply Array.toList_inj.mp;have e:=lN at0 (q.map f).toList 0 (p.map f) (by simpa using h);unfold gC;rw[e];simp
section
variable{prog:Program}{w:World}{A:Around}{E:Value->Shared->Prop}{s:Shared}{κ:SortKind}{it:Array Keyed}{lt:Nat->Nat->Bool}{N:Nat}{st:SortSt}{a b:Array Nat}
theorem kZ{l:List Nat}(h:l.Pairwise (Lx lt)){i j:Nat}(hij:i<j)(hj:j<l.length):Lx lt (l.getD i 0) (l.getD j 0):=by rw[ZE]at h;have:=h i j (by omega) hj hij;rw[zj,zj,zm (show i<l.length by omega),zm hj];exact this
theorem bN{l:List Nat}{i:Nat}(h:i<l.length):l.getD i 0∈l:=by rw[zj,zm h];exact List.getElem_mem h
theorem jU{l:List Nat}{x:Nat}(h:x∈l):∃i,i<l.length/\l.getD i 0=x:=by obtain⟨i,hi,e⟩:=List.mem_iff_getElem.mp h;refine⟨i,hi,?_⟩;rw[zj,zm hi];exact e
theorem jM(O:LtOk lt){l:List Nat}(h:l.Pairwise (Lx lt)){i j:Nat}(hij:i<=j)(hj:j<l.length){x:Nat}(hx:lt x (l.getD i 0)=true):lt x (l.getD j 0)=true:=by
 rcases Zo i j with h1|h1
 ·exact O.lt_le hx (kZ h h1 hj).1
 ·have e:i=j:=by omega
  rw[<-e];exact hx
theorem jN(O:LtOk lt){l:List Nat}(h:l.Pairwise (Lx lt)){i j:Nat}(hij:i<=j)(hj:j<l.length){x:Nat}(hx:lt (l.getD j 0) x=true):lt (l.getD i 0) x=true:=by
 rcases Zo i j with h1|h1
 ·exact O.le_lt (kZ h h1 hj).1 hx
 ·have e:i=j:=by omega
  rw[e];exact hx
theorem xb(Z:Zc prog w A s κ it lt N)(O:LtOk lt){p:Array Nat}{pre X Y post:List Nat}{i pw pw2:Nat}{Q:Bool->SortSt->Prop}(hk:kindOf st=κ)(hf:failedOf st=none)(ha:arrOf st=p.map (kas_item it))(hp:p.toList=pre++(X++(Y++post)))(hX:X.Pairwise (Lx lt))(hY:Y.Pairwise (Lx lt))(hX0:0<X.length)(hY0:0<Y.length)(hXY:∀ x∈X,∀ y∈Y,x<y)(hN:∀ x∈p.toList,x<N)(h1:(pendingOf st)[i]? = some (pre.length,X.length,pw))(h2:(pendingOf st)[i+1]? = some (pre.length+X.length,Y.length,pw2))(h:∀ (st':SortSt) (p':Array Nat) (W:List Nat),kindOf st'=κ->failedOf st'=none->arrOf st'=p'.map (kas_item it)->p'.toList=pre++(W++post)->W.Pairwise (Lx lt)->W.Perm (X++Y) ->
   pendingOf st'=((pendingOf st).setIfInBounds i (pre.length,X.length+Y.length,pw)).eraseIdxIfInBounds (i+1)->Q true st'):wpS (model prog w) A E s (mergeAt' i) Q st:=by
 have psz:p.size=pre.length+(X.length+(Y.length+post.length)):=by rw[<-zA,hp];simp
 have gX:∀i,i<X.length->gA p (pre.length+i)=X.getD i 0:=fun i hi=>by rw[aB,hp,zj,zj,zW (by omega),zZ,ZD hi]
 have gY:∀i,i<Y.length->gA p (pre.length+X.length+i)=Y.getD i 0:=fun i hi=>by rw[aB,hp,zj,zj,zW (by omega),show pre.length+X.length+i-pre.length=X.length+i by omega,zW (by omega),zZ,ZD hi]
 have nX:∀x∈X,x<N:=fun x hx=>hN x (by rw[hp];simp[hx]);have nY:∀x∈Y,x<N:=fun x hx=>hN x (by rw[hp];simp[hx]);have tf:∀{x y:Nat},zB lt false x y=true->lt x y=false:=fun{x y} z=>by have z':(!lt x y)=true:=z;simpa using z'
 have ft:∀{x y:Nat},zB lt false x y=false->lt x y=true:=fun{x y} z=>by have z':(!lt x y)=false:=z;simpa using z'
 rw[vD];refine zk (wpS_get ?_);rw[h1,h2];have hset:∀{st2:SortSt} {Q:PUnit->SortSt->Prop},Q ⟨⟩ st2->wpS (model prog w) A E s (set st2:StateT SortSt Sem PUnit) Q st:=fun{st2 Q} hq=>by have e:(set st2:StateT SortSt Sem PUnit)=modify fun _=>st2:=rfl;rw[e];exact wpS_modify hq
 refine zk (hset ?_);rw[ha];refine zk (aK (by omega) ?_);have eY:gA p (pre.length+X.length)=Y.getD 0 0:=gY 0 hY0;rw[eY];refine zk (fK Z hk (nY _ (bN hY0)) (by omega) (fun i h3 h4=>?_) hX0 (fun i j h3 h4 h5=>?_) fun k hk1 hk2 hk3=>?_)
 ·obtain⟨d,rfl⟩:∃d,i=pre.length+d:=⟨i-pre.length,by omega⟩
  rw[gX d (by omega)];exact nX _ (bN (by omega))
 ·rw[gX _ (by omega)]at h5 ⊢;have z:=tf h5;show(!lt (Y.getD 0 0) (X.getD i 0))=true;cases e:lt (Y.getD 0 0) (X.getD i 0)with
  |false=>rfl
  |true=>rw[jM O hX h3 h4 e]at z;cases z
 have k2:∀i,i<k->lt (Y.getD 0 0) (X.getD i 0)=false:=fun i hi=>by have:=tf (hk2 i hi);rw[gX i (by omega)]at this;exact this
 have k3:∀i,k<=i->i<X.length->lt (Y.getD 0 0) (X.getD i 0)=true:=fun i hi hi2=>by have:=ft (hk3 i hi hi2);rw[gX i (by omega)]at this;exact this
 have low:∀x∈X.take k,∀y∈Y,Lx lt x y:=fun x hx y hy=>by
  have hm:=List.mem_of_mem_take hx;obtain⟨i,i1,i2,rfl⟩:=fE hx;obtain⟨j,j1,rfl⟩:=jU hy;refine⟨?_,.inr (hXY _ hm _ hy)⟩;cases e:lt (Y.getD j 0) (X.getD i 0)with
  |false=>rfl
  |true=>rw[<-k2 i i1];exact(jN O hY (zR j) j1 e).symm
 refine au (fun e0=>?_) fun e0=>?_
 ·have e0':X.length-k=0:=by simpa using e0
  refine zl (h _ p (X++Y) hk hf ha (by rw[hp,zH]) (zK.mpr ⟨hX,hY,fun x hx y hy=>?_⟩) (List.Perm.refl _) rfl);exact low x (by rw[zO (by omega)];exact hx) y hy
 have e0':X.length-k≠0:=by simpa using e0
 refine zk (aK (by omega) ?_);have eXl:gA p (pre.length+k+(X.length-k)-1)=X.getD (X.length-1) 0:=by rw[show pre.length+k+(X.length-k)-1=pre.length+(X.length-1) by omega];exact gX _ (by omega)
 rw[eXl];refine zk (fK Z hk (nX _ (bN (by omega))) (by omega) (fun i h3 h4=>?_) (by omega) (fun i j h3 h4 h5=>?_) fun c hc1 hc2 hc3=>?_)
 ·obtain⟨d,rfl⟩:∃d,i=pre.length+X.length+d:=⟨i-(pre.length+X.length),by omega⟩
  rw[gY d (by omega)];exact nY _ (bN (by omega))
 ·rw[gY _ (by omega)]at h5 ⊢;exact jN O hY h3 h4 h5
 have c2:∀i,i<c->lt (Y.getD i 0) (X.getD (X.length-1) 0)=true:=fun i hi=>by have:=hc2 i hi;rw[gY i (by omega)]at this;exact this
 have c3:∀i,c<=i->i<Y.length->lt (Y.getD i 0) (X.getD (X.length-1) 0)=false:=fun i hi hi2=>by have:=hc3 i hi hi2;rw[gY i (by omega)]at this;exact this
 refine au (fun e1=>?_) fun e1=>?_
 ·have e1':c=0:=by simpa using e1
  have z1:=c3 0 (by omega) hY0;rw[k3 (X.length-1) (by omega) (by omega)]at z1;cases z1
 have e1':c≠0:=by simpa using e1
 have la:(p.extract (pre.length+k) (pre.length+X.length)).toList=X.drop k:=by rw[iq,hp,List.take_append,zO (by omega),zZ,List.take_left,List.drop_append,ZL (by omega),List.nil_append,zZ]
 have lb:(p.extract (pre.length+X.length) (pre.length+X.length+c)).toList=Y.take c:=by rw[dQ,hp,<-zH,List.drop_append,ZL (by simp),List.nil_append,zt,Nat.sub_self,List.drop_zero,List.take_append,show c-Y.length=0 by omega,List.take_zero,ZA]
 have sza:(p.extract (pre.length+k) (pre.length+X.length)).size=X.length-k:=by rw[<-zA,la,zX]
 have szb:(p.extract (pre.length+X.length) (pre.length+X.length+c)).size=c:=by rw[<-zA,lb,Za];omega
 have ga:∀i,gA (p.extract (pre.length+k) (pre.length+X.length)) i=X.getD (k+i) 0:=fun i=>by rw[aB,la,zj,zj,List.getElem?_drop]
 have gb:∀i,i<c->gA (p.extract (pre.length+X.length) (pre.length+X.length+c)) i=Y.getD i 0:=fun i hi=>by rw[aB,lb,zj,zj,List.getElem?_take,if_pos hi]
 have M:MF lt N (p.extract (pre.length+k) (pre.length+X.length)) (p.extract (pre.length+X.length) (pre.length+X.length+c)):=by
  refine⟨mq (by rw[la];exact hX.sublist (Zu _ _)),mq (by rw[lb];exact hY.sublist (Zk _ _)),fun i j hi hj e=>?_,fun i hi=>?_,fun i hi=>?_,by omega,by omega,?_,fun j hj=>?_⟩
  ·rw[ga,gb j (by omega)]at e ⊢;exact⟨e,.inr (hXY _ (bN (by omega)) _ (bN (by omega)))⟩
  ·rw[ga];exact nX _ (bN (by omega))
  ·rw[gb i (by omega)];exact nY _ (bN (by omega))
  ·rw[ga,gb 0 (by omega)];exact k3 _ (by omega) (by omega)
  ·rw[ga,gb j (by omega),sza,show k+(X.length-k-1)=X.length-1 by omega];exact c2 j (by omega)
 have fin:∀(r:Array Keyed) (st2 st3:SortSt),Gd lt (kas_item it) (p.extract (pre.length+k) (pre.length+X.length)) (p.extract (pre.length+X.length) (pre.length+X.length+c)) r->kindOf st2=κ->failedOf st2=none->arrOf st2=p.map (kas_item it)->pendingOf st2=((pendingOf st).setIfInBounds i (pre.length,X.length+Y.length,pw)).eraseIdxIfInBounds (i+1)->SG' st2 st3 ->
   wpS (model prog w) A E s (do
    modify fun st=>setArr st (gC (arrOf st) (pre.length+k) r)
    return (failedOf (←get)).isNone) Q st3:=fun r st2 st3 ⟨q,eq,qs,qp⟩ j1 j2 j3 j4 ⟨g,eg⟩=>by
  subst eg;subst eq;rw[la,lb]at qp;have ql:q.size=X.length-k+c:=by have:=qp.length_eq;rw[zt,zX,Za,zA]at this;omega
  obtain⟨p',ep,lp⟩:=sO (f:=kas_item it) (p:=p) (q:=q) (at0:=pre.length+k) (by omega);have lp':p'.toList=pre++((X.take k++(q.toList++Y.drop c))++post):=by rw[lp,hp,List.take_append,zO (by omega),zZ,List.take_append,show k-X.length=0 by omega,List.take_zero,ZA];rw[zH,zH,zH];congr 2;congr 1;rw[ql,show pre.length+k+(X.length-k+c)=pre.length+X.length+c by omega,<-zH,List.drop_append,ZL (by simp),List.nil_append,zt,zZ,List.drop_append,show c-Y.length=0 by omega,List.drop_zero]
  refine zk (wpS_modify (zk (wpS_get ?_)));have hcr:∀x∈X,∀y∈Y.drop c,Lx lt x y:=fun x hx y hy=>by
   have hm:=List.mem_of_mem_drop hy;obtain⟨j,d1,d2,rfl⟩:=fD hy;obtain⟨i,i1,rfl⟩:=jU hx;refine⟨?_,.inr (hXY _ hx _ hm)⟩;cases e:lt (Y.getD j 0) (X.getD i 0)with
   |false=>rfl
   |true=>rw[<-c3 j d1 d2];exact(jM O hX (show i<=X.length-1 by omega) (by omega) e).symm
  have sX:=zK.mp (show(X.take k++X.drop k).Pairwise (Lx lt) by rw[zI];exact hX);have sY:=zK.mp (show(Y.take c++Y.drop c).Pairwise (Lx lt) by rw[zI];exact hY);have pwW:(X.take k++(q.toList++Y.drop c)).Pairwise (Lx lt):=by
   refine zK.mpr ⟨sX.1,zK.mpr ⟨qs,sY.2.1,fun x hx y hy=>?_⟩,fun x hx y hy=>?_⟩
   ·rcases z9.mp (qp.mem_iff.mp hx)with hx|hx
    ·exact hcr x (List.mem_of_mem_drop hx) y hy
    ·exact sY.2.2 x hx y hy
   ·rcases z9.mp hy with hy|hy
    ·rcases z9.mp (qp.mem_iff.mp hy)with hy|hy
     ·exact sX.2.2 x hx y hy
     ·exact low x hx y (List.mem_of_mem_take hy)
    ·exact low x hx y (List.mem_of_mem_drop hy)
  have pmW:(X.take k++(q.toList++Y.drop c)).Perm (X++Y):=by refine((qp.append_right (Y.drop c)).append_left (X.take k)).trans ?_;rw[zH,zI,<-zH,zI]
  have ea:gC (arrOf (gz st2 g)) (pre.length+k) (q.map (kas_item it))=p'.map (kas_item it):=by show gC (arrOf st2) (pre.length+k) (q.map (kas_item it))=_;rw[j3];exact ep
  have eF:(failedOf (setArr (gz st2 g) (gC (arrOf (gz st2 g)) (pre.length+k) (q.map (kas_item it))))).isNone=true:=by show(failedOf st2).isNone=true;rw[j2];rfl
  rw[eF];exact zl (h _ p' _ j1 j2 ea lp' pwW pmW j4)
 rw[aY,aY];refine au (fun _=>?_) fun _=>?_
 ·exact zk (xf Z O M hk fun r st3 hr g=>fin r (setPending st (((pendingOf st).setIfInBounds i (pre.length,X.length+Y.length,pw)).eraseIdxIfInBounds (i+1))) st3 hr hk hf ha rfl g)
 ·exact zk (xc Z O M hk fun r st3 hr g=>fin r (setPending st (((pendingOf st).setIfInBounds i (pre.length,X.length+Y.length,pw)).eraseIdxIfInBounds (i+1))) st3 hr hk hf ha rfl g)
end
open PySem PyProof.Rows PySem.W
theorem KW.unbind{α β:Type}{lt:Nat->Nat->Bool}{Q:β->Prop}{f:α->KasT β}:∀{t:KasT α},KW lt Q (t.bind f)->KW lt (fun a=>KW lt Q (f a)) t
 |.ret _,h=>h
 |.ask i j k,h=>KW.unbind (t:=k (lt i j)) h
def pj(pre u:Array Nat):Array Nat:=pre++u.map (pre.size+·)
theorem fF(pre u:Array Nat):(pj pre u).size=pre.size+u.size:=by simp[pj]
theorem cI(pre u:Array Nat)(k:Nat):(pj pre u)[k]?=if k<pre.size then pre[k]? else(u[k-pre.size]?).map (pre.size+·):=by
 unfold pj;rw[Array.getElem?_append];split
 ·rfl
 ·rw[Array.getElem?_map]
theorem qW{pre u:Array Nat}{k:Nat}(hk:k<u.size):gA (pj pre u) (pre.size+k)=pre.size+gA u k:=by rw[dS,dS,cI,if_neg (by omega),zZ];simp[hk]
theorem uH{pre u:Array Nat}{i j:Nat}(hj:j<=u.size):kas_rev (pj pre u) (pre.size+i) (pre.size+j)=pj pre (kas_rev u i j):=by
 apply Array.ext_getElem?;intro k;unfold kas_rev;rw[getElem?_mirror_all (by rw[fF];omega),cI,cI,cI,getElem?_mirror_all hj];by_cases h0:k<pre.size
 ·rw[if_neg (by omega),if_pos h0,if_pos h0]
 ·rw[if_neg h0,if_neg h0];by_cases h1:i<=k-pre.size/\k-pre.size<j
  ·rw[if_pos (by omega),if_neg (by omega),if_pos h1];congr 2;omega
  ·rw[if_neg (by omega),if_neg h1]
theorem uG{pre u:Array Nat}{k d:Nat}(hk:k<u.size)(hd:d<=k):bubble (pj pre u) (pre.size+k) d=pj pre (bubble u k d):=by
 apply Array.ext_getElem?;intro i;rw[getElem?_bubble (by rw[fF];omega) d (by omega),cI,cI,cI,cI,getElem?_bubble hk d hd];by_cases h0:i<pre.size
 ·rw[if_neg (by omega),if_neg (by omega),if_pos h0,if_pos h0]
 ·rw[if_neg h0,if_neg h0];by_cases h1:i-pre.size=k-d
  ·rw[if_pos (by omega),if_pos h1,if_neg (by omega),zZ]
  ·rw[if_neg (by omega),if_neg h1];by_cases h2:k-d<i-pre.size/\i-pre.size<=k
   ·rw[if_pos (by omega),if_pos h2,if_neg (by omega)];congr 2;omega
   ·rw[if_neg (by omega),if_neg h2]
section
variable{prog:Program}{w:World}{A:Around}{E:Value->Shared->Prop}{s:Shared}{κ:SortKind}{it:Array Keyed}{lt:Nat->Nat->Bool}{N:Nat}{st:SortSt}{pre u:Array Nat}
def stQ(it:Array Keyed)(st:SortSt)(q:Array Nat):SortSt:=setArr st (q.map (kas_item it))
structure Zp(prog:Program)(w:World)(A:Around)(s:Shared)(κ:SortKind)(it:Array Keyed)(lt:Nat->Nat->Bool)(N:Nat)(st:SortSt)(pre:Array Nat)(n:Nat):Prop where
 Z:Zc prog w A s κ it lt N
 hk:kindOf st=κ
 hN:pre.size+n=N
 n0:0<n
def ltS(lt:Nat->Nat->Bool)(lo:Nat):Nat->Nat->Bool:=fun i j=>lt (lo+i) (lo+j)
theorem hZ{n:Nat}(P:Zp prog w A s κ it lt N st pre n)(hu:POk n u){i j:Nat}(hi:i<n)(hj:j<n){Q:Option Bool->SortSt->Prop}(h:Q (some (ltS lt pre.size (gA u i) (gA u j))) (stQ it st (pj pre u))):wpS (model prog w) A E s (ltAt' (pre.size+i) (pre.size+j)) Q (stQ it st (pj pre u)):=by
 have hz:u.size=n:=by have:=hu.size_eq;simpa using this
 have hN:=P.hN;rw[ltAt'_eq];refine zk (wpS_get ?_);have ea:arrOf (stQ it st (pj pre u))=(pj pre u).map (kas_item it):=rfl;rw[ea];refine zk (aK (by rw[fF];omega) (zk (aK (by rw[fF];omega) ?_)));rw[qW (by omega),qW (by omega)];have b1:=hu.lt P.n0 i;have b2:=hu.lt P.n0 j;exact kG P.Z P.hk (by unfold gA;omega) (by unfold gA;omega) h
theorem jx{n:Nat}(hu:POk n u){i j:Nat}(hj:j<=n){Q:Unit->SortSt->Prop}(h:Q () (stQ it st (pj pre (kas_rev u i j)))):wpS (model prog w) A E s (reverseSlice' (pre.size+i) (pre.size+j)) Q (stQ it st (pj pre u)):=by
 have hz:u.size=n:=by have:=hu.size_eq;simpa using this
 rw[reverseSlice'_eq];refine wpS_modify ?_;have e1:mirror ((pj pre u).map (kas_item it)) (pre.size+i) (pre.size+j) ((pre.size+j-(pre.size+i)) / 2)=(kas_rev (pj pre u) (pre.size+i) (pre.size+j)).map (kas_item it):=kas_swaps_map (kas_item it) (fun k=>pre.size+i+k) (fun k=>pre.size+j-1-k) _ (pj pre u);have e2:setArr (stQ it st (pj pre u)) (mirror (arrOf (stQ it st (pj pre u))) (pre.size+i) (pre.size+j) ((pre.size+j-(pre.size+i)) / 2))=stQ it st (pj pre (kas_rev u i j)):=by show setArr st (mirror ((pj pre u).map (kas_item it)) (pre.size+i) (pre.size+j) ((pre.size+j-(pre.size+i)) / 2))=setArr st ((pj pre (kas_rev u i j)).map (kas_item it));rw[e1,uH (by omega)]
 rw[e2];exact h
theorem wK{n:Nat}(hu:POk n u){k l:Nat}(hk:k<n){Q:Unit->SortSt->Prop}(h:Q () (stQ it st (pj pre (bubble u k (k-l))))):wpS (model prog w) A E s (moveDown' (pre.size+k) (pre.size+l)) Q (stQ it st (pj pre u)):=by
 have hz:u.size=n:=by have:=hu.size_eq;simpa using this
 rw[moveDown'_eq];refine wpS_modify ?_;have e1:bubble ((pj pre u).map (kas_item it)) (pre.size+k) (pre.size+k-(pre.size+l))=(bubble (pj pre u) (pre.size+k) (pre.size+k-(pre.size+l))).map (kas_item it):=kas_swaps_map (kas_item it) (fun i=>pre.size+k-i) (fun i=>pre.size+k-i-1) _ (pj pre u);have e2:setArr (stQ it st (pj pre u)) (bubble (arrOf (stQ it st (pj pre u))) (pre.size+k) (pre.size+k-(pre.size+l)))=stQ it st (pj pre (bubble u k (k-l))):=by show setArr st (bubble ((pj pre u).map (kas_item it)) (pre.size+k) (pre.size+k-(pre.size+l)))=setArr st ((pj pre (bubble u k (k-l))).map (kas_item it));rw[e1,show pre.size+k-(pre.size+l)=k-l by omega,uG (by omega) (by omega)]
 rw[e2];exact h
def jk(lo m nr:Nat):StateT SortSt Sem (Option Nat):=do
 reverseSlice' lo (lo+m)
 let mut m:=m
 for _ in[m:nr]do
  let some sm ←ltAt' (lo+m) (lo+m-1)|return none
  if sm then break
  m:=m+1
 return some m
def qL(lo m nr:Nat):StateT SortSt Sem (Option Nat):=do
 liftM (rule "list.sort.descending-run");let mut m:=m+1;let mut qe:=0
 for _ in[m:nr]do
  let some sm ←ltAt' (lo+m) (lo+m-1)|return none
  if sm then
   if qe>0 then reverseSlice' (lo+m-(qe+1)) (lo+m)
   qe:=0
  else
   let some la ←ltAt' (lo+m-1) (lo+m)|return none
   if la then break
   qe:=qe+1
  m:=m+1
 if qe>0 then do
  reverseSlice' (lo+m-(qe+1)) (lo+m)
  jk lo m nr
 else jk lo m nr
theorem rp{n:Nat}(P:Zp prog w A s κ it lt N st pre n)(hu:POk n u){m0:Nat}(h0:1<=m0)(hm:m0<=n){R:Nat->Prop}(hr:KW (ltS lt pre.size) R (kas_asc u (n - m0) m0)){f:Nat->Option (Option Nat)×Nat->StateT SortSt Sem (ForInStep (Option (Option Nat)×Nat))}(ef:∀ i m,f i (none,m)=(do
   let r ←ltAt' (pre.size+m) (pre.size+m-1)
   match r with
   |some sm=>if sm=true then pure (ForInStep.done (none,m))else pure (ForInStep.yield (none,m+1))
   | _=>pure (ForInStep.done (some none,m)))){Q:Option (Option Nat)×Nat->SortSt->Prop}(h:∀ m,m0<=m->m<=n->R m->Q (none,m) (stQ it st (pj pre u))) :
  wpS (model prog w) A E s (forIn [m0:n] ((none,m0):Option (Option Nat)×Nat) f) Q (stQ it st (pj pre u)):=by
 refine Zb (I:=fun i c st'=>c=(none,i)/\st'=stQ it st (pj pre u)/\i<=n/\KW (ltS lt pre.size) R (kas_asc u (n-i) i)) ?_ ?_ ⟨rfl,rfl,hm,hr⟩
 ·rintro i c st' hi1 hi2 ⟨rfl,rfl,hi3,hkw⟩;rw[ef];rw[show n-i=(n-(i+1))+1 by omega]at hkw;have hkw':KW (ltS lt pre.size) R (if ltS lt pre.size (gA u i) (gA u (i-1))=true then .ret i else kas_asc u (n-(i+1)) (i+1)):=hkw;rw[show pre.size+i-1=pre.size+(i-1) by omega];refine zk (hZ P hu hi2 (by omega) ?_);refine au (fun e=>?_) fun e=>?_
  ·rw[if_pos e]at hkw';exact zl (h i hi1 hi3 hkw')
  ·rw[if_neg e]at hkw';exact zl ⟨rfl,rfl,by omega,hkw'⟩
 ·rintro c st' ⟨rfl,rfl,hi3,hkw⟩;rw[Nat.max_eq_right hm]at hkw ⊢;rw[Nat.sub_self]at hkw;exact h n hm (zh _) hkw
theorem ph{n:Nat}(P:Zp prog w A s κ it lt N st pre n)(hu:POk n u){m0:Nat}(h0:1<=m0)(hm:m0<=n){G:Nat×Array Nat->Prop}{Q:Option Nat->SortSt->Prop}(hr:KW (ltS lt pre.size) G (kas_tail3 m0 n u))(h:∀m u',POk n u'->1<=m->m<=n->G (m,u')->Q (some m) (stQ it st (pj pre u'))) :
  wpS (model prog w) A E s (jk pre.size m0 n) Q (stQ it st (pj pre u)):=by
 unfold jk;have hr':=KW.unbind hr;have z:=jx (prog:=prog) (w:=w) (A:=A) (E:=E) (s:=s) (it:=it) (st:=st) (pre:=pre) (i:=0) (j:=m0) hu hm (Q:=fun _ st'=>st'=stQ it st (pj pre (kas_rev u 0 m0))) rfl;rw[Nat.add_zero]at z;refine zk (Zi z fun _ st' e=>?_);subst e;refine zk (rp P (hu.rev 0 m0) h0 hm hr' (fun i m=>rfl) fun m h1 h2 h3=>?_);exact zl (h m _ (hu.rev 0 m0) (by omega) h2 h3)
end
open PySem PyProof.Rows PySem.W
section
variable{lt:Nat->Nat->Bool}(O:LtOk lt){N:Nat}
include O
theorem lf:∀(f:Nat) {p:Array Nat} {k:Nat},k+f<=N->1<=k->Fx N p k->LS lt p k->KW lt (fun p=>Fx N p (k+f)/\LS lt p (k+f)) (kas_bin f p k)
 |0,p,k,e,_,hf,hs=>⟨hf,hs⟩
 |f+1,p,k,e,h1,hf,hs=>by
  refine KW.bind (KW.mono (fun m hm=>?_) (fY O hs k 0 k (by omega) (zh _) (fun i hi=>absurd hi (by omega)) (fun i h2 h3=>absurd h2 (by omega)) (zR _)));obtain⟨m1,m2,m3⟩:=hm;have hk:k<p.size:=by rw[hf.sz];omega
  have gk:gA p k=k:=hf.hi k (zh _) (by omega);have ekm:k-(k-m)=m:=by omega
  have gb:∀i,gA (bubble p k (k-m)) i=if i=m then gA p k else if m<i/\i<=k then gA p (i-1)else gA p i:=fun i=>by rw[tu hk (by omega),ekm]
  rw[show k+(f+1)=k+1+f by omega];refine lf f (by omega) (by omega) ⟨by rw[bubble_size];exact hf.sz,fun i h2 h3=>?_,fun i hi=>?_⟩ (fun i j hij hj=>?_)
  ·rw[gb,if_neg (by omega),if_neg (by omega)];exact hf.hi i (by omega) h3
  ·rw[gb];split
   ·rw[gk];omega
   ·split
    ·have:=hf.lo (i-1) (by omega);omega
    ·have:=hf.lo i (by omega);omega
  ·have lk:∀i,i<m->Lx lt (gA p i) (gA p k):=fun i hi=>⟨m2 i hi,.inr (by rw[gk];exact hf.lo i (by omega))⟩
   have gt:∀i,m<=i->i<k->Lx lt (gA p k) (gA p i):=fun i h2 h3=>Lx.of_lt O (m3 i h2 h3);rw[gb,gb];by_cases a1:i=m
   ·rw[if_pos a1,if_neg (by omega),if_pos (by omega)];exact gt _ (by omega) (by omega)
   ·rw[if_neg a1];by_cases a2:m<i/\i<=k
    ·rw[if_pos a2,if_neg (by omega),if_pos (by omega)];exact hs _ _ (by omega) (by omega)
    ·rw[if_neg a2];by_cases b1:j=m
     ·rw[if_pos b1];exact lk i (by omega)
     ·rw[if_neg b1];by_cases b2:m<j/\j<=k
      ·rw[if_pos b2];exact hs _ _ (by omega) (by omega)
      ·rw[if_neg b2];exact hs _ _ hij (by omega)
end
section
variable{prog:Program}{w:World}{A:Around}{E:Value->Shared->Prop}{s:Shared}{κ:SortKind}{it:Array Keyed}{lt:Nat->Nat->Bool}{N:Nat}{st:SortSt}{pre u:Array Nat}
theorem oW{n:Nat}(P:Zp prog w A s κ it lt N st pre n)(hu:POk n u){m0:Nat}(h0:1<=m0)(hm:m0+1<=n){G:Nat×Array Nat->Prop}{Q:Option Nat->SortSt->Prop}(hr:KW (ltS lt pre.size) G (kas_descPart m0 n u))(h:∀m u',POk n u'->1<=m->m<=n->G (m,u')->Q (some m) (stQ it st (pj pre u'))) :
  wpS (model prog w) A E s (qL pre.size m0 n) Q (stQ it st (pj pre u)):=by
 unfold qL;have hr':=KW.unbind hr;refine zk (wpS_lift (wpAny_rule ⟨rfl,?_⟩));refine zk (Zi (Zb (I:=fun i c st'=>∃ u' q,c=(none,i,q)/\st'=stQ it st (pj pre u')/\POk n u'/\i<=n/\q+1<=i/\KW (ltS lt pre.size) (fun r=>KW (ltS lt pre.size) G (if r.2.2>0 then kas_tail3 r.2.1 n (kas_rev r.1 (r.2.1 - (r.2.2+1)) r.2.1) else kas_tail3 r.2.1 n r.1)) (kas_desc (n - i) u' i q))
  (Q:=fun c st'=>∃ u' m q,c=(none,m,q)/\st'=stQ it st (pj pre u')/\POk n u'/\1<=m/\m<=n/\q+1<=m/\KW (ltS lt pre.size) G (if q>0 then kas_tail3 m n (kas_rev u' (m - (q+1)) m) else kas_tail3 m n u')) ?step ?fin ⟨u,0,rfl,rfl,hu,hm,by omega,hr'⟩) ?post)
 case fin =>rintro c st' ⟨u',q,rfl,rfl,hu',h1,h2,h3⟩;rw[Nat.max_eq_right hm]at h1 h2 h3 ⊢;rw[Nat.sub_self]at h3;exact⟨u',n,q,rfl,rfl,hu',by omega,zh _,h2,h3⟩
 case post =>
  rintro c st' ⟨u',m,q,rfl,rfl,hu',h1,h2,h3,h4⟩;dsimp only;refine au (fun hq=>?_) fun hq=>?_
  ·rw[if_pos hq]at h4;rw[show pre.size+m-(q+1)=pre.size+(m-(q+1)) by omega];exact zk (jx hu' h2 (ph P (hu'.rev _ _) h1 h2 h4 h))
  ·rw[if_neg hq]at h4;exact ph P hu' h1 h2 h4 h
 case step =>
  rintro i c st' hi1 hi2 ⟨u',q,rfl,rfl,hu',h1,h2,h3⟩;dsimp only;rw[show n-i=(n-(i+1))+1 by omega]at h3;generalize hR:(fun r:Array Nat×Nat×Nat=>KW (ltS lt pre.size) G (if r.2.2>0 then kas_tail3 r.2.1 n (kas_rev r.1 (r.2.1-(r.2.2+1)) r.2.1)else kas_tail3 r.2.1 n r.1))=R at h3 ⊢;have h3':KW (ltS lt pre.size) R (if ltS lt pre.size (gA u' i) (gA u' (i - 1))=true then (if q>0 then kas_desc (n - (i+1)) (kas_rev u' (i - (q+1)) i) (i+1) 0 else kas_desc (n - (i+1)) u' (i+1) 0)
   else KasT.ask (gA u' (i - 1)) (gA u' i) fun d=>if d=true then .ret (u',i,q) else kas_desc (n - (i+1)) u' (i+1) (q+1)):=h3
  rw[show pre.size+i-1=pre.size+(i-1) by omega];refine zk (hZ P hu' hi2 (by omega) ?_);refine au (fun e=>?_) fun e=>?_
  ·rw[if_pos e]at h3';refine au (fun hq=>?_) fun hq=>?_
   ·rw[if_pos hq]at h3';rw[show pre.size+i-(q+1)=pre.size+(i-(q+1)) by omega];exact zk (jx hu' h1 (zl ⟨_,0,rfl,rfl,hu'.rev _ _,by omega,by omega,h3'⟩))
   ·rw[if_neg hq]at h3';exact zl ⟨_,0,rfl,rfl,hu',by omega,by omega,h3'⟩
  ·rw[if_neg e]at h3';have h3'':KW (ltS lt pre.size) R (if ltS lt pre.size (gA u' (i-1)) (gA u' i)=true then .ret (u',i,q)else kas_desc (n-(i+1)) u' (i+1) (q+1)):=h3';refine zk (hZ P hu' (by omega) hi2 ?_);refine au (fun e2=>?_) fun e2=>?_
   ·rw[if_pos e2]at h3'';have h5:R (u',i,q):=h3'';rw[<-hR]at h5;exact zl ⟨u',i,q,rfl,rfl,hu',by omega,h1,h2,h5⟩
   ·rw[if_neg e2]at h3'';exact zl ⟨_,q+1,rfl,rfl,hu',by omega,by omega,h3''⟩
theorem sP{n:Nat}(P:Zp prog w A s κ it lt N st pre n)(hu:POk n u){G:Nat×Array Nat->Prop}{Q:Option Nat->SortSt->Prop}(hr:KW (ltS lt pre.size) G (kas_count n u))(h:∀m u',POk n u'->1<=m->m<=n->G (m,u')->Q (some m) (stQ it st (pj pre u'))) :
  wpS (model prog w) A E s (countRun' pre.size n) Q (stQ it st (pj pre u)):=by
 have n0:=P.n0;have hr':=KW.unbind hr;rw[countRun'_eq];refine zk (rp P hu (zh 1) n0 hr' (fun i m=>rfl) fun m h1 h2 h3=>?_);dsimp only;refine au (fun e=>?_) fun e=>?_
 ·rw[if_pos e]at h3;exact zl (h m u hu h1 h2 h3)
 ·rw[if_neg e]at h3;have hlt:m+1<=n:=by
   have:m≠n:=by simpa using e
   omega
  refine au (fun e2=>?_) fun e2=>?_
  ·rw[if_pos e2]at h3;have h3':KW (ltS lt pre.size) G (if ltS lt pre.size (gA u 0) (gA u (m-1))=true then .ret (m,u)else kas_descPart m n (kas_rev u 0 m)):=h3;have z:=hZ (E:=E) P hu (i:=0) (j:=m-1) n0 (by omega) (Q:=fun r st'=>r=some (ltS lt pre.size (gA u 0) (gA u (m-1)))/\st'=stQ it st (pj pre u)) ⟨rfl,rfl⟩;rw[Nat.add_zero]at z;rw[show pre.size+m-1=pre.size+(m-1) by omega];refine zk (Zi z fun r st' hz=>?_);obtain⟨rfl,rfl⟩:=hz;refine au (fun e3=>?_) fun e3=>?_
   ·rw[if_pos e3]at h3';exact zl (h m u hu h1 h2 h3')
   ·rw[if_neg e3]at h3';have z:=jx (prog:=prog) (w:=w) (A:=A) (E:=E) (s:=s) (it:=it) (st:=st) (pre:=pre) (i:=0) (j:=m) hu h2 (Q:=fun _ st'=>st'=stQ it st (pj pre (kas_rev u 0 m))) rfl;rw[Nat.add_zero]at z;refine zk (Zi z fun _ st' ez=>?_);subst ez;exact oW P (hu.rev 0 m) h1 hlt h3' h
  ·rw[if_neg e2]at h3;exact oW P hu h1 hlt h3 h
theorem wI{n nf ok:Nat}(P:Zp prog w A s κ it lt N st pre n)(hu:POk n u)(hn:nf<=n){G:Array Nat->Prop}{Q:Bool->SortSt->Prop}(hr:KW (ltS lt pre.size) G (kas_bin (nf-max ok 1) u (max ok 1)))(h:∀u',POk n u'->G u'->Q true (stQ it st (pj pre u'))) :
  wpS (model prog w) A E s (binarySort' pre.size nf ok) Q (stQ it st (pj pre u)):=by
 rw[binarySort'_eq];refine zk (Zi (Zb (I:=fun k c st'=>∃ u',c=(none,())/\st'=stQ it st (pj pre u')/\POk n u'/\KW (ltS lt pre.size) G (kas_bin (nf - k) u' k))
  (Q:=fun c st'=>∃ u',c=(none,())/\st'=stQ it st (pj pre u')/\POk n u'/\G u') ?step ?fin ⟨u,rfl,rfl,hu,hr⟩) ?post)
 case fin =>rintro c st' ⟨u',rfl,rfl,hu',h1⟩;rw[show nf-max (max ok 1) nf=0 by omega]at h1;exact⟨u',rfl,rfl,hu',h1⟩
 case post =>rintro c st' ⟨u',rfl,rfl,hu',h1⟩;exact zl (h u' hu' h1)
 case step =>
  rintro k c st' hk1 hk2 ⟨u',rfl,rfl,hu',h1⟩;dsimp only;rw[show nf-k=(nf-(k+1))+1 by omega]at h1;have h1':=KW.unbind (show KW (ltS lt pre.size) G ((kas_place u' k k 0 k).bind fun l=>kas_bin (nf-(k+1)) (bubble u' k (k-l)) (k+1))from h1);generalize hR:(fun l:Nat=>KW (ltS lt pre.size) G (kas_bin (nf-(k+1)) (bubble u' k (k-l)) (k+1)))=R at h1';refine zk (Zi (Zb (I:=fun x c st'=>∃ l r,c=(none,l,r)/\st'=stQ it st (pj pre u')/\r<=k/\KW (ltS lt pre.size) R (kas_place u' k (k - x) l r))
   (Q:=fun c st'=>∃ l r,c=(none,l,r)/\st'=stQ it st (pj pre u')/\R l) ?istep ?ifin ⟨0,k,rfl,rfl,zh _,h1'⟩) ?ipost)
  case ifin =>rintro c st' ⟨l,r,rfl,rfl,g1,g2⟩;rw[show k-max 0 k=0 by omega]at g2;exact⟨l,r,rfl,rfl,g2⟩
  case ipost =>rintro c st' ⟨l,r,rfl,rfl,g2⟩;rw[<-hR]at g2;exact zk (wK hu' (by omega) (zl ⟨_,rfl,rfl,hu'.bub _ _,g2⟩))
  case istep =>
   rintro x c st' _ hx ⟨l,r,rfl,rfl,g1,g2⟩;dsimp only;rw[show k-x=(k-(x+1))+1 by omega]at g2;have g2':KW (ltS lt pre.size) R (if l>=r then KasT.ret l else KasT.ask (gA u' k) (gA u' ((l+r) / 2)) fun c=>if c=true then kas_place u' k (k-(x+1)) l ((l+r) / 2)else kas_place u' k (k-(x+1)) ((l+r) / 2+1) r):=g2;refine au (fun e=>?_) fun e=>?_
   ·rw[if_pos e]at g2';exact zl ⟨l,r,rfl,rfl,g2'⟩
   ·rw[if_neg e]at g2';have g3:KW (ltS lt pre.size) R (if ltS lt pre.size (gA u' k) (gA u' ((l+r) / 2))=true then kas_place u' k (k-(x+1)) l ((l+r) / 2)else kas_place u' k (k-(x+1)) ((l+r) / 2+1) r):=g2';refine zk (hZ P hu' (by omega) (by omega) ?_);refine au (fun e2=>?_) fun e2=>?_
    ·rw[if_pos e2]at g3;exact zl ⟨l,(l+r) / 2,rfl,rfl,by omega,g3⟩
    ·rw[if_neg e2]at g3;exact zl ⟨(l+r) / 2+1,r,rfl,rfl,by omega,g3⟩
end
open PySem PyProof.Rows PySem.W
section
variable{lt:Nat->Nat->Bool}
def RunsL(lt:Nat->Nat->Bool):Nat->List (List Nat)->List (Nat×Nat×Nat)->Prop
 |_,[],[]=>True
 |b,r::rs,t::ts=>t.1=b/\t.2.1=r.length/\0<r.length/\r.Pairwise (Lx lt)/\r.Perm (List.range' b r.length)/\RunsL lt (b+r.length) rs ts
 |_,_,_=>False
theorem RunsL.len:∀{b:Nat} {rs:List (List Nat)} {ts:List (Nat×Nat×Nat)},RunsL lt b rs ts->rs.length=ts.length/\rs.length<=rs.flatten.length
 |_,[],[],_=>⟨rfl,zh _⟩
 |_,r::rs,t::ts,⟨_,_,h,_,_,k⟩=>by have:=RunsL.len k;rw[Zs,Zs,List.flatten_cons,zt];omega
theorem RunsL.snoc{r:List Nat}{x:Nat}(h0:0<r.length)(h1:r.Pairwise (Lx lt)):∀{b:Nat} {rs:List (List Nat)} {ts:List (Nat×Nat×Nat)},RunsL lt b rs ts->r.Perm (List.range' (b+rs.flatten.length) r.length)->RunsL lt b (rs++[r]) (ts++[(b+rs.flatten.length,r.length,x)])
 |_,[],[],_,hp=>⟨rfl,rfl,h0,h1,hp,trivial⟩
 |b,q::rs,t::ts,⟨e1,e2,e3,e4,e5,k⟩,hp=>by rw[List.flatten_cons,zt,<-Nat.add_assoc]at hp;have ih:=RunsL.snoc (x:=x) h0 h1 k hp;rw[List.flatten_cons,zt,<-Nat.add_assoc];exact⟨e1,e2,e3,e4,e5,ih⟩
theorem RunsL.pow{g:Nat×Nat×Nat->Nat×Nat×Nat}(hg:∀t,(g t).1=t.1/\(g t).2.1=t.2.1):∀(i:Nat) {b:Nat} {rs:List (List Nat)} {ts:List (Nat×Nat×Nat)},RunsL lt b rs ts->RunsL lt b rs (ts.modify i g)
 |_,_,[],[],_=>by rw[List.modify_nil];trivial
 |0,_,r::rs,t::ts,⟨e1,e2,e3,e4,e5,k⟩=>by rw[List.modify_zero_cons];exact⟨(hg t).1.trans e1,(hg t).2.trans e2,e3,e4,e5,k⟩
 |i+1,_,r::rs,t::ts,⟨e1,e2,e3,e4,e5,k⟩=>by rw[List.modify_succ_cons];exact⟨e1,e2,e3,e4,e5,RunsL.pow hg i k⟩
theorem RunsL.two:∀(i:Nat) {b:Nat} {rs:List (List Nat)} {ts:List (Nat×Nat×Nat)},RunsL lt b rs ts->i+1<ts.length->∃rs1 X Y rs2 pw pw2,rs=rs1++X::Y::rs2/\0<X.length/\0<Y.length/\X.Pairwise (Lx lt)/\Y.Pairwise (Lx lt)/\(∀x∈X,∀y∈Y,x<y) /\
  ts[i]?=some (b+rs1.flatten.length,X.length,pw)/\ts[i+1]?=some (b+rs1.flatten.length+X.length,Y.length,pw2) /\
  ∀W:List Nat,W.Pairwise (Lx lt)->W.Perm (X++Y)->RunsL lt b (rs1++W::rs2) ((ts.set i (b+rs1.flatten.length,X.length+Y.length,pw)).eraseIdx (i+1))
 |_,_,[],[],_,h=>absurd h (by simp)
 |0,b,X::[],t::[],_,h=>absurd h (by simp)
 |0,b,X::[],t::t2::ts,⟨_,_,_,_,_,k⟩,h=>k.elim
 |0,b,X::Y::rs,t::[],⟨_,_,_,_,_,k⟩,h=>k.elim
 |0,b,X::Y::rs,t::t2::ts,⟨e1,e2,e3,e4,e5,f1,f2,f3,f4,f5,k⟩,h=>by
  refine⟨[],X,Y,rs,t.2.2,t2.2.2,rfl,e3,f3,e4,f4,fun x hx y hy=>?_,?_,?_,fun W hw hp=>?_⟩
  ·have a1:=e5.mem_iff.mp hx;have a2:=f5.mem_iff.mp hy;rw[List.mem_range'_1]at a1 a2;omega
  ·show some t=some (b,X.length,t.2.2);rw[<-e1,<-e2]
  ·show some t2=some (b+X.length,Y.length,t2.2.2);rw[<-f1,<-f2]
  ·have hl:W.length=X.length+Y.length:=by rw[hp.length_eq,zt]
   refine⟨rfl,hl.symm,by omega,hw,?_,?_⟩
   ·refine hp.trans ((e5.append f5).trans ?_);have:=List.range'_append (s:=b) (m:=X.length) (n:=Y.length) (step:=1);rw[Nat.one_mul]at this;rw[this,hl]
   ·rw[hl,<-Nat.add_assoc];exact k
 |i+1,b,r::rs,t::ts,⟨e1,e2,e3,e4,e5,k⟩,h=>by
  obtain⟨rs1,X,Y,rs2,pw,pw2,rfl,g1,g2,g3,g4,g5,g6,g7,g8⟩:=RunsL.two i k (by simpa using h);have el:b+(r::rs1).flatten.length=b+r.length+rs1.flatten.length:=by rw[List.flatten_cons,zt,Nat.add_assoc]
  refine⟨r::rs1,X,Y,rs2,pw,pw2,rfl,g1,g2,g3,g4,g5,?_,?_,fun W hw hp=>?_⟩
  ·rw[List.getElem?_cons_succ,el];exact g6
  ·rw[List.getElem?_cons_succ,el];exact g7
  ·rw[el,List.set_cons_succ,List.eraseIdx_cons_succ];exact⟨e1,e2,e3,e4,e5,g8 W hw hp⟩
variable{prog:Program}{w:World}{A:Around}{E:Value->Shared->Prop}{s:Shared}{κ:SortKind}{it:Array Keyed}{N:Nat}{st:SortSt}
structure RI(κ:SortKind)(it:Array Keyed)(lt:Nat->Nat->Bool)(N lo:Nat)(T:List Nat)(p:Array Nat)(rs:List (List Nat))(st:SortSt):Prop where
 hk:kindOf st=κ
 hf:failedOf st=none
 ha:arrOf st=p.map (kas_item it)
 hp:p.toList=rs.flatten++T
 pm:p.toList.Perm (List.range N)
 rl:RunsL lt 0 rs (pendingOf st).toList
 hl:rs.flatten.length=lo
theorem rq(Z:Zc prog w A s κ it lt N)(O:LtOk lt){lo i:Nat}{T:List Nat}{p:Array Nat}{rs:List (List Nat)}(R:RI κ it lt N lo T p rs st)(hi:i+1<(pendingOf st).size){Q:Bool->SortSt->Prop}(h:∀st' p' rs',RI κ it lt N lo T p' rs' st'->(pendingOf st').size+1=(pendingOf st).size->Q true st'):wpS (model prog w) A E s (mergeAt' i) Q st:=by
 obtain⟨rs1,X,Y,rs2,pw,pw2,e0,g1,g2,g3,g4,g5,g6,g7,g8⟩:=R.rl.two i (by rw[zA];exact hi);rw[Nat.zero_add]at g6 g7 g8;rw[ZP]at g6 g7;refine xb Z O (pre:=rs1.flatten) (X:=X) (Y:=Y) (post:=rs2.flatten++T) R.hk R.hf R.ha ?_ g3 g4 g1 g2 g5 (fun x hx=>List.mem_range.mp (R.pm.mem_iff.mp hx)) g6 g7 fun st' p' W j1 j2 j3 j4 j5 j6 j7=>?_
 ·rw[R.hp,e0];simp
 ·refine h st' p' (rs1++W::rs2) ⟨j1,j2,j3,?_,?_,?_,?_⟩ ?_
  ·rw[j4];simp
  ·refine List.Perm.trans ?_ R.pm;rw[j4,R.hp,e0];have:(rs1.flatten++(W++(rs2.flatten++T))).Perm (rs1.flatten++((X++Y)++(rs2.flatten++T))):=(j6.append_right _).append_left _;refine this.trans (List.Perm.of_eq ?_);simp
  ·rw[j7];have:=g8 W j5 j6;rw[Array.eraseIdxIfInBounds,dif_pos (by rw[Array.size_setIfInBounds];exact hi),Array.toList_eraseIdx,Array.toList_setIfInBounds];exact this
  ·rw[<-R.hl,e0];have:=j6.length_eq;rw[zt]at this;simp;omega
  ·rw[j7,Array.eraseIdxIfInBounds,dif_pos (by rw[Array.size_setIfInBounds];exact hi),Array.size_eraseIdx,Array.size_setIfInBounds];omega
theorem tS(O:LtOk lt)(lo:Nat):LtOk (ltS lt lo):=⟨fun h=>O.as h,fun h k=>O.tr h k⟩
theorem pN{n:Nat}(hn:1<=n):Fx n (List.toArray (List.range n)) 1:=by
 have g:∀k,k<n->gA (List.toArray (List.range n)) k=k:=fun k hk=>by rw[dS];simp[hk]
 refine⟨by simp,fun k _ hk=>g k hk,fun i hi=>?_⟩;have e:i=0:=by omega
 subst e;rw[g 0 (by omega)];decide
theorem uX{n m lo:Nat}{u pre:Array Nat}(hpre:pre.size=lo)(hu:POk n u)(F:Fx n u m)(S:LS (ltS lt lo) u m)(hm:m<=n):∃r:List Nat,r.length=m/\r.Pairwise (Lx lt)/\r.Perm (List.range' lo m)/\(pj pre u).toList=pre.toList++(r++List.range' (lo+m) (n-m)):=by
 have hz:u.toList.length=n:=by rw[zA];exact F.sz
 have ed:u.toList.drop m=List.range' m (n-m):=by
  apply List.ext_getElem
  ·rw[zX,List.length_range',hz]
  ·intro i h1 h2;rw[zX,hz]at h1;rw[List.getElem_drop,List.getElem_range'];have:=F.hi (m+i) (by omega) (by omega);rw[aB,zj,zm (by omega)]at this;rw[Nat.one_mul];exact this
 have ep:u.toList.Perm (List.range n):=by have:=Array.perm_iff_toList_perm.mp hu;simpa using this
 have er:List.range n=List.range m++List.range' m (n-m):=by rw[List.range_eq_range',List.range_eq_range'];have:=List.range'_append (s:=0) (m:=m) (n:=n-m) (step:=1);rw[Nat.one_mul,Nat.zero_add]at this;rw[this];congr 1;omega
 have pt:(u.toList.take m).Perm (List.range m):=by have e:=zI m u.toList;rw[ed]at e;rw[<-e,er]at ep;exact(List.perm_append_right_iff _).mp ep
 refine⟨(u.toList.take m).map (lo+·),by rw[zr,Za];omega,?_,?_,?_⟩
 ·rw[List.pairwise_map];have hS:(u.toList.take m).Pairwise (Lx (ltS lt lo)):=by rw[ZE];intro i j hi hj hij;rw[Za]at hi hj;have:=S i j hij (by omega);rw[aB,aB,zj,zj,zm (by omega),zm (by omega)]at this;rw[List.getElem_take,List.getElem_take];exact this
  refine hS.imp fun{a b} hab=>⟨hab.1,?_⟩
  rcases hab.2 with x|x
  ·exact .inl x
  ·exact .inr (by omega)
 ·rw[List.range'_eq_map_range];exact pt.map _
 ·unfold pj;rw[zG,Array.toList_map,hpre];congr 1;have e:=zI m u.toList;rw[ed]at e
  conv=>lhs;rw[<-e]
  rw[zV];congr 1;rw[List.range'_eq_map_range,List.range'_eq_map_range,List.map_map];apply List.map_congr_left;intro x _;show lo+(m+x)=lo+m+x;omega
end
open PySem PyProof.Rows PySem.W
section
variable{lt:Nat->Nat->Bool}{prog:Program}{w:World}{A:Around}{E:Value->Shared->Prop}{s:Shared}{κ:SortKind}{it:Array Keyed}{N:Nat}{st:SortSt}
theorem vI(Z:Zc prog w A s κ it lt N)(O:LtOk lt){lo mr:Nat}{p:Array Nat}{rs:List (List Nat)}(R:RI κ it lt N lo (List.range' lo (N - lo)) p rs st)(hlo:lo<N){β:Type}{g:Nat->StateT SortSt Sem β}{Q:β->SortSt->Prop}(h:∀ (m:Nat) (r:List Nat) (p':Array Nat) (st':SortSt),1<=m->lo+m<=N->r.length=m->r.Pairwise (Lx lt)->r.Perm (List.range' lo m)->RI κ it lt N lo (r++List.range' (lo+m) (N - (lo+m))) p' rs st'->pendingOf st'=pendingOf st->wpS (model prog w) A E s (g m) Q st'){bad:StateT SortSt Sem β}{k:Option Nat->StateT SortSt Sem β}(hk:∀ m,k (some m)=(if m<mr then do
    liftM (rule "list.sort.binary-insertion")
    let ok ←binarySort' lo (min (N-lo) mr) m
    if(!ok)=true then bad else g (min (N-lo) mr)
   else g m)):wpS (model prog w) A E s (countRun' lo (N - lo) >>= k) Q st:=by
 have hl:=R.hl;have O':LtOk (ltS lt (List.toArray rs.flatten).size):=tS O _;have n0:1<=N-lo:=by omega
 have hz:(List.toArray rs.flatten).size=lo:=by rw[zp];exact hl
 have pu:POk (N-lo) (List.toArray (List.range (N-lo))):=Array.Perm.refl _;have P:Zp prog w A s κ it lt N st (List.toArray rs.flatten) (N-lo):=⟨Z,R.hk,by omega,by omega⟩
 have ep:p=pj (List.toArray rs.flatten) (List.toArray (List.range (N-lo))):=by apply Array.toList_inj.mp;rw[R.hp];unfold pj;rw[zG,Array.toList_map,List.toList_toArray,List.toList_toArray,hz,List.range'_eq_map_range]
 have est:st=stQ it st (pj (List.toArray rs.flatten) (List.toArray (List.range (N-lo)))):=by unfold stQ;rw[<-ep,<-R.ha]
 have fin:∀(m:Nat) (u':Array Nat),POk (N-lo) u'->1<=m->m<=N-lo->Fx (N-lo) u' m->LS (ltS lt (List.toArray rs.flatten).size) u' m->wpS (model prog w) A E s (g m) Q (stQ it st (pj (List.toArray rs.flatten) u')):=fun m u' hu h1 h2 h3 h4=>by
  rw[hz]at h4;obtain⟨r,r1,r2,r3,r4⟩:=uX hz hu h3 h4 h2;refine h m r (pj (List.toArray rs.flatten) u') _ h1 (by omega) r1 r2 r3 ⟨R.hk,R.hf,rfl,?_,?_,R.rl,hl⟩ rfl
  ·rw[r4,List.toList_toArray,show N-(lo+m)=N-lo-m by omega]
  ·refine List.Perm.trans ?_ R.pm;rw[r4,R.hp,List.toList_toArray];refine List.Perm.append_left _ ?_;refine(r3.append_right _).trans (List.Perm.of_eq ?_);have:=List.range'_append (s:=lo) (m:=m) (n:=N-lo-m) (step:=1);rw[Nat.one_mul]at this;rw[this];congr 1;omega
 have kc:=pV O' (N:=N-lo) (p:=List.toArray (List.range (N-lo))) n0 (pN n0);rw[est];have zc:=sP (E:=E) (Q:=fun r st'=>wpS (model prog w) A E s (k r) Q st') P pu kc fun m u' hu h1 h2 hG=>by
  obtain⟨g1,g2,g3,g4⟩:=hG;rw[hk];refine au (fun c=>?_) fun c=>?_
  ·refine zk (wpS_lift (wpAny_rule ⟨rfl,?_⟩));have em:max m 1=m:=by omega
   have kb:=lf O' (N:=N-lo) (min (N-lo) mr-max m 1) (p:=u') (k:=max m 1) (by omega) (by omega) (by rw[em];exact g3) (by rw[em];exact g4);have zb:=wI (E:=E) (nf:=min (N-lo) mr) (ok:=m) (Q:=fun r st'=>wpS (model prog w) A E s (if(!r)=true then bad else g (min (N-lo) mr)) Q st') P hu (by omega) kb fun u2 hu2 hG2=>by
    rw[if_neg (by simp)];have e2:max m 1+(min (N-lo) mr-max m 1)=min (N-lo) mr:=by omega
    rw[e2]at hG2;exact fin _ u2 hu2 (by omega) (by omega) hG2.1 hG2.2
   rw[hz]at zb;exact zk zb
  ·exact fin m u' hu h1 h2 g3 g4
 rw[hz]at zc;exact zk zc
def jV(N pw:Nat):StateT SortSt Sem (Option Unit×Unit):=forIn [0:N] ((none,()):Option Unit×Unit) fun _ _=>do
 let st ←get
 match(if(pendingOf st).size>1 then(pendingOf st)[(pendingOf st).size-2]? else none)with
 |some (_,_,old)=>if old<=pw then pure (.done (none,()))else do
  let ok ←mergeAt' ((pendingOf st).size-2)
  if(!ok)=true then pure (.done (some (),()))else pure (.yield (none,()))
 |_=>pure (.done (none,()))
def jZ(N lo n:Nat):StateT SortSt Sem (ForInStep (Option Unit×Nat)):=do
 let st ←get
 match(pendingOf st).back? with
 |some (s1,n1,_)=>do
  let c ←jV N (power' N (2*s1+n1) (2*s1+n1+n1+n) N)
  match c.1 with
  |some r=>pure (.done (some r,lo))
  |none=>do
   modify fun st=>setPending st ((pendingOf st).modify ((pendingOf st).size-1) fun t=>(t.1,t.2.1,power' N (2*s1+n1) (2*s1+n1+n1+n) N))
   modify fun st=>setPending st ((pendingOf st).push (lo,n,0))
   pure (.yield (none,lo+n))
 |_=>do
  modify fun st=>setPending st ((pendingOf st).push (lo,n,0))
  pure (.yield (none,lo+n))
theorem wJ(Z:Zc prog w A s κ it lt N)(O:LtOk lt){lo pw:Nat}{T:List Nat}{p:Array Nat}{rs:List (List Nat)}(R:RI κ it lt N lo T p rs st){Q:Option Unit×Unit->SortSt->Prop}(h:∀st' p' rs',RI κ it lt N lo T p' rs' st'->Q (none,()) st'):wpS (model prog w) A E s (jV N pw) Q st:=by
 unfold jV;refine Zb (I:=fun _ c st'=>c=(none,())/\∃p' rs',RI κ it lt N lo T p' rs' st') ?_ ?_ ⟨rfl,p,rs,R⟩
 ·rintro x c st' _ _ ⟨rfl,p',rs',R'⟩;refine zk (wpS_get ?_);by_cases hs:(pendingOf st').size>1
  ·rw[if_pos hs];have e:(pendingOf st')[(pendingOf st').size-2]?=some ((pendingOf st')[(pendingOf st').size-2]'(by omega)):=Array.getElem?_eq_getElem (by omega);rw[e];refine au (fun _=>zl (h st' p' rs' R')) fun _=>?_;refine zk (rq Z O R' (by omega) fun st2 p2 rs2 R2 _=>?_);refine au (fun z=>absurd z (by simp)) fun _=>zl ⟨rfl,p2,rs2,R2⟩
  ·rw[if_neg hs];exact zl (h st' p' rs' R')
 ·rintro c st' ⟨rfl,p',rs',R'⟩;exact h st' p' rs' R'
theorem RI.push{lo m:Nat}{r:List Nat}{p:Array Nat}{rs:List (List Nat)}{T:List Nat}(R:RI κ it lt N lo (r++T) p rs st)(h1:1<=m)(hr:r.length=m)(hw:r.Pairwise (Lx lt))(hp:r.Perm (List.range' lo m)):RI κ it lt N (lo+m) T p (rs++[r]) (setPending st ((pendingOf st).push (lo,m,0))):=by
 have hl:=R.hl;refine⟨R.hk,R.hf,R.ha,?_,R.pm,?_,?_⟩
 ·rw[R.hp];simp
 ·show RunsL lt 0 (rs++[r]) ((pendingOf st).push (lo,m,0)).toList;rw[Array.toList_push];have:=R.rl.snoc (r:=r) (x:=0) (by omega) hw (by rw[Nat.zero_add,hl,hr];exact hp);rw[Nat.zero_add,hl,hr]at this;exact this
 ·simp;rw[<-List.length_flatten,hl,hr]
theorem wL(Z:Zc prog w A s κ it lt N)(O:LtOk lt){lo m:Nat}{r:List Nat}{p:Array Nat}{rs:List (List Nat)}{T:List Nat}(R:RI κ it lt N lo (r++T) p rs st)(h1:1<=m)(hr:r.length=m)(hw:r.Pairwise (Lx lt))(hp:r.Perm (List.range' lo m)){Q:ForInStep (Option Unit×Nat)->SortSt->Prop}(h:∀st' p' rs',RI κ it lt N (lo+m) T p' rs' st'->Q (.yield (none,lo+m)) st'):wpS (model prog w) A E s (jZ N lo m) Q st:=by
 unfold jZ;refine zk (wpS_get ?_);cases hb:(pendingOf st).back? with
 |none=>exact zk (wpS_modify (zl (h _ _ _ (R.push h1 hr hw hp))))
 |some t =>obtain⟨s1,n1,o1⟩:=t;refine zk (wJ Z O R fun st' p' rs' R'=>?_);refine zk (wpS_modify (zk (wpS_modify (zl (h _ p' (rs'++[r]) (RI.push (st:=setPending st' ((pendingOf st').modify ((pendingOf st').size-1) fun t=>(t.1,t.2.1,power' N (2*s1+n1) (2*s1+n1+n1+m) N))) ⟨R'.hk,R'.hf,R'.ha,R'.hp,R'.pm,?_,R'.hl⟩ h1 hr hw hp))))));show RunsL lt 0 rs' ((pendingOf st').modify ((pendingOf st').size-1) _).toList;rw[Array.toList_modify];exact R'.rl.pow (g:=fun t=>(t.1,t.2.1,power' N (2*s1+n1) (2*s1+n1+n1+m) N)) (fun t=>⟨rfl,rfl⟩) _
theorem vJ(Z:Zc prog w A s κ it lt N)(O:LtOk lt)(h1:1<=N){Q:Unit->SortSt->Prop}(h:∀(p:Array Nat) (st':SortSt),POk N p->LS lt p N->p.size=N->arrOf st'=p.map (kas_item it)->failedOf st'=none->Q () st') :
  wpS (model prog w) A E s sortRuns' Q (SortSt.mk' κ ((List.toArray (List.range N)).map (kas_item it)) #[] 7 none):=by
 rw[sortRuns'_eq];refine zk (wpS_get ?_);have esz:(arrOf (SortSt.mk' κ ((List.toArray (List.range N)).map (kas_item it)) #[] 7 none)).size=N:=by show((List.toArray (List.range N)).map (kas_item it)).size=N;simp
 rw[esz];have R0:RI κ it lt N 0 (List.range' 0 (N-0)) (List.toArray (List.range N)) [] (SortSt.mk' κ ((List.toArray (List.range N)).map (kas_item it)) #[] 7 none):=by refine⟨rfl,rfl,rfl,?_,List.Perm.refl _,trivial,rfl⟩;rw[List.toList_toArray,List.range_eq_range',Nat.sub_zero];rfl
 refine zk (Zi (Zb (I:=fun x c st'=>∃ lo p rs,c=(none,lo)/\RI κ it lt N lo (List.range' lo (N - lo)) p rs st'/\lo<=N/\x<=lo)
  (Q:=fun c st'=>c=(none,N)/\∃ p rs,RI κ it lt N N [] p rs st') ?step ?fin ⟨0,_,_,rfl,R0,by omega,zh _⟩) ?post)
 case fin =>
  rintro c st' ⟨lo,p,rs,rfl,R,h2,h3⟩;have e:lo=N:=by omega
  subst e;refine⟨rfl,p,rs,?_⟩;rw[Nat.sub_self]at R;exact R
 case step =>
  rintro x c st' _ hx ⟨lo,p,rs,rfl,R,h2,h3⟩;dsimp -zeta only;refine au (fun hge=>?_) fun hge=>?_
  ·have e:lo=N:=by omega
   subst e;rw[Nat.sub_self]at R;exact zl ⟨rfl,p,rs,R⟩
  refine vI Z O R (by omega) (g:=jZ N lo) (mr:=minRun' N N 0) (bad:=pure (ForInStep.done (some (),lo))) (fun m r p' st2 m1 m2 r1 r2 r3 R2 _=>?_) (fun m=>by kernel_rfl);exact wL Z O R2 m1 r1 r2 r3 fun st3 p3 rs3 R3=>⟨lo+m,p3,rs3,rfl,R3,m2,by omega⟩
 case post =>
  rintro c st' ⟨rfl,p,rs,R⟩;dsimp only;have hle:∀{c:Prop} [Decidable c] (x:Nat),(if c then x-1 else x)<=x:=fun x=>by split<;>omega
  have hsz:(pendingOf st').size<=N:=by obtain⟨q1,q2⟩:=R.rl.len;have q3:(pendingOf st').toList.length=(pendingOf st').size:=zA;have q4:=R.hl;omega
  refine zk (Zi (Zb (I:=fun x c st'=>c=(none,())/\(∃ p rs,RI κ it lt N N [] p rs st')/\((pendingOf st').size+x<=N\/(pendingOf st').size<=1))
   (Q:=fun c st'=>c=(none,())/\(∃ p rs,RI κ it lt N N [] p rs st')/\(pendingOf st').size<=1) ?step2 ?fin2 ⟨rfl,⟨p,rs,R⟩,.inl hsz⟩) ?post2)
  case fin2 =>rintro c st2 ⟨rfl,hR,h2⟩;exact⟨rfl,hR,by omega⟩
  case step2 =>
   rintro x c st2 _ hx ⟨rfl,⟨p2,rs2,R2⟩,h2⟩;refine zk (wpS_get ?_);refine au (fun hge=>zl ⟨rfl,⟨p2,rs2,R2⟩,hge⟩) fun hge=>?_;refine zk (rq Z O R2 ?_ fun st3 p3 rs3 R3 e3=>?_)
   ·exact Nat.lt_of_le_of_lt (Nat.add_le_add_right (hle _) 1) (by omega)
   ·refine au (fun z=>absurd z (by simp)) fun _=>zl ⟨rfl,⟨p3,rs3,R3⟩,by omega⟩
  case post2 =>
   rintro c st2 ⟨rfl,⟨p2,rs2,R2⟩,h2⟩;have ln:=R2.rl.len;rw[zA]at ln;have hl:=R2.hl;have hp:=R2.hp;have rl:=R2.rl
   match rs2,hl,hp,rl,ln with
   | [],hl,_,_,_=>exact absurd hl (by simp;omega)
   |r::r2::rs3,_,_,_,ln=>exact absurd ln.1 (by simp;omega)
   | [r],hl,hp,rl,_ =>
    rw[ZA,List.flatten_singleton]at hp
    match hpl:(pendingOf st2).toList,rl with
    | [],rl=>exact rl.elim
    |t::ts,⟨_,_,_,pw,_,_⟩ =>
     have hz:p2.size=N:=by rw[<-zA,R2.pm.length_eq,List.length_range]
     refine zl (h p2 st2 (Array.perm_iff_toList_perm.mpr (by simpa using R2.pm)) (fun i j hij hj=>mq (by rw[hp];exact pw) i j hij (by omega)) hz R2.ha R2.hf)
end
open PySem PySem.Spec PyProof.Rows PySem.W
theorem eW{n:Nat}(h:n<=4096):n<=sizeLine:=by rw[sizeLine_eq];omega
open PySem PySem.Spec PyProof.Rows PySem.W
inductive ZKey where
 |i (n:Int)|t (ns:List Int)
def ZKey.at(H:Hp):ZKey->V->Prop
 |.i n,v=>v=.int n
 |.t ns,v=>∃a,v=.ref a/\H a=some (.tup (ns.map V.int))
section
variable{X:Cx}{pins:List (Addr×Obj)}{σ:St}{H:Hp}{s:Shared}{h':Heap}
structure SGZ(X:Cx)(pins:List (Addr×Obj))(σ:St)(H1:Hp)(m:Str->Option Value)(kS D:Addr)(e1:Nat)(ks:List ZKey)(as:List V)(us:List Value)(e:Nat)(H:Hp)(s:Shared):Prop where
 I:Inv X pins σ H s
 sm:Same H1 H
 fk:bn X pins H kS
 fd:bn X pins H D
 bk:X.base.get? kS=none
 bd:X.base.get? D=none
 hk:s.heap.get? kS=some (seqObj "list" (List.toArray us) e)
 hd:s.heap.get? D=some (seqObj "list" #[] e1)
 ns:s.heap.Ns X.env.locals m
 vals:Vals as us
 keys:∀(i:Nat) (a:V) (k:ZKey),as[i]?=some a->ks[i]?=some k->k.at H a
end
open PySem PySem.Spec PyProof.Rows PySem.W
open PySem PySem.Spec PyProof.Rows PySem.W
open PySem PySem.Spec PyProof.Rows PySem.W
open PySem PySem.Spec PyProof.Rows PySem.W
end L2
set_option maxHeartbeats 4000000
namespace PySem
open Sem (wp)
section
variable{prog:Program}{w:World}{K:Type}[DecidableEq K]{knd:KeyKind prog w K}
structure PairAt(knd:KeyKind prog w K)(h:Heap)(p:Addr×List K×Addr×Value):Prop where
 tup:∃o n,h.get? p.1=some o/\o.cls=.type "tuple"/\o.data=.seq #[.ref p.2.2.1,p.2.2.2] n
 key:IsTupleKey knd h p.2.1 p.2.2.1
variable{A:Around}{R:Result->Shared->Prop}
end
end PySem
namespace L2
open PySem PySem.Spec PyProof.Rows PySem.W
open PySem PySem.Spec PyProof.Rows PySem.W
open PySem PySem.Spec PyProof.Rows PySem.W
def ItD(o:Obj)(a:Addr):It where
 go:=fun i H=>∃kvs,H a=some (.frz o (.dT kvs))/\i<kvs.length
 yld:=fun i H x H'=>H'=H/\∀kvs,H a=some (.frz o (.dT kvs))->∃p b,kvs[i]?=some p/\x=.ref b/\H b=some (.tup (p.1.map kV))
 stop:=fun i H=>∃kvs,H a=some (.frz o (.dT kvs))/\kvs.length<=i
theorem tO{H:Hp}{kvs:List (List Key×V)}{xs:List (List Key×Addr×Value)}(r:KT H kvs xs):∀{i:Nat} {x:List Key×Addr×Value},xs[i]?=some x->∃p,kvs[i]?=some p/\H x.2.1=some (.tup (p.1.map kV)):=by
 induction r with
 |nil=>intro i x h;simp at h
 |@cons p q _ _ h _ ih =>
  intro i x e;cases i with
  |zero=>cases e;exact⟨p,rfl,h.2.1⟩
  |succ i=>exact ih e
theorem ny{P:Program}{w:World}{H:Hp}{h:Heap}{a:Addr}{o:Obj}{kvs:List (List Key×V)}(ok:HOk P w H h)(e:H a=some (.frz o (.dT kvs))) :
  (a==sysModules)=false/\∃xs es ep,KT H kvs xs/\h.get? a=some o/\o.ExactDict/\o.data=.dict es ep/\es.toList=xs.map (entryOfKey (tupleKind (aZ P w)))/\kvs.length=es.size:=by
 obtain⟨ho,z,y,xs,r,o',es,ep,h1,h2,h3,h4,h5⟩:=(show ObjOk P w H h a (.frz o (.dT kvs))from ok a _ e)
 rw[ho]at h1;cases h1;exact⟨y,xs,es,ep,r,ho,h2,h3,h4,(Zn r).trans (size_of_entries h4).symm⟩
theorem oR{P:Program}{w:World}{K:PySem.W.Frag}{tg:Expr}(o:Obj)(a it:Addr):Turn P w K tg (ItD o a) [it] it (fun i h=>∃es ep,o.data=.dict es ep/\i<=es.size/\h.IsKeyIter it a i es.size ep) where
 mem:=by simp
 obj:=fun i h st b hb=>by
  have e:b=it:=by simpa using hb
  subst e;obtain⟨es,ep,_,_,o,e,c,d⟩:=st;exact⟨o,e,fun v z=>by rw[d]at z;cases z⟩
 keep:=fun i h h' st k=>by obtain⟨es,ep,h1,h2,h3⟩:=st;exact⟨es,ep,h1,h2,h3.at fun o e=>k it (by simp) o e⟩
 item:=by
  intro X hP hw hK hc i pins s σ H E I hf st hg;subst hP hw hK;obtain⟨kvs,hq,hx⟩:=hg;obtain⟨es,ep,sd,sl,st⟩:=st;obtain⟨lo,xs,es',ep',r,ho,hx2,hd,h4,hl⟩:=ny I.hok hq;rw[sd]at hd;cases hd;obtain⟨f0,f1,f2,f3,f4,f5⟩:=hf it (by simp);have hi:i<es.size:=by omega
  refine kj st ⟨o,ho,hx2,sd⟩ hi fun h' st' sb=>?_;have I1:Inv X pins σ H { s with heap:=h' }:=I.turned (t':=s.toks) (fun b o hb e=>(sb.2 b hb).trans e) f0 f1 f3 f4 f5;obtain⟨oi,e,c,d⟩:=id st';have hxs:i<xs.length:=by rw[<-size_of_entries h4];exact hi
  have hk:es[i].key=Value.ref xs[i].2.1:=by have e1:=entry_at h4 (j:=i);rw[zm hxs,Array.getElem?_eq_getElem hi]at e1;have e2:=zE e1;rw[e2];rfl
  obtain⟨p,hp,hb⟩:=tO r (zm hxs);refine⟨_,rfl,lX (s:={ s with heap:=h' }) e c d (by decide) ⟨.ref xs[i].2.1,H,I1,hk,⟨rfl,fun kvs' hy=>?_⟩,⟨es,ep,sd,by omega,st'⟩,fun b hb=>(hf b hb).1⟩⟩;rw[hq]at hy;cases hy;exact⟨p,xs[i].2.1,hp,rfl,hb⟩
 done:=by
  intro X hP hw hK hc i pins s σ H E I hf st hg;subst hP hw hK;obtain⟨kvs,hq,hx⟩:=hg;obtain⟨es,ep,sd,sl,st⟩:=st;obtain⟨lo,xs,es',ep',r,ho,hx2,hd,h4,hl⟩:=ny I.hok hq;rw[sd]at hd;cases hd;obtain⟨f0,f1,f2,f3,f4,f5⟩:=hf it (by simp);obtain rfl:i=es.size:=by omega
  exact lB (I.ok.hd hc) st ⟨o,ho,hx2,sd⟩ fun h' eb=>⟨rfl,I.turned (t':=s.toks) (fun b o hb e=>eb b o hb e) f0 f1 f3 f4 f5⟩
 self:=fun _ _ _ _ _ st h=>by obtain⟨es,ep,h1,h2,h3⟩:=st;exact wpAny_pyIter_keyiter h3 h
section
variable{X:Cx}{tg:Expr}
theorem Inv.freeze{pins:List (Addr×Obj)}{σ:St}{H:Hp}{s:Shared}{a:Addr}{o:Obj}{kvs:List (List Key×V)}(I:Inv X pins σ H s)(hq:H a=some (.dT kvs))(ho:s.heap.get? a=some o):Inv X pins σ (upd H a (.frz o (.dT kvs))) s :=
 I.write (x:=a) (e:=a) (h':=s.heap) (t':=s.toks) (by rw[hq];exact True.intro) (.inl rfl) (fun b u _ e=>e) ⟨o,ho⟩
  ⟨ho,ObjOk.stay (show ObjOk X.prog X.w H s.heap a (.dT kvs) from I.hok a _ hq) (fun b u _ e=>e) (fun b e=>by
   rw[af fun z=>by rw[z,hq]at e;cases e];exact e) fun b xs e=>by
   rw[af fun z=>by rw[z,hq]at e;cases e];exact e⟩
def tD(tl:TE):TI:=fun σ H R=>tl σ H fun x H1=>∃a kvs,x=.ref a/\H1 a=some (.dT kvs)/\∀o,R (ItD o a) (upd H1 a (.frz o (.dT kvs)))
theorem uE{l:Expr}{tl:TE}(hl:PE X l tl):PI X tg l (tD tl):=by
 intro pins s σ H R I h;refine thn (hl pins s σ H _ I h) fun v s1 hz9=>?_;obtain⟨x,H1,I1,r1,q1⟩:=hz9;obtain⟨a,kvs,e,hq,q⟩:=q1;subst e;cases r1;obtain⟨z,lo,xs,r,o,es,ep,h1,h2,h3,h4,h5⟩:=(show ObjOk X.prog X.w H1 s1.heap a (.dT kvs)from I1.hok a _ hq)
 refine kl lo ⟨o,h1,h2,h3⟩ ?_;have I2:=I1.freeze hq h1;refine⟨s1.heap.objs.size,[s1.heap.objs.size],_,_,_,rfl,I2.kept (t':=s1.toks) fun b o e=>ze _ e,oR o a _,⟨es,ep,h3,zR _,_,zw _ rfl,rfl,rfl⟩,fun b hb=>?_,q o⟩;have e:b=s1.heap.objs.size:=by simpa using hb
 subst e;exact I2.fpOk (zh _) (I2.hok.fresh (zh _))
theorem Inv.thaw{pins:List (Addr×Obj)}{σ:St}{H:Hp}{s:Shared}{a:Addr}{o:Obj}{u:HO}(I:Inv X pins σ H s)(hq:H a=some (.frz o u))(h0:∀o' u',X.H₀ a≠some (.frz o' u'))(ht:∀xs,X.H₀ a≠some (.tup xs))(hb:∀ps,X.H₀ a≠some (.tbl ps)) :
  Inv X pins σ (upd H a u) s:=by
 have hn:∀b,H b=none->upd H a u b=none:=fun b e=>by rw[af fun z=>by rw[z,hq]at e;cases e];exact e
 refine⟨I.ok,I.os,I.bare,⟨I.base.keep,I.base.slot,fun b ob e1 e2 e3=>hn _ (I.base.free b ob e1 e2 e3),I.base.there,fun b xs e=>?_,fun b ob v e=>?_,fun b ps e=>?_⟩,I.loc,I.cell,hn _ I.free,fun x c e=>hn _ (I.freeC x c e),
  fun p hp=>?_,fun b v e=>?_,I.len⟩
 ·rw[af fun(z:b=a)=>ht xs (by rw[<-z];exact e)];exact I.base.tups b xs e
 ·rw[af fun(z:b=a)=>h0 ob v (by rw[<-z];exact e)];exact I.base.frzs b ob v e
 ·rw[af fun(z:b=a)=>hb ps (by rw[<-z];exact e)];exact I.base.tbls b ps e
 ·obtain⟨p1,p2,p3⟩:=I.pin p hp;exact⟨p1,hn _ p2,p3⟩
 ·have st:∀ {c:Addr} {v:HO},ObjOk X.prog X.w H s.heap c v->ObjOk X.prog X.w (upd H a u) s.heap c v:=fun x=>ObjOk.stay x (fun b u _ e=>e) (fun b e=>by
   rw[af fun z=>by rw[z,hq]at e;cases e];exact e) fun b xs e=>by
   rw[af fun z=>by rw[z,hq]at e;cases e];exact e
  by_cases c:b=a
  ·subst c;rw[ae]at e;cases e;exact st (show ObjOk X.prog X.w H s.heap b (.frz o _)from I.hok b _ hq).2
  ·rw[af c]at e;exact st (I.hok b v e)
theorem qQ{l:Expr}{te:TE}(hl:QE X l te):QI X tg l (tD te):=⟨uE hl.h⟩
def Loose(H:Hp)(a:Addr):Prop:=(∀o' u',H a≠some (.frz o' u'))/\(∀xs,H a≠some (.tup xs))/\∀ps,H a≠some (.tbl ps)
theorem Loose.dt{H:Hp}{a:Addr}{kvs:List (List Key×V)}(h:H a=some (.dT kvs)):Loose H a:=⟨fun _ _ z=>(by rw[h]at z;cases z),fun _ z=>(by rw[h]at z;cases z),fun _ z=>(by rw[h]at z;cases z)⟩
def wA(H0:Hp)(t:TE):TE:=fun σ H Q=>t σ H fun v H'=>∃a o u,H' a=some (.frz o u)/\Loose H0 a/\Q v (upd H' a u)
theorem oA{e:Expr}{t:TE}(h:QE X e t):QE X e (wA X.H₀ t):=⟨fun pins s σ H Q I q=>thn (h.h pins s σ H _ I q) fun v s1 ⟨x,H1,I1,r1,a,o,u,e1,l,q1⟩=>⟨x,_,I1.thaw e1 l.1 l.2.1 l.2.2,r1,q1⟩⟩
end
theorem iN{a:Addr}{o:Obj}{kvs:List (List Key×V)}{n:Nat}{cap:List Nat}{g:TG}{tc:TT}{te:TE}{σ:St}{H0:Hp}{Q:VK}(Pv:Nat->List V->Hp->Prop)(hz:kvs.length<=1000)(hn:∀i ys H,Pv i ys H->ys.length<=i)(h0:Pv 0 [] H0)(hl:∀i ys H,Pv i ys H->H a=some (.frz o (.dT kvs)))(ht:∀i ys H p b,kvs[i]?=some p->H b=some (.tup (p.1.map kV))->Pv i ys H->∀Y:List V->Hp->Prop,(∀zs H4,Pv (i+1) zs H4->Y zs H4)->g (.ref b) (bD n cap σ) H fun σ2 H2=>tc σ2 H2 fun b H3=>if b=true then te σ2 H3 fun y H4=>Y (ys++[y]) H4 else Y ys H3)(hq:∀ys p H,Pv kvs.length ys H->H p=none->Q (.ref p) (upd H p (.lst ys))):eZ n cap g tc te σ (ItD o a) H0 Q:=by
 refine⟨fun i m ys H=>m=kvs.length-i/\i<=kvs.length/\Pv i ys H,⟨kvs.length,by simp,zR _,h0⟩,?_⟩;rintro i m ys H ⟨rfl,hi,pv⟩;have q:=hl i ys H pv;by_cases hlt:i<kvs.length
 ·refine .inr ⟨⟨kvs,q,hlt⟩,?_,fun x H' y=>?_⟩
  ·have:=hn i ys H pv;exact Nat.lt_of_le_of_lt (zS this (by omega)) (show 1000<sizeLine by decide)
  ·obtain⟨e,y⟩:=y;subst e;obtain⟨pr,b,e1,rfl,e2⟩:=y kvs q;exact ht i ys _ pr b e1 e2 pv (fun ys H4=>∃m',m'<kvs.length-i/\m'=kvs.length-(i+1)/\i+1<=kvs.length/\Pv (i+1) ys H4) fun zs H4 z=>⟨kvs.length-(i+1),by omega,rfl,hlt,z⟩
 ·have e:i=kvs.length:=by omega
  subst e;exact .inl ⟨⟨kvs,q,zh _⟩,fun p hp=>hq ys p H pv hp⟩
open PySem PySem.Spec PyProof.Rows PySem.W
open PySem PySem.Spec PyProof.Rows PySem.W
section
variable{X:Cx}{pins:List (Addr×Obj)}{σ:St}{H:Hp}{s:Shared}
theorem gS{A:Around}{E:Value->Shared->Prop}{P:PySem.Fin->Shared->Prop}{a:Addr}{n:Nat}{vs:List Value}(h2:vs.length<2)(ho:s.heap.get? a=some (seqObj "list" vs.toArray n))(h:∀(h3:Heap) (c:Nat),(∀b u,b≠a->s.heap.get? b=some u->h3.get? b=some u)->h3.get? a=some (seqObj "list" vs.toArray c)->P (.done (.ret .none)) { s with heap:=h3 }) :
  wpAny (model X.prog X.w) A (Builtin.«list.sort» ⟨[.ref a],[]⟩) P E s:=by
 have zs:vs.toArray.size<=sizeLine:=by rw[zp,sizeLine_eq];omega
 have s1:=Zd s.heap a (Obj.mapSeq fun _=>(#[]:Array Value));obtain⟨e1,ho1⟩:∃e1,(s.heap.update a (Obj.mapSeq fun _=>(#[]:Array Value))).get? a=some (seqObj "list" #[] e1):=⟨_,get?_update_seq ho fun _=>#[]⟩
 have ha3:(((s.heap.update a (Obj.mapSeq fun _=>(#[]:Array Value))).push (seqObj "tuple" vs.toArray 0)).push (seqObj "list" #[] 0)).get? a=some (seqObj "list" #[] e1):=ze _ (ze _ ho1);have kp:∀b u,b≠a->s.heap.get? b=some u->(((s.heap.update a (Obj.mapSeq fun _=>(#[]:Array Value))).push (seqObj "tuple" vs.toArray 0)).push (seqObj "list" #[] 0)).get? b=some u:=fun b u hb g=>ze _ (ze _ ((s1.2 b hb).trans g));rw[list_sort_plain];refine zd (listItems_at ho rfl ?_);refine zd (listUpdate_at ho rfl ?_ zs (zR _));refine zd (seqEpoch_at ho1 rfl ?_);refine zd (wpAny_newTuple ?_ zs);refine zd (wpAny_newList ?_ (zR _));refine wpAny_holding ?_;show wpAny (model X.prog X.w) A _ P E { s with heap:=((s.heap.update a (Obj.mapSeq fun _=>(#[]:Array Value))).push (seqObj "tuple" vs.toArray 0)).push (seqObj "list" #[] 0) };generalize((s.heap.update a (Obj.mapSeq fun _=>(#[]:Array Value))).push (seqObj "tuple" vs.toArray 0)).push (seqObj "list" #[] 0)=h1 at ha3 kp ⊢;dsimp only;have hn2:vs.toArray.size<2:=by rw[zp];exact h2
 rw[if_pos hn2,if_pos hn2];refine zd (zi ?_);rw[StateT.run_pure];refine zd (zi ?_);dsimp only;have em:Array.map (fun x=>x.snd) (arrOf (SortSt.mk' general' (vs.toArray.zip vs.toArray) #[] 7 none))=vs.toArray:=by show Array.map (fun x:Value×Value=>x.2) (vs.toArray.zip vs.toArray)=_;apply Array.toList_inj.mp;rw[Array.toList_map,Array.toList_zip];exact List.map_snd_zip (zh _)
 rw[em];have s2:=Zd h1 a (Obj.mapSeq fun _=>vs.toArray);obtain⟨c2,hc2⟩:∃c2,(h1.update a (Obj.mapSeq fun _=>vs.toArray)).get? a=some (seqObj "list" vs.toArray c2):=⟨_,get?_update_seq ha3 fun _=>vs.toArray⟩
 refine zd (seqEpoch_at ha3 rfl ?_);refine zd (listUpdate_at ha3 rfl ?_ (zR _) (Nat.le_succ_of_le zs));simp only[bne_self_eq_false,ZO,if_false];exact zi (h _ c2 (fun b u hb g=>(s2.2 b hb).trans (kp b u hb g)) hc2)
end
open PySem PySem.Spec PyProof.Rows PySem.W
open PySem PySem.Spec PyProof.Rows PySem.W
open PySem PySem.Spec PyProof.Rows PySem.W
def chV(c:Nat):V:=.str ⟨#[c]⟩
def ltC(cs:List Nat)(i j:Nat):Bool:=decide (cs.getD i 0<cs.getD j 0)
theorem tR(cs:List Nat):LtOk (ltC cs):=⟨fun {a b} h=>by
 unfold ltC at h ⊢;exact decide_eq_false (Nat.lt_asymm (of_decide_eq_true h)),fun{a b c} h k=>by
 unfold ltC at h k ⊢;exact decide_eq_false (Nat.not_lt.mpr (zS (Nat.not_lt.mp (of_decide_eq_false h)) (Nat.not_lt.mp (of_decide_eq_false k))))⟩
theorem fm{cs:List Nat}{vs:List Value}(hv:Vals (cs.map chV) vs){i:Nat}(hi:i<vs.length):∃t,vs.getD i Value.none=.str ⟨#[cs.getD i 0]⟩ t:=by
 have hl:(cs.map chV).length=vs.length:=hv.length;rw[zr]at hl;have h1:(cs.map chV)[i]?=some (chV (cs[i]'(by omega))):=by rw[Zz,zm (by omega)];rfl
 obtain⟨u,gu,ru⟩:=hv.get h1;obtain⟨t,rfl⟩:=ru;refine⟨t,?_⟩;rw[zj,gu,zj,zm (by omega)];rfl
theorem lv{cs:List Nat}{vs:List Value}(hv:Vals (cs.map chV) vs):∀(p:List Nat),(∀i∈p,i<vs.length)->Vals ((p.map fun i=>cs.getD i 0).map chV) (p.map fun i=>vs.getD i Value.none)
 | [],_=>.nil
 |i::p,h=>by obtain⟨t,e⟩:=fm hv (h i Zg);refine .cons ?_ (lv hv p fun j hj=>h j (zP _ hj));show RelV (chV (cs.getD i 0)) (vs.getD i Value.none);rw[e];exact⟨t,rfl⟩
theorem sr{cs p:List Nat}(h:p.Perm (List.range cs.length)):(p.map fun i=>cs.getD i 0).Perm cs:=by refine(h.map _).trans (List.Perm.of_eq ?_);refine List.ext_getElem (by simp) fun i h1 h2=>?_;simp[h2]
theorem ow{cs:List Nat}{p:Array Nat}(hz:p.size=cs.length)(h:LS (ltC cs) p cs.length):(p.toList.map fun i=>cs.getD i 0).Pairwise (·<=·):=by
 rw[List.pairwise_map,ZE];intro i j hi hj hij;rw[zA]at hi hj;have:=(h i j hij (by omega)).1;have g:∀k (hk:k<p.size),gA p k=p.toList[k]'(by rw[zA];exact hk):=fun k hk=>by unfold gA;rw[Ze,Array.getElem?_eq_getElem hk];rfl
 rw[g i hi,g j hj]at this;exact Nat.not_lt.mp (of_decide_eq_false this)
section
variable{X:Cx}{pins:List (Addr×Obj)}{σ:St}{H:Hp}{s:Shared}
theorem iZ{A:Around}{E:Value->Shared->Prop}{P:PySem.Fin->Shared->Prop}{a:Addr}{n:Nat}{vs:List Value}{cs:List Nat}(hz:vs.length<=4096)(hv:Vals (cs.map chV) vs)(ho:s.heap.get? a=some (seqObj "list" vs.toArray n))(h:∀(h3:Heap) (c:Nat) (ws:List Value) (ds:List Nat),Vals (ds.map chV) ws->ws.length<=4096->ds.Perm cs->ds.Pairwise (·<=·)->(∀b u,b≠a->s.heap.get? b=some u->h3.get? b=some u)->h3.get? a=some (seqObj "list" ws.toArray c)->P (.done (.ret .none)) { s with heap:=h3 }) :
  wpAny (model X.prog X.w) A (Builtin.«list.sort» ⟨[.ref a],[]⟩) P E s:=by
 have hl:(cs.map chV).length=vs.length:=hv.length;rw[zr]at hl;by_cases h2:vs.length<2
 ·refine gS h2 ho fun h3 c k1 k2=>h h3 c vs cs hv hz (List.Perm.refl _) ?_ k1 k2
  match cs,hl with
  | [],_=>exact .nil
  | [_],_=>exact List.pairwise_singleton _ _
  |_::_::_,hl=>exact absurd h2 (by rw[<-hl];simp)
 have zs:vs.toArray.size<=sizeLine:=by rw[zp];exact eW hz
 have s1:=Zd s.heap a (Obj.mapSeq fun _=>(#[]:Array Value));obtain⟨e1,ho1⟩:∃e1,(s.heap.update a (Obj.mapSeq fun _=>(#[]:Array Value))).get? a=some (seqObj "list" #[] e1):=⟨_,get?_update_seq ho fun _=>#[]⟩
 have ha3:(((s.heap.update a (Obj.mapSeq fun _=>(#[]:Array Value))).push (seqObj "tuple" vs.toArray 0)).push (seqObj "list" #[] 0)).get? a=some (seqObj "list" #[] e1):=ze _ (ze _ ho1);have kp:∀b u,b≠a->s.heap.get? b=some u->(((s.heap.update a (Obj.mapSeq fun _=>(#[]:Array Value))).push (seqObj "tuple" vs.toArray 0)).push (seqObj "list" #[] 0)).get? b=some u:=fun b u hb g=>ze _ (ze _ ((s1.2 b hb).trans g));rw[list_sort_plain];refine zd (listItems_at ho rfl ?_);refine zd (listUpdate_at ho rfl ?_ zs (zR _));refine zd (seqEpoch_at ho1 rfl ?_);refine zd (wpAny_newTuple ?_ zs);refine zd (wpAny_newList ?_ (zR _));refine wpAny_holding ?_;show wpAny (model X.prog X.w) A _ P E { s with heap:=((s.heap.update a (Obj.mapSeq fun _=>(#[]:Array Value))).push (seqObj "tuple" vs.toArray 0)).push (seqObj "list" #[] 0) };generalize((s.heap.update a (Obj.mapSeq fun _=>(#[]:Array Value))).push (seqObj "tuple" vs.toArray 0)).push (seqObj "list" #[] 0)=h1 at ha3 kp ⊢;dsimp only;have hn2:¬vs.toArray.size<2:=by rw[zp];exact h2
 rw[if_neg hn2,if_neg hn2];refine zd (kas_kind (T:=.type "str") (by omega) (fun u hu=>?_) rfl rfl ?_)
 ·obtain⟨j,hj,rfl⟩:=List.getElem_of_mem hu;obtain⟨t,e⟩:=fm hv hj;rw[zj,zm hj]at e;rw[show vs[j]=_ from e];exact .now
 have er:SortSt.mk' oneType' (vs.toArray.zip vs.toArray) #[] 7 none=SortSt.mk' oneType' ((List.toArray (List.range vs.length)).map (kas_item (vs.toArray.zip vs.toArray))) #[] 7 none:=by have e:=kas_range (vs.toArray.zip vs.toArray);rw[show(vs.toArray.zip vs.toArray).size=vs.length by simp]at e;rw[e]
 have Z:Zc X.prog X.w A { s with heap:=h1 } oneType' (vs.toArray.zip vs.toArray) (ltC cs) vs.length:=fun i j C hi hj hC=>by
  rw[<-kat_ask_eq rfl];obtain⟨t,e⟩:=fm hv hi;obtain⟨t2,e2⟩:=fm hv hj;unfold kas_ask;rw[e,e2];refine kas_lt_str ?_;have:decide (([cs.getD i 0]:List Nat)<[cs.getD j 0])=ltC cs i j:=by unfold ltC;rw[decide_eq_decide,List.cons_lt_cons_iff];simp
  show C (decide (([cs.getD i 0]:List Nat)<[cs.getD j 0])) _;rw[this];exact hC
 rw[er];refine zd (Zx (vJ (E:=E) (Q:=fun _ st'=>∃p:Array Nat,POk vs.length p/\LS (ltC cs) p vs.length/\p.size=vs.length/\arrOf st'=p.map (kas_item (vs.toArray.zip vs.toArray))/\failedOf st'=none) Z (tR cs) (by omega) fun p st' a1 a2 a3 a4 a5=>⟨p,a1,a2,a3,a4,a5⟩) ?_ fun _ _ x=>x);rintro⟨⟨⟩,st'⟩ s' ⟨rfl,p,a1,a2,a3,a4,a5⟩;dsimp only;rw[kat_snds rfl a4];have pl:p.toList.Perm (List.range vs.length):=by have:=Array.perm_iff_toList_perm.mp a1;simpa using this
 have lt:∀i∈p.toList,i<vs.length:=fun i hi=>by simpa using pl.mem_iff.mp hi
 have lw:(p.toList.map fun i=>vs.getD i Value.none).length=vs.length:=by rw[zr,zA,a3]
 have s2:=Zd h1 a (Obj.mapSeq fun _=>List.toArray (p.toList.map fun i=>vs.getD i Value.none));obtain⟨c2,hc2⟩:∃c2,(h1.update a (Obj.mapSeq fun _=>List.toArray (p.toList.map fun i=>vs.getD i Value.none))).get? a=some (seqObj "list" (List.toArray (p.toList.map fun i=>vs.getD i Value.none)) c2):=⟨_,get?_update_seq ha3 fun _=>List.toArray (p.toList.map fun i=>vs.getD i Value.none)⟩
 refine zd (seqEpoch_at ha3 rfl ?_);refine zd (listUpdate_at ha3 rfl ?_ (zR _) (by rw[zp,lw];exact Nat.le_succ_of_le (eW hz)));rw[a5];simp only[bne_self_eq_false,ZO,if_false];exact zi (h _ c2 _ _ (lv hv _ lt) (by omega) (sr (by rw[hl];exact pl)) (ow (by omega) (by rw[hl];exact a2)) (fun b u hb g=>(s2.2 b hb).trans (kp b u hb g)) hc2)
theorem kN(hc:X.calm=true):QCall X (.builtin "sorted") (fun xs H Q=>∃t:Str,xs=[.str t]/\t.cps.size<=4096/\∀(ds:List Nat) (D:Addr),ds.Perm t.cps.toList->ds.Pairwise (·<=·)->H D=none->Q (.ref D) (upd H D (.lst (ds.map chV)))):=by
 refine⟨?_⟩;intro pins s σ H xs us Q I r h;obtain⟨x,rfl,hz,q⟩:=h;obtain⟨u,rfl,ru⟩:=fJ r;obtain⟨t,rfl⟩:=ru;refine Calls.call_function_entry kind_sorted plain_sorted entry_sorted (args_sorted1 _) ?_;unfold Builtin.«sorted»;have hh:X.A.in1.handled=none:=I.ok.hd hc;refine zd (m:=checkCount "sorted" 1 1 _) (zi (zd (wpAny_collect_str hh x t (fun s' acc k g1 g2 g3 hacc=>?_) (eW hz))));have va:Vals (x.cps.toList.map chV) acc.toList:=by
  have go:∀(cs:List Nat) (its:List Value),cs.length=its.length->(∀(i:Nat) (v:Value),its[i]?=some v->∃c t,cs[i]?=some c/\v=.str ⟨#[c]⟩ t)->Vals (cs.map chV) its:=fun cs=>by
   induction cs with
   |nil =>
    intro its hl _;cases its with
    |nil=>exact .nil
    |cons _ _=>cases hl
   |cons c cs ih =>
    intro its hl h;cases its with
    |nil=>cases hl
    |cons v its =>obtain⟨c',t',e1,e2⟩:=h 0 v rfl;cases e1;exact .cons ⟨t',e2⟩ (ih its (Nat.succ.inj hl) fun i v hv=>h (i+1) v hv)
  refine go _ _ (by rw[zA,zA,hacc.1]) fun i v hv=>?_;obtain⟨c,u,e1,e2⟩:=hacc.2 i v (by rw[<-hv,ZP]);exact⟨c,u,by rw[ZP];exact e1,e2⟩
 have es:s'={ s with heap:=s'.heap,toks:=s'.toks }:=by cases s';cases s;cases g1;cases g2;cases g3;rfl
 have la:acc.toList.length<=4096:=by rw[zA,hacc.1];exact hz
 generalize acc.toList=its at va la;generalize s'.heap=hA at es k;generalize s'.toks=tA at es;subst es;refine zd (wpAny_newList ?_ (eW la));have da:s.heap.get? hA.objs.size=none:=by
  cases g:s.heap.get? hA.objs.size with
  |none=>rfl
  |some o=>exact absurd (zq (k _ _ g)) (ZI _)
 obtain⟨m,F0⟩:=I.fr;have g1:(hA.push (seqObj "list" its.toArray 0)).get? hA.objs.size=some (seqObj "list" its.toArray 0):=zw _ rfl;refine zd (wpAny_holding (Zh slot_list_sort ⟨_,g1,rfl⟩ entry_list_sort ?body (args_list_sort _)))
 case body =>
  refine iZ (X:=X) (s:={ s with heap:=hA.push (seqObj "list" its.toArray 0),toks:=tA }) la va g1 fun h3 c ws ds v1 v2 v3 v4 k3 a3=>⟨_,rfl,zi ⟨_,rfl,?_⟩⟩
  have lw:(ds.map chV).length=ws.length:=v1.length;have kk:∀b o,s.heap.get? b=some o->h3.get? b=some o:=fun b o g=>k3 b o (fun zz=>by rw[zz,da]at g;cases g) (ze _ (k b o g));exact⟨.ref _,_,I.laidF (t':=tA) (o:=.lst (ds.map chV)) (fun b o _ g=>kk b o g) ⟨m,F0.ns,F0.ns.keeps kk⟩ da ⟨by rw[lw];exact eW v2,ws,c,v1,a3⟩,rfl,q ds _ v3 v4 (none_of I da)⟩
end
end L2
set_option maxRecDepth 100000
set_option maxHeartbeats 4000000
namespace K26
open PySem L2
open PyProof.Rows (envOfC)
def top(i:Nat):Stmt:=PySem.Challenge.pw_limb_k26_no_sign_is_lost.main.body.getD i (.Pass ⟨0,0,0,0⟩)
def tw(l:List Str):TV:=.tup (l.map V.str)
theorem cxK{CX:CXT}{N:List Str}{qual:Str}{scope:Scope}{f:Addr}{cd:Value}{A:Around}{outer:List Env}{s:Shared}{H:Hp}{E:XK}:(dO CX P w K mg base N qual scope f cd A outer s H E).nox.K=K:=rfl
theorem vix{K:PySem.W.Frag}{i:Nat}{n:Int}{σ:St}{H:Hp}{Q:VK}{a:Addr}{xs:List V}{v:V}(hv:σ[i]?=some (some (.ref a)))(hs:SqT K H a xs)(ha:atI xs n=some v)(q:Q v H):tOp (mE K) (qF i) (tC (.int n)) σ H Q:=⟨_,hv,a,_,_,_,rfl,rfl,hs,ha,q⟩
theorem iP{K:PySem.W.Frag}{a:Addr}{xs:List V}{g:TG}{tb:L2.TS}{D:Ends}{σ:St}{H:Hp}(Pv:Nat->St->Hp->Prop)(h0:Pv 0 σ H)(hl:∀i σ H,i<=xs.length->Pv i σ H->SqL K H a xs)(hs:∀i x σ H,xs[i]?=some x->Pv i σ H->∀D':Ends,(∀σ' H',Pv (i+1) σ' H'->D'.nx σ' H')->g x σ H fun σ2 H2=>tb D' σ2 H2)(hd:∀σ H,Pv xs.length σ H->D.nx σ H) :
  ∃W:Nat->Nat->St->Hp->Prop,(∃m,W 0 m σ H)/\∀i m σ H,W i m σ H ->
   ((Itl K a).stop i H/\D.nx σ H)\/((Itl K a).go i H/\∃N:St->Hp->Prop,(∀σ' H',N σ' H'->∃m',m'<m/\W (i+1) m' σ' H')/\∀x H',(Itl K a).yld i H x H'->g x σ H' fun σ2 H2=>tb { D with nx:=N,ct:=N,bk:=D.nx } σ2 H2) :=
 pM Pv h0 hl (fun i x σ H a b=>hs i x σ H a b _ fun _ _ z=>z) hd
theorem iO{K:PySem.W.Frag}{a:Addr}{xs:List V}{j:Nat}{tb:L2.TS}{D:Ends}{σ:St}{H:Hp}(Pv:Nat->St->Hp->Prop)(h0:Pv 0 σ H)(hl:∀i σ H,i<=xs.length->Pv i σ H->SqL K H a xs)(hs:∀i x σ H,xs[i]?=some x->Pv i σ H->∀D':Ends,(∀σ' H',Pv (i+1) σ' H'->D'.nx σ' H')->tb D' (σ.set j (some x)) H)(hd:∀σ H,Pv xs.length σ H->D.nx σ H) :
  ∃W:Nat->Nat->St->Hp->Prop,(∃m,W 0 m σ H)/\∀i m σ H,W i m σ H ->
   ((Itl K a).stop i H/\D.nx σ H)\/((Itl K a).go i H/\∃N:St->Hp->Prop,(∀σ' H',N σ' H'->∃m',m'<m/\W (i+1) m' σ' H')/\∀x H',(Itl K a).yld i H x H'->bM j x σ H' fun σ2 H2=>tb { D with nx:=N,ct:=N,bk:=D.nx } σ2 H2) :=
 iP Pv h0 hl hs hd
theorem gK{lo:Int}{n:Nat}{g:TG}{tb:L2.TS}{D:Ends}{σ:St}{H:Hp}(Pv:Nat->St->Hp->Prop)(h0:Pv 0 σ H)(hs:∀i σ H,i<n->Pv i σ H->∀D':Ends,(∀σ' H',Pv (i+1) σ' H'->D'.nx σ' H')->g (.int (lo+i)) σ H fun σ2 H2=>tb D' σ2 H2)(hd:∀σ H,Pv n σ H->D.nx σ H) :
  ∃W:Nat->Nat->St->Hp->Prop,(∃m,W 0 m σ H)/\∀i m σ H,W i m σ H ->
   ((Itr lo n).stop i H/\D.nx σ H)\/((Itr lo n).go i H/\∃N:St->Hp->Prop,(∀σ' H',N σ' H'->∃m',m'<m/\W (i+1) m' σ' H')/\∀x H',(Itr lo n).yld i H x H'->g x σ H' fun σ2 H2=>tb { D with nx:=N,ct:=N,bk:=D.nx } σ2 H2) :=
 nw Pv h0 (fun i σ H a b=>hs i σ H a b _ fun _ _ z=>z) hd
theorem jQ{A:(St->Hp->Prop)->Prop}{B:St->Hp->Prop}(J:St->Hp->Prop)(h1:∀R:St->Hp->Prop,(∀σ H,J σ H->R σ H)->A R)(h2:∀σ H,J σ H->B σ H):∃R,A R/\∀σ H,R σ H->B σ H:=⟨J,h1 J fun _ _ z=>z,h2⟩
theorem aF{t u:L2.TS}{D:Ends}{σ:St}{H:Hp}(h:∀R:Ends,(∀σ' H',u D σ' H'->R.nx σ' H')->t R σ H):qE t u D σ H:=h { D with nx:=u D } fun _ _ z=>z
theorem nq{K:PySem.W.Frag}{a:Addr}{xs:List V}{i j:Nat}{tb:L2.TS}{D:Ends}{σ:St}{H:Hp}(Pv:Nat->St->Hp->Prop)(h0:Pv 0 σ H)(ha:∀i σ H,i<=xs.length->Pv i σ H->SqL K H a xs)(hs:∀k x σ H,xs[k]?=some x->Pv k σ H->∀D':Ends,(∀σ' H',Pv (k+1) σ' H'->D'.nx σ' H')->∀T,H T=none->tb D' ((σ.set i (some (.int k))).set j (some x)) (upd H T (.tup [.int k,x])))(hd:∀σ H,Pv xs.length σ H->D.nx σ H) :
  ∃W:Nat->Nat->St->Hp->Prop,(∃m,W 0 m σ H)/\∀k m σ H,W k m σ H ->
   ((Ite K a xs).stop k H/\D.nx σ H)\/((Ite K a xs).go k H/\∃N:St->Hp->Prop,(∀σ' H',N σ' H'->∃m',m'<m/\W (k+1) m' σ' H')/\∀x H',(Ite K a xs).yld k H x H'->jK K 2 (db (bM i) (db (bM j) jJ)) x σ H' fun σ2 H2=>tb { D with nx:=N,ct:=N,bk:=D.nx } σ2 H2) :=
 pL Pv h0 ha (fun k x σ H a b T c=>hs k x σ H a b _ (fun _ _ z=>z) T c) hd
def ST:List (Str×TV):=[("put",tw ["new","up","place","text"]),("move",tw ["item","up","place"]),("write",tw ["item","text"]),("mark",tw ["item","truth"]),("due",tw ["item","whom"]),("fold",tw ["item","truth"]),("part",tw ["item","at","new","place"]),("join",tw ["item","item"]),("gone",tw ["item"])]
theorem at0{x:V}{r:List V}:atI (x::r) 0=some x:=bU (xs:=x::r) (j:=0) rfl
theorem at1{x y:V}{r:List V}:atI (x::y::r) 1=some y:=bU (xs:=x::y::r) (j:=1) rfl
theorem at2{x y z:V}{r:List V}:atI (x::y::z::r) 2=some z:=bU (xs:=x::y::z::r) (j:=2) rfl
theorem at3{x y z u:V}{r:List V}:atI (x::y::z::u::r) 3=some u:=bU (xs:=x::y::z::u::r) (j:=3) rfl
theorem at4{x y z u v:V}{r:List V}:atI (x::y::z::u::v::r) 4=some v:=bU (xs:=x::y::z::u::v::r) (j:=4) rfl
theorem qS{c A B:Prop}[Decidable c](h:¬c)(hB:B):if decide c=true then A else B:=by rw[decide_eq_false h];exact aO hB
theorem vR:¬(("held":Str)="away"):=by decide +kernel
def ir(h a:Addr):List (Str×V):=bI "away" (.ref a) (bI "held" (.ref h) [])
theorem aH(h a:Addr):(ir h a).lookup ("held":Str)=some (.ref h):=by unfold ir;rw[bH,if_neg vR,bH,if_pos rfl]
theorem rF(h a:Addr){m:Str}(h1:¬m="away")(h2:¬m="held"):(ir h a).lookup m=none:=by
 unfold ir;rw[bH,if_neg h1,bH,if_neg h2]
 all_goals rfl
structure PlainAt(C:Addr)(H:Hp)(p d g:Addr)(kvs gvs:List (List Key×V)):Prop where
 ob:∃dx,H p=some (.ins C dx (ir d g))
 dc:H d=some (.dT kvs)
 gc:H g=some (.dT gvs)
 ne:d≠g
theorem PlainAt.same{C:Addr}{H H':Hp}{p d g:Addr}{kvs gvs:List (List Key×V)}(x:PlainAt C H p d g kvs gvs)(s:Same H H'):PlainAt C H' p d g kvs gvs:=by obtain⟨⟨dx,h1⟩,h2,h3,h4⟩:=x;exact⟨⟨dx,s _ _ h1⟩,s _ _ h2,s _ _ h3,h4⟩
theorem PlainAt.put{C:Addr}{H:Hp}{p d g:Addr}{kvs gvs kvs':List (List Key×V)}(x:PlainAt C H p d g kvs gvs):PlainAt C (upd H d (.dT kvs')) p d g kvs' gvs:=by obtain⟨⟨dx,h1⟩,h2,h3,h4⟩:=x;exact⟨⟨dx,by rw[af (dg h1 h2 (by intro z;cases z))];exact h1⟩,ae,by rw[af (Ne.symm h4)];exact h3,h4⟩
def But(d:Addr)(H H':Hp):Prop:=∀b o,H b=some o->b≠d->H' b=some o
def NameIs(H:Hp)(v:V)(k:List Key):Prop:=∃b,v=.ref b/\H b=some (.tup (k.map kV))
theorem NameIs.same{H H':Hp}{v:V}{k:List Key}(x:NameIs H v k)(s:Same H H'):NameIs H' v k:=by obtain⟨b,h1,h2⟩:=x;exact⟨b,h1,s _ _ h2⟩
def lI(K:PySem.W.Frag):Sp:=fun vs H Q _=>∃(k:Str) (ws:List Str),vs=[.str k]/\PyProof.Rows.KTD.datumAt k ST=some (tw ws)/\∀t,(∀H',SqT K H' t (ws.map V.str))->Q (.ref t) H
def oH(C:Addr):Sp:=fun vs H Q _=>∃(p dx:Addr),vs=[.ref p]/\H p=some (.ins C dx [])/\∀(d g:Addr) (H':Hp),H d=none->H g=none->PlainAt C H' p d g [] []->(∀b o,H b=some o->b≠p->H' b=some o)->Q .non H'
def kL(H:Hp)(kvs:List (List Key×V))(ws:List Str)(ps:List V):Prop:=ws.length=ps.length/\∀(i:Nat) (w:Str) (v:V),ws[i]?=some w->ps[i]?=some v ->
 (w="new"->∃k,NameIs H v k/\aS kvs k=none)/\((w="item"\/w="up")->v=.non\/∃k,NameIs H v k/\(aS kvs k).isSome=true)
def kz(C:Addr):Sp:=fun vs H Q _=>∃(p d g st:Addr) (kvs gvs:List (List Key×V)) (w:Str) (ws:List Str) (ps:List V),vs=[.ref p,.ref st]/\PlainAt C H p d g kvs gvs/\H st=some (.tup (.str w::ps)) /\
 PyProof.Rows.KTD.datumAt w ST=some (tw ws)/\kL H kvs ws ps/\∀H',Same H H'->Q .non H'
def iF(C:Addr):Sp:=fun vs H Q _=>∃(p d g:Addr) (kvs gvs:List (List Key×V)) (nm up pl tx:V) (k:List Key),vs=[.ref p,nm,up,pl,tx]/\PlainAt C H p d g kvs gvs/\NameIs H nm k/\kvs.length<=500 /\
 ∀(t:Addr) (H':Hp),Same H H'->H' t=some (.tup [up,pl,tx,.bl false,.non,.bl false])->Q .non (upd H' d (.dT (aD kvs k (.ref t))))
def gB(C:Addr):Sp:=fun vs H Q _=>∃(p d g it va:Addr) (kvs gvs:List (List Key×V)) (nm:V) (k:List Key) (i:Nat) (xs ys:List V),vs=[.ref p,nm,.int (i:Int),.ref va]/\PlainAt C H p d g kvs gvs/\NameIs H nm k/\kvs.length<=500 /\
 aS kvs k=some (.ref it)/\H it=some (.tup xs)/\H va=some (.tup ys)/\i+ys.length<=xs.length/\xs.length<=100 /\
 ∀(t:Addr) (H':Hp),Same H H'->H' t=some (.tup (xs.take i++ys++xs.drop (i+ys.length)))->Q .non (upd H' d (.dT (aD kvs k (.ref t))))
def eX(C:Addr):Sp:=fun vs H Q _=>∃(p d g:Addr) (kvs gvs:List (List Key×V)) (nm v:V) (k:List Key),vs=[.ref p,nm]/\PlainAt C H p d g kvs gvs/\NameIs H nm k/\aS kvs k=some v/\Q v H
def iG(C:Addr):Sp:=fun vs H Q _=>∃(p d g:Addr) (kvs gvs:List (List Key×V)),vs=[.ref p]/\PlainAt C H p d g kvs gvs/\∀l ks,H l=none->bC H kvs ks->Q (.ref l) (upd H l (.lst ks))
def kx(K:PySem.W.Frag):Sp:=fun vs H Q _=>∃(a:Addr) (ns:List Int) (k:Int),vs=[.ref a,.int k]/\SqL K H a (ns.map V.int)/\0<=k/\Q (.int (cY ns k.toNat)) H
def jo(K:PySem.W.Frag):Sp:=fun vs H Q _=>∃(a:Addr) (ns:List Int),vs=[.ref a]/\SqL K H a (ns.map V.int)/\ns.length<=63/\∀H',Q (.bl true) H'
structure Txt(K:PySem.W.Frag)(C:Addr):Prop where
 cl:Cls K C
 nH:NoAttr K C "held"
 nA:NoAttr K C "away"
section
variable{P:Program}{w:World}{K:PySem.W.Frag}{mg:Str->Option Value}{base:Heap}
abbrev cV:Stmt:=top 9
abbrev jD:List Str:=["word"]
theorem ji:FnScope jD ["word"] (ak cV):=⟨rfl,rfl,rfl,by decide +kernel,rfl,by decide +kernel,by decide +kernel⟩
theorem je{f:Addr}{fd:FuncData}(F:Fun K "step_parts" "step_parts" cV f fd){dd:Addr}(g_STEP_PARTS:mg "STEP_PARTS" = some (.ref dd))(T:Tab K dd ST):FnOk P w K mg base CX0 1 f fd ["word"] (lI K):=by
 refine F.okQ ji (fun vs H Q E h=>?_) (fun cdv A outer s H vs Q E hr h=>?_)
 ·obtain⟨k,ws,rfl,_⟩:=h;rfl
 obtain⟨k,ws,rfl,hk,q⟩:=h;refine⟨_,(b_1 (aV (ay wG (wX g_STEP_PARTS) (q_v 0)))),?_⟩
 try rw[cxK]
 exact⟨_,rfl,dd,k,ST,tw ws,rfl,rfl,T,hk,q⟩
abbrev cS:Stmt:=bq (top 14) 0
abbrev jA:List Str:=["self"]
theorem jg:FnScope jA ["self"] (ak cS):=⟨rfl,rfl,rfl,by decide +kernel,rfl,by decide +kernel,by decide +kernel⟩
theorem jb{f C:Addr}{fd:FuncData}(F:Fun K "__init__" "Plain.__init__" cS f fd)(T:Txt K C):FnOk P w K mg base CX0 1 f fd ["self"] (oH C):=by
 refine F.okQ jg (fun vs H Q E h=>?_) (fun cdv A outer s H vs Q E hr h=>?_)
 ·obtain⟨p,dx,rfl,_⟩:=h;rfl
 obtain⟨p,dx,rfl,hp,k⟩:=h;refine⟨_,(b_c (re (q_v 0) mB)
   (b_1 (re (q_v 0) mB))),?_⟩
 try rw[cxK]
 intro d hd;have npd:p≠d:=aq hp hd;refine⟨_,rfl,p,C,dx,[],rfl,(by rw[af npd];exact hp),T.cl,T.nH,(by show 0<1000;decide),?_⟩;intro g hg;have hg0:H g=none:=by
  cases e:H g with
  |none=>rfl
  |some o =>
   have:g≠d:=aq e hd;by_cases c:g=p
   ·subst c;rw[ae]at hg;cases hg
   ·rw[af c,af this,e]at hg;cases hg
 have ngp:g≠p:=fun z=>by rw[z,hp]at hg0;cases hg0
 have ngd:g≠d:=fun z=>by rw[z,af npd.symm,ae]at hg;cases hg
 refine⟨_,rfl,p,C,dx,_,rfl,(by rw[af ngp.symm,ae]),T.cl,T.nA,(by show 1<1000;decide),?_⟩;refine k d g _ hd hg0 ⟨⟨dx,ae⟩,by rw[af npd.symm,af ngd.symm,af npd.symm,ae],by rw[af ngp,ae],ngd.symm⟩ fun b o e hb=>?_;rw[af hb,af (aq e hg0),af hb,af (aq e hd)];exact e
abbrev cT:Stmt:=bq (top 14) 10
abbrev jB:List Str:=["self","name"]
theorem jh:FnScope jB ["self","name"] (ak cT):=⟨rfl,rfl,rfl,by decide +kernel,rfl,by decide +kernel,by decide +kernel⟩
theorem jc{f C:Addr}{fd:FuncData}(F:Fun K "item" "Plain.item" cT f fd)(T:Txt K C):FnOk P w K mg base CX0 1 f fd ["self","name"] (eX C):=by
 refine F.okQ jh (fun vs H Q E h=>?_) (fun cdv A outer s H vs Q E hr h=>?_)
 ·obtain⟨p,d,g,kvs,gvs,nm,v,k,rfl,_⟩:=h;rfl
 obtain⟨p,d,g,kvs,gvs,nm,v,k,rfl,S,⟨b,rfl,hb⟩,hv,q⟩:=h;obtain⟨⟨dx,h1⟩,h2,h3,h4⟩:=id S;refine⟨_,(b_c (bh (kD hr.units (q_v 1) (bz (q_v 0))) (b_1 ci) b_0)
   (b_1 (aV (aN hr.units (bz (q_v 0)) (q_v 1))))),?_⟩
 try rw[cxK]
 refine⟨_,rfl,_,rfl,p,C,dx,_,_,rfl,h1,T.cl,T.nH,aH _ _,d,_,rfl,DGet.t h2 hb,_,rfl,?_⟩;rw[hv];refine aO ?_;exact⟨_,rfl,p,C,dx,_,_,rfl,h1,T.cl,T.nH,aH _ _,_,rfl,d,v,rfl,hv▸DGet.t h2 hb,q⟩
abbrev cM:Stmt:=bq (top 14) 8
abbrev iY:List Str:=["self"]
theorem iE:FnScope iY ["self"] (ak cM):=⟨rfl,rfl,rfl,by decide +kernel,rfl,by decide +kernel,by decide +kernel⟩
theorem iB{f C:Addr}{fd:FuncData}(F:Fun K "names" "Plain.names" cM f fd)(T:Txt K C)(z_list:mg "list" = none):FnOk P w K mg base CX0 1 f fd ["self"] (iG C):=by
 refine F.okQ iE (fun vs H Q E h=>?_) (fun cdv A outer s H vs Q E hr h=>?_)
 ·obtain⟨p,d,g,kvs,gvs,rfl,_⟩:=h;rfl
 obtain⟨p,d,g,kvs,gvs,rfl,S,q⟩:=h;obtain⟨⟨dx,h1⟩,h2,h3,h4⟩:=id S;refine⟨_,(b_1 (aV (kh (dC rfl) z_list cG (q_a (bz (q_v 0)) aj)))),?_⟩;exact⟨_,rfl,p,C,dx,_,_,rfl,h1,T.cl,T.nH,aH _ _,d,kvs,rfl,.inl h2,fun l ks hl hk=>q l ks hl hk⟩
abbrev cg:Stmt:=bq (top 14) 4
abbrev fU:List Str:=["self","name","up","place","text"]
theorem fN:FnScope fU ["self","name","up","place","text"] (ak cg):=⟨rfl,rfl,rfl,by decide +kernel,rfl,by decide +kernel,by decide +kernel⟩
theorem fM{f C:Addr}{fd:FuncData}(F:Fun K "bring_in" "Plain.bring_in" cg f fd)(T:Txt K C):FnOk P w K mg base CX0 1 f fd ["self","name","up","place","text"] (iF C):=by
 refine F.okQ fN (fun vs H Q E h=>?_) (fun cdv A outer s H vs Q E hr h=>?_)
 ·obtain⟨p,d,g,kvs,gvs,nm,up,pl,tx,k,rfl,_⟩:=h;rfl
 obtain⟨p,d,g,kvs,gvs,nm,up,pl,tx,k,rfl,S,hn,hl,q⟩:=h;obtain⟨⟨dx,h1⟩,h2,h3,h4⟩:=id S;refine⟨_,(b_1 (cJ hr.units (bz (q_v 0)) (q_v 1) (bg (q_a (q_v 2) (q_a (q_v 3) (q_a (q_v 4) (q_a ce (q_a cE (q_a ce aj))))))))),?_⟩
 try rw[cxK]
 refine⟨_,rfl,_,rfl,_,rfl,sz rfl,fun t ht=>?_⟩;have sm:=ah ht (.tup [up,pl,tx,.bl false,.non,.bl false]);obtain⟨b,rfl,hb⟩:=hn;exact⟨_,rfl,p,C,dx,_,_,rfl,sm _ _ h1,T.cl,T.nH,aH _ _,_,rfl,d,_,rfl,DPut.t (sm _ _ h2) (sm _ _ hb) (aP (by omega)),q t _ sm ae⟩
abbrev cz:Stmt:=bq (top 14) 5
abbrev ic:List Str:=["self","name","first","values","item"]
theorem dk:FnScope ic ["self","name","first","values"] (ak cz):=⟨rfl,rfl,rfl,by decide +kernel,rfl,by decide +kernel,by decide +kernel⟩
theorem gW{f C:Addr}{fd:FuncData}(F:Fun K "change" "Plain.change" cz f fd)(T:Txt K C)(z_len:mg "len" = none):FnOk P w K mg base CX0 1 f fd ["self","name","first","values"] (gB C):=by
 refine F.okQ dk (fun vs H Q E h=>?_) (fun cdv A outer s H vs Q E hr h=>?_)
 ·obtain⟨p,d,g,it,va,kvs,gvs,nm,k,i,xs,ys,rfl,_⟩:=h;rfl
 obtain⟨p,d,g,it,va,kvs,gvs,nm,k,i,xs,ys,rfl,S,hn,hl,hv,hit,hva,hi,hx,q⟩:=h;obtain⟨⟨dx,h1⟩,h2,h3,h4⟩:=id S;obtain⟨b,rfl,hb⟩:=hn;refine⟨_,(b_c (aC (i:=4) dk.nd (aN hr.units (bz (q_v 0)) (q_v 1)))
   (b_1 (cJ hr.units (bz (q_v 0)) (q_v 1) (ao bX (ao bX (bQ bF (q_v 4) bV (bJ (q_v 2))) (q_v 3)) (bQ bF (q_v 4) (bJ (ao dh (q_v 2) (q_B gG z_len PySem.boot_len (q_a (q_v 3) aj)))) bV))))),?_⟩
 try rw[cxK]
 refine⟨_,rfl,p,C,dx,_,_,rfl,h1,T.cl,T.nH,aH _ _,_,rfl,d,_,rfl,hv▸DGet.t h2 hb,?_⟩;refine⟨_,rfl,_,rfl,_,rfl,it,xs,rfl,hit,fun t1 H1 s1 e1=>?_⟩;have c1:aQ xs none (some (i:Int))=xs.take i:=by unfold aQ;rw[HT.sIx_none,HT.sIx_nat,List.drop_zero,Nat.sub_zero,Nat.min_eq_left (by omega)]
 rw[c1]at e1;refine⟨_,rfl,t1,va,_,_,rfl,rfl,e1,s1 _ _ hva,bZ (by rw[Za];omega),fun t2 H2 s2 e2=>?_⟩;refine⟨_,rfl,_,rfl,_,rfl,va,ys,rfl,.inr (SqT.of (s2 _ _ (s1 _ _ hva))),_,_,rfl,rfl,_,rfl,it,xs,rfl,s2 _ _ (s1 _ _ hit),fun t3 H3 s3 e3=>?_⟩;have c2:aQ xs (some ((i:Int)+(ys.length:Int))) none=xs.drop (i+ys.length):=by unfold aQ;rw[HT.sIx_none,show(i:Int)+(ys.length:Int)=((i+ys.length:Nat):Int) by omega,HT.sIx_nat,Nat.min_eq_left hi,zO (by rw[zX];omega)]
 rw[c2]at e3;refine⟨t2,t3,_,_,rfl,rfl,s3 _ _ e2,e3,bZ (by rw[zt,Za,zX];omega),fun t4 H4 s4 e4=>?_⟩;have sm:Same H H4:=s1.trans (s2.trans (s3.trans s4));exact⟨_,rfl,p,C,dx,_,_,rfl,sm _ _ h1,T.cl,T.nH,aH _ _,_,rfl,d,_,rfl,DPut.t (sm _ _ h2) (sm _ _ hb) (aP (by omega)),q t4 _ sm e4⟩
theorem vS(w:Str):inV (.str w) [.str "item",.str "up"]=decide (w="item"\/w="up"):=by
 unfold inV eqV;by_cases h1:w="item"
 ·subst h1;simp
 ·by_cases h2:w="up"
  ·subst h2;simp
  ·simp[h1,h2,Ne.symm h1,Ne.symm h2]
abbrev bK:Stmt:=bq (top 14) 2
abbrev eE:List Str:=["self","step","kinds","kind","name"]
theorem aI:FnScope eE ["self","step"] (ak bK):=⟨rfl,rfl,rfl,by decide +kernel,rfl,by decide +kernel,by decide +kernel⟩
theorem dY{f C:Addr}{fd:FuncData}(F:Fun K "check_names" "Plain.check_names" bK f fd)(T:Txt K C)(F_step_parts:Fn P w K mg base 1 "step_parts" ["word"] (lI K))(z_zip:mg "zip" = none):FnOk P w K mg base CX0 2 f fd ["self","step"] (kz C):=by
 refine F.okQ aI (fun vs H Q E h=>?_) (fun cdv A outer s H vs Q E hr h=>?_)
 ·obtain⟨p,d,g,st,kvs,gvs,wd,ws,ps,rfl,_⟩:=h;rfl
 obtain⟨p,d,g,st,kvs,gvs,wd,ws,ps,rfl,S,hst,hk,ok,q⟩:=h;obtain⟨⟨dx,h1⟩,h2,h3,h4⟩:=id S;refine⟨_,(b_c (aC (i:=2) aI.nd (dv F_step_parts (hr.mono (by decide)) (q_a (ay ax (q_v 1) ag) aj)))
   (b_c (dj Zv rfl (qR z_zip (q_a (q_v 2) (q_a (bQ bF (q_v 1) (bJ ag) bV) aj))) (lV rfl (iw (bp (i:=3) aI.nd) (iw (bp (i:=4) aI.nd) pQ))) (b_1 (bh (t_w (dq (aL dX (q_v 3) bf) (cX (wB hr.units (q_v 4) (bz (q_v 0)))))) (b_1 ci) b_0)))
   (b_1 (dj Zv rfl (qR z_zip (q_a (q_v 2) (q_a (bQ bF (q_v 1) (bJ ag) bV) aj))) (lV rfl (iw (bp (i:=3) aI.nd) (iw (bp (i:=4) aI.nd) pQ))) (b_1 (bh (t_w (dq (aL (vX (K:=K) rfl) (q_v 3) (bg (q_a bf (q_a bf aj)))) (dq (aL dF (q_v 4) cE) (cX (kD hr.units (q_v 4) (bz (q_v 0))))))) (b_1 ci) b_0)))))),?_⟩
 try rw[cxK]
 refine(vix rfl (SqT.of hst) at0 ⟨wd,ws,rfl,hk,fun t ht=>?_⟩);have c1:aQ (V.str wd::ps) (some 1) none=ps:=by unfold aQ;rw[HT.sIx_none,show(1:Int)=((1:Nat):Int)from rfl,HT.sIx_nat];simp
 have lw:(ws.map V.str).length=ps.length:=by rw[zr];exact ok.1
 have item:∀{i:Nat} {x:V},(ws.map V.str)[i]?=some x->∃w',ws[i]?=some w'/\x=.str w':=fun{i x} hx=>by rw[Zz]at hx;obtain⟨w',e1,e2⟩:=ZC.mp hx;exact⟨w',e1,e2.symm⟩
 refine⟨_,rfl,_,rfl,_,rfl,st,_,rfl,hst,fun z H1 s1 e1=>?_⟩;rw[c1]at e1;refine⟨t,z,_,_,rfl,ht _,SqT.of e1,lw,?_⟩;refine kY (i:=3) (j:=4) (fun i σ H'=>Same H H'/\H' z=some (.tup ps)/\∃o3 o4,σ=[some (.ref p),some (.ref st),some (.ref t),o3,o4]) ⟨s1,e1,none,none,rfl⟩ (fun _ _ _ _ _=>ht _) (fun _ _ _ _ v=>SqT.of v.2.1) lw ?_ ?_
 ·rintro i x v σ H' hx hv ⟨sm,ez,o3,o4,rfl⟩ T' gT;have wT:=ah gT (.tup [x,v]);obtain⟨w',hw,rfl⟩:=item hx;have sm':=sm.trans wT;refine⟨_,rfl,rfl,_,rfl,fX (fun c=>?_) (fun c=>?_)⟩
  ·injection c with c;subst c;obtain⟨k,⟨b,rfl,hb⟩,hn⟩:=((ok.2 i _ v hw hv).1 rfl)
   refine⟨_,rfl,_,rfl,p,C,dx,_,_,rfl,sm' _ _ h1,T.cl,T.nH,aH _ _,d,none,rfl,hn▸DGet.t (sm' _ _ h2) (sm' _ _ hb),_,rfl,aO ?_⟩;exact⟨sm',wT _ _ ez,_,_,rfl⟩
  ·exact aO ⟨sm',wT _ _ ez,_,_,rfl⟩
 ·rintro σ H' ⟨sm,ez,o3,o4,rfl⟩;refine⟨_,rfl,_,rfl,_,rfl,st,_,rfl,sm _ _ hst,fun z' H2 s2 e2=>?_⟩;rw[c1]at e2;refine⟨t,z',_,_,rfl,ht _,SqT.of e2,lw,?_⟩;refine kY (i:=3) (j:=4) (fun i σ H'=>Same H H'/\H' z'=some (.tup ps)/\∃o3 o4,σ=[some (.ref p),some (.ref st),some (.ref t),o3,o4]) ⟨sm.trans s2,e2,o3,o4,rfl⟩ (fun _ _ _ _ _=>ht _) (fun _ _ _ _ v=>SqT.of v.2.1) lw ?_ ?_
  ·rintro i x v σ H' hx hv ⟨sm,ez,o3,o4,rfl⟩ T' gT;have wT:=ah gT (.tup [x,v]);obtain⟨w',hw,rfl⟩:=item hx;have sm':=sm.trans wT;refine⟨_,rfl,sz rfl,fun u gu=>?_⟩;have wu:=ah gu (.tup [.str "item",.str "up"]);have sm2:=sm'.trans wu;refine⟨u,_,rfl,.inr (SqT.of ae),rfl,rfl,_,rfl,?_⟩;have ei:(if false=true then !inV (V.str w') [.str "item",.str "up"]else inV (V.str w') [.str "item",.str "up"])=decide (w'="item"\/w'="up"):=vS w';have fin:∃o3 o4,(((([some (V.ref p),some (.ref st),some (.ref t),o3,o4]:St).set 3 (some (.str w'))).set 4 (some v)))=[some (.ref p),some (.ref st),some (.ref t),o3,o4]:=⟨_,_,rfl⟩
   rw[ei];refine fX (fun c=>?_) (fun c=>?_)
   ·rcases(ok.2 i _ v hw hv).2 c with rfl|⟨k,⟨b,rfl,hb⟩,hn⟩
    ·refine⟨_,rfl,rfl,_,rfl,fw rfl ?_⟩;exact aO ⟨sm2,wu _ _ (wT _ _ ez),_,_,rfl⟩
    ·refine⟨_,rfl,rfl,_,rfl,gO (by intro z;cases z) ?_⟩;refine⟨_,rfl,_,rfl,p,C,dx,_,_,rfl,sm2 _ _ h1,T.cl,T.nH,aH _ _,d,_,rfl,DGet.t (sm2 _ _ h2) (sm2 _ _ hb),_,rfl,?_⟩;rw[hn];exact aO ⟨sm2,wu _ _ (wT _ _ ez),_,_,rfl⟩
   ·exact aO ⟨sm2,wu _ _ (wT _ _ ez),_,_,rfl⟩
  ·rintro σ H' ⟨sm,ez,o3,o4,rfl⟩;exact q H' sm
theorem bj(h a:Addr){m:Str}(h1:¬m="away":=by decide +kernel)(h2:¬m="held":=by decide +kernel):(ir h a).lookup m=none:=rF h a h1 h2
theorem iA(x y:Str):(x++y).length=x.length+y.length:=by show(x.cps++y.cps).size=_;rw[Array.size_append];rfl
theorem hE{x y:Str}(h1:PyData.strOk x=true)(h2:PyData.strOk y=true):PyData.strOk (x++y)=true:=by show(x.cps++y.cps).all (·<0x110000)=true;rw[Array.all_append,zL];exact⟨h1,h2⟩
def TS(H H':Hp):Prop:=∀a zs,H a=some (.tup zs)->H' a=some (.tup zs)
theorem Same.ts{H H':Hp}(e:Same H H'):TS H H':=fun a zs h=>e a _ h
theorem kE{H:Hp}{d:Addr}{kvs kvs':List (List Key×V)}(h:H d=some (.dT kvs)):TS H (upd H d (.dT kvs')):=fun a zs e=>by rw[af (dg e h (by intro z;cases z))];exact e
theorem kX{H:Hp}:∀ns:List Int,DtAll H (ns.map PyData.int) (ns.map V.int)
 | []=>by simp[DtAll]
 |n::ns=>by simp only[zn,DtAll];exact⟨_,_,rfl,by simp only[Dt],kX ns⟩
theorem jS:∀ns:List Int,PyData.canLayAll0 (ns.map PyData.int)=true/\PyData.depthAll (ns.map PyData.int)=0
 | []=>⟨rfl,rfl⟩
 |n::ns=>by obtain⟨h1,h2⟩:=jS ns;simp only[zn,PyData.canLayAll0,PyData.canLay0,PyData.depthAll,PyData.depth,h1,h2];exact⟨rfl,rfl⟩
theorem cn{d:PyData}(h1:d.canLay0=true)(h2:d.depth<=10):SeqAt.shaped d=true:=by unfold SeqAt.shaped;rw[zL];exact⟨h1,decide_eq_true (by omega)⟩
theorem kK{l:List (List Key×V)}{k:List Key}(h:¬k∈l.map (·.1)):aS l k=none:=by
 cases e:aS l k with
 |none=>rfl
 |some v=>exact absurd (iI e) h
theorem mH{l:List (List Key×V)}{k:List Key}(h:k∈l.map (·.1)):(aS l k).isSome=true:=by
 cases e:aS l k with
 |none=>exact absurd h (qI e)
 |some v=>rfl
theorem kg{l:List (List Key×V)}{k:List Key}(v:V)(h:k∈l.map (·.1)):aD l k v=l.map (fun kv=>if kv.1=k then(kv.1,v)else kv):=by unfold aD;rw[if_pos];rw[cB];exact mH h
theorem pT{l:List (List Key×V)}{k:List Key}{v:V}(h:k∈l.map (·.1)):(aD l k v).map (·.1)=l.map (·.1):=by rw[kg v h,List.map_map];refine List.map_congr_left fun p _=>?_;show(if p.1=k then(p.1,v)else p).1=p.1;split<;>rfl
theorem tI{H:Hp}{kvs:List (List Key×V)}{ks:List V}(r:bC H kvs ks):∀{i:Nat} {v:V},ks[i]?=some v->∃k,(kvs.map (·.1))[i]?=some k/\NameIs H v k:=by
 unfold bC at r;induction r with
 |nil=>intro i v h;simp at h
 |@cons p q _ _ h _ ih =>
  intro i v e;cases i with
  |zero =>cases e;obtain⟨b,e1,e2⟩:=h;exact⟨p.1,rfl,b,e1,e2⟩
  |succ i=>exact ih e
theorem tJ{H:Hp}{kvs:List (List Key×V)}{ks:List V}(r:bC H kvs ks):ks.length=kvs.length:=(Zn r).symm
theorem vU{H H':Hp}{kvs:List (List Key×V)}{ks:List V}(r:bC H kvs ks)(s:TS H H'):bC H' kvs ks:=Paired.mapP r fun _ _ ⟨b,h1,h2⟩=>⟨b,h1,s _ _ h2⟩
abbrev br:Stmt:=bq (top 14) 12
abbrev dz:List Str:=["self","one","other"]
theorem bY:FnScope dz ["self","one","other"] (ak br):=⟨rfl,rfl,rfl,by decide +kernel,rfl,by decide +kernel,by decide +kernel⟩
abbrev Nm:=Int×Int
structure It where
 up:Option Nm
 pl:List Int
 tx:Str
 dn:Bool
 wh:Option Int
 fo:Bool
abbrev Ol:=List (Nm×It)
def nk(n:Nm):List Key:=[.inl n.1,.inl n.2]
theorem eN{n m:Nm}(h:nk n=nk m):n=m:=by unfold nk at h;injection h with h1 h2;injection h2 with h2 _;injection h1 with h1;injection h2 with h2;exact Prod.ext h1 h2
abbrev As(β:Type):=List (Nm×β)
def look{β:Type}:As β->Nm->Option β
 | [],_=>none
 |p::l,n=>if p.1=n then some p.2 else look l n
def al{β:Type}(l:As β)(n:Nm)(i:β):As β:=if(look l n).isSome=true then l.map (fun p=>if p.1=n then(p.1,i)else p)else l++[(n,i)]
def UpAt(H:Hp)(v:V):Option Nm->Prop
 |none=>v=.non
 |some n=>NameIs H v (nk n)
def PlAt(H:Hp)(v:V)(ns:List Int):Prop:=∃b,v=.ref b/\H b=some (.tup (ns.map V.int))
def whV:Option Int->V
 |none=>.non
 |some i=>.int i
def ItAt(H:Hp)(v:V)(it:It):Prop:=∃(a:Addr) (uv pv:V),v=.ref a/\H a=some (.tup [uv,pv,.str it.tx,.bl it.dn,whV it.wh,.bl it.fo])/\UpAt H uv it.up/\PlAt H pv it.pl
theorem NameIs.ts'{H H':Hp}{v:V}{k:List Key}(x:NameIs H v k)(s:TS H H'):NameIs H' v k:=by obtain⟨b,h1,h2⟩:=x;exact⟨b,h1,s _ _ h2⟩
theorem UpAt.ts{H H':Hp}{v:V}{u:Option Nm}(x:UpAt H v u)(s:TS H H'):UpAt H' v u:=by
 cases u with
 |none=>exact x
 |some n=>exact NameIs.ts' x s
theorem PlAt.ts{H H':Hp}{v:V}{ns:List Int}(x:PlAt H v ns)(s:TS H H'):PlAt H' v ns:=by obtain⟨b,h1,h2⟩:=x;exact⟨b,h1,s _ _ h2⟩
theorem ItAt.ts{H H':Hp}{v:V}{it:It}(x:ItAt H v it)(s:TS H H'):ItAt H' v it:=by obtain⟨a,uv,pv,h1,h2,h3,h4⟩:=x;exact⟨a,uv,pv,h1,s _ _ h2,h3.ts s,h4.ts s⟩
abbrev Rws{β:Type}(R:V->β->Prop)(kvs:List (List Key×V))(ol:As β):Prop:=Paired (fun p q=>p.1=nk q.1/\R p.2 q.2) kvs ol
abbrev Rows(H:Hp)(kvs:List (List Key×V))(ol:Ol):Prop:=Rws (ItAt H) kvs ol
theorem Rows.ts{H H':Hp}{kvs:List (List Key×V)}{ol:Ol}(x:Rows H kvs ol)(s:TS H H'):Rows H' kvs ol:=Paired.mapP x fun _ _ z=>⟨z.1,z.2.ts s⟩
section
variable{β:Type}{R:V->β->Prop}{kvs:List (List Key×V)}{ol:As β}{n:Nm}{it:β}{v:V}
theorem eT(x:Rws R kvs ol)(h:look ol n=none):aS kvs (nk n)=none:=by
 induction x with
 |nil=>rfl
 |@cons p q _ _ r _ ih =>
  unfold look at h;by_cases c:q.1=n
  ·rw[if_pos c]at h;cases h
  ·rw[if_neg c]at h;rw[cW fun z=>c (eN (r.1.symm.trans z))];exact ih h
theorem am(x:Rws R kvs ol)(h:look ol n=some it):∃v,aS kvs (nk n)=some v/\R v it:=by
 induction x with
 |nil=>cases h
 |@cons p q _ _ r _ ih =>
  unfold look at h;by_cases c:q.1=n
  ·rw[if_pos c]at h;cases h;exact⟨p.2,eB (r.1.trans (ZF nk c)),r.2⟩
  ·rw[if_neg c]at h;rw[cW fun z=>c (eN (r.1.symm.trans z))];exact ih h
theorem lD(x:Rws R kvs ol):(aS kvs (nk n)).isSome=(look ol n).isSome:=by
 cases e:look ol n with
 |none=>rw[eT x e];rfl
 |some it =>obtain⟨v,h,_⟩:=am x e;rw[h];rfl
theorem gq(x:Rws R kvs ol)(hv:R v it):Rws R (aD kvs (nk n) v) (al ol n it):=by
 unfold al;cases e:look ol n with
 |none =>rw[qv _ (eT x e),if_neg (by simp)];exact Paired.snoc x ⟨rfl,hv⟩
 |some it0 =>
  obtain⟨v0,h0,_⟩:=am x e;rw[kg _ (iI h0),if_pos (show(some it0).isSome=true from rfl)];clear e h0;induction x with
  |nil=>exact .nil
  |@cons p q _ _ r _ ih =>
   rw[zn,zn];refine .cons ?_ ih;by_cases c:p.1=nk n
   ·rw[if_pos c,if_pos (eN (r.1.symm.trans c))];exact⟨r.1,hv⟩
   ·rw[if_neg c,if_neg fun z=>c (r.1.trans (ZF nk z))];exact r
theorem aR(x:Rws R kvs ol):kvs.length=ol.length:=Zn x
end
def OlAt(C:Addr)(H:Hp)(p d g:Addr)(ol:Ol):Prop:=∃kvs,PlainAt C H p d g kvs []/\Rows H kvs ol
theorem OlAt.same{C:Addr}{H H':Hp}{p d g:Addr}{ol:Ol}(x:OlAt C H p d g ol)(s:Same H H'):OlAt C H' p d g ol:=by obtain⟨kvs,h1,h2⟩:=x;exact⟨kvs,h1.same s,h2.ts (Same.ts s)⟩
theorem But.ts{d:Addr}{H H':Hp}{kvs:List (List Key×V)}(x:But d H H')(h:H d=some (.dT kvs)):TS H H':=fun a zs e=>x a _ e (dg e h (by intro z;cases z))
theorem But.put{d:Addr}{H H':Hp}(s:Same H H')(o:HO):But d H (upd H' d o):=fun b u h n=>by rw[af n];exact s _ _ h
theorem But.trans{d:Addr}{H H' H2:Hp}(x:But d H H')(y:But d H' H2):But d H H2:=fun b u h n=>y b u (x b u h n) n
theorem But.of{d:Addr}{H H':Hp}(s:Same H H'):But d H H':=fun b u h _=>s b u h
theorem eQ{C:Addr}{H H':Hp}{p d g t:Addr}{kvs:List (List Key×V)}{ol:Ol}{n:Nm}{it:It}(S:PlainAt C H p d g kvs [])(R:Rows H kvs ol)(s:Same H H')(hi:ItAt H' (.ref t) it):OlAt C (upd H' d (.dT (aD kvs (nk n) (.ref t)))) p d g (al ol n it):=by have td:TS H' (upd H' d (.dT (aD kvs (nk n) (.ref t)))):=kE (s _ _ S.dc);exact⟨_,(S.same s).put,Rows.ts (gq (Rows.ts R (Same.ts s)) hi) td⟩
inductive Und(ol:Ol)(o:Nm):Nat->Option Nm->Bool->Prop
 |none:Und ol o 0 none false
 |self:Und ol o 0 (some o) true
 |up {k:Nat} {n:Nm} {it:It} {b:Bool}:n≠o->look ol n=some it->Und ol o k it.up b->Und ol o (k+1) (some n) b
def lJ(C:Addr):Sp:=fun vs H Q _=>∃(p d g:Addr) (ol:Ol) (u v:V) (one:Option Nm) (o:Nm) (k:Nat) (b:Bool),vs=[.ref p,u,v]/\OlAt C H p d g ol/\UpAt H u one/\NameIs H v (nk o)/\Und ol o k one b/\Q (.bl b) H
theorem du{f C:Addr}{fd:FuncData}(F:Fun K "at_or_beneath" "Plain.at_or_beneath" br f fd)(T:Txt K C){tk:Tok}(g_UP:mg "UP" = some (.int 0 tk)):FnOk P w K mg base CX0 1 f fd ["self","one","other"] (lJ C):=by
 refine F.okQ bY (fun vs H Q E h=>?_) (fun cdv A outer s H vs Q E hr h=>?_)
 ·obtain⟨p,d,g,ol,u,v,one,o,k,b,rfl,_⟩:=h;rfl
 obtain⟨p,d,g,ol,u,v,one,o,k,b,rfl,⟨kvs,S,R⟩,hu,hv,un,q⟩:=h;obtain⟨⟨dx,h1⟩,h2,h3,h4⟩:=id S;obtain⟨vb,rfl,hvb⟩:=id hv;refine⟨_,(b_c (lE Zv (t_w (dq (aL dF (q_v 1) cE) (cX (aL (tZ hr.units) (q_v 1) (q_v 2))))) (b_1 (aC (i:=1) bY.nd (ay ax (aN hr.units (bz (q_v 0)) (q_v 1)) (cL g_UP)))))
   (b_1 (aV (dZ dF (q_v 1) cE)))),?_⟩
 try rw[cxK]
 refine⟨fun m σ H'=>H'=H/\∃(u:V) (one:Option Nm),UpAt H u one/\Und ol o m one b/\σ=[some (.ref p),some u,some (.ref vb)],⟨k,rfl,u,one,hu,un,rfl⟩,?_⟩;rintro m σ H' ⟨rfl,u,one,hu,un,rfl⟩;cases un with
 |none =>obtain rfl:u=.non:=hu;refine⟨_,rfl,rfl,_,rfl,fw rfl (aO ?_)⟩;exact⟨_,rfl,rfl,q⟩
 |self =>obtain⟨ub,rfl,hub⟩:=id hu;refine⟨_,rfl,rfl,_,rfl,gO (by intro z;cases z) ?_⟩;refine⟨_,rfl,_,rfl,ub,vb,[o.1,o.2],[o.1,o.2],rfl,rfl,hub,hvb,_,rfl,?_⟩;rw[decide_eq_true rfl];refine aO ?_;exact⟨_,rfl,rfl,q⟩
 |@up m n it _ hn hl un =>
  obtain⟨ub,rfl,hub⟩:=id hu;obtain⟨iv,e1,ia,uv,pv,rfl,e2,e3,e4⟩:=am R hl;refine⟨_,rfl,rfl,_,rfl,gO (by intro z;cases z) ?_⟩;refine⟨_,rfl,_,rfl,ub,vb,[n.1,n.2],[o.1,o.2],rfl,rfl,hub,hvb,_,rfl,?_⟩;have:¬ ([n.1,n.2]=[o.1,o.2]):=fun z=>hn (by
   injection z with z1 z2;injection z2 with z2 _;exact Prod.ext z1 z2)
  rw[decide_eq_false this];refine cR ?_;refine⟨fun σ H2=>H2=H'/\σ=[some (.ref p),some uv,some (.ref vb)],?_,?_⟩
  ·rintro σ' H2 ⟨rfl,rfl⟩;exact⟨m,Nat.lt_succ_self m,rfl,uv,it.up,e3,un,rfl⟩
  ·refine⟨_,rfl,p,C,dx,_,_,rfl,h1,T.cl,T.nH,aH _ _,_,rfl,d,.ref ia,rfl,e1▸DGet.t (k:=nk n) h2 hub,?_⟩;exact⟨ia,_,_,_,rfl,rfl,SqT.of e2,at0,rfl,rfl⟩
def aE(n m:Nm)(it:It):It:=if it.up=some m then{ it with up:=some n }else it
theorem sG(n m:Nm)(it:It):aE n m (aE n m it)=aE n m it:=by
 unfold aE;by_cases c:it.up=some m
 ·rw[if_pos c];by_cases c2:n=m
  ·rw[c2,if_pos rfl]
  ·rw[if_neg fun z=>c2 (zE z)]
 ·rw[if_neg c,if_neg c]
structure JoinR(ol:Ol)(n m:Nm)(itn itm:It)(ol':Ol):Prop where
 len:ol'.length=ol.length
 ks:ol'.map (·.1)=ol.map (·.1)
 lk:∃itm2,look (al ol n { itn with tx:=itn.tx++itm.tx }) m=some itm2/\∀x,look ol' x=(look (al (al ol n { itn with tx:=itn.tx++itm.tx }) m { itm2 with tx:="" }) x).map (aE n m)
theorem iR{β:Type}{R:V->β->Prop}{kvs:List (List Key×V)}{ol:As β}(x:Rws R kvs ol):kvs.map (·.1)=(ol.map (·.1)).map nk:=by
 induction x with
 |nil=>rfl
 |cons r _ ih=>rw[zn,zn,zn,ih,r.1]
theorem li:∀{l m:List Nm},l.map nk=m.map nk->l=m
 | [],[],_=>rfl
 | [],_::_,h=>by cases h
 |_::_,[],h=>by cases h
 |a::l,b::m,h=>by rw[zn,zn]at h;injection h with h1 h2;rw[eN h1,li h2]
theorem bw{β:Type}{l:As β}{n:Nm}{i j:β}(h:look l n=some j):(al l n i).map (·.1)=l.map (·.1):=by unfold al;rw[h,if_pos (show(some j).isSome=true from rfl),List.map_map];refine List.map_congr_left fun p _=>?_;show(if p.1=n then(p.1,i)else p).1=p.1;split<;>rfl
def lH(C:Addr):Sp:=fun vs H Q _=>∃(p d g:Addr) (ol:Ol) (nv mv pv:V) (n m:Nm) (a:Int) (pl:List Int) (it:It),vs=[.ref p,nv,.int a,mv,pv]/\OlAt C H p d g ol/\NameIs H nv (nk n)/\NameIs H mv (nk m)/\PlAt H pv pl/\look ol n=some it/\ol.length<=400/\it.tx.length<=1000 /\
 ∀H',But d H H'->OlAt C H' p d g (al (al ol n { it with tx:=aw it.tx none (some (if(0:Int)>a then 0 else a)) }) m ⟨it.up,pl,aw it.tx (some (if(0:Int)>a then 0 else a)) none,false,none,false⟩)->Q .non H'
theorem kq{β:Type}(l:As β)(n:Nm)(i:β):(al l n i).length<=l.length+1:=by
 unfold al;split
 ·rw[zr];omega
 ·rw[zt];exact zh _
abbrev bW:Stmt:=bq (top 14) 6
abbrev fL:List Str:=["self","name","at","new","place","item","ahead"]
theorem bT:FnScope fL ["self","name","at","new","place"] (ak bW):=⟨rfl,rfl,rfl,by decide +kernel,rfl,by decide +kernel,by decide +kernel⟩
theorem eP{f C:Addr}{fd:FuncData}(F:Fun K "part_item" "Plain.part_item" bW f fd)(T:Txt K C)(M_change:MFn P w K mg base 1 C "change" ["self","name","first","values"] (gB C))(M_bring_in:MFn P w K mg base 1 C "bring_in" ["self","name","up","place","text"] (iF C)){tk tk':Tok}(g_TEXT:mg "TEXT" = some (.int 2 tk))(g_UP:mg "UP" = some (.int 0 tk'))(z_max:mg "max" = none):FnOk P w K mg base CX0 2 f fd ["self","name","at","new","place"] (lH C):=by
 refine F.okQ bT (fun vs H Q E h=>?_) (fun cdv A outer s H vs Q E hr h=>?_)
 ·obtain⟨p,d,g,ol,nv,mv,pv,n,m,a,pl,it,rfl,_⟩:=h;rfl
 obtain⟨p,d,g,ol,nv,mv,pv,n,m,a,pl,it,rfl,⟨kvs,S,R⟩,hn,hm,hp,hl,l4,lt,q⟩:=h;obtain⟨⟨dx,h1⟩,h2,h3,h4⟩:=id S;obtain⟨nb,rfl,hnb⟩:=id hn;obtain⟨iv,e1,ia,uv,pv',rfl,e2,e3,e4⟩:=am R hl;have lk:=aR R;refine⟨_,(b_c (aC (i:=5) bT.nd (aN hr.units (bz (q_v 0)) (q_v 1)))
   (b_c (aC (i:=6) bT.nd (q_B (vN rfl) z_max pF (q_a (q_v 2) (q_a ag aj))))
   (b_c (bu (aJ M_change (hr.mono (by decide)) (q_v 0) (q_a (q_v 1) (q_a (cL g_TEXT) (q_a (bg (q_a (bQ gQ (ay ax (q_v 5) (cL g_TEXT)) bV (bJ (q_v 6))) aj)) aj)))))
   (b_1 (bu (aJ M_bring_in (hr.mono (by decide)) (q_v 0) (q_a (q_v 3) (q_a (ay ax (q_v 5) (cL g_UP)) (q_a (q_v 4) (q_a (bQ gQ (ay ax (q_v 5) (cL g_TEXT)) (bJ (q_v 6)) bV) aj)))))))))),?_⟩
 try rw[cxK]
 refine⟨_,rfl,p,C,dx,_,_,rfl,h1,T.cl,T.nH,aH _ _,_,rfl,d,.ref ia,rfl,e1▸DGet.t (k:=nk n) h2 hnb,?_⟩;refine⟨_,rfl,_,_,rfl,?_⟩;refine⟨_,rfl,p,dx,_,rfl,h1,bj _ _,_,rfl,vix rfl (SqT.of e2) at2 ⟨_,rfl,_,rfl,it.tx,rfl,lt,sz rfl,fun va gva=>?_⟩⟩;have wv:=ah gva (.tup [.str (aw it.tx none (some (if(0:Int)>a then 0 else a)))]);refine⟨p,d,g,ia,va,kvs,[],.ref nb,nk n,2,_,_,rfl,S.same wv,hn.same wv,by omega,e1,wv _ _ e2,ae,show 2+1<=6 by decide,show 6<=100 by decide,fun t H1 s1 e5=>?_⟩;have s01:Same H H1:=wv.trans s1;have O1:=eQ (n:=n) (it:={ it with tx:=aw it.tx none (some (if(0:Int)>a then 0 else a)) }) S R s01 ⟨t,uv,pv',rfl,e5,e3.ts (Same.ts s01),e4.ts (Same.ts s01)⟩;have b1:But d H (upd H1 d (.dT (aD kvs (nk n) (.ref t)))):=But.put s01 _;generalize upd H1 d (.dT (aD kvs (nk n) (.ref t)))=H2 at O1 b1 ⊢;have t2:=b1.ts h2;obtain⟨kvs2,S2,R2⟩:=id O1;obtain⟨⟨dx2,y1⟩,y2,y3,y4⟩:=id S2;have lk2:=aR R2;have:=kq ol n { it with tx:=aw it.tx none (some (if(0:Int)>a then 0 else a)) };refine⟨_,rfl,p,dx2,_,rfl,y1,bj _ _,_,rfl,vix rfl (SqT.of (t2 _ _ e2)) at0 ⟨_,rfl,vix rfl (SqT.of (t2 _ _ e2)) at2 ⟨_,rfl,_,rfl,it.tx,rfl,lt,?_⟩⟩⟩;refine⟨p,d,g,kvs2,[],mv,uv,pv,.str _,nk m,rfl,S2,hm.ts' t2,by omega,fun t' H3 s3 e6=>?_⟩;refine q _ (b1.trans (But.put s3 _)) (eQ S2 R2 s3 ⟨t',uv,pv,rfl,e6,(e3.ts t2).ts (Same.ts s3),(hp.ts t2).ts (Same.ts s3)⟩)
def lG(C:Addr):Sp:=fun vs H Q _=>∃(p d g:Addr) (ol:Ol) (nv mv:V) (n m:Nm) (itn itm:It),vs=[.ref p,nv,mv]/\OlAt C H p d g ol/\NameIs H nv (nk n)/\NameIs H mv (nk m)/\look ol n=some itn/\look ol m=some itm/\ol.length<=400/\itn.tx.length+itm.tx.length<=1000 /\
 ∀H' ol',But d H H'->OlAt C H' p d g ol'->JoinR ol n m itn itm ol'->Q .non H'
def dw:Option Nm->PyData
 |none=>.none
 |some n=>.tuple [.int n.1,.int n.2]
theorem fe{H:Hp}{v:V}{u:Option Nm}(h:UpAt H v u):Dt H (dw u) v/\(dw u).canLay0=true/\(dw u).depth<=1:=by
 cases u with
 |none =>obtain rfl:v=.non:=h;exact⟨by simp only[dw,Dt],rfl,by decide⟩
 |some n =>obtain⟨b,rfl,e⟩:=h;refine⟨?_,by simp[dw,PyData.canLay0,PyData.canLayAll0],by simp[dw,PyData.depth,PyData.depthAll]⟩;simp only[dw,Dt,DtAll];exact⟨b,_,rfl,.inl e,_,_,rfl,rfl,_,_,rfl,rfl,rfl⟩
theorem oV(u v:Option Nm):PyData.eqv (dw u) (dw v)=decide (u=v):=by
 cases u with
 |none=>cases v<;>rfl
 |some n =>
  cases v with
  |none=>rfl
  |some m =>
   have:=fW [n.1,n.2] [m.1,m.2];show PyData.eqv (.tuple ([n.1,n.2].map PyData.int)) (.tuple ([m.1,m.2].map PyData.int))=_;rw[this,decide_eq_decide];constructor
   ·intro z;injection z with z1 z2;injection z2 with z2 _;exact ZF some (Prod.ext z1 z2)
   ·intro z;rw[zE z]
theorem qz{β:Type}{R:V->β->Prop}{kvs:List (List Key×V)}{ol:As β}{k:List Key}(x:Rws R kvs ol)(h:k∈kvs.map (·.1)):∃n it,k=nk n/\look ol n=some it:=by
 induction x with
 |nil=>exact nomatch h
 |@cons p q _ l r _ ih =>
  rw[zn]at h;rcases zD.mp h with rfl|h
  ·exact⟨q.1,q.2,r.1,by unfold look;rw[if_pos rfl]⟩
  ·obtain⟨n,it,h1,h2⟩:=ih h;by_cases c:q.1=n
   ·exact⟨n,q.2,h1,by unfold look;rw[if_pos c]⟩
   ·exact⟨n,it,h1,by unfold look;rw[if_neg c];exact h2⟩
theorem pY{β:Type}{l:As β}{n m:Nm}{i:β}:(look (l.map fun p=>if p.1=n then(p.1,i)else p) m)=if m=n then(look l m).map (fun _=>i)else look l m:=by
 induction l with
 |nil=>split<;>rfl
 |cons p l ih =>
  rw[zn];unfold look;by_cases c:p.1=n
  ·rw[if_pos c];by_cases c2:p.1=m
   ·rw[if_pos c2,if_pos c2,if_pos (c2▸c)];rfl
   ·rw[if_neg c2,if_neg c2,ih]
  ·rw[if_neg c];by_cases c2:p.1=m
   ·rw[if_pos c2,if_pos c2,if_neg (fun z=>c (c2.trans z))]
   ·rw[if_neg c2,if_neg c2,ih]
theorem pX{β:Type}{l:As β}{n m:Nm}{i:β}(h:look l n=none):look (l++[(n,i)]) m=if m=n then some i else look l m:=by
 induction l with
 |nil =>
  show(if n=m then some i else none)=_;by_cases c:n=m
  ·rw[if_pos c,if_pos c.symm]
  ·rw[if_neg c,if_neg fun z=>c z.symm];rfl
 |cons p l ih =>
  rw[List.cons_append];unfold look at h ⊢;by_cases c:p.1=n
  ·rw[if_pos c]at h;cases h
  ·rw[if_neg c]at h;by_cases c2:p.1=m
   ·rw[if_pos c2,if_pos c2,if_neg fun z=>c (c2.trans z)]
   ·rw[if_neg c2,if_neg c2];exact ih h
theorem ai{β:Type}{l:As β}{n m:Nm}{i:β}:look (al l n i) m=if m=n then some i else look l m:=by
 unfold al;cases e:look l n with
 |none =>rw[if_neg (by simp)];exact pX e
 |some j =>
  rw[if_pos (show(some j).isSome=true from rfl),pY];by_cases c:m=n
  ·rw[if_pos c,if_pos c,c,e];rfl
  ·rw[if_neg c,if_neg c]
theorem ck{β:Type}{l:As β}{n:Nm}{i j:β}(h:look l n=some j):(al l n i).length=l.length:=by unfold al;rw[h,if_pos (show(some j).isSome=true from rfl),zr]
abbrev bR:Stmt:=bq (top 14) 7
abbrev eJ:List Str:=["self","name","other","joined","lower"]
theorem bL:FnScope eJ ["self","name","other"] (ak bR):=⟨rfl,rfl,rfl,by decide +kernel,rfl,by decide +kernel,by decide +kernel⟩
theorem eI{f C:Addr}{fd:FuncData}(F:Fun K "join_items" "Plain.join_items" bR f fd)(T:Txt K C)(M_change:MFn P w K mg base 1 C "change" ["self","name","first","values"] (gB C)){tk tk':Tok}(g_TEXT:mg "TEXT" = some (.int 2 tk))(g_UP:mg "UP" = some (.int 0 tk'))(z_list:mg "list" = none):FnOk P w K mg base CX0 2 f fd ["self","name","other"] (lG C):=by
 refine F.okQ bL (fun vs H Q E h=>?_) (fun cdv A outer s H vs Q E hr h=>?_)
 ·obtain⟨p,d,g,ol,nv,mv,n,m,itn,itm,rfl,_⟩:=h;rfl
 obtain⟨p,d,g,ol,nv,mv,n,m,itn,itm,rfl,⟨kvs,S,R⟩,hn,hm,hln,hlm,l4,lt,q⟩:=h;obtain⟨⟨dx,h1⟩,h2,h3,h4⟩:=id S;obtain⟨nb,rfl,hnb⟩:=id hn;obtain⟨mb,rfl,hmb⟩:=id hm;obtain⟨iv,e1,ia,uv,pv,rfl,e2,e3,e4⟩:=am R hln;obtain⟨jv,f1,ja,uv',pv',rfl,f2,f3,f4⟩:=am R hlm;have lk:=aR R;refine⟨_,(b_c (aC (i:=3) bL.nd (ao eO (ay ax (aN hr.units (bz (q_v 0)) (q_v 1)) (cL g_TEXT)) (ay ax (aN hr.units (bz (q_v 0)) (q_v 2)) (cL g_TEXT))))
   (b_c (bu (aJ M_change (hr.mono (by decide)) (q_v 0) (q_a (q_v 1) (q_a (cL g_TEXT) (q_a (bg (q_a (q_v 3) aj)) aj)))))
   (b_c (bu (aJ M_change (hr.mono (by decide)) (q_v 0) (q_a (q_v 2) (q_a (cL g_TEXT) (q_a (bg (q_a bf aj)) aj)))))
   (b_1 (dj Zv rfl (gM (kh (dC rfl) z_list cG (q_a (bz (q_v 0)) aj))) (bp (i:=4) bL.nd) (b_1 (bh (aL (di hr.units) (ay ax (aN hr.units (bz (q_v 0)) (q_v 4)) (cL g_UP)) (q_v 2)) (b_1 (bu (aJ M_change (hr.mono (by decide)) (q_v 0) (q_a (q_v 4) (q_a (cL g_UP) (q_a (bg (q_a (q_v 1) aj)) aj)))))) b_0))))))),?_⟩
 try rw[cxK]
 refine⟨_,rfl,p,C,dx,_,_,rfl,h1,T.cl,T.nH,aH _ _,_,rfl,d,.ref ia,rfl,e1▸DGet.t (k:=nk n) h2 hnb,ia,_,_,_,rfl,rfl,SqT.of e2,at2,?_⟩;refine⟨_,rfl,p,C,dx,_,_,rfl,h1,T.cl,T.nH,aH _ _,_,rfl,d,.ref ja,rfl,f1▸DGet.t (k:=nk m) h2 hmb,ja,_,_,_,rfl,rfl,SqT.of f2,at2,_,_,rfl,rfl,bZ (by omega),?_⟩;refine⟨_,rfl,p,dx,_,rfl,h1,bj _ _,_,rfl,_,rfl,sz rfl,fun va gva=>?_⟩;have wv:=ah gva (.tup [.str (itn.tx++itm.tx)]);refine⟨p,d,g,ia,va,kvs,[],.ref nb,nk n,2,_,_,rfl,S.same wv,hn.same wv,by omega,e1,wv _ _ e2,ae,show 2+1<=6 by decide,show 6<=100 by decide,fun t H1 s1 e5=>?_⟩;have s01:Same H H1:=wv.trans s1;have O1:=eQ (n:=n) (it:={ itn with tx:=itn.tx++itm.tx }) S R s01 ⟨t,uv,pv,rfl,e5,e3.ts (Same.ts s01),e4.ts (Same.ts s01)⟩;have b1:But d H (upd H1 d (.dT (aD kvs (nk n) (.ref t)))):=But.put s01 _;generalize upd H1 d (.dT (aD kvs (nk n) (.ref t)))=H2 at O1 b1 ⊢;have t2:=b1.ts h2;obtain⟨kvs2,S2,R2⟩:=id O1;obtain⟨⟨dx2,y1⟩,y2,y3,y4⟩:=id S2;have lk2:=aR R2;have ls2:(al ol n { itn with tx:=itn.tx++itm.tx }).length=ol.length:=ck hln;obtain⟨itm2,hlm2⟩:∃it,look (al ol n { itn with tx:=itn.tx++itm.tx }) m=some it:=by
  rw[ai];split
  ·exact⟨_,rfl⟩
  ·exact⟨_,hlm⟩
 obtain⟨kv,g1,ka,uw,pw,rfl,g2,g3,g4⟩:=am R2 hlm2;refine⟨_,rfl,p,dx2,_,rfl,y1,bj _ _,_,rfl,sz rfl,fun vb gvb=>?_⟩;have wb:=ah gvb (.tup [.str ""]);refine⟨p,d,g,ka,vb,kvs2,[],.ref mb,nk m,2,_,_,rfl,S2.same wb,(hm.ts' t2).same wb,by omega,g1,wb _ _ g2,ae,show 2+1<=6 by decide,show 6<=100 by decide,fun t' H3 s3 e6=>?_⟩;have s23:Same H2 H3:=wb.trans s3;have O3:=eQ (n:=m) (it:={ itm2 with tx:="" }) S2 R2 s23 ⟨t',uw,pw,rfl,e6,g3.ts (Same.ts s23),g4.ts (Same.ts s23)⟩;have b3:But d H (upd H3 d (.dT (aD kvs2 (nk m) (.ref t')))):=b1.trans (But.put s23 _);generalize upd H3 d (.dT (aD kvs2 (nk m) (.ref t')))=H4 at O3 b3 ⊢;have t4:=b3.ts h2;obtain⟨kvs4,S4,R4⟩:=id O3;obtain⟨⟨dx4,z1⟩,z2,z3,z4⟩:=id S4;have ls4:(al (al ol n { itn with tx:=itn.tx++itm.tx }) m { itm2 with tx:="" }).length=ol.length:=(ck hlm2).trans ls2;generalize hO4:al (al ol n { itn with tx:=itn.tx++itm.tx }) m { itm2 with tx:="" }=ol4 at O3 R4 ls4;refine⟨_,rfl,p,C,dx4,_,_,rfl,z1,T.cl,T.nH,aH _ _,d,kvs4,rfl,.inl z2,fun l ks gl hk=>⟨l,rfl,⟨_,SqL.of ae⟩,?_⟩⟩;have wl:=ah gl (.lst ks);have el:upd H4 l (.lst ks) l=some (.lst ks):=ae;have nld:l≠d:=fun z=>by rw[z,z2]at gl;cases gl
 have O5:PlainAt C (upd H4 l (.lst ks)) p d g kvs4 []:=S4.same wl;have R5:Rows (upd H4 l (.lst ks)) kvs4 ol4:=R4.ts (Same.ts wl);have hk5:bC (upd H4 l (.lst ks)) kvs4 ks:=vU hk (Same.ts wl);have b5:But d H (upd H4 l (.lst ks)):=b3.trans (But.of wl);have nb5:=wl _ _ (t4 _ _ hnb);have mb5:=wl _ _ (t4 _ _ hmb);generalize upd H4 l (.lst ks)=H5 at el O5 R5 hk5 b5 nb5 mb5 ⊢;have lks:=tJ hk5;refine iP (K:=K) (a:=l) (xs:=ks) (fun i σ H'=>But d H5 H'/\∃(kvs':List (List Key×V)) (ol':Ol) (o4:Option V),PlainAt C H' p d g kvs' []/\Rows H' kvs' ol'/\kvs'.map (·.1)=kvs4.map (·.1)/\ol'.length=ol.length/\((∀x,nk x∈(kvs4.map (·.1)).take i->look ol' x=(look ol4 x).map (aE n m))/\∀x,¬nk x∈(kvs4.map (·.1)).take i->look ol' x=look ol4 x)/\σ=[some (.ref p),some (.ref nb),some (.ref mb),some (.str (itn.tx++itm.tx)),o4])
  ⟨But.of (Same.refl _),kvs4,ol4,none,O5,R5,rfl,ls4,⟨fun x h=>by simp at h,fun _ _=>rfl⟩,rfl⟩ (fun i σ H' _ z=>SqL.of (z.1 _ _ el nld)) ?_ ?_
 ·rintro i v σ H' hv ⟨bt,kvs',ol',o4,S',R',hk',ll,⟨j1,j2⟩,rfl⟩ DL hDL;have tt:=bt.ts O5.dc;obtain⟨⟨dx',x1⟩,x2,x3,x4⟩:=id S';obtain⟨k,k1,vb',rfl,k2⟩:=tI hk5 hv;obtain⟨c,it,rfl,hc⟩:=qz R' (by rw[hk'];exact List.mem_of_getElem? k1);obtain⟨cv,c1,ca,uc,pc,rfl,c2,c3,c4⟩:=am R' hc;obtain⟨p1,p2,p3⟩:=fe c3;obtain⟨r1,r2,r3⟩:=fe (u:=some m) (v:=.ref mb) ⟨mb,rfl,tt _ _ mb5⟩;have et:(kvs4.map (·.1)).take (i+1)=(kvs4.map (·.1)).take i++[nk c]:=by rw[List.take_succ,k1];rfl
  have h4:(look ol4 c).map (aE n m)=some (aE n m it):=by
   by_cases cm:nk c∈(kvs4.map (·.1)).take i
   ·have:=j1 c cm;rw[hc]at this;cases e:look ol4 c with
    |none=>rw[e]at this;cases this
    |some it4 =>rw[e]at this;have e2:it=aE n m it4:=zE this;rw[e2,sG];rfl
   ·rw[<-j2 c cm,hc];rfl
  have stp:∀ol'':Ol,(∀x,look ol'' x=if x=c then some (aE n m it)else look ol' x)->(∀x,nk x∈(kvs4.map (·.1)).take (i+1)->look ol'' x=(look ol4 x).map (aE n m))/\∀x,¬nk x∈(kvs4.map (·.1)).take (i+1)->look ol'' x=look ol4 x:=fun ol'' ho=>by
   refine⟨fun x hx=>?_,fun x hx=>?_⟩
   ·rw[ho x];by_cases e:x=c
    ·rw[if_pos e,e,h4]
    ·rw[if_neg e];rw[et]at hx;rcases z9.mp hx with hx|hx
     ·exact j1 x hx
     ·exact absurd (eN (List.mem_singleton.mp hx)) e
   ·rw[et]at hx;rw[ho x,if_neg fun e=>hx (z9.mpr (.inr (List.mem_singleton.mpr (ZF nk e))))];exact j2 x fun z=>hx (z9.mpr (.inl z))
  refine⟨_,rfl,p,C,dx',_,_,rfl,x1,T.cl,T.nH,aH _ _,_,rfl,d,.ref ca,rfl,c1▸DGet.t (k:=nk c) x2 (tt _ _ k2),ca,_,_,_,rfl,rfl,SqT.of c2,at0,_,rfl,_,_,p1,r1,cn p2 (by omega),cn r2 (by omega),_,rfl,?_⟩;have lk':=aR R';rw[oV];refine fX (fun eu=>?_) (fun eu=>?_)
  ·refine⟨_,rfl,p,dx',_,rfl,x1,bj _ _,_,rfl,_,rfl,sz rfl,fun vc gvc=>?_⟩;have wc:=ah gvc (.tup [.ref nb]);refine⟨p,d,g,ca,vc,kvs',[],_,nk c,0,_,_,rfl,S'.same wc,⟨vb',rfl,wc _ _ (tt _ _ k2)⟩,by omega,c1,wc _ _ c2,ae,show 0+1<=6 by decide,show 6<=100 by decide,fun t6 H6 s6 e7=>?_⟩;have s56:Same H' H6:=wc.trans s6;have hi:ItAt H6 (.ref t6) { it with up:=some n }:=⟨t6,.ref nb,pc,rfl,e7,⟨nb,rfl,s56 _ _ (tt _ _ nb5)⟩,c4.ts (Same.ts s56)⟩
   have td:TS H6 (upd H6 d (.dT (aD kvs' (nk c) (.ref t6)))):=kE (s56 _ _ x2);have er:aE n m it={ it with up:=some n }:=by unfold aE;rw[if_pos eu]
   exact hDL _ _ ⟨bt.trans (But.put s56 _),aD kvs' (nk c) (.ref t6),al ol' c { it with up:=some n },_,(S'.same s56).put,Rows.ts (gq (Rows.ts R' (Same.ts s56)) hi) td,by rw[pT (iI c1)];exact hk',by rw[ck hc];exact ll,stp _ fun x=>by rw[ai,er],rfl⟩
  ·refine hDL _ _ ⟨bt,kvs',ol',_,S',R',hk',ll,stp ol' fun x=>?_,rfl⟩;by_cases e:x=c
   ·rw[if_pos e,e,hc];unfold aE;rw[if_neg eu]
   ·rw[if_neg e]
 ·rintro σ H' ⟨bt,kvs',ol',o4,S',R',hk',ll,⟨j1,j2⟩,rfl⟩;have k4:ol4.map (·.1)=ol.map (·.1):=by rw[<-hO4,bw hlm2,bw hln]
  have k5:ol'.map (·.1)=ol.map (·.1):=by rw[<-k4];refine li ?_;rw[<-iR R',<-iR R4,hk']
  refine q H' ol' (b5.trans bt) ⟨kvs',S',R'⟩ ⟨ll,k5,itm2,hlm2,fun x=>?_⟩;rw[hO4];have ee:(kvs4.map (·.1)).take ks.length=kvs4.map (·.1):=by rw[zO];rw[zr,lks];exact zh _
  rw[ee]at j1 j2;by_cases hx:nk x∈kvs4.map (·.1)
  ·exact j1 x hx
  ·rw[j2 x hx];have:=lD (n:=x) R4;rw[kK hx]at this;cases e:look ol4 x with
   |none=>rfl
   |some it=>rw[e]at this;cases this
inductive Sk
 |put (n:Nm)(u:Option Nm)(pl:List Int)(tx:Str)
 |part (n:Nm)(a:Nat)(m:Nm)(pl:List Int)
 |join (n m:Nm)
def SkAt(H:Hp)(st:Addr):Sk->Prop
 |.put n u pl tx=>∃nv uv pv,H st=some (.tup [.str "put",nv,uv,pv,.str tx])/\NameIs H nv (nk n)/\UpAt H uv u/\PlAt H pv pl
 |.part n a m pl=>∃nv mv pv,H st=some (.tup [.str "part",nv,.int (a:Int),mv,pv])/\NameIs H nv (nk n)/\NameIs H mv (nk m)/\PlAt H pv pl
 |.join n m=>∃nv mv,H st=some (.tup [.str "join",nv,mv])/\NameIs H nv (nk n)/\NameIs H mv (nk m)
theorem SkAt.ts{H H':Hp}{st:Addr}{s:Sk}(x:SkAt H st s)(t:TS H H'):SkAt H' st s:=by
 cases s with
 |put=>obtain⟨nv,uv,pv,h1,h2,h3,h4⟩:=x;exact⟨nv,uv,pv,t _ _ h1,h2.ts' t,h3.ts t,h4.ts t⟩
 |part=>obtain⟨nv,mv,pv,h1,h2,h3,h4⟩:=x;exact⟨nv,mv,pv,t _ _ h1,h2.ts' t,h3.ts' t,h4.ts t⟩
 |join=>obtain⟨nv,mv,h1,h2,h3⟩:=x;exact⟨nv,mv,t _ _ h1,h2.ts' t,h3.ts' t⟩
def Sk.may(ol:Ol):Sk->Prop
 |.put n u _ _=>look ol n=none/\∀x,u=some x->(look ol x).isSome=true
 |.part n a m _=>look ol m=none/\∃it,look ol n=some it/\a<=it.tx.length/\it.tx.length<=400
 |.join n m=>(∃k,Und ol m k (some n) false)/\∃itn itm,look ol n=some itn/\look ol m=some itm/\itn.tx.length+itm.tx.length<=1000
def Sk.to(ol:Ol):Sk->Ol->Prop
 |.put n u pl tx,ol'=>ol'=al ol n ⟨u,pl,tx,false,none,false⟩
 |.part n a m pl,ol'=>∃it,look ol n=some it/\ol'=al (al ol n { it with tx:=aw it.tx none (some (a:Int)) }) m ⟨it.up,pl,aw it.tx (some (a:Int)) none,false,none,false⟩
 |.join n m,ol'=>∃itn itm,look ol n=some itn/\look ol m=some itm/\JoinR ol n m itn itm ol'
def iT(C:Addr):Sp:=fun vs H Q _=>∃(p d g st:Addr) (ol:Ol) (s:Sk),vs=[.ref p,.ref st]/\OlAt C H p d g ol/\SkAt H st s/\s.may ol/\Q .non H
abbrev bA:Stmt:=bq (top 14) 3
abbrev dM:List Str:=["self","step"]
theorem dJ:FnScope dM ["self","step"] (ak bA):=⟨rfl,rfl,rfl,by decide +kernel,rfl,by decide +kernel,by decide +kernel⟩
theorem dG{f C:Addr}{fd:FuncData}(F:Fun K "check_bounds" "Plain.check_bounds" bA f fd)(T:Txt K C)(M_at_or_beneath:MFn P w K mg base 1 C "at_or_beneath" ["self","one","other"] (lJ C)){tk:Tok}(g_TEXT:mg "TEXT" = some (.int 2 tk))(z_len:mg "len" = none) :
  FnOk P w K mg base CX0 2 f fd ["self","step"] (iT C):=by
 refine F.okQ dJ (fun vs H Q E h=>?_) (fun cdv A outer s H vs Q E hr h=>?_)
 ·obtain⟨p,d,g,st,ol,sk,rfl,_⟩:=h;rfl
 obtain⟨p,d,g,st,ol,sk,rfl,O,hs,hb,q⟩:=h;obtain⟨kvs,S,R⟩:=id O;obtain⟨⟨dx,h1⟩,h2,h3,h4⟩:=id S;refine⟨_,(b_c (bh (t_w (dq (aL dX (ay ax (q_v 1) ag) bf) (cX (eA (aJ M_at_or_beneath (hr.mono (by decide)) (q_v 0) (q_a (ay ax (q_v 1) ag) (q_a (ay ax (q_v 1) ag) aj))))))) (b_1 ci) b_0)
   (b_c (bh (t_w (dq (aL dX (ay ax (q_v 1) ag) bf) (cX (eA (aJ M_at_or_beneath (hr.mono (by decide)) (q_v 0) (q_a (ay ax (q_v 1) ag) (q_a (ay ax (q_v 1) ag) aj))))))) (b_1 ci) b_0)
   (b_1 (bh (t_w (dq (aL dX (ay ax (q_v 1) ag) bf) (cX (aL tX (ay ax (q_v 1) ag) (q_B mP z_len PySem.boot_len (q_a (ay ax (aN hr.units (bz (q_v 0)) (ay ax (q_v 1) ag)) (cL g_TEXT)) aj)))))) (b_1 ci) b_0)))),?_⟩
 try rw[cxK]
 cases sk with
 |put n u pl tx =>obtain⟨nv,uv,pv,hst,_⟩:=hs;refine(vix rfl (SqT.of hst) at0 ⟨rfl,_,rfl,dr (by decide +kernel) (aO ?_)⟩);refine(vix rfl (SqT.of hst) at0 ⟨rfl,_,rfl,dr (by decide +kernel) (aO ?_)⟩);exact(vix rfl (SqT.of hst) at0 ⟨rfl,_,rfl,dr (by decide +kernel) (aO q)⟩)
 |join n m =>obtain⟨nv,mv,hst,hn,hm⟩:=hs;obtain⟨⟨k,un⟩,_⟩:=hb;refine(vix rfl (SqT.of hst) at0 ⟨rfl,_,rfl,dr (by decide +kernel) (aO ?_)⟩);refine(vix rfl (SqT.of hst) at0 ⟨rfl,_,rfl,jP ?_⟩);refine⟨_,rfl,p,dx,_,rfl,h1,bj _ _,vix rfl (SqT.of hst) at1 (vix rfl (SqT.of hst) at2 ⟨p,d,g,ol,nv,mv,some n,m,k,false,rfl,O,hn,hm,un,_,rfl,aO ?_⟩)⟩;exact(vix rfl (SqT.of hst) at0 ⟨rfl,_,rfl,dr (by decide +kernel) (aO q)⟩)
 |part n a m pl =>obtain⟨nv,mv,pv,hst,hn,_⟩:=hs;obtain⟨_,it,hl,ha,ht⟩:=hb;refine(vix rfl (SqT.of hst) at0 ⟨rfl,_,rfl,dr (by decide +kernel) (aO ?_)⟩);refine(vix rfl (SqT.of hst) at0 ⟨rfl,_,rfl,dr (by decide +kernel) (aO ?_)⟩);refine(vix rfl (SqT.of hst) at0 ⟨rfl,_,rfl,jP ?_⟩);obtain⟨iv,e1,ia,uv,pv',rfl,e2,e3,e4⟩:=am R hl;obtain⟨nb,rfl,hnb⟩:=hn;refine(vix rfl (SqT.of hst) at2 ⟨_,rfl,p,C,dx,_,_,rfl,h1,T.cl,T.nH,aH _ _,vix rfl (SqT.of hst) at1 ⟨d,.ref ia,rfl,e1▸DGet.t (k:=nk n) h2 hnb,ia,_,_,_,rfl,rfl,SqT.of e2,at2,it.tx,rfl,(by omega),_,_,rfl,rfl,_,rfl,?_⟩⟩);exact qS (by omega) q
theorem qD{H:Hp}{kvs:List (List Key×V)}{ol:Ol}{st:Addr}{s:Sk}(R:Rows H kvs ol)(h:SkAt H st s)(hm:s.may ol):∃(wd:Str) (ws:List Str) (ps:List V),H st=some (.tup (.str wd::ps))/\PyProof.Rows.KTD.datumAt wd ST=some (tw ws)/\kL H kvs ws ps:=by
 have old:∀{v:V} {n:Nm},NameIs H v (nk n)->(look ol n).isSome=true->v=.non\/∃k,NameIs H v k/\(aS kvs k).isSome=true:=fun hv hl=>.inr ⟨_,hv,by rw[lD R];exact hl⟩;have new:∀{v:V} {n:Nm},NameIs H v (nk n)->look ol n=none->∃k,NameIs H v k/\aS kvs k=none:=fun hv hl=>⟨_,hv,eT R hl⟩
 cases s with
 |put n u pl tx =>
  obtain⟨nv,uv,pv,h1,h2,h3,h4⟩:=h;refine⟨_,_,_,h1,rfl,rfl,fun i w v e1 e2=>?_⟩
  match i,e1,e2 with
  |0,e1,e2=>cases e1;cases e2;exact⟨fun _=>new h2 hm.1,fun z=>absurd z (by decide +kernel)⟩
  |1,e1,e2 =>
   cases e1;cases e2;refine⟨fun z=>absurd z (by decide +kernel),fun _=>?_⟩;cases u with
   |none=>exact .inl h3
   |some x=>exact old h3 (hm.2 x rfl)
  |2,e1,e2=>cases e1;exact⟨fun z=>absurd z (by decide +kernel),fun z=>absurd z (by decide +kernel)⟩
  |3,e1,e2=>cases e1;exact⟨fun z=>absurd z (by decide +kernel),fun z=>absurd z (by decide +kernel)⟩
  |i+4,e1,e2=>simp at e1
 |part n a m pl =>
  obtain⟨nv,mv,pv,h1,h2,h3,h4⟩:=h;obtain⟨hm1,it,hl,_⟩:=hm;refine⟨_,_,_,h1,rfl,rfl,fun i w v e1 e2=>?_⟩
  match i,e1,e2 with
  |0,e1,e2=>cases e1;cases e2;exact⟨fun z=>absurd z (by decide +kernel),fun _=>old h2 (by rw[hl];rfl)⟩
  |1,e1,e2=>cases e1;exact⟨fun z=>absurd z (by decide +kernel),fun z=>absurd z (by decide +kernel)⟩
  |2,e1,e2=>cases e1;cases e2;exact⟨fun _=>new h3 hm1,fun z=>absurd z (by decide +kernel)⟩
  |3,e1,e2=>cases e1;exact⟨fun z=>absurd z (by decide +kernel),fun z=>absurd z (by decide +kernel)⟩
  |i+4,e1,e2=>simp at e1
 |join n m =>
  obtain⟨nv,mv,h1,h2,h3⟩:=h;obtain⟨_,itn,itm,hn,hm,_⟩:=hm;refine⟨_,_,_,h1,rfl,rfl,fun i w v e1 e2=>?_⟩
  match i,e1,e2 with
  |0,e1,e2=>cases e1;cases e2;exact⟨fun z=>absurd z (by decide +kernel),fun _=>old h2 (by rw[hn];rfl)⟩
  |1,e1,e2=>cases e1;cases e2;exact⟨fun z=>absurd z (by decide +kernel),fun _=>old h3 (by rw[hm];rfl)⟩
  |i+2,e1,e2=>simp at e1
def fH(C:Addr):Sp:=fun vs H Q _=>∃(p d g st:Addr) (ol:Ol) (s:Sk),vs=[.ref p,.ref st]/\OlAt C H p d g ol/\ol.length<=300/\SkAt H st s/\s.may ol/\∀H' ol',But d H H'->OlAt C H' p d g ol'->s.to ol ol'->Q .non H'
abbrev cU:Stmt:=bq (top 14) 1
abbrev jC:List Str:=["self","step","word"]
theorem eC:FnScope jC ["self","step"] (ak cU):=⟨rfl,rfl,rfl,by decide +kernel,rfl,by decide +kernel,by decide +kernel⟩
theorem jd{f C:Addr}{fd:FuncData}(F:Fun K "step" "Plain.step" cU f fd)(M_check_names:MFn P w K mg base 2 C "check_names" ["self","step"] (kz C))(M_check_bounds:MFn P w K mg base 2 C "check_bounds" ["self","step"] (iT C))(M_bring_in:MFn P w K mg base 1 C "bring_in" ["self","name","up","place","text"] (iF C))(M_part_item:MFn P w K mg base 2 C "part_item" ["self","name","at","new","place"] (lH C))(M_join_items:MFn P w K mg base 2 C "join_items" ["self","name","other"] (lG C)) :
  FnOk P w K mg base CX0 3 f fd ["self","step"] (fH C):=by
 refine F.okQ eC (fun vs H Q E h=>?_) (fun cdv A outer s H vs Q E hr h=>?_)
 ·obtain⟨p,d,g,st,ol,sk,rfl,_⟩:=h;rfl
 obtain⟨p,d,g,st,ol,sk,rfl,O,l3,hs,hm,q⟩:=h;obtain⟨kvs,S,R⟩:=id O;obtain⟨⟨dx,h1⟩,h2,h3,h4⟩:=id S;have lk:=aR R;obtain⟨wd,ws,ps,hst,dat,ok⟩:=qD R hs hm;refine⟨_,(b_c (bu (aJ M_check_names (hr.mono (by decide)) (q_v 0) (q_a (q_v 1) aj)))
   (b_c (bu (aJ M_check_bounds (hr.mono (by decide)) (q_v 0) (q_a (q_v 1) aj)))
   (b_c (aC (i:=2) eC.nd (ay ax (q_v 1) ag))
   (b_1 (bh (aL dX (q_v 2) bf) (b_1 (bu (aJ M_bring_in (hr.mono (by decide)) (q_v 0) (q_a (ay ax (q_v 1) ag) (q_a (ay ax (q_v 1) ag) (q_a (ay ax (q_v 1) ag) (q_a (ay ax (q_v 1) ag) aj))))))) (b_1 (bh (aL dX (q_v 2) bf) (b_1 (bu (aJ M_part_item (hr.mono (by decide)) (q_v 0) (q_a (ay ax (q_v 1) ag) (q_a (ay ax (q_v 1) ag) (q_a (ay ax (q_v 1) ag) (q_a (ay ax (q_v 1) ag) aj))))))) (b_1 (bh (aL dX (q_v 2) bf) (b_1 (bu (aJ M_join_items (hr.mono (by decide)) (q_v 0) (q_a (ay ax (q_v 1) ag) (q_a (ay ax (q_v 1) ag) aj))))) (b_1 (bh (aL dX (q_v 2) bf) (b_1 ci) (b_1 ci)))))))))))),?_⟩
 try rw[cxK]
 refine⟨_,rfl,p,dx,_,rfl,h1,bj _ _,_,rfl,p,d,g,st,kvs,[],wd,ws,ps,rfl,S,hst,dat,ok,fun H1 s1=>?_⟩;clear hst dat ok;have hs1:=hs.ts (Same.ts s1);have S1:=S.same s1;have R1:=R.ts (Same.ts s1);have y1:=s1 _ _ h1;have O1:=O.same s1;refine⟨_,rfl,p,dx,_,rfl,y1,bj _ _,_,rfl,p,d,g,st,ol,sk,rfl,O1,hs1,hm,?_⟩;cases sk with
 |put n u pl tx =>
  obtain⟨nv,uv,pv,hst,hn,hu,hp⟩:=hs1;have e1:=SqT.of (K:=K) hst;refine vix rfl e1 at0 ⟨_,rfl,rfl,_,rfl,jP ?_⟩;exact⟨_,rfl,p,dx,_,rfl,y1,bj _ _,vix rfl e1 at1 (vix rfl e1 at2 (vix rfl e1 at3 (vix rfl e1 at4
   ⟨p,d,g,kvs,[],nv,uv,pv,.str tx,nk n,rfl,S1,hn,by omega,fun t H2 s2 e2=>q _ _ (But.put (s1.trans s2) _) (eQ S1 R1 s2 ⟨t,uv,pv,rfl,e2,hu.ts (Same.ts s2),hp.ts (Same.ts s2)⟩) rfl⟩)))⟩
 |part n a m pl =>
  obtain⟨nv,mv,pv,hst,hn,hm',hp⟩:=hs1;have e1:=SqT.of (K:=K) hst;obtain⟨_,it,hl,ha,ht⟩:=hm;refine vix rfl e1 at0 ⟨_,rfl,rfl,_,rfl,dr (by decide +kernel) ?_⟩;refine⟨_,rfl,rfl,_,rfl,jP ?_⟩;have ea:(if(0:Int)>(a:Int)then 0 else(a:Int))=(a:Int):=if_neg (by omega);refine⟨_,rfl,p,dx,_,rfl,y1,bj _ _,vix rfl e1 at1 (vix rfl e1 at2 (vix rfl e1 at3 (vix rfl e1 at4
   ⟨p,d,g,ol,nv,mv,pv,n,m,a,pl,it,rfl,O1,hn,hm',hp,hl,by omega,by omega,fun H2 b2 o2=>q _ _ ((But.of s1).trans b2) o2 ⟨it,hl,?_⟩⟩)))⟩
  rw[ea]
 |join n m =>
  obtain⟨nv,mv,hst,hn,hm'⟩:=hs1;have e1:=SqT.of (K:=K) hst;obtain⟨_,itn,itm,hln,hlm,hlt⟩:=hm;refine vix rfl e1 at0 ⟨_,rfl,rfl,_,rfl,dr (by decide +kernel) ?_⟩;refine⟨_,rfl,rfl,_,rfl,dr (by decide +kernel) ?_⟩;refine⟨_,rfl,rfl,_,rfl,jP ?_⟩;exact⟨_,rfl,p,dx,_,rfl,y1,bj _ _,vix rfl e1 at1 (vix rfl e1 at2
   ⟨p,d,g,ol,nv,mv,n,m,itn,itm,rfl,O1,hn,hm',hln,hlm,by omega,by omega,fun H2 ol' b2 o2 j=>q _ _ ((But.of s1).trans b2) o2 ⟨itn,itm,hln,hlm,j⟩⟩)⟩
inductive Ch(ol:Ol):Nat->Option Nm->Prop
 |none:Ch ol 0 none
 |up {k:Nat} {n:Nm} {it:It}:look ol n=some it->Ch ol k it.up->Ch ol (k+1) (some n)
def Ter(ol:Ol):Prop:=∀n it,look ol n=some it->∃k,Ch ol k (some n)
theorem oU{ol:Ol}{k:Nat}{u:Option Nm}(h:Ch ol k u)(o:Nm):∃k' b,Und ol o k' u b:=by
 induction h with
 |none=>exact⟨0,false,.none⟩
 |@up k n it hl _ ih =>
  by_cases c:n=o
  ·exact⟨0,true,c▸.self⟩
  ·obtain⟨k',b,x⟩:=ih;exact⟨k'+1,b,.up c hl x⟩
theorem Ter.up{ol:Ol}(t:Ter ol){n:Nm}{it:It}(h:look ol n=some it):∃k,Ch ol k it.up:=by
 obtain⟨k,x⟩:=t n it h;cases x with
 |up hl y =>rw[h]at hl;cases hl;exact⟨_,y⟩
theorem fj{ol ol':Ol}(hh:∀n it,look ol n=some it->∃it',look ol' n=some it'/\it'.up=it.up){k:Nat}{u:Option Nm}(h:Ch ol k u):Ch ol' k u:=by
 induction h with
 |none=>exact .none
 |up hl _ ih =>obtain⟨it',h1,h2⟩:=hh _ _ hl;exact .up h1 (h2▸ih)
theorem Ter.keep{ol:Ol}(t:Ter ol){n:Nm}{it it':It}(h:look ol n=some it)(e:it'.up=it.up):Ter (al ol n it'):=by
 have mono:∀x i,look ol x=some i->∃i',look (al ol n it') x=some i'/\i'.up=i.up:=fun x i hx=>by
  rw[ai];by_cases c:x=n
  ·rw[if_pos c];subst c;rw[h]at hx;cases hx;exact⟨_,rfl,e⟩
  ·rw[if_neg c];exact⟨_,hx,rfl⟩
 intro x i hx;rw[ai]at hx;by_cases c:x=n
 ·subst c;obtain⟨k,y⟩:=t x it h;exact⟨k,fj mono y⟩
 ·rw[if_neg c]at hx;obtain⟨k,y⟩:=t x i hx;exact⟨k,fj mono y⟩
theorem Ter.new{ol:Ol}(t:Ter ol){n:Nm}{it:It}{k:Nat}(h:look ol n=none)(c:Ch ol k it.up):Ter (al ol n it):=by
 have mono:∀x i,look ol x=some i->∃i',look (al ol n it) x=some i'/\i'.up=i.up:=fun x i hx=>by rw[ai,if_neg fun z=>by rw[z,h]at hx;cases hx];exact⟨_,hx,rfl⟩
 intro x i hx;by_cases e:x=n
 ·subst e;exact⟨_,.up (by rw[ai,if_pos rfl]) (fj mono c)⟩
 ·rw[ai,if_neg e]at hx;obtain⟨k,y⟩:=t x i hx;exact⟨k,fj mono y⟩
theorem df{ol ol':Ol}{n m:Nm}{itn itm:It}(hn:look ol n=some itn)(hm:look ol m=some itm)(j:JoinR ol n m itn itm ol') :
  (∀x,look ol x=none->look ol' x=none)/\∀x it,look ol x=some it->∃i,look ol' x=some (aE n m i)/\i.up=it.up/\i.tx=(if x=m then("":Str)else if x=n then itn.tx++itm.tx else it.tx):=by
 obtain⟨itm2,h2,hl⟩:=j.lk;have em:itm2.up=itm.up:=by
  rw[ai]at h2;by_cases c:m=n
  ·rw[if_pos c]at h2;subst c;rw[hn]at hm;cases hm;cases h2;rfl
  ·rw[if_neg c,hm]at h2;cases h2;rfl
 refine⟨fun x hx=>?_,fun x it hx=>?_⟩
 ·have d1:x≠m:=fun z=>by rw[z,hm]at hx;cases hx
  have d2:x≠n:=fun z=>by rw[z,hn]at hx;cases hx
  rw[hl x,ai,ai,if_neg d1,if_neg d2,hx];rfl
 ·rw[hl x,ai,ai];by_cases c:x=m
  ·rw[if_pos c,if_pos c];subst c;rw[hm]at hx;cases hx;exact⟨_,rfl,em,rfl⟩
  ·rw[if_neg c,if_neg c];by_cases c2:x=n
   ·rw[if_pos c2,if_pos c2];subst c2;rw[hn]at hx;cases hx;exact⟨_,rfl,rfl,rfl⟩
   ·rw[if_neg c2,if_neg c2,hx];exact⟨_,rfl,rfl,rfl⟩
theorem iC(n m:Nm)(i:It):(aE n m i).up=if i.up=some m then some n else i.up:=by unfold aE;split<;>rfl
theorem dH(n m:Nm)(i:It):(aE n m i).tx=i.tx:=by unfold aE;split<;>rfl
theorem iH{ol:Ol}{o:Nm}{k:Nat}{u:Option Nm}(h:Und ol o k u false):u≠some o:=by
 intro z;subst z;cases h with
 |up hn _ _=>exact hn rfl
theorem Ter.join{ol ol':Ol}{n m:Nm}{itn itm:It}(t:Ter ol)(hn:look ol n=some itn)(hm:look ol m=some itm)(j:JoinR ol n m itn itm ol'){k:Nat}(un:Und ol m k (some n) false):Ter ol':=by
 obtain⟨j0,j1⟩:=df hn hm j;have c1:∀{k:Nat} {u:Option Nm} {b:Bool},Und ol m k u b->b=false->Ch ol' k u:=fun h=>by
  induction h with
  |none=>intro _;exact .none
  |self=>intro z;cases z
  |@up k x i b hx hl y ih =>intro hb;subst hb;obtain⟨i',e1,e2,_⟩:=j1 x i hl;refine .up e1 ?_;rw[iC,e2,if_neg (iH y)];exact ih rfl
 have gen:∀{k:Nat} {u:Option Nm},Ch ol k u->∃k',Ch ol' k' u:=fun h=>by
  induction h with
  |none=>exact⟨0,.none⟩
  |@up k x i hl _ ih =>
   obtain⟨i',e1,e2,_⟩:=j1 x i hl;by_cases c:i.up=some m
   ·exact⟨_,.up e1 (by rw[iC,e2,if_pos c];exact c1 un rfl)⟩
   ·obtain⟨k',y⟩:=ih;exact⟨_,.up e1 (by rw[iC,e2,if_neg c];exact y)⟩
 intro x i hx;cases e:look ol x with
 |none=>rw[j0 x e]at hx;cases hx
 |some i0 =>obtain⟨k,y⟩:=t x i0 e;exact gen y
structure Addt(g:Str->Nat):Prop where
 app:∀x y,g (x++y)=g x+g y
 nil:g "" = 0
theorem ie:Addt fun s=>s.length:=⟨iA,by decide +kernel⟩
theorem rA(c:Nat):Addt fun s=>s.cps.toList.count c:=⟨fun x y=>by
 show(x.cps++y.cps).toList.count c=_;rw[zG,List.count_append],rfl⟩
def W(g:Str->Nat)(ol:Ol):Nat:=(ol.map fun p=>g p.2.tx).sum
theorem gd{β:Type}{l:As β}{n:Nm}{i:β}(h:look l n=some i):(n,i)∈l:=by
 induction l with
 |nil=>cases h
 |cons p l ih =>
  unfold look at h;by_cases c:p.1=n
  ·rw[if_pos c]at h;cases h;exact zD.mpr (.inl (by rw[<-c]))
  ·rw[if_neg c]at h;exact zP _ (ih h)
theorem lh{β:Type}{l:As β}{n:Nm}(h:look l n=none):¬n∈l.map (·.1):=by
 induction l with
 |nil=>intro z;cases z
 |cons p l ih =>
  unfold look at h;by_cases c:p.1=n
  ·rw[if_pos c]at h;cases h
  ·rw[if_neg c]at h;intro z;rcases zD.mp z with z|z
   ·exact c z.symm
   ·exact ih h z
theorem fB{β:Type}{l:As β}(nd:(l.map (·.1)).Nodup){n:Nm}{i:β}(h:(n,i)∈l):look l n=some i:=by
 induction l with
 |nil=>cases h
 |cons p l ih =>
  rw[zn,ZG]at nd;unfold look;rcases zD.mp h with h|h
  ·rw[<-h,if_pos rfl]
  ·rw[if_neg fun z=>nd.1 (by rw[z];exact List.mem_map.mpr ⟨_,h,rfl⟩)];exact ih nd.2 h
theorem wO{g:Str->Nat}{ol:Ol}{n:Nm}{it:It}(h:look ol n=some it):g it.tx<=W g ol:=by
 have m:=gd h;unfold W;generalize ol=l at m;induction l with
 |nil=>cases m
 |cons p l ih =>
  rw[zn,List.sum_cons];rcases zD.mp m with m|m
  ·rw[<-m];exact Nat.le_add_right _ _
  ·exact zS (ih m) (Nat.le_add_left _ _)
theorem cA{β:Type}{l:As β}{n:Nm}{i:β}(h:look l n=none):al l n i=l++[(n,i)]:=by unfold al;rw[h,if_neg (by simp)]
theorem eh{β:Type}{l:As β}{n:Nm}{i j:β}(h:look l n=some j):al l n i=l.map fun p=>if p.1=n then(p.1,i)else p:=by unfold al;rw[h,if_pos (show(some j).isSome=true from rfl)]
theorem qK{g:Str->Nat}{ol:Ol}{n:Nm}{it:It}(h:look ol n=none):W g (al ol n it)=W g ol+g it.tx:=by rw[cA h];unfold W;rw[zV,List.sum_append];rfl
theorem jT{β:Type}{l:As β}{n:Nm}{i:β}(h:¬n∈l.map (·.1)):(l.map fun p=>if p.1=n then(p.1,i)else p)=l:=by
 induction l with
 |nil=>rfl
 |cons p l ih =>rw[zn,zD,not_or]at h;rw[zn,if_neg fun z=>h.1 z.symm,ih h.2]
theorem lP{g:Str->Nat}{ol:Ol}{n:Nm}{it it':It}(nd:(ol.map (·.1)).Nodup)(h:look ol n=some it):W g (al ol n it')+g it.tx=W g ol+g it'.tx:=by
 rw[eh h];unfold W;generalize ol=l at nd h;induction l with
 |nil=>cases h
 |cons p l ih =>
  rw[zn,ZG]at nd;rw[zn,zn,List.sum_cons,zn,List.sum_cons];unfold look at h;by_cases c:p.1=n
  ·rw[if_pos c]at h;cases h;rw[if_pos c,jT (by rw[<-c];exact nd.1)];show g it'.tx+_+_=_;omega
  ·rw[if_neg c]at h;rw[if_neg c];have:=ih nd.2 h;omega
theorem vL{g:Str->Nat}{ol:Ol}{f:It->It}(h:∀it,(f it).tx=it.tx):W g (ol.map fun p=>(p.1,f p.2))=W g ol:=by unfold W;rw[List.map_map];refine ZF _ (List.map_congr_left fun p _=>?_);show g (f p.2).tx=_;rw[h]
theorem rL{ol:Ol}{f:It->It}(x:Nm):look (ol.map fun p=>(p.1,f p.2)) x=(look ol x).map f:=by
 induction ol with
 |nil=>rfl
 |cons p l ih =>
  rw[zn];unfold look;by_cases c:p.1=x
  ·rw[if_pos c,if_pos c];rfl
  ·rw[if_neg c,if_neg c,ih]
theorem ld{ol:Ol}{f:It->It}:(ol.map fun p=>(p.1,f p.2)).map (·.1)=ol.map (·.1):=by rw[List.map_map];rfl
theorem mO{β:Type}:∀{l m:As β},l.map (·.1)=m.map (·.1)->(l.map (·.1)).Nodup->(∀x,look l x=look m x)->l=m
 | [],[],_,_,_=>rfl
 | [],_::_,h,_,_=>by cases h
 |_::_,[],h,_,_=>by cases h
 |p::l,q::m,h,nd,e=>by
  rw[zn,zn]at h;injection h with h1 h2;rw[zn,ZG]at nd;have e0:=e p.1;unfold look at e0;rw[if_pos rfl,if_pos h1.symm]at e0;have ep:p=q:=Prod.ext h1 (zE e0);rw[mO h2 nd.2 fun x=>?_,ep];by_cases c:p.1=x
  ·have n1:look l x=none:=by
    cases z:look l x with
    |none=>rfl
    |some i=>exact absurd (List.mem_map.mpr ⟨_,gd z,rfl⟩) (by rw[<-c];exact nd.1)
   have n2:look m x=none:=by
    cases z:look m x with
    |none=>rfl
    |some i=>exact absurd (List.mem_map.mpr ⟨_,gd z,rfl⟩) (by rw[<-h2,<-c];exact nd.1)
   rw[n1,n2]
  ·have:=e x;unfold look at this;rw[if_neg c,if_neg (h1▸c)]at this;exact this
theorem qC{β:Type}{l:As β}{n m:Nm}{i j k:β}(hn:look l n=some k)(hm:look l m=none):al (al l n i) m j=al (al l m j) n i:=by
 have ne:m≠n:=fun z=>by rw[z,hn]at hm;cases hm
 have h1:look (al l n i) m=none:=by rw[ai,if_neg ne];exact hm
 have h2:look (al l m j) n=some k:=by rw[ai,if_neg ne.symm];exact hn
 rw[cA h1,eh hn,eh h2,cA hm,zV,zn,if_neg ne];rfl
theorem nR{β:Type}{l:As β}{n:Nm}{i:β}(nd:(l.map (·.1)).Nodup)(h:look l n=none):((al l n i).map (·.1)).Nodup:=by rw[cA h,zV,List.nodup_append];refine⟨nd,by simp,fun x hx y hy z=>?_⟩;rw[zn,List.map_nil,List.mem_singleton]at hy;exact lh h (by rw[<-show y=n from hy,<-z];exact hx)
structure Iv(ol:Ol)(sg:Str)(b:Int):Prop where
 ter:Ter ol
 nd:(ol.map (·.1)).Nodup
 nm:∀n it,look ol n=some it->n.2<b
 ok:∀n it,look ol n=some it->PyData.strOk it.tx=true
 sk:PyData.strOk sg=true
 wt:∀g,Addt g->W g ol=g sg
theorem Iv.len{ol:Ol}{sg:Str}{b:Int}(v:Iv ol sg b){n:Nm}{it:It}(h:look ol n=some it):it.tx.length<=sg.length:=by have:=wO (g:=fun s=>s.length) h;rw[v.wt _ ie]at this;exact this
theorem Iv.fresh{ol:Ol}{sg:Str}{b:Int}(v:Iv ol sg b){n:Nm}(h:b<=n.2):look ol n=none:=by
 cases e:look ol n with
 |none=>rfl
 |some it =>have:=v.nm n it e;omega
theorem Iv.nil(b:Int):Iv [] "" b:=⟨fun n it h=>(nomatch h),List.nodup_nil,fun n it h=>(nomatch h),fun n it h=>(nomatch h),by decide +kernel,fun g a=>a.nil.symm⟩
theorem Iv.mono{ol:Ol}{sg:Str}{b c:Int}(v:Iv ol sg b)(h:b<=c):Iv ol sg c:=⟨v.ter,v.nd,fun n it e=>Int.lt_of_lt_of_le (v.nm n it e) h,v.ok,v.sk,v.wt⟩
theorem Iv.up{ol:Ol}{sg:Str}{b:Int}(v:Iv ol sg b){n u:Nm}{it:It}(h:look ol n=some it)(e:it.up=some u):(look ol u).isSome=true:=by
 obtain⟨k,c⟩:=v.ter.up h;rw[e]at c;cases c with
 |up hl _=>rw[hl];rfl
theorem Iv.put{ol:Ol}{sg:Str}{b:Int}(v:Iv ol sg b){n:Nm}{u:Option Nm}{pl:List Int}{tx:Str}(h:b<=n.2)(hu:∀x,u=some x->(look ol x).isSome=true)(ht:PyData.strOk tx=true):Iv (al ol n ⟨u,pl,tx,false,none,false⟩) (sg++tx) (n.2+1):=by
 have f:=v.fresh h;obtain⟨k,hk⟩:∃k,Ch ol k u:=by
  cases u with
  |none=>exact⟨0,.none⟩
  |some x =>obtain⟨i,hi⟩:=Option.isSome_iff_exists.mp (hu x rfl);exact v.ter x i hi
 refine⟨v.ter.new f hk,nR v.nd f,fun m it hm=>?_,fun m it hm=>?_,hE v.sk ht,fun g a=>?_⟩
 ·rw[ai]at hm;by_cases c:m=n
  ·rw[c];omega
  ·rw[if_neg c]at hm;have:=v.nm m it hm;omega
 ·rw[ai]at hm;by_cases c:m=n
  ·rw[if_pos c]at hm;cases hm;exact ht
  ·rw[if_neg c]at hm;exact v.ok m it hm
 ·rw[qK f,v.wt g a,a.app]
theorem sJ{x y:Str}(h:x.cps.toList=y.cps.toList):x=y:=by cases x;cases y;congr 1;exact Array.toList_inj.mp h
theorem mW(x:Str){a:Nat}(h:a<=x.length):(aw x none (some (a:Int))).cps.toList=x.cps.toList.take a:=by
 have e1:aw x none (some (a:Int))=aw x (some ((0:Nat):Int)) (some (a:Int)):=by unfold aw;rw[StrLaws.sliceIdx_none_lo];rfl
 rw[e1];unfold aw;split
 ·rename_i z;rw[StrLaws.strSliceIndices_plain (zR a) h,zr,List.length_range]at z;rw[Nat.sub_zero]at z;rw[zO (by show x.length<=a;omega)]
 ·rw[StrLaws.sliced_plain x (zR a) h];show((x.cps.toList.drop 0).take (a-0))=_;rfl
theorem mV(x:Str){a:Nat}(h:a<=x.length):(aw x (some (a:Int)) none).cps.toList=x.cps.toList.drop a:=by
 have e2:aw x (some (a:Int)) none=aw x (some (a:Int)) (some ((x.length:Nat):Int)):=by unfold aw;rw[StrLaws.sliceIdx_none_hi]
 rw[e2];unfold aw;split
 ·rename_i z;rw[StrLaws.strSliceIndices_plain h (zh _),zr,List.length_range]at z;have:a=0:=by omega
  rw[this];rfl
 ·rw[StrLaws.sliced_plain x h (zh _)];show((x.cps.toList.drop a).take (x.length-a))=_;rw[zO];rw[zX];exact zh _
theorem jI(x:Str){a:Nat}(h:a<=x.length):aw x none (some (a:Int))++aw x (some (a:Int)) none=x:=by refine sJ ?_;show((aw x none (some (a:Int))).cps++(aw x (some (a:Int)) none).cps).toList=_;rw[zG,mW x h,mV x h,zI]
theorem gZ{x:Str}:PyData.strOk x=true↔∀c∈x.cps.toList,c<0x110000:=by show x.cps.all (·<0x110000)=true↔_;rw[<-Array.all_toList,List.all_eq_true];exact⟨fun h c hc=>of_decide_eq_true (h c hc),fun h c hc=>decide_eq_true (h c hc)⟩
theorem nW{x:Str}{a:Nat}(h:a<=x.length)(ok:PyData.strOk x=true):PyData.strOk (aw x none (some (a:Int)))=true/\PyData.strOk (aw x (some (a:Int)) none)=true:=by rw[gZ]at ok;rw[gZ,gZ,mW x h,mV x h];exact⟨fun c hc=>ok c (List.mem_of_mem_take hc),fun c hc=>ok c (List.mem_of_mem_drop hc)⟩
def aU(ol:Ol)(n m:Nm)(it:It)(a:Nat)(pl:List Int):Ol:=al (al ol n { it with tx:=aw it.tx none (some (a:Int)) }) m ⟨it.up,pl,aw it.tx (some (a:Int)) none,false,none,false⟩
theorem Iv.part{ol:Ol}{sg:Str}{b:Int}(v:Iv ol sg b){n m:Nm}{it:It}{a:Nat}{pl:List Int}(h:look ol n=some it)(ha:a<=it.tx.length)(hm:b<=m.2):Iv (aU ol n m it a pl) sg (m.2+1):=by
 have f:=v.fresh hm;have ne:m≠n:=fun z=>by rw[z,h]at f;cases f
 have f1:look (al ol n { it with tx:=aw it.tx none (some (a:Int)) }) m=none:=by rw[ai,if_neg ne];exact f
 have t1:Ter (al ol n { it with tx:=aw it.tx none (some (a:Int)) }):=v.ter.keep h rfl;obtain⟨o1,o2⟩:=nW ha (v.ok n it h);obtain⟨k,hk⟩:=t1.up (n:=n) (it:={ it with tx:=aw it.tx none (some (a:Int)) }) (by rw[ai,if_pos rfl]);refine⟨t1.new f1 hk,nR (by rw[bw h];exact v.nd) f1,fun x i hx=>?_,fun x i hx=>?_,v.sk,fun g ad=>?_⟩
 ·unfold aU at hx;rw[ai,ai]at hx;by_cases c:x=m
  ·rw[c];omega
  ·rw[if_neg c]at hx;by_cases c2:x=n
   ·rw[c2];have:=v.nm n it h;omega
   ·rw[if_neg c2]at hx;have:=v.nm x i hx;omega
 ·unfold aU at hx;rw[ai,ai]at hx;by_cases c:x=m
  ·rw[if_pos c]at hx;cases hx;exact o2
  ·rw[if_neg c]at hx;by_cases c2:x=n
   ·rw[if_pos c2]at hx;cases hx;exact o1
   ·rw[if_neg c2]at hx;exact v.ok x i hx
 ·have w1:=lP (g:=g) (it':={ it with tx:=aw it.tx none (some (a:Int)) }) v.nd h;have w2:=ZF g (jI it.tx ha);rw[ad.app]at w2;unfold aU;rw[qK f1];have:=v.wt g ad;show W g _+g (aw it.tx (some (a:Int)) none)=_;have w1':W g (al ol n { it with tx:=aw it.tx none (some (a:Int)) })+g it.tx=W g ol+g (aw it.tx none (some (a:Int))):=w1;omega
def jl(ol:Ol)(n m:Nm)(itn itm:It):Ol:=(al (al ol n { itn with tx:=itn.tx++itm.tx }) m { itm with tx:="" }).map fun p=>(p.1,aE n m p.2)
theorem lc{ol ol':Ol}{n m:Nm}{itn itm:It}(nd:(ol.map (·.1)).Nodup)(hn:look ol n=some itn)(hm:look ol m=some itm)(ne:n≠m)(j:JoinR ol n m itn itm ol'):ol'=jl ol n m itn itm:=by
 obtain⟨itm2,h2,hl⟩:=j.lk;have em:itm2=itm:=by rw[ai,if_neg ne.symm,hm]at h2;exact(zE h2).symm
 subst em;have hm1:look (al ol n { itn with tx:=itn.tx++itm2.tx }) m=some itm2:=by rw[ai,if_neg ne.symm];exact hm
 unfold jl;refine mO ?_ (by rw[j.ks];exact nd) fun x=>?_
 ·rw[ld,bw hm1,bw hn];exact j.ks
 ·rw[rL];exact hl x
theorem Iv.join{ol ol':Ol}{sg:Str}{b:Int}(v:Iv ol sg b){n m:Nm}{itn itm:It}{k:Nat}(hn:look ol n=some itn)(hm:look ol m=some itm)(un:Und ol m k (some n) false)(j:JoinR ol n m itn itm ol'):ol'=jl ol n m itn itm/\Iv ol' sg b:=by
 have ne:n≠m:=fun z=>iH un (by rw[z]);have e:=lc v.nd hn hm ne j;obtain⟨j0,j1⟩:=df hn hm j;have old:∀x i,look ol' x=some i->∃i0,look ol x=some i0:=fun x i hx=>by
  cases z:look ol x with
  |none=>rw[j0 x z]at hx;cases hx
  |some i0=>exact⟨i0,rfl⟩
 refine⟨e,v.ter.join hn hm j un,by rw[j.ks];exact v.nd,fun x i hx=>?_,fun x i hx=>?_,v.sk,fun g ad=>?_⟩
 ·obtain⟨i0,h0⟩:=old x i hx;exact v.nm x i0 h0
 ·obtain⟨i0,h0⟩:=old x i hx;obtain⟨i1,e1,_,e3⟩:=j1 x i0 h0;rw[hx]at e1;cases e1;rw[dH,e3];split
  ·decide +kernel
  ·split
   ·exact hE (v.ok n itn hn) (v.ok m itm hm)
   ·exact v.ok x i0 h0
 ·have hm1:look (al ol n { itn with tx:=itn.tx++itm.tx }) m=some itm:=by rw[ai,if_neg ne.symm];exact hm
  have w1:W g (al ol n { itn with tx:=itn.tx++itm.tx })+g itn.tx=W g ol+g (itn.tx++itm.tx):=lP (g:=g) (it':={ itn with tx:=itn.tx++itm.tx }) v.nd hn;have w2:W g (al (al ol n { itn with tx:=itn.tx++itm.tx }) m { itm with tx:="" })+g itm.tx=W g (al ol n { itn with tx:=itn.tx++itm.tx })+g "":=lP (g:=g) (it':={ itm with tx:="" }) (by rw[bw hn];exact v.nd) hm1;rw[ad.app]at w1;rw[ad.nil]at w2;rw[e];unfold jl;rw[vL fun it=>dH n m it];have:=v.wt g ad;omega
theorem und_new{ol:Ol}{m:Nm}(h:∀x i,look ol x=some i->i.up≠some m){k:Nat}{u:Option Nm}{b:Bool}(un:Und ol m k u b)(hu:u≠some m):b=false:=by
 induction un with
 |none=>rfl
 |self=>exact absurd rfl hu
 |up hn hl _ ih=>exact ih (h _ _ hl)
theorem Iv.und_new{ol:Ol}{sg:Str}{b:Int}(v:Iv ol sg b){n m:Nm}{it:It}{a:Nat}{pl:List Int}(h:look ol n=some it)(ha:a<=it.tx.length)(hm:b<=m.2):∃k,Und (aU ol n m it a pl) m k (some n) false:=by
 have f:=v.fresh hm;have ne:n≠m:=fun z=>by rw[z,f]at h;cases h
 obtain⟨k,c⟩:=(v.part (pl:=pl) h ha hm).ter n { it with tx:=aw it.tx none (some (a:Int)) } (by unfold aU;rw[ai,if_neg ne,ai,if_pos rfl]);obtain⟨k',b',un⟩:=oU c m;have nu:∀x i,look ol x=some i->i.up≠some m:=fun x i hx z=>by have:=v.up hx z;rw[f]at this;cases this
 have:=K26.und_new (fun x i hx=>?_) un fun z=>ne (zE z)
 ·rw[this]at un;exact⟨_,un⟩
 ·unfold aU at hx;rw[ai,ai]at hx;by_cases c:x=m
  ·rw[if_pos c]at hx;cases hx;exact nu n it h
  ·rw[if_neg c]at hx;by_cases c2:x=n
   ·rw[if_pos c2]at hx;cases hx;exact nu n it h
   ·rw[if_neg c2]at hx;exact nu x i hx
theorem iS:∀{l m:List Nat},l.Perm m->l.Pairwise (·<=·)->m.Pairwise (·<=·)->l=m
 | [],m,h,_,_=>(List.nil_perm.mp h).symm
 |a::l,[],h,_,_=>by have:=h.length_eq;cases this
 |a::l,b::m,h,h1,h2=>by
  rw[List.pairwise_cons]at h1 h2;have e:a=b:=by
   refine Nat.le_antisymm ?_ ?_
   ·rcases zD.mp (h.mem_iff.mpr (Zg (a:=b) (l:=m)))with z|z
    ·exact Nat.le_of_eq z.symm
    ·exact h1.1 b z
   ·rcases zD.mp (h.mem_iff.mp (Zg (a:=a) (l:=l)))with z|z
    ·exact Nat.le_of_eq z.symm
    ·exact h2.1 a z
  subst e;rw[iS (List.perm_cons _ |>.mp h) h1.2 h2.2]
theorem jL{g:Str->Nat}(ad:Addt g):∀l:List Str,g (Str.join "" l)=(l.map g).sum
 | []=>ad.nil
 | [x]=>by show g x=g x+0;omega
 |x::y::r=>by have e:Str.join "" (x::y::r)=x++("":Str)++Str.join "" (y::r):=rfl;rw[e,ad.app,ad.app,ad.nil,jL ad (y::r)];show _=g x+((y::r).map g).sum;omega
theorem vW{H:Hp}{v:V}{n:Nm}(h:NameIs H v (nk n)):Dt H (.tuple [.int n.1,.int n.2]) v:=by obtain⟨b,rfl,e⟩:=h;simp only[Dt,DtAll];exact⟨b,_,rfl,.inl e,_,_,rfl,rfl,_,_,rfl,rfl,rfl⟩
def nmD(n:Nm):PyData:=.tuple [.int n.1,.int n.2]
theorem kW{H:Hp}{st:Addr}{vs:List V}{ds:List PyData}(h:H st=some (.tup vs))(hd:DtAll H ds vs):Dt H (.tuple ds) (.ref st):=by unfold Dt;exact⟨st,_,rfl,.inl h,hd⟩
theorem mZ{H:Hp}:DtAll H [] []:=by simp[DtAll]
theorem cy{H:Hp}{d:PyData}{ds:List PyData}{v:V}{vs:List V}(h:Dt H d v)(t:DtAll H ds vs):DtAll H (d::ds) (v::vs):=by unfold DtAll;exact⟨_,_,rfl,h,t⟩
theorem nj{H:Hp}(s:Str):Dt H (.str s) (.str s):=by simp only[Dt]
theorem qM{H:Hp}(b:Bool):Dt H (.bool b) (.bl b):=by simp only[Dt]
theorem nL(n:Nm):(nmD n).canLay0=true/\(nmD n).depth=1:=by simp[nmD,PyData.canLay0,PyData.canLayAll0,PyData.depth,PyData.depthAll]
theorem fZ{H:Hp}{α:Type}{R:V->α->Prop}{D:α->PyData}{l:Addr}{vs:List V}{rs:List α}(hl:H l=some (.lst vs))(x:Paired R vs rs)(hD:∀v r,r∈rs->R v r->Dt H (D r) v/\(D r).canLay0=true/\(D r).depth<=3) :
  Dt H (.list (rs.map D)) (.ref l)/\SeqAt.shaped (.list (rs.map D))=true/\PyData.eqv (.list (rs.map D)) (.list (rs.map D))=true:=by
 have gen:DtAll H (rs.map D) vs/\PyData.canLayAll0 (rs.map D)=true/\PyData.depthAll (rs.map D)<=3:=by
  clear hl;induction x with
  |nil=>exact⟨mZ,rfl,by simp[PyData.depthAll]⟩
  |@cons p q _ _ r _ ih =>obtain⟨h1,h2,h3⟩:=hD p q Zg r;obtain⟨i1,i2,i3⟩:=ih fun v r hr=>hD v r (zP _ hr);refine⟨cy h1 i1,by simp[PyData.canLayAll0,h2,i2],?_⟩;simp only[zn,PyData.depthAll];omega
 obtain⟨g1,g2,g3⟩:=gen;have c:(PyData.list (rs.map D)).canLay0=true:=by simpa[PyData.canLay0]using g2
 refine⟨?_,cn c (by simp only[PyData.depth];omega),SeqAt.eqv_refl _ c⟩;simp only[Dt];exact⟨l,vs,rfl,.inl hl,g1⟩
def whD:Option Int->PyData
 |none=>.none
 |some i=>.int i
theorem wE{H:Hp}(w:Option Int):Dt H (whD w) (whV w):=by cases w<;>simp only[whD,whV,Dt]
def itD(it:It):PyData:=.tuple [dw it.up,.tuple (it.pl.map PyData.int),.str it.tx,.bool it.dn,whD it.wh,.bool it.fo]
theorem md{H:Hp}{v:V}{it:It}(h:ItAt H v it)(ok:PyData.strOk it.tx=true):Dt H (itD it) v/\(itD it).canLay0=true/\(itD it).depth<=3:=by
 obtain⟨a,uv,pv,rfl,e,hu,b,rfl,hb⟩:=h;obtain⟨u1,u2,u3⟩:=fe hu;obtain⟨l1,l2⟩:=jS it.pl;have w2:(whD it.wh).canLay0=true/\(whD it.wh).depth=0:=by cases it.wh<;>exact⟨rfl,rfl⟩
 refine⟨kW e (cy u1 (cy (kW hb (kX _)) (cy (nj _) (cy (qM _) (cy (wE _) (cy (qM _) mZ)))))),?_,?_⟩
 ·simp[itD,PyData.canLay0,PyData.canLayAll0,u2,l1,ok,w2.1]
 ·simp only[itD,PyData.depth,PyData.depthAll,l2,w2.2];omega
theorem fv{H:Hp}{v u:V}{it:It}(h:ItAt H v it)(g:ItAt H u it)(ok:PyData.strOk it.tx=true):∃d,Dt H d v/\Dt H d u/\SeqAt.shaped d=true/\PyData.eqv d d=true:=by obtain⟨h1,h2,h3⟩:=md h ok;obtain⟨g1,_⟩:=md g ok;exact⟨_,h1,g1,cn h2 (by omega),SeqAt.eqv_refl _ h2⟩
abbrev NmsAt(H:Hp)(xs:List V)(ns:List Nm):Prop:=Paired (fun v m=>NameIs H v (nk m)) xs ns
theorem NmsAt.ts{H H':Hp}{xs:List V}{ns:List Nm}(x:NmsAt H xs ns)(s:TS H H'):NmsAt H' xs ns:=Paired.mapP x fun _ _ z=>NameIs.ts' z s
theorem jX{H:Hp}{l:Addr}{xs:List V}{ns:List Nm}(hl:H l=some (.lst xs))(p:NmsAt H xs ns):Dt H (.list (ns.map nmD)) (.ref l)/\SeqAt.shaped (.list (ns.map nmD))=true/\PyData.eqv (.list (ns.map nmD)) (.list (ns.map nmD))=true :=
 fZ (R:=fun v m=>NameIs H v (nk m)) hl p fun v n _ h=>⟨vW h,(nL n).1,by rw[(nL n).2];decide⟩
theorem tj{H:Hp}{p:Addr}(h:H p=some (.lst [])):Dt H (.list []) (.ref p):=by simp only[Dt,DtAll];exact⟨p,_,rfl,.inl h,rfl⟩
theorem tU:SeqAt.shaped (.list [])=true:=by decide +kernel
theorem rP(ns:List Nm):PyData.eqv (.list (ns.map nmD)) (.list [])=decide (ns=[]):=by
 cases ns with
 |nil=>rfl
 |cons n ns=>rfl
theorem eK{H:Hp}{β:Type}{R:V->β->Prop}{kvs:List (List Key×V)}{ol:As β}(x:Rws R kvs ol){ks:List V}(r:bC H kvs ks):NmsAt H ks (ol.map (·.1)):=by
 induction x generalizing ks with
 |nil =>cases r;exact .nil
 |@cons p q l m hpq _ ih =>
  cases r with
  |@cons _ k _ ks' r1 r2 =>refine .cons ?_ (ih r2);obtain⟨b,h1,h2⟩:=r1;exact⟨b,h1,by rw[hpq.1]at h2;exact h2⟩
theorem cw{α β:Type}{R:α->β->Prop}{xs:List α}{ys:List β}(x:Paired R xs ys):∀{i:Nat} {a:α},xs[i]?=some a->∃b,ys[i]?=some b/\R a b:=by
 induction x with
 |nil=>intro i a h;simp at h
 |cons r _ ih =>
  intro i a h;cases i with
  |zero=>cases h;exact⟨_,rfl,r⟩
  |succ i=>exact ih h
theorem mn{H:Hp}{xs:List V}{ns:List Nm}(p:NmsAt H xs ns)(z:Int)(h:ns≠[]):∃v n,atI xs (z%(xs.length:Int))=some v/\NameIs H v (nk n)/\n∈ns/\(0:Int)<(xs.length:Int):=by
 have hl:xs.length=ns.length:=Zn p;have h0:0<xs.length:=by rw[hl];exact List.length_pos_iff.mpr h
 have e0:=ZH z (show(xs.length:Int)≠0 by omega);have e1:=Zw z (show(0:Int)<(xs.length:Int) by omega);have hj:(z%(xs.length:Int)).toNat<xs.length:=by omega
 obtain⟨n,k1,k2⟩:=cw p (zm hj);have ea:=bU (xs:=xs) (zm hj);rw[show(((z%(xs.length:Int)).toNat:Nat):Int)=z%(xs.length:Int) by omega]at ea;exact⟨_,n,ea,k2,List.mem_of_getElem? k1,by omega⟩
theorem ip(xs:List V){i:Nat}(h:i<=xs.length):aQ xs none (some (i:Int))=xs.take i:=by unfold aQ;rw[HT.sIx_none,HT.sIx_nat,List.drop_zero,Nat.sub_zero,Nat.min_eq_left h]
theorem dD(xs:List V){i:Nat}(h:i<=xs.length):aQ xs (some (i:Int)) none=xs.drop i:=by unfold aQ;rw[HT.sIx_none,HT.sIx_nat,Nat.min_eq_left h,zO (by rw[zX];omega)]
def HavAt(H:Hp)(mm:Addr)(ol:Ol):Prop:=∃kvs,H mm=some (.dT kvs)/\Rows H kvs ol
theorem HavAt.same{H H':Hp}{mm:Addr}{ol:Ol}(x:HavAt H mm ol)(s:Same H H'):HavAt H' mm ol:=by obtain⟨kvs,h1,h2⟩:=x;exact⟨kvs,s _ _ h1,h2.ts (Same.ts s)⟩
theorem cP{H H':Hp}{mm t:Addr}{kvs:List (List Key×V)}{ol:Ol}{n:Nm}{it:It}(h:H mm=some (.dT kvs))(R:Rows H kvs ol)(s:Same H H')(hi:ItAt H' (.ref t) it):HavAt (upd H' mm (.dT (aD kvs (nk n) (.ref t)))) mm (al ol n it) :=
 ⟨_,ae,Rows.ts (gq (Rows.ts R (Same.ts s)) hi) (kE (s _ _ h))⟩
theorem OlAt.but{C:Addr}{H H':Hp}{p d g mm:Addr}{ol:Ol}{kvs:List (List Key×V)}(x:OlAt C H p d g ol)(s:But mm H H')(hm:H mm=some (.dT kvs))(n1:mm≠d)(n2:mm≠g):OlAt C H' p d g ol:=by obtain⟨kvs',⟨⟨dx,h1⟩,h2,h3,h4⟩,R⟩:=x;exact⟨kvs',⟨⟨dx,s _ _ h1 (dg h1 hm (by intro z;cases z))⟩,s _ _ h2 n1.symm,s _ _ h3 n2.symm,h4⟩,R.ts (s.ts hm)⟩
abbrev eU:Stmt:=top 16
abbrev mL:List Str:=["_law_script","_law_k"]
theorem mF:FnScope mL ["_law_script","_law_k"] (ak eU):=⟨rfl,rfl,rfl,by decide +kernel,rfl,by decide +kernel,by decide +kernel⟩
theorem mt{f:Addr}{fd:FuncData}(F:Fun K "_law_cell_at" "_law_cell_at" eU f fd)(z_len:mg "len" = none):FnOk P w K mg base CX0 1 f fd ["_law_script","_law_k"] (kx K):=by
 refine F.okQ mF (fun vs H Q E h=>?_) (fun cdv A outer s H vs Q E hr h=>?_)
 ·obtain⟨a,ns,k,rfl,_⟩:=h;rfl
 obtain⟨a,ns,k,rfl,hS,h0,q⟩:=h;refine⟨_,(b_c (bh (aL tY (q_v 1) (q_B gG z_len PySem.boot_len (q_a (q_v 0) aj))) (b_1 (aV (ay ff (q_v 0) (q_v 1)))) b_0)
   (b_1 (aV ag))),?_⟩
 refine⟨_,rfl,_,rfl,a,_,rfl,.inl hS,_,_,rfl,rfl,_,rfl,?_⟩;refine wR (fun c=>?_) (fun c=>?_)
 ·have c':k<((ns.map V.int).length:Int):=of_decide_eq_true c;rw[zr]at c';exact⟨_,rfl,_,rfl,a,_,_,_,rfl,rfl,hS,pD h0 c',q⟩
 ·have c':¬k<((ns.map V.int).length:Int):=of_decide_eq_false (ZQ.mpr c);rw[zr]at c';rw[pI h0 c']at q;exact q
def dL:Str:=(" !\"#$&'()*+,-./0123456789:;<=>?@ABCDEFGHIJKLMNOPQRSTUVWXYZ[\\]^_`":Str)++("abcdefghijklmnopqrstuvwxyz{|}~":Str)
theorem jF:dL.length=94/\dL.cps.toList.length=94:=by decide +kernel
theorem rB:∀c∈dL.cps.toList,c<0x110000:=by decide +kernel
theorem rK{K:PySem.W.Frag}:PySem.W.kitOne K (.type "str") (.type "str")=some true:=pU (t:="str") (T:="str") (b:=true) rfl fun z=>nomatch z
def oK:Sp:=fun vs H Q _=>∃n:Int,vs=[.int n]/\∀t:Str,PyData.strOk t=true->t.length<=60->Q (.str t) H
abbrev kn:Stmt:=top 17
abbrev sT:List Str:=["_law_cell","_law_some","_law_number","_law_found","_law_k"]
theorem cj:FnScope sT ["_law_cell"] (ak kn):=⟨rfl,rfl,rfl,by decide +kernel,rfl,by decide +kernel,by decide +kernel⟩
theorem rR{f:Addr}{fd:FuncData}(F:Fun K "_law_text" "_law_text" kn f fd)(z_range:mg "range" = none):FnOk P w K mg base CX0 1 f fd ["_law_cell"] oK:=by
 refine F.okQ cj (fun vs H Q E h=>?_) (fun cdv A outer s H vs Q E hr h=>?_)
 ·obtain⟨n,rfl,_⟩:=h;rfl
 obtain⟨c,rfl,q⟩:=h;refine⟨_,(b_c (aC (i:=1) cj.nd bf)
   (b_c (aC (i:=1) cj.nd (ao eO (q_v 1) bf))
   (b_c (aC (i:=2) cj.nd (ao be (ao cH (q_v 0) ag) ag))
   (b_c (aC (i:=3) cj.nd bf)
   (b_c (dj Zv rfl (nE z_range (q_a (ao be (q_v 0) ag) aj)) (bp (i:=4) cj.nd) (b_c (aC (i:=3) cj.nd (ao eO (q_v 3) (ay wF (q_v 1) (ao be (q_v 2) ag))))
   (b_1 (aC (i:=2) cj.nd (ao be (ao dh (ao qT (q_v 2) ag) (q_v 4)) ag)))))
   (b_1 (aV (q_v 3)))))))),?_⟩
 try rw[cxK]
 refine⟨_,rfl,_,_,rfl,rfl,by decide +kernel,?_⟩;refine⟨_,rfl,_,_,rfl,rfl,⟨by decide,by decide⟩,_,_,rfl,rfl,(by show(0:Int)<1000003;decide),?_⟩;have c0:=ZH c (show(61:Int)≠0 by decide);have c1:=Zw c (show(0:Int)<61 by decide);have d0:=ZH (c / 61) (show(1000003:Int)≠0 by decide);have d1:=Zw (c / 61) (show(0:Int)<1000003 by decide);refine⟨_,rfl,_,_,rfl,rfl,(by show(0:Int)<61;decide),_,rfl,by omega,by omega,?_⟩;refine gK (lo:=0) (fun i σ H2=>H2=H/\∃(n:Int) (x:Str) (o5:Option V),0<=n/\n<2147483647/\x.length=i/\PyData.strOk x=true/\σ=[some (.int c),some (.str dL),some (.int n),some (.str x),o5]) ⟨rfl,c / 61%1000003,"",none,by omega,by omega,by decide +kernel,by decide +kernel,rfl⟩ ?_ ?_
 ·rintro i σ H2 hi ⟨rfl,n,x,o5,n0,n1,lx,okx,rfl⟩ DL hDL;have hi61:i<61:=by omega
  have k0:=ZH n (show(94:Int)≠0 by decide);have k1:=Zw n (show(0:Int)<94 by decide);obtain⟨ch,hch,hm⟩:∃ch,atI dL.cps.toList (n%94)=some ch/\ch∈dL.cps.toList:=by
   have hz:(n%94).toNat<dL.cps.toList.length:=by rw[jF.2];omega
   have:=bU (xs:=dL.cps.toList) (zm hz);rw[show(((n%94).toNat:Nat):Int)=n%94 by omega]at this;exact⟨_,this,List.getElem_mem hz⟩
  refine⟨_,rfl,_,rfl,_,rfl,_,_,rfl,rfl,(by show(0:Int)<94;decide),dL,_,ch,rfl,rfl,bZ (by rw[jF.1];decide),hch,_,_,rfl,rfl,bZ (by show x.length+1<=1000;omega),?_⟩;refine⟨_,rfl,_,_,rfl,rfl,.inl ⟨by omega,by omega⟩,_,rfl,_,_,rfl,rfl,_,_,rfl,rfl,(by show(0:Int)<2147483647;decide),?_⟩;refine hDL _ _ ⟨rfl,_,_,_,ZH _ (by decide),Zw _ (by decide),?_,hE okx ?_,rfl⟩
  ·rw[iA,lx];rfl
  ·show(#[ch]:Array Nat).all (·<0x110000)=true;simp[rB ch hm]
 ·rintro σ H2 ⟨rfl,n,x,o5,n0,n1,lx,okx,rfl⟩;exact⟨_,rfl,q x okx (by omega)⟩
def oJ:Sp:=fun vs H Q _=>∃(hd:Addr) (ol:Ol) (u v:V) (one:Option Nm) (o:Nm) (k:Nat) (b:Bool),vs=[u,v,.ref hd]/\HavAt H hd ol/\UpAt H u one/\NameIs H v (nk o)/\Und ol o k one b/\Q (.bl b) H
abbrev iD:Stmt:=top 19
abbrev rz:List Str:=["_law_one","_law_other","_law_mine"]
theorem ko:FnScope rz ["_law_one","_law_other","_law_mine"] (ak iD):=⟨rfl,rfl,rfl,by decide +kernel,rfl,by decide +kernel,by decide +kernel⟩
theorem qd{f:Addr}{fd:FuncData}(F:Fun K "_law_is_in" "_law_is_in" iD f fd):FnOk P w K mg base CX0 1 f fd ["_law_one","_law_other","_law_mine"] oJ:=by
 refine F.okQ ko (fun vs H Q E h=>?_) (fun cdv A outer s H vs Q E hr h=>?_)
 ·obtain⟨hd,ol,u,v,one,o,k,b,rfl,_⟩:=h;rfl
 obtain⟨hd,ol,u,v,one,o,k,b,rfl,⟨kvs,hh,R⟩,hu,hv,un,q⟩:=h;obtain⟨vb,rfl,hvb⟩:=id hv;refine⟨_,(b_c (lE Zv (aL dF (q_v 0) cE) (b_c (bh (aL (tW hr.units) (q_v 0) (q_v 1)) (b_1 (aV ce)) b_0)
   (b_1 (aC (i:=0) ko.nd (ay ax (aN hr.units (q_v 2) (q_v 0)) ag)))))
   (b_1 (aV ce))),?_⟩
 try rw[cxK]
 refine⟨fun m σ H'=>H'=H/\∃(u:V) (one:Option Nm),UpAt H u one/\Und ol o m one b/\σ=[some u,some (.ref vb),some (.ref hd)],⟨k,rfl,u,one,hu,un,rfl⟩,?_⟩;rintro m σ H' ⟨rfl,u,one,hu,un,rfl⟩;cases un with
 |none =>obtain rfl:u=.non:=hu;exact⟨_,rfl,rfl,_,rfl,fw rfl q⟩
 |self =>obtain⟨ub,rfl,hub⟩:=id hu;refine⟨_,rfl,rfl,_,rfl,gO (by intro z;cases z) ?_⟩;refine⟨fun _ _=>False,fun _ _ z=>z.elim,?_⟩;refine⟨_,rfl,_,rfl,ub,vb,[o.1,o.2],[o.1,o.2],rfl,rfl,hub,hvb,_,rfl,?_⟩;rw[decide_eq_true rfl];exact cR q
 |@up m n it _ hn hl un =>
  obtain⟨ub,rfl,hub⟩:=id hu;obtain⟨iv,e1,ia,uv,pv,rfl,e2,e3,e4⟩:=am R hl;refine⟨_,rfl,rfl,_,rfl,gO (by intro z;cases z) ?_⟩;refine⟨fun σ H2=>H2=H'/\σ=[some uv,some (.ref vb),some (.ref hd)],?_,?_⟩
  ·rintro σ' H2 ⟨rfl,rfl⟩;exact⟨m,Nat.lt_succ_self m,rfl,uv,it.up,e3,un,rfl⟩
  refine⟨_,rfl,_,rfl,ub,vb,[n.1,n.2],[o.1,o.2],rfl,rfl,hub,hvb,_,rfl,?_⟩;have:¬ ([n.1,n.2]=[o.1,o.2]):=fun z=>hn (by
   injection z with z1 z2;injection z2 with z2 _;exact Prod.ext z1 z2)
  rw[decide_eq_false this];refine aO ?_;exact⟨_,rfl,_,rfl,hd,.ref ia,rfl,e1▸DGet.t (k:=nk n) hh hub,ia,_,_,_,rfl,rfl,SqT.of e2,at0,rfl,rfl⟩
structure Pu where
 n:Nm
 u:Option Nm
 pl:List Int
 tx:Str
abbrev PusAt(H:Hp)(ss:List V)(ps:List Pu):Prop:=Paired (fun v s=>∃st,v=.ref st/\SkAt H st (.put s.n s.u s.pl s.tx)) ss ps
theorem PusAt.ts{H H':Hp}{ss:List V}{ps:List Pu}(x:PusAt H ss ps)(t:TS H H'):PusAt H' ss ps:=Paired.mapP x fun _ _ ⟨st,h1,h2⟩=>⟨st,h1,h2.ts t⟩
def PusOk(ps:List Pu):Prop:=∀(i:Nat) (s:Pu),ps[i]?=some s->s.n.2=1+(i:Int)/\(∀x,s.u=some x->x∈(ps.take i).map (·.n))/\PyData.strOk s.tx=true/\s.tx.length<=60
theorem pP{α:Type}{l:List α}{x y:α}{j:Nat}(h:(l++[x])[j]?=some y):(j<l.length/\l[j]?=some y)\/(j=l.length/\y=x):=by
 by_cases c:j<l.length
 ·rw[ZD c]at h;exact .inl ⟨c,h⟩
 ·have hj:j=l.length:=by have:=(zT.mp h).1;rw[zt,List.length_singleton]at this;omega
  subst hj;rw[zW (zh _),Nat.sub_self]at h;exact .inr ⟨rfl,(zE h).symm⟩
theorem PusOk.snoc{ps:List Pu}{s:Pu}(h:PusOk ps)(h1:s.n.2=1+(ps.length:Int))(h2:∀x,s.u=some x->x∈ps.map (·.n))(h3:PyData.strOk s.tx=true)(h4:s.tx.length<=60):PusOk (ps++[s]):=fun i t e=>by
 rcases pP e with⟨c,e⟩|⟨rfl,rfl⟩
 ·obtain⟨a1,a2,a3⟩:=h i t e;refine⟨a1,fun x hx=>?_,a3⟩;rw[List.take_append_of_le_length (by omega)];exact a2 x hx
 ·refine⟨h1,fun x hx=>?_,h3,h4⟩;rw[List.take_append_of_le_length (zh _),List.take_length];exact h2 x hx
theorem oQ{H:Hp}{p:Addr}{xs ys:List V}(hp:H p=some (.lst xs)):TS H (upd H p (.lst ys)):=fun a zs h=>by rw[af (dg h hp (by intro z;cases z))];exact h
def iU(K:PySem.W.Frag):Sp:=fun vs H Q _=>∃(a:Addr) (sc:List Int) (m:Int),vs=[.ref a,.int m]/\SqL K H a (sc.map V.int)/\1<=m/\m<=8 /\
 ∀(p:Addr) (ss:List V) (ps:List Pu) (H':Hp),Same H H'->H p=none->H' p=some (.lst ss)->ps.length=m.toNat->PusAt H' ss ps->PusOk ps->Q (.ref p) H'
abbrev eV:Stmt:=top 18
abbrev mM:List Str:=["_law_script","_law_many","_law_names","_law_steps","_law_k","_law_cell","_law_up"]
theorem bB:FnScope mM ["_law_script","_law_many"] (ak eV):=⟨rfl,rfl,rfl,by decide +kernel,rfl,by decide +kernel,by decide +kernel⟩
theorem mw{f:Addr}{fd:FuncData}(F:Fun K "_law_started" "_law_started" eV f fd)(F_cell_at:Fn P w K mg base 1 "_law_cell_at" ["_law_script","_law_k"] (kx K))(F_text:Fn P w K mg base 1 "_law_text" ["_law_cell"] oK)(z_range:mg "range" = none)(z_len:mg "len" = none) :
  FnOk P w K mg base CX0 2 f fd ["_law_script","_law_many"] (iU K):=by
 refine F.okQ bB (fun vs H Q E h=>?_) (fun cdv A outer s H vs Q E hr h=>?_)
 ·obtain⟨a,sc,m,rfl,_⟩:=h;rfl
 obtain⟨a,sc,m,rfl,hS,m1,m8,q⟩:=h;refine⟨_,(b_c (aC (i:=2) bB.nd (mC aj))
   (b_c (aC (i:=3) bB.nd (mC aj))
   (b_c (dj Zv rfl (nE z_range (q_a (q_v 1) aj)) (bp (i:=4) bB.nd) (b_c (aC (i:=5) bB.nd (dv F_cell_at (hr.mono (by decide)) (q_a (q_v 0) (q_a (ao dh ag (q_v 4)) aj))))
   (b_c (aC (i:=6) bB.nd cE)
   (b_c (oE (bh (t_w (dq (aL tX (ao be (ao cH (q_v 5) ag) ag) ag) (cX (aL (qU hr.units) (q_v 2) (mC aj))))) (b_1 (aC (i:=6) bB.nd (ay ff (q_v 2) (ao be (ao cH (q_v 5) ag) (q_B gG z_len PySem.boot_len (q_a (q_v 2) aj)))))) b_0))
   (b_c (bu (qX (q_v 2) (bg (q_a (ao be (q_v 5) ag) (q_a (ao dh ag (q_v 4)) aj)))))
   (b_1 (bu (qX (q_v 3) (bg (q_a bf (q_a (ay ff (q_v 2) (q_v 4)) (q_a (q_v 6) (q_a (bg (q_a (ao jm (ao be (ao cH (q_v 5) ag) ag) ag) aj)) (q_a (dv F_text (hr.mono (by decide)) (q_a (ao cH (q_v 5) ag) aj)) aj))))))))))))))
   (b_1 (aV (q_v 3)))))),?_⟩
 try rw[cxK]
 refine⟨sz rfl,fun pn gn=>⟨sz rfl,fun ps gs=>?_⟩⟩;have w1:=ah gn (.lst []);have w2:=ah gs (.lst []);have en:upd (upd H pn (.lst [])) ps (.lst []) pn=some (.lst []):=w2 _ _ ae;have npq:pn≠ps:=fun z=>by rw[z,ae]at gs;cases gs
 have gs0:H ps=none:=w1.free gs;refine⟨_,rfl,_,rfl,by omega,by omega,?_⟩;refine gK (lo:=0) (fun i σ H'=>Same H H'/\∃(us:List Pu) (ks ss:List V) (o4 o5 o6:Option V),H' pn=some (.lst ks)/\H' ps=some (.lst ss)/\us.length=i/\NmsAt H' ks (us.map (·.n))/\PusAt H' ss us/\PusOk us/\σ=[some (.ref a),some (.int m),some (.ref pn),some (.ref ps),o4,o5,o6])
  ⟨w1.trans w2,[],[],[],none,none,none,en,ae,rfl,.nil,.nil,(fun j k h=>by simp at h),rfl⟩ ?_ ?_
 ·rintro i σ H' hi ⟨sm,us,ks,ss,o4,o5,o6,hn,hs,lu,nat,pat,pok,rfl⟩ DL hDL;have lk:ks.length=us.length:=by rw[Zn nat,zr]
  have ls:ss.length=us.length:=Zn pat;refine⟨_,rfl,_,rfl,_,_,rfl,rfl,a,sc,_,rfl,sm.seq hS,by omega,?_⟩;generalize cY sc (1+(0+(i:Int))).toNat=c;refine jQ (fun σ2 H2=>Same H' H2/\∃(up:V) (u:Option Nm),UpAt H2 up u/\(∀x,u=some x->x∈us.map (·.n))/\σ2=[some (.ref a),some (.int m),some (.ref pn),some (.ref ps),some (.int (0+(i:Int))),some (.int c),some up]) (fun R hR=>?_) ?_
  ·refine⟨_,rfl,_,_,rfl,rfl,⟨by decide,by decide⟩,_,_,rfl,rfl,(by show(0:Int)<3;decide),_,_,rfl,rfl,_,rfl,fX (fun c1=>?_) (fun c1=>?_)⟩
   ·refine⟨_,rfl,sz rfl,fun e ge=>?_⟩;have we:=ah ge (.lst []);obtain⟨d1,d2,_⟩:=jX (we _ _ hn) (nat.ts (Same.ts we));refine⟨_,.list [],d1,tj ae,d2,tU,_,rfl,?_⟩;rw[rP];by_cases cu:us.map (·.n)=[]
    ·rw[decide_eq_true cu];exact aO (hR _ _ ⟨we,.non,none,rfl,fun x hx=>(nomatch hx),rfl⟩)
    ·rw[decide_eq_false cu];refine cR ?_;obtain⟨v,n,ea,hv,hmem,hl⟩:=mn (nat.ts (Same.ts we)) (c / 48) cu;refine⟨_,rfl,_,rfl,_,_,rfl,rfl,⟨by decide,by decide⟩,_,rfl,pn,_,rfl,.inl (SqL.of (we _ _ hn)),_,_,rfl,rfl,hl,pn,_,_,_,rfl,rfl,SqL.of (we _ _ hn),ea,?_⟩;exact hR _ _ ⟨we,v,some n,hv,fun x hx=>by cases hx;exact hmem,rfl⟩
   ·exact aO (hR _ _ ⟨Same.refl _,.non,none,rfl,fun x hx=>(nomatch hx),rfl⟩)
  rintro σ2 H2 ⟨s2,up,u,hup,hmem,rfl⟩;refine⟨_,rfl,.inl ⟨rfl,_,SqL.of (s2 _ _ hn)⟩,_,rfl,_,_,rfl,rfl,(by show(0:Int)<8;decide),_,rfl,_,_,rfl,rfl,sz rfl,fun nm gm=>?_⟩;have wm:=ah gm (.tup [.int (c%8),.int (1+(0+(i:Int)))]);have hnm:NameIs (upd H2 nm (.tup [.int (c%8),.int (1+(0+(i:Int)))])) (.ref nm) (nk (c%8,1+(0+(i:Int)))):=⟨nm,rfl,ae⟩
  have s3:=s2.trans wm;generalize upd H2 nm (.tup [.int (c%8),.int (1+(0+(i:Int)))])=H3 at wm hnm s3 ⊢;refine⟨pn,_,_,rfl,rfl,s3 _ _ hn,aP (by omega),?_⟩;have t4:=oQ (ys:=ks++[.ref nm]) (s3 _ _ hn);have b4:∀b o,H3 b=some o->b≠pn->upd H3 pn (.lst (ks++[.ref nm])) b=some o:=fun b o e hb=>by rw[af hb];exact e
  have e4:upd H3 pn (.lst (ks++[.ref nm])) pn=some (.lst (ks++[.ref nm])):=ae;have sm4:Same H (upd H3 pn (.lst (ks++[.ref nm]))):=hJ (sm.trans s3) gn;generalize upd H3 pn (.lst (ks++[.ref nm]))=H4 at t4 b4 e4 sm4 ⊢;have ix:atI (ks++[V.ref nm]) (0+(i:Int))=some (.ref nm):=by have:=bU (xs:=ks++[V.ref nm]) (j:=i) (v:=.ref nm) (by rw[zW (by omega),lk,lu,Nat.sub_self];rfl);rw[Int.zero_add];exact this
  refine⟨_,rfl,.inl ⟨rfl,_,SqL.of (b4 _ _ (s3 _ _ hs) npq.symm)⟩,_,rfl,_,rfl,pn,_,_,_,rfl,rfl,SqL.of e4,ix,_,rfl,_,rfl,_,_,rfl,rfl,⟨by decide,by decide⟩,_,_,rfl,rfl,(by show(0:Int)<5;decide),_,_,rfl,rfl,sz rfl,fun sp gp=>?_⟩;have wp:=ah gp (.tup [.int (c / 7%5-2)]);have hsp:PlAt (upd H4 sp (.tup [.int (c / 7%5-2)])) (.ref sp) [c / 7%5-2]:=⟨sp,rfl,ae⟩
  generalize upd H4 sp (.tup [.int (c / 7%5-2)])=H5 at wp hsp ⊢;refine⟨_,rfl,_,_,rfl,rfl,⟨by decide,by decide⟩,_,rfl,fun t okt lt=>⟨sz rfl,fun st gst=>?_⟩⟩;have w5:=ah gst (.tup [.str "put",.ref nm,up,.ref sp,.str t]);have hst:upd H5 st (.tup [.str "put",.ref nm,up,.ref sp,.str t]) st=some (.tup [.str "put",.ref nm,up,.ref sp,.str t]):=ae;generalize upd H5 st (.tup [.str "put",.ref nm,up,.ref sp,.str t])=H6 at w5 hst ⊢;have w46:=wp.trans w5;have hs6:=w46 _ _ (b4 _ _ (s3 _ _ hs) npq.symm);refine⟨ps,_,_,rfl,rfl,hs6,aP (by omega),?_⟩;have t7:=oQ (ys:=ss++[.ref st]) hs6;have b7:∀b o,H6 b=some o->b≠ps->upd H6 ps (.lst (ss++[.ref st])) b=some o:=fun b o e hb=>by rw[af hb];exact e
  have e7:upd H6 ps (.lst (ss++[.ref st])) ps=some (.lst (ss++[.ref st])):=ae;have sm7:Same H (upd H6 ps (.lst (ss++[.ref st]))):=hJ (sm4.trans w46) gs0;generalize upd H6 ps (.lst (ss++[.ref st]))=H7 at t7 b7 e7 sm7 ⊢;have T67:TS H4 H7:=fun x zs h=>t7 _ _ (w46 _ _ h);have T37:TS H3 H7:=fun x zs h=>T67 _ _ (t4 _ _ h);have T07:TS H' H7:=fun x zs h=>T37 _ _ (s3 _ _ h);refine hDL _ _ ⟨sm7,us++[⟨(c%8,1+(0+(i:Int))),u,[c / 7%5-2],t⟩],ks++[.ref nm],ss++[.ref st],_,_,_,b7 _ _ (w46 _ _ e4) npq,e7,by rw[zt,lu];rfl,?_,?_,?_,rfl⟩
  ·rw[zV];exact Paired.snoc (nat.ts T07) (hnm.ts' T37)
  ·exact Paired.snoc (pat.ts T07) ⟨st,rfl,.ref nm,up,.ref sp,t7 _ _ hst,hnm.ts' T37,(hup.ts (Same.ts wm)).ts T37,(hsp.ts (Same.ts w5)).ts t7⟩
  ·exact pok.snoc (by show 1+(0+(i:Int))=_;rw[lu];omega) hmem okt lt
 ·rintro σ H' ⟨sm,us,ks,ss,o4,o5,o6,hn,hs,lu,nat,pat,pok,rfl⟩;exact⟨_,rfl,q ps ss us H' sm gs0 hs lu pat pok⟩
def But2(d mm:Addr)(H H':Hp):Prop:=∀b o,H b=some o->b≠d->b≠mm->H' b=some o
theorem But2.of{d mm:Addr}{H H':Hp}(s:But d H H'):But2 d mm H H':=fun b o h n _=>s b o h n
theorem But2.of'{d mm:Addr}{H H':Hp}(s:But mm H H'):But2 d mm H H':=fun b o h _ n=>s b o h n
theorem But2.trans{d mm:Addr}{H H' H2:Hp}(x:But2 d mm H H')(y:But2 d mm H' H2):But2 d mm H H2:=fun b o h n m=>y b o (x b o h n m) n m
theorem But2.ts{d mm:Addr}{H H':Hp}{kvs kvs':List (List Key×V)}(x:But2 d mm H H')(h:H d=some (.dT kvs))(h':H mm=some (.dT kvs')):TS H H':=fun a zs e=>x a _ e (dg e h (by intro z;cases z)) (dg e h' (by intro z;cases z))
def kB(C:Addr):Sp:=fun vs H Q _=>∃(p d g mm:Addr) (ol:Ol) (nv mv:V) (n m:Nm) (c:Int) (it:It),vs=[.ref p,.ref mm,nv,.int c,mv]/\OlAt C H p d g ol/\HavAt H mm ol/\mm≠d/\mm≠g/\NameIs H nv (nk n)/\NameIs H mv (nk m)/\look ol n=some it/\look ol m=none/\it.tx.length<=400/\PyData.strOk it.tx=true/\ol.length<=100 /\
 ∀(a:Nat) (pl:List Int) (H':Hp),a<=it.tx.length->But2 d mm H H'->OlAt C H' p d g (aU ol n m it a pl)->HavAt H' mm (aU ol n m it a pl)->Q (.bl true) H'
abbrev gw:Stmt:=top 20
abbrev pz:List Str:=["_law_plain","_law_mine","_law_name","_law_cell","_law_new","_law_here","_law_at","_law_spot"]
theorem dm:FnScope pz ["_law_plain","_law_mine","_law_name","_law_cell","_law_new"] (ak gw):=⟨rfl,rfl,rfl,by decide +kernel,rfl,by decide +kernel,by decide +kernel⟩
theorem og{f C:Addr}{fd:FuncData}(F:Fun K "_law_parted" "_law_parted" gw f fd)(M_step:MFn P w K mg base 3 C "step" ["self","step"] (fH C))(M_item:MFn P w K mg base 1 C "item" ["self","name"] (eX C))(z_len:mg "len" = none):FnOk P w K mg base CX0 4 f fd ["_law_plain","_law_mine","_law_name","_law_cell","_law_new"] (kB C):=by
 refine F.okQ dm (fun vs H Q E h=>?_) (fun cdv A outer s H vs Q E hr h=>?_)
 ·obtain⟨p,d,g,mm,ol,nv,mv,n,m,c,it,rfl,_⟩:=h;rfl
 obtain⟨p,d,g,mm,ol,nv,mv,n,m,c,it,rfl,O,⟨kvs,hmm,R⟩,nmd,nmg,hn,hm,hl,hf,lt,okt,lo,q⟩:=h;obtain⟨nb,rfl,hnb⟩:=id hn;obtain⟨mb,rfl,hmb⟩:=id hm;have nm:m≠n:=fun z=>by rw[z,hl]at hf;cases hf
 obtain⟨iv,e1,ia,uv,pv,rfl,e2,e3,e4⟩:=am R hl;have lk:=aR R;refine⟨_,(b_c (aC (i:=5) dm.nd (aN hr.units (q_v 1) (q_v 2)))
   (b_c (aC (i:=6) dm.nd (ao be (q_v 3) (ao dh (q_B mP z_len PySem.boot_len (q_a (ay ax (q_v 5) ag) aj)) ag)))
   (b_c (aC (i:=7) dm.nd (bg (q_a (ao jm (ao be (ao cH (q_v 3) ag) ag) ag) (q_a (ao be (q_v 3) (ao vY ag ag)) aj))))
   (b_c (bh (aL dF (aJ M_step (hr.mono (by decide)) (q_v 0) (q_a (bg (q_a bf (q_a (q_v 2) (q_a (q_v 6) (q_a (q_v 4) (q_a (q_v 7) aj)))))) aj)) cE) (b_1 (aV ce)) b_0)
   (b_c (cJ hr.units (q_v 1) (q_v 4) (bg (q_a (ay ax (q_v 5) ag) (q_a (q_v 7) (q_a (bQ gQ (ay ax (q_v 5) ag) (bJ (q_v 6)) bV) (q_a ce (q_a cE (q_a ce aj))))))))
   (b_c (cJ hr.units (q_v 1) (q_v 2) (ao bX (ao bX (bQ bF (q_v 5) bV (bJ ag)) (bg (q_a (bQ gQ (ay ax (q_v 5) ag) bV (bJ (q_v 6))) aj))) (bQ bF (q_v 5) (bJ ag) bV)))
   (b_1 (aV (mz (dZ (di hr.units) (aJ M_item (hr.mono (by decide)) (q_v 0) (q_a (q_v 2) aj)) (aN hr.units (q_v 1) (q_v 2))) (mD (dZ (di hr.units) (aJ M_item (hr.mono (by decide)) (q_v 0) (q_a (q_v 4) aj)) (aN hr.units (q_v 1) (q_v 4))))))))))))),?_⟩
 try rw[cxK]
 refine⟨_,rfl,_,rfl,mm,.ref ia,rfl,e1▸DGet.t (k:=nk n) hmm hnb,?_⟩;have l0:(0:Int)<(it.tx.length:Int)+1:=by omega
 refine⟨_,rfl,_,rfl,ia,_,_,_,rfl,rfl,SqT.of e2,at2,it.tx,rfl,(by omega),_,_,rfl,rfl,_,_,rfl,rfl,l0,?_⟩;have a0:=ZH c (show(it.tx.length:Int)+1≠0 by omega);have a1:=Zw c l0;obtain⟨a,ea⟩:∃a:Nat,c%((it.tx.length:Int)+1)=(a:Int):=⟨(c%((it.tx.length:Int)+1)).toNat,by omega⟩
 have ha:a<=it.tx.length:=by omega
 dsimp(config:={ proj:=false,iota:=false,eta:=false,zeta:=false }) only;rw[ea];clear a0 a1 ea;refine⟨_,rfl,_,_,rfl,rfl,⟨by decide,by decide⟩,_,_,rfl,rfl,(by show(0:Int)<5;decide),_,_,rfl,rfl,_,rfl,_,_,rfl,rfl,⟨by decide,by decide,by decide⟩,_,_,rfl,rfl,(by show(0:Int)<10^30;decide),sz rfl,fun sp gp=>?_⟩;have wp:=ah gp (.tup [.int (c / 7%5-2),.int (c%10^(30:Int).toNat)]);have hsp:PlAt (upd H sp (.tup [.int (c / 7%5-2),.int (c%10^(30:Int).toNat)])) (.ref sp) [c / 7%5-2,c%10^(30:Int).toNat]:=⟨sp,rfl,ae⟩
 generalize[c / 7%5-2,c%10^(30:Int).toNat]=pl at hsp;generalize upd H sp (.tup [.int (c / 7%5-2),.int (c%10^(30:Int).toNat)])=H1 at wp hsp ⊢;have O1:=O.same wp;obtain⟨kv0,S0,R0⟩:=id O1;obtain⟨⟨dx,h1⟩,h2,h3,h4⟩:=id S0;refine⟨_,rfl,p,dx,_,rfl,h1,bj _ _,_,rfl,_,rfl,_,rfl,_,rfl,sz rfl,fun st gst=>?_⟩;have wst:=ah gst (.tup [.str "part",.ref nb,.int (a:Int),.ref mb,.ref sp]);have hst:SkAt (upd H1 st (.tup [.str "part",.ref nb,.int (a:Int),.ref mb,.ref sp])) st (.part n a m pl):=⟨.ref nb,.ref mb,.ref sp,ae,⟨nb,rfl,wst _ _ (wp _ _ hnb)⟩,⟨mb,rfl,wst _ _ (wp _ _ hmb)⟩,hsp.ts (Same.ts wst)⟩
 generalize upd H1 st (.tup [.str "part",.ref nb,.int (a:Int),.ref mb,.ref sp])=H2 at wst hst ⊢;have w2:=wp.trans wst;refine⟨p,d,g,st,ol,.part n a m pl,rfl,O1.same wst,by omega,hst,⟨hf,it,hl,ha,lt⟩,fun H3 ol' b3 O3 to3=>?_⟩;obtain⟨it',hl',rfl⟩:=to3;obtain rfl:it=it':=zE (hl.symm.trans hl');refine⟨rfl,_,rfl,fw rfl ?_⟩;have t3:TS H2 H3:=b3.ts (wst _ _ h2);have T3:TS H H3:=fun x zs h=>t3 _ _ (w2 _ _ h);have hmm3:H3 mm=some (.dT kvs):=b3 _ _ (w2 _ _ hmm) nmd;have R3:Rows H3 kvs ol:=R.ts T3;have hsp3:PlAt H3 (.ref sp) pl:=(hsp.ts (Same.ts wst)).ts t3;have B3:But2 d mm H H3:=(But2.of (But.of w2)).trans (But2.of b3);refine⟨_,rfl,ia,_,_,_,rfl,rfl,SqT.of (T3 _ _ e2),at0,_,rfl,_,rfl,ia,_,_,_,rfl,rfl,SqT.of (T3 _ _ e2),at2,_,rfl,_,rfl,it.tx,rfl,(by omega),sz rfl,fun t gt=>?_⟩;have wt:=ah gt (.tup [uv,.ref sp,.str (aw it.tx (some (a:Int)) none),.bl false,.non,.bl false]);have hit:ItAt (upd H3 t (.tup [uv,.ref sp,.str (aw it.tx (some (a:Int)) none),.bl false,.non,.bl false])) (.ref t) ⟨it.up,pl,aw it.tx (some (a:Int)) none,false,none,false⟩:=⟨t,uv,.ref sp,rfl,ae,(e3.ts T3).ts (Same.ts wt),hsp3.ts (Same.ts wt)⟩
 generalize upd H3 t (.tup [uv,.ref sp,.str (aw it.tx (some (a:Int)) none),.bl false,.non,.bl false])=H4 at wt hit ⊢;refine⟨_,rfl,_,rfl,mm,_,rfl,DPut.t (k:=nk m) (wt _ _ hmm3) (wt _ _ (T3 _ _ hmb)) (aP (by omega)),?_⟩;have V5:=cP (n:=m) hmm3 R3 wt hit;have b5:But mm H3 (upd H4 mm (.dT (aD kvs (nk m) (.ref t)))):=But.put wt _;generalize upd H4 mm (.dT (aD kvs (nk m) (.ref t)))=H5 at V5 b5 ⊢;have t5:=b5.ts hmm3;have O5:=O3.but b5 hmm3 nmd nmg;obtain⟨kvs5,hmm5,R5⟩:=V5;have lk5:=aR R5;have l5:=kq ol m ⟨it.up,pl,aw it.tx (some (a:Int)) none,false,none,false⟩;have T5:TS H H5:=fun x zs h=>t5 _ _ (T3 _ _ h);have B5:But2 d mm H H5:=B3.trans (But2.of' b5);refine⟨_,rfl,_,rfl,ia,_,rfl,T5 _ _ e2,fun t1 K1 s1 f1=>?_⟩;rw[show aQ [uv,pv,V.str it.tx,.bl it.dn,whV it.wh,.bl it.fo] none (some 2)=[uv,pv]from ip _ (i:=2) (show 2<=6 by decide)]at f1;refine⟨_,rfl,ia,_,_,_,rfl,rfl,SqT.of (s1 _ _ (T5 _ _ e2)),at2,_,rfl,_,rfl,it.tx,rfl,(by omega),sz rfl,fun tb gb=>?_⟩;have wb:=ah gb (.tup [.str (aw it.tx none (some (a:Int)))]);have hb:upd K1 tb (.tup [.str (aw it.tx none (some (a:Int)))]) tb=some (.tup [.str (aw it.tx none (some (a:Int)))]):=ae;generalize upd K1 tb (.tup [.str (aw it.tx none (some (a:Int)))])=K2 at wb hb ⊢;refine⟨t1,tb,_,_,rfl,rfl,wb _ _ f1,hb,sz rfl,fun t2 K3 s3 f3=>?_⟩;have w13:=s1.trans (wb.trans s3);refine⟨_,rfl,_,rfl,ia,_,rfl,w13 _ _ (T5 _ _ e2),fun t3' K4 s4 f4=>?_⟩;rw[show aQ [uv,pv,V.str it.tx,.bl it.dn,whV it.wh,.bl it.fo] (some 3) none=[.bl it.dn,whV it.wh,.bl it.fo]from dD _ (i:=3) (show 3<=6 by decide)]at f4;refine⟨t2,t3',_,_,rfl,rfl,s4 _ _ f3,f4,sz rfl,fun t4 K5 s5 f5=>?_⟩;have w15:Same H5 K5:=w13.trans (s4.trans s5);have hit2:ItAt K5 (.ref t4) { it with tx:=aw it.tx none (some (a:Int)) }:=⟨t4,uv,pv,rfl,f5,(e3.ts T5).ts (Same.ts w15),(e4.ts T5).ts (Same.ts w15)⟩
 refine⟨_,rfl,_,rfl,mm,_,rfl,DPut.t (k:=nk n) (w15 _ _ hmm5) (w15 _ _ (T5 _ _ hnb)) (aP (by omega)),?_⟩;have V6:=cP (n:=n) hmm5 R5 w15 hit2;have b6:But mm H5 (upd K5 mm (.dT (aD kvs5 (nk n) (.ref t4)))):=But.put w15 _;generalize upd K5 mm (.dT (aD kvs5 (nk n) (.ref t4)))=H6 at V6 b6 ⊢;have t6:=b6.ts hmm5;have O6:=O5.but b6 hmm5 nmd nmg;have T6:TS H H6:=fun x zs h=>t6 _ _ (T5 _ _ h);rw[<-qC (i:={ it with tx:=aw it.tx none (some (a:Int)) }) (j:=⟨it.up,pl,aw it.tx (some (a:Int)) none,false,none,false⟩) hl hf]at V6;have V6':HavAt H6 mm (aU ol n m it a pl):=V6;have O6':OlAt C H6 p d g (aU ol n m it a pl):=O6;clear V6 O6;have B6:But2 d mm H H6:=B5.trans (But2.of' b6);obtain⟨kvsA,SA,RA⟩:=id O6';obtain⟨⟨dxA,y1⟩,y2,y3,y4⟩:=id SA;obtain⟨kvsB,hB,RB⟩:=id V6';obtain⟨o1,o2⟩:=nW ha okt;have k1:look (aU ol n m it a pl) n=some { it with tx:=aw it.tx none (some (a:Int)) }:=by unfold aU;rw[ai,if_neg nm.symm,ai,if_pos rfl]
 have k2:look (aU ol n m it a pl) m=some ⟨it.up,pl,aw it.tx (some (a:Int)) none,false,none,false⟩:=by unfold aU;rw[ai,if_pos rfl]
 obtain⟨v1,z1,z2⟩:=am RA k1;obtain⟨v2,z3,z4⟩:=am RB k1;obtain⟨v3,z5,z6⟩:=am RA k2;obtain⟨v4,z7,z8⟩:=am RB k2;obtain⟨dA,q1,q2,q3,q4⟩:=fv z2 z4 o1;obtain⟨dB,r1,r2,r3,r4⟩:=fv z6 z8 o2;refine⟨_,rfl,p,dxA,_,rfl,y1,bj _ _,_,rfl,p,d,g,kvsA,[],.ref nb,v1,nk n,rfl,SA,⟨nb,rfl,T6 _ _ hnb⟩,z1,_,rfl,_,rfl,mm,v2,rfl,z3▸DGet.t (k:=nk n) hB (T6 _ _ hnb),dA,dA,q1,q2,q3,q3,_,rfl,?_⟩;rw[q4];refine cR ?_;refine⟨_,rfl,p,dxA,_,rfl,y1,bj _ _,_,rfl,p,d,g,kvsA,[],.ref mb,v3,nk m,rfl,SA,⟨mb,rfl,T6 _ _ hmb⟩,z5,_,rfl,_,rfl,mm,v4,rfl,z7▸DGet.t (k:=nk m) hB (T6 _ _ hmb),dB,dB,r1,r2,r3,r3,?_⟩;rw[r4];exact q a pl H6 ha B6 O6' V6'
theorem qB{β:Type}{pre post:As β}{c:Nm}{i j:β}(nd:((pre++(c,i)::post).map (·.1)).Nodup):look (pre++(c,i)::post) c=some i/\al (pre++(c,i)::post) c j=pre++(c,j)::post:=by have h:=fB nd (n:=c) (i:=i) (by simp);refine⟨h,?_⟩;rw[eh h,zV,zn,if_pos rfl];rw[zV,zn,List.nodup_append]at nd;obtain⟨_,n2,n3⟩:=nd;rw[ZG]at n2;rw[jT fun z=>n3 c z c Zg rfl,jT n2.1]
def bO(n m:Nm)(ol:Ol)(i:Nat):Ol:=(ol.take i).map (fun p=>(p.1,aE n m p.2))++ol.drop i
theorem vV(n m:Nm)(ol:Ol):bO n m ol 0=ol:=by unfold bO;rw[List.take_zero,List.drop_zero];rfl
theorem rM(n m:Nm)(ol:Ol):bO n m ol ol.length=ol.map fun p=>(p.1,aE n m p.2):=by unfold bO;rw[List.take_length,List.drop_length,ZA]
theorem jW(n m:Nm)(ol:Ol)(i:Nat):(bO n m ol i).map (·.1)=ol.map (·.1):=by unfold bO;rw[zV,ld,<-zV,zI]
theorem rN(n m:Nm)(ol:Ol)(i:Nat):(bO n m ol i).length=ol.length:=by have:=ZF List.length (jW n m ol i);rw[zr,zr]at this;exact this
theorem qa{n m c:Nm}{ol:Ol}{i:Nat}{it:It}(nd:(ol.map (·.1)).Nodup)(h:ol[i]?=some (c,it)):look (bO n m ol i) c=some it/\al (bO n m ol i) c (aE n m it)=bO n m ol (i+1)/\(aE n m it=it->bO n m ol (i+1)=bO n m ol i):=by
 have hi:=(zT.mp h).1;have e:ol.drop i=(c,it)::ol.drop (i+1):=by rw[List.drop_eq_getElem_cons hi];congr 1;exact(zT.mp h).2
 have e1:bO n m ol i=(ol.take i).map (fun p=>(p.1,aE n m p.2))++(c,it)::ol.drop (i+1):=by unfold bO;rw[e]
 have e2:bO n m ol (i+1)=(ol.take i).map (fun p=>(p.1,aE n m p.2))++(c,aE n m it)::ol.drop (i+1):=by unfold bO;rw[List.take_succ,h,zV,zH];rfl
 have nd':(((ol.take i).map (fun p=>(p.1,aE n m p.2))++(c,it)::ol.drop (i+1)).map (·.1)).Nodup:=by rw[<-e1,jW];exact nd
 obtain⟨a1,a2⟩:=qB (j:=aE n m it) nd';rw[e1,e2];exact⟨a1,a2,fun z=>by rw[z]⟩
def kA(C:Addr):Sp:=fun vs H Q _=>∃(p d g mm:Addr) (ol:Ol) (nv mv:V) (n m:Nm) (itn itm:It) (k:Nat),vs=[.ref p,.ref mm,nv,mv]/\OlAt C H p d g ol/\HavAt H mm ol/\mm≠d/\mm≠g/\NameIs H nv (nk n)/\NameIs H mv (nk m)/\look ol n=some itn/\look ol m=some itm/\Und ol m k (some n) false/\(ol.map (·.1)).Nodup/\itn.tx.length<=400/\itm.tx.length<=400/\(∀x i,look ol x=some i->PyData.strOk i.tx=true)/\ol.length<=100 /\
 ∀(H':Hp) (ol':Ol),But2 d mm H H'->OlAt C H' p d g ol'->HavAt H' mm ol'->JoinR ol n m itn itm ol'->Q (.bl true) H'
abbrev gv:Stmt:=top 21
abbrev pq:List Str:=["_law_plain","_law_mine","_law_name","_law_other","_law_here","_law_there","_law_one"]
theorem dl:FnScope pq ["_law_plain","_law_mine","_law_name","_law_other"] (ak gv):=⟨rfl,rfl,rfl,by decide +kernel,rfl,by decide +kernel,by decide +kernel⟩
theorem nZ{f C:Addr}{fd:FuncData}(F:Fun K "_law_joined" "_law_joined" gv f fd)(M_step:MFn P w K mg base 3 C "step" ["self","step"] (fH C))(M_item:MFn P w K mg base 1 C "item" ["self","name"] (eX C))(z_list:mg "list" = none):FnOk P w K mg base CX0 4 f fd ["_law_plain","_law_mine","_law_name","_law_other"] (kA C):=by
 refine F.okQ dl (fun vs H Q E h=>?_) (fun cdv A outer s H vs Q E hr h=>?_)
 ·obtain⟨p,d,g,mm,ol,nv,mv,n,m,itn,itm,k,rfl,_⟩:=h;rfl
 obtain⟨p,d,g,mm,ol,nv,mv,n,m,itn,itm,k,rfl,O,⟨kvs,hmm,R⟩,nmd,nmg,hn,hm,hln,hlm,un,nd,ln,lm,okt,lo,q⟩:=h;obtain⟨nb,rfl,hnb⟩:=id hn;obtain⟨mb,rfl,hmb⟩:=id hm;have nm:n≠m:=fun z=>iH un (by rw[z]);have lk:=aR R;refine⟨_,(b_c (bh (aL dF (aJ M_step (hr.mono (by decide)) (q_v 0) (q_a (bg (q_a bf (q_a (q_v 2) (q_a (q_v 3) aj)))) aj)) cE) (b_1 (aV ce)) b_0)
   (b_c (aC (i:=4) dl.nd (aN hr.units (q_v 1) (q_v 2)))
   (b_c (aC (i:=5) dl.nd (aN hr.units (q_v 1) (q_v 3)))
   (b_c (cJ hr.units (q_v 1) (q_v 2) (ao bX (ao bX (bQ bF (q_v 4) bV (bJ ag)) (bg (q_a (ao eO (ay ax (q_v 4) ag) (ay ax (q_v 5) ag)) aj))) (bQ bF (q_v 4) (bJ ag) bV)))
   (b_c (cJ hr.units (q_v 1) (q_v 3) (ao bX (ao bX (bQ bF (q_v 5) bV (bJ ag)) (bg (q_a bf aj))) (bQ bF (q_v 5) (bJ ag) bV)))
   (b_c (dj Zv rfl (gM (kh (dC rfl) z_list cG (q_a (q_v 1) aj))) (bp (i:=6) dl.nd) (b_1 (bh (aL (di hr.units) (ay ax (aN hr.units (q_v 1) (q_v 6)) ag) (q_v 3)) (b_1 (cJ hr.units (q_v 1) (q_v 6) (ao bX (bg (q_a (q_v 2) aj)) (bQ bF (aN hr.units (q_v 1) (q_v 6)) (bJ ag) bV)))) b_0)))
   (b_1 (aV (mz (dZ (di hr.units) (aJ M_item (hr.mono (by decide)) (q_v 0) (q_a (q_v 2) aj)) (aN hr.units (q_v 1) (q_v 2))) (mD (dZ (di hr.units) (aJ M_item (hr.mono (by decide)) (q_v 0) (q_a (q_v 3) aj)) (aN hr.units (q_v 1) (q_v 3))))))))))))),?_⟩
 try rw[cxK]
 obtain⟨kv0,S0,R0⟩:=id O;obtain⟨⟨dx,h1⟩,h2,h3,h4⟩:=id S0;refine aF fun RR hRR=>?_;refine⟨_,rfl,p,dx,_,rfl,h1,bj _ _,_,rfl,_,rfl,sz rfl,fun st gst=>?_⟩;have wst:=ah gst (.tup [.str "join",.ref nb,.ref mb]);have hst:SkAt (upd H st (.tup [.str "join",.ref nb,.ref mb])) st (.join n m):=⟨.ref nb,.ref mb,ae,⟨nb,rfl,wst _ _ hnb⟩,⟨mb,rfl,wst _ _ hmb⟩⟩
 generalize upd H st (.tup [.str "join",.ref nb,.ref mb])=H2 at wst hst ⊢;refine⟨p,d,g,st,ol,.join n m,rfl,O.same wst,by omega,hst,⟨⟨k,un⟩,itn,itm,hln,hlm,by omega⟩,fun H3 ol' b3 O3 to3=>?_⟩;obtain⟨itn',itm',hln',hlm',jr⟩:=to3;obtain rfl:itn=itn':=zE (hln.symm.trans hln');obtain rfl:itm=itm':=zE (hlm.symm.trans hlm');have ej:=lc nd hln hlm nm jr;refine⟨rfl,_,rfl,fw rfl (hRR _ _ ?_)⟩;clear hRR RR;have t3:TS H2 H3:=b3.ts (wst _ _ h2);have T3:TS H H3:=fun x zs h=>t3 _ _ (wst _ _ h);have hmm3:H3 mm=some (.dT kvs):=b3 _ _ (wst _ _ hmm) nmd;have R3:Rows H3 kvs ol:=R.ts T3;have B3:But2 d mm H H3:=(But2.of (But.of wst)).trans (But2.of b3);have nb3:=T3 _ _ hnb;have mb3:=T3 _ _ hmb;obtain⟨iv,e1,ia,uv,pv,rfl,e2,e3,e4⟩:=am R3 hln;obtain⟨jv,f1,ja,uw,pw,rfl,f2,f3,f4⟩:=am R3 hlm;refine aF fun RR hRR=>?_;refine⟨_,rfl,_,rfl,mm,.ref ia,rfl,e1▸DGet.t (k:=nk n) hmm3 nb3,hRR _ _ ?_⟩;clear hRR RR;refine aF fun RR hRR=>?_;refine⟨_,rfl,_,rfl,mm,.ref ja,rfl,f1▸DGet.t (k:=nk m) hmm3 mb3,hRR _ _ ?_⟩;clear hRR RR;clear hst t3 b3 wst h1 h2 h3 h4 S0 R0 hn hm;refine aF fun RR hRR=>?_;refine⟨_,rfl,_,rfl,ia,_,rfl,e2,fun t1 K1 s1 g1=>?_⟩;rw[show aQ [uv,pv,V.str itn.tx,.bl itn.dn,whV itn.wh,.bl itn.fo] none (some 2)=[uv,pv]from ip _ (i:=2) (show 2<=6 by decide)]at g1;refine⟨_,rfl,ia,_,_,_,rfl,rfl,SqT.of (s1 _ _ e2),at2,_,rfl,ja,_,_,_,rfl,rfl,SqT.of (s1 _ _ f2),at2,_,_,rfl,rfl,bZ (by omega),sz rfl,fun tb gb=>?_⟩;have wb:=ah gb (.tup [.str (itn.tx++itm.tx)]);have hb:upd K1 tb (.tup [.str (itn.tx++itm.tx)]) tb=some (.tup [.str (itn.tx++itm.tx)]):=ae;generalize upd K1 tb (.tup [.str (itn.tx++itm.tx)])=K2 at wb hb ⊢;refine⟨t1,tb,_,_,rfl,rfl,wb _ _ g1,hb,sz rfl,fun t2 K3 s3 g3=>?_⟩;have w13:=s1.trans (wb.trans s3);refine⟨_,rfl,_,rfl,ia,_,rfl,w13 _ _ e2,fun t3' K4 s4 g4=>?_⟩;rw[show aQ [uv,pv,V.str itn.tx,.bl itn.dn,whV itn.wh,.bl itn.fo] (some 3) none=[.bl itn.dn,whV itn.wh,.bl itn.fo]from dD _ (i:=3) (show 3<=6 by decide)]at g4;refine⟨t2,t3',_,_,rfl,rfl,s4 _ _ g3,g4,sz rfl,fun t4 K5 s5 g5=>?_⟩;have w15:Same H3 K5:=w13.trans (s4.trans s5);have hit2:ItAt K5 (.ref t4) { itn with tx:=itn.tx++itm.tx }:=⟨t4,uv,pv,rfl,g5,e3.ts (Same.ts w15),e4.ts (Same.ts w15)⟩
 refine⟨_,rfl,_,rfl,mm,_,rfl,DPut.t (k:=nk n) (w15 _ _ hmm3) (w15 _ _ nb3) (aP (by omega)),hRR _ _ ?_⟩;clear hRR RR;have V6:=cP (n:=n) hmm3 R3 w15 hit2;have b6:But mm H3 (upd K5 mm (.dT (aD kvs (nk n) (.ref t4)))):=But.put w15 _;generalize upd K5 mm (.dT (aD kvs (nk n) (.ref t4)))=H6 at V6 b6 ⊢;have t6:=b6.ts hmm3;have O6:=O3.but b6 hmm3 nmd nmg;have B6:But2 d mm H H6:=B3.trans (But2.of' b6);have l6:(al ol n { itn with tx:=itn.tx++itm.tx }).length=ol.length:=ck hln;have k6:(al ol n { itn with tx:=itn.tx++itm.tx }).map (·.1)=ol.map (·.1):=bw hln;have m6:look (al ol n { itn with tx:=itn.tx++itm.tx }) m=some itm:=by rw[ai,if_neg nm.symm];exact hlm
 generalize hO6:al ol n { itn with tx:=itn.tx++itm.tx }=ol6 at V6 l6 k6 m6;obtain⟨kvs6,hmm6,R6⟩:=V6;have lk6:=aR R6;have nb6:=t6 _ _ nb3;have mb6:=t6 _ _ mb3;have f26:=t6 _ _ f2;have f36:=f3.ts t6;have f46:=f4.ts t6;clear g1 g3 g4 g5 hb wb s1 s3 s4 s5 w13 w15 hit2 e2 e3 e4 f2 f3 f4 f1 e1;refine aF fun RR hRR=>?_;refine⟨_,rfl,_,rfl,ja,_,rfl,f26,fun t1 K1 s1 g1=>?_⟩;rw[show aQ [uw,pw,V.str itm.tx,.bl itm.dn,whV itm.wh,.bl itm.fo] none (some 2)=[uw,pw]from ip _ (i:=2) (show 2<=6 by decide)]at g1;refine⟨sz rfl,fun tb gb=>?_⟩;have wb:=ah gb (.tup [.str ""]);have hb:upd K1 tb (.tup [.str ""]) tb=some (.tup [.str ""]):=ae;generalize upd K1 tb (.tup [.str ""])=K2 at wb hb ⊢;refine⟨t1,tb,_,_,rfl,rfl,wb _ _ g1,hb,sz rfl,fun t2 K3 s3 g3=>?_⟩;have w13:=s1.trans (wb.trans s3);refine⟨_,rfl,_,rfl,ja,_,rfl,w13 _ _ f26,fun t3' K4 s4 g4=>?_⟩;rw[show aQ [uw,pw,V.str itm.tx,.bl itm.dn,whV itm.wh,.bl itm.fo] (some 3) none=[.bl itm.dn,whV itm.wh,.bl itm.fo]from dD _ (i:=3) (show 3<=6 by decide)]at g4;refine⟨t2,t3',_,_,rfl,rfl,s4 _ _ g3,g4,sz rfl,fun t4' K5 s5 g5=>?_⟩;have w15:Same H6 K5:=w13.trans (s4.trans s5);have hit2:ItAt K5 (.ref t4') { itm with tx:="" }:=⟨t4',uw,pw,rfl,g5,f36.ts (Same.ts w15),f46.ts (Same.ts w15)⟩
 refine⟨_,rfl,_,rfl,mm,_,rfl,DPut.t (k:=nk m) (w15 _ _ hmm6) (w15 _ _ mb6) (aP (by omega)),hRR _ _ ?_⟩;clear hRR RR;have V7:=cP (n:=m) hmm6 R6 w15 hit2;have b7:But mm H6 (upd K5 mm (.dT (aD kvs6 (nk m) (.ref t4')))):=But.put w15 _;generalize upd K5 mm (.dT (aD kvs6 (nk m) (.ref t4')))=H7 at V7 b7 ⊢;have t7:=b7.ts hmm6;have O7:=O6.but b7 hmm6 nmd nmg;have B7:But2 d mm H H7:=B6.trans (But2.of' b7);have l7:(al ol6 m { itm with tx:="" }).length=ol.length:=(ck m6).trans l6;have k7:(al ol6 m { itm with tx:="" }).map (·.1)=ol.map (·.1):=(bw m6).trans k6;have ej7:ol'=(al ol6 m { itm with tx:="" }).map fun p=>(p.1,aE n m p.2):=by rw[ej,<-hO6];rfl
 generalize hO7:al ol6 m { itm with tx:="" }=ol7 at V7 l7 k7 ej7;obtain⟨kvs7,hmm7,R7⟩:=V7;have nb7:=t7 _ _ nb6;have mb7:=t7 _ _ mb6;have nd7:(ol7.map (·.1)).Nodup:=by rw[k7];exact nd
 clear g1 g3 g4 g5 hb wb s1 s3 s4 s5 w13 w15 hit2 f26 f36 f46;refine aF fun RR hRR=>?_;refine⟨_,rfl,mm,kvs7,rfl,.inl hmm7,fun l ks gl hk=>⟨l,rfl,⟨_,SqL.of ae⟩,?_⟩⟩;have wl:=ah gl (.lst ks);have el:upd H7 l (.lst ks) l=some (.lst ks):=ae;have nlm:l≠mm:=fun z=>by rw[z,hmm7]at gl;cases gl
 have nat:NmsAt (upd H7 l (.lst ks)) ks (ol7.map (·.1)):=(eK R7 hk).ts (Same.ts wl);have O8:=O7.same wl;have R8:Rows (upd H7 l (.lst ks)) kvs7 ol7:=R7.ts (Same.ts wl);have hmm8:=wl _ _ hmm7;have nb8:=wl _ _ nb7;have mb8:=wl _ _ mb7;have B8:But2 d mm H (upd H7 l (.lst ks)):=B7.trans (But2.of (But.of wl));generalize upd H7 l (.lst ks)=H8 at el nat O8 R8 hmm8 nb8 mb8 B8 ⊢;have lks:ks.length=ol7.length:=by rw[Zn nat,zr]
 refine iO (K:=K) (a:=l) (xs:=ks) (fun i σ H'=>But mm H8 H'/\∃(kvs':List (List Key×V)) (o6:Option V),H' mm=some (.dT kvs')/\Rows H' kvs' (bO n m ol7 i)/\σ=[some (.ref p),some (.ref mm),some (.ref nb),some (.ref mb),some (.ref ia),some (.ref ja),o6])
  ⟨But.of (Same.refl _),kvs7,none,hmm8,by rw[vV];exact R8,rfl⟩ (fun i σ H' _ z=>SqL.of (z.1 _ _ el nlm)) ?_ ?_
 ·rintro i v σ H' hv ⟨bt,kvs',o6,hmm',R',rfl⟩ DL hDL;have tt:=bt.ts hmm8;obtain⟨c,hc,hvc⟩:=cw nat hv;obtain⟨⟨c',it⟩,hi7,hcc⟩:∃x,ol7[i]?=some x/\x.1=c:=by rw[Zz]at hc;exact ZC.mp hc
  obtain rfl:c'=c:=hcc;obtain⟨st1,st2,st3⟩:=qa (n:=n) (m:=m) nd7 hi7;obtain⟨cv,c1,ca,uc,pc,rfl,c2,c3,c4⟩:=am R' st1;obtain⟨vb,rfl,hvb⟩:=hvc;obtain⟨p1,p2,p3⟩:=fe c3;obtain⟨r1,r2,r3⟩:=fe (u:=some m) (v:=.ref mb) ⟨mb,rfl,tt _ _ mb8⟩;have lk':=aR R';rw[rN]at lk';refine⟨_,rfl,_,rfl,mm,.ref ca,rfl,c1▸DGet.t (k:=nk c') hmm' (tt _ _ hvb),ca,_,_,_,rfl,rfl,SqT.of c2,at0,_,rfl,_,_,p1,r1,cn p2 (by omega),cn r2 (by omega),_,rfl,?_⟩;rw[oV];refine fX (fun eu=>?_) (fun eu=>?_)
  ·refine⟨_,rfl,sz rfl,fun tn gtn=>?_⟩;have wn:=ah gtn (.tup [.ref nb]);have hn1:upd H' tn (.tup [.ref nb]) tn=some (.tup [.ref nb]):=ae;generalize upd H' tn (.tup [.ref nb])=K1 at wn hn1 ⊢;refine⟨_,rfl,_,rfl,mm,.ref ca,rfl,c1▸DGet.t (k:=nk c') (wn _ _ hmm') (wn _ _ (tt _ _ hvb)),_,rfl,ca,_,rfl,wn _ _ c2,fun t2 K2 s2 g2=>?_⟩;rw[show aQ [uc,pc,V.str it.tx,.bl it.dn,whV it.wh,.bl it.fo] (some 1) none=[pc,.str it.tx,.bl it.dn,whV it.wh,.bl it.fo]from dD _ (i:=1) (show 1<=6 by decide)]at g2;refine⟨tn,t2,_,_,rfl,rfl,s2 _ _ hn1,g2,sz rfl,fun t4 K5 s5 g5=>?_⟩;have w15:Same H' K5:=wn.trans (s2.trans s5);have er:aE n m it={ it with up:=some n }:=by unfold aE;rw[if_pos eu]
   have hit2:ItAt K5 (.ref t4) (aE n m it):=by rw[er];exact⟨t4,.ref nb,pc,rfl,g5,⟨nb,rfl,w15 _ _ (tt _ _ nb8)⟩,c4.ts (Same.ts w15)⟩
   have V9:=cP (n:=c') hmm' R' w15 hit2;rw[st2]at V9;obtain⟨kvs9,h9,R9⟩:=V9;exact⟨_,rfl,_,rfl,mm,_,rfl,DPut.t (k:=nk c') (w15 _ _ hmm') (w15 _ _ (tt _ _ hvb)) (aP (by omega)),hDL _ _ ⟨bt.trans (But.put w15 _),kvs9,_,h9,R9,rfl⟩⟩
  ·have er:aE n m it=it:=by unfold aE;rw[if_neg eu]
   exact hDL _ _ ⟨bt,kvs',_,hmm',by rw[st3 er];exact R',rfl⟩
 ·rintro σ H9 ⟨bt,kvs9,o6,hmm9,R9,rfl⟩;refine hRR _ _ ?_;clear hRR RR;rw[lks,rM,<-ej7]at R9;have V9:HavAt H9 mm ol':=⟨kvs9,hmm9,R9⟩
  have O9:=O8.but bt hmm8 nmd nmg;have B9:But2 d mm H H9:=B8.trans (But2.of' bt);have tt:=bt.ts hmm8;obtain⟨kvsA,SA,RA⟩:=id O9;obtain⟨⟨dxA,y1⟩,y2,y3,y4⟩:=id SA;obtain⟨j0,j1⟩:=df hln hlm jr;obtain⟨i1,k1,_,x1⟩:=j1 n itn hln;obtain⟨i2,k2,_,x2⟩:=j1 m itm hlm;have o1:PyData.strOk (aE n m i1).tx=true:=by rw[dH,x1,if_neg nm,if_pos rfl];exact hE (okt n itn hln) (okt m itm hlm)
  have o2:PyData.strOk (aE n m i2).tx=true:=by rw[dH,x2,if_pos rfl];decide +kernel
  obtain⟨v1,z1,z2⟩:=am RA k1;obtain⟨v2,z3,z4⟩:=am R9 k1;obtain⟨v3,z5,z6⟩:=am RA k2;obtain⟨v4,z7,z8⟩:=am R9 k2;obtain⟨dA,q1,q2,q3,q4⟩:=fv z2 z4 o1;obtain⟨dB,r1,r2,r3,r4⟩:=fv z6 z8 o2;refine⟨_,rfl,p,dxA,_,rfl,y1,bj _ _,_,rfl,p,d,g,kvsA,[],.ref nb,v1,nk n,rfl,SA,⟨nb,rfl,tt _ _ nb8⟩,z1,_,rfl,_,rfl,mm,v2,rfl,z3▸DGet.t (k:=nk n) hmm9 (tt _ _ nb8),dA,dA,q1,q2,q3,q3,_,rfl,?_⟩;rw[q4];refine cR ?_;refine⟨_,rfl,p,dxA,_,rfl,y1,bj _ _,_,rfl,p,d,g,kvsA,[],.ref mb,v3,nk m,rfl,SA,⟨mb,rfl,tt _ _ mb8⟩,z5,_,rfl,_,rfl,mm,v4,rfl,z7▸DGet.t (k:=nk m) hmm9 (tt _ _ mb8),dB,dB,r1,r2,r3,r3,?_⟩;rw[r4];exact q H9 ol' B9 O9 V9 jr
theorem iV{H HF HG:Hp}{a:Addr}{u:HO}(h:H a=some u)(e1:∀b o,H b=some o->b≠a->HF b=some o)(w:Same HF HG):Same H (upd HG a u):=fun b o e=>by
 by_cases c:b=a
 ·rw[c,ae,<-h,<-c,e]
 ·rw[af c];exact w _ _ (e1 _ _ e c)
abbrev gE(H:Hp)(ys:List V)(its:List It):Prop:=Paired (ItAt H) ys its
theorem nI{H:Hp}{l:Addr}{ys:List V}{its:List It}(hl:H l=some (.lst ys))(p:gE H ys its)(ok:∀i∈its,PyData.strOk i.tx=true):Dt H (.list (its.map itD)) (.ref l)/\SeqAt.shaped (.list (its.map itD))=true/\PyData.eqv (.list (its.map itD)) (.list (its.map itD))=true :=
 fZ (R:=ItAt H) hl p fun v i hi h=>md h (ok i hi)
theorem fc{α:Type}{l:List α}{i:Nat}{x:α}(h:l[i]?=some x):l.take (i+1)=l.take i++[x]:=by rw[List.take_succ,h];rfl
def lF(C:Addr):Sp:=fun vs H Q _=>∃(p d g mm:Addr) (ol:Ol),vs=[.ref p,.ref mm]/\OlAt C H p d g ol/\HavAt H mm ol/\mm≠d/\mm≠g/\(ol.map (·.1)).Nodup/\(∀x i,look ol x=some i->PyData.strOk i.tx=true)/\ol.length<=100/\∀H':Hp,Same H H'->Q (.bl true) H'
abbrev gr:Stmt:=top 22
abbrev pk:List Str:=["_law_plain","_law_mine"]
theorem oF:FnScope pk ["_law_plain","_law_mine"] (ak gr):=⟨rfl,rfl,rfl,by decide +kernel,rfl,by decide +kernel,by decide +kernel⟩
theorem nV{f C:Addr}{fd:FuncData}(F:Fun K "_law_all_as" "_law_all_as" gr f fd)(M_names:MFn P w K mg base 1 C "names" ["self"] (iG C))(M_item:MFn P w K mg base 1 C "item" ["self","name"] (eX C))(z_list:mg "list" = none):FnOk P w K mg base CX0 2 f fd ["_law_plain","_law_mine"] (lF C):=by
 refine F.okQ oF (fun vs H Q E h=>?_) (fun cdv A outer s H vs Q E hr h=>?_)
 ·obtain⟨p,d,g,mm,ol,rfl,_⟩:=h;rfl
 obtain⟨p,d,g,mm,ol,rfl,O,⟨kvs,hmm,R⟩,nmd,nmg,nd,okt,lo,q⟩:=h;have lk:=aR R;refine⟨_,(b_c (bh (aL (qU hr.units) (lz M_names (hr.mono (by decide)) (q_v 0)) (kh (dC rfl) z_list cG (q_a (q_v 1) aj))) (b_1 (aV ce)) b_0)
   (b_1 (aV (dZ (di hr.units) (oA (ki (own:=["_law_name"]) (⟨rfl,by decide +kernel,by decide +kernel,rfl,⟨rfl,rfl,trivial⟩⟩:CompOk _ _ [0] ["_law_plain"]) rfl (qQ (q_v 1)) (fun _ _ _ _=>bp (i:=0) (show (["_law_name","_law_plain"]:List Str).Nodup by decide +kernel)) (iu (by decide)) (fun _ _ _ _=>pS) (fun _ _ _ _=>(aJ M_item (hr.mono (by decide)) (q_v 1) (q_a (q_v 0) aj))))) (oA (ki (own:=["_law_name"]) (⟨rfl,by decide +kernel,by decide +kernel,rfl,⟨rfl,rfl,trivial⟩⟩:CompOk _ _ [1] ["_law_mine"]) rfl (qQ (q_v 1)) (fun _ _ _ _=>bp (i:=0) (show (["_law_name","_law_mine"]:List Str).Nodup by decide +kernel)) (iu (by decide)) (fun _ _ _ _=>pS) (fun _ _ _ _=>(aN hr.units (q_v 1) (q_v 0))))))))),?_⟩
 try rw[cxK]
 obtain⟨kv0,S0,R0⟩:=id O;obtain⟨⟨dx,h1⟩,h2,h3,h4⟩:=id S0;refine aF fun RR hRR=>?_;refine⟨_,rfl,p,dx,_,rfl,h1,bj _ _,p,d,g,kv0,[],rfl,S0,fun l1 ks1 gl1 hk1=>?_⟩;have w1:=ah gl1 (.lst ks1);have n1:=(eK R0 hk1).ts (Same.ts w1);have e1:upd H l1 (.lst ks1) l1=some (.lst ks1):=ae;generalize upd H l1 (.lst ks1)=H1 at w1 n1 e1 ⊢;refine⟨_,rfl,mm,kvs,rfl,.inl (w1 _ _ hmm),fun l2 ks2 gl2 hk2=>?_⟩;have w2:=ah gl2 (.lst ks2);have n2:=(eK (R.ts (Same.ts w1)) hk2).ts (Same.ts w2);have e2:upd H1 l2 (.lst ks2) l2=some (.lst ks2):=ae;generalize upd H1 l2 (.lst ks2)=H2 at w2 n2 e2 ⊢;obtain⟨d1,d2,d3⟩:=jX (w2 _ _ e1) (n1.ts (Same.ts w2));obtain⟨d4,_,_⟩:=jX e2 n2;refine⟨_,_,d1,d4,d2,d2,_,rfl,?_⟩;rw[d3];refine aO (hRR _ _ ?_);clear hRR RR d1 d2 d3 d4 n1 n2 e1 e2 hk1 hk2;have sm:=w1.trans w2;have O2:=O.same sm;have R2:=R.ts (Same.ts sm);have m2:=sm _ _ hmm;clear w1 w2 gl1 gl2;refine⟨_,rfl,mm,kvs,rfl,m2,fun ob=>?_⟩;have b3:But mm H2 (upd H2 mm (.frz ob (.dT kvs))):=fun b o e hb=>by rw[af hb];exact e
 have eF:upd H2 mm (.frz ob (.dT kvs)) mm=some (.frz ob (.dT kvs)):=ae;generalize upd H2 mm (.frz ob (.dT kvs))=HF at b3 eF ⊢;have t3:=b3.ts m2;have O3:=O2.but b3 m2 nmd nmg;have R3:=R2.ts t3;obtain⟨kvA,SA,RA⟩:=id O3;obtain⟨⟨dxA,y1⟩,y2,y3,y4⟩:=id SA;have at_i:∀{i:Nat} {kv:List Key×V},kvs[i]?=some kv->∃x:Nm×It,ol[i]?=some x/\kv.1=nk x.1/\look ol x.1=some x.2:=fun hkv=>by obtain⟨x,hx,e,_⟩:=cw R hkv;exact⟨x,hx,e,fB nd (List.mem_of_getElem? hx)⟩
 refine iN (a:=mm) (o:=ob) (kvs:=kvs) (fun i ys H'=>H'=HF/\ys.length<=i/\gE HF ys ((ol.take i).map (·.2))) (by omega) (fun _ _ _ z=>z.2.1) ⟨rfl,zh _,.nil⟩ (fun i ys H' z=>by rw[z.1];exact eF) ?_ ?_
 ·rintro i ys H' kv b hkv hb ⟨rfl,ly,its⟩ Y hY;obtain⟨x,hx,ek,hlx⟩:=at_i hkv;rw[ek]at hb;obtain⟨v,z1,z2⟩:=am RA hlx;refine⟨_,rfl,p,dxA,_,rfl,y1,bj _ _,_,rfl,p,d,g,kvA,[],.ref b,v,nk x.1,rfl,SA,⟨b,rfl,hb⟩,z1,hY _ _ ⟨rfl,?_,?_⟩⟩
  ·rw[zt];exact Nat.succ_le_succ ly
  ·rw[fc hx,zV];exact Paired.snoc its z2
 rintro ys l5 H' ⟨rfl,_,its⟩ g5;rw[lk,List.take_length]at its;have w5:=ah g5 (.lst ys);have n5m:l5≠mm:=fun z=>by rw[z,eF]at g5;cases g5
 refine⟨mm,ob,.dT kvs,w5 _ _ eF,Loose.dt hmm,?_⟩;have s7:=iV m2 b3 w5;have t7:TS H' (upd (upd H' l5 (.lst ys)) mm (.dT kvs)):=fun b zs e=>by rw[af fun z=>by rw[z,eF]at e;cases e];exact w5 _ _ e
 have e7:upd (upd H' l5 (.lst ys)) mm (.dT kvs) l5=some (.lst ys):=by rw[af n5m,ae]
 have i7:gE (upd (upd H' l5 (.lst ys)) mm (.dT kvs)) ys (ol.map (·.2)):=Paired.mapP its fun _ _ z=>z.ts t7;generalize upd (upd H' l5 (.lst ys)) mm (.dT kvs)=H7 at s7 e7 i7 ⊢;clear t7 w5 its b3 t3 O3 R3 kvA SA RA y1 y2 y3 y4 eF g5;have m7:=s7 _ _ m2;have R7:=R2.ts (Same.ts s7);refine⟨_,rfl,mm,kvs,rfl,m7,fun ob2=>?_⟩;have b3:But mm H7 (upd H7 mm (.frz ob2 (.dT kvs))):=fun b o e hb=>by rw[af hb];exact e
 have eF:upd H7 mm (.frz ob2 (.dT kvs)) mm=some (.frz ob2 (.dT kvs)):=ae;generalize upd H7 mm (.frz ob2 (.dT kvs))=HG at b3 eF ⊢;have R8:=R7.ts (b3.ts m7);refine iN (a:=mm) (o:=ob2) (kvs:=kvs) (fun i ys H'=>H'=HG/\ys.length<=i/\gE HG ys ((ol.take i).map (·.2))) (by omega) (fun _ _ _ z=>z.2.1) ⟨rfl,zh _,.nil⟩ (fun i ys H' z=>by rw[z.1];exact eF) ?_ ?_
 ·rintro i ys H' kv b hkv hb ⟨rfl,ly,its⟩ Y hY;obtain⟨x,hx,ek,hlx⟩:=at_i hkv;rw[ek]at hb;obtain⟨v,z1,z2⟩:=am R8 hlx;refine⟨_,rfl,_,rfl,mm,v,rfl,.inr ⟨kvs,nk x.1,b,.inr ⟨ob2,eF⟩,rfl,hb,z1.symm⟩,hY _ _ ⟨rfl,?_,?_⟩⟩
  ·rw[zt];exact Nat.succ_le_succ ly
  ·rw[fc hx,zV];exact Paired.snoc its z2
 rintro ys2 l6 H' ⟨rfl,_,its⟩ g6;rw[lk,List.take_length]at its;have w6:=ah g6 (.lst ys2);have n6m:l6≠mm:=fun z=>by rw[z,eF]at g6;cases g6
 refine⟨mm,ob2,.dT kvs,w6 _ _ eF,Loose.dt hmm,?_⟩;have s9:=iV m7 b3 w6;have t9:TS H' (upd (upd H' l6 (.lst ys2)) mm (.dT kvs)):=fun b zs e=>by rw[af fun z=>by rw[z,eF]at e;cases e];exact w6 _ _ e
 have e9:upd (upd H' l6 (.lst ys2)) mm (.dT kvs) l6=some (.lst ys2):=by rw[af n6m,ae]
 have i9:gE (upd (upd H' l6 (.lst ys2)) mm (.dT kvs)) ys2 (ol.map (·.2)):=Paired.mapP its fun _ _ z=>z.ts t9;generalize upd (upd H' l6 (.lst ys2)) mm (.dT kvs)=H9 at s9 e9 i9 ⊢;have oki:∀i∈ol.map (·.2),PyData.strOk i.tx=true:=fun i hi=>by obtain⟨x,hx,rfl⟩:=List.mem_map.mp hi;exact okt x.1 x.2 (fB nd hx)
 obtain⟨c1,c2,c3⟩:=nI (s9 _ _ e7) (Paired.mapP i7 fun _ _ z=>z.ts (Same.ts s9)) oki;obtain⟨c4,_,_⟩:=nI e9 i9 oki;refine⟨_,_,c1,c4,c2,c2,?_⟩;rw[c3];exact q H9 (sm.trans (s7.trans s9))
theorem wV{A B:Prop}(f:A->B)(h:A):B:=f h
theorem sZ{ns:List Int}(h:ns.length<=63):∃cs:List Int,aQ (ns.map V.int) (some 7) (some 47)=cs.map V.int/\cs.length<=40:=by
 refine⟨(ns.drop (HT.sIx (ns.map V.int).length 0 (some 7))).take (HT.sIx (ns.map V.int).length (ns.map V.int).length (some 47)-HT.sIx (ns.map V.int).length 0 (some 7)),?_,?_⟩
 ·unfold aQ;rw[List.map_take,List.map_drop]
 ·rw[Za,zX,zr,oC (by decide),oC (by decide)];have:(7:Int).toNat=7:=rfl;have:(47:Int).toNat=47:=rfl;omega
theorem Iv.mem{ol:Ol}{n:Nm}(h:n∈ol.map (·.1)):∃it,look ol n=some it:=by
 cases e:look ol n with
 |none=>exact absurd h (lh e)
 |some it=>exact⟨it,rfl⟩
theorem qg{ol:Ol}{n m:Nm}{it:It}{a:Nat}{pl:List Int}(h:look ol n=some it)(hm:look ol m=none):(aU ol n m it a pl).length=ol.length+1:=by
 have nm:m≠n:=fun z=>by rw[z,h]at hm;cases hm
 unfold aU;rw[cA (by rw[ai,if_neg nm];exact hm),zt,ck h];rfl
theorem nh{H:Hp}{l:Addr}{cs:List Nat}(hl:H l=some (.lst (cs.map chV)))(ok:∀c∈cs,c<0x110000):Dt H (.list (cs.map fun c=>PyData.str ⟨#[c]⟩)) (.ref l)/\SeqAt.shaped (.list (cs.map fun c=>PyData.str ⟨#[c]⟩))=true/\PyData.eqv (.list (cs.map fun c=>PyData.str ⟨#[c]⟩)) (.list (cs.map fun c=>PyData.str ⟨#[c]⟩))=true:=by
 have pr:∀cs:List Nat,Paired (fun v c=>v=chV c) (cs.map chV) cs:=fun cs=>by
  induction cs with
  |nil=>exact .nil
  |cons c cs ih=>exact .cons rfl ih
 refine fZ (R:=fun v c=>v=chV c) hl (pr cs) fun v c hc e=>?_;subst e;refine⟨nj _,?_,by simp[PyData.depth]⟩;show(#[c]:Array Nat).all (·<0x110000)=true;simp[ok c hc]
def Lw(C x d g mm:Addr)(sg:Str)(i:Nat)(H:Hp):Prop:=∃ol,OlAt C H x d g ol/\HavAt H mm ol/\Iv ol sg (10+(i:Int))/\ol≠[]/\ol.length<=6+i
abbrev fG:Stmt:=top 23
abbrev vK:List Str:=["_law_script","_law_plain","_law_mine","_law_signs","_law_step","_law_k","_law_cell","_law_names","_law_name","_law_other","_law_text_here","_law_left"]
theorem bv:FnScope vK ["_law_script"] (ak fG):=⟨rfl,rfl,rfl,by decide +kernel,rfl,by decide +kernel,by decide +kernel⟩
theorem ud{f C:Addr}{fd:FuncData}(F:Fun K "law" "law" fG f fd)(F_cell_at:Fn P w K mg base 1 "_law_cell_at" ["_law_script","_law_k"] (kx K))(F_started:Fn P w K mg base 2 "_law_started" ["_law_script","_law_many"] (iU K))(F_is_in:Fn P w K mg base 1 "_law_is_in" ["_law_one","_law_other","_law_mine"] oJ)(F_parted:Fn P w K mg base 4 "_law_parted" ["_law_plain","_law_mine","_law_name","_law_cell","_law_new"] (kB C))(F_joined:Fn P w K mg base 4 "_law_joined" ["_law_plain","_law_mine","_law_name","_law_other"] (kA C))(F_all_as:Fn P w K mg base 2 "_law_all_as" ["_law_plain","_law_mine"] (lF C))(Mk_Plain:MkFn P w K mg base 1 C "Plain" ["self"] (oH C))(M_step:MFn P w K mg base 3 C "step" ["self","step"] (fH C))(M_item:MFn P w K mg base 1 C "item" ["self","name"] (eX C))(M_names:MFn P w K mg base 1 C "names" ["self"] (iG C))(z_list:mg "list" = none)(z_len:mg "len" = none)(z_enumerate:mg "enumerate" = none)(z_isinstance:mg "isinstance" = none)(z_str:mg "str" = none)(z_sorted:mg "sorted" = none):FnOk P w K mg base CX0 5 f fd ["_law_script"] (jo K):=by
 refine F.okQ bv (fun vs H Q E h=>?_) (fun cdv A outer s H vs Q E hr h=>?_)
 ·obtain⟨a,ns,rfl,_⟩:=h;rfl
 obtain⟨a,sc,rfl,hS,hlen,hq⟩:=h;refine⟨_,(b_c (aC (i:=1) bv.nd (sE Mk_Plain (hr.mono (by decide))))
   (b_c (aC (i:=2) bv.nd mB)
   (b_c (aC (i:=3) bv.nd bf)
   (b_c (dj Zv rfl (gM (dv F_started (hr.mono (by decide)) (q_a (q_v 0) (q_a (ao dh ag (ao be (dv F_cell_at (hr.mono (by decide)) (q_a (q_v 0) (q_a ag aj))) ag)) aj)))) (bp (i:=4) bv.nd) (b_c (bu (aJ M_step (hr.mono (by decide)) (q_v 1) (q_a (q_v 4) aj)))
   (b_c (cJ hr.units (q_v 2) (ay ax (q_v 4) ag) (ao bX (bQ bF (q_v 4) (bJ ag) bV) (bg (q_a ce (q_a cE (q_a ce aj))))))
   (b_1 (aC (i:=3) bv.nd (ao eO (q_v 3) (ay ax (q_v 4) ag)))))))
   (b_c (dj Zv rfl (tF z_enumerate (q_a (bQ tP (q_v 0) (bJ ag) (bJ ag)) aj)) (lV rfl (iw (bp (i:=5) bv.nd) (iw (bp (i:=6) bv.nd) pQ))) (b_c (aC (i:=7) bv.nd (kh (dC rfl) z_list cG (q_a (q_v 2) aj)))
   (b_c (aC (i:=8) bv.nd (ay ff (q_v 7) (ao be (ao cH (q_v 6) ag) (q_B gG z_len PySem.boot_len (q_a (q_v 7) aj)))))
   (b_c (aC (i:=9) bv.nd (ay ff (q_v 7) (ao be (ao be (ao qT (ao be (q_v 6) ag) ag) ag) (q_B gG z_len PySem.boot_len (q_a (q_v 7) aj)))))
   (b_c (aC (i:=10) bv.nd (ay ax (aN hr.units (q_v 2) (q_v 8)) ag))
   (b_c (oE (bh (t_w (vB (aL tY (ao be (q_v 6) ag) ag) (ro (eA (dv F_is_in (hr.mono (by decide)) (q_a (q_v 8) (q_a (q_v 9) (q_a (q_v 2) aj)))))))) (b_c (bh (ju (eA (dv F_parted (hr.mono (by decide)) (q_a (q_v 1) (q_a (q_v 2) (q_a (q_v 8) (q_a (ao cH (q_v 6) ag) (q_a (bg (q_a (ao jm ag (ao be (q_v 5) ag)) (q_a (ao dh ag (q_v 5)) aj))) aj)))))))) (b_1 (aV ce)) b_0)
   (b_1 (bh (aL dX (ao be (q_v 6) ag) ag) (b_1 (bh (t_w (vB (ju (eA (dv F_joined (hr.mono (by decide)) (q_a (q_v 1) (q_a (q_v 2) (q_a (q_v 8) (q_a (bg (q_a (ao jm ag (ao be (q_v 5) ag)) (q_a (ao dh ag (q_v 5)) aj))) aj))))))) (ro (aL wU (ay ax (aJ M_item (hr.mono (by decide)) (q_v 1) (q_a (q_v 8) aj)) ag) (q_v 10))))) (b_1 (aV ce)) b_0)) b_0))) (b_1 (bh (ju (eA (dv F_joined (hr.mono (by decide)) (q_a (q_v 1) (q_a (q_v 2) (q_a (q_v 8) (q_a (q_v 9) aj))))))) (b_1 (aV ce)) b_0))))
   (b_1 (bh (ju (eA (dv F_all_as (hr.mono (by decide)) (q_a (q_v 1) (q_a (q_v 2) aj))))) (b_1 (aV ce)) b_0))))))))
   (b_c (aC (i:=11) bv.nd (uQ bf (ki (own:=["_law_name"]) (⟨rfl,by decide +kernel,by decide +kernel,rfl,⟨rfl,rfl,trivial⟩⟩:CompOk _ _ [1] ["_law_plain"]) rfl (gM (lz M_names (hr.mono (by decide)) (q_v 1))) (fun _ _ _ _=>bp (i:=0) (show (["_law_name","_law_plain"]:List Str).Nodup by decide +kernel)) (iu (by decide)) (fun _ _ _ _=>pS) (fun _ _ _ _=>(ay (vC (K:=K) rfl) (aJ M_item (hr.mono (by decide)) (q_v 1) (q_a (q_v 0) aj)) ag)))))
   (b_1 (aV (mz (q_B vM z_isinstance gF (q_a (q_v 11) (q_a (wW z_str pG) aj))) (mD (dZ (di hr.units) (q_B (kN rfl) z_sorted PyProof.Rows.boot_sorted (q_a (q_v 11) aj)) (q_B (kN rfl) z_sorted PyProof.Rows.boot_sorted (q_a (q_v 3) aj))))))))))))),?_⟩
 try rw[cxK]
 refine aF fun RR hRR=>?_;intro x dx nx ndx nex;refine⟨x,dx,rfl,ae,fun d g H1 fd0 fg0 S1 kp1=>⟨rfl,hRR _ _ ?_⟩⟩;clear hRR RR;have s00:Same H (upd (upd H dx (.own x)) x (.ins C dx [])):=fun b o e=>by rw[af (aq e nx),af (aq e ndx)];exact e
 have hd0:H d=none:=s00.free fd0;have hg0:H g=none:=s00.free fg0;have s01:Same H H1:=fun b o e=>kp1 b o (by rw[af (aq e nx),af (aq e ndx)];exact e) (aq e nx);refine aF fun RR hRR=>?_;intro mm gmm;refine hRR _ _ ?_;clear hRR RR;have w1:=ah gmm (.dT []);have emm:upd H1 mm (.dT []) mm=some (.dT []):=ae;have O2:OlAt C (upd H1 mm (.dT [])) x d g []:=⟨[],S1.same w1,.nil⟩
 have s02:=s01.trans w1;have nmd:mm≠d:=fun z=>by have:=S1.dc;rw[<-z,gmm]at this;cases this
 have nmg:mm≠g:=fun z=>by have:=S1.gc;rw[<-z,gmm]at this;cases this
 have hm0:H mm=none:=s01.free gmm;generalize upd H1 mm (.dT [])=H2 at emm O2 s02 ⊢;clear w1 s01 kp1 S1 s00;refine aF fun RR hRR=>?_;refine hRR _ _ ?_;clear hRR RR;refine aF fun RR hRR=>?_;refine⟨_,rfl,_,rfl,a,sc,_,rfl,s02.seq hS,by decide,_,_,rfl,rfl,(by show(0:Int)<6;decide),_,_,rfl,rfl,?_⟩;have m0:=ZH (cY sc (0:Int).toNat) (show(6:Int)≠0 by decide);have m1:=Zw (cY sc (0:Int).toNat) (show(0:Int)<6 by decide);refine⟨a,sc,_,rfl,s02.seq hS,by omega,by omega,fun ps ss us H3 s3 gps eps lu pat pok=>?_⟩;have lu6:us.length<=6:=by omega
 have lu1:1<=us.length:=by omega
 clear lu;have ls:ss.length=us.length:=Zn pat;have d3:∃kv,H3 d=some (.dT kv):=by obtain⟨kv,S,_⟩:=O2.same s3;exact⟨kv,S.dc⟩
 obtain⟨kd3,hd3⟩:=d3;have hm3:=s3 _ _ emm;have npd:ps≠d:=fun z=>by rw[z,hd3]at eps;cases eps
 have npm:ps≠mm:=fun z=>by rw[z,hm3]at eps;cases eps
 refine⟨ps,rfl,⟨_,SqL.of eps⟩,?_⟩;refine iO (K:=K) (a:=ps) (xs:=ss) (fun i σ H'=>But2 d mm H3 H'/\∃(ol:Ol) (sg:Str) (o4:Option V),OlAt C H' x d g ol/\HavAt H' mm ol/\Iv ol sg (1+(i:Int))/\sg.length<=60*i/\ol.length=i/\(∀y∈(us.take i).map (·.n),(look ol y).isSome=true)/\σ=[some (.ref a),some (.ref x),some (.ref mm),some (.str sg),o4,none,none,none,none,none,none,none])
  ⟨fun b o h _ _=>h,[],"",none,O2.same s3,⟨[],hm3,.nil⟩,Iv.nil _,by decide +kernel,rfl,(fun y hy=>by simp at hy),rfl⟩ (fun i σ H' _ z=>SqL.of (z.1 _ _ eps npd npm)) ?_ ?_
 ·rintro i v σ H' hv ⟨bt,ol,sg,o4,O,⟨kvs,hmm,R⟩,iv,lsg,lo,hin,rfl⟩ DL hDL;have tt:=bt.ts hd3 hm3;have hi:i<ss.length:=(zT.mp hv).1;obtain⟨u,hu,st,rfl,hst⟩:=cw pat hv
  replace hst:=SkAt.ts hst tt
  obtain⟨u1,u2,u3,u4⟩:=pok i u hu;obtain⟨kv0,S0,R0⟩:=id O;obtain⟨⟨dx',h1⟩,h2,h3,h4⟩:=id S0;have fr:look ol u.n=none:=iv.fresh (by omega);refine aF fun RR hRR=>?_;refine⟨_,rfl,x,dx',_,rfl,h1,bj _ _,_,rfl,x,d,g,st,ol,.put u.n u.u u.pl u.tx,rfl,O,by omega,hst,⟨fr,fun y hy=>hin y (u2 y hy)⟩,fun H4 ol' b4 O4 to4=>hRR _ _ ?_⟩;clear hRR RR;subst to4;have t4:=b4.ts h2;have hmm4:=b4 _ _ hmm nmd;have R4:=R.ts t4;obtain⟨nv,uv,pv,hst4,hn4,hu4,hp4⟩:=hst.ts t4;obtain⟨nb,rfl,hnb⟩:=id hn4;have lk:=aR R;refine aF fun RR hRR=>?_;refine⟨_,rfl,_,rfl,st,_,rfl,hst4,fun t1 K1 s1 f1=>?_⟩;rw[show aQ [V.str "put",.ref nb,uv,pv,.str u.tx] (some 2) none=[uv,pv,.str u.tx]from dD _ (i:=2) (show 2<=5 by decide)]at f1;refine⟨sz rfl,fun tb gb=>?_⟩;have wb:=ah gb (.tup [.bl false,.non,.bl false]);have hb:upd K1 tb (.tup [.bl false,.non,.bl false]) tb=some (.tup [.bl false,.non,.bl false]):=ae;generalize upd K1 tb (.tup [.bl false,.non,.bl false])=K2 at wb hb ⊢;refine⟨t1,tb,_,_,rfl,rfl,wb _ _ f1,hb,sz rfl,fun t2 K3 s3' f3=>?_⟩;have w13:=s1.trans (wb.trans s3');have hit:ItAt K3 (.ref t2) ⟨u.u,u.pl,u.tx,false,none,false⟩:=⟨t2,uv,pv,rfl,f3,hu4.ts (Same.ts w13),hp4.ts (Same.ts w13)⟩
  refine⟨_,rfl,_,rfl,st,_,_,_,rfl,rfl,SqT.of (w13 _ _ hst4),at1,mm,_,rfl,DPut.t (k:=nk u.n) (w13 _ _ hmm4) (w13 _ _ hnb) (aP (by omega)),hRR _ _ ?_⟩;clear hRR RR;have V5:=cP (n:=u.n) hmm4 R4 w13 hit;have b5:But mm H4 (upd K3 mm (.dT (aD kvs (nk u.n) (.ref t2)))):=But.put w13 _;generalize upd K3 mm (.dT (aD kvs (nk u.n) (.ref t2)))=H5 at V5 b5 ⊢;have O5:=O4.but b5 hmm4 nmd nmg;have t5:=b5.ts hmm4;refine⟨_,rfl,_,rfl,st,_,_,_,rfl,rfl,SqT.of (t5 _ _ hst4),at4,_,_,rfl,rfl,bZ (by omega),?_⟩;refine hDL _ _ ⟨bt.trans ((But2.of b4).trans (But2.of' b5)),al ol u.n ⟨u.u,u.pl,u.tx,false,none,false⟩,sg++u.tx,_,O5,V5,?_,by rw[iA];omega,by rw[cA fr,zt,lo];rfl,fun y hy=>?_,rfl⟩
  ·have:=iv.put (pl:=u.pl) (tx:=u.tx) (show 1+(i:Int)<=u.n.2 by omega) (fun y hy=>hin y (u2 y hy)) u3;exact this.mono (by omega)
  ·rw[fc hu,zV]at hy;rw[ai];split
   ·rfl
   ·rename_i ne;rcases z9.mp hy with hy|hy
    ·exact hin y hy
    ·exact absurd (List.mem_singleton.mp hy) ne
 rintro σ H4 ⟨bt,ol0,sg,o4,O4,V4,iv4,lsg,lo4,_,rfl⟩;refine hRR _ _ ?_;clear hRR RR;rw[ls]at iv4 lsg lo4;have ls360:sg.length<=360:=by omega
 have iv0:Iv ol0 sg 10:=iv4.mono (by omega);have ne0:ol0≠[]:=fun z=>by rw[z]at lo4;simp at lo4;omega
 have lo0:ol0.length<=6:=by omega
 clear iv4 lsg;have bS:∀b o,H b=some o->H4 b=some o:=fun b o e=>bt b o (s3 _ _ (s02 _ _ e)) (aq e hd0) (aq e hm0);have S4:SqL K H4 a (sc.map V.int):=Same.seq bS hS;obtain⟨cs,ecs,lcs⟩:=sZ hlen;refine aF fun RR hRR=>?_;refine⟨_,rfl,_,rfl,_,rfl,a,_,rfl,S4,fun p0 g0=>?_⟩;rw[ecs];have w0:=ah g0 (.lst (cs.map V.int));have e0:upd H4 p0 (.lst (cs.map V.int)) p0=some (.lst (cs.map V.int)):=ae;have O5:=O4.same w0;have V5:=V4.same w0;generalize upd H4 p0 (.lst (cs.map V.int))=H5 at w0 e0 O5 V5 ⊢;obtain⟨kd5,hd5⟩:∃kv,H5 d=some (.dT kv):=by obtain⟨kv,S,_⟩:=id O5;exact⟨kv,S.dc⟩
 obtain⟨km5,hm5,_⟩:=id V5;have np0d:p0≠d:=fun z=>by rw[z,hd5]at e0;cases e0
 have np0m:p0≠mm:=fun z=>by rw[z,hm5]at e0;cases e0
 refine⟨p0,_,rfl,e0,?_⟩;refine nq (i:=5) (j:=6) (fun k σ H'=>But2 d mm H5 H'/\Lw C x d g mm sg k H'/\∃o4 o5 o6 o7 o8 o9 o10:Option V,σ=[some (.ref a),some (.ref x),some (.ref mm),some (.str sg),o4,o5,o6,o7,o8,o9,o10,none])
  ⟨fun b o h _ _=>h,⟨ol0,O5,V5,by simpa using iv0,ne0,lo0⟩,_,_,_,_,_,_,_,rfl⟩ (fun i σ H' _ z=>SqL.of (z.1 _ _ e0 np0d np0m)) ?_ ?_
 ·rintro k v σ H' hv ⟨bt5,⟨ol,O,V0,iv,ne,lo⟩,o4,o5,o6,o7,o8,o9,o10,rfl⟩ DL hDL T gT;have hk40:k<40:=by have:=(zT.mp hv).1;rw[zr]at this;omega
  obtain⟨c,rfl⟩:∃c,v=.int c:=by rw[Zz]at hv;obtain⟨c,_,e⟩:=ZC.mp hv;exact⟨c,e.symm⟩
  have wT:=ah gT (.tup [.int (k:Int),.int c]);have O1:=O.same wT;have V1:=V0.same wT;generalize upd H' T (.tup [.int (k:Int),.int c])=G0 at wT O1 V1 ⊢;have B0:But2 d mm H5 G0:=bt5.trans (But2.of (But.of wT));clear wT bt5 O V0;obtain⟨kvs,hmm,R⟩:=id V1;refine aF fun RR hRR=>?_;refine⟨_,rfl,mm,kvs,rfl,.inl hmm,fun l ks gl hk=>hRR _ _ ?_⟩;clear hRR RR;have wl:=ah gl (.lst ks);have el:upd G0 l (.lst ks) l=some (.lst ks):=ae;have nat:NmsAt (upd G0 l (.lst ks)) ks (ol.map (·.1)):=(eK R hk).ts (Same.ts wl);have O2:=O1.same wl;have V2:=V1.same wl;have B1:But2 d mm H5 (upd G0 l (.lst ks)):=B0.trans (But2.of (But.of wl));generalize upd G0 l (.lst ks)=G at el nat O2 V2 B1 ⊢;clear wl B0 O1 V1 hmm R hk gl;obtain⟨kvs,hmm,R⟩:=id V2;have nne:ol.map (·.1)≠[]:=fun z=>ne (List.map_eq_nil_iff.mp z);obtain⟨nv,n,ea,hn,hnm,hl0⟩:=mn nat (c / 4) nne;obtain⟨ov,o,ea2,ho,hom,_⟩:=mn nat (c%1000003*48271%9973) nne;obtain⟨it,hl⟩:=Iv.mem hnm;obtain⟨ito,hlo⟩:=Iv.mem hom;have c0:=ZH c (show(1000003:Int)≠0 by decide);have c1:=Zw c (show(0:Int)<1000003 by decide);refine aF fun RR hRR=>?_;refine⟨_,rfl,_,rfl,_,_,rfl,rfl,⟨by decide,by decide⟩,_,rfl,l,_,rfl,.inl (SqL.of el),_,_,rfl,rfl,hl0,l,_,_,_,rfl,rfl,SqL.of el,ea,hRR _ _ ?_⟩;clear hRR RR;refine aF fun RR hRR=>?_;refine⟨_,rfl,_,rfl,_,_,rfl,rfl,(by show(0:Int)<1000003;decide),_,_,rfl,rfl,.inl ⟨by omega,by omega⟩,_,_,rfl,rfl,(by show(0:Int)<9973;decide),_,rfl,l,_,rfl,.inl (SqL.of el),_,_,rfl,rfl,hl0,l,_,_,_,rfl,rfl,SqL.of el,ea2,hRR _ _ ?_⟩;clear hRR RR c0 c1 ea ea2;obtain⟨nb,rfl,hnb⟩:=id hn;obtain⟨ob,rfl,hob⟩:=id ho;obtain⟨iv1,e1,ia,uv,pv,rfl,e2,e3,e4⟩:=am R hl;refine aF fun RR hRR=>?_;refine⟨_,rfl,_,rfl,mm,.ref ia,rfl,e1▸DGet.t (k:=nk n) hmm hnb,ia,_,_,_,rfl,rfl,SqT.of e2,at2,hRR _ _ ?_⟩;clear hRR RR e1 e2 e3 e4;have ln:=iv.len hl;have lno:=iv.len hlo;refine aF fun RR hRR=>?_;refine jQ (fun σ2 H2=>But2 d mm H5 H2/\Lw C x d g mm sg (k+1) H2/\∃o4 o5 o6 o7 o8 o9 o10:Option V,σ2=[some (.ref a),some (.ref x),some (.ref mm),some (.str sg),o4,o5,o6,o7,o8,o9,o10,none]) (fun RJ hRJ=>?_) ?_
  ·obtain⟨kk,cc⟩:=iv.ter n it hl;obtain⟨ku,bb,un⟩:=oU cc o;refine⟨_,rfl,_,_,rfl,rfl,(by show(0:Int)<4;decide),_,_,rfl,rfl,_,rfl,?_⟩;by_cases hc:c%4<2\/bb=true
   ·refine wV (fun hA=>fX (fun _=>cR hA) fun hc2=>⟨_,rfl,_,rfl,_,rfl,mm,ol,.ref nb,.ref ob,some n,o,ku,bb,rfl,V2,hn,ho,un,_,rfl,by rw[hc.resolve_left hc2];exact cR hA⟩) ?_;refine aF fun RP hRP=>?_;refine⟨_,rfl,_,rfl,_,rfl,_,rfl,_,_,rfl,rfl,⟨by decide,by decide⟩,_,rfl,_,_,rfl,rfl,(by show(0:Int)<2;decide),_,_,rfl,rfl,_,rfl,_,_,rfl,rfl,sz rfl,fun nt gnt=>?_⟩;have wn:=ah gnt (.tup [.int (7-(k:Int)%2),.int (10+(k:Int))]);have hnt:NameIs (upd G nt (.tup [.int (7-(k:Int)%2),.int (10+(k:Int))])) (.ref nt) (nk (7-(k:Int)%2,10+(k:Int))):=⟨nt,rfl,ae⟩
    generalize upd G nt (.tup [.int (7-(k:Int)%2),.int (10+(k:Int))])=G1 at wn hnt ⊢;have hm2:(10+(k:Int))<=((7-(k:Int)%2,10+(k:Int)):Nm).2:=Int.le_refl _;have fr:=iv.fresh hm2;refine⟨x,d,g,mm,ol,.ref nb,.ref nt,n,_,_,it,rfl,O2.same wn,V2.same wn,nmd,nmg,hn.same wn,hnt,hl,fr,by omega,iv.ok n it hl,by omega,fun aa pl G2 ha b2 O3 V3=>⟨_,rfl,aO (hRP _ _ ?_)⟩⟩;clear hRP RP;have iv3:=iv.part (pl:=pl) hl ha hm2;have pl3:=qg (a:=aa) (pl:=pl) hl fr;obtain⟨kd,hkd⟩:∃kv,G d=some (.dT kv):=by obtain⟨kv,S,_⟩:=id O2;exact⟨kv,S.dc⟩
    have t2:TS G G2:=fun b zs e=>b2.ts (wn _ _ hkd) (wn _ _ hmm) _ _ (wn _ _ e);have B2:But2 d mm H5 G2:=B1.trans ((But2.of (But.of wn)).trans b2);refine⟨_,rfl,_,_,rfl,rfl,(by show(0:Int)<4;decide),rfl,_,rfl,fX (fun _=>?_) (fun _=>?_)⟩
    ·refine⟨_,rfl,_,rfl,_,rfl,_,rfl,_,_,rfl,rfl,(by show(0:Int)<2;decide),_,_,rfl,rfl,_,rfl,_,_,rfl,rfl,sz rfl,fun nu gnu=>?_⟩;have wu:=ah gnu (.tup [.int (7-(k:Int)%2),.int (10+(k:Int))]);have hnu:NameIs (upd G2 nu (.tup [.int (7-(k:Int)%2),.int (10+(k:Int))])) (.ref nu) (nk (7-(k:Int)%2,10+(k:Int))):=⟨nu,rfl,ae⟩
     generalize upd G2 nu (.tup [.int (7-(k:Int)%2),.int (10+(k:Int))])=G3 at wu hnu ⊢;have nm:n≠(7-(k:Int)%2,10+(k:Int)):=fun z=>by rw[z,fr]at hl;cases hl
     have k1:look (aU ol n (7-(k:Int)%2,10+(k:Int)) it aa pl) n=some { it with tx:=aw it.tx none (some (aa:Int)) }:=by unfold aU;rw[ai,if_neg nm,ai,if_pos rfl]
     have k2:look (aU ol n (7-(k:Int)%2,10+(k:Int)) it aa pl) (7-(k:Int)%2,10+(k:Int))=some ⟨it.up,pl,aw it.tx (some (aa:Int)) none,false,none,false⟩:=by unfold aU;rw[ai,if_pos rfl]
     obtain⟨ku2,un2⟩:=iv.und_new (pl:=pl) hl ha hm2;have l1:=iv3.len k1;have l2:=iv3.len k2;have nb3:NameIs G3 (.ref nb) (nk n):=(hn.ts' t2).same wu;refine⟨x,d,g,mm,_,.ref nb,.ref nu,n,_,_,_,ku2,rfl,O3.same wu,V3.same wu,nmd,nmg,nb3,hnu,k1,k2,un2,iv3.nd,zS l1 (by omega),zS l2 (by omega),iv3.ok,by omega,fun G4 ol4 b4 O4 V4 jr=>⟨_,rfl,aO ?_⟩⟩;obtain⟨ej,iv4⟩:=iv3.join k1 k2 un2 jr;obtain⟨_,j1⟩:=df k1 k2 jr;obtain⟨i4,k4,_,x4⟩:=j1 n _ k1;rw[if_neg nm,if_pos rfl]at x4;have x5:(aE n (7-(k:Int)%2,10+(k:Int)) i4).tx=it.tx:=by rw[dH,x4];exact jI it.tx ha
     obtain⟨kvsA,SA,RA⟩:=id O4;obtain⟨⟨dxA,y1⟩,y2,y3,y4⟩:=id SA;obtain⟨vA,z1,iaA,uvA,pvA,rfl,z2,z3,z4⟩:=am RA k4;rw[x5]at z2;have t4:TS G3 G4:=by obtain⟨kv,S,_⟩:=O3.same wu;obtain⟨kv',h',_⟩:=V3.same wu;exact b4.ts S.dc h'
     refine⟨_,rfl,x,dxA,_,rfl,y1,bj _ _,_,rfl,x,d,g,kvsA,[],.ref nb,.ref iaA,nk n,rfl,SA,nb3.ts' t4,z1,iaA,_,_,_,rfl,rfl,SqT.of z2,at2,_,rfl,rfl,_,rfl,fw rfl (hRJ _ _ ⟨B2.trans ((But2.of (But.of wu)).trans b4),⟨ol4,O4,V4,iv4.mono (by show(10+(k:Int))+1<=_;omega),?_,?_⟩,_,_,_,_,_,_,_,rfl⟩)⟩
     ·intro z;rw[z]at k4;cases k4
     ·rw[jr.len];omega
    ·refine hRJ _ _ ⟨B2,⟨_,O3,V3,iv3.mono (by show(10+(k:Int))+1<=_;omega),?_,by omega⟩,_,_,_,_,_,_,_,rfl⟩;intro z;rw[z]at pl3;simp at pl3
   ·have h1:¬c%4<2:=fun z=>hc (.inl z);have h2:bb=false:=by
     cases bb with
     |false=>rfl
     |true=>exact absurd (.inr rfl) hc
    subst h2;refine qS h1 ⟨_,rfl,_,rfl,_,rfl,mm,ol,.ref nb,.ref ob,some n,o,ku,false,rfl,V2,hn,ho,un,_,rfl,aO ?_⟩;refine⟨_,rfl,_,rfl,_,rfl,_,rfl,x,d,g,mm,ol,.ref nb,.ref ob,n,o,it,ito,ku,rfl,O2,V2,nmd,nmg,hn,ho,hl,hlo,un,iv.nd,by omega,by omega,iv.ok,by omega,fun G4 ol4 b4 O4 V4 jr=>⟨_,rfl,aO ?_⟩⟩;obtain⟨ej,iv4⟩:=iv.join hl hlo un jr;refine hRJ _ _ ⟨B1.trans b4,⟨ol4,O4,V4,iv4.mono (by omega),?_,by rw[jr.len];omega⟩,_,_,_,_,_,_,_,rfl⟩;intro z;have:=jr.len;rw[z]at this;exact ne (List.length_eq_zero_iff.mp this.symm)
  ·rintro σ2 G5 ⟨B5,⟨ol5,O5',V5',iv5,ne5,lo5⟩,o4',o5',o6',o7',o8',o9',o10',rfl⟩;refine hRR _ _ ?_;clear hRR RR;refine⟨_,rfl,_,rfl,x,d,g,mm,ol5,rfl,O5',V5',nmd,nmg,iv5.nd,iv5.ok,by omega,fun G6 s6=>⟨_,rfl,aO (hDL _ _ ⟨B5.trans (But2.of (But.of s6)),⟨ol5,O5'.same s6,V5'.same s6,iv5,ne5,lo5⟩,_,_,_,_,_,_,_,rfl⟩)⟩⟩
 rintro σ H6 ⟨bt6,⟨ol,O6,V6,iv,ne,lo⟩,o4',o5,o6,o7,o8,o9,o10,rfl⟩;refine hRR _ _ ?_;clear hRR RR;rw[zr]at lo;obtain⟨kv6,S6,R6⟩:=id O6;obtain⟨⟨dx6,h1⟩,h2,h3,h4⟩:=id S6;refine aF fun RR hRR=>?_;refine⟨rfl,?_⟩;refine⟨_,rfl,x,dx6,_,rfl,h1,bj _ _,x,d,g,kv6,[],rfl,S6,fun l ks gl hk=>⟨l,rfl,⟨_,SqL.of ae⟩,?_⟩⟩;have wl:=ah gl (.lst ks);have el:upd H6 l (.lst ks) l=some (.lst ks):=ae;have nat:NmsAt (upd H6 l (.lst ks)) ks (ol.map (·.1)):=(eK R6 hk).ts (Same.ts wl);have O7:=O6.same wl;generalize upd H6 l (.lst ks)=H7 at el nat O7 ⊢;obtain⟨kv7,S7,R7⟩:=id O7;obtain⟨⟨dx7,y1⟩,y2,y3,y4⟩:=id S7;have lks:ks.length=ol.length:=by rw[Zn nat,zr]
 refine mT (fun i=>.str ((ol[i]?.map fun p=>p.2.tx).getD "")) (by omega) (SqL.of el) (fun i v H8 hv s8 Y hY=>?_) (fun l2 H8 s8 g8=>?_)
 ·obtain⟨c,hc,hvc⟩:=cw nat hv;obtain⟨⟨c',it⟩,hi7,hcc⟩:∃x,ol[i]?=some x/\x.1=c:=by rw[Zz]at hc;exact ZC.mp hc
  obtain rfl:c'=c:=hcc;have hlk:=fB iv.nd (List.mem_of_getElem? hi7);obtain⟨v1,z1,ia,uv,pv,rfl,z2,z3,z4⟩:=am R7 hlk;have hY':=hY H8 (Same.refl _);rw[hi7]at hY';exact⟨_,rfl,x,dx7,_,rfl,s8 _ _ y1,bj _ _,_,rfl,x,d,g,kv7,[],v,.ref ia,nk c',rfl,S7.same s8,hvc.same s8,z1,ia,_,_,_,rfl,rfl,SqT.of (s8 _ _ z2),at2,hY'⟩
 have em:((List.range ks.length).map fun i=>V.str ((ol[i]?.map fun p=>p.2.tx).getD ""))=(ol.map fun p=>p.2.tx).map V.str:=by rw[lks,List.map_map];refine List.ext_getElem (by simp) fun i h1 h2=>?_;rw[zr]at h2;simp[h2]
 rw[em];have ej:Txt.join "" (ol.map fun p=>p.2.tx)=Str.join "" (ol.map fun p=>p.2.tx):=StrLaws.glued_eq_join _ _;have gj:∀gg,Addt gg->gg (Str.join "" (ol.map fun p=>p.2.tx))=gg sg:=fun gg ad=>by rw[jL ad,<-iv.wt gg ad,List.map_map];rfl
 have lj:=gj _ ie;refine⟨"",l2,ol.map fun p=>p.2.tx,rfl,rfl,SqL.of ae,?_,?_⟩
 ·have e0:("":Str).length=0:=by decide +kernel
  have:=jL ie (ol.map fun p=>p.2.tx);rw[e0];have:((ol.map fun p=>p.2.tx).map fun s=>s.length).sum=sg.length:=this.symm.trans lj;have e2:((ol.map fun p=>p.2.tx).map (·.length)).sum=sg.length:=this;omega
 rw[ej];have pj:(Str.join "" (ol.map fun p=>p.2.tx)).cps.toList.Perm sg.cps.toList:=List.perm_iff_count.mpr fun c=>gj _ (rA c);generalize Str.join "" (ol.map fun p=>p.2.tx)=left at lj pj ⊢;refine hRR _ _ ?_;clear hRR RR;generalize upd H8 l2 (.lst ((ol.map fun p=>p.2.tx).map V.str))=H9;refine⟨_,rfl,_,_,_,_,rfl,.str left,rK,_,rfl,cR ?_⟩;have sz:left.cps.size<=4096:=by show left.length<=4096;omega
 have sz2:sg.cps.size<=4096:=by show sg.length<=4096;omega
 refine⟨_,rfl,left,rfl,sz,fun ds D p1 p2 gD=>?_⟩;have wD:=ah gD (.lst (ds.map chV));have eD:upd H9 D (.lst (ds.map chV)) D=some (.lst (ds.map chV)):=ae;generalize upd H9 D (.lst (ds.map chV))=H10 at eD ⊢;refine⟨_,rfl,sg,rfl,sz2,fun ds2 D2 q1 q2 gD2=>?_⟩;obtain rfl:ds=ds2:=iS (p1.trans (pj.trans q1.symm)) p2 q2;have ok:∀c∈ds,c<0x110000:=fun c hc=>gZ.mp iv.sk c (q1.mem_iff.mp hc);obtain⟨c1,c2,c3⟩:=nh (ah gD2 (.lst (ds.map chV)) _ _ eD) ok;obtain⟨c4,_,_⟩:=nh (ae (H:=H10) (a:=D2) (o:=.lst (ds.map chV))) ok;refine⟨_,_,c1,c4,c2,c2,?_⟩;rw[c3];exact hq _
end
def jE:Nat->(List Value->Prop)->Prop
 |0,p=>p []
 |n+1,p=>∀a,jE n fun us=>p (a::us)
theorem fi:∀{n:Nat} {p:List Value->Prop},jE n p->∀us:List Value,us.length=n->p us
 |0,_,h,[],_=>h
 |_+1,_,h,a::us,e=>fi (h a) us (Nat.succ.inj e)
section
variable{P:Program}{w:World}{K:PySem.W.Frag}{mg:Str->Option Value}{base h:Heap}{n m x q:Str}{st:Stmt}{C f:Addr}{k:Nat}{ps:List Str}{sp:Sp}{bm:List Value}
structure Bx(P:Program)(w:World)(K:PySem.W.Frag)(mg:Str->Option Value)(base h:Heap):Prop where
 X:K.In h
 G:h.Ns mainGlobals mg
def A1(K:PySem.W.Frag)(n:Str)(st:Stmt)(f:Addr):Prop:=PySem.W.nsIn K mainGlobals n=some (some (.ref f))/\∃fd,Fun K n n st f fd
def A2(K:PySem.W.Frag)(C:Addr)(m q:Str)(st:Stmt)(f:Addr):Prop:=PySem.W.findIn K (.ref C) m=some (some (.ref f))/\PySem.W.isFn K (.ref f)=true/\∃fd,Fun K m q st f fd
def AF(K:PySem.W.Frag):List (Str×Stmt×Addr)->Prop
 | []=>True
 |(n,st,f)::l=>A1 K n st f/\AF K l
def AM(K:PySem.W.Frag):List (Addr×Str×Str×Stmt×Addr)->Prop
 | []=>True
 |(C,m,q,st,f)::l=>A2 K C m q st f/\AM K l
def AN(p:Str->Prop):List Str->Prop
 | []=>True
 |n::l=>p n/\AN p l
theorem anI{p p':Str->Prop}(i:∀{n},p n->p' n):∀{l:List Str},AN p l->AN p' l
 | [],_=>True.intro
 |_::_,h=>⟨i h.1,anI i h.2⟩
theorem gf{l:List (Str×Stmt×Addr)}{oc kV dc pm cd ct:Value}{od an:Option Addr}{sl:Array (Option Value)}(a:PySem.W.nsIn K mainGlobals n=some (some (.ref f)))(b:K.lookup f=some ⟨oc,od,.func (PySem.W.fnOf n n (bG st) (bo st) (ak st) .none kV dc pm an cd ct),sl⟩)(c:PySem.W.codeIn K cd n=true)(d:PySem.W.keepIn K (.ref f)=true)(r:AF K l):AF K ((n,st,f)::l):=⟨⟨a,_,nz b c d⟩,r⟩
theorem gm{l:List (Addr×Str×Str×Stmt×Addr)}{oc kV dc pm cd ct:Value}{od an:Option Addr}{sl:Array (Option Value)}(a:PySem.W.findIn K (.ref C) m=some (some (.ref f)))(i:PySem.W.isFn K (.ref f)=true)(b:K.lookup f=some ⟨oc,od,.func (PySem.W.fnOf m q (bG st) (bo st) (ak st) .none kV dc pm an cd ct),sl⟩)(c:PySem.W.codeIn K cd q=true)(d:PySem.W.keepIn K (.ref f)=true)(r:AM K l):AM K ((C,m,q,st,f)::l):=⟨⟨a,i,_,nz b c d⟩,r⟩
theorem gn{l:List Str}(a:PySem.W.nsIn K mainGlobals n=some none)(r:AN (fun n=>PySem.W.nsIn K mainGlobals n=some none) l):AN (fun n=>PySem.W.nsIn K mainGlobals n=some none) (n::l):=⟨a,r⟩
theorem mkF(B:Bx P w K mg base h)(A:A1 K n st f)(ok:∀{fd},Fun K n n st f fd->FnOk P w K mg base CX0 k f fd ps sp)(hb:∀(kV doc pm:Value) (an:Option Addr) (cdv ct:Value),jE ps.length fun us=>bindArgs (PySem.W.fnOf n n (bG st) (bo st) (ak st) .none kV doc pm an cdv ct) ⟨us,[]⟩=pure (ps.zip us):=by(repeat intro _);rfl):Fn P w K mg base k n ps sp:=by obtain⟨a,fd,F⟩:=A;exact⟨f,fd,ok F,PySem.W.mg_of B.X B.G a,F.kp,F.binds fun a b c d e g=>fi (hb a b c d e g)⟩
theorem mkM(B:Bx P w K mg base h)(L:Cls K C)(A:A2 K C m q st f)(ok:∀{fd},Fun K m q st f fd->FnOk P w K mg base CX0 k f fd ps sp)(hb:∀(kV doc pm:Value) (an:Option Addr) (cdv ct:Value),jE ps.length fun us=>bindArgs (PySem.W.fnOf m q (bG st) (bo st) (ak st) .none kV doc pm an cdv ct) ⟨us,[]⟩=pure (ps.zip us):=by(repeat intro _);rfl):MFn P w K mg base k C m ps sp:=by obtain⟨a,i,fd,F⟩:=A;exact⟨L,f,fd,ok F,⟨a,i,F.kp⟩,F.binds fun a b c d e g=>fi (hb a b c d e g)⟩
theorem mkC(B:Bx P w K mg base h)(L:Cls K C)(g:mg x=some (.ref C))(mk:PySem.W.makesIn K C=true)(kc:PySem.W.keepIn K (.ref C)=true)(A:A2 K C "__init__" q st f)(ok:∀{fd},Fun K "__init__" q st f fd->FnOk P w K mg base CX0 k f fd ps sp)(hb:∀(kV doc pm:Value) (an:Option Addr) (cdv ct:Value),jE ps.length fun us=>bindArgs (PySem.W.fnOf "__init__" q (bG st) (bo st) (ak st) .none kV doc pm an cdv ct) ⟨us,[]⟩=pure (ps.zip us):=by(repeat intro _);rfl):MkFn P w K mg base k C x ps sp:=by obtain⟨a,i,fd,F⟩:=A;exact⟨L,g,f,fd,ok F,⟨mk,a,i,kc⟩,F.binds fun a b c d e g=>fi (hb a b c d e g)⟩
end
theorem sW{l:PySem.W.OpenLaw}{w:World}{K:PySem.W.Frag}{h:Heap}{mg:Str->Option Value}{fa f1 f2 f3 f4 f5 f6 f7 f8 f9 m1 m2 m3 m4 m5 m6 m7 m8 m9 m10 m11:Addr}{C_Plain:Addr}(X:K.In h)(G:h.Ns mainGlobals mg)(hfa:mg "law" = some (.ref fa)){tk_TEXT:Tok}{tk_UP:Tok}{ad_STEP_PARTS:Addr}(h_Plain:PySem.W.nsIn K mainGlobals "Plain" = some (some (.ref C_Plain)))(pg_Plain:PySem.W.plainGet K C_Plain Str.empty=true)(hd_Plain:PySem.W.hasDictIn K C_Plain=true)(po_Plain:PySem.W.plainOver K C_Plain=true)(sa_Plain:PySem.W.findIn K (.ref C_Plain) "__setattr__" = some (some (.builtin "object.__setattr__")))(mk_Plain:PySem.W.makesIn K C_Plain=true)(kc_Plain:PySem.W.keepIn K (.ref C_Plain)=true)(n_Plain_held:PySem.W.findIn K (.ref C_Plain) "held" = some none)(n_Plain_away:PySem.W.findIn K (.ref C_Plain) "away" = some none)(zF:AF K (("step_parts",cV,f1)::("_law_cell_at",eU,f2)::("_law_text",kn,f3)::("_law_started",eV,f4)::("_law_is_in",iD,f5)::("_law_parted",gw,f6)::("_law_joined",gv,f7)::("_law_all_as",gr,f8)::("law",fG,f9)::[]))(zM:AM K ((C_Plain,"__init__","Plain.__init__",cS,m1)::(C_Plain,"item","Plain.item",cT,m2)::(C_Plain,"names","Plain.names",cM,m3)::(C_Plain,"bring_in","Plain.bring_in",cg,m4)::(C_Plain,"change","Plain.change",cz,m5)::(C_Plain,"check_names","Plain.check_names",bK,m6)::(C_Plain,"at_or_beneath","Plain.at_or_beneath",br,m7)::(C_Plain,"check_bounds","Plain.check_bounds",bA,m8)::(C_Plain,"part_item","Plain.part_item",bW,m9)::(C_Plain,"join_items","Plain.join_items",bR,m10)::(C_Plain,"step","Plain.step",cU,m11)::[]))(zN:AN (fun n=>PySem.W.nsIn K mainGlobals n=some none) ("len"::"list"::"zip"::"range"::"isinstance"::"str"::"max"::"enumerate"::"sorted"::[]))(h_TEXT:PySem.W.nsIn K mainGlobals "TEXT" = some (some (.int 2 tk_TEXT)))(h_UP:PySem.W.nsIn K mainGlobals "UP" = some (some (.int 0 tk_UP)))(h_STEP_PARTS:PySem.W.nsIn K mainGlobals "STEP_PARTS" = some (some (.ref ad_STEP_PARTS)))(t_STEP_PARTS:PyProof.Rows.KTD.tabLook (hW K) (fun b=>K.lookup b) ad_STEP_PARTS ST=true)
  :∃fd:FuncData,(∀(s:Shared) (v:Value),BindsTo s fd ⟨[v],[]⟩ [("_law_script",v)])/\∀base:Heap,K.In base->base.Ns mainGlobals mg->FnOk l.prog w K mg base CX0 5 fa fd ["_law_script"] (jo K):=by
 obtain⟨Af1,Af2,Af3,Af4,Af5,Af6,Af7,Af8,⟨a0,_,F0⟩,_⟩:=zF;obtain⟨Am1,Am2,Am3,Am4,Am5,Am6,Am7,Am8,Am9,Am10,Am11,_⟩:=zM;obtain⟨z_len,z_list,z_zip,z_range,z_isinstance,z_str,z_max,z_enumerate,z_sorted,_⟩:=anI (p':=fun n=>mg n=none) (fun z=>PySem.W.mg_none_of X G z) zN;have e:=hfa.symm.trans (PySem.W.mg_of X G a0);cases e;obtain⟨oc,od,kV,dc,pm,an,cd,ct,sl,rfl,l0,c0⟩:=id F0.ex;have g_TEXT:=PySem.W.mg_of X G h_TEXT;have g_UP:=PySem.W.mg_of X G h_UP;have g_STEP_PARTS:=PySem.W.mg_of X G h_STEP_PARTS;have g_Plain:=PySem.W.mg_of X G h_Plain;have L_Plain:Cls K C_Plain:=⟨pg_Plain,hd_Plain,po_Plain,sa_Plain⟩
 have X_Plain:Txt K C_Plain:=⟨L_Plain,n_Plain_held,n_Plain_away⟩
 have T_STEP_PARTS:Tab K ad_STEP_PARTS ST:=⟨t_STEP_PARTS⟩
 refine⟨PySem.W.fnOf "law" "law" (bG fG) (bo fG) (ak fG) .none kV dc pm an cd ct,fun s v=>.of_eq rfl,fun base _ _=>?_⟩;have B:Bx l.prog w K mg base h:=⟨X,G⟩
 have F_step_parts:=mkF B Af1 fun F=>je F g_STEP_PARTS T_STEP_PARTS;have Mk_Plain:=mkC B L_Plain g_Plain mk_Plain kc_Plain Am1 fun F=>jb F X_Plain;have M_item:=mkM B L_Plain Am2 fun F=>jc F X_Plain;have M_names:=mkM B L_Plain Am3 fun F=>iB F X_Plain z_list;have M_bring_in:=mkM B L_Plain Am4 fun F=>fM F X_Plain;have M_change:=mkM B L_Plain Am5 fun F=>gW F X_Plain z_len;have M_check_names:=mkM B L_Plain Am6 fun F=>dY F X_Plain F_step_parts z_zip;have M_at_or_beneath:=mkM B L_Plain Am7 fun F=>du F X_Plain g_UP;have M_check_bounds:=mkM B L_Plain Am8 fun F=>dG F X_Plain M_at_or_beneath g_TEXT z_len;have M_part_item:=mkM B L_Plain Am9 fun F=>eP F X_Plain M_change M_bring_in g_TEXT g_UP z_max;have M_join_items:=mkM B L_Plain Am10 fun F=>eI F X_Plain M_change g_TEXT g_UP z_list;have M_step:=mkM B L_Plain Am11 fun F=>jd F M_check_names M_check_bounds M_bring_in M_part_item M_join_items;have F_cell_at:=mkF B Af2 fun F=>mt F z_len;have F_text:=mkF B Af3 fun F=>rR F z_range;have F_started:=mkF B Af4 fun F=>mw F F_cell_at F_text z_range z_len;have F_is_in:=mkF B Af5 fun F=>qd F;have F_parted:=mkF B Af6 fun F=>og F M_step M_item z_len;have F_joined:=mkF B Af7 fun F=>nZ F M_step M_item z_list;have F_all_as:=mkF B Af8 fun F=>nV F M_names M_item z_list;exact ud F0 F_cell_at F_started F_is_in F_parted F_joined F_all_as Mk_Plain M_step M_item M_names z_list z_len z_enumerate z_isinstance z_str z_sorted
theorem xa{l:PySem.W.OpenLaw}{q:Program}{loose:List Str}{XP:(Str->Option Value)->Heap->Prop}{YP:World->Heap->Prop}{d:DefRec}{K:Params->PySem.W.Frag}(hn:l.most=some 63)(hdf:d.params.defaults=[])(hY:∀ (w:World) (h:Heap),YP w h->(K w.params).In h)(F:∀ (w:World) (mg:Str->Option Value) (fa:Addr) (h:Heap),(K w.params).In h->h.Ns mainGlobals mg->mg d.name=some (.ref fa) ->
   ∃ fd:FuncData,(∀ (s:Shared) (u:Value),BindsTo s fd ⟨[u],[]⟩ [("_law_script",u)])/\∀ base:Heap,(K w.params).In base->base.Ns mainGlobals mg->FnOk l.prog w (K w.params) mg base CX0 5 fa fd ["_law_script"] (jo (K w.params))) :
  PySem.W.WalkO q loose XP YP l.row.toRowW d [] (fun f vs=>PySem.call f vs) :=
 L2.sM (n:=63) (k:=5) (x:="_law_script") (CX:=fun _=>CX0) (sp:=fun w=>jo (K w.params)) hn (by decide) hdf ⟨rfl,by decide,by decide⟩ hY F (fun _ _ a ns hl _ hS=>⟨a,ns,rfl,hS,hl,fun _=>rfl⟩) fun _ _ _ _ _ z=>z
end K26
namespace PySem.W.Fast
def tw16855000333267304510:=()
def tw6228433333899834794:=()
def tw15478611561225813255:=()
def tw12321016813560200141:=()
def tw10263748920315469359:=()
def tw8272780575571153727:=()
def tw4767735514686389979:=()
def tw8983253402199009158:=()
def tw7919390703968174464:=()
def tw10610648499630306642:=()
def tw15110207324480243929:=()
def tw10939346285921392492:=()
def tw3350362809966401453:=()
def tw9756462549706051655:=()
def tw16440634277521982765:=()
def tw4010337522445825871:=()
def tw3297242101102671315:=()
def tw4557533251312851577:=()
def tw539249441205448040:=()
def tw12821634880334046537:=()
def tw2042877910734077749:=()
def tw18111610875652188677:=()
def tw5119399803394754003:=()
def tw1347716312944494013:=()
def tw5380746189320219576:=()
def tw9079603255922621996:=()
def tw12804569193346398286:=()
def tw12876351950808224865:=()
def tw9212167114547975817:=()
def tw12069189639706144192:=()
def tw15888450904574872162:=()
def tw10132391635029377616:=()
def tw17107980358339044139:=()
def tw16320168043086365983:=()
def tw13589231462271413743:=()
def tw15299457778469900297:=()
def tw8304737941600358188:=()
def tw13071107372885085535:=()
def tw16300121360496255141:=()
def tw612882801818668299:=()
end PySem.W.Fast
open PySem PySem.W PyProof.Rows
set_option maxRecDepth 100000 in
set_option maxHeartbeats 0 in
theorem PySem.Challenge.cw_limb_k26_no_sign_is_lost_holds : PySem.Challenge.rw_limb_k26_no_sign_is_lost.Holds := by
  w_on; o_law; k_head; (case hw => w_witness2)
  k_fill
  refine K26.xa (l := PySem.Challenge.rw_limb_k26_no_sign_is_lost) rfl rfl (fun w h Y => PySem.W.kIn_of Y) ?F
  case F =>
    intro w mg fa h KX G hmg
    refine' K26.sW KX G hmg ?h_Plain ?pg_Plain ?hd_Plain ?po_Plain ?sa_Plain ?mk_Plain ?kc_Plain ?n_Plain_held ?n_Plain_away ?zF ?zM ?zN ?h_TEXT ?h_UP ?h_STEP_PARTS ?t_STEP_PARTS
    (case h_Plain => k_is)
    (case pg_Plain => k_is)
    (case hd_Plain => k_is)
    (case po_Plain => k_is)
    (case sa_Plain => k_is)
    (case mk_Plain => k_is)
    (case kc_Plain => k_is)
    (case n_Plain_held => k_is)
    (case n_Plain_away => k_is)
    (case zF => (repeat refine K26.gf (by k_is) (by k_is) (by k_is) (by k_is) ?_); exact True.intro)
    (case zM => (repeat refine K26.gm (by k_is) (by k_is) (by k_is) (by k_is) (by k_is) ?_); exact True.intro)
    (case zN => (repeat refine K26.gn (by k_is) ?_); exact True.intro)
    (case h_TEXT => k_is)
    (case h_UP => k_is)
    (case h_STEP_PARTS => k_is)
    (case t_STEP_PARTS => rfl)
