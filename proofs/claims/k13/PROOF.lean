import PyProof.Rows.All
import Wide.All
import OpenK.AllK
import Wide.FinOn
import PyProof.EqAt
import PyProof.EqKinds
import PyProof.TupleCall
import Lean
import PySem.Challenge.RW_limb_k13_a_deed_read
def BK:=@if_pos
def BJ:=@if_neg
def z6:=@List.length_map
def z9:=@PySem.wpAny_bind
def Za:=@List.getElem?_eq_getElem
def Zb:=@PySem.Heap.get?_push_of_some
def Zd:=@Nat.le_trans
def Ze:=@List.mem_singleton
def Zf:=@List.getElem?_eq_some_iff
def Zg:=@Nat.le_refl
def Zh:=@List.length_append
def Zi:=@Bool.false_ne_true
def Zj:=@List.size_toArray
def Zk:=@PySem.wpAny_pure
def Zl:=@PySem.Heap.lt_size
def Zm:=@Nat.lt_of_lt_of_le
def Zn:=@List.length_singleton
def Zo:=@Option.some.inj
def Zq:=@List.length_cons
def Zr:=@List.mem_cons
def Zs:=@PySem.Heap.get?_push_size
def Zt:=@List.mem_cons_of_mem
def Zu:=@List.mem_cons_self
def Zv:=@Int.emod_lt_of_pos
def Zw:=@PySem.boot_len
def Zx:=@List.all_eq_true
def Zy:=@Bool.and_eq_true
def Zz:=@Array.length_toList
def ZA:=@Int.emod_nonneg
def ZB:=@List.getElem?_map
def ZC:=@List.mem_of_getElem?
def ZD:=@PySem.strLen_append
def ZE:=@List.mem_append
def ZF:=@List.mem_append_right
def ZG:=@Nat.ne_of_lt
def ZH:=@List.map_cons
def ZI:=@List.getElem?_set_self
def ZJ:=@PySem.W.mg_of
def ZK:=@List.not_mem_nil
def ZL:=@List.take_of_length_le
def ZM:=@List.mem_map
def ZN:=@List.lookup_cons
def ZO:=@List.map_append
def ZP:=@Array.all_toList
def ZQ:=@Bool.eq_false_iff
def ZR:=@PySem.wpAny_field
def ZS:=@PySem.wpAny_mono
def ZT:=@congrArg
def ZU:=@Bool.false_and
def ZV:=@Array.getD_eq_getD_getElem?
def ZW:=@List.getElem?_append_right
def ZX:=@Bool.true_and
def ZY:=@PySem.wpAny_callSpecial?_slot
def ZZ:=@PySem.wpAny_truthy_bool
def Z0:=@Ne.symm
def Z1:=@List.getElem?_set_ne
def Z2:=@List.getElem?_append_left
def Z3:=@List.getElem_of_mem
def Z4:=@List.getElem?_zipWith
def Z5:=@PyProof.Rows.slot_tuple_getitem
def Z6:=@PySem.W.kia_one
def Z7:=@List.length_set
def Z8:=@PySem.Heap.get?_update_other
def Z9:=@List.getElem_mem
def y3:=@PySem.F.plainAttrs_str
def y4:=@List.length_range
def y6:=@of_decide_eq_true
def y7:=@Bool.eq_iff_iff
def y8:=@List.length_take
def y9:=@PySem.wpAny_call_entry
def Ya:=@List.all_cons
def Yb:=@PySem.wpAny_newObj_type
def Yc:=@List.mem_or_eq_of_mem_set
def Yd:=@List.getLast?_eq_getElem?
def Ye:=@PySem.Heap.size_push
def Yf:=@Int.toNat_natCast
def Yg:=@or_false
def Yh:=@PySem.mem_of_lookup
def Yi:=@Nat.zero_le
def Yj:=@List.sum_cons
def Yk:=@List.length_drop
def Yl:=@PySem.Obj.data_mapFields
def Ym:=@PySem.StrLaws.glued_eq_join
def Yn:=@Nat.ne_of_gt
def Yo:=@PySem.F.slot_zip_next
def Yp:=@List.all_append
def Yq:=@List.mem_range
def Yr:=@List.drop_zero
def Ys:=@List.dropLast_concat_getLast
def Yt:=@PyProof.Rows.callWith_type1
def Yu:=@List.mem_filterMap
def Yv:=@PySem.StrLaws.join_split
def Yw:=@decide_eq_true_iff
def Yx:=@Nat.lt_irrefl
def Yy:=@List.append_assoc
set_option Elab.async false
set_option linter.all false
set_option maxRecDepth 100000
set_option maxHeartbeats 2000000
local macro_rules | `(tactic| omega) => `(tactic| first | with_reducible first | assumption | exact Nat.le_of_lt (by assumption) | exact Nat.le_refl _ | exact Nat.lt_add_one _ | exact Nat.le_trans (by assumption) (by decide) | exact Nat.lt_of_lt_of_le (by assumption) (by decide) | exact Nat.sub_lt_sub_left (by assumption) (Nat.lt_add_one _) | exact Nat.le_antisymm (by assumption) (Nat.le_of_not_lt (by assumption)) | lia)
namespace L2
open PySem PySem.Spec PyProof.Rows
abbrev Key:=Sum Int Str
def ww:Key->Value->Bool
 |.inl k,v=>Value.isInt k v
 |.inr x,v=>Value.isStrOf x v
def A4(w:World):Key->Int
 |.inl k=>hashInt k
 |.inr x=>hashStr w x
theorem bG:∀{k:Key} {v:Value},ww k v=true->(∃i t,k=Sum.inl i/\v=Value.int i t)\/(∃x t,k=Sum.inr x/\v=Value.str x t)
 |.inl i,v,h=>by obtain⟨t,e⟩:=Value.isInt_shape (k:=i) (v:=v) h;exact .inl ⟨i,t,rfl,e⟩
 |.inr x,v,h=>by obtain⟨t,e⟩:=Value.isStrOf_shape (x:=x) (v:=v) h;exact .inr ⟨x,t,rfl,e⟩
theorem yy(a b:Int):decide ((Sum.inl a:Key)=Sum.inl b)=(a==b):=by
 by_cases e:a=b
 ·subst e;simp
 ·have h:¬(Sum.inl a:Key)=Sum.inl b:=fun q=>e (Sum.inl.inj q);rw[decide_eq_false h];exact(beq_eq_false_iff_ne.mpr e).symm
theorem yB(a b:Str):decide ((Sum.inr a:Key)=Sum.inr b)=decide (a=b):=by
 by_cases e:a=b
 ·subst e;simp
 ·have h:¬(Sum.inr a:Key)=Sum.inr b:=fun q=>e (Sum.inr.inj q);rw[decide_eq_false h,decide_eq_false e]
theorem yz(a:Int)(b:Str):decide ((Sum.inl a:Key)=Sum.inr b)=false:=decide_eq_false (fun q=>nomatch q)
theorem yA(a:Str)(b:Int):decide ((Sum.inr a:Key)=Sum.inl b)=false:=decide_eq_false (fun q=>nomatch q)
def jt(prog:Program)(w:World):PySem.KeyKind prog w Key where
 is:=ww
 hash:=A4 w
 inj:=fun v a b ha hb=>by
  rcases bG ha with⟨i,t,rfl,rfl⟩|⟨x,t,rfl,rfl⟩
  ·rcases bG hb with⟨j,u,rfl,e⟩|⟨y,u,rfl,e⟩
   ·injection e with e1 _;rw[e1]
   ·exact nomatch e
  ·rcases bG hb with⟨j,u,rfl,e⟩|⟨y,u,rfl,e⟩
   ·exact nomatch e
   ·injection e with e1 _;rw[e1]
 byValue:=fun k v h=>by rcases bG h with⟨i,t,rfl,rfl⟩|⟨x,t,rfl,rfl⟩<;>rfl
 pyHash:=fun hv h=>by
  rcases bG hv with⟨i,t,rfl,rfl⟩|⟨x,t,rfl,rfl⟩
  ·exact wpAny_pyHash_int h
  ·exact wpAny_pyHash_str h
 eqBool:=fun hu hv h=>by
  rcases bG hu with⟨i,t,rfl,rfl⟩|⟨x,t,rfl,rfl⟩
  ·rcases bG hv with⟨j,u,rfl,rfl⟩|⟨y,u,rfl,rfl⟩
   ·rw[yy]at h;exact wpAny_eqBool_int h
   ·rw[yz]at h;exact SeqAt.EqAt.int_str i t y u _ _ _ _ h
  ·rcases bG hv with⟨j,u,rfl,rfl⟩|⟨y,u,rfl,rfl⟩
   ·rw[yA]at h;exact SeqAt.EqAt.str_int x t j u _ _ _ _ h
   ·rw[yB]at h;exact wpAny_eqBool_str h
 «strs»:=fun k x t v h=>by
  rcases bG h with⟨i,u,rfl,e⟩|⟨y,u,rfl,e⟩
  ·exact nomatch e
  ·injection e with e1 _;subst e1;cases v<;>rfl
open PySem PySem.Spec PyProof.Rows
inductive V where
 |non|bl (b:Bool)|int (i:Int)|str (x:Str)|byt (b:Array UInt8)|flt (b:UInt64)|ref (a:Addr)|ty (n:String)
 deriving DecidableEq
def RelV:V->Value->Prop
 |.non,u=>u=Value.none
 |.bl b,u=>u=Value.bool b
 |.int i,u=>∃t,u=Value.int i t
 |.str x,u=>∃t,u=Value.str x t
 |.byt b,u=>∃t,u=Value.bytes b t
 |.flt b,u=>∃t,u=Value.float b t
 |.ref a,u=>u=Value.ref a
 |.ty n,u=>u=Value.type n
abbrev Vals:List V->List Value->Prop:=Paired RelV
theorem Vals.length{xs:List V}{us:List Value}(r:Vals xs us):xs.length=us.length:=Paired.length r
theorem Vals.get:∀{xs:List V} {us:List Value} {i:Nat} {x:V},Vals xs us->xs[i]?=some x->∃u,us[i]?=some u/\RelV x u
 |_,_,_,_,.nil,e=>by simp at e
 |_,_,0,_,.cons r _,e=>by simp at e;subst e;exact⟨_,rfl,r⟩
 |_,_,i+1,x,.cons _ t,e=>by obtain⟨u,h1,h2⟩:=Vals.get (i:=i) (x:=x) t (by simpa using e);exact⟨u,by simpa using h1,h2⟩
theorem Vals.set{x:V}{u:Value}(r:RelV x u):∀{xs:List V} {us:List Value} (i:Nat),Vals xs us->Vals (xs.set i x) (us.set i u)
 |_,_,_,.nil=>.nil
 |_,_,0,.cons _ t=>.cons r t
 |_,_,i+1,.cons q t=>.cons q (Vals.set r i t)
theorem Vals.append:∀{xs ys:List V} {us ws:List Value},Vals xs us->Vals ys ws->Vals (xs++ys) (us++ws)
 |_,_,_,_,.nil,s=>s
 |_,_,_,_,.cons r t,s=>.cons r (Vals.append t s)
theorem Vals.take:∀{xs:List V} {us:List Value} (n:Nat),Vals xs us->Vals (xs.take n) (us.take n)
 |_,_,0,_=>.nil
 |_,_,_+1,.nil=>.nil
 |_,_,n+1,.cons r t=>.cons r (Vals.take n t)
theorem Vals.drop:∀{xs:List V} {us:List Value} (n:Nat),Vals xs us->Vals (xs.drop n) (us.drop n)
 |_,_,0,r=>r
 |_,_,_+1,.nil=>.nil
 |_,_,n+1,.cons _ t=>Vals.drop n t
def uC:Option V->Option Value->Prop
 |some v,some u=>RelV v u
 |none,none=>True
 |_,_=>False
def KV{κ:Type}:List (κ×V)->List (κ×Value)->Prop:=Paired fun(p:κ×V) (q:κ×Value)=>p.1=q.1/\RelV p.2 q.2
def kV:Key->V
 |.inl i=>.int i
 |.inr x=>.str x
inductive HO where
 |lst (xs:List V)
 |tup (xs:List V)
 |dK (kvs:List (Key×V))|dT (kvs:List (List Key×V))
 |set (S:Int->Bool)(n:Nat)
 |ins (C dx:Addr)(fs:List (Str×V))
 |own (x:Addr)
 |xd (fs:List (Str×V))
 |met (f x:Addr)
 |rng (lo hi:Int)
 |frz (o:Obj)(u:HO)
 |tbl (ps:Array Value)
 |ext (φ:Heap->Prop)
abbrev Hp:=Addr->Option HO
def upd(H:Hp)(a:Addr)(o:HO):Hp:=fun b=>if b=a then some o else H b
theorem aa{H:Hp}{a:Addr}{o:HO}:upd H a o a=some o:=by unfold upd;rw[BK rfl]
theorem aB{H:Hp}{a b:Addr}{o:HO}(h:b≠a):upd H a o b=H b:=by unfold upd;rw[BJ h]
theorem xR{H:Hp}{a:Addr}{o u:HO}:upd (upd H a o) a u=upd H a u:=by funext b;unfold upd;split<;>rfl
theorem br{H:Hp}{a b:Addr}{o:HO}(h:H a=some o)(h':H b=none):a≠b:=by intro e;subst e;rw[h]at h';cases h'
section
variable(P:Program)(w:World)
def ObjOk(H:Hp)(h:Heap)(a:Addr):HO->Prop
 |.lst xs=>xs.length<=sizeLine/\∃(its:List Value) (n:Nat),Vals xs its/\h.get? a=some { cls:=.type "list",data:=.seq its.toArray n }
 |.tup xs=>xs.length<=sizeLine/\∃its:List Value,Vals xs its/\IsTup h a its.toArray
 |.dK kvs=>kvs.length<=sizeLine/\(a==sysModules)=false/\∃vs,KV kvs vs/\h.DictOf (jt P w) a vs
 |.dT kvs=>kvs.length<=sizeLine/\(a==sysModules)=false/\∃xs:List (List Key×Addr×Value),
   Paired (fun(p:List Key×V) (q:List Key×Addr×Value)=>p.1=q.1/\H q.2.1=some (.tup (p.1.map kV))/\RelV p.2 q.2.2) kvs xs /\
   ∃o es ep,h.get? a=some o/\o.ExactDict/\o.data=.dict es ep/\es.toList=xs.map (entryOfKey (tupleKind (jt P w)))/\(xs.map (·.1)).Nodup
 |.set S n=>h.SetOf (intKind P w) a S n
 |.ins C dx fs=>H dx=some (.own a)/\fs.length<=1000/\dx≠a/\h.get? a=some (PySem.W.instObj C dx) /\
   ∃mA,h.Ns1 dx mA/\(∀f,uC (fs.lookup f) (mA f))/\PySem.Within mA (fs.map (·.1))
 |.own _=>∃o,h.get? a=some o
 |.xd fs=>∃mA,h.Ns1 a mA/\∀f,uC (fs.lookup f) (mA f)
 |.rng lo hi=>∃t u v,h.get? a=some { cls:=.type "range",data:=.fields #[.int lo t,.int hi u,.int 1 v] }
 |.frz o u=>h.get? a=some o/\ObjOk H h a u
 |.tbl ps=>h.get? a=some { cls:=.none,data:=.fields ps }
 |.met f x=>h.get? a=some (PySem.W.methodObj (.ref f) (.ref x))
 |.ext φ=>φ h/\(∃o,h.get? a=some o)/\∀h1 h2:Heap,φ h1->(∀o,h1.get? a=some o->h2.get? a=some o)->φ h2
def HOk(H:Hp)(h:Heap):Prop:=∀a o,H a=some o->ObjOk P w H h a o
end
section
variable{P:Program}{w:World}{H H':Hp}{h h':Heap}{a:Addr}{o:HO}
theorem ObjOk.lt(x:ObjOk P w H h a o):a<h.objs.size:=by
 cases o with
 |lst xs=>obtain⟨_,_,_,_,e⟩:=x;exact Zl e
 |tup xs=>obtain⟨_,_,_,p⟩:=x;exact p.lt
 |dK kvs=>obtain⟨_,_,_,_,o,_,_,e,_⟩:=x;exact Zl e
 |dT kvs=>obtain⟨_,_,_,_,o,_,_,e,_⟩:=x;exact Zl e
 |set S n=>obtain⟨o,_,_,_,e,_⟩:=x;exact Zl e
 |ins C dx fs=>obtain⟨_,_,_,e,_⟩:=x;exact Zl e
 |own y=>obtain⟨_,e⟩:=x;exact Zl e
 |xd fs=>obtain⟨_,⟨_,_,_,e,_⟩,_⟩:=x;exact Zl e
 |rng lo hi=>obtain⟨_,_,_,e⟩:=x;exact Zl e
 |frz ob u=>obtain⟨e,_⟩:=x;exact Zl e
 |tbl ps=>exact Zl (show h.get? a=some _ from x)
 |met f y=>exact Zl (show h.get? a=some _ from x)
 |ext φ=>obtain⟨_,⟨_,e⟩,_⟩:=x;exact Zl e
theorem Paired.mapP{α β:Type}{F G:α->β->Prop}:∀{l₁:List α} {l₂:List β},Paired F l₁ l₂->(∀a b,F a b->G a b)->Paired G l₁ l₂
 |_,_,.nil,_=>.nil
 |_,_,.cons r t,f=>.cons (f _ _ r) (Paired.mapP t f)
theorem ObjOk.stay(x:ObjOk P w H h a o)(k:∀b u,(b=a\/H b=some (.own a))->h.get? b=some u->h'.get? b=some u)(ho:∀b,H b=some (.own a)->H' b=some (.own a))(ht:∀b xs,H b=some (.tup xs)->H' b=some (.tup xs)):ObjOk P w H' h' a o:=by
 induction o with
 |lst xs=>obtain⟨z,its,n,r,e⟩:=x;exact⟨z,its,n,r,k _ _ (.inl rfl) e⟩
 |tup xs=>obtain⟨z,its,r,ob,e,c⟩:=x;exact⟨z,its,r,ob,k _ _ (.inl rfl) e,c⟩
 |dK kvs=>obtain⟨z,y,vs,r,ob,es,ep,e,c⟩:=x;exact⟨z,y,vs,r,ob,es,ep,k _ _ (.inl rfl) e,c⟩
 |dT kvs =>obtain⟨z,y,xs,r,ob,es,ep,e,c⟩:=x;exact⟨z,y,xs,Paired.mapP r fun p q z=>⟨z.1,ht _ _ z.2.1,z.2.2⟩,ob,es,ep,k _ _ (.inl rfl) e,c⟩
 |set S n=>obtain⟨ob,es,ep,t,e,c⟩:=x;exact⟨ob,es,ep,t,k _ _ (.inl rfl) e,c⟩
 |ins C dx fs =>obtain⟨d,z,ne,e,mA,⟨od,es,ep,e2,c⟩,r⟩:=x;exact⟨ho _ d,z,ne,k _ _ (.inl rfl) e,mA,⟨od,es,ep,k _ _ (.inr d) e2,c⟩,r⟩
 |own y=>obtain⟨ob,e⟩:=x;exact⟨ob,k _ _ (.inl rfl) e⟩
 |xd fs=>obtain⟨mA,⟨od,es,ep,e,c⟩,r⟩:=x;exact⟨mA,⟨od,es,ep,k _ _ (.inl rfl) e,c⟩,r⟩
 |rng lo hi=>obtain⟨t,u,v,e⟩:=x;exact⟨t,u,v,k _ _ (.inl rfl) e⟩
 |frz ob u ih=>obtain⟨e,q⟩:=x;exact⟨k _ _ (.inl rfl) e,ih q⟩
 |tbl ps =>have e:h.get? a=some { cls:=.none,data:=.fields ps }:=x;show h'.get? a=some { cls:=.none,data:=.fields ps };exact k a _ (.inl rfl) e
 |met f y =>have e:h.get? a=some (PySem.W.methodObj (.ref f) (.ref y)):=x;show h'.get? a=some (PySem.W.methodObj (.ref f) (.ref y));exact k a _ (.inl rfl) e
 |ext φ=>obtain⟨p,⟨o,e⟩,st⟩:=x;exact⟨st _ _ p fun o q=>k _ _ (.inl rfl) q,⟨o,k _ _ (.inl rfl) e⟩,st⟩
theorem HOk.lt(x:HOk P w H h)(e:H a=some o):a<h.objs.size:=(x a o e).lt
theorem HOk.fresh(x:HOk P w H h)(e:h.objs.size<=a):H a=none:=by
 cases q:H a with
 |none=>rfl
 |some u=>exact absurd (Zm (x.lt q) e) (Yx _)
theorem HOk.kept(x:HOk P w H h)(k:∀b u,h.get? b=some u->h'.get? b=some u):HOk P w H h':=fun a o e =>
 (x a o e).stay (fun b u _ q=>k b u q) (fun _ q=>q) fun _ _ q=>q
theorem HOk.laid(x:HOk P w H h)(k:∀b u,h.get? b=some u->h'.get? b=some u)(hp:h.objs.size<=a)(new:ObjOk P w (upd H a o) h' a o):HOk P w (upd H a o) h':=fun b u e=>by
 have hn:=x.fresh hp;by_cases hb:b=a
 ·subst hb;rw[aa]at e;cases e;exact new
 ·rw[aB hb]at e;exact(x b u e).stay (fun c v _ q=>k c v q) (fun c q=>by rw[aB (br q hn)];exact q) fun c xs q=>by rw[aB (br q hn)];exact q
end
def Rd(H:Hp)(a:Addr)(u:HO):Prop:=H a=some u\/∃o,H a=some (.frz o u)
theorem Rd.of{H:Hp}{a:Addr}{u:HO}(h:H a=some u):Rd H a u:=.inl h
theorem Rd.ok{P:Program}{w:World}{H:Hp}{h:Heap}{a:Addr}{u:HO}(r:Rd H a u)(x:HOk P w H h):ObjOk P w H h a u:=by
 rcases r with r|⟨o,r⟩
 ·exact x a u r
 ·obtain⟨_,q⟩:=x a _ r;exact q
def Mut:Option HO->Prop
 |some (.lst _)=>True
 |some (.dK _)=>True
 |some (.dT _)=>True
 |some (.set _ _)=>True
 |some (.ins _ _ _)=>True
 |some (.ext _)=>True
 |_=>False
section
variable{P:Program}{w:World}{H:Hp}{h h':Heap}{x e:Addr}{o':HO}
theorem HOk.write(ok:HOk P w H h)(mu:Mut (H x))(he:e=x\/H e=some (.own x))(k:∀b u,b≠e->h.get? b=some u->h'.get? b=some u)(heo:∃u,h'.get? e=some u)(new:ObjOk P w (upd H x o') h' x o'):HOk P w (upd H x o') h':=fun b u q=>by
 have nown:∀c y,H c=some (.own y)->c≠x:=fun c y r z=>by subst z;rw[r]at mu;exact mu
 have ntup:∀c xs,H c=some (.tup xs)->c≠x:=fun c xs r z=>by subst z;rw[r]at mu;exact mu
 by_cases hb:b=x
 ·subst hb;rw[aa]at q;cases q;exact new
 ·rw[aB hb]at q;by_cases hbe:b=e
  ·have q':H b=some (.own x):=by
    rcases he with z|z
    ·exact absurd (hbe.trans z) hb
    ·rw[hbe];exact z
   rw[q]at q';cases q';obtain⟨v,hv⟩:=heo;exact⟨v,by rw[hbe];exact hv⟩
  ·refine(ok b u q).stay (fun c v hc r=>k c v ?_ r) (fun c r=>by rw[aB (nown c b r)];exact r) fun c xs r=>by rw[aB (ntup c xs r)];exact r
   rcases hc with rfl|hc
   ·exact hbe
   ·rintro rfl;rcases he with z|z
    ·exact nown c b hc z
    ·rw[hc]at z;cases z;exact hb rfl
end
structure Un(fs ex:List Addr)(H H':Hp)(h h':Heap):Prop where
 keep:∀b o,h.get? b=some o->H b=none->b∉fs->b∉ex->h'.get? b=some o
 slot:∀b o,h.get? b=some o->H b=none->b∈fs->b∉ex->∃sl,h'.get? b=some { o with slots:=sl }
 free:∀b o,h.get? b=some o->H b=none->b∉ex->H' b=none
 there:∀b o,h.get? b=some o->b∉ex->∃o',h'.get? b=some o'
 tups:∀b xs,H b=some (.tup xs)->H' b=some (.tup xs)
 frzs:∀b o u,H b=some (.frz o u)->H' b=some (.frz o u)
 tbls:∀b ps,H b=some (.tbl ps)->∃more,H' b=some (.tbl (ps++more))
section
variable{fs fs' ex ex':List Addr}{H H1 H2:Hp}{h h1 h2 h':Heap}{a x e:Addr}{o:HO}
theorem Un.any(u:Un fs ex H H1 h h1){b:Addr}{ob:Obj}(q:h.get? b=some ob)(n:H b=none)(hx:b∉ex):∃sl,h1.get? b=some { ob with slots:=sl }:=by
 by_cases hb:b∈fs
 ·exact u.slot b ob q n hb hx
 ·exact⟨ob.slots,u.keep b ob q n hb hx⟩
theorem Un.kept(k:∀b u,h.get? b=some u->h'.get? b=some u):Un fs ex H H h h' :=
 ⟨fun b ob q _ _ _=>k b ob q,fun b ob q _ _ _=>⟨ob.slots,k b ob q⟩,fun _ _ _ n _=>n,fun b ob q _=>⟨ob,k b ob q⟩,fun _ _ q=>q,fun _ _ _ q=>q,fun _ ps q=>⟨#[],by rw[q];simp⟩⟩
theorem Un.refl:Un fs ex H H h h:=Un.kept fun _ _ q=>q
theorem Un.laid(k:∀b u,h.get? b=some u->h'.get? b=some u)(hp:h.objs.size<=a)(hn:H a=none):Un fs ex H (upd H a o) h h' where
 keep:=fun b u q _ _ _=>k b u q
 slot:=fun b u q _ _ _=>⟨u.slots,k b u q⟩
 free:=fun b u q n _=>by rw[aB (ZG (Zm (Zl q) hp))];exact n
 there:=fun b u q _=>⟨u,k b u q⟩
 tups:=fun b xs q=>by rw[aB (br q hn)];exact q
 frzs:=fun b u xs q=>by rw[aB (br q hn)];exact q
 tbls:=fun b ps q=>⟨#[],by rw[aB (br q hn),q];simp⟩
theorem Un.write(mu:Mut (H x))(he:e=x\/H e=some (.own x))(k:∀b u,b≠e->h.get? b=some u->h'.get? b=some u)(heo:∃u,h'.get? e=some u):Un fs ex H (upd H x o) h h':=by
 have hx:∀b,H b=none->b≠x:=fun b n z=>by subst z;rw[n]at mu;exact mu
 have hb:∀b,H b=none->b≠e:=fun b n z=>by
  subst z;rcases he with r|r
  ·exact hx b n r
  ·rw[n]at r;cases r
 have hm:∀b u,H b=some u->¬Mut (some u)->b≠x:=fun b u q nm z=>by subst z;rw[q]at mu;exact nm mu
 refine⟨fun b u q n _ _=>k b u (hb b n) q,fun b u q n _ _=>⟨u.slots,k b u (hb b n) q⟩,fun b u q n _=>by rw[aB (hx b n)];exact n,fun b u q _=>?_,
  fun b xs q=>by rw[aB (hm b _ q fun z=>z)];exact q,fun b u xs q=>by rw[aB (hm b _ q fun z=>z)];exact q,fun b ps q=>⟨#[],by rw[aB (hm b _ q fun z=>z),q];simp⟩⟩
 by_cases hbe:b=e
 ·subst hbe;exact heo
 ·exact⟨u,k b u hbe q⟩
end
def trk(h:Heap)(H:Hp):List Addr:=(List.range h.objs.size).filter fun a=>(H a).isSome
def im(h:Heap)(H:Hp):Heap:=PySem.W.hideAll h (trk h H)
theorem sO(h:Heap)(H:Hp):(im h H).objs.size=h.objs.size:=PySem.W.hideAll_size _ _
theorem uV{h:Heap}{H:Hp}{b:Addr}{o:Obj}(e:h.get? b=some o)(n:H b=none):(im h H).get? b=some o :=
 PySem.W.hideAll_get _ e fun hm=>by have q:(H b).isSome=true:=(List.mem_filter.mp hm).2;rw[n]at q;simp at q
theorem xk{h:Heap}{H:Hp}{b:Addr}{o:Obj}(e:(im h H).get? b=some o):h.get? b=some o/\H b=none:=by
 have e':h.get? b=some o:=PySem.W.of_hideAll (trk h H) e;refine⟨e',?_⟩;cases q:H b with
 |none=>rfl
 |some x =>have hm:b∈trk h H:=List.mem_filter.mpr ⟨Yq.mpr (Zl e'),by simp[q]⟩;have z:(im h H).get? b=none:=PySem.W.hideAll_none (trk h H) hm;rw[z]at e;cases e
open PySem PySem.Spec PyProof.Rows
structure Mod(K:PySem.W.Frag)(mg:Str->Option Value)(base:Heap):Prop where
 kin:K.In base
 glob:base.Ns mainGlobals mg
 blt:∃mb,base.Ns builtinsNs mb/\∀x:Str,x≠"__name__"->mb x=bootBuiltins x
 nolimit:base.NoLimit
structure Cx where
 prog:Program
 w:World
 K:PySem.W.Frag
 mg:Str->Option Value
 base:Heap
 A:Around
 N:List Str
 s₀:Shared
 H₀:Hp
 env:Env
 outer:List Env
 stack:List Env
 ex:List Addr
 fn:Str->Bool
 calm:Bool
 pn:List (Addr×Obj)
 xe:Value->Shared->Prop
def frs(l:List Env):List Addr:=l.filterMap (·.frame)
abbrev Cx.fs(X:Cx):List Addr:=frs X.outer
def Vis(sc:Scope)(x:Str):Prop:=sc.names.lookup x=some .local\/sc.names.lookup x=some .cell\/sc.names.lookup x=some .free
def Loc(sc:Scope)(x:Str):Prop:=sc.names.lookup x=some .local\/sc.names.lookup x=some .cell
def AJ(env:Env)(h:Heap)(m:Str->Option Value)(x:Str)(u:Value):Prop :=
 (env.kindOf x=some .local/\m x=some u)\/((env.kindOf x=some .cell\/env.kindOf x=some .free)/\∃c,env.cells.lookup x=some c/\h.IsCell c (some u))
structure Cx.Ok(X:Cx):Prop where
 mod:Mod X.K X.mg X.base
 kind:X.env.scope.kind=.function
 glob:X.env.globals=mainGlobals
 blt:X.env.builtins=builtinsNs
 above:X.s₀.heap.objs.size<=X.env.locals
 inj:∀x y c,X.env.cells.lookup x=some c->X.env.cells.lookup y=some c->x=y
 has:∀x,(X.env.kindOf x=some .cell\/X.env.kindOf x=some .free)->∃c,X.env.cells.lookup x=some c
 cab:∀x c,X.fn x=true->X.env.cells.lookup x=some c->X.s₀.heap.objs.size<=c
 hd:X.calm=true->X.A.handled=none
 frames:X.A.frames=some X.stack
 stk:X.stack=X.outer\/(X.stack=X.env::X.outer/\X.env.frame=some X.env.locals)
 exf:∀b∈X.ex,b≠X.env.locals/\∀x c,X.env.cells.lookup x=some c->c≠b
 bs:∀b o,X.base.get? b=some o->X.s₀.heap.get? b=some o/\X.H₀ b=none
 bsz:X.base.objs.size<=X.s₀.heap.objs.size
 noex:∀b o,X.base.get? b=some o->b∉X.ex
 exfs:∀b∈X.ex,b∉X.fs
 funs:X.s₀.heap.FunFrames X.base X.outer
 frf:∀b∈X.fs,X.H₀ b=none
structure Inv(X:Cx)(pins:List (Addr×Obj))(σ:List (Option V))(H:Hp)(s:Shared):Prop where
 ok:X.Ok
 os:s.os=X.s₀.os
 bare:AllBare s.gens
 base:Un X.fs X.ex X.H₀ H X.s₀.heap s.heap
 loc:∃m,s.heap.Ns X.env.locals m/\∀(i:Nat) (x:Str) (v:V),X.N[i]?=some x->σ[i]?=some (some v)->Vis X.env.scope x->∃u,RelV v u/\AJ X.env s.heap m x u
 cell:∀x c,X.env.cells.lookup x=some c->∃v,s.heap.IsCell c v
 free:H X.env.locals=none
 freeC:∀x c,X.env.cells.lookup x=some c->H c=none
 pin:∀p∈X.pn++pins,s.heap.get? p.1=some p.2/\H p.1=none/\p.1≠X.env.locals/\p.1∉X.fs/\∀v,p.2.data≠.cell v
 hok:HOk X.prog X.w H s.heap
 len:σ.length=X.N.length
section
variable{X:Cx}{pins:List (Addr×Obj)}{σ:List (Option V)}{H H':Hp}{s:Shared}{h':Heap}
theorem Cx.Ok.nofr(ok:X.Ok){b:Addr}{o:Obj}(e:X.base.get? b=some o):b∉X.fs:=fun hb=>by have:=(ok.funs.mem hb).1;rw[e]at this;cases this
theorem Inv.bs(I:Inv X pins σ H s):∀b o,X.base.get? b=some o->s.heap.get? b=some o/\H b=none:=fun b o e =>
 ⟨I.base.keep b o (I.ok.bs b o e).1 (I.ok.bs b o e).2 (I.ok.nofr e) (I.ok.noex b o e),I.base.free b o (I.ok.bs b o e).1 (I.ok.bs b o e).2 (I.ok.noex b o e)⟩
theorem Inv.bk(I:Inv X pins σ H s):∀b o,X.base.get? b=some o->s.heap.get? b=some o:=fun b o e=>(I.bs b o e).1
theorem Inv.mod(I:Inv X pins σ H s):Mod X.K X.mg X.base:=I.ok.mod
theorem Inv.kIn(I:Inv X pins σ H s):X.K.In s.heap:=I.ok.mod.kin.keeps I.bk
theorem Inv.nolimit(I:Inv X pins σ H s):s.heap.NoLimit:=I.ok.mod.nolimit.keeps I.bk
theorem Inv.fr(I:Inv X pins σ H s):∃m,Fr X.base X.env.locals s.heap m :=
 let⟨m,hn,_⟩:=I.loc
 ⟨m,hn,I.bk,Zd I.ok.bsz I.ok.above⟩
theorem Inv.lt(I:Inv X pins σ H s):X.env.locals<s.heap.objs.size:=let⟨_,hn,_⟩:=I.loc;hn.lt
theorem Inv.sz(I:Inv X pins σ H s):X.s₀.heap.objs.size<=s.heap.objs.size:=Zd I.ok.above (Nat.le_of_lt I.lt)
theorem Inv.nofs(I:Inv X pins σ H s){a:Addr}(h:s.heap.objs.size<=a):a∉X.fs:=fun hb=>by obtain⟨_,o,ho,_⟩:=I.ok.funs.mem hb;exact absurd (Zm (Zl ho) (Zd I.sz h)) (Yx _)
theorem Inv.cne(I:Inv X pins σ H s):∀x c,X.env.cells.lookup x=some c->c≠X.env.locals:=fun x c e z=>by obtain⟨v,o,ho,hd⟩:=I.cell x c e;obtain⟨m,⟨o',es,ep,ho',hd',_⟩,_⟩:=I.loc;rw[z,ho']at ho;cases ho;rw[hd']at hd;cases hd
theorem Inv.funs(I:Inv X pins σ H s):s.heap.FunFrames X.base X.outer:=by
 have all:∀(l:List Env),(∀b∈frs l,b∈X.fs)->X.s₀.heap.FunFrames X.base l->s.heap.FunFrames X.base l:=by
  intro l;induction l with
  |nil=>intro _ _;trivial
  |cons env r ih =>intro hs hl;obtain⟨hk,⟨L,o,hf,hn,ho,hd⟩,hr⟩:=hl;have hL:L∈X.fs:=hs L (by unfold frs;rw[List.filterMap_cons,hf];exact Zu);obtain⟨sl,e⟩:=I.base.slot L o ho (I.ok.frf L hL) hL fun z=>I.ok.exfs L z hL;exact⟨hk,⟨L,_,hf,hn,e,hd⟩,ih (fun b hb=>hs b (by unfold frs;rw[List.filterMap_cons,hf];exact Zt _ hb)) hr⟩
 exact all X.outer (fun _ hb=>hb) I.ok.funs
theorem Inv.stack(I:Inv X pins σ H s):s.heap.FunFrames X.base X.stack:=by
 rcases I.ok.stk with e|⟨e,hf⟩
 ·rw[e];exact I.funs
 ·rw[e];obtain⟨m,hn,_⟩:=I.loc;refine .cons (by rw[I.ok.kind];decide) hf hn ?_ I.funs;exact Heap.get?_none_of_le (Zd I.ok.bsz I.ok.above)
theorem Inv.stkSub(I:Inv X pins σ H s):∀b∈frs X.stack,b∈X.env.locals::X.fs:=fun b hb=>by
 rcases I.ok.stk with e|⟨e,hf⟩
 ·rw[e]at hb;exact Zt _ hb
 ·rw[e]at hb;unfold frs at hb;rw[List.filterMap_cons,hf]at hb;exact hb
theorem Inv.stkFree(I:Inv X pins σ H s):∀b∈frs X.stack,H b=none:=fun b hb=>by
 rcases Zr.mp (I.stkSub b hb)with e|hb
 ·rw[e];exact I.free
 ·obtain⟨_,o,ho,_⟩:=I.ok.funs.mem hb;exact I.base.free b o ho (I.ok.frf b hb) fun z=>I.ok.exfs b z hb
theorem Inv.step{g':Array GenState}{t':Nat}{d':Drawn}{ch:List Addr}(I:Inv X pins σ H s)(hch:∀b∈ch,(b∈X.ex\/X.s₀.heap.objs.size<=b)/\b≠X.env.locals/\(∀x c,X.env.cells.lookup x=some c->c≠b)/\∀p∈X.pn++pins,p.1≠b)(keep:∀b o,b≠X.env.locals->b∉X.fs->b∉ch->s.heap.get? b=some o->H b=none->h'.get? b=some o)(slot:∀b o,b≠X.env.locals->b∈X.fs->b∉ch->s.heap.get? b=some o->H b=none->∃sl,h'.get? b=some { o with slots:=sl })(free:∀b o,b∉ch->s.heap.get? b=some o->H b=none->H' b=none)(there:∀b o,b∉ch->s.heap.get? b=some o->∃o',h'.get? b=some o')(tups:∀b xs,H b=some (.tup xs)->H' b=some (.tup xs))(frzs:∀b o u,H b=some (.frz o u)->H' b=some (.frz o u))(tbls:∀b ps,H b=some (.tbl ps)->∃more,H' b=some (.tbl (ps++more)))(ns:∀m,s.heap.Ns X.env.locals m->h'.Ns X.env.locals m)(hok:HOk X.prog X.w H' h')(hg:AllBare g') :
  Inv X pins σ H' { s with heap:=h',gens:=g',drawn:=d',toks:=t' }:=by
 have neL:∀b o,X.s₀.heap.get? b=some o->b≠X.env.locals:=fun b o e=>ZG (Zm (Zl e) I.ok.above);have neC:∀b o,X.s₀.heap.get? b=some o->b∉X.ex->b∉ch:=fun b o e hx hb=>by
  rcases(hch b hb).1 with z|z
  ·exact hx z
  ·exact absurd (Zm (Zl e) z) (Yx _)
 have cellK:∀x c,X.env.cells.lookup x=some c->∀v,s.heap.IsCell c v->h'.IsCell c v:=fun x c e v ⟨o,ho,hd⟩=>by
  have nch:c∉ch:=fun z=>(hch c z).2.2.1 x c e rfl;by_cases hc:c∈X.fs
  ·obtain⟨sl,q⟩:=slot c o (I.cne x c e) hc nch ho (I.freeC x c e);exact⟨_,q,hd⟩
  ·exact⟨o,keep c o (I.cne x c e) hc nch ho (I.freeC x c e),hd⟩
 refine⟨I.ok,I.os,hg,⟨fun b o e n hb hx=>?_,fun b o e n hb hx=>?_,fun b o e n hx=>?_,fun b o e hx=>?_,fun b xs e=>tups b xs (I.base.tups b xs e),fun b o xs e=>frzs b o xs (I.base.frzs b o xs e),fun b ps e=>?_⟩,?_,fun x c e=>?_,?_,fun x c e=>?_,fun p hp=>?_,hok,I.len⟩
 ·exact keep b o (neL b o e) hb (neC b o e hx) (I.base.keep b o e n hb hx) (I.base.free b o e n hx)
 ·obtain⟨sl,e1⟩:=I.base.slot b o e n hb hx;obtain⟨sl',e2⟩:=slot b _ (neL b o e) hb (neC b o e hx) e1 (I.base.free b o e n hx);exact⟨sl',e2⟩
 ·obtain⟨o',e1⟩:=I.base.there b o e hx;exact free b o' (neC b o e hx) e1 (I.base.free b o e n hx)
 ·obtain⟨o',e1⟩:=I.base.there b o e hx;exact there b o' (neC b o e hx) e1
 ·obtain⟨m1,e1⟩:=I.base.tbls b ps e;obtain⟨m2,e2⟩:=tbls b _ e1;exact⟨m1++m2,by rw[e2,Array.append_assoc]⟩
 ·obtain⟨m,hn,hl⟩:=I.loc;refine⟨m,ns m hn,fun i x v e1 e2 e3=>?_⟩;obtain⟨u,r,l⟩:=hl i x v e1 e2 e3;refine⟨u,r,?_⟩;rcases l with l|⟨k,c,e,z⟩
  ·exact .inl l
  ·exact .inr ⟨k,c,e,cellK x c e _ z⟩
 ·obtain⟨v,z⟩:=I.cell x c e;exact⟨v,cellK x c e v z⟩
 ·obtain⟨m,⟨o,_,_,ho,_⟩,_⟩:=I.loc;exact free _ o (fun z=>(hch _ z).2.1 rfl) ho I.free
 ·obtain⟨v,o,ho,hd⟩:=I.cell x c e;exact free c o (fun z=>(hch c z).2.2.1 x c e rfl) ho (I.freeC x c e)
 ·obtain⟨e,n,ne,nf,d⟩:=I.pin p hp;have nch:p.1∉ch:=fun z=>(hch p.1 z).2.2.2 p hp rfl;exact⟨keep p.1 p.2 ne nf nch e n,free p.1 p.2 nch e n,ne,nf,d⟩
theorem Inv.un{t':Nat}(I:Inv X pins σ H s)(u:Un X.fs [] H H' s.heap h')(hok:HOk X.prog X.w H' h'):Inv X pins σ H' { s with heap:=h',toks:=t' }:=by
 obtain⟨m,⟨o,es,ep,ho,r⟩,_⟩:=id I.loc;obtain⟨sl,hL⟩:=u.any ho I.free (by simp);exact I.step (g':=s.gens) (d':=s.drawn) (ch:=[]) (fun _ z=>nomatch z) (fun b o _ hb _ e n=>u.keep b o e n hb (by simp)) (fun b o _ hb _ e n=>u.slot b o e n hb (by simp)) (fun b o _ e n=>u.free b o e n (by simp)) (fun b o _ e=>u.there b o e (by simp)) u.tups u.frzs u.tbls (fun m' hm=>by
  obtain⟨o',es',ep',ho',r'⟩:=hm;rw[ho]at ho';cases ho';exact⟨_,es',ep',hL,r'⟩) hok I.bare
theorem Inv.call{g':Array GenState}{t':Nat}{d':Drawn}{ch:List Addr}(I:Inv X pins σ H s)(u:Un (frs X.stack) ch H H' s.heap h')(hok:HOk X.prog X.w H' h')(hg:AllBare g')(hch:∀b∈ch,(b∈X.ex\/X.s₀.heap.objs.size<=b)/\b≠X.env.locals/\(∀x c,X.env.cells.lookup x=some c->c≠b)/\∀p∈X.pn++pins,p.1≠b) :
  Inv X pins σ H' { s with heap:=h',gens:=g',drawn:=d',toks:=t' }:=by
 obtain⟨m,⟨o,es,ep,ho,r⟩,_⟩:=id I.loc;obtain⟨sl,hL⟩:=u.any ho I.free fun z=>(hch _ z).2.1 rfl;exact I.step (ch:=ch) hch (fun b o hL hb hc e n=>u.keep b o e n (fun z=>(Zr.mp (I.stkSub b z)).elim hL hb) hc) (fun b o _ _ hc e n=>u.any e n hc) (fun b o hc e n=>u.free b o e n hc) (fun b o hc e=>u.there b o e hc) u.tups u.frzs u.tbls (fun m' hm=>by
  obtain⟨o',es',ep',ho',r'⟩:=hm;rw[ho]at ho';cases ho';exact⟨_,es',ep',hL,r'⟩) hok hg
theorem Inv.turned{t':Nat}{it:Addr}(I:Inv X pins σ H s)(k:∀b o,b≠it->s.heap.get? b=some o->h'.get? b=some o)(hn:H it=none)(hL:it≠X.env.locals)(h1:it∈X.ex\/X.s₀.heap.objs.size<=it)(h2:∀x c,X.env.cells.lookup x=some c->c≠it)(h3:∀p∈X.pn++pins,p.1≠it):Inv X pins σ H { s with heap:=h',toks:=t' }:=by
 have nit:∀b u,H b=some u->b≠it:=fun b u e z=>by rw[z,hn]at e;cases e
 refine I.step (g':=s.gens) (d':=s.drawn) (ch:=[it]) (fun b hb=>?_) (fun b o _ _ hc e _=>k b o (fun z=>hc (by simp[z])) e) (fun b o _ _ hc e _=>⟨o.slots,k b o (fun z=>hc (by simp[z])) e⟩) (fun _ _ _ _ n=>n)
  (fun b o hc e=>⟨o,k b o (fun z=>hc (by simp[z])) e⟩) (fun _ _ e=>e) (fun _ _ _ e=>e) (fun b ps e=>⟨#[],by rw[e];simp⟩) (fun m hm=>?_) (fun b u e=>?_) I.bare
 ·have e:b=it:=by simpa using hb
  subst e;exact⟨h1,hL,h2,h3⟩
 ·obtain⟨o,es,ep,ho,r⟩:=hm;exact⟨o,es,ep,k _ o (Z0 hL) ho,r⟩
 ·refine(I.hok b u e).stay (fun c v hc q=>k c v ?_ q) (fun _ q=>q) fun _ _ q=>q;rcases hc with z|z
  ·rw[z];exact nit b u e
  ·exact nit c _ z
theorem Inv.tok(I:Inv X pins σ H s)(t:Nat):Inv X pins σ H { s with toks:=t }:=I.un (h':=s.heap) (t':=t) Un.refl I.hok
theorem Inv.kept{t':Nat}(I:Inv X pins σ H s)(k:∀b u,s.heap.get? b=some u->h'.get? b=some u):Inv X pins σ H { s with heap:=h',toks:=t' }:=I.un (Un.kept k) (I.hok.kept k)
theorem Inv.laid{a:Addr}{o:HO}{t':Nat}(I:Inv X pins σ H s)(k:∀b u,s.heap.get? b=some u->h'.get? b=some u)(hp:s.heap.objs.size<=a)(new:ObjOk X.prog X.w (upd H a o) h' a o) :
  Inv X pins σ (upd H a o) { s with heap:=h',toks:=t' }:=I.un (Un.laid k hp (I.hok.fresh hp)) (I.hok.laid k hp new)
theorem Inv.write{x e:Addr}{o:HO}{t':Nat}(I:Inv X pins σ H s)(mu:Mut (H x))(he:e=x\/H e=some (.own x))(k:∀b u,b≠e->s.heap.get? b=some u->h'.get? b=some u)(heo:∃u,h'.get? e=some u)(new:ObjOk X.prog X.w (upd H x o) h' x o):Inv X pins σ (upd H x o) { s with heap:=h',toks:=t' }:=I.un (Un.write mu he k heo) (I.hok.write mu he k heo new)
theorem Inv.weak{σ':List (Option V)}(I:Inv X pins σ H s)(hl:σ'.length=σ.length)(w:∀(i:Nat) v,σ'[i]?=some (some v)->σ[i]?=some (some v)):Inv X pins σ' H s :=
 ⟨I.ok,I.os,I.bare,I.base,let⟨m,hn,hl'⟩:=I.loc;⟨m,hn,fun i x v e1 e2 e3=>hl' i x v e1 (w i v e2) e3⟩,I.cell,I.free,I.freeC,I.pin,I.hok,hl.trans I.len⟩
theorem Inv.pins_of{pins':List (Addr×Obj)}(I:Inv X pins σ H s)(h:∀p∈pins',s.heap.get? p.1=some p.2/\H p.1=none/\p.1≠X.env.locals/\p.1∉X.fs/\∀v,p.2.data≠.cell v):Inv X pins' σ H s :=
 ⟨I.ok,I.os,I.bare,I.base,I.loc,I.cell,I.free,I.freeC,fun p hp=>(ZE.mp hp).elim (fun z=>I.pin p (List.mem_append_left _ z)) (h p),I.hok,I.len⟩
theorem jU{N:List Str}(hN:N.Nodup){i j:Nat}{x:Str}(a:N[i]?=some x)(b:N[j]?=some x):i=j:=by obtain⟨h1,e1⟩:=Zf.mp a;obtain⟨h2,e2⟩:=Zf.mp b;exact(List.getElem_inj hN).mp (e1.trans e2.symm)
theorem jk{M:Model}{A:Around}{E:Value->Shared->Prop}{i:Nat}{x:Str}{v:V}{u:Value}{Q:Unit->Shared->Prop}(I:Inv X pins σ H s)(hN:X.N.Nodup)(hi:X.N[i]?=some x)(hx:Loc X.env.scope x)(r:RelV v u)(h:∀s',Inv X pins (σ.set i (some v)) H s'->(∃a,Heap.SameBut a s.heap s'.heap/\(a=X.env.locals\/X.env.cells.lookup x=some a))->Q () s')(hf:X.fn x=true\/X.env.scope.names.lookup x=some .local:=by first|exact .inl rfl|exact .inr rfl|assumption):wpAny M A (storeName X.env x u) Q E s:=by
 obtain⟨m,hn,hl⟩:=id I.loc;have hcls:(X.env.scope.kind == .class ||(X.env.scope.kind == .module&&X.env.locals != X.env.globals))=false:=by rw[I.ok.kind];rfl
 have hiσ:i<σ.length:=by rw[I.len];exact(Zf.mp hi).1
 have cne:=I.cne;have tracked:∀{a:Addr} {h':Heap},(∃o,s.heap.get? a=some o/\H a=none)->Heap.SameBut a s.heap h'->HOk X.prog X.w H h':=fun{a h'} ha hs b ob e=>by
  obtain⟨_,_,hfree⟩:=ha;refine(I.hok b ob e).stay (fun c w' hc q=>(hs.2 c ?_).trans q) (fun _ q=>q) fun _ _ q=>q;rintro rfl;rcases hc with rfl|hc
  ·rw[hfree]at e;cases e
  ·rw[hfree]at hc;cases hc
 rcases hx with hk|hk
 ·refine wpAny_storeName_local hk hn (fun h' hn' hs=>?_) hcls;obtain⟨oL,_,_,hoL,_⟩:=id hn;refine h _ ⟨I.ok,I.os,I.bare,⟨fun b o e n hb hx=>?_,fun b o e n hb hx=>?_,I.base.free,fun b o e hx=>?_,I.base.tups,I.base.frzs,I.base.tbls⟩,⟨_,hn',fun j y v' e1 e2 e3=>?_⟩,fun y c e=>?_,I.free,I.freeC,fun p hp=>?_,tracked ⟨oL,hoL,I.free⟩ hs,by simpa using I.len⟩ ⟨_,hs,.inl rfl⟩
  ·exact(hs.2 b (ZG (Zm (Zl e) I.ok.above))).trans (I.base.keep b o e n hb hx)
  ·obtain⟨sl,e1⟩:=I.base.slot b o e n hb hx;exact⟨sl,(hs.2 b (ZG (Zm (Zl e) I.ok.above))).trans e1⟩
  ·obtain⟨o',e1⟩:=I.base.there b o e hx;exact⟨o',(hs.2 b (ZG (Zm (Zl e) I.ok.above))).trans e1⟩
  ·by_cases hj:j=i
   ·subst hj;rw[hi]at e1;cases e1;rw[ZI hiσ]at e2;cases e2;exact⟨u,r,.inl ⟨hk,by simp⟩⟩
   ·rw[Z1 (Z0 hj)]at e2;obtain⟨u',r',q⟩:=hl j y v' e1 e2 e3;refine⟨u',r',?_⟩;rcases q with⟨k,e⟩|⟨k,c,e,z⟩
    ·refine .inl ⟨k,?_⟩;have:y≠x:=fun e=>hj (jU hN e1 (e▸hi));simp[this,e]
    ·exact .inr ⟨k,c,e,z.sameBut hs (cne y c e)⟩
  ·obtain⟨w',z⟩:=I.cell y c e;exact⟨w',z.sameBut hs (cne y c e)⟩
  ·obtain⟨e,n,ne,nf,d⟩:=I.pin p hp;exact⟨(hs.2 p.1 ne).trans e,n,ne,nf,d⟩
 ·have hfn:X.fn x=true:=by
   rcases hf with z|z
   ·exact z
   ·rw[z]at hk;cases hk
  obtain⟨c,hc⟩:=I.ok.has x (.inl hk);obtain⟨w',z⟩:=I.cell x c hc;refine wpAny_storeName_cell I.ok.kind hk hc z (fun h' hc' hs=>?_);obtain⟨oc,hoc,hocd⟩:=id z;refine h { s with heap:=h' } ⟨I.ok,I.os,I.bare,⟨fun b o e n hb hx=>?_,fun b o e n hb hx=>?_,I.base.free,fun b o e hx=>?_,I.base.tups,I.base.frzs,I.base.tbls⟩,⟨m,hn.sameBut hs (Z0 (cne x c hc)),fun j y v' e1 e2 e3=>?_⟩,fun y c' e=>?_,I.free,I.freeC,fun p hp=>?_,tracked ⟨oc,hoc,I.freeC x c hc⟩ hs,by simpa using I.len⟩ ⟨c,hs,.inr hc⟩
  ·exact(hs.2 b (ZG (Zm (Zl e) (I.ok.cab x c hfn hc)))).trans (I.base.keep b o e n hb hx)
  ·obtain⟨sl,e1⟩:=I.base.slot b o e n hb hx;exact⟨sl,(hs.2 b (ZG (Zm (Zl e) (I.ok.cab x c hfn hc)))).trans e1⟩
  ·obtain⟨o',e1⟩:=I.base.there b o e hx;exact⟨o',(hs.2 b (ZG (Zm (Zl e) (I.ok.cab x c hfn hc)))).trans e1⟩
  ·by_cases hj:j=i
   ·subst hj;rw[hi]at e1;cases e1;rw[ZI hiσ]at e2;cases e2;exact⟨u,r,.inr ⟨.inl hk,c,hc,hc'⟩⟩
   ·rw[Z1 (Z0 hj)]at e2;obtain⟨u',r',q⟩:=hl j y v' e1 e2 e3;refine⟨u',r',?_⟩;rcases q with q|⟨k,c',e,z'⟩
    ·exact .inl q
    ·refine .inr ⟨k,c',e,z'.sameBut hs ?_⟩;rintro rfl;exact hj (jU hN e1 (I.ok.inj _ _ _ e hc▸hi))
  ·by_cases hcc:c'=c
   ·subst hcc;exact⟨_,hc'⟩
   ·obtain⟨w2,z2⟩:=I.cell y c' e;exact⟨w2,z2.sameBut hs hcc⟩
  ·obtain⟨e,n,ne,nf,d⟩:=I.pin p hp;refine⟨(hs.2 p.1 ?_).trans e,n,ne,nf,d⟩;intro q;rw[q,hoc]at e;have q':oc=p.2:=Zo e;exact d w' (by rw[<-q'];exact hocd)
theorem fX{M:Model}{A:Around}{E:Value->Shared->Prop}{i:Nat}{x:Str}{v:V}{u:Value}{Q:Unit->Shared->Prop}(I:Inv X pins σ H s)(hN:X.N.Nodup)(hi:X.N[i]?=some x)(hx:Loc X.env.scope x)(r:RelV v u)(h:∀s',Inv X pins (σ.set i (some v)) H s'->Q () s')(hf:X.fn x=true\/X.env.scope.names.lookup x=some .local:=by first|exact .inl rfl|exact .inr rfl|assumption):wpAny M A (storeName X.env x u) Q E s :=
 jk I hN hi hx r (fun s' I' _=>h s' I') hf
theorem Inv.call'{s':Shared}{ch:List Addr}(I:Inv X pins σ H s)(ho:s'.os=s.os)(u:Un (frs X.stack) ch H H' s.heap s'.heap)(hok:HOk X.prog X.w H' s'.heap)(hg:AllBare s'.gens)(hch:∀b∈ch,(b∈X.ex\/X.s₀.heap.objs.size<=b)/\b≠X.env.locals/\(∀x c,X.env.cells.lookup x=some c->c≠b)/\∀p∈X.pn++pins,p.1≠b):Inv X pins σ H' s':=by obtain⟨h',g',d',t',o'⟩:=s';have e:o'=s.os:=ho;subst e;exact I.call (g':=g') (t':=t') (d':=d') u hok hg hch
end
abbrev XK:=Value->Option Addr->Hp->Prop
abbrev St:=List (Option V)
abbrev VK:=V->Hp->Prop
abbrev TE:=St->Hp->VK->Prop
abbrev TT:=St->Hp->(Bool->Hp->Prop)->Prop
abbrev TA:=St->Hp->(List V->Hp->Prop)->Prop
structure Ends where
 nx:St->Hp->Prop
 rt:VK
 bk:St->Hp->Prop:=fun _ _=>False
 ct:St->Hp->Prop:=fun _ _=>False
abbrev TS:=Ends->St->Hp->Prop
def EP(X:Cx)(pins:List (Addr×Obj))(σ:St)(Q:VK)(u:Value)(s':Shared):Prop:=∃v H',Inv X pins σ H' s'/\RelV v u/\Q v H'
def TP(X:Cx)(pins:List (Addr×Obj))(σ:St)(Q:Bool->Hp->Prop)(b:Bool)(s':Shared):Prop:=∃H',Inv X pins σ H' s'/\Q b H'
def AP(X:Cx)(pins:List (Addr×Obj))(σ:St)(Q:List V->Hp->Prop)(us:List Value)(s':Shared):Prop:=∃vs H',Inv X pins σ H' s'/\Vals vs us/\Q vs H'
def SP(X:Cx)(pins:List (Addr×Obj))(D:Ends)(f:Flow)(s':Shared):Prop :=
 match f with
 |.next=>∃σ' H',Inv X pins σ' H' s'/\D.nx σ' H'
 |.brk=>∃σ' H',Inv X pins σ' H' s'/\D.bk σ' H'
 |.cont=>∃σ' H',Inv X pins σ' H' s'/\D.ct σ' H'
 |.ret u=>∃v σ' H',Inv X pins σ' H' s'/\RelV v u/\D.rt v H'
def PE(X:Cx)(e:Expr)(t:TE):Prop :=
 ∀(pins:List (Addr×Obj)) (s:Shared) (σ:St) (H:Hp) (Q:VK),Inv X pins σ H s->t σ H Q->wpAny (model X.prog X.w) X.A (eval e X.env) (EP X pins σ Q) X.xe s
def PT(X:Cx)(e:Expr)(t:TT):Prop :=
 ∀(pins:List (Addr×Obj)) (s:Shared) (σ:St) (H:Hp) (Q:Bool->Hp->Prop),Inv X pins σ H s->t σ H Q->wpAny (model X.prog X.w) X.A (isTrue e X.env (eval e X.env)) (TP X pins σ Q) X.xe s
def PW(X:Cx)(e:Expr)(t:TT):Prop :=
 ∀(whole:Sem Value) (pins:List (Addr×Obj)) (s:Shared) (σ:St) (H:Hp) (Q:Bool->Hp->Prop),Inv X pins σ H s->t σ H Q->wpAny (model X.prog X.w) X.A (isTrue e X.env whole) (TP X pins σ Q) X.xe s
theorem PW.pt{X:Cx}{e:Expr}{t:TT}(h:PW X e t):PT X e t:=h _
def PA(X:Cx)(es:List Expr)(t:TA):Prop :=
 ∀(pos:Pos) (pins:List (Addr×Obj)) (s:Shared) (σ:St) (H:Hp) (Q:List V->Hp->Prop),Inv X pins σ H s->t σ H Q->wpAny (model X.prog X.w) X.A (spliced (backTo pos (starEach es X.env))) (AP X pins σ Q) X.xe s
def PS(X:Cx)(st:Stmt)(t:TS):Prop :=
 ∀(pins:List (Addr×Obj)) (s:Shared) (σ:St) (H:Hp) (D:Ends),Inv X pins σ H s->t D σ H->wpAny (model X.prog X.w) X.A (exec st X.env) (SP X pins D) X.xe s
def PSs(X:Cx)(st:List Stmt)(t:TS):Prop :=
 ∀(pins:List (Addr×Obj)) (s:Shared) (σ:St) (H:Hp) (D:Ends),Inv X pins σ H s->t D σ H->wpAny (model X.prog X.w) X.A (execs st X.env) (SP X pins D) X.xe s
theorem thn{α:Type}{t:Sem α}{Q Q':α->Shared->Prop}{M:Model}{A:Around}{E:Value->Shared->Prop}{s:Shared}(h:wpAny M A t Q E s)(hQ:∀a s,Q a s->Q' a s):wpAny M A t Q' E s:=ZS h hQ fun _ _ x=>x
open PySem PySem.Spec PyProof.Rows
section
variable{X:Cx}
inductive tVar(i:Nat)(σ:St)(H:Hp)(Q:VK):Prop
 |mk (v:V) (h:σ[i]?=some (some v)) (q:Q v H):tVar i σ H Q
def tC(v:V):TE:=fun _ H Q=>Q v H
theorem zc{i:Nat}{x:Str}{pos:Pos}(hN:X.N[i]?=some x)(hv:Vis X.env.scope x)(hd:(x==("__debug__":Str))=false:=by decide)(hcd:(x==("__classdict__":Str))=false:=by decide):PE X (.Name x pos) (tVar i):=by
 intro pins s σ H Q I h;obtain⟨v,e,h⟩:=h;obtain⟨m,hn,hl⟩:=I.loc;obtain⟨u,r,l⟩:=hl i x v hN e hv;have fin:EP X pins σ Q u s:=⟨v,H,I,r,h⟩
 rcases l with⟨hk,hm⟩|⟨hk,c,hc,hcell⟩
 ·exact wpAny_Name (wpAny_loadName_local I.ok.kind hk hn hm fin) hd
 ·rcases hk with hk|hk
  ·exact wpAny_Name (wpAny_loadName_cell I.ok.kind hk hc hcell fin) hd
  ·exact wpAny_Name (wpAny_loadName_free I.ok.kind hk hc hcell fin hcd) hd
theorem yU{i j pos}:PE X (.Constant (.int i) j pos) (tC (.int i)):=fun _ _ _ H _ I h=>wpAny_Constant_int ⟨.int i,H,I.tok _,⟨_,rfl⟩,h⟩
theorem Au{b j pos}:PE X (.Constant (.bool b) j pos) (tC (.bl b)):=fun _ _ _ H _ I h=>Constant_bool ⟨.bl b,H,I,rfl,h⟩
theorem yW{j pos}:PE X (.Constant .none j pos) (tC .non):=fun _ _ _ H _ I h=>Constant_none ⟨.non,H,I,rfl,h⟩
theorem yZ{x j pos}:PE X (.Constant (.str x) j pos) (tC (.str x)):=fun _ _ _ H _ I h=>Calls.Constant_str ⟨.str x,H,I.tok _,⟨_,rfl⟩,h⟩
def Gl(X:Cx)(x:Str):Prop:=X.env.kindOf x=some .globalImplicit
theorem fJ{E:Value->Shared->Prop}{pins:List (Addr×Obj)}{s:Shared}{σ:St}{H:Hp}{x:Str}{u:Value}{pos:Pos}{Q:Value->Shared->Prop}(I:Inv X pins σ H s)(hg:Gl X x)(hm:X.mg x=some u)(h:Q u s)(hd:(x==("__debug__":Str))=false:=by decide):wpAny (model X.prog X.w) X.A (eval (.Name x pos) X.env) Q E s :=
 Calls.Name_function_global I.ok.kind hg (Calls.loadGlobal_global (by rw[I.ok.glob];exact I.mod.glob.keeps I.bk) hm h) hd
theorem gO{E:Value->Shared->Prop}{pins:List (Addr×Obj)}{s:Shared}{σ:St}{H:Hp}{x:Str}{u:Value}{pos:Pos}{Q:Value->Shared->Prop}(I:Inv X pins σ H s)(hg:Gl X x)(hm:X.mg x=none)(hv:bootBuiltins x=some u)(h:Q u s)(hn:x≠"__name__":=by decide)(hd:(x==("__debug__":Str))=false:=by decide):wpAny (model X.prog X.w) X.A (eval (.Name x pos) X.env) Q E s:=by obtain⟨mb,h1,h2⟩:=I.mod.blt;exact Calls.Name_function_global I.ok.kind hg (Calls.loadGlobal_builtin (by rw[I.ok.glob];exact I.mod.glob.keeps I.bk) hm (by rw[I.ok.blt];exact h1.keeps I.bk) ((h2 x hn).trans hv) h) hd
theorem lT{x:Str}{v:V}{u:Value}{pos:Pos}(hg:Gl X x)(hm:X.mg x=some u)(r:RelV v u)(hd:(x==("__debug__":Str))=false:=by decide):PE X (.Name x pos) (tC v) :=
 fun _ _ _ H _ I h=>fJ I hg hm ⟨v,H,I,r,h⟩ hd
theorem xu{x:Str}{v:V}{u:Value}{pos:Pos}(hg:Gl X x)(hm:X.mg x=none)(hv:bootBuiltins x=some u)(r:RelV v u)(hn:x≠"__name__":=by decide)(hd:(x==("__debug__":Str))=false:=by decide):PE X (.Name x pos) (tC v) :=
 fun _ _ _ H _ I h=>gO I hg hm hv ⟨v,H,I,r,h⟩ hn hd
variable{a b:Expr}{ta tb:TE}{pos:Pos}
inductive IsB(x:V)(H:Hp)(Q:Bool->Hp->Prop):Prop
 |mk (c:Bool) (h:x=.bl c) (q:Q c H):IsB x H Q
def tB(t:TE):TT:=fun σ H Q=>t σ H fun x H1=>IsB x H1 Q
theorem zr{e:Expr}{t:TE}(h:PE X e t)(he:∀whole,isTrue e X.env whole=(do let v ←whole;standAt e.pos;holding [v] (truthy v)):=by intro _;rfl):PT X e (tB t):=by intro pins s σ H Q I hw;refine isTrue_plain (thn (h pins s σ H _ I hw) fun v s1 hz9=>?_) (he _);obtain⟨x,H1,I1,r1,q1⟩:=hz9;obtain⟨d,rfl,q⟩:=q1;cases r1;exact ZZ ⟨H1,I1,q⟩
variable{tA tB':TT}{rest:List Expr}
def zP(t u:TT):TT:=fun σ H Q=>t σ H fun c H1=>if c=true then u σ H1 Q else Q false H1
def tOr(t u:TT):TT:=fun σ H Q=>t σ H fun c H1=>if c=true then Q true H1 else u σ H1 Q
def zU(t:TT):TT:=fun σ H Q=>t σ H fun c H1=>Q (!c) H1
theorem xI(ha:PT X a tA):PW X (.BoolOp .And [a] pos) tA:=by
 intro wh pins s σ H Q I h;refine isTrue_and (thn (ha pins s σ H Q I h) fun c s1 e=>?_);cases c with
 |true=>exact isTrue_and_nil e
 |false=>exact e
theorem zA(ha:PT X a tA):PW X (.BoolOp .Or [a] pos) tA:=by
 intro wh pins s σ H Q I h;refine isTrue_or (thn (ha pins s σ H Q I h) fun c s1 e=>?_);cases c with
 |false=>exact isTrue_or_nil e
 |true=>exact e
theorem zw(ha:PT X a tA)(hb:PW X (.BoolOp .And (b::rest) pos) tB'):PW X (.BoolOp .And (a::b::rest) pos) (zP tA tB'):=by
 intro wh pins s σ H Q I h;refine isTrue_and (thn (ha pins s σ H _ I h) fun c s1 ⟨H1,I1,q1⟩=>?_);cases c with
 |true=>exact hb wh pins s1 σ H1 Q I1 q1
 |false=>exact⟨H1,I1,q1⟩
theorem AB(ha:PT X a tA)(hb:PW X (.BoolOp .Or (b::rest) pos) tB'):PW X (.BoolOp .Or (a::b::rest) pos) (tOr tA tB'):=by
 intro wh pins s σ H Q I h;refine isTrue_or (thn (ha pins s σ H _ I h) fun c s1 ⟨H1,I1,q1⟩=>?_);cases c with
 |true=>exact⟨H1,I1,q1⟩
 |false=>exact hb wh pins s1 σ H1 Q I1 q1
theorem zq(ha:PT X a tA):PT X (.UnaryOp .Not a pos) (zU tA):=by intro pins s σ H Q I h;exact isTrue_not (ha pins s σ H (fun c H1=>Q (!c) H1) I h)
def wM(ta tb:TE):TE:=fun σ H Q=>ta σ H fun x H1=>∃c,x=.bl c/\if c=true then tb σ H1 Q else Q (.bl false) H1
def vS(ta tb:TE):TE:=fun σ H Q=>ta σ H fun x H1=>∃c,x=.bl c/\if c=true then Q (.bl true) H1 else tb σ H1 Q
def rO(ta:TE):TE:=fun σ H Q=>ta σ H fun x H1=>∃c,x=.bl c/\Q (.bl (!c)) H1
theorem yY{op}{t:TE}(h:PE X a t):PE X (.BoolOp op [a] pos) t:=fun pins s σ H Q I hw=>BoolOp_one (h pins s σ H Q I hw)
theorem yS(ha:PE X a ta)(hb:PE X (.BoolOp .And (b::rest) pos) tb):PE X (.BoolOp .And (a::b::rest) pos) (wM ta tb):=by
 intro pins s σ H Q I h;refine BoolOp_and (thn (ha pins s σ H _ I h) fun v s1 hz9=>?_);obtain⟨x,H1,I1,r1,q1⟩:=hz9;obtain⟨c,rfl,q1⟩:=q1;cases r1;refine ZZ ?_;cases c with
 |true=>exact hb pins s1 σ H1 Q I1 q1
 |false=>exact⟨.bl false,H1,I1,rfl,q1⟩
theorem Ay(ha:PE X a ta)(hb:PE X (.BoolOp .Or (b::rest) pos) tb):PE X (.BoolOp .Or (a::b::rest) pos) (vS ta tb):=by
 intro pins s σ H Q I h;refine BoolOp_or (thn (ha pins s σ H _ I h) fun v s1 hz9=>?_);obtain⟨x,H1,I1,r1,q1⟩:=hz9;obtain⟨c,rfl,q1⟩:=q1;cases r1;refine ZZ ?_;cases c with
 |false=>exact hb pins s1 σ H1 Q I1 q1
 |true=>exact⟨.bl true,H1,I1,rfl,q1⟩
theorem yX(ha:PE X a ta):PE X (.UnaryOp .Not a pos) (rO ta):=by intro pins s σ H Q I h;refine UnaryOp_ (thn (ha pins s σ H _ I h) fun v s1 hz9=>?_);obtain⟨x,H1,I1,r1,q1⟩:=hz9;obtain⟨c,rfl,q1⟩:=q1;cases r1;exact not_of (ZZ ⟨.bl (!c),H1,I1,rfl,q1⟩)
def tIf(t:TT)(ta tb:TE):TE:=fun σ H Q=>t σ H fun c H1=>if c=true then ta σ H1 Q else tb σ H1 Q
theorem vx{c:Expr}(hc:PT X c tA)(ha:PE X a ta)(hb:PE X b tb):PE X (.IfExp c a b pos) (tIf tA ta tb):=by
 intro pins s σ H Q I h;refine wpAny_IfExp (thn (hc pins s σ H _ I h) fun d s1 ⟨H1,I1,q1⟩=>?_);cases d with
 |true=>exact ha pins s1 σ H1 Q I1 q1
 |false=>exact hb pins s1 σ H1 Q I1 q1
end
open PySem PySem.Spec PyProof.Rows
def SqL(K:PySem.W.Frag)(H:Hp)(a:Addr)(xs:List V):Prop :=
 Rd H a (.lst xs) \/
  ∃(o:Obj) (its:Array Value) (n:Nat),K.lookup a=some o/\o.cls=.type "list"/\o.dict=none/\o.data=.seq its n/\its.size<=sizeLine/\Vals xs its.toList
def SqT(K:PySem.W.Frag)(H:Hp)(a:Addr)(xs:List V):Prop :=
 Rd H a (.tup xs) \/
  ∃(o:Obj) (its:Array Value) (n:Nat),K.lookup a=some o/\o.cls=.type "tuple"/\o.data=.seq its n/\its.size<=sizeLine/\Vals xs its.toList
def AK:Value->Option V
 |.none=>some .non
 |.bool b=>some (.bl b)
 |.int i _=>some (.int i)
 |.str x _=>some (.str x)
 |.bytes b _=>some (.byt b)
 |.float b _=>some (.flt b)
 |.ref a=>some (.ref a)
 |.type n=>some (.ty n)
 |_=>none
theorem RelV.abs{x:V}{u:Value}(r:RelV x u):AK u=some x:=by
 cases x with
 |non=>cases r;rfl
 |bl _=>cases r;rfl
 |int _=>obtain⟨t,rfl⟩:=r;rfl
 |str _=>obtain⟨t,rfl⟩:=r;rfl
 |byt _=>obtain⟨t,rfl⟩:=r;rfl
 |flt _=>obtain⟨t,rfl⟩:=r;rfl
 |ref _=>cases r;rfl
 |ty _=>cases r;rfl
theorem RelV.inj{x y:V}{u:Value}(r:RelV x u)(q:RelV y u):x=y:=Zo (r.abs.symm.trans q.abs)
theorem Vals.inj:∀{xs ys:List V} {us:List Value},Vals xs us->Vals ys us->xs=ys
 |_,_,_,.nil,.nil=>rfl
 |_,_,_,.cons r t,.cons r' t'=>by rw[r.inj r',Vals.inj t t']
section
variable{X:Cx}{pins:List (Addr×Obj)}{σ:St}{H:Hp}{s:Shared}{a:Addr}{xs ys:List V}
theorem SqL.of{K:PySem.W.Frag}(h:H a=some (.lst xs)):SqL K H a xs:=.inl (.inl h)
theorem SqT.of{K:PySem.W.Frag}(h:H a=some (.tup xs)):SqT K H a xs:=.inl (.inl h)
theorem Inv.list(I:Inv X pins σ H s)(h:SqL X.K H a xs):∃its:List Value,Vals xs its/\PlainL s.heap a its.toArray/\xs.length<=sizeLine:=by
 rcases h with h|⟨o,its,n,hk,hc,hd,hs,hz,r⟩
 ·obtain⟨z,its,n,r,e⟩:=h.ok I.hok;exact⟨its,r,⟨_,n,e,rfl,rfl,rfl⟩,z⟩
 ·refine⟨its.toList,r,⟨o,n,I.kIn a o hk,hc,hd,by simpa using hs⟩,?_⟩;have e:=r.length;simp only[Zz]at e;omega
theorem Inv.tuple(I:Inv X pins σ H s)(h:SqT X.K H a xs):∃its:List Value,Vals xs its/\IsTup s.heap a its.toArray/\xs.length<=sizeLine:=by
 rcases h with h|⟨o,its,n,hk,hc,hs,hz,r⟩
 ·obtain⟨z,its,r,p⟩:=h.ok I.hok;exact⟨its,r,p,z⟩
 ·refine⟨its.toList,r,⟨o,I.kIn a o hk,hc,n,by simpa using hs⟩,?_⟩;have e:=r.length;simp only[Zz]at e;omega
theorem Inv.list_inj(I:Inv X pins σ H s)(h:SqL X.K H a xs)(h':SqL X.K H a ys):xs=ys:=by
 obtain⟨its,r,⟨o,n,e,_,_,d⟩,_⟩:=I.list h;obtain⟨its',r',⟨o',n',e',_,_,d'⟩,_⟩:=I.list h';rw[e]at e';cases e';rw[d]at d';injection d' with d1 _;have:its=its':=by simpa using ZT Array.toList d1
 subst this;exact r.inj r'
theorem Inv.tuple_inj(I:Inv X pins σ H s)(h:SqT X.K H a xs)(h':SqT X.K H a ys):xs=ys:=by
 obtain⟨its,r,⟨o,e,_,n,d⟩,_⟩:=I.tuple h;obtain⟨its',r',⟨o',e',_,n',d'⟩,_⟩:=I.tuple h';rw[e]at e';cases e';rw[d]at d';injection d' with d1 _;have:its=its':=by simpa using ZT Array.toList d1
 subst this;exact r.inj r'
end
abbrev Cx.wish(X:Cx)(E:Value->Shared->Prop):Cx:={ X with xe:=E }
abbrev Cx.nox(X:Cx):Cx:=X.wish fun _ _=>False
theorem Cx.Ok.wish{X:Cx}(ok:X.Ok)(E:Value->Shared->Prop):(X.wish E).Ok :=
 ⟨ok.mod,ok.kind,ok.glob,ok.blt,ok.above,ok.inj,ok.has,ok.cab,ok.hd,ok.frames,ok.stk,ok.exf,ok.bs,ok.bsz,ok.noex,ok.exfs,ok.funs,ok.frf⟩
theorem Cx.Ok.unwish{X:Cx}{E:Value->Shared->Prop}(ok:(X.wish E).Ok):X.Ok :=
 ⟨ok.mod,ok.kind,ok.glob,ok.blt,ok.above,ok.inj,ok.has,ok.cab,ok.hd,ok.frames,ok.stk,ok.exf,ok.bs,ok.bsz,ok.noex,ok.exfs,ok.funs,ok.frf⟩
section
variable{X:Cx}{pins:List (Addr×Obj)}{σ:St}{H:Hp}{s:Shared}{E:Value->Shared->Prop}
theorem Inv.wish(I:Inv X pins σ H s)(E:Value->Shared->Prop):Inv (X.wish E) pins σ H s:=⟨I.ok.wish E,I.os,I.bare,I.base,I.loc,I.cell,I.free,I.freeC,I.pin,I.hok,I.len⟩
theorem Inv.unwish(I:Inv (X.wish E) pins σ H s):Inv X pins σ H s:=⟨I.ok.unwish,I.os,I.bare,I.base,I.loc,I.cell,I.free,I.freeC,I.pin,I.hok,I.len⟩
theorem SP.unwish{D:Ends}{f:Flow}{s':Shared}(h:SP (X.wish E) pins D f s'):SP X pins D f s':=by
 cases f with
 |next=>obtain⟨σ',H',I,q⟩:=h;exact⟨σ',H',I.unwish,q⟩
 |brk=>obtain⟨σ',H',I,q⟩:=h;exact⟨σ',H',I.unwish,q⟩
 |cont=>obtain⟨σ',H',I,q⟩:=h;exact⟨σ',H',I.unwish,q⟩
 |ret u=>obtain⟨v,σ',H',I,r,q⟩:=h;exact⟨v,σ',H',I.unwish,r,q⟩
theorem PSs.nox{st:List Stmt}{t:TS}(h:PSs X.nox st t):PSs X st t:=fun pins s σ H D I hw =>
 ZS (h pins s σ H D (I.wish _) hw) (fun _ _ q=>q.unwish) fun _ _ z=>False.elim z
end
section
variable{X:Cx}{st:Stmt}{rest:List Stmt}{t u:TS}{e:Expr}{te:TE}{pos:Pos}
def rN:TS:=fun D σ H=>D.nx σ H
def ku(t u:TS):TS:=fun D σ H=>t { D with nx:=u D } σ H
theorem xF:PSs X [] rN:=fun _ _ σ H _ I h=>wpAny_execs_nil ⟨σ,H,I,h⟩
theorem vG(h1:PS X st t)(h2:PSs X rest u):PSs X (st::rest) (ku t u):=by
 intro pins s σ H D I h;refine wpAny_execs_cons (thn (h1 pins s σ H { D with nx:=u D } I h) fun f s1 q=>?_);cases f with
 |next =>obtain⟨σ',H',I',q⟩:=q;exact h2 pins s1 σ' H' D I' q
 |ret v=>exact q
 |brk=>exact q
 |cont=>exact q
theorem xG(h1:PS X st t):PSs X [st] t:=by
 intro pins s σ H D I h;refine wpAny_execs_cons (thn (h1 pins s σ H D I h) fun f s1 q=>?_);cases f with
 |next=>exact wpAny_execs_nil q
 |ret v=>exact q
 |brk=>exact q
 |cont=>exact q
theorem Inv.quiet{pins:List (Addr×Obj)}{σ:St}{H:Hp}{s:Shared}(I:Inv X pins σ H s):interactive X.env=false:=by simp[interactive,I.ok.kind]
def zV(te:TE):TS:=fun D σ H=>te σ H D.rt
theorem zo(he:PE X e te):PS X (.Return (some e) pos) (zV te):=by intro pins s σ H D I h;exact wpAny_Return_some (thn (he pins s σ H _ I h) fun v s1 ⟨x,H1,I1,r1,q1⟩=>⟨x,σ,H1,I1,r1,q1⟩)
def vR(c:TT)(t u:TS):TS:=fun D σ H=>c σ H fun b H1=>if b=true then t D σ H1 else u D σ H1
theorem AA{c:Expr}{a b:List Stmt}{tc:TT}(hc:PT X c tc)(ha:PSs X a t)(hb:PSs X b u):PS X (.If c a b pos) (vR tc t u):=by
 intro pins s σ H D I h;refine wpAny_If (thn (hc pins s σ H _ I h) fun d s1 ⟨H1,I1,q1⟩=>?_);cases d with
 |true=>exact ha pins s1 σ H1 D I1 q1
 |false=>exact hb pins s1 σ H1 D I1 q1
end
abbrev TG:=V->St->Hp->(St->Hp->Prop)->Prop
abbrev TGs:=List V->St->Hp->(St->Hp->Prop)->Prop
def PG(X:Cx)(target:Expr)(t:TG):Prop :=
 ∀(pins:List (Addr×Obj)) (s:Shared) (σ:St) (H:Hp) (v:V) (u:Value) (Q:St->Hp->Prop),Inv X pins σ H s->RelV v u->t v σ H Q ->
  wpAny (model X.prog X.w) X.A (assign target X.env u) (fun _ s'=>∃σ' H',Inv X pins σ' H' s'/\Q σ' H') X.xe s
def PGs(X:Cx)(ts:List Expr)(t:TGs):Prop :=
 ∀(pins:List (Addr×Obj)) (s:Shared) (σ:St) (H:Hp) (vs:List V) (us:List Value) (Q:St->Hp->Prop),Inv X pins σ H s->Vals vs us->t vs σ H Q ->
  wpAny (model X.prog X.w) X.A (assignInOrder ((assignEach ts X.env).map (·.2)) us) (fun _ s'=>∃σ' H',Inv X pins σ' H' s'/\Q σ' H') X.xe s
abbrev nG:=V->V->V->Hp->(Hp->Prop)->Prop
def uB(X:Cx)(t:nG):Prop :=
 ∀(pins:List (Addr×Obj)) (s:Shared) (σ:St) (H:Hp) (o i v:V) (ov iv u:Value) (Q:Hp->Prop),Inv X pins σ H s->RelV o ov->RelV i iv->RelV v u->t o i v H Q ->
  wpAny (model X.prog X.w) X.A (setItem ov iv u) (fun _ s'=>∃H',Inv X pins σ H' s'/\Q H') X.xe s
abbrev TIp:=V->V->Hp->VK->Prop
def PIp(X:Cx)(op:Operator)(t:TIp):Prop :=
 ∀(pins:List (Addr×Obj)) (s:Shared) (σ:St) (H:Hp) (x y:V) (v u:Value) (Q:VK),Inv X pins σ H s->RelV x v->RelV y u->t x y H Q ->
  wpAny (model X.prog X.w) X.A (inplaceOp op v u) (EP X pins σ Q) X.xe s
section
variable{X:Cx}{pos:Pos}
def bC(i:Nat):TG:=fun v σ H Q=>Q (σ.set i (some v)) H
theorem xy{i:Nat}{x:Str}(hN:X.N.Nodup)(hi:X.N[i]?=some x)(hx:Loc X.env.scope x)(hf:X.fn x=true\/X.env.scope.names.lookup x=some .local:=by first|exact .inl rfl|exact .inr rfl|assumption):PG X (.Name x pos) (bC i):=by intro pins s σ H v u Q I r h;exact wpAny_assign_Name (fX I hN hi hx r (fun s' I'=>⟨_,H,I',h⟩) hf)
def nX:TGs:=fun vs σ H Q=>vs=[]/\Q σ H
def jq(t:TG)(u:TGs):TGs:=fun vs σ H Q=>∃v r,vs=v::r/\t v σ H fun σ' H'=>u r σ' H' Q
theorem xz:PGs X [] nX:=by intro pins s σ H vs us Q I r h;obtain⟨e,h⟩:=h;subst e;cases r;exact assignInOrder_nil ⟨σ,H,I,h⟩
theorem vA{e:Expr}{es:List Expr}{t:TG}{u:TGs}(h1:PG X e t)(h2:PGs X es u)(hs:(assignEach (e::es) X.env).map (·.2)=assign e X.env::(assignEach es X.env).map (·.2):=by rfl):PGs X (e::es) (jq t u):=by
 intro pins s σ H vs us Q I r h;obtain⟨v,vr,e1,h⟩:=h;subst e1;cases r with
 |cons r rr =>rw[hs];refine assignInOrder_cons (thn (h1 pins s σ H _ _ _ I r h) fun _ s1 ⟨σ1,H1,I1,q1⟩=>?_);exact h2 pins s1 σ1 H1 _ _ Q I1 rr q1
def nY(K:PySem.W.Frag)(n:Nat)(t:TGs):TG:=fun v σ H Q=>∃a xs,v=.ref a/\SqT K H a xs/\xs.length=n/\t xs σ H Q
theorem ze{es:List Expr}{k:Nat}{t:TGs}{n:Nat}(hc:X.calm=true)(h:PGs X es t)(hn:(assignEach es X.env).length=n:=by rfl)(hst:(assignEach es X.env).findIdx? (·.1)=none:=by rfl):PG X (.Tuple es k pos) (nY X.K n t):=by intro pins s σ H v u Q I r hw;obtain⟨a,xs,e1,hq,hl,hw⟩:=hw;subst e1;cases r;obtain⟨its,rv,ht,hz⟩:=I.tuple hq;refine assign_Tuple_tuple (I.ok.hd hc) ht (by simp[hn,<-hl,rv.length]) hst fun h' hx=>?_;have I1:Inv X pins σ H { s with heap:=h' }:=I.kept (t':=s.toks) fun b o e=>hx b o (ZG (Zl e)) e;exact h pins _ σ H xs _ Q I1 (by simpa using rv) hw
def yo(to ti:TE)(t:nG):TG:=fun v σ H Q=>to σ H fun o H1=>ti σ H1 fun i H2=>t o i v H2 fun H3=>Q σ H3
theorem zd{o i:Expr}{to ti:TE}{t:nG}(ho:PE X o to)(hi:PE X i ti)(hs:uB X t)(ha:∀ v,assign (.Subscript o i pos) X.env v=(do
   let ov ←holding [v] (eval o X.env)
   let iv ←holding [v,ov] (eval i X.env)
   standAt pos
   holding [v,ov,iv] (setItem ov iv v)
   release [v,ov,iv] []):=by intro _;rfl):PG X (.Subscript o i pos) (yo to ti t):=by
 intro pins s σ H v u Q I r h;rw[ha];refine z9 (wpAny_holding (thn (ho pins s σ H _ I h) fun ov s1 hz9=>?_));obtain⟨x,H1,I1,r1,q1⟩:=hz9;refine z9 (wpAny_holding (thn (hi pins s1 σ H1 _ I1 q1) fun iv s2 hz9=>?_));obtain⟨y,H2,I2,r2,q2⟩:=hz9;refine z9 (wpAny_standAt (z9 (wpAny_holding (thn (hs pins s2 σ H2 x y v ov iv u _ I2 r1 r2 r q2) fun _ s3 ⟨H3,I3,q3⟩=>?_))));exact wpAny_release ⟨σ,H3,I3,q3⟩
def iI(te:TE)(g:TG):TS:=fun D σ H=>te σ H fun x H1=>g x σ H1 D.nx
theorem zm{tg e:Expr}{te:TE}{g:TG}(he:PE X e te)(hg:PG X tg g)(hs:swapsWithSole [tg] e pos.line X.env=pure false:=by rfl)(hw:swappedStores [tg] e X.env=pure none:=by rfl)(h1:(assignEach [tg] X.env).map (·.2)=[assign tg X.env]:=by rfl):PS X (.Assign [tg] e pos) (iI te g):=by intro pins s σ H D I h;refine wpAny_Assign_stores (thn (he pins s σ H _ I h) fun v s1 hz9=>?_) hs hw;obtain⟨x,H1,I1,r1,q1⟩:=hz9;rw[h1];exact thn (hg pins s1 σ H1 x v _ I1 r1 q1) fun _ s2 q=>q
theorem zp{i:Nat}{x:Str}{e:Expr}{te:TE}{pos':Pos}(hN:X.N.Nodup)(hi:X.N[i]?=some x)(hx:Loc X.env.scope x)(he:PE X e te)(hs:swapsWith e (some (.Name x pos')) pos.line X.env=pure false:=by rfl)(hf:X.fn x=true\/X.env.scope.names.lookup x=some .local:=by first|exact .inl rfl|exact .inr rfl|assumption) :
  PS X (.Assign [.Name x pos'] e pos) (iI te (bC i)):=by
 intro pins s σ H D I h;refine wpAny_Assign_Name (thn (he pins s σ H _ I h) fun v s1 hz9=>?_) hs;obtain⟨y,H1,I1,r1,q1⟩:=hz9;exact fX I1 hN hi hx r1 (fun s2 I2=>⟨_,H1,I2,q1⟩) hf
end
structure It where
 go:Nat->Hp->Prop
 yld:Nat->Hp->V->Hp->Prop
 stop:Nat->Hp->Prop
def bF(X:Cx)(pins:List (Addr×Obj))(H:Hp)(b:Addr):Prop :=
 H b=none/\b≠X.env.locals/\b∉X.fs/\(b∈X.ex\/X.s₀.heap.objs.size<=b)/\(∀x c,X.env.cells.lookup x=some c->c≠b)/\∀p∈X.pn++pins,p.1≠b
theorem Inv.fpOk{X:Cx}{pins:List (Addr×Obj)}{σ:St}{H H':Hp}{s:Shared}{b:Addr}(I:Inv X pins σ H s)(hb:s.heap.objs.size<=b)(hn:H' b=none):bF X pins H' b:=by
 refine⟨hn,Yn (Zm I.lt hb),I.nofs hb,.inr (Zd I.sz hb),fun x c e z=>?_,fun p hp z=>?_⟩
 ·obtain⟨v,q⟩:=I.cell x c e;exact absurd (Zm q.lt (by rw[z];exact hb)) (Yx _)
 ·exact absurd (Zm (Zl (I.pin p hp).1) (by rw[z];exact hb)) (Yx _)
structure Turn(P:Program)(w:World)(K:PySem.W.Frag)(tg:Expr)(J:It)(fp:List Addr)(it:Addr)(tn:Nat->Heap->Prop):Prop where
 mem:it∈fp
 obj:∀i h,tn i h->∀b∈fp,∃o,h.get? b=some o/\∀v,o.data≠.cell v
 keep:∀i h h',tn i h->(∀b∈fp,∀o,h.get? b=some o->h'.get? b=some o)->tn i h'
 item:∀(X:Cx),X.prog=P->X.w=w->X.K=K->X.calm=true->∀(i:Nat) (pins:List (Addr×Obj)) (s:Shared) (σ:St) (H:Hp) (E:Value->Shared->Prop),Inv X pins σ H s->(∀b∈fp,bF X pins H b)->tn i s.heap->J.go i H ->
  wpAny (model P w) X.A (pyNext (.ref it)) (fun r s1=>∃ u,r=some u /\
   wpAny (model P w) X.A (letOwnedTupleGo tg (.ref it) u) (fun _ s2=>∃ x H',Inv X pins σ H' s2/\RelV x u/\J.yld i H x H'/\tn (i+1) s2.heap/\∀ b∈fp,H' b=none) E s1) E s
 done:∀(X:Cx),X.prog=P->X.w=w->X.K=K->X.calm=true->∀(i:Nat) (pins:List (Addr×Obj)) (s:Shared) (σ:St) (H:Hp) (E:Value->Shared->Prop),Inv X pins σ H s->(∀b∈fp,bF X pins H b)->tn i s.heap->J.stop i H ->
  wpAny (model P w) X.A (pyNext (.ref it)) (fun r s1=>r=none/\Inv X pins σ H s1) E s
 self:∀(A:Around) (i:Nat) (s:Shared) (Q:Value->Shared->Prop) (E:Value->Shared->Prop),tn i s.heap->Q (.ref it) s->wpAny (model P w) A (pyIter (.ref it)) Q E s
abbrev TI:=St->Hp->(It->Hp->Prop)->Prop
def PIE(X:Cx)(pins:List (Addr×Obj))(σ:St)(tg:Expr)(R:It->Hp->Prop)(itv:Value)(s2:Shared):Prop :=
 ∃(it:Addr) (fp:List Addr) (tn:Nat->Heap->Prop) (J:It) (H':Hp),itv=.ref it/\Inv X pins σ H' s2/\Turn X.prog X.w X.K tg J fp it tn/\tn 0 s2.heap/\(∀b∈fp,bF X pins H' b)/\R J H'
def PI(X:Cx)(tg iter:Expr)(wi:TI):Prop :=
 ∀(pins:List (Addr×Obj)) (s:Shared) (σ:St) (H:Hp) (R:It->Hp->Prop),Inv X pins σ H s->wi σ H R ->
  wpAny (model X.prog X.w) X.A (eval iter X.env) (fun v s1=>wpAny (model X.prog X.w) X.A (pyIter v) (PIE X pins σ tg R) X.xe s1) X.xe s
theorem ng{M:Model}{A:Around}{E:Value->Shared->Prop}{s:Shared}{tg:Expr}{it:Addr}{u:Value}{o:Obj}{n:String}{vs:Array Value}{Q:Unit->Shared->Prop}(ho:s.heap.get? it=some o)(hc:o.cls=.type n)(hd:o.data=.fields vs)(hn:["enumerate","zip","dict_itemiterator","dict_reverseitemiterator","odict_iterator","itertools.zip_longest","itertools.pairwise"].contains n=false)(hQ:Q () s):wpAny M A (letOwnedTupleGo tg (.ref it) u) Q E s:=by
 unfold letOwnedTupleGo;cases tg<;>first
  |exact Zk hQ
  | (cases u<;>first
    |exact Zk hQ
    | (refine z9 (wpAny_load ho ?_)
       rw[hc,hd];show wpAny M A (if(["enumerate","zip","dict_itemiterator","dict_reverseitemiterator","odict_iterator","itertools.zip_longest","itertools.pairwise"].contains n&&vs[0]?==some (rawInt _))=true then _ else _) Q E s;rw[BJ (by intro h;rw[hn,ZU]at h;cases h)];exact Zk hQ))
def Itl(K:PySem.W.Frag)(a:Addr):It :=
 ⟨fun i H=>∃xs x,SqL K H a xs/\xs[i]?=some x,fun i H x H'=>H'=H/\∀xs,SqL K H a xs->xs[i]?=some x,fun i H=>∃xs,SqL K H a xs/\xs.length<=i⟩
def Itt(K:PySem.W.Frag)(a:Addr):It :=
 ⟨fun i H=>∃xs x,SqT K H a xs/\xs[i]?=some x,fun i H x H'=>H'=H/\∀xs,SqT K H a xs->xs[i]?=some x,fun i H=>∃xs,SqT K H a xs/\xs.length<=i⟩
def Itr(lo:Int)(n:Nat):It:=⟨fun i _=>i<n,fun i H x H'=>H'=H/\x=.int (lo+i),fun i _=>n<=i⟩
theorem uo{P:Program}{w:World}{K:PySem.W.Frag}{tg:Expr}(a it:Addr):Turn P w K tg (Itl K a) [it] it (fun i h=>h.IsListIter it a i) where
 mem:=by simp
 obj:=fun i h st b hb=>by
  have e:b=it:=by simpa using hb
  subst e;obtain⟨o,e,c,d⟩:=st;exact⟨o,e,fun v z=>by rw[d]at z;cases z⟩
 keep:=fun i h h' st k=>st.at fun o e=>k it (by simp) o e
 item:=by intro X hP hw hK hc i pins s σ H E I hf st hg;subst hP hw hK;obtain⟨xs,x,hq,hx⟩:=hg;obtain⟨its,rv,p,hz⟩:=I.list hq;obtain⟨u,hu,ru⟩:=rv.get hx;obtain⟨f0,f1,f2,f3,f4,f5⟩:=hf it (by simp);refine wpAny_pyNext_list_item st p.isList (x:=u) (by simpa using hu) fun h' st' sb=>?_;have I1:Inv X pins σ H { s with heap:=h' }:=I.turned (t':=s.toks) (fun b o hb e=>(sb.2 b hb).trans e) f0 f1 f3 f4 f5;obtain⟨o,e,c,d⟩:=id st';exact⟨u,rfl,ng (s:={ s with heap:=h' }) e c d (by decide) ⟨x,H,I1,ru,⟨rfl,fun ys hy=>by rw[I.list_inj hy hq];exact hx⟩,st',fun b hb=>(hf b hb).1⟩⟩
 done:=by intro X hP hw hK hc i pins s σ H E I hf st hg;subst hP hw hK;obtain⟨xs,hq,hx⟩:=hg;obtain⟨its,rv,p,hz⟩:=I.list hq;obtain⟨f0,f1,f2,f3,f4,f5⟩:=hf it (by simp);have hl:=rv.length;exact wpAny_pyNext_list_end (I.ok.hd hc) st p.isList (by simp;omega) fun h' eb=>⟨rfl,I.turned (t':=s.toks) (fun b o hb e=>eb b o hb e) f0 f1 f3 f4 f5⟩
 self:=fun _ _ _ _ _ st h=>wpAny_pyIter_listiter st h
theorem rQ{P:Program}{w:World}{K:PySem.W.Frag}{tg:Expr}(a it:Addr):Turn P w K tg (Itt K a) [it] it (fun i h=>h.IsTupleIter it a i) where
 mem:=by simp
 obj:=fun i h st b hb=>by
  have e:b=it:=by simpa using hb
  subst e;obtain⟨o,e,c,d⟩:=st;exact⟨o,e,fun v z=>by rw[d]at z;cases z⟩
 keep:=fun i h h' st k=>st.at fun o e=>k it (by simp) o e
 item:=by intro X hP hw hK hc i pins s σ H E I hf st hg;subst hP hw hK;obtain⟨xs,x,hq,hx⟩:=hg;obtain⟨its,rv,p,hz⟩:=I.tuple hq;obtain⟨u,hu,ru⟩:=rv.get hx;obtain⟨f0,f1,f2,f3,f4,f5⟩:=hf it (by simp);refine wpAny_pyNext_tuple_item st (show s.heap.IsTuple a its.toArray from p) (x:=u) (by simpa using hu) fun h' st' sb=>?_;have I1:Inv X pins σ H { s with heap:=h' }:=I.turned (t':=s.toks) (fun b o hb e=>(sb.2 b hb).trans e) f0 f1 f3 f4 f5;obtain⟨o,e,c,d⟩:=id st';exact⟨u,rfl,ng (s:={ s with heap:=h' }) e c d (by decide) ⟨x,H,I1,ru,⟨rfl,fun ys hy=>by rw[I.tuple_inj hy hq];exact hx⟩,st',fun b hb=>(hf b hb).1⟩⟩
 done:=by intro X hP hw hK hc i pins s σ H E I hf st hg;subst hP hw hK;obtain⟨xs,hq,hx⟩:=hg;obtain⟨its,rv,p,hz⟩:=I.tuple hq;obtain⟨f0,f1,f2,f3,f4,f5⟩:=hf it (by simp);have hl:=rv.length;exact wpAny_pyNext_tuple_end (I.ok.hd hc) st (show s.heap.IsTuple a its.toArray from p) (by simp;omega) fun h' eb=>⟨rfl,I.turned (t':=s.toks) (fun b o hb e=>eb b o hb e) f0 f1 f3 f4 f5⟩
 self:=fun _ _ _ _ _ st h=>wpAny_pyIter_tupleiter st h
theorem rP{P:Program}{w:World}{K:PySem.W.Frag}{tg:Expr}(it:Addr)(lo:Int)(n:Nat):Turn P w K tg (Itr lo n) [it] it (fun i h=>IsRangeIter h it (lo+(i:Nat)*1) ((n:Int)-(i:Nat)) 1) where
 mem:=by simp
 obj:=fun i h st b hb=>by
  have e:b=it:=by simpa using hb
  subst e;exact⟨_,st,fun v z=>by
   have z':Data.fields _=Data.cell v:=z;cases z'⟩
 keep:=fun i h h' st k=>k it (by simp) _ st
 item:=by intro X hP hw hK hc i pins s σ H E I hf st hg;subst hP hw hK;obtain⟨f0,f1,f2,f3,f4,f5⟩:=hf it (by simp);have W:=Walks.range (prog:=X.prog) (w:=X.w) (I.ok.hd hc) it lo 1 n;refine W.item i s _ _ hg st fun v h' tk hv st' kk=>?_;obtain⟨t,rfl⟩:=hv;have I1:Inv X pins σ H { s with heap:=h',toks:=tk }:=I.turned (fun b o hb e=>kk b o (by simpa using hb) e) f0 f1 f3 f4 f5;refine⟨_,rfl,ng (s:={ s with heap:=h',toks:=tk }) (n:="range_iterator") st' rfl rfl (by decide) ⟨.int (lo+i),H,I1,⟨t,?_⟩,⟨rfl,rfl⟩,st',fun b hb=>(hf b hb).1⟩⟩;rw[Int.mul_one]
 done:=by intro X hP hw hK hc i pins s σ H E I hf st hg;subst hP hw hK;obtain⟨f0,f1,f2,f3,f4,f5⟩:=hf it (by simp);exact wpAny_pyNext_range_end (I.ok.hd hc) st (by have:n<=i:=hg;omega) fun h' eb=>⟨rfl,I.turned (t':=s.toks) (fun b o hb e=>eb b o hb e) f0 f1 f3 f4 f5⟩
 self:=fun _ _ _ _ _ st h=>wpAny_pyIter_rangeiter st h
open PySem PySem.Spec PyProof.Rows
section
variable{X:Cx}{tg:Expr}
def wn(K:PySem.W.Frag)(tl:TE):TI:=fun σ H R=>tl σ H fun x H1=>∃a,x=.ref a/\(∃xs,SqL K H1 a xs)/\R (Itl K a) H1
def yq(K:PySem.W.Frag)(tl:TE):TI:=fun σ H R=>tl σ H fun x H1=>∃a,x=.ref a/\(∃xs,SqT K H1 a xs)/\R (Itt K a) H1
theorem xA{l:Expr}{tl:TE}(hl:PE X l tl):PI X tg l (wn X.K tl):=by
 intro pins s σ H R I h;refine thn (hl pins s σ H _ I h) fun v s1 hz9=>?_;obtain⟨x,H1,I1,r1,q1⟩:=hz9;obtain⟨a,e,⟨xs,hq⟩,q⟩:=q1;subst e;cases r1;obtain⟨its,rv,p,hz⟩:=I1.list hq;refine wpAny_pyIter_list p.isList ?_;refine⟨s1.heap.objs.size,[s1.heap.objs.size],_,_,H1,rfl,I1.kept (t':=s1.toks) fun b o e=>Zb _ e,uo a _,⟨_,Zs _ rfl,rfl,rfl⟩,fun b hb=>?_,q⟩;have e:b=s1.heap.objs.size:=by simpa using hb
 subst e;exact I1.fpOk (Zg _) (I1.hok.fresh (Zg _))
theorem zh{l:Expr}{tl:TE}(hl:PE X l tl):PI X tg l (yq X.K tl):=by
 intro pins s σ H R I h;refine thn (hl pins s σ H _ I h) fun v s1 hz9=>?_;obtain⟨x,H1,I1,r1,q1⟩:=hz9;obtain⟨a,e,⟨xs,hq⟩,q⟩:=q1;subst e;cases r1;obtain⟨its,rv,p,hz⟩:=I1.tuple hq;refine wpAny_pyIter_tuple (show s1.heap.IsTuple a its.toArray from p) ?_;refine⟨s1.heap.objs.size,[s1.heap.objs.size],_,_,H1,rfl,I1.kept (t':=s1.toks) fun b o e=>Zb _ e,rQ a _,⟨_,Zs _ rfl,rfl,rfl⟩,fun b hb=>?_,q⟩;have e:b=s1.heap.objs.size:=by simpa using hb
 subst e;exact I1.fpOk (Zg _) (I1.hok.fresh (Zg _))
theorem vL{pins:List (Addr×Obj)}{σ:St}{H:Hp}{s:Shared}{R:It->Hp->Prop}{E:Value->Shared->Prop}{lo hi:Int}{t u v:Tok}{tk:Nat}(I:Inv X pins σ H s)(h1:-(2^62)<=lo)(h2:lo<2^62)(h3:-(2^62)<=hi)(h4:hi<2^62)(q:R (Itr lo (hi-lo).toNat) H):wpAny (model X.prog X.w) X.A (pyIter (.ref s.heap.objs.size)) (PIE X pins σ tg R) E { s with heap:=s.heap.push { cls:=.type "range",data:=.fields #[.int lo t,.int hi u,.int 1 v] },toks:=tk }:=by
 refine wpAny_pyIter_range (IsRange.new ..) (small_one h1 h2 h3 h4) ?_;have I1:Inv X pins σ H { s with heap:=s.heap.push { cls:=.type "range",data:=.fields #[.int lo t,.int hi u,.int 1 v] },toks:=tk }:=I.kept fun b o e=>Zb _ e;refine⟨(s.heap.push { cls:=.type "range",data:=.fields #[.int lo t,.int hi u,.int 1 v] }).objs.size,[(s.heap.push { cls:=.type "range",data:=.fields #[.int lo t,.int hi u,.int 1 v] }).objs.size],_,_,H,rfl,
  I1.kept (t':=tk) fun b o e=>Zb _ e,rP _ lo (hi - lo).toNat,?_,fun b hb=>?_,q⟩
 ·have e1:lo+((0:Nat):Int)*1=lo:=by simp
  have e2:(((hi-lo).toNat:Nat):Int)-((0:Nat):Int)=Builtin.Range.rangeSize lo hi 1:=by rw[rangeSize_one];split<;>omega
  show IsRangeIter _ _ (lo+((0:Nat):Int)*1) ((((hi-lo).toNat:Nat):Int)-((0:Nat):Int)) 1;rw[e1,e2];exact Zs _ rfl
 ·have e:b=(s.heap.push { cls:=.type "range",data:=.fields #[.int lo t,.int hi u,.int 1 v] }).objs.size:=by simpa using hb
  subst e;exact I1.fpOk (Zg _) (I1.hok.fresh (Zg _))
def wo(ta:TA):TI:=fun σ H R=>ta σ H fun vs H1=>∃j:Int,vs=[.int j]/\-(2^62)<=j/\j<2^62/\R (Itr 0 j.toNat) H1
theorem tJ{a:Expr}{ta:TA}{p pos:Pos}(hg:Gl X "range")(hm:X.mg "range" = none)(ha:PA X [a] ta)(hs:starEach [a] X.env=[(false,eval a X.env)]:=by rfl):PI X tg (.Call (.Name "range" p) [a] [] pos) (wo ta):=by
 intro pins s σ H R I h;refine Call_ (gO I hg hm boot_range (Yt (thn (ha pos pins s σ H _ I h) fun us s1 hz9=>?_) hs rfl));obtain⟨vs,H1,I1,r1,q1⟩:=hz9;obtain⟨j,e,q1,q2,q⟩:=q1;subst e;cases r1 with
 |cons r rr =>cases rr;obtain⟨t,rfl⟩:=r;exact call_range_1 (vL I1 (by omega) (by omega) q1 q2 (by simpa using q))
def zS(wi:TI)(g:TG)(tb:TS):TS:=fun D σ H=>wi σ H fun J H1=>∃W:Nat->Nat->St->Hp->Prop,(∃m,W 0 m σ H1)/\∀i m σ H,W i m σ H ->
 (J.stop i H/\D.nx σ H)\/(J.go i H/\∃N:St->Hp->Prop,(∀σ' H',N σ' H'->∃m',m'<m/\W (i+1) m' σ' H')/\∀x H',J.yld i H x H'->g x σ H' fun σ2 H2=>tb { D with nx:=N,ct:=N,bk:=D.nx } σ2 H2)
def gQ(fp:List Addr)(h:Heap):List (Addr×Obj):=fp.filterMap fun b=>(h.get? b).map fun o=>(b,o)
theorem dh{fp:List Addr}{h:Heap}{b:Addr}{o:Obj}(hb:b∈fp)(e:h.get? b=some o):(b,o)∈gQ fp h:=Yu.mpr ⟨b,hb,by rw[e];rfl⟩
theorem tq{fp:List Addr}{h:Heap}{p:Addr×Obj}(hp:p∈gQ fp h):p.1∈fp/\h.get? p.1=some p.2:=by
 obtain⟨b,hb,e⟩:=Yu.mp hp;cases q:h.get? b with
 |none=>rw[q]at e;cases e
 |some o =>rw[q]at e;have e':(b,o)=p:=Zo e;subst e';exact⟨hb,q⟩
theorem Inv.pinned{pins:List (Addr×Obj)}{σ:St}{H:Hp}{s:Shared}{fp:List Addr}(I:Inv X pins σ H s)(hf:∀b∈fp,bF X pins H b)(ho:∀b∈fp,∃o,s.heap.get? b=some o/\∀v,o.data≠.cell v):Inv X (pins++gQ fp s.heap) σ H s :=
 I.pins_of fun p hp=>(ZE.mp hp).elim (fun z=>I.pin p (ZF _ z)) fun z=>by obtain⟨hb,e⟩:=tq z;obtain⟨f0,f1,f2,_⟩:=hf p.1 hb;obtain⟨o,e',d⟩:=ho p.1 hb;rw[e]at e';cases e';exact⟨e,f0,f1,f2,d⟩
theorem Inv.unpinned{pins pl:List (Addr×Obj)}{σ:St}{H:Hp}{s:Shared}(I:Inv X (pins++pl) σ H s):Inv X pins σ H s:=I.pins_of fun p hp=>I.pin p (ZF _ (List.mem_append_left _ hp))
theorem zn{iter:Expr}{body:List Stmt}{wi:TI}{g:TG}{tb:TS}{pos:Pos}(hp:PassesOwn (model X.prog X.w) X.A X.env X.xe)(hc:X.calm=true)(hi:PI X tg iter wi)(hg:PG X tg g)(hb:PSs X body tb)(hs:∀x,foldedSetIterable iter X.env x=pure x:=by intro _;rfl):PS X (.For tg iter body [] pos) (zS wi g tb):=by
 intro pins s σ H D I h;refine wpAny_For (thn (hi pins s σ H _ I h) fun v s1 h1=>thn h1 fun itv s2 h2=>?_) hs;obtain⟨it,fp,tn,J,H2,e,I2,T,st2,f2,W,⟨m0,w0⟩,turn⟩:=h2;subst e;have stat:∀{H':Hp},(∀b∈fp,H' b=none)->∀b∈fp,bF X pins H' b:=fun hn b hb=>⟨hn b hb,(f2 b hb).2⟩
 refine codeAny_forLoop_any (fun n s'=>∃i σ' H',Inv X pins σ' H' s'/\tn i s'.heap/\(∀b∈fp,H' b=none)/\W i n σ' H') ?_ m0 ⟨0,σ,H2,I2,st2,fun b hb=>(f2 b hb).1,w0⟩;rintro n s3 ⟨i,σ3,H3,I3,st3,fr3,w3⟩;rcases turn i n σ3 H3 w3 with⟨stop,qn⟩|⟨go,N,hN,step⟩
 ·refine wpAny_passesOwn hp (thn (T.done X rfl rfl rfl hc i pins s3 σ3 H3 X.xe I3 (stat fr3) st3 stop) fun r s4 ⟨hr,I4⟩=>?_);subst hr;exact wpAny_execs_nil ⟨σ3,H3,I4,qn⟩
 ·refine wpAny_passesOwn hp (thn (T.item X rfl rfl rfl hc i pins s3 σ3 H3 X.xe I3 (stat fr3) st3 go) fun r s4 ⟨u,hr,h4⟩=>?_);subst hr;refine wpAny_passesOwn hp (thn h4 fun _ s5 hz9=>?_);obtain⟨x,H5,I5,r5,y5,st5,fr5⟩:=hz9;have I5':=I5.pinned (stat fr5) (T.obj _ _ st5);refine wpAny_passesOwn hp (thn (hg _ s5 σ3 H5 x u _ I5' r5 (step x H5 y5)) fun _ s6 ⟨σ6,H6,I6,q6⟩=>?_);refine wpAny_passesOwn hp (thn (hb _ s6 σ6 H6 _ I6 q6) fun f s7 q7=>?_);have again:∀{σ7:St} {H7:Hp},Inv X (pins++gQ fp s5.heap) σ7 H7 s7->N σ7 H7->∃m,m<n/\∃i σ' H',Inv X pins σ' H' s7/\tn i s7.heap/\(∀b∈fp,H' b=none)/\W i m σ' H':=fun{σ7 H7} I7 n7=>by obtain⟨m',hm,w7⟩:=hN σ7 H7 n7;refine⟨m',hm,i+1,σ7,H7,I7.unpinned,T.keep _ _ _ st5 fun b hb o e=>(I7.pin (b,o) (ZF _ (ZF _ (dh hb e)))).1,fun b hb=>?_,w7⟩;obtain⟨o,e,d⟩:=T.obj _ _ st5 b hb;exact(I7.pin (b,o) (ZF _ (ZF _ (dh hb e)))).2.1
  cases f with
  |next=>obtain⟨σ7,H7,I7,n7⟩:=q7;exact again I7 n7
  |cont=>obtain⟨σ7,H7,I7,n7⟩:=q7;exact again I7 n7
  |brk=>obtain⟨σ7,H7,I7,q7⟩:=q7;exact⟨σ7,H7,I7.unpinned,q7⟩
  |ret v=>obtain⟨x7,σ7,H7,I7,r7,q7⟩:=q7;exact⟨x7,σ7,H7,I7.unpinned,r7,q7⟩
end
theorem uU{K:PySem.W.Frag}{a:Addr}{xs:List V}{g:TG}{tb:TS}{D:Ends}{σ:St}{H:Hp}(Pv:Nat->St->Hp->Prop)(h0:Pv 0 σ H)(hl:∀i σ H,i<=xs.length->Pv i σ H->SqL K H a xs)(hs:∀i x σ H,xs[i]?=some x->Pv i σ H->g x σ H fun σ2 H2=>tb { D with nx:=Pv (i+1),ct:=Pv (i+1),bk:=D.nx } σ2 H2)(hd:∀σ H,Pv xs.length σ H->D.nx σ H) :
  ∃W:Nat->Nat->St->Hp->Prop,(∃m,W 0 m σ H)/\∀i m σ H,W i m σ H ->
   ((Itl K a).stop i H/\D.nx σ H)\/((Itl K a).go i H/\∃N:St->Hp->Prop,(∀σ' H',N σ' H'->∃m',m'<m/\W (i+1) m' σ' H')/\∀x H',(Itl K a).yld i H x H'->g x σ H' fun σ2 H2=>tb { D with nx:=N,ct:=N,bk:=D.nx } σ2 H2):=by
 refine⟨fun i m σ H=>m=xs.length-i/\i<=xs.length/\Pv i σ H,⟨xs.length,by simp,Yi _,h0⟩,?_⟩;rintro i m σ H ⟨rfl,hi,p⟩;have q:=hl i σ H hi p;by_cases hlt:i<xs.length
 ·refine .inr ⟨⟨xs,xs[i],q,by simp[hlt]⟩,Pv (i+1),fun σ' H' p'=>⟨xs.length-(i+1),by omega,rfl,hlt,p'⟩,fun x H' y=>?_⟩;obtain⟨e,y⟩:=y;subst e;exact hs i x σ _ (y xs q) p
 ·have e:i=xs.length:=by omega
  subst e;exact .inl ⟨⟨xs,q,Zg _⟩,hd σ H p⟩
theorem mD{lo:Int}{n:Nat}{g:TG}{tb:TS}{D:Ends}{σ:St}{H:Hp}(Pv:Nat->St->Hp->Prop)(h0:Pv 0 σ H)(hs:∀i σ H,i<n->Pv i σ H->g (.int (lo+i)) σ H fun σ2 H2=>tb { D with nx:=Pv (i+1),ct:=Pv (i+1),bk:=D.nx } σ2 H2)(hd:∀σ H,Pv n σ H->D.nx σ H) :
  ∃W:Nat->Nat->St->Hp->Prop,(∃m,W 0 m σ H)/\∀i m σ H,W i m σ H ->
   ((Itr lo n).stop i H/\D.nx σ H)\/((Itr lo n).go i H/\∃N:St->Hp->Prop,(∀σ' H',N σ' H'->∃m',m'<m/\W (i+1) m' σ' H')/\∀x H',(Itr lo n).yld i H x H'->g x σ H' fun σ2 H2=>tb { D with nx:=N,ct:=N,bk:=D.nx } σ2 H2):=by
 refine⟨fun i m σ H=>m=n-i/\i<=n/\Pv i σ H,⟨n,by simp,Yi _,h0⟩,?_⟩;rintro i m σ H ⟨rfl,hi,p⟩;by_cases hlt:i<n
 ·refine .inr ⟨hlt,Pv (i+1),fun σ' H' p'=>⟨n-(i+1),by omega,rfl,hlt,p'⟩,fun x H' y=>?_⟩;obtain⟨e,y⟩:=y;subst e y;exact hs i σ _ hlt p
 ·have e:i=n:=by omega
  subst e;exact .inl ⟨Zg _,hd σ H p⟩
open PySem PySem.Spec PyProof.Rows
abbrev R2:=V->V->Hp->VK->Prop
def OpR(X:Cx)(f:Value->Value->Sem Value)(r:R2):Prop :=
 ∀(pins:List (Addr×Obj)) (s:Shared) (σ:St) (H:Hp) (x y:V) (v u:Value) (Q:VK),Inv X pins σ H s->RelV x v->RelV y u->r x y H Q ->
  wpAny (model X.prog X.w) X.A (f v u) (EP X pins σ Q) X.xe s
def UnR(X:Cx)(f:Value->Sem Value)(r:V->Hp->VK->Prop):Prop :=
 ∀(pins:List (Addr×Obj)) (s:Shared) (σ:St) (H:Hp) (x:V) (v:Value) (Q:VK),Inv X pins σ H s->RelV x v->r x H Q ->
  wpAny (model X.prog X.w) X.A (f v) (EP X pins σ Q) X.xe s
def dN(X:Cx)(f:Value)(r:List V->Hp->VK->Prop):Prop :=
 ∀(pins:List (Addr×Obj)) (s:Shared) (σ:St) (H:Hp) (xs:List V) (us:List Value) (Q:VK),Inv X pins σ H s->Vals xs us->r xs H Q ->
  wpAny (model X.prog X.w) X.A (call f us) (EP X pins σ Q) X.xe s
def tOp(r:R2)(ta tb:TE):TE:=fun σ H Q=>ta σ H fun x H1=>tb σ H1 fun y H2=>r x y H2 Q
def tUn(r:V->Hp->VK->Prop)(ta:TE):TE:=fun σ H Q=>ta σ H fun x H1=>r x H1 Q
inductive rI(C:Int->Int->Prop)(g:Int->Int->V)(x:V)(y:V)(H:Hp)(Q:VK):Prop
 |mk (i j:_) (h0:x=.int i) (h1:y=.int j) (h2:C i j) (h3:Q (g i j) H):rI C g x y H Q
inductive rI0(g:Int->Int->V)(x:V)(y:V)(H:Hp)(Q:VK):Prop
 |mk (i j:_) (h0:x=.int i) (h1:y=.int j) (h2:Q (g i j) H):rI0 g x y H Q
def rU(g:Int->V):V->Hp->VK->Prop:=fun x H Q=>∃i,x=.int i/\Q (g i) H
section
variable{X:Cx}{a b c:Expr}{ta tb tc:TE}{pos:Pos}
theorem uF(ha:PE X a ta)(hb:PE X b tb){pins:List (Addr×Obj)}{s:Shared}{σ:St}{H:Hp}{R:V->V->Hp->Prop}(I:Inv X pins σ H s)(h:ta σ H fun x H1=>tb σ H1 fun y H2=>R x y H2){Q:Value->Shared->Prop}{f:Value->Value->Sem Value}(hf:∀v u s2 x y H2,Inv X pins σ H2 s2->RelV x v->RelV y u->R x y H2->wpAny (model X.prog X.w) X.A (f v u) Q X.xe s2) :
  wpAny (model X.prog X.w) X.A (eval a X.env) (fun v s₁=>wpAny (model X.prog X.w) X.A (eval b X.env) (fun u s₂=>wpAny (model X.prog X.w) X.A (f v u) Q X.xe s₂) X.xe s₁) X.xe s:=by
 refine thn (ha pins s σ H _ I h) fun v s1 hz9=>?_;obtain⟨x,H1,I1,r1,q1⟩:=hz9;refine thn (hb pins s1 σ H1 _ I1 q1) fun u s2 hz9=>?_;obtain⟨y,H2,I2,r2,q2⟩:=hz9;exact hf v u s2 x y H2 I2 r1 r2 q2
theorem Ax{op:Operator}{r:R2}(ho:OpR X (binaryOp op) r)(ha:PE X a ta)(hb:PE X b tb):PE X (.BinOp a op b pos) (tOp r ta tb):=by intro pins s σ H Q I h;exact wpAny_BinOp (uF ha hb I h fun v u s2 x y H2 I2 rx ry q=>ho pins s2 σ H2 x y v u Q I2 rx ry q)
theorem Az{op:UnaryOp}{r:V->Hp->VK->Prop}(ho:UnR X (unaryOp op) r)(ha:PE X a ta):PE X (.UnaryOp op a pos) (tUn r ta):=by intro pins s σ H Q I h;exact UnaryOp_ (thn (ha pins s σ H _ I h) fun v s1 ⟨x,H1,I1,r1,q1⟩=>ho pins s1 σ H1 x v Q I1 r1 q1)
theorem opI{f:Value->Value->Sem Value}{C:Int->Int->Prop}{g:Int->Int->Int}(rule:∀(i j:Int) (t u:Tok) (s:Shared) (Q:Value->Shared->Prop) (E:Value->Shared->Prop),C i j->Q (.int (g i j) s.toks) { s with toks:=s.toks+1 }->wpAny (model X.prog X.w) X.A (f (.int i t) (.int j u)) Q E s) :
  OpR X f (rI C fun i j=>.int (g i j)):=by
 intro pins s σ H x y v u Q I rx ry h;obtain⟨i,j,rfl,rfl,hc,q⟩:=h;obtain⟨t,rfl⟩:=rx;obtain⟨t',rfl⟩:=ry;exact rule i j t t' s _ _ hc ⟨.int (g i j),H,I.tok _,⟨_,rfl⟩,q⟩
theorem yJ{f:Value->Value->Sem Value}{g:Int->Int->Int}(rule:∀(i j:Int) (t u:Tok) (s:Shared) (Q:Value->Shared->Prop) (E:Value->Shared->Prop),Q (.int (g i j) s.toks) { s with toks:=s.toks+1 }->wpAny (model X.prog X.w) X.A (f (.int i t) (.int j u)) Q E s) :
  OpR X f (rI0 fun i j=>.int (g i j)):=by
 intro pins s σ H x y v u Q I rx ry h;obtain⟨i,j,rfl,rfl,q⟩:=h;obtain⟨t,rfl⟩:=rx;obtain⟨t',rfl⟩:=ry;exact rule i j t t' s _ _ ⟨.int (g i j),H,I.tok _,⟨_,rfl⟩,q⟩
theorem rf{f:Value->Value->Sem Value}{g:Int->Int->Bool}(rule:∀(i j:Int) (t u:Tok) (s:Shared) (Q:Value->Shared->Prop) (E:Value->Shared->Prop),Q (.bool (g i j)) s->wpAny (model X.prog X.w) X.A (f (.int i t) (.int j u)) Q E s) :
  OpR X f (rI0 fun i j=>.bl (g i j)):=by
 intro pins s σ H x y v u Q I rx ry h;obtain⟨i,j,rfl,rfl,q⟩:=h;obtain⟨t,rfl⟩:=rx;obtain⟨t',rfl⟩:=ry;exact rule i j t t' s _ _ ⟨.bl (g i j),H,I,rfl,q⟩
def xY(i j:Int):Prop:=0<j/\j<1073741824
def xZ(i j:Int):Prop:=0<=j/\j<=1000000/\i.natAbs<2^64
def CMul(i j:Int):Prop:=(-(2^64)<i/\i<2^64)\/(-(2^64)<j/\j<2^64)
theorem CMul.ok{i j:Int}(h:CMul i j):IntMulOk i j:=by
 rcases h with⟨h1,h2⟩|⟨h1,h2⟩
 ·exact .of_left (intBits_le_64 h1 h2)
 ·exact .of_right (intBits_le_64 h1 h2)
theorem yK:OpR X (binaryOp .Add) (rI0 fun i j=>.int (i+j)):=yJ fun _ _ _ _ _ _ _ q=>add_int q
theorem yR:OpR X (binaryOp .Sub) (rI0 fun i j=>.int (i-j)):=yJ fun _ _ _ _ _ _ _ q=>sub_int q
theorem yO:OpR X (binaryOp .Mult) (rI CMul fun i j=>.int (i*j)):=opI fun _ _ _ _ _ _ _ hc q=>mul_int q hc.ok
theorem xt:OpR X (binaryOp .FloorDiv) (rI xY fun i j=>.int (i / j)):=opI fun i j _ _ _ _ _ hc q=>by have h1:(0:Int)<j:=hc.1;have h2:j<1073741824:=hc.2;exact floordiv_int (by omega) (by rw[Int.fdiv_eq_ediv_of_nonneg i (by omega)];exact q) (.inl (PyProof.noPylong_small (by omega)))
theorem yN:OpR X (binaryOp .Mod) (rI (fun _ j=>0<j) fun i j=>.int (i%j)):=opI fun i j _ _ _ _ _ hc q=>by have h1:(0:Int)<j:=hc;exact mod_int' (by omega) (by rw[Int.fmod_eq_emod_of_nonneg i (by omega)];exact q)
theorem yQ:OpR X (binaryOp .Pow) (rI xZ fun i j=>.int (i^j.toNat)):=opI fun _ _ _ _ _ _ _ hc q=>pow_int_small hc.1 hc.2.1 hc.2.2 q
theorem unI{f:Value->Sem Value}{g:Int->Int}(rule:∀(i:Int) (t:Tok) (s:Shared) (Q:Value->Shared->Prop) (E:Value->Shared->Prop),Q (.int (g i) s.toks) { s with toks:=s.toks+1 }->wpAny (model X.prog X.w) X.A (f (.int i t)) Q E s) :
  UnR X f (rU fun i=>.int (g i)):=by
 intro pins s σ H x v Q I rx h;obtain⟨i,rfl,q⟩:=h;obtain⟨t,rfl⟩:=rx;exact rule i t s _ _ ⟨.int (g i),H,I.tok _,⟨_,rfl⟩,q⟩
theorem zZ:UnR X (unaryOp .USub) (rU fun i=>.int (-i)):=unI fun _ _ _ _ _ q=>neg_int q
end
def zI:V->V->Bool
 |.non,.non=>true|.non,.int _=>true|.int _,.non=>true|.non,.bl _=>true|.bl _,.non=>true|.non,.str _=>true|.str _,.non=>true
 |.int _,.int _=>true|.bl _,.bl _=>true|.str _,.str _=>true|.byt _,.byt _=>true
 |.int _,.str _=>true|.str _,.int _=>true|.bl _,.str _=>true|.str _,.bl _=>true
 |_,_=>false
def rEq:R2:=fun x y H Q=>zI x y=true/\Q (.bl (decide (x=y))) H
def rNe:R2:=fun x y H Q=>zI x y=true/\Q (.bl (!decide (x=y))) H
theorem pP{i j:Int}:decide (V.int i=V.int j)=(i==j):=by rw[y7];simp
theorem sB{i j:Bool}:decide (V.bl i=V.bl j)=(i==j):=by rw[y7];simp
theorem pQ{i j:Str}:decide (V.str i=V.str j)=(i==j):=by rw[y7];simp
theorem pO{i j:Array UInt8}:decide (V.byt i=V.byt j)=(i.toList==j.toList):=by rw[y7];cases i;cases j;simp
section
variable{X:Cx}{a b c:Expr}{ta tb tc:TE}{pos:Pos}
theorem aN{pins:List (Addr×Obj)}{σ:St}{H:Hp}{s:Shared}{Q:VK}{k k':Bool}(I:Inv X pins σ H s)(q:Q (.bl k) H)(e:k=k'):EP X pins σ Q (.bool k') s:=by subst e;exact⟨.bl k,H,I,rfl,q⟩
theorem Am:OpR X (compareOp .Eq) rEq:=by
 intro pins s σ H x y v u Q I rx ry h;obtain⟨hs,q⟩:=h;cases x with
 |non =>
  cases rx;cases y with
  |non=>cases ry;exact PySem.EqNone.eq_none_none (aN I q (by simp))
  |bl j=>cases ry;exact PySem.EqNone.eq_none_bool (aN I q (by simp))
  |int j=>obtain⟨t',rfl⟩:=ry;exact PySem.EqNone.eq_none_int (aN I q (by simp))
  |str j=>obtain⟨t',rfl⟩:=ry;exact PySem.EqNone.eq_none_str (aN I q (by simp))
  |_=>exact absurd (show false=true from hs) Zi
 |bl i =>
  cases rx;cases y with
  |non=>cases ry;exact PySem.EqNone.eq_bool_none (aN I q (by simp))
  |bl j=>cases ry;exact eq_bool (aN I q sB)
  |str j=>obtain⟨t',rfl⟩:=ry;exact PySem.EqMixed.eq_bool_str (aN I q (by simp))
  |_=>exact absurd (show false=true from hs) Zi
 |int i =>
  obtain⟨t,rfl⟩:=rx;cases y with
  |non=>cases ry;exact PySem.EqNone.eq_int_none (aN I q (by simp))
  |int j=>obtain⟨t',rfl⟩:=ry;exact eq_int (aN I q pP)
  |str j=>obtain⟨t',rfl⟩:=ry;exact PySem.EqMixed.eq_int_str (aN I q (by simp))
  |_=>exact absurd (show false=true from hs) Zi
 |str i =>
  obtain⟨t,rfl⟩:=rx;cases y with
  |non=>cases ry;exact PySem.EqNone.eq_str_none (aN I q (by simp))
  |bl j=>cases ry;exact PySem.EqMixed.eq_str_bool (aN I q (by simp))
  |int j=>obtain⟨t',rfl⟩:=ry;exact PySem.EqMixed.eq_str_int (aN I q (by simp))
  |str j=>obtain⟨t',rfl⟩:=ry;exact eq_str (aN I q pQ)
  |_=>exact absurd (show false=true from hs) Zi
 |byt i =>
  obtain⟨t,rfl⟩:=rx;cases y with
  |byt j=>obtain⟨t',rfl⟩:=ry;exact PySem.W.eq_bytes (aN I q pO)
  |_=>exact absurd (show false=true from hs) Zi
 |_=>cases y<;>exact absurd (show false=true from hs) Zi
theorem Ar:OpR X (compareOp .NotEq) rNe:=by
 intro pins s σ H x y v u Q I rx ry h;obtain⟨hs,q⟩:=h;cases x with
 |non =>
  cases rx;cases y with
  |non=>cases ry;exact PySem.EqNone.ne_none_none (aN I q (by simp))
  |bl j=>cases ry;exact PySem.EqNone.ne_none_bool (aN I q (by simp))
  |int j=>obtain⟨t',rfl⟩:=ry;exact PySem.EqNone.ne_none_int (aN I q (by simp))
  |str j=>obtain⟨t',rfl⟩:=ry;exact PySem.EqNone.ne_none_str (aN I q (by simp))
  |_=>exact absurd (show false=true from hs) Zi
 |bl i =>
  cases rx;cases y with
  |non=>cases ry;exact PySem.EqNone.ne_bool_none (aN I q (by simp))
  |bl j=>cases ry;exact ne_bool (aN I q (ZT not sB))
  |str j=>obtain⟨t',rfl⟩:=ry;exact PySem.EqMixed.ne_bool_str (aN I q (by simp))
  |_=>exact absurd (show false=true from hs) Zi
 |int i =>
  obtain⟨t,rfl⟩:=rx;cases y with
  |non=>cases ry;exact PySem.EqNone.ne_int_none (aN I q (by simp))
  |int j=>obtain⟨t',rfl⟩:=ry;exact ne_int (aN I q (ZT not pP))
  |str j=>obtain⟨t',rfl⟩:=ry;exact PySem.EqMixed.ne_int_str (aN I q (by simp))
  |_=>exact absurd (show false=true from hs) Zi
 |str i =>
  obtain⟨t,rfl⟩:=rx;cases y with
  |non=>cases ry;exact PySem.EqNone.ne_str_none (aN I q (by simp))
  |bl j=>cases ry;exact PySem.EqMixed.ne_str_bool (aN I q (by simp))
  |int j=>obtain⟨t',rfl⟩:=ry;exact PySem.EqMixed.ne_str_int (aN I q (by simp))
  |str j=>obtain⟨t',rfl⟩:=ry;exact ne_str (aN I q (ZT not pQ))
  |_=>exact absurd (show false=true from hs) Zi
 |byt i =>
  obtain⟨t,rfl⟩:=rx;cases y with
  |byt j=>obtain⟨t',rfl⟩:=ry;exact PySem.W.ne_bytes (aN I q (ZT not pO))
  |_=>exact absurd (show false=true from hs) Zi
 |_=>cases y<;>exact absurd (show false=true from hs) Zi
theorem Aq:OpR X (compareOp .Lt) (rI0 fun i j=>.bl (decide (i<j))):=rf fun _ _ _ _ _ _ _ q=>lt_int q
theorem Ap:OpR X (compareOp .LtE) (rI0 fun i j=>.bl (decide (i<=j))):=rf fun _ _ _ _ _ _ _ q=>le_int q
theorem Ao:OpR X (compareOp .Gt) (rI0 fun i j=>.bl (decide (j<i))):=rf fun _ _ _ _ _ _ _ q=>gt_int q
theorem An:OpR X (compareOp .GtE) (rI0 fun i j=>.bl (decide (j<=i))):=rf fun _ _ _ _ _ _ _ q=>ge_int q
theorem yM:OpR X (compareOp .Is) (fun x y H Q=>y=.non/\Q (.bl (decide (x=.non))) H):=by
 intro pins s σ H x y v u Q I rx ry h;obtain⟨rfl,q⟩:=h;cases ry;refine is_none_gen (aN I q ?_);cases x<;>first
  |(cases rx;rfl)
  |(obtain⟨t,rfl⟩:=rx;rfl)
theorem on(b:Expr){op:CmpOp}(h:op≠.In:=by decide)(h2:op≠.NotIn:=by decide):behindInMarks op b=false:=by
 have e1:(op==CmpOp.In)=false:=by cases op<;>first|rfl|exact absurd rfl h
 have e2:(op==CmpOp.NotIn)=false:=by cases op<;>first|rfl|exact absurd rfl h2
 cases b<;>simp[behindInMarks,e1,e2]
theorem xw{op:CmpOp}{r:R2}(ho:OpR X (compareOp op) r)(ha:PE X a ta)(hb:PE X b tb)(hm:behindInMarks op b=false):PE X (.Compare a [op] [b] pos) (tOp r ta tb):=by intro pins s σ H Q I h;exact wpAny_Compare1 (uF ha hb I h fun v u s2 x y H2 I2 rx ry q=>ho pins s2 σ H2 x y v u Q I2 rx ry q) hm
def lv(t:TE):TT:=fun σ H Q=>t σ H fun x H1=>IsB x H1 Q
theorem xH{op:CmpOp}{r:R2}(ho:OpR X (compareOp op) r)(ha:PE X a ta)(hb:PE X b tb)(hm:behindInMarks op b=false):PT X (.Compare a [op] [b] pos) (lv (tOp r ta tb)):=by
 intro pins s σ H Q I h;refine wpAny_isTrue_Compare1 (thn (ha pins s σ H _ I h) fun v s1 ⟨x,H1,I1,r1,q1⟩=>thn (hb pins s1 σ H1 _ I1 q1) fun u s2 ⟨y,H2,I2,r2,q2⟩ =>
  thn (ho pins s2 σ H2 x y v u _ I2 r1 r2 q2) fun c s3 ⟨z,H3,I3,r3,k,e,q3⟩=>?_) hm
 subst e;cases r3;exact ZZ ⟨H3,I3,q3⟩
def lu(r r':R2)(ta tb tc:TE):TE:=fun σ H Q=>ta σ H fun x H1=>tb σ H1 fun y H2=>r x y H2 fun z H3=>∃k,z=.bl k /\
 (if k=true then tc σ H3 fun w' H4=>r' y w' H4 Q else Q (.bl false) H3)
theorem vt{op op':CmpOp}{r r':R2}(ho:OpR X (compareOp op) r)(ho':OpR X (compareOp op') r')(ha:PE X a ta)(hb:PE X b tb)(hc:PE X c tc)(hm:lastMarks [op,op'] [b,c]=false:=by with_unfolding_all rfl):PE X (.Compare a [op,op'] [b,c] pos) (lu r r' ta tb tc):=by
 intro pins s σ H Q I h;refine Compare_chain (thn (ha pins s σ H _ I h) fun v s1 ⟨x,H1,I1,r1,q1⟩=>chain_link (thn (hb pins s1 σ H1 _ I1 q1) fun u s2 ⟨y,H2,I2,r2,q2⟩ =>
  thn (ho pins s2 σ H2 x y v u _ I2 r1 r2 q2) fun d s3 ⟨z,H3,I3,r3,k,e,q3⟩=>?_)) hm
 subst e;cases r3;refine ZZ ?_;cases k with
 |false=>exact ite_ff ⟨.bl false,H3,I3,rfl,q3⟩
 |true=>exact ite_tt (chain_last (thn (hc pins s3 σ H3 _ I3 q3) fun w' s4 ⟨z',H4,I4,r4,q4⟩=>ho' pins s4 σ H4 y z' u w' Q I4 r2 r4 q4))
theorem vH{op op':CmpOp}{r r':R2}(ho:OpR X (compareOp op) r)(ho':OpR X (compareOp op') r')(ha:PE X a ta)(hb:PE X b tb)(hc:PE X c tc)(hm:lastMarks [op,op'] [b,c]=false:=by with_unfolding_all rfl):PT X (.Compare a [op,op'] [b,c] pos) (lv (lu r r' ta tb tc)):=by
 intro pins s σ H Q I h;refine isTrue_chain (thn (ha pins s σ H _ I h) fun v s1 ⟨x,H1,I1,r1,q1⟩=>test_link (thn (hb pins s1 σ H1 _ I1 q1) fun u s2 ⟨y,H2,I2,r2,q2⟩ =>
  thn (ho pins s2 σ H2 x y v u _ I2 r1 r2 q2) fun d s3 ⟨z,H3,I3,r3,k,e,q3⟩=>?_)) hm
 subst e;cases r3;refine ZZ ?_;cases k with
 |false =>obtain⟨k',e',q'⟩:=q3;cases e';exact ite_ff ⟨H3,I3,q'⟩
 |true =>refine ite_tt (test_last (thn (hc pins s3 σ H3 _ I3 q3) fun w' s4 ⟨z',H4,I4,r4,q4⟩=>thn (ho' pins s4 σ H4 y z' u w' _ I4 r2 r4 q4) fun d' s5 hz9=>?_));obtain⟨z2,H5,I5,r5,k2,e2,q5⟩:=hz9;subst e2;cases r5;exact ZZ ⟨H5,I5,q5⟩
theorem iS:(sizeLine:Nat)<2^63:=by rw[sizeLine_eq];decide
theorem rg:OpR X (binaryOp .Add) (fun x y H Q=>∃i j,x=.str i/\y=.str j/\i.length+j.length<=sizeLine/\Q (.str (i++j)) H):=by intro pins s σ H x y v u Q I rx ry h;obtain⟨i,j,rfl,rfl,hz,q⟩:=h;obtain⟨t,rfl⟩:=rx;obtain⟨t',rfl⟩:=ry;exact add_str (fun t' tk=>⟨.str (i++j),H,I.tok _,⟨_,rfl⟩,q⟩) hz
theorem cW{x:V}{us:List Value}(r:Vals [x] us):∃u,us=[u]/\RelV x u:=by
 cases r with
 |cons r1 r2=>cases r2;exact⟨_,rfl,r1⟩
theorem lB{x y:V}{us:List Value}(r:Vals [x,y] us):∃u w',us=[u,w']/\RelV x u/\RelV y w':=by
 cases r with
 |cons r1 r2 =>
  cases r2 with
  |cons r3 r4=>cases r4;exact⟨_,_,rfl,r1,r3⟩
theorem sr(hc:X.calm=true):dN X (.builtin "max") (fun xs H Q=>∃i j,xs=[.int i,.int j]/\Q (.int (if j>i then j else i)) H):=by
 intro pins s σ H xs us Q I r h;obtain⟨i,j,rfl,q⟩:=h;obtain⟨u,w',rfl,⟨t,rfl⟩,⟨t',rfl⟩⟩:=lB r;refine max_two_ints (I.ok.hd hc) fun h' tk k=>⟨_,H,I.kept k,?_,q⟩
 by_cases hj:j>i
 ·rw[BK hj,BK hj];exact⟨_,rfl⟩
 ·rw[BJ hj,BJ hj];exact⟨_,rfl⟩
theorem sq:dN X (.type "int") (fun xs H Q=>(∃i,xs=[.int i]/\Q (.int i) H)\/∃k,xs=[.bl k]/\Q (.int (if k then 1 else 0)) H):=by
 intro pins s σ H xs us Q I r h;rcases h with⟨i,rfl,q⟩|⟨k,rfl,q⟩
 ·obtain⟨u,rfl,t,rfl⟩:=cW r;exact call_int_int ⟨.int i,H,I,⟨_,rfl⟩,q⟩
 ·obtain⟨u,rfl,r1⟩:=cW r;cases r1;exact call_int_bool ⟨.int (if k then 1 else 0),H,I.tok _,⟨_,rfl⟩,q⟩
end
open PySem PySem.Spec PyProof.Rows
structure ObjM(h:Heap)(x dx C:Addr)(mA:Str->Option Value):Prop where
 obj:h.get? x=some (PySem.W.instObj C dx)
 ns:h.Ns1 dx mA
 ne:dx≠x
theorem sT{h:Heap}{dx:Addr}{mA:Str->Option Value}(n:h.Ns1 dx mA):∃od,h.get? dx=some od/\∀name,PySem.W.lookIn name od=some (mA name):=by
 obtain⟨o,es,ep,ho,hd,hk,_,hm⟩:=n;refine⟨o,ho,fun name=>?_⟩;have e:=hm name;unfold nsFind findBy at e;rw[<-Array.find?_toList]at e;unfold PySem.W.lookIn;rw[hd];dsimp only;split
 ·rename_i y q;rw[q]at e;exact ZT some e
 ·rename_i q;rw[q]at e;have a:es.toList.any (·.refKey)=false:=by rw[List.any_eq_false];intro y hy;obtain⟨z,t,hkey⟩:=hk y (Array.mem_toList_iff.mp hy);simp[DictEntry.refKey,hkey]
  have a':¬es.toList.any (·.refKey)=true:=by rw[a];exact Zi
  rw[BJ a'];exact ZT some e
theorem ObjM.look{h:Heap}{x dx C:Addr}{mA:Str->Option Value}(I:ObjM h x dx C mA):∃od,PySem.W.InstAt h x (PySem.W.instObj C dx) C (some od)/\∀name,PySem.W.lookIn name od=some (mA name) :=
 let⟨od,ho,hl⟩:=sT I.ns
 ⟨od,⟨I.obj,rfl,rfl,ho⟩,hl⟩
section
variable{P:Program}{w:World}{H H':Hp}{h h':Heap}{a C dx:Addr}{fs fs':List (Str×V)}
theorem wZ(hok:HOk P w H h)(e:H a=some (.ins C dx fs)):∃mA,ObjM h a dx C mA/\(∀f,uC (fs.lookup f) (mA f))/\PySem.Within mA (fs.map (·.1))/\fs.length<=1000/\H dx=some (.own a):=by
 obtain⟨d,z,ne,ob,mA,n,r,q⟩:=(show ObjOk P w H h a (.ins C dx fs)from hok a _ e)
 exact⟨mA,⟨ob,n,ne⟩,r,q,z,d⟩
end
structure Cls(K:PySem.W.Frag)(C:Addr):Prop where
 pg:PySem.W.plainGet K C Str.empty=true
 hd:PySem.W.hasDictIn K C=true
 po:PySem.W.plainOver K C=true
 sa:PySem.W.findIn K (.ref C) "__setattr__" = some (some (.builtin "object.__setattr__"))
theorem Cls.get{K:PySem.W.Frag}{C:Addr}(c:Cls K C)(f:Str):PySem.W.plainGet K C f=true:=c.pg
structure Con(K:PySem.W.Frag)(C:Addr)(f:Str)(v:V)(u:Value):Prop where
 at_:PySem.W.findIn K (.ref C) f=some (some u)
 rel:RelV v u
 get:PySem.W.specialIn K u "__get__" = some none
 cp:PySem.W.copiedNames.contains f=false
structure Meth(K:PySem.W.Frag)(C:Addr)(m:Str)(f:Addr):Prop where
 at_:PySem.W.findIn K (.ref C) m=some (some (.ref f))
 fn:PySem.W.isFn K (.ref f)=true
 kp:PySem.W.keepIn K (.ref f)=true
section
variable{X:Cx}{pins:List (Addr×Obj)}{σ:St}{H:Hp}{s:Shared}{A:Around}{E:Value->Shared->Prop}{Q:Value->Shared->Prop}{c:Value}{b:Bool}
inductive TyOf(K:PySem.W.Frag)(H:Hp):V->Value->Prop where
 |non:TyOf K H .non (.type "NoneType")
 |bl (x:Bool):TyOf K H (.bl x) (.type "bool")
 |int (i:Int):TyOf K H (.int i) (.type "int")
 |str (x:Str):TyOf K H (.str x) (.type "str")
 |flt (x:UInt64):TyOf K H (.flt x) (.type "float")
 |lst {a:Addr} {xs:List V} (e:H a=some (.lst xs)):TyOf K H (.ref a) (.type "list")
 |frz {a:Addr} {o:Obj} {xs:List V} (e:H a=some (.frz o (.lst xs))):TyOf K H (.ref a) (.type "list")
 |tup {a:Addr} {xs:List V} (e:H a=some (.tup xs)):TyOf K H (.ref a) (.type "tuple")
 |dK {a:Addr} {kvs:List (Key×V)} (e:H a=some (.dK kvs)):TyOf K H (.ref a) (.type "dict")
 |dT {a:Addr} {kvs:List (List Key×V)} (e:H a=some (.dT kvs)):TyOf K H (.ref a) (.type "dict")
 |ins {a C dx:Addr} {fs:List (Str×V)} (e:H a=some (.ins C dx fs)) (cl:Cls K C) (ha:PySem.W.findIn K (.ref C) "__class__" = some (some (.builtin "object.__class__")))
   (hn:PySem.W.specialIn K (.builtin "object.__class__") "__get__" = some (some (.builtin "getset_descriptor.__get__"))) (htk:PySem.W.takesIn K (.builtin "object.__class__")=some true)
   (hm:PySem.W.mroIn K C (.type "object")=some true):TyOf K H (.ref a) (.ref C)
theorem mE{x:V}{u t:Value}(I:Inv X pins σ H s)(rx:RelV x u)(ty:TyOf X.K H x t)(e:PySem.W.kitOne X.K t c=some b)(h:∀tk,Q (.bool b) { s with toks:=tk }) :
  wpAny (model X.prog X.w) A (call (.builtin "isinstance") [u,c]) Q E s:=by
 cases ty with
 |non=>cases(show u=Value.none from rx);exact Z6 PySem.W.kitx_none I.kIn True.intro e (fun z=>nomatch z) h
 |bl y=>cases(show u=Value.bool y from rx);exact Z6 PySem.W.kitx_bool I.kIn True.intro e (fun z=>nomatch z) h
 |int i=>obtain⟨t,q⟩:=(show∃t,u=Value.int i t from rx);cases q;exact Z6 PySem.W.kitx_int I.kIn True.intro e (fun z=>nomatch z) h
 |str y=>obtain⟨t,q⟩:=(show∃t,u=Value.str y t from rx);cases q;exact Z6 PySem.W.kitx_str I.kIn True.intro e (fun z=>nomatch z) h
 |flt y=>obtain⟨t,q⟩:=(show∃t,u=Value.float y t from rx);cases q;exact Z6 PySem.W.kitx_float I.kIn True.intro e (fun z=>nomatch z) h
 |@lst a xs ea =>
  cases(show u=Value.ref a from rx);obtain⟨_,_,n,_,h1⟩:=(show ObjOk X.prog X.w H s.heap a (.lst xs)from I.hok a _ ea)
  exact Z6 PySem.W.kitx_list I.kIn ⟨_,h1,rfl⟩ e (fun z=>nomatch z) h
 |@frz a ob xs ea =>
  cases(show u=Value.ref a from rx);obtain⟨_,_,_,n,_,h1⟩:=(show ObjOk X.prog X.w H s.heap a (.frz ob (.lst xs))from I.hok a _ ea)
  exact Z6 PySem.W.kitx_list I.kIn ⟨_,h1,rfl⟩ e (fun z=>nomatch z) h
 |@tup a xs ea =>
  cases(show u=Value.ref a from rx);obtain⟨_,_,_,p⟩:=(show ObjOk X.prog X.w H s.heap a (.tup xs)from I.hok a _ ea)
  obtain⟨o,h1,h2,_⟩:=p;exact Z6 PySem.W.kitx_tuple I.kIn ⟨o,h1,h2⟩ e (fun z=>nomatch z) h
 |@dK a kvs ea =>
  cases(show u=Value.ref a from rx);obtain⟨_,_,vs,_,p⟩:=(show ObjOk X.prog X.w H s.heap a (.dK kvs)from I.hok a _ ea)
  obtain⟨o,es,ep,h1,h2,_⟩:=p;exact Z6 PySem.W.kitx_dict I.kIn ⟨o,h1,h2.1⟩ e (fun z=>nomatch z) h
 |@dT a kvs ea =>
  cases(show u=Value.ref a from rx);obtain⟨_,_,xs,_,o,es,ep,h1,h2,_⟩:=(show ObjOk X.prog X.w H s.heap a (.dT kvs)from I.hok a _ ea)
  exact Z6 PySem.W.kitx_dict I.kIn ⟨o,h1,h2.1⟩ e (fun z=>nomatch z) h
 |@ins a C dx fs ea cl ha hn htk hm =>cases(show u=Value.ref a from rx);obtain⟨mA,O,_⟩:=wZ I.hok ea;obtain⟨od,J,_⟩:=O.look;exact Z6 (PySem.W.kitx_own (cl.get _) cl.hd ha hn htk hm) I.kIn J e (fun z=>nomatch z) h
end
open PySem PySem.Spec PyProof.Rows
structure Room(k:Nat)(A:Around):Prop where
 hd:A.handled=none
 dp:A.depth+3*k+5<recursionLimit
 un:A.units+16*k+200<cLine
theorem Room.mono{j k:Nat}{A:Around}(r:Room k A)(h:j<=k):Room j A:=⟨r.hd,by have:=r.dp;omega,by have:=r.un;omega⟩
theorem Room.deeper{k:Nat}{A:Around}(r:Room (k+1) A)(env:Env):Room k (A.deeper env) :=
 ⟨r.hd,by have:=r.dp;show A.depth+1+3*k+5<_;omega,by have:=r.un;show A.units+3+16*k+200<_;omega⟩
theorem Room.depth{k:Nat}{A:Around}(r:Room k A):A.depth<recursionLimit:=by have:=r.dp;omega
theorem Room.units{k:Nat}{A:Around}(r:Room k A):A.units+64<cLine:=by have:=r.un;omega
def iJ:TA:=fun _ H Q=>Q [] H
def dS(ta:TE)(tr:TA):TA:=fun σ H Q=>ta σ H fun x H1=>tr σ H1 fun xs H2=>Q (x::xs) H2
section
variable{X:Cx}{e:Expr}{es:List Expr}{te:TE}{t:TA}{pos:Pos}
theorem fR:PA X [] iJ:=fun _ _ _ _ H Q I h=>Calls.spliced_nil ⟨[],H,I,.nil,h⟩
theorem dL(ha:PE X e te)(hr:PA X es t)(hs:starEach (e::es) X.env=(false,eval e X.env)::starEach es X.env:=by rfl):PA X (e::es) (dS te t):=by intro pos pins s σ H Q I h;rw[hs];show wpAny _ _ (spliced ((false,eval e X.env)::backTo pos (starEach es X.env))) _ _ s;refine Calls.spliced_cons (thn (ha pins s σ H _ I h) fun u s1 hz9=>?_);obtain⟨x,H1,I1,r1,q1⟩:=hz9;exact thn (hr pos pins s1 σ H1 _ I1 q1) fun us s2 ⟨xs,H2,I2,r2,q2⟩=>⟨x::xs,H2,I2,.cons r1 r2,q2⟩
def zW(t:TA):TE:=fun σ H Q=>t σ H fun xs H1=>xs.length<=sizeLine/\∀p,H1 p=none->Q (.ref p) (upd H1 p (.tup xs))
def zT(t:TA):TE:=fun σ H Q=>t σ H fun xs H1=>xs.length<=sizeLine/\∀p,H1 p=none->Q (.ref p) (upd H1 p (.lst xs))
theorem zb{x1}(h:PA X es t):PE X (.Tuple es x1 pos) (zW t):=by intro pins s σ H Q I hq;refine wpAny_Tuple_spliced (thn (h pos pins s σ H _ I hq) fun us s1 ⟨xs,H1,I1,r,z,q⟩=>⟨by rw[<-r.length];exact z,?_⟩);have hf:H1 s1.heap.objs.size=none:=I1.hok.fresh (Zg _);refine⟨.ref s1.heap.objs.size,upd H1 s1.heap.objs.size (.tup xs),I1.laid (t':=s1.toks) (fun b u e=>Zb _ e) (Zg _) ?_,rfl,q _ hf⟩;exact⟨z,us,r,⟨_,Zs _ rfl,rfl,_,rfl⟩⟩
theorem yV(h:PA X es t):PE X (.List es pos) (zT t):=by intro pins s σ H Q I hq;refine wpAny_List_spliced (thn (h pos pins s σ H _ I hq) fun us s1 ⟨xs,H1,I1,r,z,q⟩=>⟨by rw[<-r.length];exact z,?_⟩);have hf:H1 s1.heap.objs.size=none:=I1.hok.fresh (Zg _);refine⟨.ref s1.heap.objs.size,upd H1 s1.heap.objs.size (.lst xs),I1.laid (t':=s1.toks) (fun b u e=>Zb _ e) (Zg _) ?_,rfl,q _ hf⟩;exact⟨z,us,0,r,Zs _ rfl⟩
end
abbrev Sp:=List V->Hp->VK->XK->Prop
abbrev CXT:=List Env->Hp->Shared->XK->Value->Shared->Prop
structure Env0(P:Program)(w:World)(K:PySem.W.Frag)(mg:Str->Option Value)(base:Heap)(A:Around)(outer:List Env)(s:Shared)(H:Hp):Prop where
 frames:A.frames=some outer
 mod:Mod K mg base
 bs:∀b o,base.get? b=some o->s.heap.get? b=some o/\H b=none
 bsz:base.objs.size<=s.heap.objs.size
 funs:s.heap.FunFrames base outer
 frf:∀b∈frs outer,H b=none
 hok:HOk P w H s.heap
 bare:AllBare s.gens
def CE(outer:List Env)(P:Program)(w:World)(H:Hp)(s:Shared)(Q:VK)(u:Value)(s':Shared):Prop :=
 ∃v H',s'.os=s.os/\AllBare s'.gens/\Un (frs outer) [] H H' s.heap s'.heap/\HOk P w H' s'.heap/\RelV v u/\Q v H'
def CR(CX:CXT)(outer:List Env)(P:Program)(w:World)(H:Hp)(s:Shared)(Q:VK)(E:XK)(r:Result)(s':Shared):Prop :=
 match r with
 |.ok (.ret u)=>CE outer P w H s Q u s'
 |.ok _=>False
 |.error e=>CX outer H s E e s'
structure FnOk(P:Program)(w:World)(K:PySem.W.Frag)(mg:Str->Option Value)(base:Heap)(CX:CXT)(k:Nat)(f:Addr)(fd:FuncData)(ps:List Str)(sp:Sp):Prop where
 len:∀vs H Q E,sp vs H Q E->vs.length=ps.length
 run:∀(A:Around) (outer:List Env) (s:Shared) (H:Hp) (args:Args) (us:List Value) (vs:List V) (Q:VK) (E:XK),Room k A->Env0 P w K mg base A outer s H->BindsTo s fd args (ps.zip us)->Vals vs us->sp vs H Q E ->
  codeAny (model P w) A (.call (.ref f) args) (CR CX outer P w H s Q E) s
section
variable{X:Cx}{pins:List (Addr×Obj)}{σ:St}{H:Hp}{s s':Shared}
theorem Inv.env0(I:Inv X pins σ H s):Env0 X.prog X.w X.K X.mg X.base X.A X.stack s H :=
 ⟨I.ok.frames,I.ok.mod,I.bs,Zd I.ok.bsz I.sz,I.stack,I.stkFree,I.hok,I.bare⟩
theorem Inv.after{Q:VK}{u:Value}(I:Inv X pins σ H s)(h:CE X.stack X.prog X.w H s Q u s'):EP X pins σ Q u s':=by obtain⟨v,H',os,bare,un,hok,r,q⟩:=h;obtain⟨hh,g,d,t,os'⟩:=s';obtain rfl:os'=s.os:=os;exact⟨v,H',I.call (h':=hh) (g':=g) (d':=d) (t':=t) (ch:=[]) un hok bare (fun b z=>absurd z (by simp)),r,q⟩
end
def lr(sp:Sp)(dvs:List V)(E:XK)(t:TA):TE:=fun σ H Q=>t σ H fun vs H1=>sp (vs++dvs) H1 Q E
inductive IsM(C:Addr)(m:Str)(x:V)(H:Hp)(R:Prop):Prop
 |mk (a dx:Addr) (fs:List (Str×V)) (h0:x=.ref a) (h1:H a=some (.ins C dx fs)) (h2:fs.lookup m=none) (q:R):IsM C m x H R
def Binds(K:PySem.W.Frag)(fd:FuncData)(ps:List Str)(ds:List Value):Prop :=
 ∀(s:Shared) (us:List Value),K.In s.heap->(us++ds).length=ps.length->BindsTo s fd ⟨us,[]⟩ (ps.zip (us++ds))
theorem Binds.all{K:PySem.W.Frag}{fd:FuncData}{ps:List Str}(h:∀us:List Value,us.length=ps.length->bindArgs fd ⟨us,[]⟩=pure (ps.zip us)):Binds K fd ps []:=fun s us _ hl=>by rw[List.append_nil]at hl ⊢;exact .of_eq (h us hl)
def gJ(CX:CXT)(X:Cx)(E:XK):Prop:=∀(pins:List (Addr×Obj)) (σ:St) (H:Hp) (s:Shared) (e:Value) (s':Shared),Inv X pins σ H s->CX X.stack H s E e s'->X.xe e s'
section
variable{X:Cx}{CX:CXT}{k:Nat}{f C:Addr}{fd:FuncData}{ps:List Str}{sp:Sp}{dvs:List V}{ds:List Value}{E:XK}{x m:Str}{p pos apos:Pos}{e o:Expr}{es:List Expr}{ta:TE}{t:TA}
theorem zG{pins:List (Addr×Obj)}{σ:St}{H:Hp}{s:Shared}{Q:VK}{us:List Value}{vs:List V}(F:FnOk X.prog X.w X.K X.mg X.base CX k f fd ps sp)(hr:Room k X.A)(hb:Binds X.K fd ps ds)(hd:Vals dvs ds)(hx:gJ CX X E)(I:Inv X pins σ H s)(r:Vals vs us)(h:sp (vs++dvs) H Q E):wpAny (model X.prog X.w) X.A (call (.ref f) us) (EP X pins σ Q) X.xe s:=by
 have r2:Vals (vs++dvs) (us++ds):=r.append hd;have hl:(us++ds).length=ps.length:=by rw[<-r2.length];exact F.len _ _ _ _ h
 refine wpAny_call (codeAny_mono (F.run X.A X.stack s H ⟨us,[]⟩ (us++ds) (vs++dvs) Q E hr I.env0 (hb s us I.kIn hl) r2 h) fun r s' hq=>?_);cases r with
 |error e=>exact hx pins σ H s e s' I hq
 |ok fl =>
  cases fl with
  |ret u=>exact I.after hq
  |next=>exact False.elim hq
  |brk=>exact False.elim hq
  |cont=>exact False.elim hq
theorem qc(F:FnOk X.prog X.w X.K X.mg X.base CX k f fd ps sp)(hr:Room k X.A)(hg:Gl X x)(hm:X.mg x=some (.ref f))(hk:PySem.W.keepIn X.K (.ref f)=true)(hb:Binds X.K fd ps ds)(hd:Vals dvs ds)(hx:gJ CX X E)(ha:PA X (e::es) t)(hdb:(x==("__debug__":Str))=false:=by decide)(he:starEach (e::es) X.env=(false,eval e X.env)::starEach es X.env:=by rfl)(hpl:(backTo pos (starEach es X.env)).any (·.1)=false:=by rfl) :
  PE X (.Call (.Name x p) (e::es) [] pos) (lr sp dvs E t):=by
 intro pins s σ H Q I h;refine wpAny_Call_Name_kw (fJ I hg hm ?_ hdb);refine PySem.W.callWith_K (h₀:=X.base) I.ok.mod.kin hk (thn (ha pos pins s σ H _ I h) fun us s1 ⟨vs,H1,I1,r,q⟩=>⟨I1.kIn,?_⟩) he hpl;exact zG F hr hb hd hx I1 r q
structure Mk(K:PySem.W.Frag)(C f:Addr):Prop where
 makes:PySem.W.makesIn K C=true
 init:PySem.W.findIn K (.ref C) "__init__" = some (some (.ref f))
 fn:PySem.W.isFn K (.ref f)=true
 kp:PySem.W.keepIn K (.ref C)=true
end
section
variable{X:Cx}{CX:CXT}{k:Nat}{f C:Addr}{fd:FuncData}{ps ks:List Str}{sp:Sp}{E:XK}{x m:Str}{p pos apos kpos:Pos}{e o:Expr}{es:List Expr}{kws:List Keyword}{te ta:TE}{t tk:TA}{nm:Option Str}
structure KBinds(K:PySem.W.Frag)(fd:FuncData)(ps ks:List Str)(g:List Value->List Value->List Value)(gV:List V->List V->List V):Prop where
 to:∀(s:Shared) (us ws:List Value),K.In s.heap->(g us ws).length=ps.length->BindsTo s fd ⟨us,ks.zip ws⟩ (ps.zip (g us ws))
 rel:∀{vs:List V} {us:List Value} {zs:List V} {ws:List Value},Vals vs us->Vals zs ws->Vals (gV vs zs) (g us ws)
variable{g:List Value->List Value->List Value}{gV:List V->List V->List V}
end
structure FnScope(N P:List Str)(sc:Scope):Prop where
 kind:sc.kind=.function
 co:sc.isCoroutine=false
 gen:sc.isGenerator=false
 nd:N.Nodup
 pre:N.take P.length=P
 par:∀x∈P,sc.names.lookup x=some .local\/sc.names.lookup x=some .cell
 nofree:∀y∈sc.names,y.2≠.free
theorem mt{kindOf:Str->Option NameKind}{x:Str}:∀{binds:List (Str×Value)} {m:Str->Option Value},(∀v,(x,v)∉binds)->bindL kindOf binds m x=m x
 | [],_,_=>rfl
 |(n,v)::r,m,h=>by
  unfold bindL;rw[mt fun w hw=>h w (Zt _ hw)];split
  ·have:x≠n:=by rintro rfl;exact h v Zu
   simp[this]
  ·rfl
theorem mo{kindOf:Str->Option NameKind}{x:Str}:∀{binds:List (Str×Value)} {m:Str->Option Value},(∀v,(x,v)∉binds)->bindC kindOf binds m x=m x
 | [],_,_=>rfl
 |(n,v)::r,m,h=>by
  unfold bindC;rw[mo fun w hw=>h w (Zt _ hw)];split
  ·rfl
  ·have:x≠n:=by rintro rfl;exact h v Zu
   simp[this]
theorem mr{kindOf:Str->Option NameKind}{x:Str}{v:Value}:∀{P:List Str} {vs:List Value} {i:Nat} {m:Str->Option Value},P.Nodup->P[i]?=some x->vs[i]?=some v->kindOf x=some .local ->
  bindL kindOf (P.zip vs) m x=some v
 | [],_,_,_,_,h,_,_=>by simp at h
 |_::_,[],_,_,_,_,h,_=>by simp at h
 |p::P,w::vs,0,m,nd,h1,h2,hk=>by simp at h1 h2;subst h1;subst h2;show bindL kindOf ((p,w)::P.zip vs) m p=_;unfold bindL;rw[mt fun v hv=>(List.nodup_cons.mp nd).1 (List.of_mem_zip hv).1,BK hk];simp
 |p::P,w::vs,i+1,m,nd,h1,h2,hk=>by show bindL kindOf ((p,w)::P.zip vs) m x=_;unfold bindL;exact mr (i:=i) (List.nodup_cons.mp nd).2 (by simpa using h1) (by simpa using h2) hk
theorem mn{kindOf:Str->Option NameKind}{x:Str}{v:Value}:∀{P:List Str} {vs:List Value} {i:Nat} {m:Str->Option Value},P.Nodup->P[i]?=some x->vs[i]?=some v->kindOf x≠some .local ->
  bindC kindOf (P.zip vs) m x=some v
 | [],_,_,_,_,h,_,_=>by simp at h
 |_::_,[],_,_,_,_,h,_=>by simp at h
 |p::P,w::vs,0,m,nd,h1,h2,hk=>by simp at h1 h2;subst h1;subst h2;show bindC kindOf ((p,w)::P.zip vs) m p=_;unfold bindC;rw[mo fun v hv=>(List.nodup_cons.mp nd).1 (List.of_mem_zip hv).1,BJ hk];simp
 |p::P,w::vs,i+1,m,nd,h1,h2,hk=>by show bindC kindOf ((p,w)::P.zip vs) m x=_;unfold bindC;exact mn (i:=i) (List.nodup_cons.mp nd).2 (by simpa using h1) (by simpa using h2) hk
def dR(N:List Str)(vs:List V):St:=vs.map some++List.replicate (N.length-vs.length) none
def dO(CX:CXT)(P:Program)(w:World)(K:PySem.W.Frag)(mg:Str->Option Value)(base:Heap)(N:List Str)(qual:Str)(scope:Scope)(f:Addr)(cd:Value)(A:Around)(outer:List Env)(s:Shared)(H:Hp)(E:XK):Cx where
 prog:=P
 w:=w
 K:=K
 mg:=mg
 base:=base
 A:=A.deeper (envOfC qual scope s.heap.objs.size f cd)
 N:=N
 s₀:=s
 H₀:=H
 env:=envOfC qual scope s.heap.objs.size f cd
 outer:=outer
 stack:=envOfC qual scope s.heap.objs.size f cd::outer
 ex:=[]
 calm:=true
 fn:=fun _=>true
 pn:=[]
 xe:=fun e s'=>wpAny (model P w) (A.deeper (envOfC qual scope s.heap.objs.size f cd)) (leaving (envOfC qual scope s.heap.objs.size f cd) e) (fun _ s''=>CX outer H s E e s'') (fun e' s''=>CX outer H s E e' s'') s'
theorem nK{sc:Scope}{n:Nat}{x:Str}(h:sc.names.lookup x=some .cell):∃c,(cellsFrom n sc.names []).lookup x=some c:=by have q:=PySem.W.cellsFrom_some sc.names n [] (.inl h);exact Option.isSome_iff_exists.mp q
theorem sP{CX:CXT}{P:Program}{w:World}{K:PySem.W.Frag}{mg:Str->Option Value}{base:Heap}{N ps:List Str}{qual:Str}{scope:Scope}{f:Addr}{cd:Value}{A:Around}{outer:List Env}{s s1:Shared}{H:Hp}{E:XK}{us:List Value}{vs:List V}(S:FnScope N ps scope)(hd:A.handled=none)(e0:Env0 P w K mg base A outer s H)(hl:vs.length=ps.length)(r:Vals vs us)(x:InCallC s s.heap.objs.size (bindL (envOfC qual scope s.heap.objs.size f cd).kindOf (ps.zip us) fun _=>none) (cellsFrom (s.heap.objs.size+1) scope.names []) (bindC (envOfC qual scope s.heap.objs.size f cd).kindOf (ps.zip us) fun _=>none) s1) :
  Inv (dO CX P w K mg base N qual scope f cd A outer s H E) [] (dR N vs) H s1:=by
 have hpl:ps.length<=N.length:=by have:=ZT List.length S.pre;rw[y8]at this;omega
 obtain⟨h1,tk,rfl,hk⟩:=x.done;have noA:∀b:Addr,b∉(dO CX P w K mg base N qual scope f cd A outer s H E).ex:=fun b z=>absurd (show b∈([]:List Addr)from z) (by simp);refine⟨⟨e0.mod,S.kind,rfl,rfl,Zg _,fun y z c h1 h2=>?_,fun y hy=>?_,fun y c _ h=>?_,fun _=>hd,Around.frames_deeper e0.frames,.inr ⟨rfl,rfl⟩,fun b z=>absurd z (noA b),e0.bs,e0.bsz,fun b _ _=>noA b,fun b z=>absurd z (noA b),e0.funs,e0.frf⟩,
  rfl,e0.bare,Un.kept hk,⟨_,x.toInCall.ns,fun i y v h1 h2 h3=>?_⟩,fun y c h=>⟨_,x.cell y c h⟩,e0.hok.fresh (Zg _),fun y c h=>?_,fun p hp=>absurd (show p∈([]:List (Addr×Obj)) from hp) (by simp),e0.hok.kept hk,?_⟩
 ·exact name_of_addr x.apart (Yh h1) (Yh h2)
 ·have hy:scope.names.lookup y=some .cell\/scope.names.lookup y=some .free:=hy;rcases hy with hy|hy
  ·exact nK hy
  ·exact absurd rfl (S.nofree _ (Yh hy))
 ·exact Nat.le_of_lt (x.above y c (Yh h))
 ·have hi:i<vs.length:=by
   unfold dR at h2;by_cases hi:i<vs.length
   ·exact hi
   ·rw[ZW (by simpa using hi)]at h2;rw[List.getElem?_replicate]at h2;split at h2<;>cases h2
  have ha:vs[i]?=some v:=by
   unfold dR at h2;rw[Z2 (by simpa using hi),ZB]at h2;cases e:vs[i]? with
   |none=>rw[e]at h2;cases h2
   |some a=>rw[e]at h2;cases h2;rfl
  obtain⟨u,hu,rv⟩:=r.get ha;have hp:ps[i]?=some y:=by rw[<-S.pre,List.getElem?_take_of_lt (by omega)];exact h1
  have ndP:ps.Nodup:=by rw[<-S.pre];exact S.nd.sublist (List.take_sublist _ _)
  refine⟨u,rv,?_⟩;rcases S.par y (ZC hp)with k|k
  ·exact .inl ⟨k,mr ndP hp hu k⟩
  ·obtain⟨c,e⟩:=nK (n:=s.heap.objs.size+1) k;refine .inr ⟨.inl k,c,e,?_⟩;have q:=x.cell y c e;rw[mn ndP hp hu (by show scope.names.lookup y≠_;rw[k];decide)]at q;exact q
 ·exact e0.hok.fresh (Nat.le_of_lt (x.above y c (Yh h)))
 ·unfold dR;show _=N.length;rw[Zh,z6,List.length_replicate];omega
theorem wm{CX:CXT}{P:Program}{w:World}{K:PySem.W.Frag}{mg:Str->Option Value}{base:Heap}{k:Nat}{f:Addr}{name qual:Str}{params:Arguments}{body:List Stmt}{scope:Scope}{dV kV doc pm cdv ct oc:Value}{an od:Option Addr}{osl:Array (Option Value)}{N ps:List Str}{sp:Sp}(lk:K.lookup f=some ⟨oc,od,.func (PySem.W.fnOf name qual params body scope dV kV doc pm an cdv ct),osl⟩)(hcd:PySem.W.codeIn K cdv qual=true)(S:FnScope N ps scope)(len:∀ vs H Q E,sp vs H Q E->vs.length=ps.length)(hbody:∀ (A:Around) (outer:List Env) (s:Shared) (H:Hp) (vs:List V) (Q:VK) (E:XK),Room k (A.deeper (envOfC qual scope s.heap.objs.size f cdv))->sp vs H Q E ->
   ∃ t,PSs (dO CX P w K mg base N qual scope f cdv A outer s H E) body t/\t { nx:=fun _ H'=>Q .non H',rt:=Q } (dR N vs) H) :
  FnOk P w K mg base CX (k+1) f (PySem.W.fnOf name qual params body scope dV kV doc pm an cdv ct) ps sp:=by
 refine⟨len,fun A outer s H args us vs Q E hr e0 hb r hsp=>?_⟩;have hl:=len _ _ _ _ hsp;have KX:K.In s.heap:=e0.mod.kin.keeps fun b o e=>(e0.bs b o e).1;have lim:s.heap.NoLimit:=e0.mod.nolimit.keeps fun b o e=>(e0.bs b o e).1;have hkind:∀y∈ps.zip us,scope.names.lookup y.1=some .local\/(scope.names.lookup y.1=some .cell/\((cellsFrom (s.heap.objs.size+1) scope.names []).lookup y.1).isSome=true):=fun⟨n,v⟩ hy=>by
  rcases S.par n (List.of_mem_zip hy).1 with q|q
  ·exact .inl q
  ·exact .inr ⟨q,PySem.W.cellsFrom_some _ _ _ (.inl q)⟩
 refine codeAny_call_function hr.depth (KX _ _ lk) rfl S.co S.gen rfl (PySem.W.codeRec_of KX hcd) (hb _ _ _ _ ?_);refine wpAny_newFunctionEnv_cells S.kind hkind fun env he s1 x=>?_;subst he;refine⟨lim.keeps x.toInCall.keep,codeAny_func ?_⟩;obtain⟨t,ht,hq⟩:=hbody A outer s H vs Q E (hr.deeper _) hsp;have I:Inv (dO CX P w K mg base N qual scope f cdv A outer s H E) [] (dR N vs) H s1:=sP S hr.hd e0 hl r x;refine ZS (ht [] s1 (dR N vs) H _ I hq) (fun fl s' hs=>?_) fun e s' hs=>hs;have fin:∀{σ':St} {H':Hp} {v:V} {u:Value},Inv (dO CX P w K mg base N qual scope f cdv A outer s H E) [] σ' H' s'->RelV v u->Q v H'->CE outer P w H s Q u s' :=
  fun{σ' H' v u} J rv q=>⟨v,H',J.os,J.bare,J.base,J.hok,rv,q⟩
 cases fl with
 |ret u =>obtain⟨v,σ',H',J,rv,q⟩:=hs;exact fin J rv q
 |next =>obtain⟨σ',H',J,q⟩:=hs;exact fin (v:=V.non) (u:=Value.none) J rfl q
 |brk =>obtain⟨_,_,_,q⟩:=hs;exact False.elim q
 |cont =>obtain⟨_,_,_,q⟩:=hs;exact False.elim q
open PySem PySem.Spec PyProof.Rows
section
variable{X:Cx}{x:Str}{p pos:Pos}{e:Expr}{es:List Expr}{t:TA}{id T:String}{r:List V->Hp->VK->Prop}
def tCB(r:List V->Hp->VK->Prop)(t:TA):TE:=fun σ H Q=>t σ H fun vs H1=>r vs H1 Q
theorem vq(hc:dN X (.builtin id) r)(hg:Gl X x)(hm:X.mg x=none)(hv:bootBuiltins x=some (.builtin id))(ha:PA X (e::es) t)(hn:x≠"__name__":=by decide)(hdb:(x==("__debug__":Str))=false:=by decide)(he:starEach (e::es) X.env=(false,eval e X.env)::starEach es X.env:=by rfl)(hpl:(backTo pos (starEach es X.env)).any (·.1)=false:=by rfl):PE X (.Call (.Name x p) (e::es) [] pos) (tCB r t):=by intro pins s σ H Q I h;refine wpAny_Call_Name_kw (gO I hg hm hv ?_ hn hdb);exact PyProof.Rows.callWith_builtin1 (thn (ha pos pins s σ H _ I h) fun us s1 ⟨vs,H1,I1,r1,q1⟩=>hc pins s1 σ H1 vs us Q I1 r1 q1) he hpl
theorem tH(hc:dN X (.type T) r)(hg:Gl X x)(hm:X.mg x=none)(hv:bootBuiltins x=some (.type T))(ha:PA X (e::es) t)(hn:x≠"__name__":=by decide)(hdb:(x==("__debug__":Str))=false:=by decide)(he:starEach (e::es) X.env=(false,eval e X.env)::starEach es X.env:=by rfl)(hpl:(backTo pos (starEach es X.env)).any (·.1)=false:=by rfl):PE X (.Call (.Name x p) (e::es) [] pos) (tCB r t):=by intro pins s σ H Q I h;refine wpAny_Call_Name_kw (gO I hg hm hv ?_ hn hdb);exact Yt (thn (ha pos pins s σ H _ I h) fun us s1 ⟨vs,H1,I1,r1,q1⟩=>hc pins s1 σ H1 vs us Q I1 r1 q1) he hpl
end
end L2
namespace HT
open PySem PyProof.Rows
section
variable{prog:Program}{w:World}{A:Around}{E:Value->Shared->Prop}{s:Shared}
theorem cat_tup{t b:Addr}{vs ws:List Value}{Q:Value->Shared->Prop}(ht:IsTup s.heap t vs.toArray)(hb:IsTup s.heap b ws.toArray)(hv:vs≠[])(h1:ws=[]->Q (.ref t) s)(h2:ws≠[]->Q (.ref s.heap.objs.size) { s with heap:=s.heap.push { cls:=.type "tuple",data:=.seq (vs++ws).toArray } })(hsz:vs.length+ws.length<=sizeLine):wpAny (model prog w) A (binaryOp .Add (.ref t) (.ref b)) Q E s:=by
 obtain⟨⟨cls,dd,data,sl⟩,ho,hc,n,hd⟩:=id ht;obtain⟨⟨cls2,dd2,data2,sl2⟩,ho2,hc2,n2,hd2⟩:=id hb;simp only at hc hd hc2 hd2;subst hc hd hc2 hd2;have e:vs.toArray++ws.toArray=(vs++ws).toArray:=by simp
 by_cases hw:ws=[]
 ·exact concat_meets ⟨_,ho,rfl⟩ ⟨_,ho2,rfl⟩ noFill_tuple_add seq_tuple_add PySem.F.slot_tuple_add PySem.F.entry_tuple_add (PySem.F.args_tuple_add_2 _ _)
   (tuple_addW1 t b vs.toArray ws.toArray n n2 dd dd2 sl sl2 (by simpa using hv) (by simp[hw])) ⟨ho,ho2,h1 hw⟩
 ·refine concat_meets ⟨_,ho,rfl⟩ ⟨_,ho2,rfl⟩ noFill_tuple_add seq_tuple_add PySem.F.slot_tuple_add PySem.F.entry_tuple_add (PySem.F.args_tuple_add_2 _ _)
   (tuple_addW2 t b vs.toArray ws.toArray n n2 dd dd2 sl sl2 (by simpa using hv) (by simpa using hw) (by rw[Zj,Zj];exact hsz)) ⟨ho,ho2,?_⟩
  rw[e];exact h2 hw
def sIx(n d:Nat):Option Int->Nat
 |none=>d
 |some v=>if v<0 then(v+(n:Int)).toNat else min v.toNat n
theorem sIx_none(n d:Nat):sIx n d none=d:=rfl
theorem sIx_nat(n d k:Nat):sIx n d (some (k:Int))=min k n:=by show(if(k:Int)<0 then((k:Int)+(n:Int)).toNat else min (k:Int).toNat n)=min k n;rw[BJ (by omega),Yf]
theorem zH(n d:Nat)(hd:d<=n)(o:Option Int):sIx n d o<=n:=by
 cases o with
 |none=>exact hd
 |some v =>
  show(if v<0 then(v+(n:Int)).toNat else min v.toNat n)<=n;by_cases hv:v<0
  ·rw[BK hv];omega
  ·rw[BJ hv];exact Nat.min_le_right _ _
theorem pN(v:Int)(n d:Nat):(if v<0 then max (v+(n:Int)) 0 else min v (n:Int))=((sIx n d (some v):Nat):Int):=by
 show(if v<0 then max (v+(n:Int)) 0 else min v (n:Int))=(((if v<0 then(v+(n:Int)).toNat else min v.toNat n):Nat):Int);by_cases hv:v<0
 ·simp only[BK hv];omega
 ·simp only[BJ hv];omega
theorem qD(lo hi:Option Int)(n:Nat):Builtin.Slice.sliceAdjust lo hi 1 (n:Int)=(((sIx n 0 lo:Nat):Int),((sIx n n hi:Nat):Int)):=by
 have h1:¬((1:Int)<0):=by omega
 unfold Builtin.Slice.sliceAdjust;simp only[h1,if_false];refine Prod.ext ?_ ?_
 ·cases lo with
  |none=>rfl
  |some v=>exact pN v n 0
 ·cases hi with
  |none=>rfl
  |some v=>exact pN v n n
theorem rj(i j:Nat):Builtin.Slice.slicePlaces (i:Int) (j:Int) 1=j-i:=by
 unfold Builtin.Slice.slicePlaces;have h1:(1:Int)>0:=by omega
 simp only[h1,if_true,Int.ediv_one];split<;>omega
theorem kZ{v:Value}{o:Option Int}{Q:Option Int->Shared->Prop}(p:IsPart v o)(h:Q o s):wpAny (model prog w) A (Builtin.Slice.slicePartIndex v) Q E s:=by
 cases p with
 |none=>exact slicePart_none h
 |int i t=>exact slicePart_int h
theorem sliceApplied_gen{sl:Addr}{vl vu:Value}{lo hi:Option Int}{n:Nat}{Q:Int×Int×Nat->Shared->Prop}(hs:s.heap.IsSliceOf sl vl vu .none)(pl:IsPart vl lo)(pu:IsPart vu hi)(h:Q (((sIx n 0 lo:Nat):Int),1,sIx n n hi-sIx n 0 lo) s):wpAny (model prog w) A (Builtin.Slice.sliceApplied (.ref sl) (pure (n:Int))) Q E s:=by obtain⟨os,hos,hcs,hds⟩:=id hs;unfold Builtin.Slice.sliceApplied Builtin.Slice.sliceFields;refine z9 (z9 (ZR hos hds (x:=vl) rfl (z9 (ZR hos hds (x:=vu) rfl (z9 (ZR hos hds (x:=.none) rfl (Zk ?_)))))));refine z9 (slicePart_none ?_);show wpAny _ _ (if((1:Int)==0)=true then _ else _) _ _ s;rw[BJ (by decide)];refine z9 (kZ pl (z9 (kZ pu (z9 (Zk ?_)))));show wpAny _ _ (match Builtin.Slice.sliceAdjust lo hi 1 (n:Int)with|(lo,hi)=>pure (lo,(1:Int),Builtin.Slice.slicePlaces lo hi 1)) _ _ s;rw[qD lo hi n];show wpAny _ _ (pure (((sIx n 0 lo:Nat):Int),(1:Int),Builtin.Slice.slicePlaces ((sIx n 0 lo:Nat):Int) ((sIx n n hi:Nat):Int) 1)) _ _ s;rw[rj];exact Zk h
theorem vB(xs:Array Value)(i k:Nat):((List.range k).filterMap fun(m:Nat)=>xs[((i:Int)+(m:Int)*1).toNat]?).toArray=((xs.toList.drop i).take k).toArray:=by
 have e:(fun(m:Nat)=>xs[((i:Int)+(m:Int)*1).toNat]?)=fun m=>xs[i+m]?:=by
  funext m;have:((i:Int)+(m:Int)*1).toNat=i+m:=by omega
  rw[this]
 rw[e];have:=pick_run xs i k;rw[List.filterMap_map]at this;have e2:((fun x=>xs[x]?)∘fun x=>i+x)=fun m=>xs[i+m]?:=rfl;rw[e2]at this;rw[this]
theorem getItem_tuple_cut{t sl:Addr}{items:Array Value}{vl vu:Value}{lo hi:Option Int}{Q:Value->Shared->Prop}(ht:IsTup s.heap t items)(hs:s.heap.IsSliceOf sl vl vu .none)(pl:IsPart vl lo)(pu:IsPart vu hi)(hw:¬(sIx items.size 0 lo=0/\sIx items.size items.size hi=items.size))(h:Q (.ref s.heap.objs.size) { s with heap:=s.heap.push { cls:=.type "tuple",data:=.seq ((items.toList.drop (sIx items.size 0 lo)).take (sIx items.size items.size hi-sIx items.size 0 lo)).toArray } })(hsz:items.size<=sizeLine):wpAny (model prog w) A (getItem (.ref t) (.ref sl)) Q E s:=by
 have htake:sizeOk (.seq ((items.toList.drop (sIx items.size 0 lo)).take (sIx items.size items.size hi-sIx items.size 0 lo)).toArray):=by show((items.toList.drop (sIx items.size 0 lo)).take (sIx items.size items.size hi-sIx items.size 0 lo)).toArray.size<=sizeLine;rw[Zj,y8,Yk,Zz];omega
 have hj:sIx items.size items.size hi<=items.size:=zH _ _ (Zg _) hi;obtain⟨os,hos,hcs,hds⟩:=id hs;have hTs:s.TypeIs (.ref sl) "slice":=⟨os,hos,hcs⟩
 unfold getItem
 try with_reducible refine wpAny_holding ?_
 first|refine z9 (Zk ?_)|skip
 refine z9 (wpAny_sequenceKey ht.typeIs (by decide) ?_);refine z9 (ZY (name:=Str.ofString "__getitem__") ht.typeIs Z5
  (y9 Z5 ht.typeIs entry_tuple_getitem ?_ (args_tuple_getitem _ _)))
 show wpAny _ _ (Builtin.Tuple.tupleItemsOf (.ref t) >>= _) _ _ s;refine z9 (tupleItemsOf_ ht ?_);refine z9 (wpAny_typeOf hTs ?_);rw[BK (by decide)];refine z9 (sliceApplied_gen hs pl pu ?_);have hno:¬((((sIx items.size 0 lo:Nat):Int)==0&&(1:Int)==1&&(sIx items.size items.size hi-sIx items.size 0 lo)==items.size)=true):=by intro q;rw[Zy,Zy]at q;have q1:((sIx items.size 0 lo:Nat):Int)=0:=eq_of_beq q.1.1;have q2:sIx items.size items.size hi-sIx items.size 0 lo=items.size:=eq_of_beq q.2;exact hw ⟨by omega,by omega⟩
 show wpAny _ _ (if(((sIx items.size 0 lo:Nat):Int)==0&&(1:Int)==1&&(sIx items.size items.size hi-sIx items.size 0 lo)==items.size)=true then _ else _) _ _ s;rw[BJ hno,vB]
 first
  |exact z9 (m:=Builtin.Tuple.tupleExact _) (Yb (Zk ⟨_,rfl,Zk h⟩) htake)
  |exact z9 (m:=Builtin.Tuple.tupleExact _) (Yb (z9 (Zk (Zk ⟨_,rfl,Zk h⟩))) htake)
  |exact z9 (z9 (m:=Builtin.Tuple.tupleExact _) (Yb (Zk (Zk ⟨_,rfl,Zk h⟩)) htake))
  |exact z9 (z9 (m:=Builtin.Tuple.tupleExact _) (Yb (Zk ⟨_,rfl,Zk h⟩) htake))
end
end HT
namespace L2
open PySem PySem.Spec PyProof.Rows
abbrev TO:=St->Hp->(Option Int->Hp->Prop)->Prop
def PO(X:Cx)(e:Option Expr)(t:TO):Prop :=
 ∀(pins:List (Addr×Obj)) (s:Shared) (σ:St) (H:Hp) (Q:Option Int->Hp->Prop),Inv X pins σ H s->t σ H Q ->
  wpAny (model X.prog X.w) X.A (evalPart e X.env) (fun u s'=>∃o H',Inv X pins σ H' s'/\IsPart u o/\Q o H') X.xe s
def qr:TO:=fun _ H Q=>Q none H
inductive IsI(x:V)(R:Int->Prop):Prop
 |mk (i:Int) (h:x=.int i) (q:R i):IsI x R
def wN(t:TE):TO:=fun σ H Q=>t σ H fun x H1=>IsI x fun i=>Q (some i) H1
section
variable{X:Cx}{e:Expr}{te:TE}{lo hi:Option Expr}{tl th:TO}{pos p2:Pos}
theorem xC:PO X none qr:=by intro pins s σ H Q I h;rw[evalPart_none];exact Zk ⟨none,H,I,.none,h⟩
theorem xD(h:PE X e te):PO X (some e) (wN te):=by intro pins s σ H Q I hw;rw[evalPart_some];refine thn (h pins s σ H _ I hw) fun u s1 hz9=>?_;obtain⟨x,H1,I1,r1,q1⟩:=hz9;obtain⟨i,rfl,q⟩:=q1;obtain⟨t,rfl⟩:=r1;exact⟨some i,H1,I1,.int i t,q⟩
def SlR(X:Cx)(r:V->Option Int->Option Int->Hp->VK->Prop):Prop :=
 ∀(pins:List (Addr×Obj)) (s:Shared) (σ:St) (H:Hp) (x:V) (v vl vu:Value) (lo hi:Option Int) (sl:Addr) (Q:VK),Inv X pins σ H s->RelV x v->s.heap.IsSliceOf sl vl vu .none->IsPart vl lo->IsPart vu hi->r x lo hi H Q ->
  ∃T id,typeLookup (.type T) "__getitem__" = pure (some (.builtin id))/\s.TypeIs v T/\wpAny (model X.prog X.w) X.A (getItem v (.ref sl)) (EP X pins σ Q) X.xe s
def tSl(r:V->Option Int->Option Int->Hp->VK->Prop)(te:TE)(tl th:TO):TE:=fun σ H Q=>te σ H fun x H1=>tl σ H1 fun l H2=>th σ H2 fun u H3=>r x l u H3 Q
theorem vy{r:V->Option Int->Option Int->Hp->VK->Prop}(hr:SlR X r)(he:PE X e te)(hl:PO X lo tl)(hu:PO X hi th):PE X (.Subscript e (.Slice lo hi none p2) pos) (tSl r te tl th):=by intro pins s σ H Q I h;refine Subscript_ (thn (he pins s σ H _ I h) fun v s1 hz9=>?_);obtain⟨x,H1,I1,r1,q1⟩:=hz9;refine wpAny_Slice (thn (hl pins s1 σ H1 _ I1 q1) fun vl s2 ⟨l,H2,I2,pl,q2⟩=>thn (hu pins s2 σ H2 _ I2 q2) fun vu s3 hz9=>?_);obtain⟨u,H3,I3,pu,q3⟩:=hz9;rw[evalPart_none];refine Zk ?_;have I4:Inv X pins σ H3 { s3 with heap:=s3.heap.push { cls:=.type "slice",data:=.fields #[vl,vu,.none] } }:=I3.kept (t':=s3.toks) fun b ob q=>Zb _ q;obtain⟨T,id,hT,ht,hg⟩:=hr pins { s3 with heap:=s3.heap.push { cls:=.type "slice",data:=.fields #[vl,vu,.none] } } σ H3 x v vl vu l u s3.heap.objs.size Q I4 r1 (Heap.IsSliceOf.new ..) pl pu q3;show wpAny (model X.prog X.w) X.A (subscriptTail e (.Slice lo hi none p2) v (.ref s3.heap.objs.size)) (EP X pins σ Q) X.xe { s3 with heap:=s3.heap.push { cls:=.type "slice",data:=.fields #[vl,vu,.none] } };exact tail_any (ops:=[.ref s3.heap.objs.size,v]) ht hT hg (by with_unfolding_all rfl)
def aG(xs:List V)(lo hi:Option Int):List V:=(xs.drop (HT.sIx xs.length 0 lo)).take (HT.sIx xs.length xs.length hi-HT.sIx xs.length 0 lo)
theorem bo(xs:List V)(lo hi:Option Int):(aG xs lo hi).length<=xs.length:=by unfold aG;rw[y8,Yk];omega
inductive rSlT(K:PySem.W.Frag)(x:V)(lo:Option Int)(hi:Option Int)(H:Hp)(Q:VK):Prop
 |mk (a xs:_) (h0:x=.ref a) (h1:SqT K H a xs) (h2:¬(HT.sIx xs.length 0 lo=0/\HT.sIx xs.length xs.length hi=xs.length)) (h3:∀p,H p=none->Q (.ref p) (upd H p (.tup (aG xs lo hi)))):rSlT K x lo hi H Q
theorem zJ:SlR X (rSlT X.K):=by
 intro pins s σ H x v vl vu lo hi sl Q I rx hs pl pu h;obtain⟨a,xs,rfl,hx,hw,q⟩:=h;cases rx;obtain⟨its,r,ht,hz⟩:=I.tuple hx;have hlen:its.toArray.size=xs.length:=by rw[Zj];exact r.length.symm
 refine⟨"tuple",_,Z5.lookup,ht.typeIs,?_⟩;refine HT.getItem_tuple_cut ht hs pl pu (by rw[hlen];exact hw) ?_ (by rw[hlen];exact hz);rw[hlen];refine⟨.ref s.heap.objs.size,_,I.laid (t':=s.toks) (o:=.tup (aG xs lo hi)) (fun b ob q=>Zb _ q) (Zg _) ?_,rfl,q _ (I.hok.fresh (Zg _))⟩;exact⟨Zd (bo xs lo hi) hz,_,(r.drop (HT.sIx xs.length 0 lo)).take (HT.sIx xs.length xs.length hi-HT.sIx xs.length 0 lo),IsTup.new _ _⟩
def wC(K:PySem.W.Frag):R2:=fun x y H Q=>∃a b xs ys,x=.ref a/\y=.ref b/\SqT K H a xs/\SqT K H b ys/\xs≠[]/\xs.length+ys.length<=sizeLine /\
 (ys=[]->Q (.ref a) H)/\(ys≠[]->∀p,H p=none->Q (.ref p) (upd H p (.tup (xs++ys))))
theorem Vals.nil_iff{xs:List V}{us:List Value}(r:Vals xs us):us=[]↔xs=[]:=by
 cases r with
 |nil=>simp
 |cons _ _=>simp
theorem pZ:OpR X (binaryOp .Add) (wC X.K):=by intro pins s σ H x y v u Q I rx ry h;obtain⟨a,b,xs,ys,rfl,rfl,ha,hb,hx,hz,q1,q2⟩:=h;cases rx;cases ry;obtain⟨its,r1,p1,_⟩:=I.tuple ha;obtain⟨its2,r2,p2,_⟩:=I.tuple hb;refine HT.cat_tup p1 p2 (fun z=>hx (r1.nil_iff.mp z)) (fun z=>⟨.ref a,H,I,rfl,q1 (r2.nil_iff.mp z)⟩) (fun z=>?_) (by rw[<-r1.length,<-r2.length];exact hz);refine⟨.ref s.heap.objs.size,_,I.laid (t':=s.toks) (o:=.tup (xs++ys)) (fun b ob q=>Zb _ q) (Zg _) ?_,rfl,q2 (fun w=>z (r2.nil_iff.mpr w)) _ (I.hok.fresh (Zg _))⟩;exact⟨by rw[Zh];exact hz,_,r1.append r2,IsTup.new _ _⟩
end
open PySem PySem.Spec PyProof.Rows
def ixN(n:Nat)(i:Int):Option Nat:=if 0<=i then(if i<n then some i.toNat else none)else if -(n:Int)<=i then some (i+n).toNat else none
def atI{α:Type}(xs:List α)(i:Int):Option α:=(ixN xs.length i).bind fun j=>xs[j]?
theorem pX{n:Nat}{i:Int}{j:Nat}(h:ixN n i=some j):seqIndex? i n=some j/\j<n/\-(n:Int)<=i/\i<n:=by
 unfold ixN at h;by_cases h0:0<=i
 ·rw[BK h0]at h;by_cases h1:i<n
  ·rw[BK h1]at h;have e:i.toNat=j:=Zo h;exact⟨by rw[seqIndex_of h0 h1,e],by omega,by omega,h1⟩
  ·rw[BJ h1]at h;cases h
 ·rw[BJ h0]at h;by_cases h1:-(n:Int)<=i
  ·rw[BK h1]at h;have e:(i+n).toNat=j:=Zo h;exact⟨by rw[seqIndex_neg (by omega) h1,e],by omega,h1,by omega⟩
  ·rw[BJ h1]at h;cases h
theorem lH{α:Type}{xs:List α}{i:Int}{v:α}(h:atI xs i=some v):∃j,seqIndex? i xs.length=some j/\xs[j]?=some v/\j<xs.length/\-(xs.length:Int)<=i/\i<xs.length:=by
 unfold atI at h;cases e:ixN xs.length i with
 |none=>rw[e]at h;cases h
 |some j =>rw[e]at h;obtain⟨h1,h2,h3,h4⟩:=pX e;exact⟨j,h1,h,h2,h3,h4⟩
theorem bc{α:Type}{xs:List α}{j:Nat}{v:α}(h:xs[j]?=some v):atI xs (j:Int)=some v:=by
 have hj:j<xs.length:=(Zf.mp h).1;have e:ixN xs.length (j:Int)=some j:=by unfold ixN;rw[BK (by omega),BK (by omega)];simp
 unfold atI;rw[e];exact h
theorem jN{α:Type}(xs:List α)(v:α):atI (xs++[v]) (-1)=some v:=by
 have hl:(xs++[v]).length=xs.length+1:=by simp
 have e:ixN (xs++[v]).length (-1)=some xs.length:=by unfold ixN;rw[hl,BJ (by decide),BK (by omega)];congr 1;omega
 unfold atI;rw[e];show(xs++[v])[xs.length]?=some v;simp
def pL(b:Expr):Prop:=∀o i,subscripted b false o i=operate [o,i] (getItem o i)
def IxR(X:Cx)(r:R2):Prop :=
 ∀(value slice:Expr) (pins:List (Addr×Obj)) (s:Shared) (σ:St) (H:Hp) (x y:V) (v u:Value) (Q:VK),Inv X pins σ H s->RelV x v->RelV y u->r x y H Q ->
  subscripted slice false v u=operate [v,u] (getItem v u)->wpAny (model X.prog X.w) X.A (subscriptTail value slice v u) (EP X pins σ Q) X.xe s
def MtR(X:Cx)(id:String)(r:V->List V->Hp->VK->Prop):Prop :=
 ∀(pins:List (Addr×Obj)) (s:Shared) (σ:St) (H:Hp) (x:V) (xs:List V) (v:Value) (us:List Value) (Q:VK),Inv X pins σ H s->RelV x v->Vals xs us->r x xs H Q ->
  wpAny (model X.prog X.w) X.A (call (.builtin id) (v::us)) (EP X pins σ Q) X.xe s
section
variable{X:Cx}{a b:Expr}{ta tb:TE}{pos:Pos}
theorem Aw{r:R2}(hr:IxR X r)(ha:PE X a ta)(hb:PE X b tb)(hs:pL b):PE X (.Subscript a b pos) (tOp r ta tb):=by intro pins s σ H Q I h;exact Subscript_ (uF ha hb I h fun v u s2 x y H2 I2 rx ry q=>hr a b pins s2 σ H2 x y v u Q I2 rx ry q (hs _ _))
inductive rIxL(K:PySem.W.Frag)(x:V)(y:V)(H:Hp)(Q:VK):Prop
 |mk (p xs i v:_) (h0:x=.ref p) (h1:y=.int i) (h2:SqL K H p xs) (h3:atI xs i=some v) (h4:Q v H):rIxL K x y H Q
inductive rIxT(K:PySem.W.Frag)(x:V)(y:V)(H:Hp)(Q:VK):Prop
 |mk (p xs i v:_) (h0:x=.ref p) (h1:y=.int i) (h2:SqT K H p xs) (h3:atI xs i=some v) (h4:Q v H):rIxT K x y H Q
def zD:R2:=fun x y H Q=>∃z i c,x=.str z/\y=.int i/\z.length<=sizeLine/\atI z.cps.toList i=some c/\Q (.str ⟨#[c]⟩) H
theorem xa:IxR X (rIxL X.K):=by
 intro value slice pins s σ H x y v u Q I rx ry h hs;obtain⟨p,xs,i,z,rfl,rfl,hq,he,q⟩:=h;cases rx;obtain⟨t,rfl⟩:=ry;obtain⟨its,r,pl,hz⟩:=I.list hq;obtain⟨j,h1,h2,h3,h4,h5⟩:=lH he;obtain⟨w,ew,rw'⟩:=r.get h2;have hl:=r.length;have hn:=iS;have fin:EP X pins σ Q w s:=⟨z,H,I,rw',q⟩
 by_cases h0:0<=i
 ·have hj:i.toNat=j:=by rw[seqIndex_of h0 h5]at h1;exact Zo h1
  exact item_listR pl.isList h0 (by omega) (by rw[hj];simpa using ew) fin hs
 ·have hj:(i+(its.toArray.size:Int)).toNat=j:=by rw[seqIndex_neg (by omega) h4]at h1;rw[Zj,<-hl];exact Zo h1
  exact subscriptTail_builtinR (x:=w) pl.isList.typeIs slot_list_getitem.lookup
   (wpAny_getItem_list_neg (Q:=fun r s'=>r=w/\EP X pins σ Q r s') pl.isList (by omega) (by rw[Zj]<;>omega) (by omega) (by rw[hj];simpa using ew) ⟨rfl,fin⟩) hs
theorem yw:IxR X (rIxT X.K):=by
 intro value slice pins s σ H x y v u Q I rx ry h hs;obtain⟨p,xs,i,z,rfl,rfl,hq,he,q⟩:=h;cases rx;obtain⟨t,rfl⟩:=ry;obtain⟨its,r,pl,hz⟩:=I.tuple hq;obtain⟨j,h1,h2,h3,h4,h5⟩:=lH he;obtain⟨w,ew,rw'⟩:=r.get h2;have hl:=r.length;have hn:=iS;have fin:EP X pins σ Q w s:=⟨z,H,I,rw',q⟩
 exact subscriptTail_builtinR (x:=w) pl.typeIs slot_tuple_getitem.lookup
  (getItem_tuple (j:=j) (Q:=fun r s'=>r=w/\EP X pins σ Q r s') pl (by omega) (by omega) (by rw[Zj,<-hl];exact h1) (by simpa using ew) ⟨rfl,fin⟩) hs
theorem yu:IxR X zD:=by
 intro value slice pins s σ H x y v u Q I rx ry h hs;obtain⟨z,i,c,rfl,rfl,hz,he,q⟩:=h;obtain⟨t,rfl⟩:=rx;obtain⟨t',rfl⟩:=ry;obtain⟨j,h1,h2,h3,h4,h5⟩:=lH he;have hl:z.cps.toList.length=z.length:=by simp[Str.length]
 rw[hl]at h1 h4 h5;have hn:=iS;exact tail_any (typeIs_str s z t) slot_str_getitem.lookup (getItem_str (c:=c) (by
  have e1:decide (i < -(2^63:Int))=false:=decide_eq_false (by omega);have e2:decide (i>=2^63)=false:=decide_eq_false (by omega);rw[e1,e2,Bool.or_false]) (by rw[h1];simpa using h2) ⟨.str ⟨#[c]⟩,H,I.tok _,⟨_,rfl⟩,q⟩) hs
theorem qN(its:List Value)(n j:Nat)(u:Value):Obj.mapSeq (·.setIfInBounds j u) { cls:=.type "list",data:=.seq its.toArray n }={ cls:=.type "list",data:=.seq (its.set j u).toArray n }:=by simp[Obj.mapSeq]
theorem Inv.lst{pins:List (Addr×Obj)}{σ:St}{H:Hp}{s:Shared}{p:Addr}{xs:List V}(I:Inv X pins σ H s)(h:H p=some (.lst xs)) :
  ∃(its:List Value) (n:Nat),Vals xs its/\s.heap.get? p=some { cls:=.type "list",data:=.seq its.toArray n }/\xs.length<=sizeLine:=by
 obtain⟨z,its,n,r,e⟩:=I.hok p _ h;exact⟨its,n,r,e,z⟩
theorem Inv.lstUpd{pins:List (Addr×Obj)}{σ:St}{H:Hp}{s:Shared}{p:Addr}{xs ys:List V}{its its':List Value}{n n':Nat}{f:Obj->Obj}(I:Inv X pins σ H s)(h:H p=some (.lst xs))(ho:s.heap.get? p=some { cls:=.type "list",data:=.seq its.toArray n })(hf:f { cls:=.type "list",data:=.seq its.toArray n }={ cls:=.type "list",data:=.seq its'.toArray n' })(r:Vals ys its')(hz:ys.length<=sizeLine)(t:Nat) :
  Inv X pins σ (upd H p (.lst ys)) { s with heap:=s.heap.update p f,toks:=t }:=by
 have e:(s.heap.update p f).get? p=some { cls:=.type "list",data:=.seq its'.toArray n' }:=by rw[Heap.get?_update_self f ho (by rw[hf]<;>rfl),hf]
 refine I.write (x:=p) (e:=p) (by rw[h];trivial) (.inl rfl) (fun b u hb q=>(Z8 _ _ (Z0 hb)).trans q) ⟨_,e⟩ ?_;exact⟨hz,its',n',r,e⟩
def wG:V->V->V->Hp->(Hp->Prop)->Prop:=fun o i v H Q=>∃p xs k j,o=.ref p/\i=.int k/\H p=some (.lst xs)/\ixN xs.length k=some j/\Q (upd H p (.lst (xs.set j v)))
theorem vO:uB X wG:=by
 intro pins s σ H o i v ov iv u Q I ro ri rv h;obtain⟨p,xs,k,j,rfl,rfl,hp,hj,q⟩:=h;cases ro;obtain⟨t,rfl⟩:=ri;obtain⟨its,n,r,ho,hz⟩:=I.lst hp;obtain⟨h1,h2,h3,h4⟩:=pX hj;have hl:=r.length;have hn:=iS;have I':Inv X pins σ (upd H p (.lst (xs.set j v))) { s with heap:=s.heap.update p (Obj.mapSeq (·.setIfInBounds j u)) } :=
  I.lstUpd hp ho (qN its n j u) (r.set rv j) (by rw[Z7];exact hz) s.toks
 by_cases h0:0<=k
 ·have hk:k.toNat=j:=by rw[seqIndex_of h0 h4]at h1;exact Zo h1
  exact PySem.W.ki_setAt ho h0 (by omega) (by rw[Zj,<-hl];exact h4) (by rw[hk];exact⟨_,I',q⟩)
 ·have hk:(k+(its.toArray.size:Int)).toNat=j:=by rw[seqIndex_neg (by omega) h3]at h1;rw[Zj,<-hl];exact Zo h1
  exact PySem.W.ki_setBack ho (by omega) (by rw[Zj,<-hl];exact h3) (by omega) (by rw[hk];exact⟨_,I',q⟩)
theorem oS(lo hi:Option Int)(n:Nat):(sliceBounds lo hi none n).1=((HT.sIx n 0 lo:Nat):Int)/\(sliceBounds lo hi none n).2.1=((HT.sIx n n hi:Nat):Int)/\(sliceBounds lo hi none n).2.2=1:=by
 refine⟨?_,?_,rfl⟩
 ·cases lo with
  |none=>simp[sliceBounds,HT.sIx]
  |some i =>
   simp only[sliceBounds,HT.sIx,Option.getD_none,show(1:Int)>0 by decide,if_true];by_cases h:i<0
   ·simp only[h,if_true]<;>omega
   ·simp only[h,if_false]<;>omega
 ·cases hi with
  |none=>simp[sliceBounds,HT.sIx]
  |some i =>
   simp only[sliceBounds,HT.sIx,Option.getD_none,show(1:Int)>0 by decide,if_true];by_cases h:i<0
   ·simp only[h,if_true]<;>omega
   ·simp only[h,if_false]<;>omega
theorem mY(its:List Value)(lo hi:Option Int):slicePick its.toArray lo hi none=((its.drop (HT.sIx its.length 0 lo)).take (HT.sIx its.length its.length hi-HT.sIx its.length 0 lo)).toArray:=by obtain⟨h1,h2,h3⟩:=oS lo hi its.toArray.size;unfold slicePick;rw[h1,h2,h3];simp only[sliceRange_one,pick_run,Zj]<;>rfl
inductive rSlL(K:PySem.W.Frag)(x:V)(lo:Option Int)(hi:Option Int)(H:Hp)(Q:VK):Prop
 |mk (a xs:_) (h0:x=.ref a) (h1:SqL K H a xs) (h2:∀p,H p=none->Q (.ref p) (upd H p (.lst (aG xs lo hi)))):rSlL K x lo hi H Q
theorem xO:SlR X (rSlL X.K):=by intro pins s σ H x v vl vu lo hi sl Q I rx hs pl pu h;obtain⟨a,xs,rfl,hx,q⟩:=h;cases rx;obtain⟨its,r,ht,hz⟩:=I.list hx;have hlen:=r.length;refine⟨"list",_,slot_list_getitem.lookup,ht.isList.typeIs,?_⟩;refine wpAny_getItem_list_slice ht.isList hs pl pu .none (by simp) ?_ (by rw[Zj]<;>omega);rw[mY,<-hlen];refine⟨.ref s.heap.objs.size,_,I.laid (t':=s.toks) (o:=.lst (aG xs lo hi)) (fun b ob q=>Zb _ q) (Zg _) ?_,rfl,q _ (I.hok.fresh (Zg _))⟩;exact⟨Zd (bo xs lo hi) hz,_,0,(r.drop (HT.sIx xs.length 0 lo)).take (HT.sIx xs.length xs.length hi-HT.sIx xs.length 0 lo),Zs _ rfl⟩
def gg:V->Bool
 |.non=>true
 |.bl _=>true
 |.int _=>true
 |.str _=>true
 |_=>false
def eqV:V->V->Bool
 |.non,.non=>true
 |.bl a,.bl b=>a==b
 |.bl a,.int b=>(if a then 1 else 0)==b
 |.int a,.bl b=>a==(if b then 1 else 0)
 |.int a,.int b=>a==b
 |.str a,.str b=>a==b
 |_,_=>false
theorem yk{A:Around}{s:Shared}{y x:V}{u v:Value}(ry:RelV y u)(rx:RelV x v)(fy:gg y=true)(fx:gg x=true):SeqAt.EqAt A s u v (eqV y x):=by
 cases y with
 |non =>
  cases ry;cases x with
  |non=>cases rx;exact SeqAt.EqAt.same _
  |bl b=>cases rx;exact SeqAt.EqAt.none_bool b
  |int b=>obtain⟨t,rfl⟩:=rx;exact SeqAt.EqAt.none_int b t
  |str b=>obtain⟨t,rfl⟩:=rx;exact SeqAt.EqAt.none_str b t
  |_=>exact absurd (show false=true from fx) Zi
 |bl a =>
  cases ry;cases x with
  |non=>cases rx;exact SeqAt.EqAt.bool_none a
  |bl b=>cases rx;exact SeqAt.EqAt.bool_bool a b
  |int b=>obtain⟨t,rfl⟩:=rx;exact SeqAt.EqAt.bool_int a b t
  |str b=>obtain⟨t,rfl⟩:=rx;exact SeqAt.EqAt.bool_str a b t
  |_=>exact absurd (show false=true from fx) Zi
 |int a =>
  obtain⟨t',rfl⟩:=ry;cases x with
  |non=>cases rx;exact SeqAt.EqAt.int_none a t'
  |bl b=>cases rx;exact SeqAt.EqAt.int_bool a t' b
  |int b=>obtain⟨t,rfl⟩:=rx;exact SeqAt.EqAt.int_int a t' b t
  |str b=>obtain⟨t,rfl⟩:=rx;exact SeqAt.EqAt.int_str a t' b t
  |_=>exact absurd (show false=true from fx) Zi
 |str a =>
  obtain⟨t',rfl⟩:=ry;cases x with
  |non=>cases rx;exact SeqAt.EqAt.str_none a t'
  |bl b=>cases rx;exact SeqAt.EqAt.str_bool a t' b
  |int b=>obtain⟨t,rfl⟩:=rx;exact SeqAt.EqAt.str_int a t' b t
  |str b=>obtain⟨t,rfl⟩:=rx;exact SeqAt.EqAt.str_str a t' b t
  |_=>exact absurd (show false=true from fx) Zi
 |_=>exact absurd (show false=true from fy) Zi
def eqU(x:V)(u:Value):Bool:=match u with
 |.none=>eqV .non x
 |.bool b=>eqV (.bl b) x
 |.int i _=>eqV (.int i) x
 |.str z _=>eqV (.str z) x
 |_=>false
theorem sD{x y:V}{u:Value}(r:RelV y u)(f:gg y=true):eqU x u=eqV y x:=by
 cases y with
 |non=>cases r;rfl
 |bl b=>cases r;rfl
 |int i=>obtain⟨t,rfl⟩:=r;rfl
 |str z=>obtain⟨t,rfl⟩:=r;rfl
 |_=>exact absurd (show false=true from f) Zi
theorem lF{x:V}:∀{xs:List V} {us:List Value},Vals xs us->xs.all gg=true->us.any (eqU x)=xs.any fun y=>eqV y x
 |_,_,.nil,_=>rfl
 |y::xs,u::us,.cons r t,f=>by rw[Ya,Zy]at f;rw[List.any_cons,List.any_cons,sD r f.1,lF t f.2]
theorem jT{A:Around}{s:Shared}{x:V}{v:Value}(rx:RelV x v)(fx:gg x=true):∀{xs:List V} {us:List Value},Vals xs us->xs.all gg=true->∀u∈us,SeqAt.EqAt A s u v (eqU x u)
 |_,_,.nil,_=>fun u hu=>by cases hu
 |y::xs,u::us,.cons r t,f=>fun u' hu=>by
  rw[Ya,Zy]at f;rcases Zr.mp hu with rfl|hu
  ·rw[sD r f.1];exact yk r rx f.1 fx
  ·exact jT rx fx t f.2 u' hu
def inV(x:V)(xs:List V):Bool:=xs.any fun y=>eqV y x
def rIn(K:PySem.W.Frag)(neg:Bool):R2:=fun x y H Q=>∃p xs,y=.ref p/\(SqL K H p xs\/SqT K H p xs)/\gg x=true/\xs.all gg=true/\Q (.bl (if neg then !inV x xs else inV x xs)) H
theorem tF:OpR X (compareOp .In) (rIn X.K false):=by
 intro pins s σ H x y v u Q I rx ry h;obtain⟨p,xs,rfl,hq,fx,fs,q⟩:=h;cases ry;rcases hq with hq|hq
 ·obtain⟨its,r,pl,hz⟩:=I.list hq;refine SeqAt.in_listAt (eqU x) pl.isList (fun w hw=>jT rx fx r fs w (by simpa using hw)) ⟨.bl _,H,I,rfl,?_⟩;rw[show its.toArray.any (eqU x)=its.any (eqU x) by simp,lF r fs];exact q
 ·obtain⟨its,r,pl,hz⟩:=I.tuple hq;refine SeqAt.in_tupleAt (eqU x) pl (fun w hw=>jT rx fx r fs w (by simpa using hw)) ⟨.bl _,H,I,rfl,?_⟩;rw[show its.toArray.any (eqU x)=its.any (eqU x) by simp,lF r fs];exact q
theorem nJ:dN X (.builtin "len") (fun xs H Q=>∃p ys,xs=[.ref p]/\(SqL X.K H p ys\/SqT X.K H p ys)/\Q (.int ys.length) H):=by
 intro pins s σ H xs us Q I r h;obtain⟨p,ys,rfl,hq,q⟩:=h;obtain⟨u,rfl,rx⟩:=cW r;cases rx;have hn:=iS;rcases hq with hq|hq
 ·obtain⟨its,r',pl,hz⟩:=I.list hq;have hlen:=r'.length;exact Calls.call_len_list pl.isList (by simp only[Zj]<;>omega) ⟨.int ys.length,H,I.tok _,⟨s.toks+1,by rw[Zj,hlen]⟩,q⟩
 ·obtain⟨its,r',pl,hz⟩:=I.tuple hq;have hlen:=r'.length;exact len_tuple pl (by simp only[Zj]<;>omega) ⟨.int ys.length,H,I.tok _,⟨s.toks+1,by rw[Zj,hlen]⟩,q⟩
theorem mR:dN X (.type "tuple") (fun xs H Q=>∃p ys,xs=[.ref p]/\((SqL X.K H p ys/\∀l,H l=none->Q (.ref l) (upd H l (.tup ys)))\/(SqT X.K H p ys/\Q (.ref p) H))):=by
 intro pins s σ H xs us Q I r h;obtain⟨p,ys,rfl,h⟩:=h;obtain⟨u,rfl,rx⟩:=cW r;cases rx;rcases h with⟨hq,q⟩|⟨hq,q⟩
 ·obtain⟨its,r',pl,hz⟩:=I.list hq;have hlen:=r'.length;refine call_tuple_list pl.isList (fun h' kp=>?_) (by simp only[Zj]<;>omega);have I1:Inv X pins σ H { s with heap:=h' }:=I.kept (t':=s.toks) kp;have I2:Inv X pins σ (upd H h'.objs.size (.tup ys)) { s with heap:=h'.push { cls:=.type "tuple",data:=.seq its.toArray } } :=
   I1.laid (t':=s.toks) (fun b o e=>Zb _ e) (Zg _) (show ObjOk X.prog X.w _ _ _ (.tup ys)from⟨hz,its,r',IsTup.new _ _⟩)
  exact⟨.ref h'.objs.size,_,I2,rfl,q _ (I1.hok.fresh (Zg _))⟩
 ·obtain⟨its,r',pl,hz⟩:=I.tuple hq;exact call_tuple_same pl ⟨.ref p,H,I,rfl,q⟩
def tyV(K:PySem.W.Frag)(T:String)(x:V)(H:Hp):Prop:=match x with
 |.str _=>T="str"
 |.int _=>T="int"
 |.ref p=>(T="list"/\∃xs,SqL K H p xs)\/(T="tuple"/\∃o,K.lookup p=some o/\o.cls=.type "tuple"/\o.dict=none) \/
   (T="dict"/\((∃kvs,H p=some (.dK kvs))\/∃kvs,H p=some (.dT kvs)))\/(T="set"/\∃S n,H p=some (.set S n))
 |_=>False
theorem pf{pins:List (Addr×Obj)}{σ:St}{H:Hp}{s:Shared}{T:String}{x:V}{v:Value}(I:Inv X pins σ H s)(r:RelV x v)(ty:tyV X.K T x H) :
  s.TypeIs v T/\∀a,v=.ref a->∃ob,s.heap.get? a=some ob/\ob.dict=none:=by
 cases x with
 |str z =>obtain⟨t,rfl⟩:=r;cases(show T="str" from ty);exact⟨typeIs_str s z t,fun _ e=>nomatch e⟩
 |int i =>obtain⟨t,rfl⟩:=r;cases(show T="int" from ty);exact⟨typeIs_int s i t,fun _ e=>nomatch e⟩
 |ref p =>
  cases r;rcases ty with⟨rfl,xs,hq⟩|⟨rfl,o,hk,hc,hd⟩|⟨rfl,hk⟩|⟨rfl,S,n,hk⟩
  ·obtain⟨its,_,pl,_⟩:=I.list hq;refine⟨pl.isList.typeIs,fun a e=>?_⟩;cases e;obtain⟨o,n,e,c,hd,_⟩:=pl;exact⟨o,e,hd⟩
  ·refine⟨⟨o,I.kIn p o hk,hc⟩,fun a e=>?_⟩;cases e;exact⟨o,I.kIn _ o hk,hd⟩
  ·have z:∃o,s.heap.get? p=some o/\o.ExactDict:=by
    rcases hk with⟨kvs,hk⟩|⟨kvs,hk⟩
    ·obtain⟨_,_,_,_,o,_,_,e,ex,_⟩:=I.hok p _ hk;exact⟨o,e,ex⟩
    ·obtain⟨_,_,_,_,o,_,_,e,ex,_⟩:=I.hok p _ hk;exact⟨o,e,ex⟩
   obtain⟨o,e,ex⟩:=z;refine⟨⟨o,e,ex.1⟩,fun a e2=>?_⟩;cases e2;exact⟨o,e,ex.2.1⟩
  ·obtain⟨o,_,_,_,e,ex,_⟩:=I.hok p _ hk;refine⟨⟨o,e,ex.1⟩,fun a e2=>?_⟩;cases e2;exact⟨o,e,ex.2.1⟩
 |_=>exact False.elim ty
def zQ(K:PySem.W.Frag)(T:String)(r:V->List V->Hp->VK->Prop)(to:TE):TE:=fun σ H Q=>to σ H fun x H1=>tyV K T x H1/\r x [] H1 Q
def tBM(K:PySem.W.Frag)(T:String)(r:V->List V->Hp->VK->Prop)(to:TE)(t:TA):TE:=fun σ H Q=>to σ H fun x H1=>tyV K T x H1/\t σ H1 fun xs H2=>r x xs H2 Q
variable{o e:Expr}{es:List Expr}{to:TE}{t:TA}{name:Str}{apos cpos:Pos}{T id:String}{r:V->List V->Hp->VK->Prop}
theorem yT(pa:PlainAttrs T)(slot:Slot T name id)(hty:typeOf (.builtin id)=pure (.type "method_descriptor"))(hm:MtR X id r)(ho:PE X o to)(hbase:attributeBase o name X.env (eval o X.env)=eval o X.env:=by rfl)(hline:(apos.endLine==cpos.line)=true:=by rfl):PE X (.Call (.Attribute o name apos) [] [] cpos) (zQ X.K T r to):=by intro pins s σ H Q I h;refine wpAny_Call_method0_late hbase hline (thn (ho pins s σ H _ I h) fun v s1 hz9=>?_);obtain⟨x,H1,I1,r1,ty,q1⟩:=hz9;obtain⟨h1,h2⟩:=pf I1 r1 ty;exact⟨T,id,pa,slot,hty,h1,h2,Calls.callWith_builtin rfl (PySem.evalArgs_none (hm pins s1 σ H1 x [] v [] Q I1 r1 .nil q1))⟩
theorem kR(pa:PlainAttrs T)(slot:Slot T name id)(hty:typeOf (.builtin id)=pure (.type "method_descriptor"))(hm:MtR X id r)(ho:PE X o to)(ha:PA X (e::es) t)(hbase:attributeBase o name X.env (eval o X.env)=eval o X.env:=by rfl)(hfew:((backTo cpos (starEach (e::es) X.env)).all (fun x=>!x.1)&&(backToKw cpos (keywordEach [] X.env)).all (fun x=>x.1.isSome)
  &&decide ((e::es).length+([]:List Keyword).length+(if ([]:List Keyword).isEmpty then 0 else 1)<30))=true:=by rfl)(hline:(apos.endLine == cpos.line)=true:=by rfl)(hs:starEach (e::es) X.env=(false,eval e X.env)::starEach es X.env:=by rfl)(hplain:(backTo cpos (starEach es X.env)).any (·.1)=false:=by rfl) :
  PE X (.Call (.Attribute o name apos) (e::es) [] cpos) (tBM X.K T r to t):=by
 intro pins s σ H Q I h;refine wpAny_Call_method_late hbase hfew hline rfl (thn (ho pins s σ H _ I h) fun v s1 hz9=>?_);obtain⟨x,H1,I1,r1,ty,q1⟩:=hz9;obtain⟨h1,h2⟩:=pf I1 r1 ty;refine⟨T,id,pa,slot,hty,h1,h2,?_⟩;have hA:=ha cpos pins s1 σ H1 _ I1 q1;rw[hs]at hA ⊢;refine Calls.callWith_builtin (by show(false ||(backTo cpos (starEach es X.env)).any (·.1))=false;rw[hplain]<;>rfl) (Calls.evalArgs_plain ?_);exact thn hA fun us s2 ⟨vs,H2,I2,r2,q2⟩=>hm pins s2 σ H2 x vs v us Q I2 r1 r2 q2
end
open PySem PySem.Spec PyProof.Rows
section
variable{X:Cx}{pins:List (Addr×Obj)}{σ:St}{H:Hp}{s:Shared}{l b:Addr}{xs ys zs:List V}
theorem Inv.lnew{its:List Value}{t':Nat}(I:Inv X pins σ H s)(hv:Vals ys its)(hz:ys.length<=sizeLine) :
  Inv X pins σ (upd H s.heap.objs.size (.lst ys)) { s with heap:=s.heap.push { cls:=.type "list",data:=.seq its.toArray },toks:=t' } :=
 I.laid (fun _ _ q=>Zb _ q) (Zg _) ⟨hz,its,0,hv,Zs _ rfl⟩
theorem Inv.fresh(I:Inv X pins σ H s):H s.heap.objs.size=none:=I.hok.fresh (Zg _)
theorem Inv.lstM(I:Inv X pins σ H s)(hH:H l=some (.lst xs)):xs.length<=sizeLine/\∃(its:List Value) (n:Nat),Vals xs its/\xs.length=its.length/\s.heap.get? l=some { cls:=.type "list",data:=.seq its.toArray n }:=by obtain⟨z,its,n,r,e⟩:=I.hok l _ hH;exact⟨z,its,n,r,r.length,e⟩
end
section
variable{X:Cx}
inductive rAppend  (x:V)(vs:List V)(H:Hp)(Q:VK):Prop
 |mk (l xs y:_) (h0:x=.ref l) (h1:vs=[y]) (h2:H l=some (.lst xs)) (h3:xs.length<sizeLine) (h4:Q .non (upd H l (.lst (xs++[y])))):rAppend  x vs H Q
inductive rCat  (x:V)(y:V)(H:Hp)(Q:VK):Prop
 |mk (l b xs zs:_) (h0:x=.ref l) (h1:y=.ref b) (h2:H l=some (.lst xs)) (h3:H b=some (.lst zs)) (h4:xs.length+zs.length<=sizeLine) (h5:∀p,H p=none->Q (.ref p) (upd H p (.lst (xs++zs)))):rCat  x y H Q
theorem yL:OpR X (binaryOp .Add) rCat:=by
 intro pins s σ H x y v u Q I rx ry h;obtain⟨l,b,xs,zs,rfl,rfl,hH,hB,hz,q⟩:=h;cases rx;cases ry;obtain⟨z,its,n,r,hl,e⟩:=I.lstM hH;obtain⟨z2,its2,n2,r2,hl2,e2⟩:=I.lstM hB;refine PySem.P.add_list e e2 ?_ (by rw[Zj,Zj];omega);have ea:its.toArray++its2.toArray=(its++its2).toArray:=by simp
 rw[ea];exact⟨.ref _,_,I.lnew (t':=s.toks) (r.append r2) (by rw[Zh];omega),rfl,q _ I.fresh⟩
end
open PySem PySem.Spec PyProof.Rows
section
variable{κ:Type}[DecidableEq κ]
def zt(kvs:List (κ×V))(k:κ)(v:V):List (κ×V) :=
 if(kvs.any fun kv=>decide (kv.1=k))=true then kvs.map (fun kv=>if kv.1=k then(kv.1,v)else kv)else kvs++[(k,v)]
end
def AI(H:Hp)(a:Addr)(y v:V)(H':Hp):Prop :=
 (∃kvs k,H a=some (.dK kvs)/\y=kV k/\kvs.length<sizeLine/\H'=upd H a (.dK (zt kvs k v))) \/
 ∃kvs k b,H a=some (.dT kvs)/\y=.ref b/\H b=some (.tup (k.map kV))/\kvs.length<sizeLine/\H'=upd H a (.dT (zt kvs k v))
inductive IsP(x y v:V)(H:Hp)(R:Hp->Prop):Prop
 |mk (a:Addr) (H':Hp) (h0:x=.ref a) (h1:AI H a y v H') (q:R H'):IsP x y v H R
def um:List (TE×TE)->St->Hp->(List (V×V)->Hp->Prop)->Prop
 | [],_,H,Q=>Q [] H
 |(tk,tv)::r,σ,H,Q=>tk σ H fun x H1=>tv σ H1 fun y H2=>um r σ H2 fun ps H3=>Q ((x,y)::ps) H3
abbrev VV:List (V×V)->List (Value×Value)->Prop:=Paired fun p q=>RelV p.1 q.1/\RelV p.2 q.2
def PPs(X:Cx)(pos:Pos)(keys:List (Option Expr))(values:List Expr)(trs:List (TE×TE)):Prop :=
 ∀(pins:List (Addr×Obj)) (s:Shared) (σ:St) (H:Hp) (Q:List (V×V)->Hp->Prop),Inv X pins σ H s->um trs σ H Q ->
  wpAny (model X.prog X.w) X.A (evalPairs (pairTrees keys values X.env pos)) (fun vs s'=>∃ps H',Inv X pins σ H' s'/\VV ps vs/\Q ps H') X.xe s
structure M1(X:Cx)(o:Expr)(m:Str)(apos:Pos)(e:Expr)(cpos:Pos):Prop where
 base:attributeBase o m X.env (eval o X.env)=eval o X.env
 few:((backTo cpos (starEach [e] X.env)).all (fun x=>!x.1)&&(backToKw cpos (keywordEach [] X.env)).all (fun x=>x.1.isSome)
 &&decide (([e]:List Expr).length+([]:List Keyword).length+(if ([]:List Keyword).isEmpty then 0 else 1)<30))=true
 line:(apos.endLine==cpos.line)=true
 trees:backTo cpos (starEach [e] X.env)=[(false,eval e X.env)]
structure M2(X:Cx)(o:Expr)(m:Str)(apos:Pos)(e f:Expr)(cpos:Pos):Prop where
 base:attributeBase o m X.env (eval o X.env)=eval o X.env
 few:((backTo cpos (starEach [e,f] X.env)).all (fun x=>!x.1)&&(backToKw cpos (keywordEach [] X.env)).all (fun x=>x.1.isSome)
 &&decide (([e,f]:List Expr).length+([]:List Keyword).length+(if ([]:List Keyword).isEmpty then 0 else 1)<30))=true
 line:(apos.endLine==cpos.line)=true
 trees:backTo cpos (starEach [e,f] X.env)=[(false,eval e X.env),(false,eval f X.env)]
end L2
namespace Att
open PySem PySem.W PySem.Calls PyProof.Rows
theorem kL{P:Params}{h:Heap}:∀(ns:List Int) (vs:List Value),WellAll P h vs (ns.map WData.int)->IntsAre vs ns:=by
 intro ns;induction ns with
 |nil =>intro vs w;rw[List.map_nil]at w;cases w;exact .nil
 |cons n ns ih =>
  intro vs w;rw[ZH]at w;cases w with
  |cons a b =>cases a;exact .cons _ _ (ih _ b)
theorem tV{l:OpenLaw}{n:Nat}(hn:l.most=some n){P:Params}{h:Heap}{args:List WData}{vals:List Value}(hpre:l.row.toRowW.claim.pre args=true)(hwl:WellAll P h vals args) :
  ∃a vs ns,vals=[Value.ref a]/\args=[WData.list (ns.map WData.int)]/\h.get? a=some { cls:=.type "list",data:=.seq vs.toArray }/\IntsAre vs ns/\ns.length<=n:=by
 have hsh:WShape.hasAll [] args [.list .int]=true:=(pre_splitW hpre).1;have hc:l.pre.holds [] { args:=args }=true:=(pre_splitW hpre).2;obtain⟨d,r,rfl,h1,h2⟩:=hasAllW_cons hsh;obtain rfl:=hasAllW_nil h2;obtain⟨xs,rfl,h3⟩:=hasW_list h1;obtain⟨ns,rfl⟩:=items_int h3;have hlen:ns.length<=n:=by
  unfold OpenLaw.pre at hc;have h4:(WTm.not (.lt (.lit (.int (n:Int))) (.len (.arg 0)))).holds [] { args:=[.list (ns.map .int)] }=true:=by have h4:=(holds_andW hc).1;rw[hn]at h4;exact h4
  have h5:=condW_of h4 (w_not (w_lt w_lit (w_len_list (w_arg rfl))));rw[z6]at h5;refine Nat.le_of_not_lt fun q=>?_;have q':(n:Int)<((ns.length:Nat):Int):=by omega
  first
   |(rw[decide_eq_true q']at h5;exact absurd h5 (by decide))
   |(simp at h5;omega)
 cases hwl with
 |cons w1 w2 =>
  cases w2;cases w1 with
  |list ho hall=>exact⟨_,_,ns,rfl,rfl,ho,kL ns _ hall,hlen⟩
theorem tK(l:OpenLaw)(args:List WData):l.row.toRowW.claim.post args (.bool true) args=true :=
 postW_of (r:=l.row.toRowW) (X:=(true==true))
  (show WShape.has [] (.bool true) .bool=true by first|rfl|decide|simp[WShape.has,WShape.arms,WShape.armsAll])
  (show(WTm.eq .res (.lit (.bool true))).value [] { args:=args,res:=some (.bool true),after:=args }=some (.bool (true==true))from w_eq_bool (w_res rfl) w_lit) rfl
theorem attach_call{l:OpenLaw}{n:Nat}{q:Program}{loose:List Str}{XP:(Str->Option Value)->Heap->Prop}{YP:World->Heap->Prop}{d:DefRec}(hn:l.most=some n)(hdf:d.params.defaults=[])(call:∀ (w:World) (s₀ s₁:Shared) (mg mb:Str->Option Value) (fa:Addr) (o:Obj) (pm cd doc:Value) (a:Addr) (vs:List Value) (ns:List Int),
   Ground q loose [] XP w s₀ mg mb s₁.heap->YP w s₁.heap ->
   s₁.heap.get? fa=some o->o.data=.func (docDef d.name d.params d.body d.scope pm cd doc)->s₁.heap.CodeRec cd d.name->mg d.name=some (.ref fa) ->
   s₁.heap.get? a=some { cls:=.type "list",data:=.seq vs.toArray }->IntsAre vs ns->ns.length<=n->s₁.gens=#[] ->
   codeAny (model l.prog w) callerA (.call (.ref fa) ⟨[.ref a],[]⟩) (fun r s'=>r=.ok (.ret (.bool true))/\OldK s₁.heap s'.heap/\s'.os=s₁.os/\AllBare s'.gens) s₁) :
  WalkO q loose XP YP l.row.toRowW d [] (fun f vs=>PySem.call f vs):=by
 intro w s₀ s₁ mg mb G Y fa o pm cd doc dV kV ho hd hcd hD hmg hg args vals as hpre hlay hrd hwl hlo;obtain rfl:dV=.none:=Dflts.none hD hdf;obtain rfl:kV=.none:=Dflts.noKw hD;obtain⟨a,vs,ns,rfl,rfl,hobj,hints,hlen⟩:=tV hn hpre hwl;refine enter_call (codeAny_mono (call w s₀ s₁ mg mb fa o pm cd doc a vs ns G Y ho (fd_plain hd) hcd hmg hobj hints hlen hg) fun r s' hq=>?_);obtain⟨rfl,h2,h3,h4⟩:=hq;exact⟨.inl ⟨.bool true,.bool true,[],rfl,fun _=>rfl,.bool true,tK l _,fun _=>⟨List.Pairwise.nil,fun _ hm=>(nomatch hm)⟩⟩,h2,h3,h4⟩
end Att
namespace L2
open PySem PySem.Spec PyProof.Rows
theorem mP:∀{vs:List Value} {ns:List Int},IntsAre vs ns->Vals (ns.map V.int) vs
 |_,_,.nil=>.nil
 |_,_,.cons n t h=>.cons ⟨t,rfl⟩ (mP h)
def uA(H:Hp):Prop:=∀b,H b=none\/∃o xs,H b=some (.frz o (.lst xs))
theorem vc{P:Program}{w:World}{K:PySem.W.Frag}{mg mb:Str->Option Value}{CX:CXT}{k:Nat}{fa a:Addr}{fd:FuncData}{x:Str}{sp:Sp}{s₁:Shared}{vs:List Value}{ns:List Int}(KX:K.In s₁.heap)(hns:s₁.heap.Ns mainGlobals mg)(hb:s₁.heap.Ns builtinsNs mb)(hbb:∀x:Str,x≠"__name__"->mb x=bootBuiltins x)(hlim:s₁.heap.NoLimit)(hg:s₁.gens=#[])(ha:s₁.heap.get? a=some { cls:=.type "list",data:=.seq vs.toArray })(hi:IntsAre vs ns)(hl:ns.length<=sizeLine)(hr:Room k callerA)(F:∀base:Heap,K.In base->base.Ns mainGlobals mg->FnOk P w K mg base CX k fa fd [x] sp)(hbind:∀(s:Shared) (u:Value),BindsTo s fd ⟨[u],[]⟩ [(x,u)])(hsp:∀H:Hp,uA H->SqL K H a (ns.map V.int)->sp [.ref a] H (fun v _=>v=.bl true) fun _ _ _=>False)(hCX:∀H e s',CX [] H s₁ (fun _ _ _=>False) e s'->False) :
  codeAny (model P w) callerA (.call (.ref fa) ⟨[.ref a],[]⟩) (fun r s'=>r=.ok (.ret (.bool true))/\OldK s₁.heap s'.heap/\s'.os=s₁.os/\AllBare s'.gens) s₁:=by
 have rv:=mP hi;have lenV:=hi.length;have core:∀H:Hp,uA H->SqL K H a (ns.map V.int)->HOk P w H s₁.heap->(∀b,H b≠none->b=a)->(H a≠none->K.lookup a=none) ->
   codeAny (model P w) callerA (.call (.ref fa) ⟨[.ref a],[]⟩) (fun r s'=>r=.ok (.ret (.bool true))/\OldK s₁.heap s'.heap/\s'.os=s₁.os/\AllBare s'.gens) s₁:=by
  intro H hO hS hok hA hK;have base_of:∀{b:Addr} {o:Obj},s₁.heap.get? b=some o->H b=none->(im s₁.heap H).get? b=some o:=fun e n=>uV e n;have noA:∀{b:Addr} {o:Obj} {es:Array DictEntry} {ep:Nat},s₁.heap.get? b=some o->o.data=.dict es ep->H b=none:=fun{b o es ep} e d=>by
   cases q:H b with
   |none=>rfl
   |some u =>have e':b=a:=hA b (by rw[q];simp);subst e';rw[ha]at e;cases e;have d':Data.seq vs.toArray _=Data.dict es ep:=d;cases d'
  have nsK:∀{b:Addr} {m:Str->Option Value},s₁.heap.Ns b m->(im s₁.heap H).Ns b m:=fun{b m} ⟨o,es,ep,e,d,r⟩=>⟨o,es,ep,base_of e (noA e d),d,r⟩
  have hKb:K.In (im s₁.heap H):=fun b o e=>base_of (KX b o e) (by
   cases q:H b with
   |none=>rfl
   |some u =>
    have e':b=a:=hA b (by rw[q];simp);subst e';rw[hK (by rw[q];simp)]at e;cases e)
  have hM:Mod K mg (im s₁.heap H):=⟨hKb,nsK hns,⟨mb,nsK hb,hbb⟩,let⟨mc,h1,h2⟩:=hlim;⟨mc,nsK h1,h2⟩⟩
  have e0:Env0 P w K mg (im s₁.heap H) callerA [] s₁ H:=⟨rfl,hM,fun b o e=>xk e,Nat.le_of_eq (sO _ _),trivial,fun b hb=>absurd (show b∈([]:List Addr)from hb) (by simp),hok,.of_eq hg⟩
  refine codeAny_mono ((F _ hKb (nsK hns)).run callerA [] s₁ H ⟨[.ref a],[]⟩ [.ref a] [.ref a] _ _ hr e0 (hbind s₁ (.ref a)) (.cons rfl .nil) (hsp H hO hS)) fun r s' h=>?_;cases r with
  |error e=>exact(hCX H e s' h).elim
  |ok fl =>
   cases fl with
   |next=>exact False.elim h
   |brk=>exact False.elim h
   |cont=>exact False.elim h
   |ret u =>
    obtain⟨v,H',os,bare,un,hok',r',q⟩:=h;have q':v=.bl true:=q;subst q';obtain rfl:u=Value.bool true:=r';refine⟨rfl,OldK.of_keep fun b o e=>?_,os,bare⟩;cases q:H b with
    |none=>exact un.keep b o e q (by intro z;exact absurd (show b∈([]:List Addr)from z) (by simp)) (by simp)
    |some u =>
     rcases hO b with z|⟨ob,xs,z⟩
     ·rw[q]at z;cases z
     ·have z2:=un.frzs b ob _ z;obtain⟨e1,_⟩:=hok b _ z;obtain⟨e2,_⟩:=hok' b _ z2;rw[e]at e1;cases e1;exact e2
 cases hk:K.lookup a with
 |some o =>have e:=KX a o hk;rw[ha]at e;cases e;refine core (fun _=>none) (fun _=>.inl rfl) (.inr ⟨_,vs.toArray,_,hk,rfl,rfl,rfl,by rw[Zj,lenV];exact hl,by simpa using rv⟩) (fun b u z=>by have z':(none:Option HO)=some u:=z;cases z') (fun b z=>absurd rfl z) fun z=>absurd rfl z
 |none =>
  refine core (fun b=>if b=a then some (.frz { cls:=.type "list",data:=.seq vs.toArray } (.lst (ns.map V.int)))else none) (fun b=>?_) (.inl (.inr ⟨{ cls:=.type "list",data:=.seq vs.toArray },BK rfl⟩)) (fun b u z=>?_) (fun b z=>?_) fun _=>hk
  ·by_cases hb:b=a
   ·exact .inr ⟨_,_,BK hb⟩
   ·exact .inl (BJ hb)
  ·by_cases hb:b=a
   ·have z':=(BK hb).symm.trans z;cases z';subst hb;exact⟨ha,by rw[z6];exact hl,vs,_,rv,ha⟩
   ·have z':=(BJ hb).symm.trans z;cases z'
  ·by_cases hb:b=a
   ·exact hb
   ·exact absurd (BJ hb) z
open PySem PySem.Spec PyProof.Rows
theorem xS{l:PySem.W.OpenLaw}{n k:Nat}{q:Program}{loose:List Str}{XP:(Str->Option Value)->Heap->Prop}{YP:World->Heap->Prop}{d:DefRec}{K:Params->PySem.W.Frag}{CX:World->CXT}{sp:World->Sp}{x:Str}(hn:l.most=some n)(hn2:n<=sizeLine)(hdf:d.params.defaults=[])(hr:Room k callerA)(hY:∀ (w:World) (h:Heap),YP w h->(K w.params).In h)(F:∀ (w:World) (mg:Str->Option Value) (fa:Addr) (h:Heap),(K w.params).In h->h.Ns mainGlobals mg->mg d.name=some (.ref fa) ->
   ∃fd:FuncData,(∀(s:Shared) (u:Value),BindsTo s fd ⟨[u],[]⟩ [(x,u)]) /\
    ∀ base:Heap,(K w.params).In base->base.Ns mainGlobals mg->FnOk l.prog w (K w.params) mg base (CX w) k fa fd [x] (sp w))(hsp:∀ (w:World) (H:Hp) (a:Addr) (ns:List Int),ns.length<=n->uA H->SqL (K w.params) H a (ns.map V.int)->sp w [.ref a] H (fun v _=>v=.bl true) fun _ _ _=>False)(hCX:∀ (w:World) (H:Hp) (s:Shared) (e:Value) (s':Shared),CX w [] H s (fun _ _ _=>False) e s'->False) :
  PySem.W.WalkO q loose XP YP l.row.toRowW d [] (fun f vs=>PySem.call f vs):=by
 refine Att.attach_call hn hdf fun w s₀ s₁ mg mb fa o pm cd doc a vs ns G Y ho hd hcd hmg hobj hints hlen hg=>?_;have KX:=hY w _ Y;obtain⟨fd,hb,hF⟩:=F w mg fa _ KX G.T.g hmg;exact vc KX G.T.g G.T.b G.T.builtins G.T.nolimit hg hobj hints (Zd hlen hn2) hr hF hb (fun H hO hS=>hsp w H a ns hlen hO hS) fun H e s'=>hCX w H s₁ e s'
open PySem PySem.Spec PyProof.Rows
def dH(s:Stmt):Arguments:=match s with
 |.FunctionDef _ a _ _ _ _ _ _ _ _=>a
 |_=>{ posonlyargs:=[],args:=[],vararg:=none,kwonlyargs:=[],kw_defaults:=[],kwarg:=none,defaults:=[] }
def bR(s:Stmt):List Stmt:=match s with
 |.FunctionDef _ _ b _ _ _ _ _ _ _=>b
 |_=>[]
def au(s:Stmt):Scope:=match s with
 |.FunctionDef _ _ _ _ _ _ sc _ _ _=>sc
 |_=>{ kind:=.function,names:=[],isGenerator:=false,isCoroutine:=false }
abbrev CX0:CXT:=fun _ _ _ _ _ _=>False
abbrev E0:XK:=fun _ _ _=>False
theorem As{X:Cx}:gJ CX0 X E0:=fun _ _ _ _ _ _ _ h=>h.elim
structure Fun(K:PySem.W.Frag)(x qual:Str)(st:Stmt)(f:Addr)(fd:FuncData):Prop where
 ex:∃(oc:Value) (od:Option Addr) (kV doc pm:Value) (an:Option Addr) (cdv ct:Value) (osl:Array (Option Value)),
  fd=PySem.W.fnOf x qual (dH st) (bR st) (au st) .none kV doc pm an cdv ct/\K.lookup f=some ⟨oc,od,.func fd,osl⟩/\PySem.W.codeIn K cdv qual=true
 kp:PySem.W.keepIn K (.ref f)=true
section
variable{P:Program}{w:World}{K:PySem.W.Frag}{mg:Str->Option Value}{base:Heap}
theorem Fun.ok{x qual:Str}{st:Stmt}{f:Addr}{fd:FuncData}{N ps:List Str}{k:Nat}{sp:Sp}(F:Fun K x qual st f fd)(S:FnScope N ps (au st))(len:∀ vs H Q E,sp vs H Q E->vs.length=ps.length)(hbody:∀ (cdv:Value) (A:Around) (outer:List Env) (s:Shared) (H:Hp) (vs:List V) (Q:VK) (E:XK),Room k (A.deeper (envOfC qual (au st) s.heap.objs.size f cdv))->sp vs H Q E ->
   ∃ t,PSs (dO CX0 P w K mg base N qual (au st) f cdv A outer s H E).nox (bR st) t/\t { nx:=fun _ H'=>Q .non H',rt:=Q } (dR N vs) H):FnOk P w K mg base CX0 (k+1) f fd ps sp:=by
 obtain⟨oc,od,kV,doc,pm,an,cdv,ct,osl,rfl,lk,hcd⟩:=F.ex;refine wm lk hcd S len fun A outer s H vs Q E hr hsp=>?_;obtain⟨t,h,q⟩:=hbody cdv A outer s H vs Q E hr hsp;exact⟨t,h.nox,q⟩
theorem Fun.binds{x qual:Str}{st:Stmt}{f:Addr}{fd:FuncData}{ps:List Str}(F:Fun K x qual st f fd)(h:∀(kV doc pm:Value) (an:Option Addr) (cdv ct:Value) (us:List Value),us.length=ps.length->bindArgs (PySem.W.fnOf x qual (dH st) (bR st) (au st) .none kV doc pm an cdv ct) ⟨us,[]⟩=pure (ps.zip us)):Binds K fd ps []:=by obtain⟨oc,od,kV,doc,pm,an,cdv,ct,osl,rfl,lk,hcd⟩:=F.ex;exact .all (h kV doc pm an cdv ct)
theorem yn{x qual:Str}{st:Stmt}{f:Addr}{oc:Value}{od an:Option Addr}{osl:Array (Option Value)}{kV doc pm cdv ct:Value}(l:K.lookup f=some ⟨oc,od,.func (PySem.W.fnOf x qual (dH st) (bR st) (au st) .none kV doc pm an cdv ct),osl⟩)(c:PySem.W.codeIn K cdv qual=true)(k:PySem.W.keepIn K (.ref f)=true):Fun K x qual st f (PySem.W.fnOf x qual (dH st) (bR st) (au st) .none kV doc pm an cdv ct):=⟨⟨oc,od,kV,doc,pm,an,cdv,ct,osl,rfl,l,c⟩,k⟩
end
theorem gC{n:Nat}(h:n<=1000):n<sizeLine:=Nat.lt_of_le_of_lt h (by decide)
theorem aD{A B:Prop}(h:B):if false=true then A else B:=by rw[BJ Zi];exact h
theorem aK{A B:Prop}(h:A):if true=true then A else B:=by rw[BK rfl];exact h
theorem gG{c A B:Prop}[Decidable c](h1:c->A)(h2:¬c->B):if c then A else B:=by
 by_cases h:c
 ·rw[BK h];exact h1 h
 ·rw[BJ h];exact h2 h
theorem kM{c A B:Prop}[Decidable c](hc:c)(h:B):if(!decide c)=true then A else B:=by rw[decide_eq_true hc];exact aD h
def Same(H H':Hp):Prop:=∀b o,H b=some o->H' b=some o
theorem Same.refl(H:Hp):Same H H:=fun _ _ h=>h
theorem Same.trans{H H1 H2:Hp}(a:Same H H1)(b:Same H1 H2):Same H H2:=fun c o h=>b c o (a c o h)
theorem Same.free{H H':Hp}(e:Same H H'){l:Addr}(h:H' l=Option.none):H l=Option.none:=by
 cases q:H l with
 |none=>rfl
 |some o =>rw[e l o q]at h;cases h
theorem Same.seq{K:PySem.W.Frag}{H H':Hp}{a:Addr}{xs:List V}(e:Same H H')(h:SqL K H a xs):SqL K H' a xs:=by
 rcases h with(h|⟨o,h⟩)|h
 ·exact .inl (.inl (e _ _ h))
 ·exact .inl (.inr ⟨o,e _ _ h⟩)
 ·exact .inr h
open PySem PySem.Spec PyProof.Rows
open PySem PySem.Spec PyProof.Rows
theorem gR{env:Env}:∀{names:List (Str×NameKind)} {x:Str} {k:NameKind},
  (names.map fun(n,k)=>if(k==NameKind.free&&env.scope.kind == .function&&env.kindOf n==some .cell)then(n,NameKind.cell)else(n,k)).lookup x=some k ->
  ∃k',names.lookup x=some k'/\(k=k'\/(k'=.free/\k=.cell))
 | [],_,_,h=>by simp at h
 |(n,k0)::r,x,k,h=>by
  have ih:=@gR env r x k;rw[ZH]at h;by_cases hc:(k0==NameKind.free&&env.scope.kind == .function&&env.kindOf n==some .cell)=true
  ·have e:(if(k0==NameKind.free&&env.scope.kind == .function&&env.kindOf n==some .cell)=true then(n,NameKind.cell)else(n,k0))=(n,NameKind.cell):=BK hc;simp only[e]at h;cases hx:x==n with
   |true =>
    simp only[ZN,hx]at h ⊢;have hf:k0=.free:=by have:=hc;simp only[Zy,beq_iff_eq]at this;exact this.1.1
    exact⟨k0,rfl,.inr ⟨hf,(Zo h).symm⟩⟩
   |false =>simp only[ZN,hx]at h ⊢;exact ih h
  ·have e:(if(k0==NameKind.free&&env.scope.kind == .function&&env.kindOf n==some .cell)=true then(n,NameKind.cell)else(n,k0))=(n,k0):=BJ hc;simp only[e]at h;cases hx:x==n with
   |true =>simp only[ZN,hx]at h ⊢;exact⟨k0,rfl,.inl (Zo h).symm⟩
   |false =>simp only[ZN,hx]at h ⊢;exact ih h
theorem iW{env:Env}:∀{names:List (Str×NameKind)} {x:Str},names.lookup x=some .free ->
  (names.map fun(n,k)=>if(k==NameKind.free&&env.scope.kind == .function&&env.kindOf n==some .cell)then(n,NameKind.cell)else(n,k)).lookup x=some .cell \/
  (names.map fun(n,k)=>if(k==NameKind.free&&env.scope.kind == .function&&env.kindOf n==some .cell)then(n,NameKind.cell)else(n,k)).lookup x=some .free
 | [],_,h=>by simp at h
 |(n,k0)::r,x,h=>by
  have ih:=@iW env r x;rw[ZH];by_cases hc:(k0==NameKind.free&&env.scope.kind == .function&&env.kindOf n==some .cell)=true
  ·have e:(if(k0==NameKind.free&&env.scope.kind == .function&&env.kindOf n==some .cell)=true then(n,NameKind.cell)else(n,k0))=(n,NameKind.cell):=BK hc;simp only[e];cases hx:x==n with
   |true =>
    simp only[ZN,hx]at h ⊢
    first|exact .inl rfl|exact .inl trivial
   |false =>simp only[ZN,hx]at h ⊢;exact ih h
  ·have e:(if(k0==NameKind.free&&env.scope.kind == .function&&env.kindOf n==some .cell)=true then(n,NameKind.cell)else(n,k0))=(n,k0):=BJ hc;simp only[e];cases hx:x==n with
   |true =>simp only[ZN,hx]at h ⊢;exact .inr h
   |false =>simp only[ZN,hx]at h ⊢;exact ih h
def be(env:Env):List (Str×NameKind)->List (Str×Addr)->List (Str×Addr)
 | [],acc=>acc
 |y::r,acc=>if(y.2==NameKind.free)=true then be env r ((y.1,(env.cells.lookup y.1).getD 0)::acc)else be env r acc
theorem lJ{env:Env}:∀{names:List (Str×NameKind)} {acc:List (Str×Addr)},(∀y∈names,y.2=.free->∃c,env.cells.lookup y.1=some c) ->
  (forIn names acc fun(x:Str×NameKind) (cs:List (Str×Addr))=>if(x.2==NameKind.free)=true then do let c ←cellOf env x.1;pure (ForInStep.yield ((x.1,c)::cs))else pure (ForInStep.yield cs):Sem (List (Str×Addr)))=pure (be env names acc)
 | [],_,_=>rfl
 |y::r,acc,h=>by
  rw[List.forIn_cons];by_cases hy:(y.2==NameKind.free)=true
  ·obtain⟨c,hc⟩:=h y Zu (by simpa using hy);have e:cellOf env y.1=pure c:=by unfold cellOf;rw[hc]
   rw[BK hy,e,pure_bind,pure_bind];show(forIn r ((y.1,c)::acc) _:Sem (List (Str×Addr)))=_;rw[lJ fun z hz=>h z (Zt _ hz)];show _=pure (if(y.2==NameKind.free)=true then be env r ((y.1,(env.cells.lookup y.1).getD 0)::acc)else be env r acc);rw[BK hy,hc];rfl
  ·rw[BJ hy,pure_bind];show(forIn r acc _:Sem (List (Str×Addr)))=_;rw[lJ fun z hz=>h z (Zt _ hz)];show _=pure (if(y.2==NameKind.free)=true then be env r ((y.1,(env.cells.lookup y.1).getD 0)::acc)else be env r acc);rw[BJ hy]
theorem wW{scope:Scope}{env:Env}(h:∀y∈scope.names,y.2=.free->∃c,env.cells.lookup y.1=some c):closureFor scope env=pure (be env scope.names []):=by have q:=lJ (env:=env) (names:=scope.names) (acc:=[]) h;unfold closureFor;exact(by first|(simp only[bind_pure];exact q)|(rw[bind_pure];exact q)|exact q)
theorem lK{env:Env}:∀{names:List (Str×NameKind)} {acc:List (Str×Addr)},(∀y∈names,y.2=.free->∃c,env.cells.lookup y.1=some c)->(∀x c,acc.lookup x=some c->env.cells.lookup x=some c) ->
  ∀x c,(be env names acc).lookup x=some c->env.cells.lookup x=some c
 | [],_,_,ha=>ha
 |y::r,acc,h,ha=>by
  have hr:∀z∈r,z.2=.free->∃c,env.cells.lookup z.1=some c:=fun z hz=>h z (Zt _ hz);intro x c e;unfold be at e;by_cases hy:(y.2==NameKind.free)=true
  ·rw[BK hy]at e;refine lK hr (fun x' c' e'=>?_) x c e;obtain⟨d,hd⟩:=h y Zu (by simpa using hy);rw[hd,Option.getD_some]at e';cases hx:x'==y.1 with
   |true =>simp only[ZN,hx]at e';have e1:x'=y.1:=eq_of_beq hx;rw[e1,hd];exact e'
   |false =>simp only[ZN,hx]at e';exact ha x' c' e'
  ·rw[BJ hy]at e;exact lK hr ha x c e
theorem jO{env:Env}:∀{names:List (Str×NameKind)} {acc:List (Str×Addr)} {x:Str},(∃c,acc.lookup x=some c)->∃c,(be env names acc).lookup x=some c
 | [],_,_,h=>h
 |y::r,acc,x,h=>by
  unfold be;by_cases hy:(y.2==NameKind.free)=true
  ·rw[BK hy];refine jO ?_;cases hx:x==y.1 with
   |true=>exact⟨(env.cells.lookup y.1).getD 0,by simp only[ZN,hx]⟩
   |false =>obtain⟨c,e⟩:=h;exact⟨c,by simp only[ZN,hx];exact e⟩
  ·rw[BJ hy];exact jO h
theorem lI{env:Env}:∀{names:List (Str×NameKind)} {acc:List (Str×Addr)} {x:Str},names.lookup x=some .free->∃c,(be env names acc).lookup x=some c
 | [],_,_,h=>by simp at h
 |(n,k)::r,acc,x,h=>by
  unfold be;cases hx:x==n with
  |true =>
   simp only[ZN,hx]at h;have hy:(k==NameKind.free)=true:=by rw[Zo h];rfl
   rw[BK hy];exact jO ⟨(env.cells.lookup n).getD 0,by simp only[ZN,hx]⟩
  |false =>
   simp only[ZN,hx]at h;by_cases hy:(k==NameKind.free)=true
   ·rw[BK hy];exact lI h
   ·rw[BJ hy];exact lI h
abbrev aA(X:Cx)(scope:Scope)(N':List Str)(C:Addr)(s0:Shared)(H0:Hp)(ex:List Addr):Cx where
 prog:=X.prog
 w:=X.w
 K:=X.K
 mg:=X.mg
 base:=X.base
 A:=X.A
 N:=N'
 s₀:=s0
 H₀:=H0
 env:=compEnvC scope (be X.env scope.names []) C X.env
 outer:=X.stack
 stack:=X.stack
 ex:=ex
 fn:=fun _=>false
 calm:=X.calm
 pn:=[]
 xe:=fun _ _=>False
def CapOk(X:Cx)(sc:Scope):List Nat->List Str->Prop
 | [],[]=>True
 |j::js,x::xs=>X.N[j]?=some x/\sc.names.lookup x=some .free/\CapOk X sc js xs
 |_,_=>False
theorem CapOk.get{X:Cx}{sc:Scope}:∀{js:List Nat} {xs:List Str} {i:Nat} {x:Str},CapOk X sc js xs->xs[i]?=some x ->
  ∃j,js[i]?=some j/\X.N[j]?=some x/\sc.names.lookup x=some .free
 | [],[],_,_,_,e=>by simp at e
 |j::js,y::xs,0,x,h,e=>by
  obtain⟨h1,h2,_⟩:=h;have e':y=x:=by simpa using e
  subst e';exact⟨j,rfl,h1,h2⟩
 |j::js,y::xs,i+1,x,h,e=>by obtain⟨_,_,h6⟩:=h;obtain⟨j',q⟩:=CapOk.get (i:=i) (x:=x) h6 (by simpa using e);exact⟨j',by simpa using q.1,q.2⟩
 | [],_::_,_,_,h,_=>h.elim
 |_::_,[],_,_,h,_=>h.elim
theorem CapOk.len{X:Cx}{sc:Scope}:∀{js:List Nat} {xs:List Str},CapOk X sc js xs->js.length=xs.length
 | [],[],_=>rfl
 |j::js,y::xs,h=>by obtain⟨_,_,h6⟩:=h;simp[CapOk.len h6]
 | [],_::_,h=>h.elim
 |_::_,[],h=>h.elim
structure CompOk(X:Cx)(scope:Scope)(cap:List Nat)(capN:List Str):Prop where
 kind:scope.kind=.function
 names:∀x∈scope.names,x.2=.local->scope.names.lookup x.1=some .local
 nocell:∀y∈scope.names,y.2≠.cell
 frees:(scope.names.all fun y=>!(y.2==NameKind.free) ||(X.env.kindOf y.1==some .cell ||X.env.kindOf y.1==some .free))=true
 cap:CapOk X scope cap capN
section
variable{X:Cx}{scope:Scope}{cap:List Nat}{capN:List Str}
theorem CompOk.around(O:CompOk X scope cap capN){y:Str×NameKind}(hy:y∈scope.names)(hf:y.2=.free):X.env.kindOf y.1=some .cell\/X.env.kindOf y.1=some .free:=by have q:=Zx.mp O.frees y hy;rw[hf]at q;simpa using q
theorem CompOk.cells(O:CompOk X scope cap capN)(ok:X.Ok):∀y∈scope.names,y.2=.free->∃c,X.env.cells.lookup y.1=some c:=fun y hy hf=>ok.has _ (O.around hy hf)
theorem CompOk.clos(O:CompOk X scope cap capN)(ok:X.Ok):closureFor scope X.env=pure (be X.env scope.names []):=wW (O.cells ok)
theorem CompOk.sub(O:CompOk X scope cap capN)(ok:X.Ok):∀x c,(be X.env scope.names []).lookup x=some c->X.env.cells.lookup x=some c:=lK (O.cells ok) fun x c e=>by simp at e
theorem CompOk.has(_O:CompOk X scope cap capN){x:Str}(h:scope.names.lookup x=some .free):∃c,(be X.env scope.names []).lookup x=some c:=lI h
end
def bg(n:Nat)(cap:List Nat)(σ:St):St:=List.replicate n none++cap.map (fun j=>(σ[j]?).join)
theorem qG{n:Nat}{cap:List Nat}{σ:St}:(bg n cap σ).length=n+cap.length:=by unfold bg;rw[Zh,List.length_replicate,z6]
theorem ib{n:Nat}{cap:List Nat}{σ:St}{i:Nat}{v:V}(h:(bg n cap σ)[i]?=some (some v)):n<=i/\∃j,cap[i-n]?=some j/\σ[j]?=some (some v):=by
 unfold bg at h;by_cases hi:i<n
 ·rw[Z2 (by simpa using hi),List.getElem?_replicate]at h;rw[BK hi]at h;cases h
 ·have hi':n<=i:=Nat.le_of_not_lt hi;rw[ZW (by simpa using hi'),List.length_replicate,ZB]at h;refine⟨hi',?_⟩;cases e:cap[i-n]? with
  |none=>rw[e]at h;cases h
  |some j =>
   rw[e]at h;refine⟨j,rfl,?_⟩;have h':(σ[j]?).join=some v:=by simpa using h
   cases q:σ[j]? with
   |none=>rw[q]at h';cases h'
   |some o =>rw[q]at h';have:o=some v:=h';rw[this]
section
variable{X:Cx}{pins:List (Addr×Obj)}{σ:St}{H:Hp}{s:Shared}{scope:Scope}{cap:List Nat}{capN N':List Str}{C:Addr}{ex:List Addr}
theorem sv(I:Inv X pins σ H s)(O:CompOk X scope cap capN)(hC:s.heap.objs.size<=C)(hex:∀b∈ex,bF X pins H b/\b<s.heap.objs.size):(aA X scope N' C s H ex).Ok where
 mod:=I.ok.mod
 kind:=O.kind
 glob:=I.ok.glob
 blt:=I.ok.blt
 above:=hC
 inj:=fun x y c h1 h2=>I.ok.inj x y c (O.sub I.ok x c h1) (O.sub I.ok y c h2)
 has:=fun x hx=>by
  have hx':(relabel scope X.env).names.lookup x=some .cell\/(relabel scope X.env).names.lookup x=some .free:=hx;have key:∀k,(relabel scope X.env).names.lookup x=some k->(k=.cell\/k=.free)->scope.names.lookup x=some .free:=fun k e hk=>by
   obtain⟨k',e',q⟩:=gR (env:=X.env) e;rcases q with q|⟨q,_⟩
   ·subst q;rcases hk with z|z
    ·subst z;exact absurd rfl (O.nocell _ (Yh e'))
    ·subst z;exact e'
   ·subst q;exact e'
  rcases hx' with e|e
  ·exact O.has (key _ e (.inl rfl))
  ·exact O.has (key _ e (.inr rfl))
 cab:=fun x c h _=>by cases h
 hd:=I.ok.hd
 frames:=I.ok.frames
 stk:=.inl rfl
 exf:=fun b hb=>by obtain⟨⟨f0,f1,f2,f3,f4,f5⟩,lt⟩:=hex b hb;exact⟨ZG (Zm lt hC),fun x c e=>f4 x c (O.sub I.ok x c e)⟩
 bs:=I.bs
 bsz:=Zd I.ok.bsz I.sz
 noex:=fun b o e hb=>by
  obtain⟨⟨f0,f1,f2,f3,f4,f5⟩,lt⟩:=hex b hb;rcases f3 with z|z
  ·exact I.ok.noex b o e z
  ·exact absurd (Zm (Zl e) (Zd I.ok.bsz z)) (Yx _)
 exfs:=fun b hb z=>by
  obtain⟨⟨f0,f1,f2,f3,f4,f5⟩,lt⟩:=hex b hb;rcases Zr.mp (I.stkSub b z)with e|e
  ·exact f1 e
  ·exact f2 e
 funs:=I.stack
 frf:=I.stkFree
theorem iT(I:Inv X pins σ H s){b:Addr}(hb:s.heap.objs.size<=b):b∉frs X.stack:=fun z=>by
 rcases Zr.mp (I.stkSub b z)with e|e
 ·exact absurd (Zm I.lt hb) (by rw[e];exact Yx _)
 ·exact I.nofs hb e
theorem oo(I:Inv X pins σ H s){b:Addr}(hb:s.heap.objs.size<=b):∀x c,X.env.cells.lookup x=some c->c≠b:=fun x c e z=>by obtain⟨v,q⟩:=I.cell x c e;exact absurd (Zm q.lt (by rw[z];exact hb)) (Yx _)
theorem kH{n:Nat}{h1:Heap}{m1:Str->Option Value}{tk:Nat}(I:Inv X pins σ H s)(O:CompOk X scope cap capN)(hN:N'.length=n+capN.length)(hN2:∀i x,n<=i->N'[i]?=some x->capN[i-n]?=some x)(hC:s.heap.objs.size<=C)(hex:∀b∈ex,bF X pins H b/\b<s.heap.objs.size)(hk:∀b o,s.heap.get? b=some o->h1.get? b=some o)(hn:h1.Ns C m1):Inv (aA X scope N' C s H ex) [] (bg n cap σ) H { s with heap:=h1,toks:=tk }:=by
 refine⟨sv I O hC hex,rfl,I.bare,Un.kept hk,⟨m1,hn,fun i x v e1 e2 e3=>?_⟩,fun x c e=>?_,I.hok.fresh hC,fun x c e=>I.freeC x c (O.sub I.ok x c e),fun p hp=>absurd (show p∈([]:List (Addr×Obj))from hp) (by simp),I.hok.kept hk,?_⟩
 ·obtain⟨hi,j,ej,es⟩:=ib e2;obtain⟨j',q1,q2,qf⟩:=O.cap.get (hN2 i x hi e1);have q3:=O.around (Yh qf) rfl;have q4:=iW (env:=X.env) qf;obtain⟨c,q5⟩:=O.has qf;have q6:=O.sub I.ok x c q5;rw[q1]at ej;cases ej;obtain⟨m0,hn0,hl0⟩:=I.loc;obtain⟨u,r,l⟩:=hl0 _ x v q2 es (by
   rcases q3 with z|z
   ·exact .inr (.inl z)
   ·exact .inr (.inr z))
  refine⟨u,r,.inr ⟨q4,c,q5,?_⟩⟩;rcases l with⟨k,_⟩|⟨_,c',e',z⟩
  ·rcases q3 with z|z
   ·have z':X.env.kindOf x=some .cell:=z;rw[z']at k;cases k
   ·have z':X.env.kindOf x=some .free:=z;rw[z']at k;cases k
  ·rw[q6]at e';cases e';obtain⟨o,ho,hd⟩:=z;exact⟨o,hk _ _ ho,hd⟩
 ·obtain⟨v,o,ho,hd⟩:=I.cell x c (O.sub I.ok x c e);exact⟨v,o,hk _ _ ho,hd⟩
 ·rw[qG,O.cap.len];exact hN.symm
end
def hU(X:Cx)(ifs:List Expr)(t:TT):Prop :=
 ∀(pins:List (Addr×Obj)) (s:Shared) (σ:St) (H:Hp) (Q:Bool->Hp->Prop),Inv X pins σ H s->t σ H Q ->
  wpAny (model X.prog X.w) X.A (forIn ifs true fun c r=>if r=true then do let ok ←isTrue c X.env (eval c X.env);pure (ForInStep.yield ok)else pure (ForInStep.yield r)) (TP X pins σ Q) X.xe s
def dU:TT:=fun _ H Q=>Q true H
theorem vC{X:Cx}:hU X [] dU:=fun _ _ _ H _ I h=>wpAny_tests_nil ⟨H,I,h⟩
theorem vD{X:Cx}{c:Expr}{t:TT}(h:PT X c t):hU X [c] t:=fun pins s σ H Q I hw=>wpAny_tests_one (h pins s σ H Q I hw)
def GK(n:Nat)(g:TG):Prop:=∀x σ H Q,g x σ H Q->g x σ H (fun σ2 H2=>(σ2.length=σ.length/\∀i,n<=i->σ2[i]?=σ[i]?)/\Q σ2 H2)
theorem bj{n i:Nat}(hi:i<n):GK n (bC i):=fun x σ H Q h=>⟨⟨Z7,fun j hj=>Z1 (by omega)⟩,h⟩
def GKs(n:Nat)(g:TGs):Prop:=∀xs σ H Q,g xs σ H Q->g xs σ H (fun σ2 H2=>(σ2.length=σ.length/\∀i,n<=i->σ2[i]?=σ[i]?)/\Q σ2 H2)
theorem pV{n:Nat}:GKs n nX:=fun xs σ H Q h=>⟨h.1,⟨rfl,fun _ _=>rfl⟩,h.2⟩
def GM(g:TG):Prop:=∀x σ H Q Q',(∀σ2 H2,Q σ2 H2->Q' σ2 H2)->g x σ H Q->g x σ H Q'
def GMs(g:TGs):Prop:=∀xs σ H Q Q',(∀σ2 H2,Q σ2 H2->Q' σ2 H2)->g xs σ H Q->g xs σ H Q'
theorem fG{i:Nat}:GM (bC i):=fun _ _ _ _ _ f h=>f _ _ h
theorem jr:GMs nX:=fun _ _ _ _ _ f h=>⟨h.1,f _ _ h.2⟩
theorem nZ{t:TG}{u:TGs}(a:GM t)(b:GMs u):GMs (jq t u):=fun xs σ H Q Q' f h=>by obtain⟨v,r,e,h⟩:=h;exact⟨v,r,e,a _ _ _ _ _ (fun σ2 H2 z=>b _ _ _ _ _ f z) h⟩
theorem ik{n:Nat}{t:TG}{u:TGs}(a:GK n t)(m:GM t)(b:GKs n u)(mb:GMs u):GKs n (jq t u):=fun xs σ H Q h=>by obtain⟨v,r,e,h⟩:=h;refine⟨v,r,e,m _ _ _ _ _ (fun σ2 H2 z=>?_) (a _ _ _ _ h)⟩;obtain⟨⟨l1,k1⟩,z⟩:=z;refine mb _ _ _ _ _ (fun σ3 H3 w=>?_) (b _ _ _ _ z);obtain⟨⟨l2,k2⟩,w⟩:=w;exact⟨⟨l2.trans l1,fun i hi=>(k2 i hi).trans (k1 i hi)⟩,w⟩
theorem sN{n m:Nat}{K:PySem.W.Frag}{t:TGs}(a:GKs n t):GK n (nY K m t):=fun x σ H Q h=>by obtain⟨b,xs,e,h1,h2,h3⟩:=h;exact⟨b,xs,e,h1,h2,a _ _ _ _ h3⟩
def cN(n:Nat)(cap:List Nat)(g:TG)(tc:TT)(te:TE)(σ:St)(J:It)(H1:Hp)(Q:VK):Prop :=
 ∃W:Nat->Nat->List V->Hp->Prop,(∃m,W 0 m [] H1)/\∀i m ys H,W i m ys H ->
  (J.stop i H/\∀p,H p=none->Q (.ref p) (upd H p (.lst ys))) \/
  (J.go i H/\ys.length<sizeLine/\∀ x H',J.yld i H x H'->g x (bg n cap σ) H' fun σ2 H2=>tc σ2 H2 fun b H3 =>
   if b=true then te σ2 H3 fun y H4=>∃ m',m'<m/\W (i+1) m' (ys++[y]) H4 else ∃ m',m'<m/\W (i+1) m' ys H3)
def gF(n:Nat)(cap:List Nat)(wi:TI)(g:TG)(tc:TT)(te:TE):TE:=fun σ H Q=>wi σ H fun J H1=>cN n cap g tc te σ J H1 Q
theorem hZ{prog:Program}{w:World}{A:Around}{R:Result->Shared->Prop}{s:Shared}{elt target iter:Expr}{ifs:List Expr}{scope:Scope}{pos:Pos}{it acc:Value}{env:Env}(I:Nat->Shared->Prop)(turn:∀ n s,I n s->wpAny (model prog w) A (pyNext it) (fun r s₁=>match r with
   |none=>R (.ok .next) s₁
   | some v=>wpAny (model prog w) A (letOwnedTupleGo target it v) (fun _ s₁'=>wpAny (model prog w) A (assign target env v) (fun _ s₂ =>
     wpAny (model prog w) A (forIn ifs true fun c r=>if r=true then do let ok ←isTrue c env (eval c env);pure (ForInStep.yield ok) else pure (ForInStep.yield r)) (fun ok s₃ =>
      if ok=true then wpAny (model prog w) A (eval elt env) (fun x s₄ =>
       wpAny (model prog w) A (call (.builtin "list.append") [acc,x]) (fun _ s₅=>∃ m,m<n/\I m s₅) (fun _ _=>False) s₄) (fun _ _=>False) s₃
      else ∃ m,m<n/\I m s₃) (fun _ _=>False) s₂) (fun _ _=>False) s₁') (fun _ _=>False) s₁) (fun _ _=>False) s)(n:Nat)(h:I n s) :
  codeAny (model prog w) A (.compLoop (.ListComp elt [⟨target,iter,ifs,0⟩] scope pos) 0 it acc env) R s:=by
 refine codeAny_loop rfl I (fun n s hI=>?_) n h;show wpAny _ A ((compTurn (.ListComp elt [⟨target,iter,ifs,0⟩] scope pos) 0 it acc env).onRaise (fun x=>do noteFrame x env;theTreesLotGoes x)) _ _ s;refine wpAny_noted (wpAny_noRaise ?_);rw[compTurn_list];refine z9 (wpAny_standAt (z9 (ZS (turn n s hI) (fun r s₁ h₁=>?_) fun _ _ h'=>h')));cases r with
 |none=>exact Zk h₁
 |some v =>
  refine z9 (ZS h₁ (fun _ s₁' h₁'=>?_) fun _ _ h'=>h');refine z9 (ZS h₁' (fun _ s₂ h₂=>z9 (ZS h₂ (fun ok s₃ h₃=>?_) fun _ _ h'=>h')) fun _ _ h'=>h');cases ok with
  |false=>exact Zk ⟨rfl,h₃⟩
  |true =>exact z9 (z9 (ZS h₃ (fun x s₄ h₄=>z9 (ZS h₄ (fun _ s₅ h₅=>Zk (Zk ⟨rfl,h₅⟩)) fun _ _ h'=>h')) fun _ _ h'=>h'))
theorem qa{own capN:List Str}:∀(i:Nat) (x:Str),own.length<=i->(own++capN)[i]?=some x->capN[i-own.length]?=some x:=fun i x hi e=>by rw[ZW hi]at e;exact e
section
variable{X:Cx}{pins:List (Addr×Obj)}{σ:St}{H2:Hp}{s2:Shared}{scope:Scope}{cap:List Nat}{capN own:List Str}
variable{elt tg iter:Expr}{ifs:List Expr}{pos:Pos}{g:TG}{tc:TT}{te:TE}{Q:VK}
abbrev bN(its:List Value)(nn:Nat):Obj:={ cls:=.type "list",data:=.seq its.toArray nn }
theorem mw{J:It}{fp:List Addr}{it:Addr}{tn:Nat->Heap->Prop}{E:Value->Shared->Prop}{RR:Value->Addr->Result->Shared->Prop}(O:CompOk X scope cap capN)(hc:X.calm=true)(hg:∀C s0 H0 ex,PG (aA X scope (own++capN) C s0 H0 ex) tg g)(gk:GK own.length g)(ht:∀C s0 H0 ex,hU (aA X scope (own++capN) C s0 H0 ex) ifs tc)(he:∀C s0 H0 ex,PE (aA X scope (own++capN) C s0 H0 ex) elt te)(I2:Inv X pins σ H2 s2)(T:Turn X.prog X.w X.K tg J fp it tn)(st2:tn 0 s2.heap)(f2:∀b∈fp,bF X pins H2 b)(hq:cN own.length cap g tc te σ J H2 Q)(fin:∀(D C:Addr) (s4:Shared) (H4:Hp) (ys:List V),Inv X pins σ (upd H4 D (.lst ys)) s4->(∃m,s4.heap.Ns C m)->bF X pins (upd H4 D (.lst ys)) C->Q (.ref D) (upd H4 D (.lst ys))->RR (.ref D) C (.ok .next) s4) :
  wpAny (model X.prog X.w) X.A (newList []) (fun acc s₃=>wpAny (model X.prog X.w) X.A (newFunctionEnv scope X.env.globals (be X.env scope.names []) [] X.env.qual none .none (some X.env)) (fun cenv s₄ =>
   codeAny (model X.prog X.w) X.A (.compStart (.ListComp elt [⟨tg,iter,ifs,0⟩] scope pos) 0 (.ref it) acc { cenv with scope:=relabel scope X.env }) (RR acc cenv.locals) s₄) E s₃) E s2:=by
 obtain⟨W,⟨m0,w0⟩,turn⟩:=hq;refine Yb (wpAny_newFunctionEnv O.nocell (by intro y hy;simp at hy) (fun h₁ hns₁ hsb₁=>?_) O.kind);dsimp only at hns₁ hsb₁ ⊢;generalize hHp:s2.heap.push { cls:=.type "list",dict:=none,data:=.seq ([]:List Value).toArray }=Hp2 at hns₁ hsb₁ ⊢;have hC:Hp2.objs.size=s2.heap.objs.size+1:=by rw[<-hHp,Ye]
 have hDC:s2.heap.objs.size≠Hp2.objs.size:=by rw[hC];exact ZG (Nat.lt_succ_self _)
 have hCle:s2.heap.objs.size<=Hp2.objs.size:=by rw[hC];exact Nat.le_succ _
 have below:∀b,b<s2.heap.objs.size->b≠Hp2.objs.size/\b≠s2.heap.objs.size:=fun b hb=>⟨by rw[hC];exact ZG (Nat.lt_succ_of_lt hb),ZG hb⟩
 have old:∀b o,s2.heap.get? b=some o->h₁.get? b=some o:=fun b o e=>hsb₁.extBut b o (below b (Zl e)).1 (Zb _ (hHp▸Zb _ e));have hacc:h₁.get? s2.heap.objs.size=some (bN [] 0):=hsb₁.extBut _ _ hDC (Zb _ (hHp▸Zs _ rfl));generalize hDe:s2.heap.objs.size=D at *;generalize hCe:Hp2.objs.size=C at *;have hfpl:∀b∈fp,b<s2.heap.objs.size:=fun b hb=>by obtain⟨o,e,_⟩:=T.obj _ _ st2 b hb;exact Zl e
 have hex:∀b∈fp,bF X pins H2 b/\b<s2.heap.objs.size:=fun b hb=>⟨f2 b hb,hfpl b hb⟩
 have hCle':s2.heap.objs.size<=C:=by rw[hDe];exact hCle
 have hDle:s2.heap.objs.size<=D:=by rw[hDe];exact Zg _
 have hDfp:∀b∈fp,D≠b:=fun b hb z=>by have:=hfpl b hb;rw[<-z]at this;exact absurd this (Nat.not_lt.mpr hDle)
 have I0:∀tk,Inv (aA X scope (own++capN) C s2 H2 fp) [] (bg own.length cap σ) H2 { s2 with heap:=h₁,toks:=tk }:=fun tk=>kH I2 O (by simp) qa hCle' hex old hns₁;have Dst:D∉frs X.stack:=iT I2 hDle;have Dcell:∀x c,(aA X scope (own++capN) C s2 H2 fp).env.cells.lookup x=some c->c≠D:=fun x c e=>oo I2 hDle x c (O.sub I2.ok x c e);have pinD:∀{σ':St} {H':Hp} {s':Shared} {its:List Value} {nn:Nat},Inv (aA X scope (own++capN) C s2 H2 fp) [] σ' H' s'->s'.heap.get? D=some (bN its nn)->H' D=none->Inv (aA X scope (own++capN) C s2 H2 fp) [(D,bN its nn)] σ' H' s':=fun{σ' H' s' its nn} I e hn =>
  I.pins_of fun p hp=>by
   have z:p=(D,bN its nn):=by simpa using hp
   subst z;exact⟨e,hn,hDC,Dst,fun v q=>by cases q⟩
 have loop:∀s₃:Shared,s₃={ s2 with heap:=h₁,toks:=s2.toks+([]:List (Str×Value)).length } ->
   codeAny (model X.prog X.w) X.A (.compLoop (.ListComp elt [⟨tg,iter,ifs,0⟩] scope pos) 0 (.ref it) (.ref D) (compEnvC scope (be X.env scope.names []) C X.env)) (RR (.ref D) C) s₃:=by
  rintro s₃ rfl;refine hZ (fun k s'=>∃(i:Nat) (ys:List V) (its:List Value) (nn:Nat) (H':Hp),Inv (aA X scope (own++capN) C s2 H2 fp) [(D,bN its nn)] (bg own.length cap σ) H' s'/\tn i s'.heap/\(∀b∈fp,H' b=none)/\Vals ys its/\ys.length<=sizeLine/\W i k ys H') ?_ m0
   ⟨0,[],[],0,H2,pinD (I0 _) hacc (I2.hok.fresh hDle),T.keep _ _ _ st2 (fun b hb o e=>old b o e),fun b hb=>(f2 b hb).1,.nil,Yi _,w0⟩
  rintro k s3 ⟨i,ys,its,nn,H3,I3,st3,fr3,rv,hz,w3⟩;have oD3:s3.heap.get? D=some (bN its nn):=(I3.pin (D,bN its nn) (by simp)).1;have fpY:∀{H':Hp},(∀b∈fp,H' b=none)->∀b∈fp,bF (aA X scope (own++capN) C s2 H2 fp) [(D,bN its nn)] H' b:=fun{H'} hn b hb=>by
   obtain⟨f0,f1,g2,f3,f4,f5⟩:=f2 b hb;refine⟨hn b hb,ZG (Zm (hfpl b hb) hCle'),fun z=>?_,.inl hb,fun x c e=>f4 x c (O.sub I2.ok x c e),fun p hp=>?_⟩
   ·rcases Zr.mp (I2.stkSub b z)with e|e
    ·exact f1 e
    ·exact g2 e
   ·have z:p=(D,bN its nn):=by simpa[aA]using hp
    subst z;exact hDfp b hb
  rcases turn i k ys H3 w3 with⟨stop,qn⟩|⟨go,hlt,step⟩
  ·refine thn (T.done (aA X scope (own++capN) C s2 H2 fp) rfl rfl rfl hc i _ s3 _ H3 _ I3 (fpY fr3) st3 stop) fun r s4 ⟨hr,I4⟩=>?_;subst hr;obtain⟨oD,nD,_⟩:=I4.pin (D,bN its nn) (by simp);have neD:∀{b:Addr} {u:HO},H3 b=some u->b≠D:=fun{b u} e=>br e nD;have JX:Inv X pins σ (upd H3 D (.lst ys)) s4:=by
    refine I2.call' (ch:=fp) I4.os ⟨I4.base.keep,I4.base.slot,fun b o e nb hx=>?_,I4.base.there,fun b xs e=>?_,fun b o u e=>?_,fun b ps e=>?_⟩ (fun b u e=>?_) I4.bare (fun b hb=>?_)
    ·rw[aB (by rw[<-hDe];exact ZG (Zl e))];exact I4.base.free b o e nb hx
    ·have q:=I4.base.tups b xs e;rw[aB (neD q)];exact q
    ·have q:=I4.base.frzs b o u e;rw[aB (neD q)];exact q
    ·obtain⟨more,q⟩:=I4.base.tbls b ps e;exact⟨more,by rw[aB (neD q)];exact q⟩
    ·by_cases hb:b=D
     ·subst hb;rw[aa]at e;cases e;exact⟨hz,its,nn,rv,oD⟩
     ·rw[aB hb]at e;exact(I4.hok b u e).stay (fun _ _ _ q=>q) (fun c q=>by rw[aB (neD q)];exact q) fun c xs q=>by rw[aB (neD q)];exact q
    ·obtain⟨f0,f1,g2,f3,f4,f5⟩:=f2 b hb;exact⟨f3,f1,f4,f5⟩
   obtain⟨m4,hn4,_⟩:=I4.loc;refine fin D C s4 H3 ys JX ⟨m4,hn4⟩ ?_ (qn D nD);refine I2.fpOk (b:=C) hCle' ?_;rw[aB (Z0 hDC)];exact I4.free
  ·refine thn (T.item (aA X scope (own++capN) C s2 H2 fp) rfl rfl rfl hc i _ s3 _ H3 _ I3 (fpY fr3) st3 go) fun r s4 ⟨u,hr,h4⟩=>?_;subst hr;refine thn h4 fun _ s5 hz9=>?_;obtain⟨x,H5,I5,r5,y5,st5,fr5⟩:=hz9;have I5':=I5.pinned (fpY fr5) (T.obj _ _ st5);refine thn (hg C s2 H2 fp _ s5 _ H5 x u _ I5' r5 (gk _ _ _ _ (step x H5 y5))) fun _ s6 hz9=>?_;obtain⟨σ6,H6,I6,⟨l6,k6⟩,q6⟩:=hz9;refine thn (ht C s2 H2 fp _ s6 σ6 H6 _ I6 q6) fun ok s7 ⟨H7,I7,q7⟩=>?_;have wk:∀{H8:Hp} {s8:Shared} {pl:List (Addr×Obj)},Inv (aA X scope (own++capN) C s2 H2 fp) pl σ6 H8 s8->Inv (aA X scope (own++capN) C s2 H2 fp) pl (bg own.length cap σ) H8 s8:=fun I=>I.weak l6.symm fun j v e=>by obtain⟨hj,_⟩:=ib e;rw[k6 j hj];exact e
   have tn8:∀{σ8:St} {H8:Hp} {s8:Shared},Inv (aA X scope (own++capN) C s2 H2 fp) ([(D,bN its nn)]++gQ fp s5.heap) σ8 H8 s8->(∀b∈fp,∀o,s5.heap.get? b=some o->s8.heap.get? b=some o)/\∀b∈fp,H8 b=none:=fun{σ8 H8 s8} I=>by refine⟨fun b hb o e=>(I.pin (b,o) (ZF _ (ZF _ (dh hb e)))).1,fun b hb=>?_⟩;obtain⟨o,e,d⟩:=T.obj _ _ st5 b hb;exact(I.pin (b,o) (ZF _ (ZF _ (dh hb e)))).2.1
   cases ok with
   |false =>rw[BJ Zi]at q7 ⊢;obtain⟨m',hm,w7⟩:=q7;obtain⟨t1,t2⟩:=tn8 I7;exact⟨m',hm,i+1,ys,its,nn,H7,wk I7.unpinned,T.keep _ _ _ st5 t1,t2,rv,hz,w7⟩
   |true =>
    rw[BK rfl]at q7 ⊢;refine thn (he C s2 H2 fp _ s7 σ6 H7 _ I7 q7) fun y s8 hz9=>?_;obtain⟨yv,H8,I8,r8,m',hm,w8⟩:=hz9;obtain⟨t1,t2⟩:=tn8 I8;obtain⟨oD,nD,_⟩:=I8.pin (D,bN its nn) (by simp);have hil:=rv.length;refine call_meets F.slot_list_append ⟨_,oD,rfl⟩ F.entry_list_append (F.args_list_append_2 _ _) (PySem.list_append D its.toArray nn y (by rw[Zj];omega)) ⟨oD,?_⟩;have q:=PySem.IsL.update oD (fun x_1=>x_1.push y);have hf:its.toArray.push y=(its++[y]).toArray:=by simp
    rw[hf]at q;have keepO:∀b o,b≠D->s8.heap.get? b=some o->(s8.heap.update D (Obj.mapSeq fun x_1=>x_1.push y)).get? b=some o:=fun b o hb e=>(Z8 s8.heap (Obj.mapSeq fun x_1=>x_1.push y) (Z0 hb)).trans e;have I9:Inv (aA X scope (own++capN) C s2 H2 fp) [] σ6 H8 { s8 with heap:=s8.heap.update D (Obj.mapSeq fun x_1=>x_1.push y),toks:=s8.toks } :=
     (I8.pins_of (pins':=[]) fun p hp=>absurd hp (by simp)).turned (it:=D) keepO nD hDC (.inr hDle) Dcell (fun p hp=>absurd (show p∈([]:List (Addr×Obj))from hp) (by simp))
    refine⟨m',hm,i+1,ys++[yv],its++[y],_,H8,wk (pinD I9 q nD),T.keep _ _ _ st5 (fun b hb o e=>keepO b o (Z0 (hDfp b hb)) (t1 b hb o e)),t2,rv.append (.cons r8 .nil),?_,w8⟩;rw[Zh,Zn];omega
 exact codeAny_compStart_list (loop _ rfl) (T.self _ 0 _ _ _ (T.keep _ _ _ st2 (fun b hb o e=>old b o e)) (loop _ rfl))
theorem xx{wi:TI}(O:CompOk X scope cap capN)(hc:X.calm=true)(hi:PI X tg iter wi)(hg:∀C s0 H0 ex,PG (aA X scope (own++capN) C s0 H0 ex) tg g)(gk:GK own.length g)(ht:∀C s0 H0 ex,hU (aA X scope (own++capN) C s0 H0 ex) ifs tc)(he:∀C s0 H0 ex,PE (aA X scope (own++capN) C s0 H0 ex) elt te)(hs:∀x,foldedSetIterable iter X.env x=pure x:=by intro _;rfl):PE X (.ListComp elt [⟨tg,iter,ifs,0⟩] scope pos) (gF own.length cap wi g tc te):=by intro pins s σ H Q I h;rw[eval_ListComp];refine wpAny_comprehension_free (use:=none) rfl hs (O.clos I.ok) O.kind O.names (thn (hi pins s σ H _ I h) fun v s1 h1=>thn h1 fun itv s2 h2=>?_);obtain⟨it,fp,tn,J,H2,e,I2,T,st2,f2,hq⟩:=h2;subst e;refine mw (RR:=fun acc C=>compPost (model X.prog X.w) X.A X.xe none (EP X pins σ Q) acc C) O hc hg gk ht he I2 T st2 f2 hq fun D C s4 H4 ys J4 hn4 fC q4=>?_;obtain⟨m,hn⟩:=hn4;obtain⟨f0,f1,g2,f3,f4,f5⟩:=fC;exact⟨m,hn,fun h' sb=>⟨.ref D,_,J4.turned (t':=s4.toks) (fun b o hb e=>(sb.2 b hb).trans e) f0 f1 f3 f4 f5,rfl,q4⟩⟩
theorem xE{wi:TI}{j:Nat}{y:Str}{py spos:Pos}(hN0:X.N.Nodup)(hj:X.N[j]?=some y)(hy:Loc X.env.scope y)(O:CompOk X scope cap capN)(hc:X.calm=true)(hi:PI X tg iter wi)(hg:∀C s0 H0 ex,PG (aA X scope (own++capN) C s0 H0 ex) tg g)(gk:GK own.length g)(ht:∀C s0 H0 ex,hU (aA X scope (own++capN) C s0 H0 ex) ifs tc)(he:∀C s0 H0 ex,PE (aA X scope (own++capN) C s0 H0 ex) elt te)(hsw:swapsWith (.ListComp elt [⟨tg,iter,ifs,0⟩] scope pos) (some (.Name y py)) spos.line X.env=pure true:=by rfl)(hs:∀x,foldedSetIterable iter X.env x=pure x:=by intro _;rfl)(hf:X.fn y=true\/X.env.scope.names.lookup y=some .local:=by first|exact .inl rfl|exact .inr rfl|assumption) :
  PS X (.Assign [.Name y py] (.ListComp elt [⟨tg,iter,ifs,0⟩] scope pos) spos) (iI (gF own.length cap wi g tc te) (bC j)):=by
 intro pins s σ H D0 I h;rw[exec_Assign_Name_used _ _ _ _ hsw];refine z9 (wpAny_standAt (z9 ?_));show wpAny _ X.A (do let _ ←comprehension (.ListComp elt [⟨tg,iter,ifs,0⟩] scope pos) scope X.env _ (newList []) false (eval iter X.env) (some (assign (.Name y py) X.env))) _ _ s;refine z9 (ZS (wpAny_comprehension_free (use:=some (assign (.Name y py) X.env)) (Q:=fun _ s'=>SP X pins D0 .next s') rfl hs (O.clos I.ok) O.kind O.names (thn (hi pins s σ H _ I h) fun v s1 h1=>thn h1 fun itv s2 h2=>?_)) (fun _ s' hq=>Zk (Zk hq)) fun _ _ e=>e);obtain⟨it,fp,tn,J,H2,e,I2,T,st2,f2,hq⟩:=h2;subst e;refine mw (RR:=fun acc C=>compPost (model X.prog X.w) X.A X.xe (some (assign (.Name y py) X.env)) (fun _ s'=>SP X pins D0 .next s') acc C) O hc hg gk ht he I2 T st2 f2 hq fun D C s4 H4 ys J4 hn4 fC q4=>?_;obtain⟨m,hn⟩:=hn4;obtain⟨f0,f1,g2,f3,f4,f5⟩:=fC;show wpAny _ X.A (assign (.Name y py) X.env (.ref D)) _ _ _;refine wpAny_assign_Name (jk J4 hN0 hj hy (v:=.ref D) rfl (fun s5 I5 ⟨a,sba,ha⟩=>?_) hf);have hCa:C≠a:=by
  rcases ha with z|z
  ·rw[z];exact f1
  ·exact Z0 (f4 _ _ z)
 refine⟨m,hn.sameBut sba hCa,fun h' sb=>?_⟩;exact⟨_,_,I5.turned (t':=s5.toks) (fun b o hb e=>(sb.2 b hb).trans e) f0 f1 f3 f4 f5,q4⟩
end
open PySem PySem.Spec PyProof.Rows
structure Fn(P:Program)(w:World)(K:PySem.W.Frag)(mg:Str->Option Value)(base:Heap)(k:Nat)(x:Str)(ps:List Str)(sp:Sp):Prop where
 ex:∃f fd,FnOk P w K mg base CX0 k f fd ps sp/\mg x=some (.ref f)/\PySem.W.keepIn K (.ref f)=true/\Binds K fd ps []
section
variable{X:Cx}{k:Nat}{x:Str}{p pos:Pos}{e:Expr}{es:List Expr}{ps:List Str}{sp:Sp}{t:TA}
theorem Av(F:Fn X.prog X.w X.K X.mg X.base k x ps sp)(hr:Room k X.A)(ha:PA X (e::es) t)(hg:Gl X x:=by rfl)(hdb:(x==("__debug__":Str))=false:=by decide)(he:starEach (e::es) X.env=(false,eval e X.env)::starEach es X.env:=by rfl)(hpl:(backTo pos (starEach es X.env)).any (·.1)=false:=by rfl) :
  PE X (.Call (.Name x p) (e::es) [] pos) (lr sp [] E0 t):=by
 obtain⟨f,fd,G,m,kp,b⟩:=F.ex;exact qc G hr hg m kp b .nil As ha hdb he hpl
end
theorem aw:bootBuiltins "isinstance" = some (.builtin "isinstance"):=by decide +kernel
theorem nI:bootBuiltins "max" = some (.builtin "max"):=by decide +kernel
theorem bK:bootBuiltins "int" = some (.type "int"):=by decide +kernel
theorem fZ:bootBuiltins "bool" = some (.type "bool"):=by decide +kernel
theorem bq:bootBuiltins "tuple" = some (.type "tuple"):=by decide +kernel
theorem dG:bootBuiltins "all" = some (.builtin "all"):=by decide +kernel
section
variable{X:Cx}
theorem uG(hc:X.calm=true):dN X (.builtin "all") (fun xs H Q=>∃(p:Addr) (bs:List Bool),xs=[.ref p]/\SqL X.K H p (bs.map V.bl)/\Q (.bl (bs.all id)) H):=by
 intro pins s σ H xs us Q I r h;obtain⟨p,bs,rfl,hq,q⟩:=h;obtain⟨u,rfl,rx⟩:=cW r;cases rx;obtain⟨its,rv,pl,hz⟩:=I.list hq;have hl:=pl.isList;have hlt:p<s.heap.objs.size:=by obtain⟨_,e,_⟩:=hl;exact Zl e
 have hh:=I.ok.hd hc;have hlen:bs.length=its.length:=by rw[<-rv.length,z6]
 refine call_all_walk (wpAny_pyIter_list hl ?_);refine⟨s.heap.objs.size,[s.heap.objs.size,p],[s.heap.objs.size],its.toArray.size,_,_,fun i=>(bs[i]?).getD true,rfl,Walks.list (A:=X.A.in1) hh _ p (ZG hlt) its.toArray,
  ⟨⟨_,Zs _ rfl,rfl,rfl⟩,hl.push _⟩,fun i v s' Q' E' hP hQ=>?_,fun h' tk hk=>?_⟩
 ·have hv:its[i]?=some v:=by simpa using hP
  have hi:i<bs.length:=by rw[hlen];exact(Zf.mp hv).1
  obtain⟨u,hu,ru⟩:=rv.get (i:=i) (x:=.bl bs[i]) (by rw[ZB,Za hi];rfl);rw[hv]at hu;cases hu;cases ru;have hQ':Q' ((bs[i]?).getD true) s':=hQ;rw[Za hi]at hQ';exact ZZ hQ'
 ·have e:((List.range its.toArray.size).all fun i=>(bs[i]?).getD true)=bs.all id:=by rw[Zj,<-hlen];exact LSm.range_all bs
  rw[e];exact⟨.bl _,H,I.kept (t':=tk) (LSm.kept_iter hk),rfl,q⟩
theorem uH:dN X (.builtin "isinstance") (fun xs H Q=>∃x T t b,xs=[x,.ty T]/\TyOf X.K H x t/\PySem.W.kitOne X.K t (.type T)=some b/\Q (.bl b) H):=by intro pins s σ H xs us Q I r h;obtain⟨x,T,t,b,rfl,ty,e,q⟩:=h;obtain⟨u,w',rfl,rx,ry⟩:=lB r;cases(show w'=Value.type T from ry);exact mE I rx ty e fun tk=>⟨.bl b,H,I.tok tk,rfl,q⟩
end
def isI:V->Bool
 |.int _=>true
 |.bl _=>true
 |_=>false
def isB:V->Bool
 |.bl _=>true
 |_=>false
def df:V->Bool
 |.int _=>true
 |_=>false
def qM:Option HO->Bool
 |some (.tup _)=>true
 |_=>false
def isT(H:Hp):V->Bool
 |.ref a=>qM (H a)
 |_=>false
theorem bD{H:Hp}{a:Addr}{o:HO}{b:Bool}(e:H a=some o)(h:qM (some o)=b):isT H (.ref a)=b:=by show qM (H a)=b;rw[e];exact h
theorem bv{K:PySem.W.Frag}{t T:String}{b:Bool}(h1:(Value.type t==Value.type T)=b)(h2:b=false->PySem.W.kitMeta T=true/\(PySem.fastBuiltinMro t).map (·.contains (Value.type T))=some false):PySem.W.kitOne K (.type t) (.type T)=some b:=by
 unfold PySem.W.kitOne;rw[h1];cases b with
 |true=>exact BK rfl
 |false =>rw[BJ Zi];obtain⟨m,q⟩:=h2 rfl;show(if PySem.W.kitMeta T=true then PySem.W.subIn K (.type t) (.type T)else none)=_;rw[BK m];exact q
theorem aF{K:PySem.W.Frag}{t T:String}{b:Bool}(h1:(Value.type t==Value.type T)=false)(h2:PySem.W.kitMeta T=true)(h3:(PySem.fastBuiltinMro t).map (·.contains (Value.type T))=some b):PySem.W.kitOne K (.type t) (.type T)=some b:=by unfold PySem.W.kitOne;rw[h1,BJ Zi];show(if PySem.W.kitMeta T=true then PySem.W.subIn K (.type t) (.type T)else none)=_;rw[BK h2];exact h3
theorem lP{K:PySem.W.Frag}{H:Hp}{v:V}{n:String}(h:TyOf K H v (.type n)):PySem.W.kitOne K (.type n) (.type "int")=some (isI v):=by
 cases h with
 |non=>exact aF (b:=false) (by decide +kernel) (by decide +kernel) (by decide +kernel)
 |bl x=>exact aF (b:=true) (by decide +kernel) (by decide +kernel) (by decide +kernel)
 |int i=>exact bv (b:=true) (by decide +kernel) (fun z=>nomatch z)
 |str x=>exact aF (b:=false) (by decide +kernel) (by decide +kernel) (by decide +kernel)
 |flt x=>exact aF (b:=false) (by decide +kernel) (by decide +kernel) (by decide +kernel)
 |lst e=>exact aF (b:=false) (by decide +kernel) (by decide +kernel) (by decide +kernel)
 |frz e=>exact aF (b:=false) (by decide +kernel) (by decide +kernel) (by decide +kernel)
 |tup e=>exact aF (b:=false) (by decide +kernel) (by decide +kernel) (by decide +kernel)
 |dK e=>exact aF (b:=false) (by decide +kernel) (by decide +kernel) (by decide +kernel)
 |dT e=>exact aF (b:=false) (by decide +kernel) (by decide +kernel) (by decide +kernel)
theorem eF{K:PySem.W.Frag}{H:Hp}{v:V}{n:String}(h:TyOf K H v (.type n)):PySem.W.kitOne K (.type n) (.type "bool")=some (isB v):=by
 cases h with
 |non=>exact aF (b:=false) (by decide +kernel) (by decide +kernel) (by decide +kernel)
 |bl x=>exact bv (b:=true) (by decide +kernel) (fun z=>nomatch z)
 |int i=>exact aF (b:=false) (by decide +kernel) (by decide +kernel) (by decide +kernel)
 |str x=>exact aF (b:=false) (by decide +kernel) (by decide +kernel) (by decide +kernel)
 |flt x=>exact aF (b:=false) (by decide +kernel) (by decide +kernel) (by decide +kernel)
 |lst e=>exact aF (b:=false) (by decide +kernel) (by decide +kernel) (by decide +kernel)
 |frz e=>exact aF (b:=false) (by decide +kernel) (by decide +kernel) (by decide +kernel)
 |tup e=>exact aF (b:=false) (by decide +kernel) (by decide +kernel) (by decide +kernel)
 |dK e=>exact aF (b:=false) (by decide +kernel) (by decide +kernel) (by decide +kernel)
 |dT e=>exact aF (b:=false) (by decide +kernel) (by decide +kernel) (by decide +kernel)
theorem dI{K:PySem.W.Frag}{H:Hp}{v:V}{n:String}(h:TyOf K H v (.type n)):PySem.W.kitOne K (.type n) (.type "tuple")=some (isT H v):=by
 cases h with
 |non=>exact aF (b:=false) (by decide +kernel) (by decide +kernel) (by decide +kernel)
 |bl x=>exact aF (b:=false) (by decide +kernel) (by decide +kernel) (by decide +kernel)
 |int i=>exact aF (b:=false) (by decide +kernel) (by decide +kernel) (by decide +kernel)
 |str x=>exact aF (b:=false) (by decide +kernel) (by decide +kernel) (by decide +kernel)
 |flt x=>exact aF (b:=false) (by decide +kernel) (by decide +kernel) (by decide +kernel)
 |lst e =>rw[bD e (b:=false) rfl];exact aF (b:=false) (by decide +kernel) (by decide +kernel) (by decide +kernel)
 |frz e =>rw[bD e (b:=false) rfl];exact aF (b:=false) (by decide +kernel) (by decide +kernel) (by decide +kernel)
 |tup e =>rw[bD e (b:=true) rfl];exact bv (b:=true) (by decide +kernel) (fun z=>nomatch z)
 |dK e =>rw[bD e (b:=false) rfl];exact aF (b:=false) (by decide +kernel) (by decide +kernel) (by decide +kernel)
 |dT e =>rw[bD e (b:=false) rfl];exact aF (b:=false) (by decide +kernel) (by decide +kernel) (by decide +kernel)
theorem af{H:Hp}{p:Addr}(h:H p=none)(o:HO):Same H (upd H p o):=fun b u q=>by rw[aB (br q h)];exact q
theorem dD{K:PySem.W.Frag}{H H':Hp}{a:Addr}{xs:List V}(e:Same H H')(h:SqT K H a xs):SqT K H' a xs:=by
 rcases h with(h|⟨o,h⟩)|h
 ·exact .inl (.inl (e _ _ h))
 ·exact .inl (.inr ⟨o,e _ _ h⟩)
 ·exact .inr h
theorem cz{K:PySem.W.Frag}{H H':Hp}{v:V}{n:Value}(e:Same H H')(h:TyOf K H v n):TyOf K H' v n:=by
 cases h with
 |non=>exact .non
 |bl x=>exact .bl x
 |int i=>exact .int i
 |str x=>exact .str x
 |flt x=>exact .flt x
 |lst q=>exact .lst (e _ _ q)
 |frz q=>exact .frz (e _ _ q)
 |tup q=>exact .tup (e _ _ q)
 |dK q=>exact .dK (e _ _ q)
 |dT q=>exact .dT (e _ _ q)
 |ins q cl ha hn htk hm=>exact .ins (e _ _ q) cl ha hn htk hm
theorem aL{n:Nat}(h:n<=1000):n<=sizeLine:=Nat.le_of_lt (gC h)
theorem sz{n:Nat}(h:Nat.ble n 1000=true):n<=sizeLine:=aL (Nat.le_of_ble_eq_true h)
theorem gb{J:It}{N n:Nat}{cap:List Nat}{te:TE}{σ:St}{H0:Hp}{Q:VK}(x0 f:Nat->V)(hz:N<=1000)(hgo:∀i H,i<N->Same H0 H->J.go i H)(hst:∀H,Same H0 H->J.stop N H)(hy:∀i H x H',i<N->Same H0 H->J.yld i H x H'->H'=H/\x=x0 i)(he:∀i H,i<N->Same H0 H->∀R:VK,(∀H',Same H H'->R (f i) H')->te ((bg n cap σ).set 0 (some (x0 i))) H R)(hq:∀p H,Same H0 H->H p=none->Q (.ref p) (upd H p (.lst ((List.range N).map f)))):cN n cap (bC 0) dU te σ J H0 Q:=by
 refine⟨fun i m ys H=>m=N-i/\i<=N/\Same H0 H/\ys=(List.range i).map f,⟨N,by simp,Yi _,Same.refl _,rfl⟩,?_⟩;rintro i m ys H ⟨rfl,hi,sm,rfl⟩;by_cases hlt:i<N
 ·refine .inr ⟨hgo i H hlt sm,?_,fun x H' y=>?_⟩
  ·rw[z6,y4];exact gC (by omega)
  ·obtain⟨e1,e2⟩:=hy i H x H' hlt sm y;subst e1 e2;refine he i H' hlt sm _ fun H4 sm4=>⟨N-(i+1),by omega,rfl,hlt,sm.trans sm4,?_⟩
   rw[List.range_succ,ZO];rfl
 ·have e:i=N:=by omega
  subst e;exact .inl ⟨hst H sm,fun p hp=>hq p H sm hp⟩
theorem sw{K:PySem.W.Frag}{a:Addr}{xs:List V}{n:Nat}{cap:List Nat}{te:TE}{σ:St}{H0:Hp}{Q:VK}(f:Nat->V)(hz:xs.length<=1000)(hl:SqL K H0 a xs)(he:∀i x H,xs[i]?=some x->Same H0 H->∀R:VK,(∀H',Same H H'->R (f i) H')->te ((bg n cap σ).set 0 (some x)) H R)(hq:∀p H,Same H0 H->H p=none->Q (.ref p) (upd H p (.lst ((List.range xs.length).map f)))):cN n cap (bC 0) dU te σ (Itl K a) H0 Q:=by
 refine gb (N:=xs.length) (fun i=>(xs[i]?).getD .non) f hz (fun i H hi sm=>⟨xs,xs[i],sm.seq hl,by simp[hi]⟩) (fun H sm=>⟨xs,sm.seq hl,Zg _⟩) (fun i H x H' hi sm y=>⟨y.1,?_⟩) (fun i H hi sm R k=>?_) hq
 ·rw[y.2 xs (sm.seq hl)];rfl
 ·have e:xs[i]?=some xs[i]:=by simp[hi]
  rw[e];exact he i xs[i] H e sm R k
theorem ic{K:PySem.W.Frag}{a:Addr}{xs:List V}{n:Nat}{cap:List Nat}{te:TE}{σ:St}{H0:Hp}{Q:VK}(f:Nat->V)(hz:xs.length<=1000)(hl:SqT K H0 a xs)(he:∀i x H,xs[i]?=some x->Same H0 H->∀R:VK,(∀H',Same H H'->R (f i) H')->te ((bg n cap σ).set 0 (some x)) H R)(hq:∀p H,Same H0 H->H p=none->Q (.ref p) (upd H p (.lst ((List.range xs.length).map f)))):cN n cap (bC 0) dU te σ (Itt K a) H0 Q:=by
 refine gb (N:=xs.length) (fun i=>(xs[i]?).getD .non) f hz (fun i H hi sm=>⟨xs,xs[i],dD sm hl,by simp[hi]⟩) (fun H sm=>⟨xs,dD sm hl,Zg _⟩) (fun i H x H' hi sm y=>⟨y.1,?_⟩) (fun i H hi sm R k=>?_) hq
 ·rw[y.2 xs (dD sm hl)];rfl
 ·have e:xs[i]?=some xs[i]:=by simp[hi]
  rw[e];exact he i xs[i] H e sm R k
theorem fu{N n:Nat}{lo:Int}{cap:List Nat}{te:TE}{σ:St}{H0:Hp}{Q:VK}(f:Nat->V)(hz:N<=1000)(he:∀i H,i<N->Same H0 H->∀R:VK,(∀H',Same H H'->R (f i) H')->te ((bg n cap σ).set 0 (some (.int (lo+i)))) H R)(hq:∀p H,Same H0 H->H p=none->Q (.ref p) (upd H p (.lst ((List.range N).map f)))):cN n cap (bC 0) dU te σ (Itr lo N) H0 Q :=
 gb (N:=N) (fun i=>.int (lo+i)) f hz (fun _ _ hi _=>hi) (fun _ _=>Zg N) (fun _ _ _ _ _ _ y=>y) he hq
open PySem PySem.Spec PyProof.Rows
def aP:Expr->Bool
 |.Starred _ _=>false
 |_=>true
theorem aT{e:Expr}{es:List Expr}{env:Env}(h:aP e=true):starEach (e::es) env=(false,eval e env)::starEach es env:=by cases e<;>first|rfl|cases h
theorem bX{env:Env}{pos:Pos}:∀{es:List Expr},es.all aP=true->(backTo pos (starEach es env)).any (·.1)=false
 | [],_=>rfl
 |e::es,h=>by rw[Ya,Zy]at h;rw[aT h.1];show(false ||(backTo pos (starEach es env)).any (·.1))=false;rw[Bool.false_or];exact bX h.2
section
variable{X:Cx}{x:Str}{p pos:Pos}{e:Expr}{es:List Expr}{te:TE}{t:TA}{id T:String}{r:List V->Hp->VK->Prop}{k:Nat}{ps:List Str}{sp:Sp}
theorem pa(ha:PE X e te)(hr:PA X es t)(hs:aP e=true:=by rfl):PA X (e::es) (dS te t):=dL ha hr (aT hs)
theorem pB(hc:dN X (.builtin id) r)(hm:X.mg x=none)(hv:bootBuiltins x=some (.builtin id))(ha:PA X (e::es) t)(hg:Gl X x:=by rfl)(hs:(e::es).all aP=true:=by rfl)(hn:x≠"__name__":=by decide)(hdb:(x==("__debug__":Str))=false:=by decide) :
  PE X (.Call (.Name x p) (e::es) [] pos) (tCB r t):=by
 rw[Ya,Zy]at hs;exact vq hc hg hm hv ha hn hdb (aT hs.1) (bX hs.2)
theorem pTy(hc:dN X (.type T) r)(hm:X.mg x=none)(hv:bootBuiltins x=some (.type T))(ha:PA X (e::es) t)(hg:Gl X x:=by rfl)(hs:(e::es).all aP=true:=by rfl)(hn:x≠"__name__":=by decide)(hdb:(x==("__debug__":Str))=false:=by decide) :
  PE X (.Call (.Name x p) (e::es) [] pos) (tCB r t):=by
 rw[Ya,Zy]at hs;exact tH hc hg hm hv ha hn hdb (aT hs.1) (bX hs.2)
theorem pfn(F:Fn X.prog X.w X.K X.mg X.base k x ps sp)(hr:Room k X.A)(ha:PA X (e::es) t)(hg:Gl X x:=by rfl)(hs:(e::es).all aP=true:=by rfl)(hdb:(x==("__debug__":Str))=false:=by decide) :
  PE X (.Call (.Name x p) (e::es) [] pos) (lr sp [] E0 t):=by
 rw[Ya,Zy]at hs;exact Av F hr ha hg hdb (aT hs.1) (bX hs.2)
end
open PySem PySem.Spec PyProof.Rows
structure QE(X:Cx)(e:Expr)(t:TE):Prop where
 h:PE X e t
structure QT(X:Cx)(e:Expr)(t:TT):Prop where
 h:PT X e t
structure QW(X:Cx)(e:Expr)(t:TT):Prop where
 h:PW X e t
structure QA(X:Cx)(es:List Expr)(t:TA):Prop where
 h:PA X es t
structure QS(X:Cx)(st:Stmt)(t:TS):Prop where
 h:PS X st t
structure QB(X:Cx)(st:List Stmt)(t:TS):Prop where
 h:PSs X st t
structure QG(X:Cx)(tg:Expr)(g:TG):Prop where
 h:PG X tg g
structure QGs(X:Cx)(ts:List Expr)(g:TGs):Prop where
 h:PGs X ts g
structure QI(X:Cx)(tg iter:Expr)(wi:TI):Prop where
 h:PI X tg iter wi
structure QIf(X:Cx)(ifs:List Expr)(t:TT):Prop where
 h:hU X ifs t
structure QO(X:Cx)(e:Option Expr)(t:TO):Prop where
 h:PO X e t
structure QOp(X:Cx)(f:Value->Value->Sem Value)(r:R2):Prop where
 h:OpR X f r
structure QCall(X:Cx)(f:Value)(r:List V->Hp->VK->Prop):Prop where
 h:dN X f r
structure QIx(X:Cx)(r:R2):Prop where
 h:IxR X r
structure QSl(X:Cx)(r:V->Option Int->Option Int->Hp->VK->Prop):Prop where
 h:SlR X r
structure QSet(X:Cx)(t:nG):Prop where
 h:uB X t
structure QUn(X:Cx)(f:Value->Sem Value)(r:V->Hp->VK->Prop):Prop where
 h:UnR X f r
structure QIp(X:Cx)(op:Operator)(t:TIp):Prop where
 h:PIp X op t
section
variable{X:Cx}{pos p:Pos}{e a b c o:Expr}{es rest:List Expr}{te ta tb tc:TE}{t:TA}{tA tB':TT}{x:Str}
theorem q_v(i:Nat){x:Str}{pos:Pos}(hN:X.N[i]?=some x:=by rfl)(hv:Vis X.env.scope x:=by first|exact Or.inl rfl|exact Or.inr (Or.inl rfl)|exact Or.inr (Or.inr rfl))(hd:(x==("__debug__":Str))=false:=by decide)(hcd:(x==("__classdict__":Str))=false:=by decide):QE X (.Name x pos) (tVar i):=⟨zc hN hv hd hcd⟩
theorem ae{i:Int}{j:Nat}:QE X (.Constant (.int i) j pos) (tC (.int i)):=⟨yU⟩
theorem dA{i:Bool}{j:Nat}:QE X (.Constant (.bool i) j pos) (tC (.bl i)):=⟨Au⟩
theorem dj{j:Nat}:QE X (.Constant .none j pos) (tC .non):=⟨yW⟩
theorem ah{i:Str}{j:Nat}:QE X (.Constant (.str i) j pos) (tC (.str i)):=⟨yZ⟩
theorem cS{T:String}(hm:X.mg x=none)(hv:bootBuiltins x=some (.type T))(hg:Gl X x:=by rfl)(hn:x≠"__name__":=by decide)(hd:(x==("__debug__":Str))=false:=by decide):QE X (.Name x pos) (tC (.ty T)):=⟨xu hg hm hv rfl hn hd⟩
theorem lV{i:Int}{tk:Tok}(hm:X.mg x=some (.int i tk))(hg:Gl X x:=by rfl)(hd:(x==("__debug__":Str))=false:=by decide):QE X (.Name x pos) (tC (.int i)):=⟨lT hg hm ⟨_,rfl⟩ hd⟩
theorem ar{op:Operator}{r:R2}(ho:QOp X (binaryOp op) r)(ha:QE X a ta)(hb:QE X b tb):QE X (.BinOp a op b pos) (tOp r ta tb):=⟨Ax ho.h ha.h hb.h⟩
theorem lX{op:UnaryOp}{r:V->Hp->VK->Prop}(ho:QUn X (unaryOp op) r)(ha:QE X a ta):QE X (.UnaryOp op a pos) (tUn r ta):=⟨Az ho.h ha.h⟩
theorem bP{op}(h:QE X a ta):QE X (.BoolOp op [a] pos) ta:=⟨yY h.h⟩
theorem bO(ha:QE X a ta)(hb:QE X (.BoolOp .And (b::rest) pos) tb):QE X (.BoolOp .And (a::b::rest) pos) (wM ta tb):=⟨yS ha.h hb.h⟩
theorem rm(ha:QE X a ta)(hb:QE X (.BoolOp .Or (b::rest) pos) tb):QE X (.BoolOp .Or (a::b::rest) pos) (vS ta tb):=⟨Ay ha.h hb.h⟩
theorem rk(ha:QE X a ta):QE X (.UnaryOp .Not a pos) (rO ta):=⟨yX ha.h⟩
theorem aV{op:CmpOp}{r:R2}(ho:QOp X (compareOp op) r)(ha:QE X a ta)(hb:QE X b tb)(hm:behindInMarks op b=false:=by first|exact on _|with_unfolding_all rfl):QE X (.Compare a [op] [b] pos) (tOp r ta tb):=⟨xw ho.h ha.h hb.h hm⟩
theorem xJ{op op':CmpOp}{r r':R2}(ho:QOp X (compareOp op) r)(ho':QOp X (compareOp op') r')(ha:QE X a ta)(hb:QE X b tb)(hc:QE X c tc)(hm:lastMarks [op,op'] [b,c]=false:=by with_unfolding_all rfl) :
  QE X (.Compare a [op,op'] [b,c] pos) (lu r r' ta tb tc):=⟨vt ho.h ho'.h ha.h hb.h hc.h hm⟩
theorem zB(hc:QT X c tA)(ha:QE X a ta)(hb:QE X b tb):QE X (.IfExp c a b pos) (tIf tA ta tb):=⟨vx hc.h ha.h hb.h⟩
theorem bS(h:QA X es t):QE X (.List es pos) (zT t):=⟨yV h.h⟩
theorem gm{x1}(h:QA X es t):QE X (.Tuple es x1 pos) (zW t):=⟨zb h.h⟩
theorem aE{r:R2}(hr:QIx X r)(ha:QE X a ta)(hb:QE X b tb)(hs:pL b:=by intro _ _;rfl):QE X (.Subscript a b pos) (tOp r ta tb):=⟨Aw hr.h ha.h hb.h hs⟩
theorem cG{r:V->Option Int->Option Int->Hp->VK->Prop}{lo hi:Option Expr}{tl th:TO}{p2:Pos}(hr:QSl X r)(he:QE X e te)(hl:QO X lo tl)(hu:QO X hi th):QE X (.Subscript e (.Slice lo hi none p2) pos) (tSl r te tl th):=⟨vy hr.h he.h hl.h hu.h⟩
theorem cU:QO X none qr:=⟨xC⟩
theorem cy(h:QE X e te):QO X (some e) (wN te):=⟨xD h.h⟩
theorem ad:QA X [] iJ:=⟨fR⟩
theorem q_a(ha:QE X e te)(hr:QA X es t)(hs:aP e=true:=by rfl):QA X (e::es) (dS te t):=⟨pa ha.h hr.h hs⟩
theorem q_B{id:String}{r:List V->Hp->VK->Prop}(hc:QCall X (.builtin id) r)(hm:X.mg x=none)(hv:bootBuiltins x=some (.builtin id))(ha:QA X (e::es) t)(hg:Gl X x:=by rfl)(hs:(e::es).all aP=true:=by rfl)(hn:x≠"__name__":=by decide)(hdb:(x==("__debug__":Str))=false:=by decide) :
  QE X (.Call (.Name x p) (e::es) [] pos) (tCB r t):=⟨pB hc.h hm hv ha.h hg hs hn hdb⟩
theorem ci{T:String}{r:List V->Hp->VK->Prop}(hc:QCall X (.type T) r)(hm:X.mg x=none)(hv:bootBuiltins x=some (.type T))(ha:QA X (e::es) t)(hg:Gl X x:=by rfl)(hs:(e::es).all aP=true:=by rfl)(hn:x≠"__name__":=by decide)(hdb:(x==("__debug__":Str))=false:=by decide) :
  QE X (.Call (.Name x p) (e::es) [] pos) (tCB r t):=⟨pTy hc.h hm hv ha.h hg hs hn hdb⟩
theorem aI{k:Nat}{ps:List Str}{sp:Sp}(F:Fn X.prog X.w X.K X.mg X.base k x ps sp)(hr:Room k X.A)(ha:QA X (e::es) t)(hg:Gl X x:=by rfl)(hs:(e::es).all aP=true:=by rfl)(hdb:(x==("__debug__":Str))=false:=by decide) :
  QE X (.Call (.Name x p) (e::es) [] pos) (lr sp [] E0 t):=⟨pfn F hr ha.h hg hs hdb⟩
theorem ax{op:CmpOp}{r:R2}(ho:QOp X (compareOp op) r)(ha:QE X a ta)(hb:QE X b tb)(hm:behindInMarks op b=false:=by first|exact on _|with_unfolding_all rfl):QT X (.Compare a [op] [b] pos) (lv (tOp r ta tb)):=⟨xH ho.h ha.h hb.h hm⟩
theorem qs{op op':CmpOp}{r r':R2}(ho:QOp X (compareOp op) r)(ho':QOp X (compareOp op') r')(ha:QE X a ta)(hb:QE X b tb)(hc:QE X c tc)(hm:lastMarks [op,op'] [b,c]=false:=by with_unfolding_all rfl) :
  QT X (.Compare a [op,op'] [b,c] pos) (lv (lu r r' ta tb tc)):=⟨vH ho.h ho'.h ha.h hb.h hc.h hm⟩
theorem bQ(ha:QT X a tA):QT X (.UnaryOp .Not a pos) (zU tA):=⟨zq ha.h⟩
theorem bf(h:QE X e te)(he:∀whole,isTrue e X.env whole=(do let v ←whole;standAt e.pos;holding [v] (truthy v)):=by intro _;rfl):QT X e (tB te):=⟨zr h.h he⟩
theorem dW(ha:QT X a tA):QW X (.BoolOp .And [a] pos) tA:=⟨xI ha.h⟩
theorem cu(ha:QT X a tA):QW X (.BoolOp .Or [a] pos) tA:=⟨zA ha.h⟩
theorem fD(ha:QT X a tA)(hb:QW X (.BoolOp .And (b::rest) pos) tB'):QW X (.BoolOp .And (a::b::rest) pos) (zP tA tB'):=⟨zw ha.h hb.h⟩
theorem cA(ha:QT X a tA)(hb:QW X (.BoolOp .Or (b::rest) pos) tB'):QW X (.BoolOp .Or (a::b::rest) pos) (tOr tA tB'):=⟨AB ha.h hb.h⟩
theorem t_w(h:QW X e tA):QT X e tA:=⟨h.h.pt⟩
end
section
variable{X:Cx}{pos:Pos}{tg iter elt:Expr}{ifs:List Expr}{g:TG}{gs:TGs}{tc:TT}{te:TE}{scope:Scope}{cap:List Nat}{capN own:List Str}{wi:TI}
theorem bp{i:Nat}{x:Str}(hN:X.N.Nodup)(hi:X.N[i]?=some x:=by rfl)(hx:Loc X.env.scope x:=by first|exact Or.inl rfl|exact Or.inr rfl)(hf:X.fn x=true\/X.env.scope.names.lookup x=some .local:=by first|exact .inl rfl|exact .inr rfl):QG X (.Name x pos) (bC i):=⟨xy hN hi hx hf⟩
theorem yp:QGs X [] nX:=⟨xz⟩
theorem qL{e:Expr}{es:List Expr}(h1:QG X e g)(h2:QGs X es gs)(hs:(assignEach (e::es) X.env).map (·.2)=assign e X.env::(assignEach es X.env).map (·.2):=by rfl):QGs X (e::es) (jq g gs):=⟨vA h1.h h2.h hs⟩
theorem Ad{es:List Expr}{k n:Nat}(hc:X.calm=true)(h:QGs X es gs)(hn:(assignEach es X.env).length=n:=by rfl)(hst:(assignEach es X.env).findIdx? (·.1)=none:=by rfl):QG X (.Tuple es k pos) (nY X.K n gs):=⟨ze hc h.h hn hst⟩
theorem qK{o i:Expr}{to ti:TE}{t:nG}(ho:QE X o to)(hi:QE X i ti)(hs:QSet X t)(ha:∀ v,assign (.Subscript o i pos) X.env v=(do
   let ov ←holding [v] (eval o X.env)
   let iv ←holding [v,ov] (eval i X.env)
   standAt pos
   holding [v,ov,iv] (setItem ov iv v)
   release [v,ov,iv] []):=by intro _;rfl):QG X (.Subscript o i pos) (yo to ti t):=⟨zd ho.h hi.h hs.h ha⟩
theorem oh{l:Expr}(hl:QE X l te):QI X tg l (wn X.K te):=⟨xA hl.h⟩
theorem nj{l:Expr}(hl:QE X l te):QI X tg l (yq X.K te):=⟨zh hl.h⟩
theorem fc{a:Expr}{ta:TA}{p:Pos}(hm:X.mg "range" = none)(ha:QA X [a] ta)(hg:Gl X "range":=by rfl)(hs:aP a=true:=by rfl):QI X tg (.Call (.Name "range" p) [a] [] pos) (wo ta):=⟨tJ hg hm ha.h (aT hs)⟩
theorem du:QIf X [] dU:=⟨vC⟩
theorem A3{c:Expr}{t:TT}(h:QT X c t):QIf X [c] t:=⟨vD h.h⟩
theorem cK(O:CompOk X scope cap capN)(hc:X.calm=true)(hi:QI X tg iter wi)(hg:∀C s0 H0 ex,QG (aA X scope (own++capN) C s0 H0 ex) tg g)(gk:GK own.length g)(ht:∀C s0 H0 ex,QIf (aA X scope (own++capN) C s0 H0 ex) ifs tc)(he:∀C s0 H0 ex,QE (aA X scope (own++capN) C s0 H0 ex) elt te)(hs:∀x,foldedSetIterable iter X.env x=pure x:=by intro _;rfl):QE X (.ListComp elt [⟨tg,iter,ifs,0⟩] scope pos) (gF own.length cap wi g tc te) :=
 ⟨xx O hc hi.h (fun C s0 H0 ex=>(hg C s0 H0 ex).h) gk (fun C s0 H0 ex=>(ht C s0 H0 ex).h) (fun C s0 H0 ex=>(he C s0 H0 ex).h) hs⟩
variable{st:Stmt}{rest:List Stmt}{t u:TS}{e c:Expr}
theorem b_0:QB X [] rN:=⟨xF⟩
theorem b_1(h:QS X st t):QB X [st] t:=⟨xG h.h⟩
theorem b_c(h1:QS X st t)(h2:QB X rest u):QB X (st::rest) (ku t u):=⟨vG h1.h h2.h⟩
theorem aq(h:QE X e te):QS X (.Return (some e) pos) (zV te):=⟨zo h.h⟩
theorem aC{body els:List Stmt}(hc:QT X c tc)(ht:QB X body t)(hu:QB X els u):QS X (.If c body els pos) (vR tc t u):=⟨AA hc.h ht.h hu.h⟩
theorem aJ{i:Nat}{x:Str}{pos':Pos}(hN:X.N.Nodup)(he:QE X e te)(hi:X.N[i]?=some x:=by rfl)(hx:Loc X.env.scope x:=by first|exact Or.inl rfl|exact Or.inr rfl)(hs:swapsWith e (some (.Name x pos')) pos.line X.env=pure false:=by rfl)(hf:X.fn x=true\/X.env.scope.names.lookup x=some .local:=by first|exact .inl rfl|exact .inr rfl):QS X (.Assign [.Name x pos'] e pos) (iI te (bC i)):=⟨zp hN hi hx he.h hs hf⟩
theorem tQ{j:Nat}{y:Str}{py spos:Pos}(hN0:X.N.Nodup)(O:CompOk X scope cap capN)(hc:X.calm=true)(hi:QI X tg iter wi)(hg:∀C s0 H0 ex,QG (aA X scope (own++capN) C s0 H0 ex) tg g)(gk:GK own.length g)(ht:∀C s0 H0 ex,QIf (aA X scope (own++capN) C s0 H0 ex) ifs tc)(he:∀C s0 H0 ex,QE (aA X scope (own++capN) C s0 H0 ex) elt te)(hj:X.N[j]?=some y:=by rfl)(hy:Loc X.env.scope y:=by first|exact Or.inl rfl|exact Or.inr rfl)(hsw:swapsWith (.ListComp elt [⟨tg,iter,ifs,0⟩] scope pos) (some (.Name y py)) spos.line X.env=pure true:=by rfl)(hs:∀x,foldedSetIterable iter X.env x=pure x:=by intro _;rfl)(hf:X.fn y=true\/X.env.scope.names.lookup y=some .local:=by first|exact .inl rfl|exact .inr rfl) :
  QS X (.Assign [.Name y py] (.ListComp elt [⟨tg,iter,ifs,0⟩] scope pos) spos) (iI (gF own.length cap wi g tc te) (bC j)) :=
 ⟨xE hN0 hj hy O hc hi.h (fun C s0 H0 ex=>(hg C s0 H0 ex).h) gk (fun C s0 H0 ex=>(ht C s0 H0 ex).h) (fun C s0 H0 ex=>(he C s0 H0 ex).h) hsw hs hf⟩
theorem rq(he:QE X e te)(hg:QG X tg g)(hs:swapsWithSole [tg] e pos.line X.env=pure false:=by rfl)(hw:swappedStores [tg] e X.env=pure none:=by rfl)(h1:(assignEach [tg] X.env).map (·.2)=[assign tg X.env]:=by rfl):QS X (.Assign [tg] e pos) (iI te g):=⟨zm he.h hg.h hs hw h1⟩
theorem rA{body:List Stmt}(hp:PassesOwn (model X.prog X.w) X.A X.env X.xe)(hc:X.calm=true)(hi:QI X tg iter wi)(hg:QG X tg g)(hb:QB X body t)(hs:∀x,foldedSetIterable iter X.env x=pure x:=by intro _;rfl):QS X (.For tg iter body [] pos) (zS wi g t):=⟨zn hp hc hi.h hg.h hb.h hs⟩
end
theorem Fun.okQ{P:Program}{w:World}{K:PySem.W.Frag}{mg:Str->Option Value}{base:Heap}{x qual:Str}{st:Stmt}{f:Addr}{fd:FuncData}{N ps:List Str}{k:Nat}{sp:Sp}(F:Fun K x qual st f fd)(S:FnScope N ps (au st))(len:∀ vs H Q E,sp vs H Q E->vs.length=ps.length)(hbody:∀ (cdv:Value) (A:Around) (outer:List Env) (s:Shared) (H:Hp) (vs:List V) (Q:VK) (E:XK),Room k (A.deeper (envOfC qual (au st) s.heap.objs.size f cdv))->sp vs H Q E ->
   ∃ t,QB (dO CX0 P w K mg base N qual (au st) f cdv A outer s H E).nox (bR st) t/\t { nx:=fun _ H'=>Q .non H',rt:=Q } (dR N vs) H):FnOk P w K mg base CX0 (k+1) f fd ps sp :=
 F.ok S len fun cdv A outer s H vs Q E hr hsp=>let⟨t,h,q⟩:=hbody cdv A outer s H vs Q E hr hsp;⟨t,h.h,q⟩
section
variable{X:Cx}
theorem bx:QOp X (binaryOp .Add) (rI0 fun i j=>.int (i+j)):=⟨yK⟩
theorem eS:QOp X (binaryOp .Sub) (rI0 fun i j=>.int (i-j)):=⟨yR⟩
theorem iq:QOp X (binaryOp .Mult) (rI CMul fun i j=>.int (i*j)):=⟨yO⟩
theorem fe:QOp X (binaryOp .FloorDiv) (rI xY fun i j=>.int (i / j)):=⟨xt⟩
theorem aZ:QOp X (binaryOp .Mod) (rI (fun _ j=>0<j) fun i j=>.int (i%j)):=⟨yN⟩
theorem qT:QOp X (binaryOp .Pow) (rI xZ fun i j=>.int (i^j.toNat)):=⟨yQ⟩
theorem cV:QOp X (binaryOp .Add) rCat:=⟨yL⟩
theorem yG:QOp X (binaryOp .Add) (wC X.K):=⟨pZ⟩
theorem aH:QOp X (compareOp .Eq) rEq:=⟨Am⟩
theorem eJ:QOp X (compareOp .NotEq) rNe:=⟨Ar⟩
theorem jX:QOp X (compareOp .Lt) (rI0 fun i j=>.bl (decide (i<j))):=⟨Aq⟩
theorem jW:QOp X (compareOp .LtE) (rI0 fun i j=>.bl (decide (i<=j))):=⟨Ap⟩
theorem oy:QOp X (compareOp .Gt) (rI0 fun i j=>.bl (decide (j<i))):=⟨Ao⟩
theorem vk:QOp X (compareOp .GtE) (rI0 fun i j=>.bl (decide (j<=i))):=⟨An⟩
theorem jw:QOp X (compareOp .Is) (fun x y H Q=>y=.non/\Q (.bl (decide (x=.non))) H):=⟨yM⟩
theorem jD:QUn X (unaryOp .USub) (rU fun i=>.int (-i)):=⟨zZ⟩
theorem aO:QIx X (rIxL X.K):=⟨xa⟩
theorem bz:QIx X (rIxT X.K):=⟨yw⟩
theorem bW:QSl X (rSlL X.K):=⟨xO⟩
theorem rK:QSet X wG:=⟨vO⟩
theorem bB:QCall X (.builtin "len") (fun xs H Q=>∃p ys,xs=[.ref p]/\(SqL X.K H p ys\/SqT X.K H p ys)/\Q (.int ys.length) H):=⟨nJ⟩
theorem eO:QCall X (.builtin "isinstance") (fun xs H Q=>∃x T t b,xs=[x,.ty T]/\TyOf X.K H x t/\PySem.W.kitOne X.K t (.type T)=some b/\Q (.bl b) H):=⟨uH⟩
theorem jn(hc:X.calm=true):QCall X (.builtin "all") (fun xs H Q=>∃(p:Addr) (bs:List Bool),xs=[.ref p]/\SqL X.K H p (bs.map V.bl)/\Q (.bl (bs.all id)) H):=⟨uG hc⟩
theorem wc(hc:X.calm=true):QCall X (.builtin "max") (fun xs H Q=>∃i j,xs=[.int i,.int j]/\Q (.int (if j>i then j else i)) H):=⟨sr hc⟩
theorem kE:QCall X (.type "tuple") (fun xs H Q=>∃p ys,xs=[.ref p]/\((SqL X.K H p ys/\∀l,H l=none->Q (.ref l) (upd H l (.tup ys)))\/(SqT X.K H p ys/\Q (.ref p) H))):=⟨mR⟩
theorem ft:QCall X (.type "int") (fun xs H Q=>(∃i,xs=[.int i]/\Q (.int i) H)\/∃k,xs=[.bl k]/\Q (.int (if k then 1 else 0)) H):=⟨sq⟩
end
open PySem PySem.Spec PyProof.Rows
mutual
def Dt(H:Hp):PyData->V->Prop
 |.none,v=>v=.non
 |.bool b,v=>v=.bl b
 |.int i,v=>v=.int i
 |.str x,v=>v=.str x
 |.list ds,v=>∃a xs,v=.ref a/\Rd H a (.lst xs)/\DtAll H ds xs
 |.tuple ds,v=>∃a xs,v=.ref a/\Rd H a (.tup xs)/\DtAll H ds xs
 |.dict _,_=>False
def DtAll(H:Hp):List PyData->List V->Prop
 | [],xs=>xs=[]
 |d::ds,xs=>∃y ys,xs=y::ys/\Dt H d y/\DtAll H ds ys
end
section
variable{P:Program}{w:World}{H:Hp}{h:Heap}
mutual
theorem Dt.reads(ok:HOk P w H h):∀(d:PyData) (x:V) (v:Value),Dt H d x->RelV x v->∃as,Reads h v d as
 |.none,x,v,e,r=>by
  have e':x=.non:=by simpa only[Dt]using e
  subst e';cases r;exact⟨_,.none⟩
 |.bool b,x,v,e,r=>by
  have e':x=.bl b:=by simpa only[Dt]using e
  subst e';cases r;exact⟨_,.bool b⟩
 |.int i,x,v,e,r=>by
  have e':x=.int i:=by simpa only[Dt]using e
  subst e';obtain⟨t,rfl⟩:=r;exact⟨_,.int i t⟩
 |.str z,x,v,e,r=>by
  have e':x=.str z:=by simpa only[Dt]using e
  subst e';obtain⟨t,rfl⟩:=r;exact⟨_,.str z t⟩
 |.list ds,x,v,e,r=>by
  have e':∃a xs,x=.ref a/\Rd H a (.lst xs)/\DtAll H ds xs:=by simpa only[Dt]using e
  obtain⟨a,xs,rfl,hr,hd⟩:=e';cases r;obtain⟨_,its,n,rv,eo⟩:=hr.ok ok;obtain⟨as,q⟩:=DtAll.reads ok ds xs its hd rv;exact⟨_,.list eo rfl rfl (by simpa using q)⟩
 |.tuple ds,x,v,e,r=>by
  have e':∃a xs,x=.ref a/\Rd H a (.tup xs)/\DtAll H ds xs:=by simpa only[Dt]using e
  obtain⟨a,xs,rfl,hr,hd⟩:=e';cases r;obtain⟨_,its,rv,o,eo,hc,n,hs⟩:=hr.ok ok;obtain⟨as,q⟩:=DtAll.reads ok ds xs its hd rv;exact⟨_,.tuple eo hc hs (by simpa using q)⟩
 |.dict kvs,x,v,e,r=>by
  have e':False:=by simpa only[Dt]using e
  exact e'.elim
theorem DtAll.reads(ok:HOk P w H h):∀(ds:List PyData) (xs:List V) (vs:List Value),DtAll H ds xs->Vals xs vs->∃as,ReadsAll h vs ds as
 | [],xs,vs,e,r=>by
  have e':xs=[]:=by simpa only[DtAll]using e
  subst e';cases r;exact⟨_,.nil⟩
 |d::ds,xs,vs,e,r=>by
  have e':∃y ys,xs=y::ys/\Dt H d y/\DtAll H ds ys:=by simpa only[DtAll]using e
  obtain⟨y,ys,rfl,h1,h2⟩:=e';cases r with
  |cons r1 r2 =>obtain⟨as,q1⟩:=Dt.reads ok d y _ h1 r1;obtain⟨bs,q2⟩:=DtAll.reads ok ds ys _ h2 r2;exact⟨_,.cons q1 q2⟩
end
end
theorem pS{H:Hp}:∀(ns:List Int),DtAll H (ns.map PyData.int) (ns.map V.int)
 | []=>by simp only[List.map_nil,DtAll]
 |n::ns=>by simp only[ZH,DtAll];exact⟨_,_,rfl,by simp only[Dt],pS ns⟩
section
variable{X:Cx}
inductive rEqD  (x:V)(y:V)(H:Hp)(Q:VK):Prop
 |mk (dx dy:_) (h0:Dt H dx x) (h1:Dt H dy y) (h2:SeqAt.shaped dx=true) (h3:SeqAt.shaped dy=true) (h4:Q (.bl (PyData.eqv dx dy)) H):rEqD  x y H Q
inductive rNeD  (x:V)(y:V)(H:Hp)(Q:VK):Prop
 |mk (dx dy:_) (h0:Dt H dx x) (h1:Dt H dy y) (h2:SeqAt.shaped dx=true) (h3:SeqAt.shaped dy=true) (h4:Q (.bl (!PyData.eqv dx dy)) H):rNeD  x y H Q
theorem yP(hu:X.A.units+64<cLine):OpR X (compareOp .NotEq) rNeD:=by intro pins s σ H x y v u Q I rx ry h;obtain⟨dx,dy,h1,h2,s1,s2,q⟩:=h;obtain⟨as,r1⟩:=Dt.reads I.hok dx x v h1 rx;obtain⟨bs,r2⟩:=Dt.reads I.hok dy y u h2 ry;exact ne_dataH r1 r2 s1 s2 hu ⟨.bl _,H,I,rfl,q⟩
end
open PySem PySem.Spec PyProof.Rows
theorem et{i j:Int}{A B:Prop}(h1:i=j->A)(h2:i≠j->B):if decide (V.int i=V.int j)=true then A else B:=by
 by_cases h:i=j
 ·rw[BK (decide_eq_true (by rw[h]))];exact h1 h
 ·rw[BJ (by rw[decide_eq_false (fun z=>h (by injection z))];exact Zi)];exact h2 h
theorem nk{i j:Int}{A B:Prop}(h1:i≠j->A)(h2:i=j->B):if(!decide (V.int i=V.int j))=true then A else B:=by
 by_cases h:i=j
 ·rw[BJ (by rw[decide_eq_true (by rw[h])];decide)];exact h2 h
 ·rw[BK (by rw[decide_eq_false (fun z=>h (by injection z))];rfl)];exact h1 h
theorem iC{H H':Hp}{p:Addr}{o:HO}(e:Same H H')(h:H p=none):Same H (upd H' p o):=fun b u q=>by rw[aB (br q h)];exact e _ _ q
theorem lN{H:Hp}{v:V}(h:isT H v=true):∃a xs,v=.ref a/\H a=some (.tup xs):=by
 cases v with
 |ref a =>
  have h':qM (H a)=true:=h;cases e:H a with
  |none=>rw[e]at h';cases h'
  |some o =>
   cases o with
   |tup xs=>exact⟨a,xs,rfl,e⟩
   |_=>rw[e]at h';cases h'
 |_=>cases h
theorem kz(f:V->Bool)(xs:List V):(((List.range xs.length).map fun i=>f ((xs[i]?).getD .non)).all id)=xs.all f:=by
 rw[List.all_map];have e:((List.range xs.length).all (id∘fun i=>f ((xs[i]?).getD .non)))=xs.all f:=by
  rw[y7,Zx,Zx];constructor
  ·intro h x hx;obtain⟨i,hi,rfl⟩:=Z3 hx;have:=h i (Yq.mpr hi);simpa[hi]using this
  ·intro h i hi;have hi':=Yq.mp hi;have:=h _ (Z9 hi');simpa[hi']using this
 exact e
theorem kO{n:Nat}{i:Int}(h0:0<=i)(h1:i<n):ixN n i=some i.toNat:=by unfold ixN;rw[BK h0,BK h1]
def aj(ns:List Int)(k:Nat):Int:=(ns[k]?).getD 0
theorem bJ{ns:List Int}{k:Int}(h0:0<=k)(h1:k<ns.length):atI (ns.map V.int) k=some (.int (aj ns k.toNat)):=by
 have hk:k.toNat<ns.length:=by omega
 have ek:k=((k.toNat:Nat):Int):=by omega
 have q:atI (ns.map V.int) ((k.toNat:Nat):Int)=some (.int ns[k.toNat]):=bc (by rw[ZB,Za hk]<;>rfl);rw[<-ek]at q;rw[q];unfold aj;rw[Za hk];rfl
theorem uI{ns:List Int}{k:Int}(h0:0<=k)(h1:¬k<ns.length):aj ns k.toNat=0:=by unfold aj;rw[List.getElem?_eq_none (by omega)];rfl
def Asked(K:PySem.W.Frag)(H:Hp)(v:V):Prop :=
 (∃n,TyOf K H v (.type n))/\∀a xs,v=.ref a->H a=some (.tup xs)->xs.length<=1000/\∀x∈xs,∃m,TyOf K H x (.type m)
theorem Asked.same{K:PySem.W.Frag}{H H':Hp}{v:V}(h:Asked K H v)(e:Same H H'):Asked K H' v:=by
 obtain⟨⟨n,ty⟩,h2⟩:=h;refine⟨⟨n,cz e ty⟩,fun a xs hv hx=>?_⟩;subst hv;have q:H a=some (.tup xs):=by
  cases ty with
  |lst q=>rw[e _ _ q]at hx;cases hx
  |frz q=>rw[e _ _ q]at hx;cases hx
  |tup q=>rw[e _ _ q]at hx;cases hx;exact q
  |dK q=>rw[e _ _ q]at hx;cases hx
  |dT q=>rw[e _ _ q]at hx;cases hx
 obtain⟨l,k⟩:=h2 a xs rfl q;exact⟨l,fun x hm=>let⟨m,t⟩:=k x hm;⟨m,cz e t⟩⟩
theorem ml{K:PySem.W.Frag}{H:Hp}{a:Addr}{xs:List V}(h:H a=some (.tup xs))(hl:xs.length<=1000)(hx:∀ x∈xs,∃ m,TyOf K H x (.type m)):Asked K H (.ref a):=⟨⟨_,.tup h⟩,fun b ys e z=>by
 cases e;rw[h]at z;cases z;exact⟨hl,hx⟩⟩
open PySem PySem.Spec PyProof.Rows
section
variable{prog:Program}{w:World}{A:Around}
theorem cQ(calm:A.handled=none)(it t:Addr)(apart:t≠it)(xs:Array Value) :
  Draws prog w A it [it,t] xs.size (fun i v=>xs[i]?=some v) (fun i h=>h.IsTupleIter it t i/\h.IsTuple t xs) where
 live:=fun _ _ q=>let⟨o,eo,_⟩:=q.1;⟨o,eo⟩
 frame:=fun _ _ _ q kp=>⟨let⟨o,eo,r⟩:=q.1;⟨o,kp it (by simp) o eo,r⟩,let⟨o,eo,r⟩:=q.2;⟨o,kp t (by simp) o eo,r⟩⟩
 item:=fun i s Q E lt q cont=>by
  have ei:xs[i]?=some xs[i]:=by simp[lt]
  obtain⟨o,eo,ec,ed⟩:=id q.1;obtain⟨p,ep,_,np,edp⟩:=id q.2;have ty:=q.1.typeIs;unfold Builtin.SmallTypes.nextOf;refine z9 (ZY (name:=Str.ofString "__next__") ty F.slot_tuple_iterator_next (y9 F.slot_tuple_iterator_next ty F.entry_tuple_iterator_next ?_ (F.args_tuple_iterator_next_1 _)));show wpAny _ _ (field (.ref it) 0 >>= _) _ _ s;refine z9 (ZR eo ed (x:=.ref t) rfl ?_);show wpAny _ _ (if(Value.ref t==Value.none)=true then _ else _) _ _ s;rw[BJ (show¬((Value.ref t==Value.none)=true)from Zi)];show wpAny _ _ (field (.ref it) 1 >>= _) _ _ s;refine z9 (ZR eo ed (x:=.int i 0) rfl ?_);show wpAny _ _ (seqItems? (.ref t) >>= _) _ _ s;refine z9 (wpAny_seqItems ep edp ?_);simp only[Yf,ei];have sb:=Heap.SameBut.update s.heap it (fun ob=>ob.mapFields fun fs=>fs.setIfInBounds 1 (rawInt (i+1)));refine z9 (wpAny_setField eo ed (by simp) (Zk ⟨xs[i],rfl,Zk (cont _ _ s.toks ei ⟨?_,?_⟩ (Heap.SameBut.update ..))⟩))
  ·exact⟨_,Heap.get?_update_self _ eo (Obj.isFreed_of_fields (Yl ed _)),(Obj.cls_mapFields ..).trans ec,by rw[Yl ed];simp[rawInt]⟩
  ·exact q.2.extBut (Heap.SameBut.update ..).extBut apart
 done:=fun s Q E q cont=>by
  have ei:xs[xs.size]?=none:=by simp
  obtain⟨o,eo,ec,ed⟩:=id q.1;obtain⟨p,ep,_,np,edp⟩:=id q.2;have ty:=q.1.typeIs;unfold Builtin.SmallTypes.nextOf;refine z9 (ZY (name:=Str.ofString "__next__") ty F.slot_tuple_iterator_next (y9 F.slot_tuple_iterator_next ty F.entry_tuple_iterator_next ?_ (F.args_tuple_iterator_next_1 _)));show wpAny _ _ (field (.ref it) 0 >>= _) _ _ s;refine z9 (ZR eo ed (x:=.ref t) rfl ?_);show wpAny _ _ (if(Value.ref t==Value.none)=true then _ else _) _ _ s;rw[BJ (show¬((Value.ref t==Value.none)=true)from Zi)];show wpAny _ _ (field (.ref it) 1 >>= _) _ _ s;refine z9 (ZR eo ed (x:=.int xs.size 0) rfl ?_);show wpAny _ _ (seqItems? (.ref t) >>= _) _ _ s;refine z9 (wpAny_seqItems ep edp ?_);simp only[Yf,ei];refine z9 (wpAny_rule (z9 (wpAny_setField eo ed (by simp) ?_)));show wpAny _ _ (newExc (.type "StopIteration") [] >>= _) _ _ _;refine z9 ?_;simp only[newExc,newTuple];refine z9 (Yb ?_ (by size_fits));refine z9 (m:=firstArgMember _ _) (wpAny_of_eq (a:=Value.none) (by first|rfl|(simp only[firstArgMember];rfl)) (Yb ?_ (by size_fits)));simp only[raiseNew];refine z9 (wpAny_handled ?_)
  first|rw[show A.in1.handled=none from calm]|rw[calm]
  exact z9 (Zk (wpAny_throw (cont _ _ (((Heap.SameBut.update ..).extBut.push _).push _) ⟨_,Zs _ rfl,rfl⟩)))
end
structure ZAp(z u v i j:Addr)(f g:List Addr):Prop where
 uz:u≠z
 vz:v≠z
 uv:u≠v
 ui:u≠i
 uj:u≠j
 vi:v≠i
 vj:v≠j
 iz:i≠z
 jz:j≠z
 ij:i≠j
 zf:z∉f
 zg:z∉g
 vf:v∉f
 vg:v∉g
 jf:j∉f
 ig:i∉g
section
variable{prog:Program}{w:World}{A:Around}{E:Value->Shared->Prop}{s:Shared}{z u v i j:Addr}{f g:List Addr}{n m k:Nat}{P1 P2:Nat->Value->Prop}{S1 S2:Nat->Heap->Prop}{a b:Value}
def qC(z v i j:Addr)(h h':Heap):Prop:=∀c o,c≠z->c≠v->c≠i->c≠j->h.get? c=some o->h'.get? c=some o
theorem cY{c:Addr}{f:List Addr}{d:Addr}(hc:c∈f)(hd:d∉f):c≠d:=fun e=>hd (e▸hc)
theorem pj(d1:Draws prog w A i f n P1 S1)(d2:Draws prog w A j g m P2 S2)(ap:ZAp z u v i j f g)(hz:IsZip s.heap z u v .none)(hu:IsPair s.heap u (.ref i) (.ref j))(hv:IsPair s.heap v a b)(h1:S1 k s.heap)(h2:S2 k s.heap)(l1:k<n)(l2:k<m){Q:Value->Shared->Prop}(cont:∀h' tk x y,P1 k x->P2 k y->IsZip h' z u v (rawInt s.heap.objs.size)->IsPair h' v x y->S1 (k+1) h'->S2 (k+1) h'->IsPair h' s.heap.objs.size x y->qC z v i j s.heap h'->Q (.ref s.heap.objs.size) { s with heap:=h',toks:=tk }) :
  wpAny (model prog w) A (Builtin.«zip.__next__» ⟨[.ref z],[]⟩) (fun fin s'=>∃r,fin=.done (.ret r)/\Q r s') E s:=by
 show wpAny _ _ (field (.ref z) 2 >>= _) _ _ _;refine z9 (ZR hz rfl (x:=.bool false) rfl ?_);show wpAny _ _ (field (.ref z) 3 >>= _) _ _ _;refine z9 (ZR hz rfl (x:=.ref u) rfl (z9 (wpAny_seqItems hu rfl ?_)));show wpAny _ _ (Builtin.SmallTypes.ownedTupleIsFree (.ref z) >>= _) _ _ _;refine z9 ?_;unfold Builtin.SmallTypes.ownedTupleIsFree;refine z9 (ZR hz rfl (x:=.none) rfl (Zk ?_));simp only[if_true];refine z9 (wpAny_rule (z9 (ZR hz rfl (x:=.ref v) rfl ?_)));refine z9 (wpAny_setField_rec hz (by simp) fun q1 z1 b1=>?_)
 replace z1:IsZip q1 z u v .ellipsis:=z1
 refine z9 ?_;simp only[List.zipIdx_cons,List.zipIdx_nil,List.forIn_cons,List.forIn_nil];refine z9 (z9 (wpAny_onRaise ?_));show wpAny _ _ (Builtin.SmallTypes.nextOf (.ref i) >>= _) _ _ _;refine z9 (d1.item k { s with heap:=q1 } _ _ l1 (d1.frame _ _ _ h1 fun c hc o e=>b1.extBut c o (cY hc ap.zf) e) fun x q2 t2 px s2 b2=>Zk ?_);have v2:IsPair q2 v a b:=b2.extBut _ _ ap.vi (b1.extBut _ _ ap.vz hv);refine z9 (wpAny_seqItems v2 rfl (z9 (wpAny_updateSeq_pair v2 fun q3 w3 b3=>?_)))
 replace w3:IsPair q3 v x b:=w3
 refine z9 (wpAny_letGo (Zk ?_));refine z9 (z9 (wpAny_onRaise ?_));show wpAny _ _ (Builtin.SmallTypes.nextOf (.ref j) >>= _) _ _ _;refine z9 (d2.item k { s with heap:=q3,toks:=t2 } _ _ l2 (d2.frame _ _ _ h2 fun c hc o e=>b3.extBut c o (cY hc ap.vg) (b2.extBut c o (cY hc ap.ig) (b1.extBut c o (cY hc ap.zg) e))) fun y q4 t4 py s4 b4=>Zk ?_);have v4:IsPair q4 v x b:=b4.extBut _ _ ap.vj w3;refine z9 (wpAny_seqItems v4 rfl (z9 (wpAny_updateSeq_pair v4 fun q5 w5 b5=>?_)))
 replace w5:IsPair q5 v x y:=w5
 refine z9 (wpAny_letGo (Zk (Zk (z9 (wpAny_seqItems w5 rfl (z9 (wpAny_newTuple ?_)))))));have sz:q5.objs.size=s.heap.objs.size:=by rw[b5.1,b4.1,b3.1,b2.1,b1.1]
 have z5:IsZip q5 z u v .ellipsis:=b5.extBut _ _ ap.vz.symm (b4.extBut _ _ ap.jz.symm (b3.extBut _ _ ap.vz.symm (b2.extBut _ _ ap.iz.symm z1)));have k5:qC z v i j s.heap q5:=fun c o c1 c2 c3 c4 e=>b5.extBut _ _ c2 (b4.extBut _ _ c4 (b3.extBut _ _ c2 (b2.extBut _ _ c3 (b1.extBut _ _ c1 e))));have s5:S1 (k+1) q5:=d1.frame _ _ _ s2 fun c hc o e=>b5.extBut c o (cY hc ap.vf) (b4.extBut c o (cY hc ap.jf) (b3.extBut c o (cY hc ap.vf) e));have r5:S2 (k+1) q5:=d2.frame _ _ _ s4 fun c hc o e=>b5.extBut c o (cY hc ap.vg) e;have zlt:z<q5.objs.size:=Zl z5;show wpAny _ _ (Builtin.SmallTypes.ownedTupleHandOut (.ref z) (.ref q5.objs.size) >>= _) _ _ _;refine z9 ?_;unfold Builtin.SmallTypes.ownedTupleHandOut;refine z9 (wpAny_setField_rec (show IsZip (q5.push { cls:=.type "tuple",data:=.seq #[x,y] }) z u v .ellipsis from Zb _ z5) (by simp) fun q7 z7 b7=>?_)
 replace z7:IsZip q7 z u v (rawInt q5.objs.size):=z7
 refine wpAny_setField_rec z7 (by simp) fun q8 z8 b8=>?_
 replace z8:IsZip q8 z u v (rawInt q5.objs.size):=z8
 have up:∀c o,c≠z->q5.get? c=some o->q8.get? c=some o:=fun c o c1 e=>b8.extBut _ _ c1 (b7.extBut _ _ c1 (Zb _ e));have p8:IsPair q8 q5.objs.size x y:=b8.extBut _ _ (Yn zlt) (b7.extBut _ _ (Yn zlt) (Zs _ rfl));rw[sz]at z8 p8;refine Zk ⟨_,rfl,?_⟩;show Q (.ref q5.objs.size) _;rw[sz];exact cont q8 _ x y px py z8 (up _ _ ap.vz w5) (d1.frame _ _ _ s5 fun c hc o e=>up c o (cY hc ap.zf) e) (d2.frame _ _ _ r5 fun c hc o e=>up c o (cY hc ap.zg) e) p8 fun c o c1 c2 c3 c4 e=>up c o c1 (k5 c o c1 c2 c3 c4 e)
theorem qu(d1:Draws prog w A i f n P1 S1)(d2:Draws prog w A j g m P2 S2)(ap:ZAp z u v i j f g)(hz:IsZip s.heap z u v .none)(hu:IsPair s.heap u (.ref i) (.ref j))(hv:IsPair s.heap v a b)(h1:S1 n s.heap){Q:Fin->Shared->Prop}(cont:∀h' e,qC z v i j s.heap h'->(∃o,h'.get? e=some o/\o.cls=.type "StopIteration")->E (.ref e) { s with heap:=h' }):wpAny (model prog w) A (Builtin.«zip.__next__» ⟨[.ref z],[]⟩) Q E s:=by
 show wpAny _ _ (field (.ref z) 2 >>= _) _ _ _;refine z9 (ZR hz rfl (x:=.bool false) rfl ?_);show wpAny _ _ (field (.ref z) 3 >>= _) _ _ _;refine z9 (ZR hz rfl (x:=.ref u) rfl (z9 (wpAny_seqItems hu rfl ?_)));show wpAny _ _ (Builtin.SmallTypes.ownedTupleIsFree (.ref z) >>= _) _ _ _;refine z9 ?_;unfold Builtin.SmallTypes.ownedTupleIsFree;refine z9 (ZR hz rfl (x:=.none) rfl (Zk ?_));simp only[if_true];refine z9 (wpAny_rule (z9 (ZR hz rfl (x:=.ref v) rfl ?_)));refine z9 (wpAny_setField_rec hz (by simp) fun q1 z1 b1=>?_)
 replace z1:IsZip q1 z u v .ellipsis:=z1
 refine z9 ?_;simp only[List.zipIdx_cons,List.zipIdx_nil,List.forIn_cons,List.forIn_nil];refine z9 (z9 (wpAny_onRaise ?_));show wpAny _ _ (Builtin.SmallTypes.nextOf (.ref i) >>= _) _ _ _;refine z9 (d1.done { s with heap:=q1 } _ _ (d1.frame _ _ _ h1 fun c hc o e=>b1.extBut c o (cY hc ap.zf) e) fun q2 e b2 he=>?_);obtain⟨oe,hoe,hce⟩:=he;have z2:IsZip q2 z u v .ellipsis:=b2 _ _ ap.iz.symm z1;have ez:e≠z:=fun x=>by subst x;rw[z2]at hoe;cases hoe;simp at hce
 exact wpAny_setField_rec z2 (by simp) fun q3 _ b3=>cont q3 e (fun c o c1 _ c3 _ x=>b3.extBut _ _ c1 (b2 _ _ c3 (b1.extBut _ _ c1 x))) ⟨oe,b3.extBut _ _ ez hoe,hce⟩
end
section
variable{X:Cx}{pins:List (Addr×Obj)}{σ:St}{H:Hp}{s:Shared}{h':Heap}{ch:List Addr}{t':Nat}
theorem Inv.turnH{H':Hp}(I:Inv X pins σ H s)(hch:∀b∈ch,bF X pins H b)(kp:∀b o,b∉ch->s.heap.get? b=some o->h'.get? b=some o)(up:∀b u,H b=some u->H' b=some u)(dn:∀b o,s.heap.get? b=some o->H b=none->H' b=none)(hok:HOk X.prog X.w H' h') :
  Inv X pins σ H' { s with heap:=h',toks:=t' }:=by
 refine I.step (g':=s.gens) (d':=s.drawn) (ch:=ch) (fun b hb=>?_) (fun b o _ _ hc e _=>kp b o hc e) (fun b o _ _ hc e _=>⟨o.slots,kp b o hc e⟩) (fun b o _ e n=>dn b o e n) (fun b o hc e=>⟨o,kp b o hc e⟩) (fun b xs e=>up _ _ e) (fun b o u e=>up _ _ e) (fun b ps e=>⟨#[],by rw[up _ _ e];simp⟩) (fun m hm=>?_) hok I.bare
 ·obtain⟨f0,f1,f2,f3,f4,f5⟩:=hch b hb;exact⟨f3,f1,f4,f5⟩
 ·obtain⟨o,es,ep,ho,r⟩:=hm;exact⟨o,es,ep,kp _ o (fun z=>(hch _ z).2.1 rfl) ho,r⟩
theorem og(I:Inv X pins σ H s)(hch:∀b∈ch,bF X pins H b)(kp:∀b o,b∉ch->s.heap.get? b=some o->h'.get? b=some o):HOk X.prog X.w H h':=fun b u e=>by
 have nin:∀{c:Addr} {q:HO},H c=some q->c∉ch:=fun{c q} e z=>by rw[(hch c z).1]at e;cases e
 refine(I.hok b u e).stay (fun c v hc q=>kp c v ?_ q) (fun _ q=>q) fun _ _ q=>q;rcases hc with z|z
 ·rw[z];exact nin e
 ·exact nin z
theorem Inv.turnM(I:Inv X pins σ H s)(hch:∀b∈ch,bF X pins H b)(kp:∀b o,b∉ch->s.heap.get? b=some o->h'.get? b=some o):Inv X pins σ H { s with heap:=h',toks:=t' } :=
 I.turnH hch kp (fun _ _ e=>e) (fun _ _ _ n=>n) (og I hch kp)
theorem Inv.turnT{xs:List V}{its:List Value}(I:Inv X pins σ H s)(hch:∀b∈ch,bF X pins H b)(kp:∀b o,b∉ch->s.heap.get? b=some o->h'.get? b=some o)(hp:IsTup h' s.heap.objs.size its.toArray)(rv:Vals xs its)(hz:xs.length<=sizeLine) :
  Inv X pins σ (upd H s.heap.objs.size (.tup xs)) { s with heap:=h',toks:=t' }:=by
 have fr:=I.hok.fresh (Zg s.heap.objs.size);have ne:∀{b:Addr} {u:HO},H b=some u->b≠s.heap.objs.size:=fun{b u} e=>br e fr;have hk:=og I hch kp;refine I.turnH hch kp (fun b u e=>by rw[aB (ne e)];exact e) (fun b o e n=>by rw[aB (ZG (Zl e))];exact n) fun b u e=>?_;by_cases hb:b=s.heap.objs.size
 ·subst hb;rw[aa]at e;cases e;exact⟨hz,its,rv,hp⟩
 ·rw[aB hb]at e;exact(hk b u e).stay (fun _ _ _ q=>q) (fun c q=>by rw[aB (ne q)];exact q) fun c ys q=>by rw[aB (ne q)];exact q
end
def Itz(K:PySem.W.Frag)(a b:Addr)(xs ys:List V):It :=
 ⟨fun i H=>i<xs.length/\SqT K H a xs/\SqT K H b ys,fun i H x H'=>∃T p q,H T=none/\xs[i]?=some p/\ys[i]?=some q/\x=.ref T/\H'=upd H T (.tup [p,q]),fun i H=>i=xs.length/\SqT K H a xs/\SqT K H b ys⟩
abbrev zTn(z u v i1 i2 a b:Addr):Nat->Heap->Prop:=fun i h=>IsZip h z u v .none/\IsPair h u (.ref i1) (.ref i2)/\(∃p q,IsPair h v p q)/\h.IsTupleIter i1 a i/\h.IsTupleIter i2 b i
theorem vV{P:Program}{w:World}{K:PySem.W.Frag}{elts:List Expr}{kt:Nat}{tp:Pos}{z u v i1 i2 a b:Addr}{xs ys:List V}(hl:xs.length=ys.length)(D:[z,u,v,i1,i2].Nodup)(ha:∀c∈[z,u,v,i1,i2],c≠a/\c≠b) :
  Turn P w K (.Tuple elts kt tp) (Itz K a b xs ys) [z,u,v,i1,i2] z (zTn z u v i1 i2 a b):=by
 have nd:(z≠u/\z≠v/\z≠i1/\z≠i2)/\(u≠v/\u≠i1/\u≠i2)/\(v≠i1/\v≠i2)/\i1≠i2:=by simpa using D
 obtain⟨⟨zu,zv,z1,z2⟩,⟨uv,u1,u2⟩,⟨v1,v2⟩,i12⟩:=nd;have az:=ha z (by simp);have av:=ha v (by simp);have a1:=ha i1 (by simp);have a2:=ha i2 (by simp);have ap:ZAp z u v i1 i2 [i1,a] [i2,b]:=⟨zu.symm,zv.symm,uv,u1,u2,v1,v2,z1.symm,z2.symm,i12,by simp[z1,az.1],by simp[z2,az.2],by simp[v1,av.1],by simp[v2,av.2],by simp[i12.symm,a2.1],by simp[i12,a1.2]⟩
 refine⟨by simp,fun i h st c hc=>?_,fun i h h' st k=>?_,?_,?_,fun A i s Q E st h=>wpAny_pyIter_zip st.1 h⟩
 ·obtain⟨e1,e2,⟨p,q,e3⟩,⟨o4,e4,_,d4⟩,⟨o5,e5,_,d5⟩⟩:=st;simp only[Zr,ZK,Yg]at hc;rcases hc with rfl|rfl|rfl|rfl|rfl
  ·exact⟨_,e1,fun v z=>nomatch z⟩
  ·exact⟨_,e2,fun v z=>nomatch z⟩
  ·exact⟨_,e3,fun v z=>nomatch z⟩
  ·exact⟨_,e4,fun v z=>by rw[d4]at z;cases z⟩
  ·exact⟨_,e5,fun v z=>by rw[d5]at z;cases z⟩
 ·obtain⟨e1,e2,⟨p,q,e3⟩,⟨o4,e4,r4⟩,⟨o5,e5,r5⟩⟩:=st;exact⟨k z (by simp) _ e1,k u (by simp) _ e2,⟨p,q,k v (by simp) _ e3⟩,⟨o4,k i1 (by simp) _ e4,r4⟩,⟨o5,k i2 (by simp) _ e5,r5⟩⟩
 ·intro X hP hw hK hc i pins s σ H E I hf st hg;subst hP hw hK;obtain⟨e1,e2,⟨p,q,e3⟩,e4,e5⟩:=st;obtain⟨hi,hx,hy⟩:=hg;obtain⟨its,rx,px,zx⟩:=I.tuple hx;obtain⟨jts,ry,py,zy⟩:=I.tuple hy;have lx:i<its.toArray.size:=by rw[Zj,<-rx.length];exact hi
  have ly:i<jts.toArray.size:=by rw[Zj,<-ry.length,<-hl];exact hi
  have hh:=I.ok.hd hc;have hT:s.TypeIs (.ref z) "zip":=⟨_,e1,rfl⟩
  unfold pyNext;refine z9 (wpAny_attempt (ZY (name:=Str.ofString "__next__") hT Yo (y9 Yo hT F.entry_zip_next
   (pj (cQ (A:=X.A.in1) hh i1 a a1.1.symm its.toArray) (cQ (A:=X.A.in1) hh i2 b a2.2.symm jts.toArray) ap e1 e2 e3 ⟨e4,px⟩ ⟨e5,py⟩ lx ly fun h' tk x y qx qy zz vv s1 s2 pp kp=>Zk ?_) (F.args_zip_next_1 _))))
  refine⟨_,rfl,wpAny_letOwnedTupleGo_zip (s:={ s with heap:=h',toks:=tk }) zz fun h2 z2' sb=>?_⟩;obtain⟨xv,ex⟩:∃xv,xs[i]?=some xv:=⟨xs[i],by simp[hi]⟩
  obtain⟨yv,ey⟩:∃yv,ys[i]?=some yv:=⟨ys[i]'(by omega),by simp[show i<ys.length by omega]⟩
  obtain⟨x',gx,rxv⟩:=rx.get ex;obtain⟨y',gy,ryv⟩:=ry.get ey;have qx':its[i]?=some x:=by simpa using qx
  have qy':jts[i]?=some y:=by simpa using qy
  rw[gx]at qx';rw[gy]at qy';cases qx';cases qy';have ltz:z<s.heap.objs.size:=Zl e1;have kp2:∀c o,c∉[z,u,v,i1,i2]->s.heap.get? c=some o->h2.get? c=some o:=fun c o hc e=>by simp only[Zr,ZK,Yg,not_or]at hc;exact sb.extBut c o hc.1 (kp c o hc.1 hc.2.2.1 hc.2.2.2.1 hc.2.2.2.2 e)
  have tT:IsTup h2 s.heap.objs.size [x,y].toArray:=⟨_,sb.extBut _ _ (Yn ltz) pp,rfl,_,rfl⟩
  refine⟨.ref s.heap.objs.size,upd H s.heap.objs.size (.tup [xv,yv]),I.turnT (t':=tk) hf kp2 tT (.cons rxv (.cons ryv .nil)) (sz rfl),rfl,⟨_,xv,yv,I.hok.fresh (Zg _),ex,ey,rfl,rfl⟩,?_,fun c hc=>?_⟩
  ·exact⟨z2',sb.extBut _ _ zu.symm (kp _ _ zu.symm uv u1 u2 e2),⟨_,_,sb.extBut _ _ zv.symm vv⟩,s1.1.extBut sb.extBut z1.symm,s2.1.extBut sb.extBut z2.symm⟩
  ·rw[aB]
   ·exact(hf c hc).1
   ·obtain⟨o,eo,_⟩:∃o,s.heap.get? c=some o/\True:=by
     simp only[Zr,ZK,Yg]at hc;rcases hc with rfl|rfl|rfl|rfl|rfl
     ·exact⟨_,e1,trivial⟩
     ·exact⟨_,e2,trivial⟩
     ·exact⟨_,e3,trivial⟩
     ·obtain⟨o,eo,_⟩:=e4;exact⟨o,eo,trivial⟩
     ·obtain⟨o,eo,_⟩:=e5;exact⟨o,eo,trivial⟩
    exact ZG (Zl eo)
 ·intro X hP hw hK hc i pins s σ H E I hf st hg;subst hP hw hK;obtain⟨e1,e2,⟨p,q,e3⟩,e4,e5⟩:=st;obtain⟨rfl,hx,hy⟩:=hg;obtain⟨its,rx,px,zx⟩:=I.tuple hx;obtain⟨jts,ry,py,zy⟩:=I.tuple hy;have lx:its.toArray.size=xs.length:=by rw[Zj,<-rx.length]
  have hh:=I.ok.hd hc;have hT:s.TypeIs (.ref z) "zip":=⟨_,e1,rfl⟩
  unfold pyNext;refine z9 (wpAny_attempt (ZY (name:=Str.ofString "__next__") hT Yo (y9 Yo hT F.entry_zip_next
   (qu (cQ (A:=X.A.in1) hh i1 a a1.1.symm its.toArray) (cQ (A:=X.A.in1) hh i2 b a2.2.symm jts.toArray) ap e1 e2 e3 ⟨by rw[lx];exact e4,px⟩ fun h' e kp he=>?_) (F.args_zip_next_1 _))))
  obtain⟨o,ho,hco⟩:=he;refine z9 (wpAny_isInstance (T:="StopIteration") (b:=true) ⟨o,ho,hco⟩ isSubtype_stop (Zk ⟨rfl,?_⟩));exact I.turnM (t':=s.toks) hf fun c ob hc e=>by simp only[Zr,ZK,Yg,not_or]at hc;exact kp c ob hc.1 hc.2.2.1 hc.2.2.2.1 hc.2.2.2.2 e
theorem qP(l1 l2:Addr)(xs ys:Array Value) :
  Meets (Builtin.«zip.__new__» ⟨[.type "zip",.ref l1,.ref l2],[]⟩) (fun _ R s=>s.heap.IsTuple l1 xs/\s.heap.IsTuple l2 ys /\
   R (.ok (.ret (.ref ((((s.heap.push { cls:=.type "tuple_iterator",data:=.fields #[.ref l1,.int 0 0] }).push { cls:=.type "tuple_iterator",data:=.fields #[.ref l2,.int 0 0] }).push { cls:=.type "tuple",data:=.seq #[.ref s.heap.objs.size,.ref (s.heap.push { cls:=.type "tuple_iterator",data:=.fields #[.ref l1,.int 0 0] }).objs.size] }).push { cls:=.type "tuple",data:=.seq #[.none,.none] }).objs.size)))
    { s with heap:=((((s.heap.push { cls:=.type "tuple_iterator",data:=.fields #[.ref l1,.int 0 0] }).push { cls:=.type "tuple_iterator",data:=.fields #[.ref l2,.int 0 0] }).push { cls:=.type "tuple",data:=.seq #[.ref s.heap.objs.size,.ref (s.heap.push { cls:=.type "tuple_iterator",data:=.fields #[.ref l1,.int 0 0] }).objs.size] }).push { cls:=.type "tuple",data:=.seq #[.none,.none] }).push { cls:=.type "zip",data:=.fields #[.none,.bool false,.bool false,.ref ((s.heap.push { cls:=.type "tuple_iterator",data:=.fields #[.ref l1,.int 0 0] }).push { cls:=.type "tuple_iterator",data:=.fields #[.ref l2,.int 0 0] }).objs.size,.ref (((s.heap.push { cls:=.type "tuple_iterator",data:=.fields #[.ref l1,.int 0 0] }).push { cls:=.type "tuple_iterator",data:=.fields #[.ref l2,.int 0 0] }).push { cls:=.type "tuple",data:=.seq #[.ref s.heap.objs.size,.ref (s.heap.push { cls:=.type "tuple_iterator",data:=.fields #[.ref l1,.int 0 0] }).objs.size] }).objs.size] } }) :=
 .of_wp fun prog w A R s h=>by
  obtain⟨hp,g,d,tk,os⟩:=s;obtain⟨t1,t2,h⟩:=h;have hsub:=sub_zip;have T1:Heap.IsTuple (Shared.heap ⟨hp,g,d,tk,os⟩) l1 xs:=t1;have T2:Heap.IsTuple (Shared.heap ⟨hp.push { cls:=.type "tuple_iterator",data:=.fields #[.ref l1,.int 0 0] },g,d,tk,os⟩) l2 ys:=Heap.IsTuple.push t2 _
  wp_walk using wpAny_pyIter_tuple T1,wpAny_pyIter_tuple T2
  exact⟨_,rfl,h⟩
theorem sX(n:Nat):[n+4,n+2,n+3,n,n+1].Nodup:=by simp
def yr(K:PySem.W.Frag)(ta:TA):TI:=fun σ H R=>ta σ H fun vs H1=>∃a b xs ys,vs=[.ref a,.ref b]/\SqT K H1 a xs/\SqT K H1 b ys/\xs.length=ys.length/\R (Itz K a b xs ys) H1
section
variable{X:Cx}
theorem zj{e1 e2:Expr}{ta:TA}{p pos tp:Pos}{elts:List Expr}{kt:Nat}(hg:Gl X "zip")(hm:X.mg "zip" = none)(ha:PA X [e1,e2] ta)(n1:aP e1=true)(n2:aP e2=true):PI X (.Tuple elts kt tp) (.Call (.Name "zip" p) [e1,e2] [] pos) (yr X.K ta):=by
 intro pins s σ H R I h;refine Call_ (gO I hg hm boot_zip (Yt (thn (ha pos pins s σ H _ I h) fun us s1 hz9=>?_) (aT n1) (bX (by simp[n2]))));obtain⟨vs,H1,I1,r1,q1⟩:=hz9;obtain⟨a,b,xs,ys,e,hx,hy,hl,q⟩:=q1;subst e;obtain⟨ua,ub,rfl,ra,rb⟩:=lB r1;cases ra;cases rb;obtain⟨its,rx,px,zx⟩:=I1.tuple hx;obtain⟨jts,ry,py,zy⟩:=I1.tuple hy;refine callType_new F.called_zip (by decide) (F.typeCall_zip_2 _ _) (F.newCall_zip_2 _ _) (fun obj=>F.args_object_init_3 obj _ _) F.entry_zip_new (qP a b its.toArray jts.toArray) ⟨px,py,?_⟩;generalize ea:({ cls:=.type "tuple_iterator",data:=.fields #[.ref a,.int 0 0] }:Obj)=oa;generalize eb:({ cls:=.type "tuple_iterator",data:=.fields #[.ref b,.int 0 0] }:Obj)=ob;have z1:(s1.heap.push oa).objs.size=s1.heap.objs.size+1:=Ye ..;have z2:((s1.heap.push oa).push ob).objs.size=s1.heap.objs.size+2:=by rw[Ye,z1]
 rw[z2,z1];generalize eu:({ cls:=.type "tuple",data:=.seq #[.ref s1.heap.objs.size,.ref (s1.heap.objs.size+1)] }:Obj)=ou;have z3:(((s1.heap.push oa).push ob).push ou).objs.size=s1.heap.objs.size+3:=by rw[Ye,z2]
 generalize ev:({ cls:=.type "tuple",data:=.seq #[.none,.none] }:Obj)=ov;have z4:((((s1.heap.push oa).push ob).push ou).push ov).objs.size=s1.heap.objs.size+4:=by rw[Ye,z3]
 rw[z4,z3];generalize ez:({ cls:=.type "zip",data:=.fields #[.none,.bool false,.bool false,.ref (s1.heap.objs.size+2),.ref (s1.heap.objs.size+3)] }:Obj)=oz;have g5:(((((s1.heap.push oa).push ob).push ou).push ov).push oz).get? (s1.heap.objs.size+4)=some oz:=by rw[<-z4];exact Zs _ (by rw[<-ez];rfl)
 have g4:(((((s1.heap.push oa).push ob).push ou).push ov).push oz).get? (s1.heap.objs.size+3)=some ov:=by rw[<-z3];exact Zb _ (Zs _ (by rw[<-ev];rfl))
 have g3:(((((s1.heap.push oa).push ob).push ou).push ov).push oz).get? (s1.heap.objs.size+2)=some ou:=by rw[<-z2];exact Zb _ (Zb _ (Zs _ (by rw[<-eu];rfl)))
 have g2:(((((s1.heap.push oa).push ob).push ou).push ov).push oz).get? (s1.heap.objs.size+1)=some ob:=by rw[<-z1];exact Zb _ (Zb _ (Zb _ (Zs _ (by rw[<-eb];rfl))))
 have g1:(((((s1.heap.push oa).push ob).push ou).push ov).push oz).get? s1.heap.objs.size=some oa:=Zb _ (Zb _ (Zb _ (Zb _ (Zs _ (by rw[<-ea];rfl)))));have kp:∀c o,s1.heap.get? c=some o->(((((s1.heap.push oa).push ob).push ou).push ov).push oz).get? c=some o:=fun c o e=>Zb _ (Zb _ (Zb _ (Zb _ (Zb _ e))));generalize((((s1.heap.push oa).push ob).push ou).push ov).push oz=hN at g1 g2 g3 g4 g5 kp ⊢;have I2:Inv X pins σ H1 { s1 with heap:=hN }:=I1.kept (t':=s1.toks) kp;have la:a<s1.heap.objs.size:=px.lt;have lb:b<s1.heap.objs.size:=py.lt;subst ea eb eu ev ez;have base:∀c∈[s1.heap.objs.size+4,s1.heap.objs.size+2,s1.heap.objs.size+3,s1.heap.objs.size,s1.heap.objs.size+1],s1.heap.objs.size<=c:=fun c hc=>by simp only[Zr,ZK,Yg]at hc;omega
 refine⟨⟨_,g5,rfl⟩,?_⟩;show wpAny (model X.prog X.w) X.A (pyIter (.ref (s1.heap.objs.size+4))) (PIE X pins σ (.Tuple elts kt tp) R) X.xe { s1 with heap:=hN };refine wpAny_pyIter_zip g5 ?_;refine⟨s1.heap.objs.size+4,[s1.heap.objs.size+4,s1.heap.objs.size+2,s1.heap.objs.size+3,s1.heap.objs.size,s1.heap.objs.size+1],zTn (s1.heap.objs.size+4) (s1.heap.objs.size+2) (s1.heap.objs.size+3) s1.heap.objs.size (s1.heap.objs.size+1) a b,_,H1,rfl,I2,
  vV hl ?_ (fun c hc=>⟨Yn (Zm la (base c hc)),Yn (Zm lb (base c hc))⟩),⟨g5,g3,⟨_,_,g4⟩,⟨_,g1,rfl,rfl⟩,⟨_,g2,rfl,rfl⟩⟩,fun c hc=>?_,q⟩
 ·exact sX s1.heap.objs.size
 ·exact I1.fpOk (base c hc) (I1.hok.fresh (base c hc))
theorem Ah{e1 e2:Expr}{ta:TA}{p pos tp:Pos}{elts:List Expr}{kt:Nat}(hm:X.mg "zip" = none)(ha:QA X [e1,e2] ta)(hg:Gl X "zip":=by rfl)(n1:aP e1=true:=by rfl)(n2:aP e2=true:=by rfl):QI X (.Tuple elts kt tp) (.Call (.Name "zip" p) [e1,e2] [] pos) (yr X.K ta):=⟨zj hg hm ha.h n1 n2⟩
end
open PySem PySem.Spec PyProof.Rows
theorem nN{J:It}{N n:Nat}{cap:List Nat}{g:TG}{tc:TT}{te:TE}{σ:St}{H0:Hp}{Q:VK}(keep:Nat->Bool)(f:Nat->V)(hz:N<=1000)(hgo:∀ i H,i<N->Same H0 H->J.go i H)(hst:∀ H,Same H0 H->J.stop N H)(ht:∀ i H x H',i<N->Same H0 H->J.yld i H x H'->∀ (A:VK) (B:Hp->Prop),(keep i=true->∀ H4,Same H H4->A (f i) H4)->(keep i=false->∀ H4,Same H H4->B H4) ->
   g x (bg n cap σ) H' fun σ2 H2=>tc σ2 H2 fun b H3=>if b=true then te σ2 H3 A else B H3)(hq:∀ p H,Same H0 H->H p=none->Q (.ref p) (upd H p (.lst (((List.range N).filter keep).map f)))):cN n cap g tc te σ J H0 Q:=by
 refine⟨fun i m ys H=>m=N-i/\i<=N/\Same H0 H/\ys=((List.range i).filter keep).map f,⟨N,by simp,Yi _,Same.refl _,rfl⟩,?_⟩;rintro i m ys H ⟨rfl,hi,sm,rfl⟩;by_cases hlt:i<N
 ·refine .inr ⟨hgo i H hlt sm,?_,fun x H' y=>?_⟩
  ·rw[z6];have:=List.length_filter_le keep (List.range i);rw[y4]at this;exact gC (by omega)
  ·refine ht i H x H' hlt sm y _ _ (fun k H4 s4=>⟨N-(i+1),by omega,rfl,hlt,sm.trans s4,?_⟩) (fun k H4 s4=>⟨N-(i+1),by omega,rfl,hlt,sm.trans s4,?_⟩)
   ·rw[List.range_succ,List.filter_append,ZO];simp[k]
   ·rw[List.range_succ,List.filter_append,ZO];simp[k]
 ·have e:i=N:=by omega
  subst e;exact .inl ⟨hst H sm,fun p hp=>hq p H sm hp⟩
theorem nO{N n:Nat}{lo:Int}{cap:List Nat}{tc:TT}{te:TE}{σ:St}{H0:Hp}{Q:VK}(keep:Nat->Bool)(f:Nat->V)(hz:N<=1000)(hc:∀i H,i<N->Same H0 H->∀R:Bool->Hp->Prop,(∀H',Same H H'->R (keep i) H')->tc ((bg n cap σ).set 0 (some (.int (lo+i)))) H R)(he:∀i H,i<N->Same H0 H->keep i=true->∀R:VK,(∀H',Same H H'->R (f i) H')->te ((bg n cap σ).set 0 (some (.int (lo+i)))) H R)(hq:∀p H,Same H0 H->H p=none->Q (.ref p) (upd H p (.lst (((List.range N).filter keep).map f)))):cN n cap (bC 0) tc te σ (Itr lo N) H0 Q:=by
 refine nN (N:=N) keep f hz (fun _ _ hi _=>hi) (fun _ _=>Zg N) (fun i H x H' hi sm y A B kA kB=>?_) hq;obtain⟨rfl,rfl⟩:=y;refine hc i H' hi sm _ fun H2 s2=>?_;cases k:keep i with
 |true=>exact aK (he i H2 hi (sm.trans s2) k _ fun H4 s4=>kA k H4 (s2.trans s4))
 |false=>exact aD (kB k H2 s2)
theorem uJ{K:PySem.W.Frag}{a b:Addr}{xs ys:List V}{n:Nat}{cap:List Nat}{te:TE}{σ:St}{H0:Hp}{Q:VK}(f:Nat->V)(hz:xs.length<=1000)(ha:SqT K H0 a xs)(hb:SqT K H0 b ys)(hl:xs.length=ys.length)(he:∀i x y H,xs[i]?=some x->ys[i]?=some y->Same H0 H->∀R:VK,(∀H',Same H H'->R (f i) H')->te (((bg n cap σ).set 0 (some x)).set 1 (some y)) H R)(hq:∀p H,Same H0 H->H p=none->Q (.ref p) (upd H p (.lst ((List.range xs.length).map f)))):cN n cap (nY K 2 (jq (bC 0) (jq (bC 1) nX))) dU te σ (Itz K a b xs ys) H0 Q:=by
 refine nN (N:=xs.length) (fun _=>true) f hz (fun i H hi sm=>⟨hi,dD sm ha,dD sm hb⟩) (fun H sm=>⟨rfl,dD sm ha,dD sm hb⟩) (fun i H x H' hi sm y A B kA kB=>?_) (fun p H sm hp=>?_)
 ·obtain⟨T,p,q,hT,hx,hy,rfl,rfl⟩:=y;have s1:=af hT (.tup [p,q]);refine⟨T,[p,q],rfl,SqT.of aa,rfl,p,[q],rfl,q,[],rfl,rfl,?_⟩;unfold dU;refine aK ?_;exact he i p q _ hx hy (sm.trans s1) _ fun H4 s4=>kA rfl H4 (s1.trans s4)
 ·have:=hq p H sm hp;rw[List.filter_eq_self.mpr (fun _ _=>rfl)];exact this
inductive rCatS  (x:V)(y:V)(H:Hp)(Q:VK):Prop
 |mk (a b xs ys:_) (h0:x=.ref a) (h1:y=.ref b) (h2:H a=some (.tup xs)) (h3:H b=some (.tup ys)) (h4:xs.length+ys.length<=sizeLine) (h5:∀p H',Same H H'->H' p=some (.tup (xs++ys))->Q (.ref p) H'):rCatS  x y H Q
section
variable{X:Cx}
theorem xr:OpR X (binaryOp .Add) rCatS:=by
 intro pins s σ H x y v u Q I rx ry h;obtain⟨a,b,xs,ys,rfl,rfl,ha,hb,hz,q⟩:=h;by_cases hx:xs=[]
 ·cases rx;cases ry;obtain⟨its,r1,p1,_⟩:=I.tuple (SqT.of (K:=X.K) ha);obtain⟨its2,r2,p2,_⟩:=I.tuple (SqT.of (K:=X.K) hb);obtain⟨⟨cls,dd,data,sl⟩,ho,hc,n,hd⟩:=id p1;obtain⟨⟨cls2,dd2,data2,sl2⟩,ho2,hc2,n2,hd2⟩:=id p2;simp only at hc hd hc2 hd2;subst hc hd hc2 hd2;have e:its=[]:=r1.nil_iff.mpr hx;subst e;refine PySem.concat_meets ⟨_,ho,rfl⟩ ⟨_,ho2,rfl⟩ noFill_tuple_add seq_tuple_add PySem.F.slot_tuple_add PySem.F.entry_tuple_add (PySem.F.args_tuple_add_2 _ _)
   (tuple_addW0 a b _ its2.toArray n n2 dd dd2 sl sl2 (by simp)) ⟨ho,ho2,⟨.ref b,H,I,rfl,q b H (Same.refl H) ?_⟩⟩
  rw[hx];exact hb
 ·exact pZ pins s σ H _ _ v u Q I rx ry ⟨a,b,xs,ys,rfl,rfl,SqT.of ha,SqT.of hb,hx,hz,fun e=>q a H (Same.refl H) (by rw[e,List.append_nil];exact ha),fun _ p hp=>q p _ (af hp _) aa⟩
theorem sZ:QOp X (binaryOp .Add) rCatS:=⟨xr⟩
theorem io{ns:List Int}{i:Nat}{x:V}(h:(ns.map V.int)[i]?=some x):x=.int (aj ns i)/\i<ns.length:=by
 rw[ZB]at h;unfold aj;cases e:ns[i]? with
 |none=>rw[e]at h;cases h
 |some z =>rw[e]at h;cases h;exact⟨rfl,(Zf.mp e).1⟩
theorem fO{ns:List Int}{i:Nat}(h:i<ns.length):ns[i]=aj ns i:=by unfold aj;rw[Za h];rfl
theorem jS(f:Nat->Int)(n:Nat):((List.range n).map f).map V.int=(List.range n).map fun i=>V.int (f i):=by rw[List.map_map];rfl
theorem tP{n d:Nat}{h:Int}(h0:0<=h):HT.sIx n d (some h)=min h.toNat n:=by have e:=HT.sIx_nat n d h.toNat;rw[show((h.toNat:Nat):Int)=h by omega]at e;exact e
variable{K:PySem.W.Frag}(hK:X.K=K)
include hK
theorem xW:QIx X (rIxL K):=by subst hK;exact aO
theorem ur:QIx X (rIxT K):=by subst hK;exact bz
theorem sM{es:List Expr}{k n:Nat}{gs:TGs}{pos:Pos}(hc:X.calm=true)(h:QGs X es gs)(hn:(assignEach es X.env).length=n:=by rfl)(hst:(assignEach es X.env).findIdx? (·.1)=none:=by rfl):QG X (.Tuple es k pos) (nY K n gs):=by subst hK;exact Ad hc h hn hst
omit hK
end
open PySem PySem.Spec PyProof.Rows PySem.W
section
variable{X:Cx}
variable{o e d:Expr}{to te td:TE}{apos cpos:Pos}
theorem iL{prog:Program}{w:World}{A:Around}{E:Value->Shared->Prop}{s:Shared}{t sl:Addr}{items:Array Value}{vl vu:Value}{lo hi:Option Int}{Q:Value->Shared->Prop}(ht:IsTup s.heap t items)(hs:s.heap.IsSliceOf sl vl vu .none)(pl:IsPart vl lo)(pu:IsPart vu hi)(hw:HT.sIx items.size 0 lo=0/\HT.sIx items.size items.size hi=items.size)(h:Q (.ref t) s):wpAny (model prog w) A (getItem (.ref t) (.ref sl)) Q E s:=by
 obtain⟨os,hos,hcs,hds⟩:=id hs;have hTs:s.TypeIs (.ref sl) "slice":=⟨os,hos,hcs⟩
 unfold getItem
 try with_reducible refine wpAny_holding ?_
 first|refine z9 (Zk ?_)|skip
 refine z9 (wpAny_sequenceKey ht.typeIs (by decide) ?_);refine z9 (ZY (name:=Str.ofString "__getitem__") ht.typeIs Z5
  (y9 Z5 ht.typeIs entry_tuple_getitem ?_ (args_tuple_getitem _ _)))
 show wpAny _ _ (Builtin.Tuple.tupleItemsOf (.ref t) >>= _) _ _ s;refine z9 (tupleItemsOf_ ht ?_);refine z9 (wpAny_typeOf hTs ?_);rw[BK (by decide)];refine z9 (HT.sliceApplied_gen hs pl pu ?_);show wpAny _ _ (if(((HT.sIx items.size 0 lo:Nat):Int)==0&&(1:Int)==1&&(HT.sIx items.size items.size hi-HT.sIx items.size 0 lo)==items.size)=true then _ else _) _ _ s;rw[BK (by rw[hw.1,hw.2];simp)];refine z9 (m:=Builtin.Tuple.tupleIsExact _) ?_;unfold Builtin.Tuple.tupleIsExact;refine z9 (wpAny_typeOf ht.typeIs (Zk ?_));rw[BK (by decide)];exact z9 (wpAny_rule (Zk ⟨_,rfl,Zk h⟩))
def A6:V->Option Int->Option Int->Hp->VK->Prop:=fun x lo hi H Q=>∃a xs,x=.ref a/\H a=some (.tup xs)/\∀p H',Same H H'->H' p=some (.tup (aG xs lo hi))->Q (.ref p) H'
theorem yD:QSl X A6:=by
 refine⟨?_⟩;intro pins s σ H x v vl vu lo hi sl Q I rx hs pl pu h;obtain⟨a,xs,rfl,hx,q⟩:=h;by_cases hw:HT.sIx xs.length 0 lo=0/\HT.sIx xs.length xs.length hi=xs.length
 ·cases rx;obtain⟨its,r,ht,hz⟩:=I.tuple (SqT.of (K:=X.K) hx);have hlen:its.toArray.size=xs.length:=by rw[Zj];exact r.length.symm
  refine⟨"tuple",_,Z5.lookup,ht.typeIs,iL ht hs pl pu (by rw[hlen];exact hw) ⟨.ref a,H,I,rfl,q a H (Same.refl H) ?_⟩⟩;unfold aG;rw[hw.1,hw.2,Yr,Nat.sub_zero,List.take_length];exact hx
 ·exact zJ pins s σ H _ v vl vu lo hi sl Q I rx hs pl pu ⟨a,xs,rfl,SqT.of hx,hw,fun p hp=>q p _ (af hp _) aa⟩
end
section
variable{X:Cx}{pins:List (Addr×Obj)}{σ:St}{H:Hp}{s:Shared}{h':Heap}
theorem ir{P:Program}{w:World}{H:Hp}{h:Heap}{a:Addr}{o:HO}(x:ObjOk P w H h a o):∃ob,h.get? a=some ob:=by
 cases o with
 |lst xs =>obtain⟨_,_,_,_,e⟩:=x;exact⟨_,e⟩
 |tup xs =>obtain⟨_,_,_,ob,e,_⟩:=x;exact⟨ob,e⟩
 |dK kvs =>obtain⟨_,_,_,_,ob,_,_,e,_⟩:=x;exact⟨ob,e⟩
 |dT kvs =>obtain⟨_,_,_,_,ob,_,_,e,_⟩:=x;exact⟨ob,e⟩
 |set S n =>obtain⟨ob,_,_,_,e,_⟩:=x;exact⟨ob,e⟩
 |ins C dx fs =>obtain⟨_,_,_,e,_⟩:=x;exact⟨_,e⟩
 |own y=>exact x
 |xd fs =>obtain⟨_,⟨ob,_,_,e,_⟩,_⟩:=x;exact⟨ob,e⟩
 |rng lo hi =>obtain⟨_,_,_,e⟩:=x;exact⟨_,e⟩
 |frz ob u=>exact⟨ob,x.1⟩
 |tbl ps=>exact⟨_,x⟩
 |met f y=>exact⟨_,x⟩
 |ext φ=>exact x.2.1
theorem fK(I:Inv X pins σ H s){a:Addr}(hg:s.heap.get? a=none):H a=none:=by
 cases q:H a with
 |none=>rfl
 |some u =>obtain⟨ob,e⟩:=ir (I.hok a u q);rw[hg]at e;cases e
theorem Inv.laidF{a:Addr}{o:HO}{t':Nat}(I:Inv X pins σ H s)(k:∀b u,b≠X.env.locals->s.heap.get? b=some u->h'.get? b=some u)(hn:∃m,s.heap.Ns X.env.locals m/\h'.Ns X.env.locals m)(hg:s.heap.get? a=none)(new:ObjOk X.prog X.w (upd H a o) h' a o):Inv X pins σ (upd H a o) { s with heap:=h',toks:=t' }:=by
 have fr:=fK I hg;have ne:∀{b:Addr} {u:HO},H b=some u->b≠a:=fun{b u} e=>br e fr;have lt:∀{b:Addr} {u:Obj},s.heap.get? b=some u->b≠a:=fun{b u} e z=>by rw[z,hg]at e;cases e
 have neL:∀{b:Addr} {u:HO},H b=some u->b≠X.env.locals:=fun{b u} e=>br e I.free;refine I.step (g':=s.gens) (d':=s.drawn) (ch:=[]) (fun b hb=>by simp at hb) (fun b o hL _ _ e _=>k b o hL e) (fun b o hL _ _ e _=>⟨o.slots,k b o hL e⟩) (fun b o _ e n=>by rw[aB (lt e)];exact n) (fun b o _ e=>?_)
  (fun b xs e=>by rw[aB (ne e)];exact e) (fun b o u e=>by rw[aB (ne e)];exact e) (fun b ps e=>⟨#[],by rw[aB (ne e),e];simp⟩) (fun m' hm'=>?_) (fun b u e=>?_) I.bare
 ·by_cases hL:b=X.env.locals
  ·obtain⟨m,_,o',_,_,e',_⟩:=hn;exact⟨o',by rw[hL];exact e'⟩
  ·exact⟨o,k b o hL e⟩
 ·obtain⟨m,h1,h2⟩:=hn;rw[hm'.eq_nsMap,<-h1.eq_nsMap];exact h2
 ·by_cases hb:b=a
  ·subst hb;rw[aa]at e;cases e;exact new
  ·rw[aB hb]at e;refine(I.hok b u e).stay (fun c v hc q=>k c v ?_ q) (fun c q=>by rw[aB (ne q)];exact q) fun c ys q=>by rw[aB (ne q)];exact q
   rcases hc with z|z
   ·rw[z];exact neL e
   ·exact neL z
def tM(base h:Heap)(L:Addr):List (Addr×Obj):=(List.range h.objs.size).filterMap fun b=>if b=L\/(base.get? b).isSome=true then none else(h.get? b).map fun o=>(b,o)
theorem jJ(base h:Heap)(L:Addr):News base L h (tM base h L):=fun p hp=>by
 obtain⟨b,_,e⟩:=Yu.mp hp;by_cases c:b=L\/(base.get? b).isSome=true
 ·rw[BK c]at e;cases e
 ·rw[BJ c]at e;cases q:h.get? b with
  |none=>rw[q]at e;cases e
  |some o =>
   rw[q]at e;cases e;refine⟨q,fun z=>c (.inl z),?_⟩;cases z:base.get? b with
   |none=>rfl
   |some u=>exact absurd (.inr (by rw[z];rfl)) c
theorem kU{base h:Heap}{L b:Addr}{o:Obj}(e:h.get? b=some o)(hL:b≠L)(hb:base.get? b=none):(b,o)∈tM base h L:=by refine Yu.mpr ⟨b,Yq.mpr (Zl e),?_⟩;rw[BJ (by rintro(z|z);exact hL z;rw[hb]at z;cases z),e];rfl
end
theorem jK(ns:List Int):SeqAt.shaped (.tuple (ns.map .int))=true:=by
 unfold SeqAt.shaped;rw[Zy];refine⟨?_,?_⟩
 ·simp only[PyData.canLay0];exact PyProof.Rows.canLayAll_ints ns
 ·refine decide_eq_true ?_;simp only[PyData.depth];rw[PyProof.Rows.depthAll_ints ns];decide
theorem jF:∀(ns ms:List Int),PyData.eqvAll (ns.map .int) (ms.map .int)=decide (ns=ms)
 | [],[]=>by simp[PyData.eqvAll]
 | [],_::_=>by simp[PyData.eqvAll]
 |_::_,[]=>by simp[PyData.eqvAll]
 |x::ns,y::ms=>by simp only[ZH,PyData.eqvAll,PyData.eqv];rw[jF ns ms,y7];simp
theorem uN(ns ms:List Int):PyData.eqv (.tuple (ns.map .int)) (.tuple (ms.map .int))=decide (ns=ms):=by simp only[PyData.eqv];exact jF ns ms
theorem sC{H:Hp}{a:Addr}{ns:List Int}(h:H a=some (.tup (ns.map V.int))):Dt H (.tuple (ns.map .int)) (.ref a):=by simp only[Dt];exact⟨a,_,rfl,Rd.of h,pS ns⟩
section
variable{X:Cx}
theorem yH(hu:X.A.units+64<cLine):QOp X (compareOp .NotEq) (fun x y H Q=>∃(a b:Addr) (ns ms:List Int),x=.ref a/\y=.ref b/\H a=some (.tup (ns.map V.int))/\H b=some (.tup (ms.map V.int))/\Q (.bl (!decide (ns=ms))) H):=by refine⟨?_⟩;intro pins s σ H x y v u Q I rx ry h;obtain⟨a,b,ns,ms,rfl,rfl,ha,hb,q⟩:=h;exact yP hu pins s σ H _ _ v u Q I rx ry ⟨_,_,sC ha,sC hb,jK ns,jK ms,by rw[uN];exact q⟩
end
theorem eR{x:V}{A B:Prop}(h:x≠.non)(hB:B):if decide (x=.non)=true then A else B:=by rw[decide_eq_false h];exact aD hB
theorem gh{c A B:Prop}[Decidable c](h:c)(hA:A):if decide c=true then A else B:=by rw[decide_eq_true h];exact aK hA
theorem dw{c A B:Prop}[Decidable c](h1:c->A)(h2:¬c->B):if decide c=true then A else B:=by
 by_cases h:c
 ·exact gh h (h1 h)
 ·rw[decide_eq_false h];exact aD (h2 h)
open PySem PySem.Spec PyProof.Rows
structure CompOk1(X:Cx)(scope:Scope)(cx:Str)(cap:List Nat)(capN:List Str):Prop where
 kind:scope.kind=.function
 names:∀x∈scope.names,x.2=.local->scope.names.lookup x.1=some .local
 onecell:∀y∈scope.names,y.2=.cell->y.1=cx
 own:scope.names.lookup cx=some .cell
 cf:∀(n:Nat) (acc:List (Str×Addr)),cellsFrom n scope.names acc=(cx,n)::acc
 pc:∀h:Heap,pushCells h scope.names=h.push { cls:=.type "cell",data:=.cell none }
 frees:(scope.names.all fun y=>!(y.2==NameKind.free) ||(X.env.kindOf y.1==some .cell ||X.env.kindOf y.1==some .free))=true
 cap:CapOk X scope cap capN
open PySem PySem.Spec PyProof.Rows PySem.W
def cI(h:Heap)(e:Addr)(dc:Option Addr):Prop:=∃o,h.get? e=some o/\o.dict=dc
theorem lL(f:Array Value->Array Value)(o:Obj):(Obj.mapFields f o).dict=o.dict:=by unfold Obj.mapFields;split<;>rfl
section
variable{M:Model}{A:Around}{E:Value->Shared->Prop}{s:Shared}{base:Heap}{env:Env}{outer l:List Env}{L e:Addr}
theorem jH{oe:Obj}{vs:Array Value}{hd0 a0:Value}{nx:Bool}{Q:Unit->Shared->Prop}(fr:A.frames=some (env::outer))(ff:s.heap.FunFrames base (env::outer))(ef:env.frame=some L)(he:s.heap.get? e=some oe)(kb:base.StaysIn s.heap)(en:base.get? e=none)(dt:oe.data=.fields vs)(sz:1<vs.size)(v0:vs[0]?=some a0)(k:∀h',Heap.NotedW base (env::outer) e oe.cls a0 (rawInt L) s.heap h'->cI h' e oe.dict->Q () { s with heap:=h' }) :
  wpAny M A (do let a ←frameOf env;let pl ←entryPlaceOf L nx;let b ←EntryCells.newEntry hd0 a .none (rawInt L) .none pl;setField (.ref e) 1 b) Q E s:=by
 have nf:e∉(env::outer).filterMap (·.frame):=fun hm=>by obtain⟨_,o,ho,hn⟩:=ff.mem hm;cases Zo (he.symm.trans ho);exact hn vs dt
 refine z9 (wpAny_frameOf_fun fr ff ef fun h1 k1=>z9 (wpAny_entryPlaceOf fun pl hpl=>?_));unfold EntryCells.newEntry newFields;refine z9 (Yb ?_ (hpl.sizeOk5 _ _ _ _ _));have t3:([hd0,.ref L,.none,rawInt L,.none]++(if pl.isEmpty then List.replicate 6 Value.none else pl)).toArray[3]?=some (rawInt L):=by simp
 generalize([hd0,.ref L,.none,rawInt L,.none]++(if pl.isEmpty then List.replicate 6 Value.none else pl)).toArray=ts at t3 ⊢;have g1:h1.get? e=some oe:=(k1.2.1 e nf).trans he;have st1:base.StaysIn h1:=fun b o hb=>(k1.2.1 b fun hm=>nomatch(hb.symm.trans (ff.mem hm).1)).trans (kb b o hb);have gp:(h1.push { cls:=.type "traceback",data:=.fields ts }).get? e=some oe:=Zb _ g1;have ne:h1.objs.size≠e:=Yn (Zl g1);have dm:=Yl dt (·.setIfInBounds 1 (Value.ref h1.objs.size));have self:=Heap.get?_update_self (Obj.mapFields (·.setIfInBounds 1 (Value.ref h1.objs.size))) gp (Obj.isFreed_of_fields dm);have atT:=(Z8 (h1.push { cls:=.type "traceback",data:=.fields ts }) (Obj.mapFields (·.setIfInBounds 1 (Value.ref h1.objs.size))) (Z0 ne)).trans (Zs h1 rfl);have oth:∀b o,b≠e->h1.get? b=some o->((h1.push { cls:=.type "traceback",data:=.fields ts }).update e (Obj.mapFields (·.setIfInBounds 1 (Value.ref h1.objs.size)))).get? b=some o:=fun b o n q=>(Z8 _ _ (Z0 n)).trans (Zb _ q);have nrec:∀b o,s.heap.get? b=some o->(∀ws,o.data≠.fields ws)->b≠e:=fun b o q hn z=>by subst z;cases Zo (he.symm.trans q);exact hn vs dt
 refine wpAny_setField gp dt sz (k _ ⟨fun b o q=>oth b o (fun z=>nomatch((z▸q).symm.trans en)) (st1 b o q),ff.of_keeps fun b o q hn=>?_,?_,fun b o q hn=>?_⟩ ⟨_,self,lL _ _⟩)
 ·obtain⟨sl,hs⟩:=k1.2.2 b o q;exact⟨_,oth b _ (nrec b o q hn) hs,rfl⟩
 ·exact⟨_,_,h1.objs.size,_,ts,self,⟨Obj.cls_mapFields _ _,by rw[Array.getElem?_setIfInBounds_ne (by decide)];exact v0⟩,dm,by simp[sz],st1.fresh,ne,atT,rfl,t3⟩
 ·obtain⟨sl,hs⟩:=k1.2.2 b o q;exact⟨sl,oth b _ (nrec b o q hn) hs⟩
theorem fw{cls a0 fl:Value}{dc:Option Addr}{Q:Unit->Shared->Prop}(kb:base.StaysIn s.heap)(ff:s.heap.FunFrames base l)(tr:s.heap.TracedAtW base e cls a0 fl)(dd:cI s.heap e dc)(k:∀h',base.StaysIn h'->h'.FunFrames base l->h'.TracedW base e cls a0->s.heap.UpToSlots h'->cI h' e dc->Q () { s with heap:=h' }):wpAny M A (setFlight (.ref e) none) Q E s:=by
 obtain⟨oe,vs,T,oT,ts,he,hc,dt,v1,nT,ne,hT,dT,t3⟩:=tr;have z3:3<ts.size:=(Array.getElem?_eq_some_iff.mp t3).1;have oth:∀b,b≠T->(s.heap.update T (Obj.mapFields (·.setIfInBounds 3 ((none:Option Addr).elim Value.none fun f=>rawInt f)))).get? b=s.heap.get? b:=fun b n=>Z8 _ _ (Z0 n);have nrec:∀b o,s.heap.get? b=some o->(∀ws,o.data≠.fields ws)->b≠T:=fun b o q hn z=>by subst z;cases Zo (hT.symm.trans q);exact hn ts dT
 unfold setFlight;refine z9 (ZR he dt v1 ?_);rw[BK (by simp:(Value.ref T != Value.none)=true)];refine wpAny_setField hT dT z3 (k _ (fun b o q=>(oth b fun z=>nomatch((z▸q).symm.trans nT)).trans (kb b o q)) (ff.of_keeps fun b o q hn=>⟨o,(oth b (nrec b o q hn)).trans q,rfl⟩) ?_ (fun b o q hn=>⟨o.slots,(oth b (nrec b o q hn)).trans q⟩) ?_)
 ·exact⟨oe,vs,T,_,_,(oth e (Z0 ne)).trans he,hc,dt,v1,nT,ne,Heap.get?_update_self _ hT (Obj.isFreed_of_fields (Yl dT _)),Yl dT _,by simp[z3]⟩
 ·obtain⟨o,q,d⟩:=dd;exact⟨o,(oth e (Z0 ne)).trans q,d⟩
theorem ip{cls a0:Value}{dc:Option Addr}{Q:Unit->Shared->Prop}(fr:A.frames=some (env::outer))(ef:env.frame=some L)(fl:Heap.FlyingW base (env::outer) e cls a0 s.heap)(dd:cI s.heap e dc)(k:∀h',Heap.HeldW base (env::outer) e cls a0 L h'->s.heap.UpToSlots h'->cI h' e dc->Q () { s with heap:=h' }):wpAny M A (noteFrame (.ref e) env) Q E s:=by
 obtain⟨f1,f2,f3,oe,vs,T,oT,ts,he,hc,dt,v1,nT,ne,hT,dT,t3⟩:=fl;obtain⟨o2,q2,d2⟩:=dd;cases Zo (he.symm.trans q2);have z3:3<ts.size:=(Array.getElem?_eq_some_iff.mp t3).1;unfold noteFrame;simp only[ef];refine z9 (ZR he dt v1 ?_);rw[BK (by simp:(Value.ref T != Value.none)=true)];refine z9 (ZR hT dT t3 ?_);rw[BJ (by simp[rawInt]:¬(Value.none==rawInt L)=true)];refine z9 (wpAny_setField hT dT z3 ?_);have oth:∀b,b≠T->(s.heap.update T (Obj.mapFields (·.setIfInBounds 3 Value.none))).get? b=s.heap.get? b:=fun b n=>Z8 _ _ (Z0 n);have nrec:∀b o,s.heap.get? b=some o->(∀ws,o.data≠.fields ws)->b≠T:=fun b o q hn z=>by subst z;cases Zo (hT.symm.trans q);exact hn ts dT
 have sz:1<vs.size:=(Array.getElem?_eq_some_iff.mp v1).1;refine jH (s:={ s with heap:=s.heap.update T (Obj.mapFields (·.setIfInBounds 3 Value.none)) }) fr (f3.of_keeps fun b o q hn=>⟨o,(oth b (nrec b o q hn)).trans q,rfl⟩) ef ((oth e (Z0 ne)).trans he) (fun b o q=>(oth b fun z=>nomatch((z▸q).symm.trans nT)).trans (f1 b o q)) f2 dt sz hc.2 fun h' nt dd=>?_;obtain⟨n1,n2,n3,n4⟩:=nt;rw[hc.1]at n3;rw[d2]at dd;exact k h' ⟨n1,f2,n2,n3⟩ (fun b o q hn=>n4 b o ((oth b (nrec b o q hn)).trans q) hn) dd
end
open PySem PySem.Spec PyProof.Rows PySem.W
def Its(x:Str):It:=⟨fun i _=>i<x.cps.size,fun i H v H'=>H'=H/\∃c,x.cps[i]?=some c/\v=.str ⟨#[c]⟩,fun i _=>x.cps.size<=i⟩
theorem vU{P:Program}{w:World}{K:PySem.W.Frag}{tg:Expr}(it:Addr)(x:Str)(t:Tok):Turn P w K tg (Its x) [it] it (fun i h=>h.IsStrIter it "str_ascii_iterator" x t i) where
 mem:=Ze.mpr rfl
 obj:=fun i h st b hb=>by cases Ze.mp hb;obtain⟨o,e,c,d⟩:=st;exact⟨o,e,fun v z=>nomatch d.symm.trans z⟩
 keep:=fun i h h' st k=>by obtain⟨o,ho,r⟩:=st;exact⟨o,k it (Ze.mpr rfl) o ho,r⟩
 item:=by intro X eP ew eK hc i pins s σ H E I hf st hg;cases eP;cases ew;cases eK;have hi:i<x.cps.size:=hg;have fo:=hf it (Ze.mpr rfl);refine(Walks.strAscii (prog:=X.prog) (w:=X.w) (I.ok.hd hc) it x t).item i s _ _ hi st fun v h' tk hv st' kk=>?_;obtain⟨c,u,hc',rfl⟩:=hv;have I1:Inv X pins σ H { s with heap:=h',toks:=tk }:=I.turned (fun b o hb e=>kk b o (fun z=>hb (Ze.mp z)) e) fo.1 fo.2.1 fo.2.2.2.1 fo.2.2.2.2.1 fo.2.2.2.2.2;obtain⟨o,e,c1,d1⟩:=id st';exact⟨_,rfl,ng (s:={ s with heap:=h',toks:=tk }) e c1 d1 (by decide) ⟨.str ⟨#[c]⟩,H,I1,⟨u,rfl⟩,⟨rfl,c,hc',rfl⟩,st',fun b hb=>(hf b hb).1⟩⟩
 done:=by intro X eP ew eK hc i pins s σ H E I hf st hg;cases eP;cases ew;cases eK;have hi:x.cps.size<=i:=hg;have fo:=hf it (Ze.mpr rfl);exact wpAny_pyNext_ascii_end (I.ok.hd hc) st (by simp;omega) fun h' eb=>⟨rfl,I.turned (t':=s.toks) (fun b o hb e=>eb b o hb e) fo.1 fo.2.1 fo.2.2.2.1 fo.2.2.2.2.1 fo.2.2.2.2.2⟩
 self:=fun _ _ _ _ _ st h=>wpAny_pyIter_striter_ascii st h
def A2(tl:TE):TI:=fun σ H R=>tl σ H fun v H1=>∃x,v=.str x/\x.cps.all (·<128)=true/\R (Its x) H1
section
variable{X:Cx}{tg l:Expr}{tl:TE}
theorem wt(hl:QE X l tl):QI X tg l (A2 tl):=by refine⟨?_⟩;intro pins s σ H R I h;refine thn (hl.h pins s σ H _ I h) fun v s1 hz9=>?_;obtain⟨y,H1,I1,r1,q1⟩:=hz9;obtain⟨x,rfl,ha,q⟩:=q1;obtain⟨t,rfl⟩:=r1;refine wpAny_pyIter_ascii ha ⟨s1.heap.objs.size,[s1.heap.objs.size],_,_,H1,rfl,I1.kept (t':=s1.toks) (fun b o e=>Zb _ e),vU _ x t,⟨_,Zs _ rfl,rfl,rfl⟩,fun b hb=>?_,q⟩;cases Ze.mp hb;exact I1.fpOk (Zg _) (I1.hok.fresh (Zg _))
end
theorem nP{x:Str}{n:Nat}{cap:List Nat}{te:TE}{σ:St}{H0:Hp}{Q:VK}(f:Nat->V)(hz:x.cps.size<=1000)(he:∀i c H,x.cps[i]?=some c->Same H0 H->∀R:VK,(∀H',Same H H'->R (f i) H')->te ((bg n cap σ).set 0 (some (.str ⟨#[c]⟩))) H R)(hq:∀p H,Same H0 H->H p=none->Q (.ref p) (upd H p (.lst ((List.range x.cps.size).map f)))):cN n cap (bC 0) dU te σ (Its x) H0 Q:=by
 refine gb (N:=x.cps.size) (fun i=>.str ⟨#[x.cps.getD i 0]⟩) f hz (fun i H hi sm=>hi) (fun H sm=>Zg _) (fun i H v H' hi sm y=>?_) (fun i H hi sm R k=>?_) hq
 ·obtain⟨y1,c,hc,rfl⟩:=y;refine⟨y1,?_⟩;simp[ZV,hc]
 ·have e:x.cps[i]?=some x.cps[i]:=by simp[hi]
  have:=he i _ H e sm R k;simpa[ZV,e]using this
section
variable{X:Cx}
theorem wf:QCall X (.builtin "ord") (fun xs H Q=>∃c:Nat,xs=[.str ⟨#[c]⟩]/\Q (.int (c:Int)) H):=by refine⟨?_⟩;intro pins s σ H xs us Q I r h;obtain⟨c,rfl,q⟩:=h;obtain⟨u,rfl,rx⟩:=cW r;obtain⟨t,rfl⟩:=rx;exact PySem.P.ord_of_char ⟨.int c,H,I.tok _,⟨_,rfl⟩,q⟩
end
section
variable{X:Cx}
theorem fN:QCall X (.builtin "len") (fun xs H Q=>∃x:Str,xs=[.str x]/\x.length<=1000/\Q (.int (x.length:Int)) H):=by refine⟨?_⟩;intro pins s σ H xs us Q I r h;obtain⟨x,rfl,hz,q⟩:=h;obtain⟨u,rfl,rx⟩:=cW r;obtain⟨t,rfl⟩:=rx;exact PyProof.Rows.len_str (by omega) ⟨.int x.length,H,I.tok _,⟨_,rfl⟩,q⟩
end
theorem bA{v:V}{A B:Prop}(hA:A):if decide (v=v)=true then A else B:=by rw[decide_eq_true rfl];exact aK hA
theorem ak{v u:V}{A B:Prop}(h:v≠u)(hB:B):if decide (v=u)=true then A else B:=by rw[decide_eq_false h];exact aD hB
theorem lG{x:V}{xs:List V}:atI (x::xs) 0=some x:=bc (j:=0) rfl
theorem ce:bootBuiltins "str" = some (.type "str"):=by decide +kernel
theorem uT{P:Program}{w:World}{K:PySem.W.Frag}{mg:Str->Option Value}{base:Heap}{k:Nat}{f:Addr}{fd:FuncData}{ps:List Str}:FnOk P w K mg base CX0 k f fd ps (fun _ _ _ _=>False):=⟨fun _ _ _ _ h=>h.elim,fun _ _ _ _ _ _ _ _ _ _ _ _ _ h=>h.elim⟩
inductive TV where
 |flat (v:V)
 |tup (xs:List V)
def nA:V->Value->Bool
 |.non,.none=>true
 |.bl b,.bool c=>b==c
 |.int i,.int j _=>i==j
 |.str x,.str y _=>x==y
 |_,_=>false
theorem mO:∀{v:V} {u:Value},nA v u=true->RelV v u:=by
 intro v u h;unfold nA at h;split at h
 ·exact rfl
 ·obtain rfl:=beq_iff_eq.mp h;exact rfl
 ·obtain rfl:=beq_iff_eq.mp h;exact⟨_,rfl⟩
 ·obtain rfl:=beq_iff_eq.mp h;exact⟨_,rfl⟩
 ·cases h
def ph:List V->List Value->Bool
 | [],[]=>true
 |v::vs,u::us=>nA v u&&ph vs us
 |_,_=>false
theorem jL:∀{vs:List V} {us:List Value},ph vs us=true->Vals vs us
 | [],[],_=>.nil
 |_::_,_::_,h=>by have h:=(Zy _ _).mp h;exact .cons (mO h.1) (jL h.2)
 | [],_::_,h=>nomatch h
 |_::_,[],h=>nomatch h
def lA(K:PySem.W.Frag):TV->Value->Bool
 |.flat v,u=>nA v u
 | .tup xs,.ref a=>(match K.lookup a with
  |some o=>o.cls == .type "tuple"&&(match o.data with|.seq its _=>decide (its.size<=1000)&&ph xs its.toList|_=>false)
  | none=>false)
 |_,_=>false
def yg(K:PySem.W.Frag):TV->Value->Prop
 |.flat v,u=>RelV v u
 |.tup xs,u=>∃a,u=.ref a/\∀H,SqT K H a xs
theorem AG{K:PySem.W.Frag}(d:TV)(u:Value)(h:lA K d u=true):yg K d u:=by
 unfold lA at h;split at h
 ·exact mO h
 ·rename_i xs a;split at h
  ·rename_i o ho;obtain⟨e1,e2⟩:=(Zy _ _).mp h;split at e2
   ·rename_i its n hd;obtain⟨e3,e4⟩:=(Zy _ _).mp e2;exact⟨a,rfl,fun H=>.inr ⟨o,its,n,ho,beq_iff_eq.mp e1,hd,aL (y6 e3),jL e4⟩⟩
   ·cases e2
  ·cases h
 ·cases h
structure Tab(K:PySem.W.Frag)(a:Addr)(D:List (Str×TV)):Prop where
 look:KTD.tabLook (lA K) (fun b=>K.lookup b) a D=true
theorem Tab.at{K:PySem.W.Frag}{a:Addr}{D:List (Str×TV)}(T:Tab K a D){h:Heap}(X:K.In h):KTD.TabOf (yg K) h a D:=KTD.tab_of_look AG (fun b o e=>X b o e) T.look
section
variable{prog:Program}{w:World}{A:Around}{E:Value->Shared->Prop}{s:Shared}{d:Addr}{o:Obj}{es:Array DictEntry}{ep:Nat}{x:Str}{tx:Tok}
theorem qt{Q:Option Value->Shared->Prop}(ho:s.heap.get? d=some o)(hd:o.data=.dict es ep)(hall:(es.all fun e=>isExactStrKey e.key)=true)(h:Q ((es.toList.find? fun e=>e.key.isStr x).map (·.val)) { s with toks:=s.toks+1 }) :
  wpAny (model prog w) A (dictGet d (.str x tx)) Q E s:=by
 unfold dictGet;(try with_reducible (refine wpAny_holding ?_))
 refine z9 (wpAny_pyHash_str (z9 (KTD.kt_dictFind_strs (s:={ s with toks:=s.toks+1 }) ho hd hall ?_)));have hq:Q (findBy (fun y v=>v.isStr y) es x) { s with toks:=s.toks+1 }:=by
  have hf:findBy (fun y v=>v.isStr y) es x=(es.toList.find? fun e=>e.key.isStr x).map (·.val):=by obtain⟨l⟩:=es;simp[findBy]
  rw[hf];exact h
 rw[findBy_of_findIdx?]at hq;cases hi:es.findIdx? fun e=>e.key.isStr x<;>rw[hi]at hq
 ·exact Zk hq
 ·exact z9 (wpAny_dictEntries (s:={ s with toks:=s.toks+1 }) ho hd (Zk hq))
theorem zY{Q:Value->Shared->Prop}(sy:(d==sysModules)=false)(ex:o.ExactDict)(ho:s.heap.get? d=some o)(hd:o.data=.dict es ep)(hall:(es.all fun e=>isExactStrKey e.key)=true)(h:Q (.bool ((es.toList.find? fun e=>e.key.isStr x).map (·.val)).isSome) { s with toks:=s.toks+1 }):wpAny (model prog w) A (compareOp .In (.str x tx) (.ref d)) Q E s:=by
 have T:s.TypeIs (.ref d) "dict":=⟨o,ho,ex.1⟩
 show wpAny _ _ (do return .bool (←contains (.ref d) (.str x tx))) Q E s;refine z9 ?_;unfold contains;(try with_reducible (refine wpAny_holding ?_))
 refine z9 (wpAny_specialOf T slot_dict_contains.lookup ?_);show wpAny _ _ (if(some (Value.builtin "dict.__contains__")==some Value.none)=true then _ else _) _ _ _;rw[BJ (by rw[beq_builtin_none];decide)];refine z9 (wpAny_callSpecialUnlessNone?_slot (name:=Str.ofString "__contains__") T slot_dict_contains (y9 slot_dict_contains T entry_dict_contains ?_ (args_dict_contains _ _)));show wpAny _ _ (dictGet d (.str x tx) >>= _) _ _ _;refine z9 (qt ho hd hall ?_);cases hv:(es.toList.find? fun e=>e.key.isStr x).map (·.val)with
 |some v =>rw[hv]at h;show wpAny _ _ (ret (.bool true)) _ _ _;exact Zk ⟨_,rfl,ZZ (Zk h)⟩
 |none =>rw[hv]at h;show wpAny _ _ (Builtin.Dict.pendingKey? d (.str x tx) >>= _) _ _ _;exact z9 (wpAny_pendingKey_other sy (Zk ⟨_,rfl,ZZ (Zk h)⟩))
theorem vT{Q:Value->Shared->Prop}{v:Value}(ex:o.ExactDict)(ho:s.heap.get? d=some o)(hd:o.data=.dict es ep)(hall:(es.all fun e=>isExactStrKey e.key)=true)(hv:(es.toList.find? fun e=>e.key.isStr x).map (·.val)=some v)(h:Q v { s with toks:=s.toks+1 }):wpAny (model prog w) A (getItem (.ref d) (.str x tx)) Q E s:=by
 have T:s.TypeIs (.ref d) "dict":=⟨o,ho,ex.1⟩
 unfold getItem;(try with_reducible (refine wpAny_holding ?_))
 refine z9 (wpAny_sequenceKey T (by decide) (z9 (ZY (name:=Str.ofString "__getitem__") T slot_dict_getitem (y9 slot_dict_getitem T entry_dict_getitem ?_ (args_dict_getitem _ _)))));show wpAny _ _ (dictGet d (.str x tx) >>= _) _ _ _;refine z9 (qt ho hd hall ?_);rw[hv];exact Zk ⟨v,rfl,Zk h⟩
end
section
variable{X:Cx}
def zC(K:PySem.W.Frag):R2:=fun x y H Q=>∃a k D,x=.str k/\y=.ref a/\Tab K a D/\Q (.bl (KTD.datumAt k D).isSome) H
theorem xi:QOp X (compareOp .In) (zC X.K):=by
 refine⟨?_⟩;intro pins s σ H x y v u Q I rx ry h;obtain⟨a,k,D,rfl,rfl,T,q⟩:=h;obtain⟨t,rfl⟩:=rx;cases ry;obtain⟨sy,o,es,ep,ho,ex,hd,hr⟩:=T.at I.kIn;refine zY sy ex ho hd (by obtain⟨l⟩:=es;simpa using hr.exact) ⟨.bl (KTD.datumAt k D).isSome,H,I.tok _,?_,q⟩;cases e:KTD.datumAt k D with
 |none=>rw[hr.find_none e];rfl
 |some d=>obtain⟨v,hv,_⟩:=hr.find_some e;rw[hv];rfl
def zE(K:PySem.W.Frag):R2:=fun x y H Q=>∃a k D d,x=.ref a/\y=.str k/\Tab K a D/\KTD.datumAt k D=some d/\(match d with|.flat v=>Q v H|.tup xs=>∀t,(∀H',SqT K H' t xs)->Q (.ref t) H)
theorem AH:QIx X (zE X.K):=by
 refine⟨?_⟩;intro value slice pins s σ H x y v u Q I rx ry h hs;obtain⟨a,k,D,d,rfl,rfl,T,hk,q⟩:=h;obtain⟨t,rfl⟩:=ry;cases rx;obtain⟨sy,o,es,ep,ho,ex,hd,hr⟩:=T.at I.kIn;obtain⟨v,hv,ok⟩:=hr.find_some hk;have fin:EP X pins σ Q v { s with toks:=s.toks+1 }:=by
  cases d with
  |flat z=>exact⟨z,H,I.tok _,ok,q⟩
  |tup xs =>obtain⟨t,rfl,e⟩:=ok;exact⟨.ref t,H,I.tok _,rfl,q t e⟩
 exact subscriptTail_builtinR (x:=v) (⟨o,ho,ex.1⟩:s.TypeIs (.ref a) "dict") slot_dict_getitem.lookup (vT (Q:=fun r s'=>r=v/\EP X pins σ Q r s') ex ho hd (by obtain⟨l⟩:=es;simpa using hr.exact) hv ⟨rfl,fin⟩) hs
theorem fj{x:Str}{a:Addr}{pos:Pos}(hm:X.mg x=some (.ref a))(hg:Gl X x:=by rfl)(hd:(x==("__debug__":Str))=false:=by decide):QE X (.Name x pos) (tC (.ref a)):=⟨lT hg hm rfl hd⟩
end
open PySem PySem.Spec PyProof.Rows PySem.W
def CXr(P:Program)(w:World):CXT:=fun outer H s E e s' =>
 ∃(ea t:Addr) (C:Value) (vs:List Value) (B:Heap) (H':Hp) (dc:Option Addr),e=.ref ea/\s'.os=s.os/\AllBare s'.gens/\Un (frs outer) [] H H' s.heap s'.heap/\HOk P w H' s'.heap /\
  Heap.FlyingW B outer ea C (.ref t) s'.heap/\s'.heap.TupAt t vs/\B.get? t=none/\(∀b o,b∉frs outer->((∃u,H' b=some u)\/∃o0,s.heap.get? b=some o0)->s'.heap.get? b=some o->B.get? b=some o)/\cI s'.heap ea dc/\E C dc H'
structure ExCls(K:PySem.W.Frag)(C:Addr):Prop where
 cls:∀h,K.In h->∃nm q N bs bm hdct sn sub ab col dd k0 k1 k2 k3 k5 mN,h.get? C=some (excClassObj nm q C N bs bm hdct sn sub ab col dd k0 k1 k2 k3 k5 "ValueError.__new__")/\h.Ns N mN/\mN "__init__" = none/\bm.contains (.type "BaseException")=true /\
  OwnTail h [.type "ValueError",.type "Exception",.type "BaseException",.type "object"] bm
def sk(X:Cx)(EC:Value->Hp->Prop):Prop:=∀(pins:List (Addr×Obj)) (σ:St) (H1:Hp) (s1:Shared) (h2:Heap) (e:Addr) (C:Value) (vs:List Value),Inv X pins σ H1 s1->Heap.MadeExcOf s1.heap h2 e C vs->EC C H1->X.xe (.ref e) { s1 with heap:=h2 }
section
variable{X:Cx}{EC:Value->Hp->Prop}{C:Addr}{x:Str}{np cpos pos:Pos}{e:Expr}{es:List Expr}{ta:TA}
theorem gW(hR:sk X EC)(hc:X.calm=true)(cl:ExCls X.K C)(hm:X.mg x=some (.ref C))(ha:QA X (e::es) ta)(hg:Gl X x:=by rfl)(hs:(e::es).all aP=true:=by rfl)(hdb:(x==("__debug__":Str))=false:=by decide) :
  QS X (.Raise (some (.Call (.Name x np) (e::es) [] cpos)) none pos) (fun _ σ H=>ta σ H fun vs H1=>vs.length<=sizeLine/\EC (.ref C) H1):=by
 refine⟨?_⟩;intro pins s σ H D I h;obtain⟨nm,q,N,bs,bm,hdct,sn,sub,ab,col,dd,k0,k1,k2,k3,k5,mN,hC,hN,hni,hb,T⟩:=cl.cls X.base I.ok.mod.kin;have hs1:aP e=true:=by have:=Zx.mp hs e (by simp);exact this
 have he:=aT (es:=es) (env:=X.env) hs1;have hpl:(backTo cpos (starEach es X.env)).any (·.1)=false:=bX (by
  rw[Zx];intro y hy;exact Zx.mp hs y (Zt _ hy))
 refine wpAny_Raise_call_subT (nm:=nm) (q:=q) (C:=C) (N:=N) (bs:=bs) (hdct:=hdct) (sn:=sn) (sub:=sub) (ab:=ab) (col:=col) (dd:=dd) (k0:=k0) (k1:=k1) (k2:=k2) (k3:=k3) (k5:=k5) PySem.F.excBase_ValueError hb (I.ok.hd hc) ?_ hni (fJ I hg hm ⟨rfl,?_⟩ hdb)
 ·rw[he];show(false ||(backTo cpos (starEach es X.env)).any (·.1))=false;rw[hpl];rfl
 ·have hA:=ha.h cpos pins s σ H _ I h;rw[he]at hA ⊢;refine Calls.evalArgs_plain (thn hA fun us s1 ⟨vs,H1,I1,r1,hz,hE⟩=>⟨rfl,by rw[<-r1.length];exact hz,I1.bk _ _ hC,hN.keeps I1.bk,T.keeps I1.bk,fun h' ea hm=>hR pins σ H1 s1 h' ea _ _ I1 hm hE⟩)
end
open PySem PySem.Spec PyProof.Rows PySem.W
theorem Fun.okX{P:Program}{w:World}{K:PySem.W.Frag}{mg:Str->Option Value}{base:Heap}{x qual:Str}{st:Stmt}{f:Addr}{fd:FuncData}{N ps:List Str}{k:Nat}{sp:Sp}(F:Fun K x qual st f fd)(S:FnScope N ps (au st))(len:∀ vs H Q E,sp vs H Q E->vs.length=ps.length)(hb:∀ (cdv:Value) (A:Around) (outer:List Env) (s:Shared) (H:Hp) (vs:List V) (Q:VK) (E:XK),Room k (A.deeper (envOfC qual (au st) s.heap.objs.size f cdv))->sp vs H Q E ->
   ∃ t,QB (dO (CXr P w) P w K mg base N qual (au st) f cdv A outer s H E) (bR st) t/\t { nx:=fun _ H'=>Q .non H',rt:=Q } (dR N vs) H):FnOk P w K mg base (CXr P w) (k+1) f fd ps sp:=by
 obtain⟨oc,od,kV,doc,pm,an,cdv,ct,osl,rfl,lk,hcd⟩:=F.ex;exact wm lk hcd S len fun A outer s H vs Q E hr hsp=>let⟨t,h,q⟩:=hb cdv A outer s H vs Q E hr hsp;⟨t,h.h,q⟩
structure FnX(P:Program)(w:World)(K:PySem.W.Frag)(mg:Str->Option Value)(base:Heap)(k:Nat)(x:Str)(ps:List Str)(sp:Sp):Prop where
 ex:∃f fd,FnOk P w K mg base (CXr P w) k f fd ps sp/\mg x=some (.ref f)/\PySem.W.keepIn K (.ref f)=true/\Binds K fd ps []
def XP(X:Cx)(pins:List (Addr×Obj))(σ:St)(E:XK)(e:Value)(s':Shared):Prop:=∃s0 H0,Inv X pins σ H0 s0/\CXr X.prog X.w X.stack H0 s0 E e s'
abbrev TX:=St->Hp->VK->XK->Prop
structure QX(X:Cx)(e:Expr)(t:TX):Prop where
 h:∀(pins:List (Addr×Obj)) (s:Shared) (σ:St) (H:Hp) (Q:VK) (E:XK),Inv X pins σ H s->t σ H Q E->wpAny (model X.prog X.w) X.A (eval e X.env) (EP X pins σ Q) (XP X pins σ E) s
def zR(sp:Sp)(t:TA):TX:=fun σ H Q E=>t σ H fun vs H1=>sp vs H1 Q E
section
variable{X:Cx}{k:Nat}{x:Str}{p pos:Pos}{e:Expr}{es:List Expr}{ps:List Str}{sp:Sp}{t:TA}
theorem ut(F:FnX X.prog X.w X.K X.mg X.base k x ps sp)(hr:Room k X.A)(ha:QA X.nox (e::es) t)(hg:Gl X x:=by rfl)(hdb:(x==("__debug__":Str))=false:=by decide)(he:starEach (e::es) X.env=(false,eval e X.env)::starEach es X.env:=by rfl)(hpl:(backTo pos (starEach es X.env)).any (·.1)=false:=by rfl) :
  QX X (.Call (.Name x p) (e::es) [] pos) (zR sp t):=by
 refine⟨?_⟩;intro pins s σ H Q E I h;obtain⟨f,fd,G,m,kp,b⟩:=F.ex;refine wpAny_Call_Name_kw (fJ I hg m ?_ hdb);refine PySem.W.callWith_K (h₀:=X.base) I.ok.mod.kin kp (ZS (ha.h pos pins s σ H _ (I.wish _) h) (fun us s1 ⟨vs,H1,I1,r,q⟩=>⟨I1.kIn,?_⟩) (fun _ _ z=>False.elim z)) he hpl;have I2:=I1.unwish;have hb:=b s1 us I2.kIn (by rw[List.append_nil,<-r.length];exact G.len _ _ _ _ q);rw[List.append_nil]at hb;refine wpAny_call (codeAny_mono (G.run X.A X.stack s1 H1 ⟨us,[]⟩ us vs Q E hr I2.env0 hb r q) fun r s' hq=>?_);cases r with
 |error e=>exact⟨s1,H1,I2,hq⟩
 |ok fl =>
  cases fl with
  |ret u=>exact I2.after hq
  |next=>exact False.elim hq
  |brk=>exact False.elim hq
  |cont=>exact False.elim hq
end
abbrev TSX:=Ends->St->Hp->XK->Prop
structure QSX(X:Cx)(st:Stmt)(t:TSX):Prop where
 h:∀(pins:List (Addr×Obj)) (s:Shared) (σ:St) (H:Hp) (D:Ends) (E:XK),Inv X pins σ H s->t D σ H E->wpAny (model X.prog X.w) X.A (exec st X.env) (SP X pins D) (XP X pins σ E) s
section
variable{X:Cx}{e:Expr}{tx:TX}{pos pos':Pos}{x:Str}
theorem zO{i:Nat}(hN:X.N.Nodup)(he:QX X e tx)(hi:X.N[i]?=some x:=by rfl)(hx:Loc X.env.scope x:=by first|exact Or.inl rfl|exact Or.inr rfl)(hs:swapsWith e (some (.Name x pos')) pos.line X.env=pure false:=by rfl)(hf:X.fn x=true\/X.env.scope.names.lookup x=some .local:=by first|exact .inl rfl|exact .inr rfl):QSX X (.Assign [.Name x pos'] e pos) (fun D σ H E=>tx σ H (fun v H1=>D.nx (σ.set i (some v)) H1) E):=by refine⟨?_⟩;intro pins s σ H D E I h;exact wpAny_Assign_Name (thn (he.h pins s σ H _ E I h) fun v s1 ⟨y,H1,I1,r1,q1⟩=>fX I1 hN hi hx r1 (fun s2 I2=>⟨_,H1,I2,q1⟩) hf) hs
theorem xP(he:QX X e tx)(hs:swapsWith e none pos.line X.env=pure false:=by rfl):QSX X (.Expr e pos) (fun D σ H E=>tx σ H (fun _ H1=>D.nx σ H1) E):=by refine⟨?_⟩;intro pins s σ H D E I h;exact wpAny_Expr_any (thn (he.h pins s σ H _ E I h) fun v s1 ⟨y,H1,I1,r1,q1⟩=>⟨σ,H1,I1,q1⟩) I.quiet hs
end
structure Fl(X:Cx)(H0 H':Hp)(s0 s':Shared)(B:Heap):Prop where
 os:s'.os=s0.os
 bare:AllBare s'.gens
 un:Un (frs X.stack) [] H0 H' s0.heap s'.heap
 hok:HOk X.prog X.w H' s'.heap
 kb:∀b o,b∉frs X.stack->((∃u,H' b=some u)\/∃o0,s0.heap.get? b=some o0)->s'.heap.get? b=some o->B.get? b=some o
section
variable{X:Cx}{pins:List (Addr×Obj)}{σ:St}{H0 H':Hp}{s0 s':Shared}{B h':Heap}
theorem Fl.inv(F:Fl X H0 H' s0 s' B)(I:Inv X pins σ H0 s0):Inv X pins σ H' s':=I.call' F.os F.un F.hok F.bare fun _ z=>nomatch z
theorem Fl.nf(F:Fl X H0 H' s0 s' B)(I:Inv X pins σ H0 s0){b:Addr}{u:HO}(h:H' b=some u):b∉frs X.stack:=fun hm=>by have:=(F.inv I).stkFree b hm;rw[h]at this;cases this
theorem Fl.move{tk:Nat}(F:Fl X H0 H' s0 s' B)(I:Inv X pins σ H0 s0)(st:B.StaysIn h')(up:s'.heap.UpToSlots h'):Fl X H0 H' s0 { s' with heap:=h',toks:=tk } B:=by
 have kp:∀b o,b∉frs X.stack->((∃u,H' b=some u)\/∃o0,s0.heap.get? b=some o0)->s'.heap.get? b=some o->h'.get? b=some o:=fun b o h1 h2 h3=>st b o (F.kb b o h1 h2 h3);have sl:∀b o,b∈frs X.stack->s'.heap.get? b=some o->∃sl,h'.get? b=some { o with slots:=sl }:=fun b o hm q=>by obtain⟨_,o',ho',hd⟩:=(F.inv I).stack.mem hm;have e:s'.heap.get? b=some o':=ho';rw[q]at e;cases e;exact up b o q hd
 refine⟨F.os,F.bare,⟨fun b o q n hb hx=>kp b o hb (.inr ⟨o,q⟩) (F.un.keep b o q n hb hx),fun b o q n hb hx=>?_,F.un.free,fun b o q hx=>?_,F.un.tups,F.un.frzs,F.un.tbls⟩,fun b u q=>?_,fun b o hb ho q=>?_⟩
 ·obtain⟨s1,e1⟩:=F.un.slot b o q n hb hx;obtain⟨s2,e2⟩:=sl b _ hb e1;exact⟨s2,e2⟩
 ·obtain⟨o',e1⟩:=F.un.there b o q hx;by_cases hb:b∈frs X.stack
  ·obtain⟨s2,e2⟩:=sl b o' hb e1;exact⟨_,e2⟩
  ·exact⟨o',kp b o' hb (.inr ⟨o,q⟩) e1⟩
 ·refine(F.hok b u q).stay (fun c v hc z=>kp c v ?_ ?_ z) (fun _ z=>z) fun _ _ z=>z
  ·rcases hc with z'|z'
   ·rw[z'];exact F.nf I q
   ·exact F.nf I z'
  ·rcases hc with z'|z'
   ·rw[z'];exact .inl ⟨u,q⟩
   ·exact .inl ⟨_,z'⟩
 ·obtain⟨o1,q1⟩:∃o1,s'.heap.get? b=some o1:=by
   rcases ho with⟨u,z⟩|⟨o0,z⟩
   ·exact ir (F.hok b u z)
   ·exact F.un.there b o0 z (by simp)
  have q2:=kp b o1 hb ho q1;have q':h'.get? b=some o:=q;rw[q']at q2;cases q2;exact F.kb b o hb ho q1
end
structure ExC(K:PySem.W.Frag)(C:Addr)(bm:List Value):Prop where
 cls:∀h,K.In h->∃nm q N bs hdct sn sub ab col dd k0 k1 k2 k3 k5 ni,h.get? C=some (excClassObj nm q C N bs bm hdct sn sub ab col dd k0 k1 k2 k3 k5 ni)
 exc:bm.contains (.type "BaseException")=true
theorem jG{M:Model}{A:Around}{E:Value->Shared->Prop}{s:Shared}{e C T:Addr}{oe:Obj}{bmC bmT:List Value}{K:PySem.W.Frag}{Q:Bool->Shared->Prop}(hC:ExC K C bmC)(hT:ExC K T bmT)(hk:K.In s.heap)(he:s.heap.get? e=some oe)(hcls:oe.cls=.ref C)(hq:Q ((Value.ref C::bmC).contains (.ref T)) s):wpAny M A (excMatches (.ref e) (.ref T)) Q E s:=by
 obtain⟨nm,q,N,bs,hdct,sn,sub,ab,col,dd,k0,k1,k2,k3,k5,ni,oC⟩:=hC.cls _ hk;obtain⟨nm',q',N',bs',hdct',sn',sub',ab',col',dd',k0',k1',k2',k3',k5',ni',oT⟩:=hT.cls _ hk;obtain⟨hp,g,d,tk,os⟩:=s;have hcB:(Value.ref T::bmT).contains (.type "BaseException")=true:=by rw[List.contains_cons,hT.exc,Bool.or_true]
 have f:=tc_notTuple;unfold excMatches;generalize hr:(Value.ref C::bmC).contains (Value.ref T)=r at hq
 repeat(first|(with_reducible refine wpAny_loadPart_at he ?_;rw[hcls])|with_reducible refine wpAny_loadPart_at oT ?_|(with_reducible refine wpAny_isSubtype_exc oT ?_;rw[hcB])|(with_reducible refine wpAny_isSubtype_exc oC ?_;rw[hr])|wp_step)
 cases r<;>(first|exact hq|(wp_walk;exact hq))
theorem gj{X:Cx}{pins:List (Addr×Obj)}{σ:St}{H:Hp}{s:Shared}{M:Model}{A:Around}{E:Value->Shared->Prop}{i:Nat}{n:Str}{pos:Pos}{Q:Unit->Shared->Prop}(I:Inv X pins σ H s)(hN:X.N.Nodup)(hi:X.N[i]?=some n)(hl:X.env.kindOf n=some .local)(h:∀s',Inv X pins (σ.set i none) H s'->Q () s'):wpAny M A (do bindName X.env n .none;unbindBehindTheSuite X.env n pos) Q E s:=by
 obtain⟨m,hn,hv⟩:=id I.loc;refine wpAny_nameGoes_keeps hl hn (by rw[I.ok.kind];rfl) fun h' v hn' hs=>h _ ?_;obtain⟨oL,_,_,hoL,_⟩:=id hn;have cne:=I.cne;have lt:∀b o,X.s₀.heap.get? b=some o->b≠X.env.locals:=fun b o q=>ZG (Zm (Zl q) I.ok.above);refine⟨I.ok,I.os,I.bare,⟨fun b o e n hb hx=>(hs.2 b (lt b o e)).trans (I.base.keep b o e n hb hx),fun b o e n hb hx=>?_,I.base.free,fun b o e hx=>?_,I.base.tups,I.base.frzs,I.base.tbls⟩,⟨_,hn',fun j y v' e1 e2 e3=>?_⟩,fun y c e=>?_,I.free,I.freeC,fun p hp=>?_,fun b u q=>?_,by simpa using I.len⟩
 ·obtain⟨sl,e1⟩:=I.base.slot b o e n hb hx;exact⟨sl,(hs.2 b (lt b o e)).trans e1⟩
 ·obtain⟨o',e1⟩:=I.base.there b o e hx;exact⟨o',(hs.2 b (lt b o e)).trans e1⟩
 ·have hj:j≠i:=fun z=>by
   subst z;have hz:j<σ.length:=by have:=(Zf.mp e2).1;simpa using this
   rw[ZI hz]at e2;cases e2
  rw[Z1 (Z0 hj)]at e2;obtain⟨u',r',q⟩:=hv j y v' e1 e2 e3;refine⟨u',r',?_⟩;rcases q with⟨k,e⟩|⟨k,c,e,z⟩
  ·refine .inl ⟨k,?_⟩;have:y≠n:=fun e=>hj (jU hN e1 (e▸hi));simp[this,e]
  ·exact .inr ⟨k,c,e,z.sameBut hs (cne y c e)⟩
 ·obtain⟨w',z⟩:=I.cell y c e;exact⟨w',z.sameBut hs (cne y c e)⟩
 ·obtain⟨e,n,ne,nf,d⟩:=I.pin p hp;exact⟨(hs.2 p.1 ne).trans e,n,ne,nf,d⟩
 ·refine(I.hok b u q).stay (fun c w' hc z=>(hs.2 c ?_).trans z) (fun _ z=>z) fun _ _ z=>z;rintro rfl;rcases hc with z'|z'
  ·rw[<-z',I.free]at q;cases q
  ·rw[I.free]at z';cases z'
def Cx.exc(X:Cx)(e:Value):Cx:={ X with A:=X.A.mark (some e),calm:=false,xe:=fun _ _=>False }
section
variable{X:Cx}{pins:List (Addr×Obj)}{σ:St}{H:Hp}{s:Shared}{e:Value}
theorem Inv.exc(I:Inv X pins σ H s)(e:Value):Inv (X.exc e) pins σ H s :=
 ⟨⟨I.ok.mod,I.ok.kind,I.ok.glob,I.ok.blt,I.ok.above,I.ok.inj,I.ok.has,I.ok.cab,fun z=>(nomatch z),I.ok.frames,I.ok.stk,I.ok.exf,I.ok.bs,I.ok.bsz,I.ok.noex,I.ok.exfs,I.ok.funs,I.ok.frf⟩,I.os,I.bare,I.base,I.loc,I.cell,I.free,I.freeC,I.pin,I.hok,I.len⟩
theorem Inv.unexc(ok:X.Ok)(I:Inv (X.exc e) pins σ H s):Inv X pins σ H s:=⟨ok,I.os,I.bare,I.base,I.loc,I.cell,I.free,I.freeC,I.pin,I.hok,I.len⟩
end
abbrev TH:=Ends->St->Value->Option Addr->Hp->Prop
structure QH(X:Cx)(hs:List ExceptHandler)(th:TH):Prop where
 h:∀(pins:List (Addr×Obj)) (s0:Shared) (H0:Hp) (σ:St) (D:Ends) (ea t:Addr) (C:Value) (B:Heap) (H':Hp) (dc:Option Addr) (s':Shared),Inv X pins σ H0 s0->Fl X H0 H' s0 s' B->Heap.FlyingW B X.stack ea C (.ref t) s'.heap->cI s'.heap ea dc->th D σ C dc H' ->
  wpAny (model X.prog X.w) X.A (handleBy (.ref ea) X.env hs) (SP X pins D) X.xe s'
section
variable{X:Cx}
def Ba(tb:TSX)(th:TH):TS:=fun D σ H=>tb D σ H fun C dc H1=>th D σ C dc H1
theorem tR{st:Stmt}{tb:TSX}{th:TH}{h0:ExceptHandler}{hs:List ExceptHandler}{pos:Pos}(hst:X.stack=X.env::X.outer)(hfr:X.env.frame=some X.env.locals)(hb:QSX X st tb)(hh:QH X (h0::hs) th) :
  QS X (.Try [st] (h0::hs) [] [] pos) (Ba tb th):=by
 refine⟨?_⟩;intro pins s σ H D I h;refine wpAny_Try_except (wpAny_execs_cons (ZS (hb.h pins s σ H D _ I h) (fun f s1 q=>?_) (fun e s1 x=>?_)))
 ·cases f with
  |next=>exact wpAny_execs_nil (wpAny_execs_nil q)
  |brk=>exact q
  |cont=>exact q
  |ret v=>exact q
 ·obtain⟨s0,H0,I0,ea,t,C,vs,B,H',dc,rfl,os,bare,un,hok,fly,tup,hBt,kb,dd,q⟩:=x;have F:Fl X H0 H' s0 s1 B:=⟨os,bare,un,hok,kb⟩
  have fr:X.A.frames=some (X.env::X.outer):=by rw[<-hst];exact I.ok.frames
  rw[hst]at fly;refine ip fr hfr fly dd fun h4 held up4 dd4=>?_;obtain⟨f1,f2,f3,f4⟩:=held;refine fw f1 f3 f4 dd4 fun h5 k1 k2 k3 up5 dd5=>?_;have F5:=(F.move (tk:=s1.toks) I0 k1 (up4.trans up5))
  rw[<-hst]at k2;exact hh.h pins s0 H0 σ D ea t C B H' dc _ I0 F5 ⟨k1,f2,k2,k3⟩ dd5 q
end
open PySem PySem.Spec PyProof.Rows PySem.W
abbrev VE:List Value:=[.type "ValueError",.type "Exception",.type "BaseException",.type "object"]
structure ExcAt(K:PySem.W.Frag)(C:Addr)(bm:List Value):Prop where
 isIn:excIn K C VE "ValueError.__new__" = true
 mro:∃c d cd sl,K.lookup C=some ⟨c,d,.cls cd,sl⟩/\cd.mro=Value.ref C::bm
 exc:bm.contains (.type "BaseException")=true
theorem mz{K:PySem.W.Frag}{C:Addr}{bm:List Value}(q:ExcAt K C bm){h:Heap}(X:K.In h) :
  ∃nm qn N bs hdct sn sub ab col dd k0 k1 k2 k3 k5 mN,h.get? C=some (excClassObj nm qn C N bs bm hdct sn sub ab col dd k0 k1 k2 k3 k5 "ValueError.__new__")/\h.Ns N mN/\mN "__init__" = none/\OwnTail h VE bm:=by
 have q1:=q.isIn;obtain⟨c9,d9,cd9,sl9,l9,m9⟩:=q.mro;unfold excIn at q1;split at q1
 ·rename_i dd cd sl ho;split at q1
  ·rename_i C' bm' k0 k1 k2 k3 n k5 hm hs;have q2:cd.mro=Value.ref C::bm:=by have z:=ho.symm.trans l9;cases z;exact m9
   rw[hm]at q2;injection q2 with z1 z2;injection z1 with z1;cases z1;cases z2;simp only[Zy,beq_iff_eq,Bool.not_eq_true']at q1;obtain⟨⟨⟨⟨⟨_,rfl⟩,nd⟩,ht⟩,ok⟩,ni⟩:=q1;have es:sl=#[k0,k1,k2,k3,some (.builtin "ValueError.__new__"),k5]:=by obtain⟨l⟩:=sl;simp only at hs;rw[hs]
   cases es;obtain⟨nm,bs,mro,ns,qn,hd,sn,sub,ab,col,del⟩:=cd;dsimp only at hm nd ok ni;cases hm;cases nd;exact⟨nm,qn,ns,bs,hd,sn,sub,ab,col,dd,k0,k1,k2,k3,k5,_,X _ _ ho,.of_isNs (isNs_of_in X ok),nsMap_none_of_in X ok ni,tail_of_in X ht⟩
  ·cases q1
 ·cases q1
theorem kI{K:PySem.W.Frag}{C:Addr}{bm:List Value}(q:ExcAt K C bm):ExC K C bm where
 cls:=fun h X=>by obtain⟨nm,qn,N,bs,hdct,sn,sub,ab,col,dd,k0,k1,k2,k3,k5,mN,e,_⟩:=mz q X;exact⟨nm,qn,N,bs,hdct,sn,sub,ab,col,dd,k0,k1,k2,k3,k5,_,e⟩
 exc:=q.exc
theorem ii{K:PySem.W.Frag}{C:Addr}{bm:List Value}(q:ExcAt K C bm):ExCls K C where
 cls:=fun h X=>by obtain⟨nm,qn,N,bs,hdct,sn,sub,ab,col,dd,k0,k1,k2,k3,k5,mN,e,e2,e3,e4⟩:=mz q X;exact⟨nm,qn,N,bs,bm,hdct,sn,sub,ab,col,dd,k0,k1,k2,k3,k5,mN,e,e2,e3,(kI q).exc,e4⟩
theorem kC:bootBuiltins "ValueError" = some (.type "ValueError"):=by decide +kernel
structure ExK(K:PySem.W.Frag)(c:Addr):Prop where
 hc:(clsIn K c).isSome=true
 hga:findIn K (.ref c) "__getattribute__" = some (some (.builtin "BaseException.__getattribute__"))
 hgh:findIn K (.ref c) "__getattr__" = some none
 ha:findIn K (.ref c) "__class__" = some (some (.builtin "object.__class__"))
 hb:mroIn K c (.type "BaseException")=some true
 hm:mroIn K c (.type "object")=some true
open PySem PySem.Spec PyProof.Rows PySem.W
def ag(i:Int):Str:=Str.ofString (toString i)
theorem nQ:∀(f k n:Nat) (ds:List Char),n<10^(k+1)->(Nat.toDigitsCore 10 f n ds).length<=k+1+ds.length
 |0,k,n,ds,_=>by unfold Nat.toDigitsCore;omega
 |f+1,k,n,ds,h=>by
  unfold Nat.toDigitsCore;dsimp only;split
  ·rw[Zq];omega
  ·rename_i hz;cases k with
   |zero =>have:n / 10=0:=Nat.div_eq_of_lt (by simpa using h);exact absurd this hz
   |succ k =>
    have h':n / 10<10^(k+1):=by rw[Nat.div_lt_iff_lt_mul (by decide)];rw[Nat.pow_succ]at h;exact h
    have:=nQ f k (n / 10) (Nat.digitChar (n%10)::ds) h';rw[Zq]at this;omega
theorem uW{i:Int}{k:Nat}(h:i.natAbs<10^(k+1)):(ag i).length<=k+2:=by
 unfold ag;rw[ofString_len];have nat:∀n:Nat,n<10^(k+1)->(Nat.repr n).length<=k+1:=fun n hn=>by unfold Nat.repr;rw[String.length_ofList];have:=nQ (n+1) k n [] hn;exact this
 cases i with
 |ofNat n =>have:=nat n h;show(Nat.repr n).length<=_;omega
 |negSucc n =>have:=nat (n+1) h;show("-"++Nat.repr (n+1)).length<=_;rw[String.length_append];have:("-":String).length=1:=rfl;omega
section
variable{X:Cx}{K:PySem.W.Frag}
theorem fE(hK:X.K=K)(hc:X.calm=true)(dg:nsIn K cStatics "sys.int_max_str_digits" = some none):QCall X (.type "str") (fun xs H Q=>∃i:Int,xs=[.int i]/\i.natAbs<10^4300/\Q (.str (ag i)) H):=by refine⟨?_⟩;subst hK;intro pins s σ H xs us Q I r h;obtain⟨i,rfl,hi,q⟩:=h;obtain⟨u,rfl,rx⟩:=cW r;obtain⟨t,rfl⟩:=rx;obtain⟨mc,hn,_⟩:=I.nolimit;exact str_of_int_or (I.ok.hd hc) ⟨mc,hn,ns_none_of I.kIn hn dg⟩ (fun _=>⟨.str (ag i),H,I.tok _,⟨_,rfl⟩,q⟩) (fun z=>absurd hi (Nat.not_lt.mpr z))
def wF(K:PySem.W.Frag):V->List V->Hp->VK->Prop:=fun x xs H Q=>∃(sep:Str) (p:Addr) (ys:List Str),x=.str sep/\xs=[.ref p]/\SqL K H p (ys.map V.str)/\(ys.map (·.length)).sum+ys.length*sep.length<=16777216/\Q (.str (Txt.join sep ys)) H
theorem qq:∀{ys:List Str} {us:List Value},Vals (ys.map V.str) us->StrsAre us ys
 | [],_,h=>by cases h;exact .nil
 |y::ys,_,h=>by
  cases h with
  |cons r1 r2 =>obtain⟨t,rfl⟩:=r1;exact .cons _ _ (qq r2)
theorem xf:MtR X "str.join" (wF X.K):=by intro pins s σ H x xs v us Q I rx r h;obtain⟨sep,p,ys,rfl,rfl,hl,hz,q⟩:=h;obtain⟨t,rfl⟩:=rx;obtain⟨u,rfl,ru⟩:=cW r;cases ru;obtain⟨its,rv,pl,_⟩:=I.list hl;exact join_list pl.isList (by simpa using qq rv) hz fun t' k=>⟨.str _,H,I.tok _,⟨_,rfl⟩,q⟩
theorem bY{o e:Expr}{to te:TE}{apos cpos:Pos}(ho:QE X o to)(he:QE X e te)(hs:aP e=true:=by rfl)(hbase:attributeBase o "join" X.env (eval o X.env)=eval o X.env:=by rfl)(hline:(apos.endLine==cpos.line)=true:=by rfl) :
  QE X (.Call (.Attribute o "join" apos) [e] [] cpos) (tBM X.K "str" (wF X.K) to (dS te iJ)):=by
 have h1:=aT (es:=[]) (env:=X.env) hs;have h2:starEach ([]:List Expr) X.env=[]:=rfl;refine⟨kR y3 PySem.F.slot_str_join PySem.F.type_str_join xf ho.h (dL he.h fR (hs:=h1)) (hbase:=hbase) (hfew:=?_) (hline:=hline) (hs:=h1) (hplain:=by rw[h2];rfl)⟩;rw[h1,h2];rfl
theorem eZ:QIx X zD:=⟨yu⟩
theorem bI:QOp X (binaryOp .Add) (fun x y H Q=>∃i j,x=.str i/\y=.str j/\i.length+j.length<=sizeLine/\Q (.str (i++j)) H):=⟨rg⟩
theorem wx:QOp X (compareOp .In) (fun x y H Q=>∃i j,x=.str i/\y=.str j/\Q (.bl (!(Builtin.Str.occurrences j i 0 j.length 1).isEmpty)) H):=by refine⟨?_⟩;intro pins s σ H x y v u Q I rx ry h;obtain⟨i,j,rfl,rfl,q⟩:=h;obtain⟨t,rfl⟩:=rx;obtain⟨t',rfl⟩:=ry;exact in_str ⟨.bl _,H,I,rfl,q⟩
end
theorem jP{J:It}{N n:Nat}{cap:List Nat}{g:TG}{te:TE}{σ:St}{H0:Hp}{Q:VK}(Pv:Nat->List V->Hp->Prop)(hz:N<=1000)(hn:∀i ys H,Pv i ys H->ys.length=i)(h0:Pv 0 [] H0)(hgo:∀i ys H,i<N->Pv i ys H->J.go i H)(hst:∀ys H,Pv N ys H->J.stop N H)(ht:∀i ys H x H',i<N->Pv i ys H->J.yld i H x H'->∀A:VK,(∀v H4,Pv (i+1) (ys++[v]) H4->A v H4)->g x (bg n cap σ) H' fun σ2 H2=>te σ2 H2 A)(hq:∀ys p H,Pv N ys H->H p=none->Q (.ref p) (upd H p (.lst ys))):cN n cap g dU te σ J H0 Q:=by
 refine⟨fun i m ys H=>m=N-i/\i<=N/\Pv i ys H,⟨N,by simp,Yi _,h0⟩,?_⟩;rintro i m ys H ⟨rfl,hi,pv⟩;by_cases hlt:i<N
 ·refine .inr ⟨hgo i ys H hlt pv,by rw[hn i ys H pv];exact gC (by omega),fun x H' y=>?_⟩;have k:=ht i ys H x H' hlt pv y (fun v H4=>∃m',m'<N-i/\m'=N-(i+1)/\i+1<=N/\Pv (i+1) (ys++[v]) H4) (fun v H4 z=>⟨N-(i+1),by omega,rfl,hlt,z⟩);unfold dU;simpa using k
 ·have e:i=N:=by omega
  subst e;exact .inl ⟨hst ys H pv,fun p hp=>hq ys p H pv hp⟩
open PySem PySem.Spec PyProof.Rows PySem.W
def bu(z:Str)(lo hi:Option Int):Str:=if(Builtin.Str.strSliceIndices lo hi 1 z.length).length=z.length then z else⟨((Builtin.Str.strSliceIndices lo hi 1 z.length).filterMap (z.cps[·]?)).toArray⟩
theorem dZ(z:Str)(lo hi:Option Int):(bu z lo hi).length<=z.length:=by
 unfold bu;split
 ·exact Zg _
 ·show(List.filterMap _ _).toArray.size<=_;rw[Zj];exact Zd (List.length_filterMap_le _ _) (indices_len_le _ _ _)
theorem uK{z:Str}{lo hi:Option Int}{c:Nat}(h:c∈(bu z lo hi).cps.toList):c∈z.cps.toList:=by
 unfold bu at h;split at h
 ·exact h
 ·have h':c∈(Builtin.Str.strSliceIndices lo hi 1 z.length).filterMap (z.cps[·]?):=h;obtain⟨i,_,hi⟩:=Yu.mp h';have:=Array.mem_of_getElem? hi;simpa using this
section
variable{X:Cx}{K:PySem.W.Frag}
theorem oj:QSl X (fun x lo hi H Q=>∃z:Str,x=.str z/\z.length<=1000/\Q (.str (bu z lo hi)) H):=by
 refine⟨?_⟩;intro pins s σ H x v vl vu lo hi sl Q I rx hs pl pu h;obtain⟨z,rfl,hz,q⟩:=h;obtain⟨t,rfl⟩:=rx;have pt:∀{v:Value} {o:Option Int},IsPart v o->∃p:Option (Int×Tok),v=partValue p/\p.map (·.1)=o:=fun{v o} p=>by
  cases p with
  |none=>exact⟨none,rfl,rfl⟩
  |int i t=>exact⟨some (i,t),rfl,rfl⟩
 obtain⟨l,rfl,hl⟩:=pt pl;obtain⟨u,rfl,hu⟩:=pt pu;have e:slicePicked z l u none=Builtin.Str.strSliceIndices lo hi 1 z.length:=by unfold slicePicked;rw[hl,hu];rfl
 refine⟨"str",_,F.slot_str_getitem.lookup,typeIs_str _ _ _,wpAny_getItem_str_slice (l:=l) (u:=u) (st:=none) hs rfl ?_⟩;have hy:=dZ z lo hi;unfold sliceMade;unfold bu at q hy;rw[e];split
 ·rename_i hc;have hc':(Builtin.Str.strSliceIndices lo hi 1 z.length).length=z.length:=by simpa using hc
  rw[BK hc']at q;exact⟨.str z,H,I,⟨_,rfl⟩,q⟩
 ·rename_i hc;have hc':¬(Builtin.Str.strSliceIndices lo hi 1 z.length).length=z.length:=by simpa using hc
  rw[BJ hc']at q hy;exact⟨aL (Zd hy hz),.str _,H,I.tok _,⟨_,rfl⟩,q⟩
def tL:V->List V->Hp->VK->Prop:=fun x xs H Q=>∃z:Str,x=.str z/\xs=[]/\Builtin.Str.tooLong (Txt.upper z).length=false/\Q (.str (Txt.upper z)) H
theorem vd:MtR X "str.upper" tL:=by intro pins s σ H x xs v us Q I rx r h;obtain⟨z,rfl,rfl,hz,q⟩:=h;obtain⟨t,rfl⟩:=rx;cases r;exact KXw.upper rfl hz fun t' k=>⟨.str _,H,I.tok _,⟨_,rfl⟩,q⟩
theorem xL{o:Expr}{to:TE}{apos cpos:Pos}(ho:QE X o to)(hbase:attributeBase o "upper" X.env (eval o X.env)=eval o X.env:=by rfl)(hline:(apos.endLine==cpos.line)=true:=by rfl) :
  QE X (.Call (.Attribute o "upper" apos) [] [] cpos) (zQ X.K "str" tL to):=⟨yT y3 PySem.F.slot_str_upper PySem.F.type_str_upper vd ho.h hbase hline⟩
theorem tj:QOp X (binaryOp .Mult) (fun x y H Q=>∃(z:Str) (n:Int),x=.str z/\y=.int n/\z.length=1/\1<=n/\n<=1000/\∀y:Str,y.length=n.toNat->(∀c∈y.cps.toList,c∈z.cps.toList)->Q (.str y) H):=by
 refine⟨?_⟩;intro pins s σ H x y v u Q I rx ry h;obtain⟨z,n,rfl,rfl,hz,n1,n2,q⟩:=h;obtain⟨t,rfl⟩:=rx;obtain⟨t',rfl⟩:=ry;have fl:∀(k:Nat) (acc:Array Nat),((List.replicate k z.cps).foldl (·++·) acc)=acc++(List.replicate k z.cps.toList).flatten.toArray:=fun k=>by
  induction k with
  |zero=>intro acc;simp
  |succ k ih =>intro acc;rw[List.replicate_succ,List.foldl_cons,ih,List.replicate_succ,List.flatten_cons,Array.append_assoc];congr 1;apply Array.toList_inj.mp;rw[Array.toList_append]
 have ln:∀k:Nat,((List.replicate k z.cps.toList).flatten).length=k:=fun k=>by
  have e:z.cps.toList.length=1:=hz;induction k with
  |zero=>rfl
  |succ k ih =>rw[List.replicate_succ,List.flatten_cons,Zh,ih,e];omega
 refine PySem.P.mul_str ?_ (fun _ _=>?_) (fun _ _=>?_) ?_
 ·have h1:¬n < -(2^63:Int):=by omega
  have h2:¬n>=2^63:=by omega
  rw[decide_eq_false h1,decide_eq_false h2];rfl
 ·rw[hz];have:(1:Int)<=(2^63-1) / n:=by rw[Int.le_ediv_iff_mul_le (by omega)];omega
  omega
 ·rw[hz];unfold Builtin.Str.tooLong;have:=aL (show 1*n.toNat<=1000 by omega);simp only[decide_eq_false_iff_not];omega
 ·rw[BJ (by omega)];split
  ·rename_i hc;rw[hz]at hc;have:n=1:=by simpa using hc
   subst this;exact⟨.str z,H,I,⟨_,rfl⟩,q z hz (fun c hc=>hc)⟩
  ·rw[fl];have e:((#[]:Array Nat)++(List.replicate n.toNat z.cps.toList).flatten.toArray)=(List.replicate n.toNat z.cps.toList).flatten.toArray:=by simp
   rw[e];refine⟨aL (by show(List.flatten _).toArray.size<=1000;rw[Zj,ln];omega),.str _,H,I.tok _,⟨_,rfl⟩,q _ (by show(List.flatten _).toArray.size=_;rw[Zj,ln]) (fun c hc=>?_)⟩;have hc':c∈(List.replicate n.toNat z.cps.toList).flatten:=hc;obtain⟨l,hl,hm⟩:=List.mem_flatten.mp hc';rw[(List.mem_replicate.mp hl).2]at hm;exact hm
end
open PySem PySem.Spec PyProof.Rows PySem.W
open PySem PySem.Spec PyProof.Rows PySem.W
section
variable{X:Cx}
theorem Ak{K:PySem.W.Frag}(hK:X.K=K):QOp X (compareOp .In) (rIn K false):=by subst hK;exact⟨tF⟩
end
open PySem PySem.Spec PyProof.Rows PySem.W
structure LtOk(lt:Nat->Nat->Bool):Prop where
 as:∀{a b},lt a b=true->lt b a=false
 tr:∀{a b c},lt b a=false->lt c b=false->lt c a=false
def gA(p:Array Nat)(k:Nat):Nat:=p.getD k 0
def Lx(lt:Nat->Nat->Bool)(a b:Nat):Prop:=lt b a=false/\(lt a b=true\/a<b)
section
variable{lt:Nat->Nat->Bool}(O:LtOk lt)
include O
end
structure Fx(N:Nat)(p:Array Nat)(m:Nat):Prop where
 sz:p.size=N
 hi:∀k,m<=k->k<N->gA p k=k
 lo:∀i,i<m->gA p i<m
section
variable{lt:Nat->Nat->Bool}(O:LtOk lt){N:Nat}
include O
structure Dn(lt:Nat->Nat->Bool)(p:Array Nat)(n q:Nat):Prop where
 hq:q+1<=n
 up:∀i j,i<j->j<n-(q+1)->Lx lt (gA p j) (gA p i)
 cr:∀i j,i<n-(q+1)->n-(q+1)<=j->j<n->lt (gA p j) (gA p i)=true
 eq:∀i j,n-(q+1)<=i->i<j->j<n->lt (gA p i) (gA p j)=false/\lt (gA p j) (gA p i)=false/\gA p i<gA p j
end
open PySem PySem.Spec PyProof.Rows PySem.W
open PySem PySem.Spec PyProof.Rows PySem.W
section
variable{X:Cx}{pins:List (Addr×Obj)}{σ:St}{H:Hp}{s:Shared}{h':Heap}
structure SK(X:Cx)(pins:List (Addr×Obj))(σ:St)(H1:Hp)(m:Str->Option Value)(kS D:Addr)(e1:Nat)(ks:List (List Int))(as:List Addr)(e:Nat)(H:Hp)(s:Shared):Prop where
 I:Inv X pins σ H s
 sm:Same H1 H
 fk:bF X pins H kS
 fd:bF X pins H D
 bk:X.base.get? kS=none
 bd:X.base.get? D=none
 hk:s.heap.get? kS=some (seqObj "list" (List.toArray (as.map Value.ref)) e)
 hd:s.heap.get? D=some (seqObj "list" #[] e1)
 ns:s.heap.Ns X.env.locals m
 keys:∀(i:Nat) (a:Addr) (k:List Int),as[i]?=some a->ks[i]?=some k->H a=some (.tup (k.map V.int))
end
open PySem PySem.Spec PyProof.Rows PySem.W
section
variable{X:Cx}{pins:List (Addr×Obj)}{σ:St}{H:Hp}{s:Shared}
structure ExOk(X:Cx)(b:Addr):Prop where
 old:b∈X.ex\/X.s₀.heap.get? b=none
 loc:b≠X.env.locals
 cel:∀x c,X.env.cells.lookup x=some c->c≠b
 bas:X.base.get? b=none
 fs:b∉X.fs
end
open PySem PySem.Spec PyProof.Rows PySem.W
open PySem PySem.Spec PyProof.Rows PySem.W
open PySem PySem.Spec PyProof.Rows PySem.W
open PySem PySem.Spec PyProof.Rows PySem.W
open PySem PySem.Spec PyProof.Rows PySem.W
section
variable{X:Cx}
structure QPs(X:Cx)(pos:Pos)(keys:List (Option Expr))(values:List Expr)(trs:List (TE×TE)):Prop where
 h:PPs X pos keys values trs
end
open PySem PySem.Spec PyProof.Rows PySem.W
open PySem PySem.Spec PyProof.Rows PySem.W
structure MFn(P:Program)(w:World)(K:PySem.W.Frag)(mg:Str->Option Value)(base:Heap)(k:Nat)(C:Addr)(m:Str)(ps:List Str)(sp:Sp):Prop where
 cl:Cls K C
 ex:∃f fd,FnOk P w K mg base CX0 k f fd ps sp/\Meth K C m f/\Binds K fd ps []
structure MkFn(P:Program)(w:World)(K:PySem.W.Frag)(mg:Str->Option Value)(base:Heap)(k:Nat)(C:Addr)(x:Str)(ps:List Str)(sp:Sp):Prop where
 cl:Cls K C
 mgC:mg x=some (.ref C)
 ex:∃f fd,FnOk P w K mg base CX0 k f fd ps sp/\Mk K C f/\Binds K fd ps []
open PySem PySem.Spec PyProof.Rows PySem.W
open PySem PySem.Spec PyProof.Rows PySem.W
open PySem PySem.Spec PyProof.Rows PySem.W PySem.Builtin PySem.Builtin.ObjectAttr
def tG:List Value->Bool
 |.ref _::r=>tG r
 |l=>l==VE
structure ExS(K:PySem.W.Frag)(c:Addr):Prop where
 sa:findIn K (.ref c) "__setattr__" = some (some (.builtin "object.__setattr__"))
 ov:((clsIn K c).any fun cd=>tG cd.mro&&cd.hasDict)=true
 ob:mroIn K c (.type "object")=some true
open PySem PySem.Spec PyProof.Rows PySem.W
open PySem PySem.Spec PyProof.Rows PySem.W
def yl(K:PySem.W.Frag)(C fI:Addr):Bool:=match K.lookup C with
 | some ⟨.type "type",_,.cls cd,sl⟩=>(match cd.mro,sl.toList with
  |.ref C'::bm,[_,_,_,_,some (.builtin n),_]=>C'==C&&n=="ValueError.__new__"&&!cd.hasDel&&tailIn K VE bm&&nsOkIn K cd.ns&&nsIn K cd.ns "__init__" == some (some (.ref fI))
  | _,_=>false)
 |_=>false
structure ExcAtI(K:PySem.W.Frag)(C fI:Addr)(bm:List Value):Prop where
 isIn:yl K C fI=true
 mro:∃c d cd sl,K.lookup C=some ⟨c,d,.cls cd,sl⟩/\cd.mro=Value.ref C::bm
 exc:bm.contains (.type "BaseException")=true
 fn:∃oI,K.lookup fI=some oI/\oI.cls=.type "function"
structure ExI(P:Program)(w:World)(K:PySem.W.Frag)(mg:Str->Option Value)(base:Heap)(k:Nat)(C:Addr)(bm:List Value)(ps:List Str)(sp:Sp):Prop where
 ex:∃fI fd,ExcAtI K C fI bm/\FnOk P w K mg base CX0 k fI fd ps sp/\Binds K fd ps []
open PySem PySem.Spec PyProof.Rows PySem.W
structure MFnX(P:Program)(w:World)(K:PySem.W.Frag)(mg:Str->Option Value)(base:Heap)(k:Nat)(C:Addr)(m:Str)(ps:List Str)(sp:Sp):Prop where
 cl:Cls K C
 ex:∃f fd,FnOk P w K mg base (CXr P w) k f fd ps sp/\Meth K C m f/\Binds K fd ps []
section
variable{X:Cx}{k:Nat}{C:Addr}{m x:Str}{p pos apos:Pos}{o e:Expr}{es:List Expr}{ps:List Str}{sp:Sp}{t:TA}{ta:TE}{E:XK}
theorem eU(F:FnX X.prog X.w X.K X.mg X.base k x ps sp)(hx:gJ (CXr X.prog X.w) X E)(hr:Room k X.A)(ha:QA X (e::es) t)(hg:Gl X x:=by rfl)(hs:(e::es).all aP=true:=by rfl)(hdb:(x==("__debug__":Str))=false:=by decide) :
  QE X (.Call (.Name x p) (e::es) [] pos) (lr sp [] E t):=by
 obtain⟨f,fd,G,hm,kp,b⟩:=F.ex;rw[Ya,Zy]at hs;exact⟨qc G hr hg hm kp b .nil hx ha.h hdb (aT hs.1) (bX hs.2)⟩
end
section
variable{X:Cx}
theorem Af:QH X [] (fun _ _ _ _ _=>False):=⟨fun _ _ _ _ _ _ _ _ _ _ _ _ _ _ _ _ h=>h.elim⟩
def AD(K:PySem.W.Frag)(Ch:Addr)(ts:TS)(th:TH):TH:=fun D σ C dc H'=>∃c bm,C=.ref c/\ExC K c bm/\if(Value.ref c::bm).contains (.ref Ch)=true then ts D σ H' else th D σ C dc H'
theorem A0{x:Str}{Ch:Addr}{bmh:List Value}{b0:Stmt}{suite:List Stmt}{ts:TS}{np pos:Pos}{rest:List ExceptHandler}{th:TH}(cl:ExC X.K Ch bmh)(hm:X.mg x=some (.ref Ch))(hs:∀e,QB (X.exc e) (b0::suite) ts)(hrest:QH X rest th)(hg:Gl X x:=by rfl)(hdb:(x==("__debug__":Str))=false:=by decide):QH X (.ExceptHandler (some (.Name x np)) none (b0::suite) pos::rest) (AD X.K Ch ts th):=by
 refine⟨?_⟩;rintro pins s0 H0 σ D ea t C B H' dc s' I0 F fly hd ⟨c,bm,rfl,ec,q⟩;have I:=F.inv I0;refine wpAny_handleBy_cons (codeAny_handlers_test ?_) (by intro z;cases z);refine fJ (X:=X.exc (.ref ea)) (I.exc _) hg hm ?_ hdb;obtain⟨oe,he,hcl⟩:=fly.there;refine jG ec cl I.kIn he hcl ?_;cases hc:(Value.ref c::bm).contains (.ref Ch)with
 |true =>
  rw[hc,BK rfl]at q;refine codeAny_handlers_suite ?_;obtain⟨f1,f2,f3,f4⟩:=fly;refine fw f1 f3 f4.at hd fun h6 k1 k2 k3 up6 hd6=>?_;have F6:=F.move (tk:=s'.toks) I0 k1 up6;refine ZS ((hs (.ref ea)).h pins _ _ _ _ ((F6.inv I0).exc _) q) (fun f s8 sp=>?_) (fun _ _ z=>False.elim z);cases f with
  |next =>obtain⟨σ2,H2,I8,q8⟩:=sp;exact⟨_,H2,I8.unexc I0.ok,q8⟩
  |brk =>obtain⟨σ2,H2,I8,q8⟩:=sp;exact⟨_,H2,I8.unexc I0.ok,q8⟩
  |cont =>obtain⟨σ2,H2,I8,q8⟩:=sp;exact⟨_,H2,I8.unexc I0.ok,q8⟩
  |ret u =>obtain⟨v,σ2,H2,I8,r8,q8⟩:=sp;exact⟨v,_,H2,I8.unexc I0.ok,r8,q8⟩
 |false =>rw[hc,BJ Zi]at q;exact hrest.h pins s0 H0 σ D ea t _ B H' dc _ I0 F fly hd q
end
def exD(ea c:Addr)(dc:Option Addr):HO:=.ext fun h=>∃oe,h.get? ea=some oe/\oe.cls=.ref c/\oe.dict=dc/\notCls oe=true
theorem Fl.trackD{X:Cx}{pins:List (Addr×Obj)}{σ:St}{H0 H':Hp}{s0 s':Shared}{B:Heap}{ea t c:Addr}{dc:Option Addr}(F:Fl X H0 H' s0 s' B)(I0:Inv X pins σ H0 s0)(fly:Heap.FlyingW B X.stack ea (.ref c) (.ref t) s'.heap)(hd:∃oe,s'.heap.get? ea=some oe/\oe.cls=.ref c/\oe.dict=dc/\notCls oe=true) :
  H' ea=none/\Inv X pins σ (upd H' ea (exD ea c dc)) s':=by
 have I:=F.inv I0;obtain⟨oe,vs,he,hc,hf,_⟩:=fly.first;have nfr:ea∉frs X.stack:=fun hm=>by obtain⟨_,o',ho',hd'⟩:=I.stack.mem hm;have e:s'.heap.get? ea=some o':=ho';rw[he]at e;cases e;exact hd' vs hf
 have hB:B.get? ea=none:=fly.2.1;have hn:H' ea=none:=by
  cases q:H' ea with
  |none=>rfl
  |some u =>have:=F.kb ea oe nfr (.inl ⟨u,q⟩) he;rw[hB]at this;cases this
 have h0:s0.heap.get? ea=none:=by
  cases q:s0.heap.get? ea with
  |none=>rfl
  |some o0 =>have:=F.kb ea oe nfr (.inr ⟨o0,q⟩) he;rw[hB]at this;cases this
 have ne0:∀b o,s0.heap.get? b=some o->b≠ea:=fun b o q z=>by rw[z,h0]at q;cases q
 have neH:∀b u,H' b=some u->b≠ea:=fun b u q z=>by rw[z,hn]at q;cases q
 refine⟨hn,⟨I.ok,I.os,I.bare,⟨I.base.keep,I.base.slot,fun b o q n hx=>?_,I.base.there,fun b xs q=>?_,fun b o u q=>?_,fun b ps q=>?_⟩,I.loc,I.cell,?_,fun x c' q=>?_,fun p hp=>?_,fun b u q=>?_,I.len⟩⟩
 ·obtain⟨o',q'⟩:=I0.base.there b o q hx;rw[aB (ne0 b o' q')];exact I.base.free b o q n hx
 ·have:=I.base.tups b xs q;rw[aB (neH _ _ this)];exact this
 ·have:=I.base.frzs b o u q;rw[aB (neH _ _ this)];exact this
 ·obtain⟨more,this⟩:=I.base.tbls b ps q;exact⟨more,by rw[aB (neH _ _ this)];exact this⟩
 ·obtain⟨m,⟨o,_,_,ho,_⟩,_⟩:=I0.loc;rw[aB (ne0 _ o ho)];exact I.free
 ·obtain⟨v,o,ho,_⟩:=I0.cell x c' q;rw[aB (ne0 _ o ho)];exact I.freeC x c' q
 ·obtain⟨e,n,ne,nf,d⟩:=I.pin p hp;refine⟨e,?_,ne,nf,d⟩;rw[aB (ne0 _ _ (I0.pin p hp).1)];exact n
 ·by_cases hb:b=ea
  ·subst hb;rw[aa]at q;cases q;obtain⟨o1,a1,a2,a3,a4⟩:=hd;exact⟨⟨o1,a1,a2,a3,a4⟩,⟨o1,a1⟩,fun h1 h2 ⟨o2,b1,b2,b3,b4⟩ k=>⟨o2,k o2 b1,b2,b3,b4⟩⟩
  ·rw[aB hb]at q;refine(I.hok b u q).stay (fun _ _ _ z=>z) (fun d z=>?_) fun d xs z=>?_
   ·rw[aB (neH _ _ z)];exact z
   ·rw[aB (neH _ _ z)];exact z
def A9(K:PySem.W.Frag)(i:Nat)(Ch:Addr)(ts:TS):TH:=fun D σ C dc H'=>∃c bm,C=.ref c/\ExC K c bm/\(Value.ref c::bm).contains (.ref Ch)=true/\∀ea,H' ea=none ->
 ts { nx:=fun σ2 H2=>D.nx (σ2.set i none) H2,rt:=D.rt,bk:=fun σ2 H2=>D.bk (σ2.set i none) H2,ct:=fun σ2 H2=>D.ct (σ2.set i none) H2 } (σ.set i (some (.ref ea))) (upd H' ea (exD ea c dc))
section
variable{X:Cx}
theorem Ae{i:Nat}{x n:Str}{Ch:Addr}{bmh:List Value}{b0:Stmt}{suite:List Stmt}{ts:TS}{np pos:Pos}{rest:List ExceptHandler}(hN:X.N.Nodup)(cl:ExC X.K Ch bmh)(hm:X.mg x=some (.ref Ch))(hs:∀e,QB (X.exc e) (b0::suite) ts)(hi:X.N[i]?=some n:=by rfl)(hl:X.env.kindOf n=some .local:=by rfl)(hg:Gl X x:=by rfl)(hdb:(x==("__debug__":Str))=false:=by decide) :
  QH X (.ExceptHandler (some (.Name x np)) (some n) (b0::suite) pos::rest) (A9 X.K i Ch ts):=by
 refine⟨?_⟩;rintro pins s0 H0 σ D ea t C B H' dc s' I0 F fly hd ⟨c,bm,rfl,ec,hc,q⟩;have I:=F.inv I0;refine wpAny_handleBy_cons (codeAny_handlers_test ?_) (by intro z;cases z);refine fJ (X:=X.exc (.ref ea)) (I.exc _) hg hm ?_ hdb;obtain⟨oe,he,hcl⟩:=fly.there;refine jG ec cl I.kIn he hcl ?_;rw[hc];refine codeAny_handlers_suite_as ?_;obtain⟨f1,f2,f3,f4⟩:=fly;refine fw f1 f3 f4.at hd fun h6 k1 k2 k3 up6 hd6=>?_;have fly6:Heap.FlyingW B X.stack ea (.ref c) (.ref t) h6:=⟨k1,f2,k2,k3⟩
 have F6:=F.move (tk:=s'.toks) I0 fly6.1 up6;have hx6:∃oe,h6.get? ea=some oe/\oe.cls=.ref c/\oe.dict=dc/\notCls oe=true:=by obtain⟨oe,vs,z1,z2,z3,_⟩:=fly6.first;obtain⟨o2,y1,y2⟩:=hd6;cases Zo (z1.symm.trans y1);exact⟨oe,z1,z2,y2,by unfold notCls;rw[z3]⟩
 obtain⟨hn,I6⟩:=F6.trackD I0 fly6 hx6;refine fX I6 hN hi (.inl hl) (v:=.ref ea) (u:=.ref ea) rfl (fun s7 I7=>?_) (.inr hl);refine ZS ((hs (.ref ea)).h pins s7 _ _ _ (I7.exc _) (q ea hn)) (fun f s8 sp=>?_) (fun _ _ z=>False.elim z);cases f with
 |next =>obtain⟨σ2,H2,I8,q8⟩:=sp;exact gj (I8.unexc I0.ok) hN hi hl fun s9 I9=>⟨_,H2,I9,q8⟩
 |brk =>obtain⟨σ2,H2,I8,q8⟩:=sp;exact gj (I8.unexc I0.ok) hN hi hl fun s9 I9=>⟨_,H2,I9,q8⟩
 |cont =>obtain⟨σ2,H2,I8,q8⟩:=sp;exact gj (I8.unexc I0.ok) hN hi hl fun s9 I9=>⟨_,H2,I9,q8⟩
 |ret u =>obtain⟨v,σ2,H2,I8,r8,q8⟩:=sp;exact gj (I8.unexc I0.ok) hN hi hl fun s9 I9=>⟨v,_,H2,I9,r8,q8⟩
end
open PySem PySem.Spec PyProof.Rows PySem.W
section
variable{K:PySem.W.Frag}{prog:Program}{w:World}{A:Around}{E:Value->Shared->Prop}{h:Heap}{g:Array GenState}{d:Drawn}{t:Nat}{os:OsState}{x D:Addr}{ox:Obj}{od:Option Obj}
theorem kJ{tk:Tok}{Q:PySem.Fin->Shared->Prop}(X:K.In h)(I:InstAt h x ox D od)(ha:findIn K (.ref D) "__class__" = some (some (.builtin "object.__class__")))(hm:mroIn K D (.type "object")=some true)(hq:Q (.done (.ret (.ref D))) ⟨h,g,d,t,os⟩):wpAny (model prog w) A (Builtin.«object.__getattribute__» ⟨[.ref x,.str "__class__" tk],[]⟩) Q E ⟨h,g,d,t,os⟩:=by
 have hT5:(⟨h,g,d,t,os⟩:Shared).TypeIs (.builtin "object.__class__") "getset_descriptor":=F.typeOf_object_class;have L0:=I.type (M:=model prog w);have L3:=looks_findIn (M:=model prog w) X ha;have f5:=F.typeOf_object_class;have f6:=F.slot_gs_get.lookup;have f7:=F.slot_gs_set.lookup
 repeat(any_goals(first|assumption|with_reducible refine L0.at ?_|with_reducible refine L3.at ?_|wp_step))
 refine class_get (s:=⟨h,g,d,t,os⟩) X I hm ?_
 repeat(any_goals(first|assumption|wp_step))
theorem qH{M:Model}{nv:Value}{Q:Unit->Shared->Prop}(X:K.In h)(I:InstAt h x ox D od)(hb:mroIn K D (.type "BaseException")=some true)(hq:Q () ⟨h,g,d,t,os⟩) :
  wpAny M A (checkBuiltinCall "BaseException.__getattribute__" ⟨[.ref x,nv],[]⟩) Q E ⟨h,g,d,t,os⟩:=by
 have hk:builtinKind "BaseException.__getattribute__" = some .slot:=by decide +kernel
 have hs:splitId "BaseException.__getattribute__" = some ("BaseException","__getattribute__"):=by decide +kernel
 have ao:=F.args_bexc_ga (.ref x) nv;have L0:=I.type (M:=M);have L1:=looks_mroIn (M:=M) X hb;simp only[checkBuiltinCall,hk,hs];refine z9 ?_;unfold isInstance
 repeat(first|with_reducible refine L0.at ?_|with_reducible refine L1.at ?_|wp_step)
 exact hq
theorem qI{Q:Option Value->Shared->Prop}(X:K.In h)(I:InstAt h x ox D od)(hga:findIn K (.ref D) "__getattribute__" = some (some (.builtin "BaseException.__getattribute__")))(hgh:findIn K (.ref D) "__getattr__" = some none)(ha:findIn K (.ref D) "__class__" = some (some (.builtin "object.__class__")))(hb:mroIn K D (.type "BaseException")=some true)(hm:mroIn K D (.type "object")=some true)(hq:Q (some (.ref D)) ⟨h,g,d,t+1,os⟩) :
  wpAny (model prog w) A (getAttr? (.ref x) "__class__") Q E ⟨h,g,d,t,os⟩:=by
 have L0:=I.type (M:=model prog w);have L1:=looks_findIn (M:=model prog w) X hga;have L2:=looks_findIn (M:=model prog w) X hgh;have f3:=F.excAttr_ValueError.ga.bind (.ref x);have ne:(Value.builtin "BaseException.__getattribute__" == Value.builtin "object.__getattribute__")=false:=by decide +kernel
 have ne1:(onTheHeap (Value.ref D)&&Value.builtin "BaseException.__getattribute__" == Value.builtin "object.__getattribute__")=false:=by rw[ne];rfl
 have ne2:(false&&onTheHeap (Value.builtin "BaseException.__getattribute__"))=false:=rfl;unfold getAttr? getAttrBy?
 repeat(any_goals(first|assumption|with_reducible refine L0.at ?_|with_reducible refine L1.at ?_|with_reducible refine L2.at ?_|wp_step))
 refine codeAny_call_builtin F.excAttr_ValueError.ga.plain F.entry_bexc_ga (qH X I hb (kJ X I ha hm ?_))
 repeat(any_goals(first|assumption|wp_step))
end
theorem sS{K:PySem.W.Frag}{x c:Addr}{ox:Obj}{od:Option Obj}(k:ExK K c):KitX K (.ref x) (.ref c) (fun h=>InstAt h x ox c od) where
 ty:=fun _ _ _ I=>I.type
 it:=fun _ _ X _=>by
  obtain⟨cd,hc⟩:=Option.isSome_iff_exists.mp k.hc;unfold clsIn at hc;split at hc
  ·rename_i ho;intro A' Q' E' s' kp q;unfold isType loadHead;exact z9 (wpAny_loadPart (kp _ _ (X _ _ ho)) (Zk q))
  ·cases hc
 ne:=fun h tp dd its n sl X htp=>by
  obtain⟨cd,hc⟩:=Option.isSome_iff_exists.mp k.hc;refine ZQ.mpr fun q=>?_;have e:c=tp:=Value.ref.inj (beq_iff_eq.mp q);cases e;unfold clsIn at hc;split at hc
  ·rename_i ho;exact nomatch((X _ _ ho).symm.trans htp)
  ·cases hc
 ca:=fun{_ _ _ _ _ s} X I kq=>by obtain⟨hp,g,d,tt,os⟩:=s;exact qI X I k.hga k.hgh k.ha k.hb k.hm kq
def qv(H:Hp):Option Addr->Prop
 |none=>True
 |some d=>∃fs,H d=some (.xd fs)
section
variable{X:Cx}{pins:List (Addr×Obj)}{σ:St}{H:Hp}{s:Shared}
theorem sE{a c:Addr}{dc:Option Addr}(I:Inv X pins σ H s)(ha:H a=some (exD a c dc))(hd:qv H dc):∃oe od,InstAt s.heap a oe c od/\∀d,dc=some d->∃o,od=some o/\s.heap.get? d=some o:=by
 obtain⟨⟨oe,h1,h2,h3,h4⟩,_⟩:=(show ObjOk X.prog X.w H s.heap a (exD a c dc)from I.hok a _ ha)
 cases dc with
 |none=>exact⟨oe,none,⟨h1,h2,h4,by rw[h3];exact True.intro⟩,fun d z=>nomatch z⟩
 |some d =>obtain⟨fs,hf⟩:=hd;obtain⟨o,ho⟩:=ir (I.hok d _ hf);exact⟨oe,some o,⟨h1,h2,h4,by rw[h3];exact ho⟩,fun d' z=>by cases z;exact⟨o,rfl,ho⟩⟩
end
open PySem PySem.Spec PyProof.Rows PySem.W
def wS(X:Cx)(B:Heap)(ea:Addr)(C:Value)(t:Addr)(h:Heap):Prop :=
 (B.StaysIn h/\B.get? ea=none/\h.FunFrames B X.stack/\∃oe,h.get? ea=some oe/\oe.cls=C/\oe.data=.fields #[.ref t,.none,.none,.none,.bool false,.none]) \/
 Heap.FlyingW B X.stack ea C (.ref t) h\/Heap.HeldW B X.stack ea C (.ref t) X.env.locals h
def vZ(X:Cx)(E:XK)(ea:Addr)(s':Shared):Prop:=∃(pins:List (Addr×Obj)) (σ:St) (H0 H':Hp) (s0:Shared) (B:Heap) (t:Addr) (C:Value) (vs:List Value) (dc:Option Addr),
 Inv X pins σ H0 s0/\Fl X H0 H' s0 s' B/\wS X B ea C t s'.heap/\s'.heap.TupAt t vs/\B.get? t=none/\cI s'.heap ea dc/\E C dc H'
section
variable{M:Model}{A:Around}{E:Value->Shared->Prop}{s:Shared}{base:Heap}{l:List Env}{L e:Addr}
theorem sG{cls a0 fl:Value}{dc:Option Addr}{Q:Unit->Shared->Prop}(kb:base.StaysIn s.heap)(ff:s.heap.FunFrames base l)(tr:s.heap.TracedAtW base e cls a0 fl)(dd:cI s.heap e dc)(k:∀h',base.StaysIn h'->h'.FunFrames base l->h'.TracedAtW base e cls a0 (rawInt L)->s.heap.UpToSlots h'->cI h' e dc->Q () { s with heap:=h' }):wpAny M A (setFlight (.ref e) (some L)) Q E s:=by
 obtain⟨oe,vs,T,oT,ts,he,hc,dt,v1,nT,ne,hT,dT,t3⟩:=tr;have z3:3<ts.size:=(Array.getElem?_eq_some_iff.mp t3).1;have oth:∀b,b≠T->(s.heap.update T (Obj.mapFields (·.setIfInBounds 3 ((some L:Option Addr).elim Value.none fun f=>rawInt f)))).get? b=s.heap.get? b:=fun b n=>Z8 _ _ (Z0 n);have nrec:∀b o,s.heap.get? b=some o->(∀ws,o.data≠.fields ws)->b≠T:=fun b o q hn z=>by subst z;cases Zo (hT.symm.trans q);exact hn ts dT
 unfold setFlight;refine z9 (ZR he dt v1 ?_);rw[BK (by simp:(Value.ref T != Value.none)=true)];refine wpAny_setField hT dT z3 (k _ (fun b o q=>(oth b fun z=>nomatch((z▸q).symm.trans nT)).trans (kb b o q)) (ff.of_keeps fun b o q hn=>⟨o,(oth b (nrec b o q hn)).trans q,rfl⟩) ?_ (fun b o q hn=>⟨o.slots,(oth b (nrec b o q hn)).trans q⟩) ?_)
 ·exact⟨oe,vs,T,_,_,(oth e (Z0 ne)).trans he,hc,dt,v1,nT,ne,Heap.get?_update_self _ hT (Obj.isFreed_of_fields (Yl dT _)),Yl dT _,by simp[z3]⟩
 ·obtain⟨o,q,d⟩:=dd;exact⟨o,(oth e (Z0 ne)).trans q,d⟩
end
section
variable{X:Cx}{E:XK}{ea:Addr}{s':Shared}{EE:Value->Shared->Prop}
theorem qF{Q:Unit->Shared->Prop}(hst:X.stack=X.env::X.outer)(hfr:X.env.frame=some X.env.locals)(x:vZ X E ea s')(k:∀ h',(∃ (pins:List (Addr×Obj)) (σ:St) (H0 H':Hp) (s0:Shared) (B:Heap) (t:Addr) (C:Value) (vs:List Value) (dc:Option Addr),
   Inv X pins σ H0 s0/\Fl X H0 H' s0 { s' with heap:=h' } B/\Heap.HeldW B X.stack ea C (.ref t) X.env.locals h'/\h'.TupAt t vs/\B.get? t=none/\cI h' ea dc/\E C dc H')->Q () { s' with heap:=h' }) :
  wpAny (model X.prog X.w) X.A (noteFrame (.ref ea) X.env) Q EE s':=by
 obtain⟨pins,σ,H0,H',s0,B,t,C,vs,dc,I0,F,st,tup,hBt,dd,q⟩:=x;have fr:X.A.frames=some (X.env::X.outer):=by rw[<-hst];exact I0.ok.frames
 rcases st with⟨f1,f2,f3,oe,he,rfl,hd⟩|fly|held
 ·unfold noteFrame;simp only[hfr];refine z9 (ZR he hd (show _=some Value.none from rfl) ?_);rw[BJ (by decide)];rw[hst]at f3;refine jH (a0:=.ref t) fr f3 hfr he f1 f2 hd (by simp) rfl fun h1 nt dd1=>?_;obtain⟨n1,n2,n3,n4⟩:=nt;rw[<-hst]at n2;obtain⟨o9,q9,d9⟩:=dd;cases Zo (he.symm.trans q9);rw[d9]at dd1;exact k h1 ⟨pins,σ,H0,H',s0,B,t,_,vs,dc,I0,F.move (tk:=s'.toks) I0 n1 n4,⟨n1,f2,n2,n3⟩,tup.of_slots n4,hBt,dd1,q⟩
 ·rw[hst]at fly;refine ip fr hfr fly dd fun h1 held up dd1=>?_;rw[<-hst]at held;exact k h1 ⟨pins,σ,H0,H',s0,B,t,C,vs,dc,I0,F.move (tk:=s'.toks) I0 held.1 up,held,tup.of_slots up,hBt,dd1,q⟩
 ·exact wpAny_noteFrame_againW hfr held.2.2.2 (k s'.heap ⟨pins,σ,H0,H',s0,B,t,C,vs,dc,I0,F,held,tup,hBt,dd,q⟩)
end
def dF(X:Cx)(E:XK):Prop:=∀ea s',vZ X E ea s'->X.xe (.ref ea) s'
section
variable{P:Program}{w:World}{K:PySem.W.Frag}{mg:Str->Option Value}{base:Heap}{N:List Str}{qual:Str}{scope:Scope}{f:Addr}{cd:Value}{A:Around}{outer:List Env}{s:Shared}{H:Hp}{E:XK}
theorem aU:dF (dO (CXr P w) P w K mg base N qual scope f cd A outer s H E) E:=by
 intro ea s' x;show wpAny (model P w) (A.deeper (envOfC qual scope s.heap.objs.size f cd)) (leaving (envOfC qual scope s.heap.objs.size f cd) (.ref ea)) _ _ _;unfold leaving;refine z9 (qF (X:=dO (CXr P w) P w K mg base N qual scope f cd A outer s H E) rfl rfl x ?_);rintro h1 ⟨pins,σ,H0,H',s0,B,t,C,vs,dc,I,F,held,tup,hBt,dd,q⟩;obtain⟨f1,f2,f3,f4⟩:=held;refine fw (s:={ s' with heap:=h1 }) f1 f3 f4 dd fun h2 k1 k2 k3 up dd2=>?_;have F2:=F.move (tk:=s'.toks) I k1 up;have I2:=F2.inv I;have hL:∀b o,s.heap.get? b=some o->b≠s.heap.objs.size:=fun b o q=>ZG (Zl q);have nfr:∀b,b∉frs outer->b≠s.heap.objs.size->b∉frs (envOfC qual scope s.heap.objs.size f cd::outer):=fun b h1 h2 hm=>by
  rcases Zr.mp (I.stkSub b hm)with z|z
  ·exact h2 z
  ·exact h1 z
 obtain⟨_,_,k2'⟩:=k2;refine⟨ea,t,C,vs,B,H',dc,rfl,I2.os,F2.bare,⟨fun b o q n hb _=>?_,fun b o q n hb _=>?_,fun b o q n _=>?_,fun b o q _=>?_,I2.base.tups,I2.base.frzs,I2.base.tbls⟩,F2.hok,⟨k1,f2,k2',k3⟩,tup.of_slots up,hBt,fun b o hb ho q=>?_,dd2,q⟩
 ·exact I2.base.keep b o q n hb (by intro z;cases z)
 ·exact I2.base.slot b o q n hb (by intro z;cases z)
 ·exact I2.base.free b o q n (by intro z;cases z)
 ·exact I2.base.there b o q (by intro z;cases z)
 ·refine F2.kb b o ?_ ?_ q
  ·rcases ho with⟨u,z⟩|⟨o0,z⟩
   ·exact F2.nf I z
   ·exact nfr b hb (hL b o0 z)
  ·rcases ho with⟨u,z⟩|⟨o0,z⟩
   ·exact .inl ⟨u,z⟩
   ·exact .inr (I.base.there b o0 z (by intro z;cases z))
end
section
variable{X:Cx}{E:XK}
theorem gl(hR:dF X E):gJ (CXr X.prog X.w) X E:=fun pins σ H s e s' I x=>by obtain⟨ea,t,C,vs,B,H',dc,rfl,os,bare,un,hok,fly,tup,hBt,kb,dd,q⟩:=x;exact hR ea s' ⟨pins,σ,H,H',s,B,t,C,vs,dc,I,⟨os,bare,un,hok,kb⟩,.inr (.inl fly),tup,hBt,dd,q⟩
theorem db(hR:dF X E):sk X (fun C H1=>E C none H1):=fun pins σ H1 s1 h2 e C vs I hx hE=>by
 obtain⟨t,he,tn,tt⟩:=hx.there;have fr0:∀b,b∈frs X.stack->∃o,s1.heap.get? b=some o:=fun b hm=>by obtain⟨_,o',ho',_⟩:=I.stack.mem hm;exact⟨o',ho'⟩
 have hid:∀b o,s1.heap.get? b=some o->b∉frs X.stack->(hideAll s1.heap (frs X.stack)).get? b=some o:=fun b o q hb=>hideAll_get _ q hb;have fK:∀b,s1.heap.get? b=none->(hideAll s1.heap (frs X.stack)).get? b=none:=fun b hb=>by
  cases q:(hideAll s1.heap (frs X.stack)).get? b with
  |none=>rfl
  |some o=>exact nomatch hb.symm.trans (of_hideAll _ q)
 have tr:∀b u,H1 b=some u->b∉frs X.stack:=fun b u q hm=>by have:=I.stkFree b hm;rw[q]at this;cases this
 have F:Fl X H1 H1 s1 { s1 with heap:=h2 } (hideAll s1.heap (frs X.stack)):=⟨rfl,I.bare,Un.kept hx.keeps,I.hok.kept hx.keeps,fun b o hb ho q=>by
  obtain⟨o1,q1⟩:∃o1,s1.heap.get? b=some o1:=by
   rcases ho with⟨u,z⟩|⟨o0,z⟩
   ·exact ir (I.hok b u z)
   ·exact⟨o0,z⟩
  have q2:=hx.keeps _ _ q1;have q':h2.get? b=some o:=q;rw[q']at q2;cases q2;exact hid b o q1 hb⟩
 have ff:h2.FunFrames (hideAll s1.heap (frs X.stack)) X.stack:=(funFrames_hide I.stack fun env he b hb=>Yu.mpr ⟨env,he,hb⟩).of_keeps fun b o q _=>⟨o,hx.keeps b o q,rfl⟩
 exact hR e _ ⟨pins,σ,H1,H1,s1,_,t,C,vs,none,I,F,.inl ⟨fun b o q=>hx.keeps b o (of_hideAll _ q),fK e hx.new,ff,_,he,rfl,rfl⟩,⟨_,_,tt,rfl,rfl⟩,fK t tn,⟨_,he,rfl⟩,hE⟩
end
open PySem PySem.Spec PyProof.Rows PySem.W
theorem cJ{X:Cx}:QCall X (.builtin "isinstance") (fun xs H Q=>∃ (x T:V) (u:Value) (b:Bool),xs=[x,T]/\(∀ v,RelV T v->v=u) /\
  ((∃ t,TyOf X.K H x t/\PySem.W.kitOne X.K t u=some b)\/∃ (a c:Addr) (dc:Option Addr),x=.ref a/\H a=some (exD a c dc)/\qv H dc/\ExK X.K c/\PySem.W.kitOne X.K (.ref c) u=some b)/\Q (.bl b) H):=by
 refine⟨?_⟩;intro pins s σ H xs us Q I r h;obtain⟨x,T,u,b,rfl,ht,hh,q⟩:=h;obtain⟨v,w',rfl,rx,ry⟩:=lB r;cases ht w' ry;rcases hh with⟨t,ty,e⟩|⟨a,c,dc,rfl,ha,hd,k,e⟩
 ·exact mE I rx ty e fun tk=>⟨.bl b,H,I.tok tk,rfl,q⟩
 ·cases rx;obtain⟨oe,od,ia,_⟩:=sE I ha hd;exact Z6 (sS k) I.kIn ia e (fun z=>nomatch z) fun tk=>⟨.bl b,H,I.tok tk,rfl,q⟩
open PySem PySem.Spec PyProof.Rows PySem.W
structure LamOk(P:Program)(w:World)(K:PySem.W.Frag)(mg:Str->Option Value)(base:Heap)(k:Nat)(qual:Str)(body:Expr)(scope:Scope)(x:Str)(sp:Sp):Prop where
 ex:∃N:List Str,FnScope N [x] scope/\(∀vs H Q E,sp vs H Q E->vs.length=1)/\∀(f c':Addr) (A:Around) (outer:List Env) (s:Shared) (H:Hp) (vs:List V) (Q:VK) (E:XK),Room k (A.deeper (envOfC qual scope s.heap.objs.size f (.ref c')))->sp vs H Q E ->
  ∃t,QE (dO CX0 P w K mg base N qual scope f (.ref c') A outer s H E) body t/\t (dR N vs) H Q
open PySem PySem.Spec PyProof.Rows PySem.W
open PySem PySem.Spec PyProof.Rows PySem.W
inductive SKey where
 |i (n:Int)|s (t:Str)|bi (b:Bool)(n:Int)
def SKey.at(H:Hp):SKey->V->Prop
 |.i n,v=>v=.int n
 |.s t,v=>v=.str t
 |.bi b n,v=>∃a,v=.ref a/\H a=some (.tup [.bl b,.int n])
section
variable{X:Cx}{pins:List (Addr×Obj)}{σ:St}{H:Hp}{s:Shared}{h':Heap}
structure SG(X:Cx)(pins:List (Addr×Obj))(σ:St)(H1:Hp)(m:Str->Option Value)(kS D:Addr)(e1:Nat)(ks:List SKey)(as:List V)(us:List Value)(e:Nat)(H:Hp)(s:Shared):Prop where
 I:Inv X pins σ H s
 sm:Same H1 H
 fk:bF X pins H kS
 fd:bF X pins H D
 bk:X.base.get? kS=none
 bd:X.base.get? D=none
 hk:s.heap.get? kS=some (seqObj "list" (List.toArray us) e)
 hd:s.heap.get? D=some (seqObj "list" #[] e1)
 ns:s.heap.Ns X.env.locals m
 vals:Vals as us
 keys:∀(i:Nat) (a:V) (k:SKey),as[i]?=some a->ks[i]?=some k->k.at H a
end
open PySem PySem.Spec PyProof.Rows PySem.W
structure LamScope(x y:Str)(sc:Scope):Prop where
 kind:sc.kind=.function
 co:sc.isCoroutine=false
 gen:sc.isGenerator=false
 lx:sc.names.lookup x=some .local
 ly:sc.names.lookup y=some .free
 nc:∀z∈sc.names,z.2≠.cell
 nf:∀z∈sc.names,z.2=.free->z.1=y
 ne:x≠y
def cxX(CX:CXT)(P:Program)(w:World)(K:PySem.W.Frag)(mg:Str->Option Value)(base:Heap)(N:List Str)(qual:Str)(scope:Scope)(f:Addr)(cd:Value)(cl:List (Str×Addr))(A:Around)(outer:List Env)(s:Shared)(H:Hp)(E:XK):Cx where
 prog:=P
 w:=w
 K:=K
 mg:=mg
 base:=base
 A:=A.deeper (envX qual scope s.heap.objs.size f cd cl)
 N:=N
 s₀:=s
 H₀:=H
 env:=envX qual scope s.heap.objs.size f cd cl
 outer:=outer
 stack:=envX qual scope s.heap.objs.size f cd cl::outer
 ex:=[]
 calm:=true
 fn:=fun _=>false
 pn:=[]
 xe:=fun e s'=>wpAny (model P w) (A.deeper (envX qual scope s.heap.objs.size f cd cl)) (leaving (envX qual scope s.heap.objs.size f cd cl) e) (fun _ s''=>CX outer H s E e s'') (fun e' s''=>CX outer H s E e' s'') s'
open PySem PySem.Spec PyProof.Rows PySem.W
section
variable{X:Cx}{c P:Addr}{params:Arguments}{body:Expr}{scope:Scope}{pos:Pos}{cl:List (Str×Addr)}
structure LamOkX(P:Program)(w:World)(K:PySem.W.Frag)(mg:Str->Option Value)(base:Heap)(k:Nat)(qual:Str)(body:Expr)(scope:Scope)(x y:Str)(sp:V->Sp):Prop where
 sc:LamScope x y scope
 ex:∀(f c' c:Addr) (kv:V) (A:Around) (outer:List Env) (s:Shared) (H:Hp) (v:V) (Q:VK),Room k (A.deeper (envX qual scope s.heap.objs.size f (.ref c') [(y,c)]))->sp kv [v] H Q E0 ->
  ∃t,QE (cxX CX0 P w K mg base [x,y] qual scope f (.ref c') [(y,c)] A outer s H E0) body t/\t [some v,some kv] H Q
end
open PySem PySem.Spec PyProof.Rows PySem.W
open PySem PyProof.Rows PySem.W
open PySem PyProof.Rows PySem.W
section
variable{prog:Program}{w:World}{A:Around}{E:Value->Shared->Prop}{s:Shared}{κ:SortKind}{it:Array Keyed}{lt:Nat->Nat->Bool}{N:Nat}{st:SortSt}
def Zc(prog:Program)(w:World)(A:Around)(s:Shared)(κ:SortKind)(it:Array Keyed)(lt:Nat->Nat->Bool)(N:Nat):Prop :=
 ∀i j (C:Bool->Shared->Prop),i<N->j<N->C (lt i j) s->kas_cmp prog w A κ it i j C s
end
open PySem PyProof.Rows PySem.W
section
variable{lt:Nat->Nat->Bool}
structure MF(lt:Nat->Nat->Bool)(N:Nat)(a b:Array Nat):Prop where
 sa:∀i j,i<j->j<a.size->Lx lt (gA a i) (gA a j)
 sb:∀i j,i<j->j<b.size->Lx lt (gA b i) (gA b j)
 cr:∀i j,i<a.size->j<b.size->lt (gA b j) (gA a i)=false->Lx lt (gA a i) (gA b j)
 na:∀i,i<a.size->gA a i<N
 nb:∀i,i<b.size->gA b i<N
 a0:0<a.size
 b0:0<b.size
 fst:lt (gA b 0) (gA a 0)=true
 lst:∀j,j<b.size->lt (gA b j) (gA a (a.size-1))=true
variable{N:Nat}{a b:Array Nat}{f:Nat->Keyed}
end
open PySem PyProof.Rows PySem.W
open PySem PyProof.Rows PySem.W
open PySem PyProof.Rows PySem.W
open PySem PyProof.Rows PySem.W
section
variable{prog:Program}{w:World}{A:Around}{E:Value->Shared->Prop}{s:Shared}{κ:SortKind}{it:Array Keyed}{lt:Nat->Nat->Bool}{N:Nat}{st:SortSt}{pre u:Array Nat}
structure Zp(prog:Program)(w:World)(A:Around)(s:Shared)(κ:SortKind)(it:Array Keyed)(lt:Nat->Nat->Bool)(N:Nat)(st:SortSt)(pre:Array Nat)(n:Nat):Prop where
 Z:Zc prog w A s κ it lt N
 hk:kindOf st=κ
 hN:pre.size+n=N
 n0:0<n
end
open PySem PyProof.Rows PySem.W
section
variable{lt:Nat->Nat->Bool}(O:LtOk lt){N:Nat}
include O
end
open PySem PyProof.Rows PySem.W
section
variable{lt:Nat->Nat->Bool}
def wb(lt:Nat->Nat->Bool):Nat->List (List Nat)->List (Nat×Nat×Nat)->Prop
 |_,[],[]=>True
 |b,r::rs,t::ts=>t.1=b/\t.2.1=r.length/\0<r.length/\r.Pairwise (Lx lt)/\r.Perm (List.range' b r.length)/\wb lt (b+r.length) rs ts
 |_,_,_=>False
variable{prog:Program}{w:World}{A:Around}{E:Value->Shared->Prop}{s:Shared}{κ:SortKind}{it:Array Keyed}{N:Nat}{st:SortSt}
structure RI(κ:SortKind)(it:Array Keyed)(lt:Nat->Nat->Bool)(N lo:Nat)(T:List Nat)(p:Array Nat)(rs:List (List Nat))(st:SortSt):Prop where
 hk:kindOf st=κ
 hf:failedOf st=none
 ha:arrOf st=p.map (kas_item it)
 hp:p.toList=rs.flatten++T
 pm:p.toList.Perm (List.range N)
 rl:wb lt 0 rs (pendingOf st).toList
 hl:rs.flatten.length=lo
end
open PySem PyProof.Rows PySem.W
open PySem PySem.Spec PyProof.Rows PySem.W
open PySem PySem.Spec PyProof.Rows PySem.W
inductive ZKey where
 |i (n:Int)|t (ns:List Int)|p (ps ns:List Int)
def ZKey.at(H:Hp):ZKey->V->Prop
 |.i n,v=>v=.int n
 |.t ns,v=>∃a,v=.ref a/\H a=some (.tup (ns.map V.int))
 |.p ps ns,v=>∃a b c,v=.ref a/\H a=some (.tup [.ref b,.ref c])/\H b=some (.tup (ps.map V.int))/\H c=some (.tup (ns.map V.int))
section
variable{X:Cx}{pins:List (Addr×Obj)}{σ:St}{H:Hp}{s:Shared}{h':Heap}
structure SGZ(X:Cx)(pins:List (Addr×Obj))(σ:St)(H1:Hp)(m:Str->Option Value)(kS D:Addr)(e1:Nat)(ks:List ZKey)(as:List V)(us:List Value)(e:Nat)(H:Hp)(s:Shared):Prop where
 I:Inv X pins σ H s
 sm:Same H1 H
 fk:bF X pins H kS
 fd:bF X pins H D
 bk:X.base.get? kS=none
 bd:X.base.get? D=none
 hk:s.heap.get? kS=some (seqObj "list" (List.toArray us) e)
 hd:s.heap.get? D=some (seqObj "list" #[] e1)
 ns:s.heap.Ns X.env.locals m
 vals:Vals as us
 keys:∀(i:Nat) (a:V) (k:ZKey),as[i]?=some a->ks[i]?=some k->k.at H a
end
open PySem PySem.Spec PyProof.Rows PySem.W
open PySem PySem.Spec PyProof.Rows PySem.W
open PySem PySem.Spec PyProof.Rows PySem.W
open PySem PySem.Spec PyProof.Rows PySem.W
end L2
set_option maxHeartbeats 4000000
namespace PySem
open Sem (wp)
section
variable{prog:Program}{w:World}{K:Type}[DecidableEq K]{knd:KeyKind prog w K}
structure PairAt(knd:KeyKind prog w K)(h:Heap)(p:Addr×List K×Addr×Value):Prop where
 tup:∃o n,h.get? p.1=some o/\o.cls=.type "tuple"/\o.data=.seq #[.ref p.2.2.1,p.2.2.2] n
 key:IsTupleKey knd h p.2.1 p.2.2.1
variable{A:Around}{R:Result->Shared->Prop}
end
end PySem
namespace L2
open PySem PySem.Spec PyProof.Rows PySem.W
open PySem PySem.Spec PyProof.Rows PySem.W
open PySem PySem.Spec PyProof.Rows PySem.W
open PySem PySem.Spec PyProof.Rows PySem.W
open PySem PySem.Spec PyProof.Rows PySem.W
open PySem PySem.Spec PyProof.Rows PySem.W
open PySem PySem.Spec PyProof.Rows PySem.W
open PySem PySem.Spec PyProof.Rows PySem.W
open PySem PySem.Spec PyProof.Rows PySem.W
section
variable{X:Cx}{K:PySem.W.Frag}
def oJ:V->List V->Hp->VK->Prop:=fun x xs H Q=>∃(z y:Str),x=.str z/\xs=[.str y]/\y.length=1/\z.length<=100000/\∀D,H D=none->Q (.ref D) (upd H D (.lst ((Txt.split z y).map V.str)))
theorem jm:∀{l:List (Str×Tok)} {ys:List Str},l.map (·.1)=ys->Vals (ys.map V.str) (strValues l)
 | [],ys,e=>by subst e;exact .nil
 |p::l,ys,e=>by subst e;exact .cons ⟨p.2,rfl⟩ (jm (l:=l) rfl)
theorem uk(x y:Str):(Txt.split x y).length<=x.length+2:=by
 unfold Txt.split;split
 ·simp
 ·split
  ·simp
  ·rw[length_partsBetween];have:=StrLaws.occ_length_le x y 0 x.length (x.length+1);omega
theorem oZ(x y:Str)(k:Int):(Txt.splitMax x y k).length<=x.length+2+k.toNat:=by
 unfold Txt.splitMax;split
 ·simp;omega
 ·split
  ·simp;omega
  ·rw[length_partsBetween];have h1:=StrLaws.occ_length_le x y 0 x.length (PySem.limitOf x k);have h2:PySem.limitOf x k<=x.length+1+k.toNat:=by unfold PySem.limitOf;split<;>omega
   omega
theorem om:MtR X "str.split" oJ:=by
 intro pins s σ H x xs v us Q I rx r h;obtain⟨z,y,rfl,rfl,hy,hz,q⟩:=h;obtain⟨t,rfl⟩:=rx;obtain⟨u,rfl,ru⟩:=cW r;obtain⟨t2,rfl⟩:=ru;obtain⟨m,F0⟩:=I.fr;refine splitN1A F0 (jJ X.base s.heap X.env.locals) (by rw[hy];rfl) (fun l h' k e1 sa sh il F1 N1=>?_) (by rw[sizeLine_eq];omega);have hDs:s.heap.get? s.heap.objs.size=none:=Heap.get?_none_of_le (Zg _);have lz:=uk z y;refine⟨.ref s.heap.objs.size,_,I.laidF (t':=k) (o:=.lst ((Txt.split z y).map V.str)) (fun b o hL g=>?_) ⟨m,F0.ns,F1.ns⟩ hDs ⟨by rw[z6,sizeLine_eq];omega,_,0,jm e1,(N1 (s.heap.objs.size,_) (.head _)).1⟩,rfl,q _ (fK I hDs)⟩;cases qb:X.base.get? b with
 |none=>exact(N1 (b,o) (.tail _ (kU g hL qb))).1
 |some o' =>have e':=I.bk b o' qb;rw[g]at e';cases e';exact F1.keep b o qb
theorem lW{o e:Expr}{to te:TE}{apos cpos:Pos}(ho:QE X o to)(he:QE X e te)(hs:aP e=true:=by rfl)(hbase:attributeBase o "split" X.env (eval o X.env)=eval o X.env:=by rfl)(hline:(apos.endLine==cpos.line)=true:=by rfl) :
  QE X (.Call (.Attribute o "split" apos) [e] [] cpos) (tBM X.K "str" oJ to (dS te iJ)):=by
 have h1:=aT (es:=[]) (env:=X.env) hs;have h2:starEach ([]:List Expr) X.env=[]:=rfl;refine⟨kR y3 PySem.F.slot_str_split PySem.F.type_str_split om ho.h (dL he.h fR (hs:=h1)) (hbase:=hbase) (hfew:=?_) (hline:=hline) (hs:=h1) (hplain:=by rw[h2];rfl)⟩;rw[h1,h2];rfl
def qh:V->List V->Hp->VK->Prop:=fun x xs H Q=>∃(z y:Str) (k:Int),x=.str z/\xs=[.str y,.int k]/\y.length=1/\z.length<=100000/\0<=k/\k<=1000/\∀D,H D=none->Q (.ref D) (upd H D (.lst ((Txt.splitMax z y k).map V.str)))
theorem sV:MtR X "str.split" qh:=by
 intro pins s σ H x xs v us Q I rx r h;obtain⟨z,y,n,rfl,rfl,hy,hz,n0,n1,q⟩:=h;obtain⟨t,rfl⟩:=rx;cases r with
 |cons ra r =>
  obtain⟨t2,rfl⟩:=ra;obtain⟨u,rfl,ru⟩:=cW r;obtain⟨t3,rfl⟩:=ru;obtain⟨m,F0⟩:=I.fr;refine splitN2A F0 (jJ X.base s.heap X.env.locals) (by rw[hy];rfl) (by rw[decide_eq_false (by omega),decide_eq_false (by omega)];rfl) (fun l h' k e1 sa sh il F1 N1=>?_) (by rw[sizeLine_eq];omega);have hDs:s.heap.get? s.heap.objs.size=none:=Heap.get?_none_of_le (Zg _);have lz:=oZ z y n;refine⟨.ref s.heap.objs.size,_,I.laidF (t':=k) (o:=.lst ((Txt.splitMax z y n).map V.str)) (fun b o hL g=>?_) ⟨m,F0.ns,F1.ns⟩ hDs ⟨by rw[z6,sizeLine_eq];omega,_,0,jm e1,(N1 (s.heap.objs.size,_) (.head _)).1⟩,rfl,q _ (fK I hDs)⟩;cases qb:X.base.get? b with
  |none=>exact(N1 (b,o) (.tail _ (kU g hL qb))).1
  |some o' =>have e':=I.bk b o' qb;rw[g]at e';cases e';exact F1.keep b o qb
theorem vK{o e f:Expr}{to te tf:TE}{apos cpos:Pos}(ho:QE X o to)(he:QE X e te)(hf:QE X f tf)(hs:aP e=true:=by rfl)(hs':aP f=true:=by rfl)(hbase:attributeBase o "split" X.env (eval o X.env)=eval o X.env:=by rfl)(hline:(apos.endLine==cpos.line)=true:=by rfl) :
  QE X (.Call (.Attribute o "split" apos) [e,f] [] cpos) (tBM X.K "str" qh to (dS te (dS tf iJ))):=by
 have h0:=aT (es:=[f]) (env:=X.env) hs;have h1:=aT (es:=[]) (env:=X.env) hs';have h2:starEach ([]:List Expr) X.env=[]:=rfl;refine⟨kR y3 PySem.F.slot_str_split PySem.F.type_str_split sV ho.h (dL he.h (dL hf.h fR (hs:=h1)) (hs:=h0)) (hbase:=hbase) (hfew:=?_) (hline:=hline) (hs:=h0) (hplain:=by rw[h1,h2];rfl)⟩;rw[h0,h1,h2];rfl
def lY:V->List V->Hp->VK->Prop:=fun x xs H Q=>∃(z y:Str),x=.str z/\xs=[.str y]/\Q (.bl (Txt.startswith z y)) H
theorem sW:MtR X "str.startswith" lY:=by intro pins s σ H x xs v us Q I rx r h;obtain⟨z,y,rfl,rfl,q⟩:=h;obtain⟨t,rfl⟩:=rx;obtain⟨u,rfl,ru⟩:=cW r;obtain⟨t2,rfl⟩:=ru;exact SC.startswith ⟨.bl _,H,I,rfl,q⟩
theorem oH{o e:Expr}{to te:TE}{apos cpos:Pos}(ho:QE X o to)(he:QE X e te)(hs:aP e=true:=by rfl)(hbase:attributeBase o "startswith" X.env (eval o X.env)=eval o X.env:=by rfl)(hline:(apos.endLine==cpos.line)=true:=by rfl) :
  QE X (.Call (.Attribute o "startswith" apos) [e] [] cpos) (tBM X.K "str" lY to (dS te iJ)):=by
 have h1:=aT (es:=[]) (env:=X.env) hs;have h2:starEach ([]:List Expr) X.env=[]:=rfl;refine⟨kR y3 PySem.F.slot_str_startswith PySem.F.type_str_startswith sW ho.h (dL he.h fR (hs:=h1)) (hbase:=hbase) (hfew:=?_) (hline:=hline) (hs:=h1) (hplain:=by rw[h2];rfl)⟩;rw[h1,h2];rfl
theorem wA:QOp X (compareOp .In) (fun x y H Q=>∃i j:Str,x=.str i/\y=.str j/\Q (.bl (Txt.contains j i)) H):=by refine⟨?_⟩;intro pins s σ H x y v u Q I rx ry h;obtain⟨i,j,rfl,rfl,q⟩:=h;obtain⟨t,rfl⟩:=rx;obtain⟨t',rfl⟩:=ry;exact SB.contains ⟨.bl _,H,I,rfl,q⟩
theorem yj:QCall X (.type "int") (fun xs H Q=>∃(x:Str) (n:Int),xs=[.str x]/\PySem.intText? x=some n/\x.length<=640/\Q (.int n) H):=by refine⟨?_⟩;intro pins s σ H xs us Q I r h;obtain⟨x,n,rfl,hn,hl,q⟩:=h;obtain⟨u,rfl,rx⟩:=cW r;obtain⟨t,rfl⟩:=rx;exact KIN.call_text hn hl ⟨.int n,H,I.tok _,⟨_,rfl⟩,q⟩
end
open PySem PySem.Spec PyProof.Rows PySem.W
theorem bM{x y:Str}(h:x.cps.toList=y.cps.toList):x=y:=by cases x;cases y;congr 1;exact Array.toList_inj.mp h
theorem aM(x y:Str):(x++y).cps.toList=x.cps.toList++y.cps.toList:=by show(x.cps++y.cps).toList=_;rw[Array.toList_append]
def ch1(c:Nat):Str:=⟨#[c]⟩
theorem Ab(c:Nat):(ch1 c).cps.toList=[c]:=rfl
theorem nS{c:Nat}:∀{a b x y:List Nat},c∉a->c∉b->a++c::x=b++c::y->a=b/\x=y
 | [],[],x,y,_,_,h=>by injection h with _ h;exact⟨rfl,h⟩
 | [],d::b,x,y,_,hb,h=>by injection h with h _;exact absurd (by rw[h];exact Zu) hb
 |d::a,[],x,y,ha,_,h=>by injection h with h _;exact absurd (by rw[<-h];exact Zu) ha
 |d::a,e::b,x,y,ha,hb,h=>by injection h with h1 h2;rw[Zr,not_or]at ha hb;obtain⟨e1,e2⟩:=nS ha.2 hb.2 h2;exact⟨by rw[h1,e1],e2⟩
theorem cg(c:Nat)(a b:Str)(r:List Str):(Str.join (ch1 c) (a::b::r)).cps.toList=a.cps.toList++c::(Str.join (ch1 c) (b::r)).cps.toList:=by have e:Str.join (ch1 c) (a::b::r)=a++ch1 c++Str.join (ch1 c) (b::r):=rfl;rw[e,aM,aM,Ab];simp
theorem iP{c:Nat}:∀{l m:List Str},l≠[]->m≠[]->(∀p∈l,c∉p.cps.toList)->(∀p∈m,c∉p.cps.toList)->Str.join (ch1 c) l=Str.join (ch1 c) m->l=m
 | [],_,h,_,_,_,_=>absurd rfl h
 |_,[],_,h,_,_,_=>absurd rfl h
 | [a],[b],_,_,_,_,h=>by rw[show a=b from h]
 | [a],b::b2::r,_,_,ha,_,h=>by have:=ZT Str.cps h;have:=ZT Array.toList this;rw[cg]at this;exact absurd (show c∈a.cps.toList by rw[show a.cps.toList=_ from this];simp) (ha a (by simp))
 |a::a2::r,[b],_,_,_,hb,h=>by have:=ZT Str.cps h;have:=ZT Array.toList this;rw[cg]at this;exact absurd (show c∈b.cps.toList by rw[show b.cps.toList=_ from this.symm];simp) (hb b (by simp))
 |a::a2::r,b::b2::r2,_,_,ha,hb,h=>by have:=ZT Str.cps h;have:=ZT Array.toList this;rw[cg,cg]at this;obtain⟨e1,e2⟩:=nS (ha a (by simp)) (hb b (by simp)) this;have ih:=iP (l:=a2::r) (m:=b2::r2) (by simp) (by simp) (fun p hp=>ha p (Zt _ hp)) (fun p hp=>hb p (Zt _ hp)) (bM e2);rw[bM e1,ih]
theorem iH(x y:Str):Txt.split x y≠[]:=by
 unfold Txt.split;split
 ·simp
 ·split
  ·simp
  ·intro h;have:=ZT List.length h;rw[length_partsBetween]at this;simp at this
theorem aR{c:Nat}{l:List Str}(h:l≠[])(hf:∀p∈l,c∉p.cps.toList):Txt.split (Str.join (ch1 c) l) (ch1 c)=l :=
 iP (iH _ _) h (StrLaws.split_free _ c) hf (Yv _ _)
theorem cH{c:Nat}{a:Str}{r:List Str}(ha:c∉a.cps.toList)(hr:r≠[]):Txt.split (Str.join (ch1 c) (a::r)) (ch1 c)=a::Txt.split (Str.join (ch1 c) r) (ch1 c):=by
 refine iP (iH _ _) (by simp) (StrLaws.split_free _ c) (fun p hp=>?_) ?_
 ·rcases Zr.mp hp with rfl|hp
  ·exact ha
  ·exact StrLaws.split_free _ c p hp
 ·rw[show Str.join (ch1 c) (Txt.split (Str.join (ch1 c) (a::r)) (ch1 c))=_ from Yv _ _];obtain⟨b,r2,rfl⟩:∃b r2,r=b::r2:=by
   cases r with
   |nil=>exact absurd rfl hr
   |cons b r2=>exact⟨b,r2,rfl⟩
  obtain⟨b',r2',e⟩:∃b' r2',Txt.split (Str.join (ch1 c) (b::r2)) (ch1 c)=b'::r2':=by
   cases e:Txt.split (Str.join (ch1 c) (b::r2)) (ch1 c)with
   |nil=>exact absurd e (iH _ _)
   |cons b' r2'=>exact⟨b',r2',rfl⟩
  refine bM ?_;rw[cg];have e3:Str.join (ch1 c) (Txt.split (Str.join (ch1 c) (b::r2)) (ch1 c))=Str.join (ch1 c) (b::r2):=Yv _ _;rw[e]at e3 ⊢;rw[cg,e3]
theorem gP(s sub:Str)(hi k L:Nat)(hk:k<=L):∀(l:List Nat) (st:Array Nat×Nat),st.1.size<=k ->
  (forIn l st (StrLaws.occBody s sub hi k)).run.1.toList=(forIn l st (StrLaws.occBody s sub hi L)).run.1.toList.take k/\∃r,(forIn l st (StrLaws.occBody s sub hi L)).run.1.toList=st.1.toList++r
 | [],st,h=>by refine⟨?_,[],by simp⟩;show st.1.toList=st.1.toList.take k;rw[ZL (by rw[Zz];exact h)]
 |i::l,st,h=>by
  rw[List.forIn_cons,List.forIn_cons];have big:∀st':Array Nat×Nat,st'.1.size<=L->∃r,(forIn l st' (StrLaws.occBody s sub hi L)).run.1.toList=st'.1.toList++r:=fun st' hs=>(gP s sub hi L L (Zg _) l st' hs).2;by_cases c1:((st.1.size<L/\st.2<=i)/\i+sub.length<=hi)/\Builtin.Str.subAt s sub i=true
  ·by_cases c2:st.1.size<k
   ·have e1:StrLaws.occBody s sub hi k i st=pure (ForInStep.yield (st.1.push i,i+sub.length)):=by unfold StrLaws.occBody;rw[BK ⟨⟨⟨c2,c1.1.1.2⟩,c1.1.2⟩,c1.2⟩]
    have e2:StrLaws.occBody s sub hi L i st=pure (ForInStep.yield (st.1.push i,i+sub.length)):=by unfold StrLaws.occBody;rw[BK c1]
    rw[e1,e2];have ih:=gP s sub hi k L hk l (st.1.push i,i+sub.length) (by show(st.1.push i).size<=k;rw[Array.size_push];exact c2);refine⟨ih.1,?_⟩;obtain⟨r,hr⟩:=ih.2;refine⟨i::r,?_⟩;show(forIn l (st.1.push i,i+sub.length) (StrLaws.occBody s sub hi L)).run.1.toList=_;rw[hr];simp
   ·have e1:StrLaws.occBody s sub hi k i st=pure (ForInStep.yield (st.1,st.2)):=by unfold StrLaws.occBody;rw[BJ fun z=>c2 z.1.1.1]
    have e2:StrLaws.occBody s sub hi L i st=pure (ForInStep.yield (st.1.push i,i+sub.length)):=by unfold StrLaws.occBody;rw[BK c1]
    rw[e1,e2];have ih:=gP s sub hi k L hk l (st.1,st.2) h;have es:st.1.toList.length=k:=by rw[Zz];omega
    obtain⟨r0,hr0⟩:=ih.2;obtain⟨r,hr⟩:=big (st.1.push i,i+sub.length) (by show(st.1.push i).size<=L;rw[Array.size_push];exact c1.1.1.1);have hr':(forIn l (st.1.push i,i+sub.length) (StrLaws.occBody s sub hi L)).run.1.toList=st.1.toList++i::r:=by rw[hr];simp
    have i1:(forIn l (st.1,st.2) (StrLaws.occBody s sub hi k)).run.1.toList=st.1.toList:=by rw[ih.1,hr0,List.take_append_of_le_length (by omega),ZL (by omega)]
    refine⟨?_,i::r,hr'⟩;show(forIn l (st.1,st.2) (StrLaws.occBody s sub hi k)).run.1.toList=(forIn l (st.1.push i,i+sub.length) (StrLaws.occBody s sub hi L)).run.1.toList.take k;rw[i1,hr',List.take_append_of_le_length (by omega),ZL (by omega)]
  ·have e1:StrLaws.occBody s sub hi k i st=pure (ForInStep.yield (st.1,st.2)):=by unfold StrLaws.occBody;rw[BJ fun z=>c1 ⟨⟨⟨Zm z.1.1.1 hk,z.1.1.2⟩,z.1.2⟩,z.2⟩]
   have e2:StrLaws.occBody s sub hi L i st=pure (ForInStep.yield (st.1,st.2)):=by unfold StrLaws.occBody;rw[BJ c1]
   rw[e1,e2];exact gP s sub hi k L hk l (st.1,st.2) h
theorem jY(x y:Str){k:Nat}(hk:k<=x.length+1):Builtin.Str.occurrences x y 0 x.length k=(Builtin.Str.occurrences x y 0 x.length (x.length+1)).take k:=by rw[StrLaws.occ_eq,StrLaws.occ_eq];exact(gP x y x.length k (x.length+1) hk _ _ (Yi _)).1
theorem qd(x y:Str):∀(cuts:List Nat) (a f:Nat),StrLaws.ChainTo x y x.length a cuts f->∀k,k<=cuts.length ->
  StrLaws.partsFrom x y.length a (cuts.take k)=(StrLaws.partsFrom x y.length a cuts).take k++[Str.join y ((StrLaws.partsFrom x y.length a cuts).drop k)]
 |cuts,a,f,h,0,_=>by rw[List.take_zero,List.take_zero,Yr,StrLaws.join_partsFrom x y cuts a f h];rfl
 |c::r,a,f,h,k+1,hk=>by have ih:=qd x y r (c+y.length) f h.2.2 k (Nat.le_of_succ_le_succ hk);rw[List.take_succ_cons];show StrLaws.partsFrom x y.length a (c::r.take k)=_;unfold StrLaws.partsFrom;rw[List.take_succ_cons,List.drop_succ_cons,ih];rfl
theorem tI(x:Str)(w:Nat):∀(cuts:List Nat) (a:Nat),(StrLaws.partsFrom x w a cuts).length=cuts.length+1
 | [],_=>rfl
 |c::r,a=>by unfold StrLaws.partsFrom;rw[Zq,tI x w r,Zq]
theorem pI(x y:Str){k:Nat}(hk:k<(Txt.split x y).length):Txt.splitMax x y (k:Int)=(Txt.split x y).take k++[Str.join y ((Txt.split x y).drop k)]:=by
 have hl:PySem.limitOf x (k:Int)=k:=by unfold PySem.limitOf;rw[BJ (by omega)];omega
 have js:=Yv x y;unfold Txt.splitMax;unfold Txt.split at hk js ⊢;rw[hl];by_cases c1:(decide (x.length<y.length) ||decide (Builtin.Str.strKind x<Builtin.Str.strKind y))=true
 ·rw[BK c1]at hk ⊢;rw[BK c1];have:k=0:=by simpa using hk
  subst this;rfl
 ·rw[BJ c1]at hk js ⊢;rw[BJ c1];by_cases c2:(Builtin.Str.occurrences x y 0 x.length (x.length+1)).isEmpty=true
  ·rw[BK c2]at hk ⊢;have k0:k=0:=by simpa using hk
   subst k0;rw[jY x y (Yi _),List.take_zero];rfl
  ·rw[BJ c2]at hk js ⊢;rw[StrLaws.partsBetween_eq]at hk js;rw[tI]at hk;have ol:=StrLaws.occ_length_le x y 0 x.length (x.length+1);rw[jY x y (by omega)];obtain⟨f,ch⟩:=StrLaws.occ_chain x y (x.length+1);have pt:=qd x y _ 0 f ch k (by omega);by_cases c3:((Builtin.Str.occurrences x y 0 x.length (x.length+1)).take k).isEmpty=true
   ·rw[BK c3];have k0:k=0:=by
     rw[List.isEmpty_iff]at c3 c2;cases k with
     |zero=>rfl
     |succ k =>
      cases e:Builtin.Str.occurrences x y 0 x.length (x.length+1)with
      |nil=>exact absurd e c2
      |cons a r=>rw[e]at c3;cases c3
    subst k0;rw[List.take_zero,Yr,StrLaws.partsBetween_eq,js];rfl
   ·rw[BJ c3,StrLaws.partsBetween_eq,StrLaws.partsBetween_eq];exact pt
theorem mZ{c:Nat}:∀{pre:List Str} {t:Str},(∀p∈pre,c∉p.cps.toList)->Txt.splitMax (Str.join (ch1 c) (pre++[t])) (ch1 c) (pre.length:Int)=pre++[t]:=fun{pre t} hp=>by
 have e:∀pre:List Str,(∀p∈pre,c∉p.cps.toList)->Txt.split (Str.join (ch1 c) (pre++[t])) (ch1 c)=pre++Txt.split t (ch1 c):=fun pre=>by
  induction pre with
  |nil=>intro _;rfl
  |cons a r ih =>intro h;rw[List.cons_append,cH (h a Zu) (by simp),ih fun p hp=>h p (Zt _ hp)];rfl
 have l1:0<(Txt.split t (ch1 c)).length:=List.length_pos_iff.mpr (iH _ _);rw[pI _ _ (by rw[e pre hp,Zh];omega),e pre hp,List.take_left,List.drop_left,show Str.join (ch1 c) (Txt.split t (ch1 c))=t from Yv _ _]
open PySem PySem.Spec PyProof.Rows PySem.W
def ya(K:PySem.W.Frag)(a b:Addr)(xs ys:List V):It :=
 ⟨fun i H=>i<xs.length/\SqT K H a xs/\SqL K H b ys,fun i H x H'=>∃T p q,H T=none/\xs[i]?=some p/\ys[i]?=some q/\x=.ref T/\H'=upd H T (.tup [p,q]),fun i H=>i=xs.length/\SqT K H a xs/\SqL K H b ys⟩
abbrev Aa(z u v i1 i2 a b:Addr):Nat->Heap->Prop:=fun i h=>IsZip h z u v .none/\IsPair h u (.ref i1) (.ref i2)/\(∃p q,IsPair h v p q)/\h.IsTupleIter i1 a i/\h.IsListIter i2 b i
theorem uq{P:Program}{w:World}{K:PySem.W.Frag}{elts:List Expr}{kt:Nat}{tp:Pos}{z u v i1 i2 a b:Addr}{xs ys:List V}(hl:xs.length=ys.length)(D:[z,u,v,i1,i2].Nodup)(ha:∀c∈[z,u,v,i1,i2],c≠a/\c≠b) :
  Turn P w K (.Tuple elts kt tp) (ya K a b xs ys) [z,u,v,i1,i2] z (Aa z u v i1 i2 a b):=by
 have nd:(z≠u/\z≠v/\z≠i1/\z≠i2)/\(u≠v/\u≠i1/\u≠i2)/\(v≠i1/\v≠i2)/\i1≠i2:=by simpa using D
 obtain⟨⟨zu,zv,z1,z2⟩,⟨uv,u1,u2⟩,⟨v1,v2⟩,i12⟩:=nd;have az:=ha z (by simp);have av:=ha v (by simp);have a1:=ha i1 (by simp);have a2:=ha i2 (by simp);have ap:ZAp z u v i1 i2 [i1,a] [i2,b]:=⟨zu.symm,zv.symm,uv,u1,u2,v1,v2,z1.symm,z2.symm,i12,by simp[z1,az.1],by simp[z2,az.2],by simp[v1,av.1],by simp[v2,av.2],by simp[i12.symm,a2.1],by simp[i12,a1.2]⟩
 refine⟨by simp,fun i h st c hc=>?_,fun i h h' st k=>?_,?_,?_,fun A i s Q E st h=>wpAny_pyIter_zip st.1 h⟩
 ·obtain⟨e1,e2,⟨p,q,e3⟩,⟨o4,e4,_,d4⟩,⟨o5,e5,_,d5⟩⟩:=st;simp only[Zr,ZK,Yg]at hc;rcases hc with rfl|rfl|rfl|rfl|rfl
  ·exact⟨_,e1,fun v z=>nomatch z⟩
  ·exact⟨_,e2,fun v z=>nomatch z⟩
  ·exact⟨_,e3,fun v z=>nomatch z⟩
  ·exact⟨_,e4,fun v z=>by rw[d4]at z;cases z⟩
  ·exact⟨_,e5,fun v z=>by rw[d5]at z;cases z⟩
 ·obtain⟨e1,e2,⟨p,q,e3⟩,⟨o4,e4,r4⟩,⟨o5,e5,r5⟩⟩:=st;exact⟨k z (by simp) _ e1,k u (by simp) _ e2,⟨p,q,k v (by simp) _ e3⟩,⟨o4,k i1 (by simp) _ e4,r4⟩,⟨o5,k i2 (by simp) _ e5,r5⟩⟩
 ·intro X hP hw hK hc i pins s σ H E I hf st hg;subst hP hw hK;obtain⟨e1,e2,⟨p,q,e3⟩,e4,e5⟩:=st;obtain⟨hi,hx,hy⟩:=hg;obtain⟨its,rx,px,zx⟩:=I.tuple hx;obtain⟨jts,ry,py,zy⟩:=I.list hy;have lx:i<its.toArray.size:=by rw[Zj,<-rx.length];exact hi
  have ly:i<jts.toArray.size:=by rw[Zj,<-ry.length,<-hl];exact hi
  have hh:=I.ok.hd hc;have hT:s.TypeIs (.ref z) "zip":=⟨_,e1,rfl⟩
  unfold pyNext;refine z9 (wpAny_attempt (ZY (name:=Str.ofString "__next__") hT Yo (y9 Yo hT F.entry_zip_next
   (pj (cQ (A:=X.A.in1) hh i1 a a1.1.symm its.toArray) (Draws.list (A:=X.A.in1) hh i2 b a2.2.symm jts.toArray) ap e1 e2 e3 ⟨e4,px⟩ ⟨e5,py.isList⟩ lx ly fun h' tk x y qx qy zz vv s1 s2 pp kp=>Zk ?_) (F.args_zip_next_1 _))))
  refine⟨_,rfl,wpAny_letOwnedTupleGo_zip (s:={ s with heap:=h',toks:=tk }) zz fun h2 z2' sb=>?_⟩;obtain⟨xv,ex⟩:∃xv,xs[i]?=some xv:=⟨xs[i],by simp[hi]⟩
  obtain⟨yv,ey⟩:∃yv,ys[i]?=some yv:=⟨ys[i]'(by omega),by simp[show i<ys.length by omega]⟩
  obtain⟨x',gx,rxv⟩:=rx.get ex;obtain⟨y',gy,ryv⟩:=ry.get ey;have qx':its[i]?=some x:=by simpa using qx
  have qy':jts[i]?=some y:=by simpa using qy
  rw[gx]at qx';rw[gy]at qy';cases qx';cases qy';have ltz:z<s.heap.objs.size:=Zl e1;have kp2:∀c o,c∉[z,u,v,i1,i2]->s.heap.get? c=some o->h2.get? c=some o:=fun c o hc e=>by simp only[Zr,ZK,Yg,not_or]at hc;exact sb.extBut c o hc.1 (kp c o hc.1 hc.2.2.1 hc.2.2.2.1 hc.2.2.2.2 e)
  have tT:IsTup h2 s.heap.objs.size [x,y].toArray:=⟨_,sb.extBut _ _ (Yn ltz) pp,rfl,_,rfl⟩
  refine⟨.ref s.heap.objs.size,upd H s.heap.objs.size (.tup [xv,yv]),I.turnT (t':=tk) hf kp2 tT (.cons rxv (.cons ryv .nil)) (sz rfl),rfl,⟨_,xv,yv,I.hok.fresh (Zg _),ex,ey,rfl,rfl⟩,?_,fun c hc=>?_⟩
  ·exact⟨z2',sb.extBut _ _ zu.symm (kp _ _ zu.symm uv u1 u2 e2),⟨_,_,sb.extBut _ _ zv.symm vv⟩,s1.1.extBut sb.extBut z1.symm,s2.1.extBut sb.extBut z2.symm⟩
  ·rw[aB]
   ·exact(hf c hc).1
   ·obtain⟨o,eo,_⟩:∃o,s.heap.get? c=some o/\True:=by
     simp only[Zr,ZK,Yg]at hc;rcases hc with rfl|rfl|rfl|rfl|rfl
     ·exact⟨_,e1,trivial⟩
     ·exact⟨_,e2,trivial⟩
     ·exact⟨_,e3,trivial⟩
     ·obtain⟨o,eo,_⟩:=e4;exact⟨o,eo,trivial⟩
     ·obtain⟨o,eo,_⟩:=e5;exact⟨o,eo,trivial⟩
    exact ZG (Zl eo)
 ·intro X hP hw hK hc i pins s σ H E I hf st hg;subst hP hw hK;obtain⟨e1,e2,⟨p,q,e3⟩,e4,e5⟩:=st;obtain⟨rfl,hx,hy⟩:=hg;obtain⟨its,rx,px,zx⟩:=I.tuple hx;obtain⟨jts,ry,py,zy⟩:=I.list hy;have lx:its.toArray.size=xs.length:=by rw[Zj,<-rx.length]
  have hh:=I.ok.hd hc;have hT:s.TypeIs (.ref z) "zip":=⟨_,e1,rfl⟩
  unfold pyNext;refine z9 (wpAny_attempt (ZY (name:=Str.ofString "__next__") hT Yo (y9 Yo hT F.entry_zip_next
   (qu (cQ (A:=X.A.in1) hh i1 a a1.1.symm its.toArray) (Draws.list (A:=X.A.in1) hh i2 b a2.2.symm jts.toArray) ap e1 e2 e3 ⟨by rw[lx];exact e4,px⟩ fun h' e kp he=>?_) (F.args_zip_next_1 _))))
  obtain⟨o,ho,hco⟩:=he;refine z9 (wpAny_isInstance (T:="StopIteration") (b:=true) ⟨o,ho,hco⟩ isSubtype_stop (Zk ⟨rfl,?_⟩));exact I.turnM (t':=s.toks) hf fun c ob hc e=>by simp only[Zr,ZK,Yg,not_or]at hc;exact kp c ob hc.1 hc.2.2.1 hc.2.2.2.1 hc.2.2.2.2 e
theorem qO(l1 l2:Addr)(xs ys:Array Value) :
  Meets (Builtin.«zip.__new__» ⟨[.type "zip",.ref l1,.ref l2],[]⟩) (fun _ R s=>s.heap.IsTuple l1 xs/\s.heap.IsList l2 ys /\
   R (.ok (.ret (.ref ((((s.heap.push { cls:=.type "tuple_iterator",data:=.fields #[.ref l1,.int 0 0] }).push { cls:=.type "list_iterator",data:=.fields #[.ref l2,.int 0 0] }).push { cls:=.type "tuple",data:=.seq #[.ref s.heap.objs.size,.ref (s.heap.push { cls:=.type "tuple_iterator",data:=.fields #[.ref l1,.int 0 0] }).objs.size] }).push { cls:=.type "tuple",data:=.seq #[.none,.none] }).objs.size)))
    { s with heap:=((((s.heap.push { cls:=.type "tuple_iterator",data:=.fields #[.ref l1,.int 0 0] }).push { cls:=.type "list_iterator",data:=.fields #[.ref l2,.int 0 0] }).push { cls:=.type "tuple",data:=.seq #[.ref s.heap.objs.size,.ref (s.heap.push { cls:=.type "tuple_iterator",data:=.fields #[.ref l1,.int 0 0] }).objs.size] }).push { cls:=.type "tuple",data:=.seq #[.none,.none] }).push { cls:=.type "zip",data:=.fields #[.none,.bool false,.bool false,.ref ((s.heap.push { cls:=.type "tuple_iterator",data:=.fields #[.ref l1,.int 0 0] }).push { cls:=.type "list_iterator",data:=.fields #[.ref l2,.int 0 0] }).objs.size,.ref (((s.heap.push { cls:=.type "tuple_iterator",data:=.fields #[.ref l1,.int 0 0] }).push { cls:=.type "list_iterator",data:=.fields #[.ref l2,.int 0 0] }).push { cls:=.type "tuple",data:=.seq #[.ref s.heap.objs.size,.ref (s.heap.push { cls:=.type "tuple_iterator",data:=.fields #[.ref l1,.int 0 0] }).objs.size] }).objs.size] } }) :=
 .of_wp fun prog w A R s h=>by
  obtain⟨hp,g,d,tk,os⟩:=s;obtain⟨t1,t2,h⟩:=h;have hsub:=sub_zip;have T1:Heap.IsTuple (Shared.heap ⟨hp,g,d,tk,os⟩) l1 xs:=t1;have T2:Heap.IsList (Shared.heap ⟨hp.push { cls:=.type "tuple_iterator",data:=.fields #[.ref l1,.int 0 0] },g,d,tk,os⟩) l2 ys:=Heap.IsList.push t2 _
  wp_walk using wpAny_pyIter_tuple T1,wpAny_pyIter_list T2
  exact⟨_,rfl,h⟩
def wq(K:PySem.W.Frag)(ta:TA):TI:=fun σ H R=>ta σ H fun vs H1=>∃a b xs ys,vs=[.ref a,.ref b]/\SqT K H1 a xs/\SqL K H1 b ys/\xs.length=ys.length/\R (ya K a b xs ys) H1
section
variable{X:Cx}
theorem xB{e1 e2:Expr}{ta:TA}{p pos tp:Pos}{elts:List Expr}{kt:Nat}(hg:Gl X "zip")(hm:X.mg "zip" = none)(ha:PA X [e1,e2] ta)(n1:aP e1=true)(n2:aP e2=true):PI X (.Tuple elts kt tp) (.Call (.Name "zip" p) [e1,e2] [] pos) (wq X.K ta):=by
 intro pins s σ H R I h;refine Call_ (gO I hg hm boot_zip (Yt (thn (ha pos pins s σ H _ I h) fun us s1 hz9=>?_) (aT n1) (bX (by simp[n2]))));obtain⟨vs,H1,I1,r1,q1⟩:=hz9;obtain⟨a,b,xs,ys,e,hx,hy,hl,q⟩:=q1;subst e;obtain⟨ua,ub,rfl,ra,rb⟩:=lB r1;cases ra;cases rb;obtain⟨its,rx,px,zx⟩:=I1.tuple hx;obtain⟨jts,ry,py,zy⟩:=I1.list hy;refine callType_new F.called_zip (by decide) (F.typeCall_zip_2 _ _) (F.newCall_zip_2 _ _) (fun obj=>F.args_object_init_3 obj _ _) F.entry_zip_new (qO a b its.toArray jts.toArray) ⟨px,py.isList,?_⟩;generalize ea:({ cls:=.type "tuple_iterator",data:=.fields #[.ref a,.int 0 0] }:Obj)=oa;generalize eb:({ cls:=.type "list_iterator",data:=.fields #[.ref b,.int 0 0] }:Obj)=ob;have z1:(s1.heap.push oa).objs.size=s1.heap.objs.size+1:=Ye ..;have z2:((s1.heap.push oa).push ob).objs.size=s1.heap.objs.size+2:=by rw[Ye,z1]
 rw[z2,z1];generalize eu:({ cls:=.type "tuple",data:=.seq #[.ref s1.heap.objs.size,.ref (s1.heap.objs.size+1)] }:Obj)=ou;have z3:(((s1.heap.push oa).push ob).push ou).objs.size=s1.heap.objs.size+3:=by rw[Ye,z2]
 generalize ev:({ cls:=.type "tuple",data:=.seq #[.none,.none] }:Obj)=ov;have z4:((((s1.heap.push oa).push ob).push ou).push ov).objs.size=s1.heap.objs.size+4:=by rw[Ye,z3]
 rw[z4,z3];generalize ez:({ cls:=.type "zip",data:=.fields #[.none,.bool false,.bool false,.ref (s1.heap.objs.size+2),.ref (s1.heap.objs.size+3)] }:Obj)=oz;have g5:(((((s1.heap.push oa).push ob).push ou).push ov).push oz).get? (s1.heap.objs.size+4)=some oz:=by rw[<-z4];exact Zs _ (by rw[<-ez];rfl)
 have g4:(((((s1.heap.push oa).push ob).push ou).push ov).push oz).get? (s1.heap.objs.size+3)=some ov:=by rw[<-z3];exact Zb _ (Zs _ (by rw[<-ev];rfl))
 have g3:(((((s1.heap.push oa).push ob).push ou).push ov).push oz).get? (s1.heap.objs.size+2)=some ou:=by rw[<-z2];exact Zb _ (Zb _ (Zs _ (by rw[<-eu];rfl)))
 have g2:(((((s1.heap.push oa).push ob).push ou).push ov).push oz).get? (s1.heap.objs.size+1)=some ob:=by rw[<-z1];exact Zb _ (Zb _ (Zb _ (Zs _ (by rw[<-eb];rfl))))
 have g1:(((((s1.heap.push oa).push ob).push ou).push ov).push oz).get? s1.heap.objs.size=some oa:=Zb _ (Zb _ (Zb _ (Zb _ (Zs _ (by rw[<-ea];rfl)))));have kp:∀c o,s1.heap.get? c=some o->(((((s1.heap.push oa).push ob).push ou).push ov).push oz).get? c=some o:=fun c o e=>Zb _ (Zb _ (Zb _ (Zb _ (Zb _ e))));generalize((((s1.heap.push oa).push ob).push ou).push ov).push oz=hN at g1 g2 g3 g4 g5 kp ⊢;have I2:Inv X pins σ H1 { s1 with heap:=hN }:=I1.kept (t':=s1.toks) kp;have la:a<s1.heap.objs.size:=px.lt;have lb:b<s1.heap.objs.size:=(let⟨_,ho,_⟩:=py.isList;Zl ho)
 subst ea eb eu ev ez;have base:∀c∈[s1.heap.objs.size+4,s1.heap.objs.size+2,s1.heap.objs.size+3,s1.heap.objs.size,s1.heap.objs.size+1],s1.heap.objs.size<=c:=fun c hc=>by simp only[Zr,ZK,Yg]at hc;omega
 refine⟨⟨_,g5,rfl⟩,?_⟩;show wpAny (model X.prog X.w) X.A (pyIter (.ref (s1.heap.objs.size+4))) (PIE X pins σ (.Tuple elts kt tp) R) X.xe { s1 with heap:=hN };refine wpAny_pyIter_zip g5 ?_;refine⟨s1.heap.objs.size+4,[s1.heap.objs.size+4,s1.heap.objs.size+2,s1.heap.objs.size+3,s1.heap.objs.size,s1.heap.objs.size+1],Aa (s1.heap.objs.size+4) (s1.heap.objs.size+2) (s1.heap.objs.size+3) s1.heap.objs.size (s1.heap.objs.size+1) a b,_,H1,rfl,I2,
  uq hl ?_ (fun c hc=>⟨Yn (Zm la (base c hc)),Yn (Zm lb (base c hc))⟩),⟨g5,g3,⟨_,_,g4⟩,⟨_,g1,rfl,rfl⟩,⟨_,g2,rfl,rfl⟩⟩,fun c hc=>?_,q⟩
 ·exact sX s1.heap.objs.size
 ·exact I1.fpOk (base c hc) (I1.hok.fresh (base c hc))
theorem yt{e1 e2:Expr}{ta:TA}{p pos tp:Pos}{elts:List Expr}{kt:Nat}(hm:X.mg "zip" = none)(ha:QA X [e1,e2] ta)(hg:Gl X "zip":=by rfl)(n1:aP e1=true:=by rfl)(n2:aP e2=true:=by rfl):QI X (.Tuple elts kt tp) (.Call (.Name "zip" p) [e1,e2] [] pos) (wq X.K ta):=⟨xB hg hm ha.h n1 n2⟩
end
section
variable{X:Cx}{x:Str}{pos:Pos}
theorem A5{s:Str}{tk:Tok}(hm:X.mg x=some (.str s tk))(hg:Gl X x:=by rfl)(hd:(x==("__debug__":Str))=false:=by decide):QE X (.Name x pos) (tC (.str s)):=⟨lT hg hm ⟨_,rfl⟩ hd⟩
end
open PySem PySem.Spec PyProof.Rows PySem.W
def dg(n:Nat):List Nat:=(Nat.toDigits 10 n).map Char.toNat
theorem dch{d:Nat}(h:d<10):(Nat.digitChar d).toNat=48+d:=by
 have:∀d:Nat,d<10->(Nat.digitChar d).toNat=48+d:=by decide
 exact this d h
theorem ge{n:Nat}(h:n<10):dg n=[48+n]:=by unfold dg;rw[Nat.toDigits_of_lt_base h,ZH,dch h];rfl
theorem gN{n:Nat}(h:¬n<10):dg n=dg (n / 10)++[48+n%10]:=by have hm:n%10<10:=Nat.mod_lt n (by decide);have t:Nat.toDigits 10 (n / 10)++Nat.toDigits 10 (n%10)=Nat.toDigits 10 (10*(n / 10)+n%10):=Nat.toDigits_append_toDigits (by decide) (by omega) hm;rw[Nat.div_add_mod]at t;unfold dg;rw[<-t,ZO,Nat.toDigits_of_lt_base hm,ZH,dch hm];rfl
theorem gM(n:Nat):∀c∈dg n,48<=c/\c<=57:=by
 induction n using Nat.strongRecOn with
 |_ n ih =>
  intro c hc;by_cases h:n<10
  ·rw[ge h]at hc;have:=Ze.mp hc;omega
  ·rw[gN h]at hc;have hm:n%10<10:=Nat.mod_lt n (by decide);rcases ZE.mp hc with hc|hc
   ·exact ih (n / 10) (by omega) c hc
   ·have:=Ze.mp hc;omega
theorem ie(n:Nat):dg n≠[]:=by
 by_cases h:n<10
 ·rw[ge h];simp
 ·rw[gN h];simp
theorem nV:∀(k:Nat) {n:Nat},n<10^(k+1)->(dg n).length<=k+1
 |0,n,h=>by rw[ge (by simpa using h)];simp
 |k+1,n,h=>by
  by_cases c:n<10
  ·rw[ge c];simp
  ·rw[gN c,Zh];have:=nV k (n:=n / 10) (by rw[Nat.div_lt_iff_lt_mul (by decide)];rw[Nat.pow_succ]at h;exact h);simp;omega
theorem pR(n:Nat):n≠0->(dg n).head?≠some 48:=by
 induction n using Nat.strongRecOn with
 |_ n ih =>
  intro h0;by_cases h:n<10
  ·rw[ge h];intro z;have:48+n=48:=Zo z;omega
  ·rw[gN h];have:=ih (n / 10) (by omega) (by omega);cases e:dg (n / 10)with
   |nil=>exact absurd e (ie _)
   |cons a r =>rw[e]at this;exact this
theorem cC{i:Int}(h:0<=i):(ag i).cps.toList=dg i.toNat:=by have:=KIN.signs_num i.toNat;rw[show((i.toNat:Nat):Int)=i by omega]at this;exact this
theorem cD{i:Int}(h:i<0):(ag i).cps.toList=45::dg i.natAbs:=by
 obtain⟨n,rfl⟩:∃n,i=Int.negSucc n:=⟨(-i-1).toNat,by omega⟩
 have e:toString (Int.negSucc n)="-"++Nat.repr (n+1):=rfl;unfold ag;rw[e,signs_ofString,String.toList_append,ZO];have e2:(Nat.repr (n+1)).toList=Nat.toDigits 10 (n+1):=by simp[Nat.repr]
 rw[e2];rfl
theorem kK{i:Int}(h:i.natAbs<10^60):PySem.intText? (ag i)=some i:=by
 have hl:=nV 59 h;by_cases c:0<=i
 ·have e:=cC c;have e2:i.toNat=i.natAbs:=by omega
  have ln:(ag i).length<=4300:=by show(ag i).cps.size<=_;rw[<-Zz,e,e2];omega
  have:=intText_digits (x:=ag i) (by rw[e];exact gM _) (by rw[e];exact ie _) ln;rw[this,e];have v:=KIN.val_back i.toNat;show some ((NumText.digitsVal ((Nat.toDigits 10 i.toNat).map Char.toNat):Nat):Int)=_;rw[v];congr 1;omega
 ·have e:=cD (i:=i) (by omega);have ln:(ag i).length<=4300:=by show(ag i).cps.size<=_;rw[<-Zz,e,Zq];omega
  have:=intText_neg (x:=ag i) e (gM _) (ie _) ln;rw[this];have v:=KIN.val_back i.natAbs;show some (-((NumText.digitsVal ((Nat.toDigits 10 i.natAbs).map Char.toNat):Nat):Int))=_;rw[v];congr 1;omega
theorem aQ(i:Int):∀c∈(ag i).cps.toList,c=45\/(48<=c/\c<=57):=fun c hc=>by
 by_cases h:0<=i
 ·rw[cC h]at hc;exact .inr (gM _ c hc)
 ·rw[cD (by omega)]at hc;rcases Zr.mp hc with h|h
  ·exact .inl h
  ·exact .inr (gM _ c h)
theorem mM{x:Str}{c:Nat}:Txt.startswith x (ch1 c)=decide (x.cps.toList.head?=some c):=by
 obtain⟨a⟩:=x;show(decide (0+1<=a.size)&&(a.extract 0 (0+1) == #[c]))=_;rw[y7,Zy,Yw,Yw,beq_iff_eq];constructor
 ·rintro⟨h1,h2⟩;have:=ZT Array.toList h2;rw[Array.toList_extract]at this;cases e:a.toList with
  |nil =>
   have:a.size=0:=by rw[<-Zz,e];rfl
   omega
  |cons b r =>rw[e]at this;simp at this;rw[List.head?_cons,this]
 ·intro h;cases e:a.toList with
  |nil=>rw[e]at h;cases h
  |cons b r =>
   rw[e,List.head?_cons]at h;have hb:b=c:=Zo h;have hs:a.size=r.length+1:=by rw[<-Zz,e];rfl
   refine⟨by omega,?_⟩;apply Array.toList_inj.mp;rw[Array.toList_extract,e,hb];simp
theorem xj(x:Str)(c:Nat):(!(Builtin.Str.occurrences x (ch1 c) 0 x.length 1).isEmpty)=decide (c∈x.cps.toList):=by
 have h:=StrLaws.occ_head x (ch1 c) 1 (Zg _);have at_:∀k,StrLaws.At x (ch1 c) x.length k↔x.cps.toList[k]?=some c:=fun k=>by
  show(k+1<=x.cps.size/\(x.cps.extract k (k+1) == #[c])=true)↔_;rw[beq_iff_eq];constructor
  ·rintro⟨h1,h2⟩;have:=ZT Array.toList h2;rw[Array.toList_extract]at this;have hk:k<x.cps.toList.length:=by rw[Zz];omega
   rw[Za hk];have e:(x.cps.toList.extract k (k+1))=[x.cps.toList[k]]:=by rw[List.extract_eq_drop_take,List.drop_eq_getElem_cons hk];simp
   rw[e]at this;simpa using this
  ·intro h;have hk:=(Zf.mp h).1;rw[Zz]at hk;refine⟨by omega,?_⟩;apply Array.toList_inj.mp;rw[Array.toList_extract,List.extract_eq_drop_take,List.drop_eq_getElem_cons (by rw[Zz];exact hk)];have:=(Zf.mp h).2;rw[this];simp
 rcases h with⟨e,no⟩|⟨i,r,e,a,_⟩
 ·rw[e];refine(decide_eq_false fun hm=>?_).symm;obtain⟨k,hk⟩:=List.getElem?_of_mem hm;exact no k ((at_ k).mpr hk)
 ·rw[e];exact(decide_eq_true (ZC ((at_ i).mp a))).symm
open PySem PySem.Spec PyProof.Rows PySem.W
theorem dX{X:Cx}{K:PySem.W.Frag}(hK:X.K=K):QCall X (.builtin "isinstance") (fun xs H Q=>∃ (x T:V) (u:Value) (b:Bool),xs=[x,T]/\(∀ v,RelV T v->v=u) /\
  ((∃ t,TyOf K H x t/\PySem.W.kitOne K t u=some b)\/∃ (a c:Addr) (dc:Option Addr),x=.ref a/\H a=some (exD a c dc)/\qv H dc/\ExK K c/\PySem.W.kitOne K (.ref c) u=some b)/\Q (.bl b) H):=by
 subst hK;exact cJ
open PySem PySem.Spec PyProof.Rows PySem.W
open PySem PySem.Spec PyProof.Rows PySem.W
section
variable{prog:Program}{w:World}{A:Around}{E:Value->Shared->Prop}{s:Shared}
def Aj(prog:Program)(w:World):Option (List Key)->Int
 |none=>0xFCA86420
 |some k=>(tupleKind (jt prog w)).hash k
def OIs(prog:Program)(w:World)(h:Heap):Option (List Key)->Value->Prop
 |none,v=>v=.none
 |some k,v=>∃a,v=.ref a/\(tupleKind (jt prog w)).is h k a
abbrev uy:=Option (List Key)×Value×Value
def yF(prog:Program)(w:World)(x:uy):DictEntry:=⟨Aj prog w x.1,x.2.1,x.2.2⟩
structure ODict(prog:Program)(w:World)(h:Heap)(d:Addr)(o:Obj)(es:Array DictEntry)(ep:Nat)(xs:List uy):Prop where
 ho:h.get? d=some o
 hd:o.data=.dict es ep
 he:es.toList=xs.map (yF prog w)
 his:∀x∈xs,OIs prog w h x.1 x.2.1
 hn:(xs.map (·.1)).Nodup
end
open PySem PySem.Spec PyProof.Rows PySem.W
abbrev OK1:=Option (List Key×Addr)
def okD:OK1->Option (List Key)
 |none=>none
 |some p=>some p.1
def okV:OK1->Value
 |none=>.none
 |some p=>.ref p.2
def oE(e:OK1×Addr):uy:=(okD e.1,okV e.1,.ref e.2)
def odO(P:Program)(w:World)(d:Addr)(kls:List (OK1×Addr)):HO:=.ext fun h=>(d==sysModules)=false/\∃(o:Obj) (es:Array DictEntry) (ep:Nat),h.get? d=some o/\o.ExactDict/\o.data=.dict es ep/\es.toList=(kls.map oE).map (yF P w)
structure OdAt(P:Program)(w:World)(H:Hp)(d:Addr)(kls:List (OK1×Addr)):Prop where
 ob:H d=some (odO P w d kls)
 ks:∀e∈kls,∀p,e.1=some p->H p.2=some (.tup (p.1.map kV))
 nd:(kls.map fun e=>okD e.1).Nodup
open PySem PySem.Spec PyProof.Rows PySem.W
open PySem PySem.Spec PyProof.Rows PySem.W
open PySem PySem.Spec PyProof.Rows PySem.W
open PySem PySem.Spec PyProof.Rows
open PySem PySem.Spec PyProof.Rows PySem.W
theorem eY{n:Nat}(h:n<=100000):n<=sizeLine:=Zd h (by decide)
theorem yC{X:Cx}:QSl X (fun x lo hi H Q=>∃z:Str,x=.str z/\z.length<=100000/\Q (.str (bu z lo hi)) H):=by
 refine⟨?_⟩;intro pins s σ H x v vl vu lo hi sl Q I rx hs pl pu h;obtain⟨z,rfl,hz,q⟩:=h;obtain⟨t,rfl⟩:=rx;have pt:∀{v:Value} {o:Option Int},IsPart v o->∃p:Option (Int×Tok),v=partValue p/\p.map (·.1)=o:=fun{v o} p=>by
  cases p with
  |none=>exact⟨none,rfl,rfl⟩
  |int i t=>exact⟨some (i,t),rfl,rfl⟩
 obtain⟨l,rfl,hl⟩:=pt pl;obtain⟨u,rfl,hu⟩:=pt pu;have e:slicePicked z l u none=Builtin.Str.strSliceIndices lo hi 1 z.length:=by unfold slicePicked;rw[hl,hu];rfl
 refine⟨"str",_,F.slot_str_getitem.lookup,typeIs_str _ _ _,wpAny_getItem_str_slice (l:=l) (u:=u) (st:=none) hs rfl ?_⟩;have hy:=dZ z lo hi;unfold sliceMade;unfold bu at q hy;rw[e];split
 ·rename_i hc;have hc':(Builtin.Str.strSliceIndices lo hi 1 z.length).length=z.length:=by simpa using hc
  rw[BK hc']at q;exact⟨.str z,H,I,⟨_,rfl⟩,q⟩
 ·rename_i hc;have hc':¬(Builtin.Str.strSliceIndices lo hi 1 z.length).length=z.length:=by simpa using hc
  rw[BJ hc']at q hy;exact⟨eY (Zd hy hz),.str _,H,I.tok _,⟨_,rfl⟩,q⟩
open PySem PySem.Spec PyProof.Rows PySem.W
open PySem PySem.Spec PyProof.Rows PySem.W
inductive IsF(a b:Str)(x:V)(R:V->Prop):Prop
 |mk (z:Str) (h0:x=.str z) (h1:a.length+z.length+b.length<=sizeLine) (q:R (.str (a++z++b))):IsF a b x R
open PySem PySem.Spec PyProof.Rows PySem.W
inductive rStrA(xs:List V)(H:Hp)(Q:VK):Prop
 |int (i:Int) (h0:xs=[.int i]) (h1:i.natAbs<10^4300) (q:Q (.str (ag i)) H):rStrA xs H Q
 |str (z:Str) (h0:xs=[.str z]) (q:Q (.str z) H):rStrA xs H Q
section
variable{X:Cx}{K:PySem.W.Frag}
inductive rNeNil(K:PySem.W.Frag)(x y:V)(H:Hp)(Q:VK):Prop
 |mk (a b:Addr) (xs:List V) (h0:x=.ref a) (h1:y=.ref b) (ha:SqL K H a xs) (hb:SqL K H b []) (q:Q (.bl (!xs.isEmpty)) H):rNeNil K x y H Q
end
open PySem PySem.Spec PyProof.Rows PySem.W
open PySem PySem.Spec PyProof.Rows PySem.W
structure MkFnX(P:Program)(w:World)(K:PySem.W.Frag)(mg:Str->Option Value)(base:Heap)(k:Nat)(C:Addr)(x:Str)(ps:List Str)(sp:Sp):Prop where
 cl:Cls K C
 mgC:mg x=some (.ref C)
 ex:∃f fd,FnOk P w K mg base (CXr P w) k f fd ps sp/\Mk K C f/\Binds K fd ps []
open PySem PySem.Spec PyProof.Rows PySem.W
def XeC(X:Cx)(E:XK)(Y:Cx):Value->Shared->Prop:=fun e s'=>∃(pins:List (Addr×Obj)) (σ:St) (H:Hp) (s:Shared),Inv Y pins σ H s/\CXr X.prog X.w X.stack H s E e s'
abbrev fF(X:Cx)(E:XK)(scope:Scope)(N':List Str)(C:Addr)(s0:Shared)(H0:Hp)(ex:List Addr):Cx:=(aA X scope N' C s0 H0 ex).wish (XeC X E (aA X scope N' C s0 H0 ex))
theorem wB{X:Cx}{E:XK}{scope:Scope}{N':List Str}{C:Addr}{s0:Shared}{H0:Hp}{ex:List Addr}:gJ (CXr X.prog X.w) (fF X E scope N' C s0 H0 ex) E:=fun pins σ H s _ _ I x=>⟨pins,σ,H,s,I.unwish,x⟩
theorem gL{prog:Program}{w:World}{A:Around}{R:Result->Shared->Prop}{s:Shared}{elt target iter:Expr}{ifs:List Expr}{scope:Scope}{pos:Pos}{it acc:Value}{env:Env}(I:Nat->Shared->Prop)(turn:∀ n s,I n s->wpAny (model prog w) A (pyNext it) (fun r s₁=>match r with
   |none=>R (.ok .next) s₁
   | some v=>wpAny (model prog w) A (letOwnedTupleGo target it v) (fun _ s₁'=>wpAny (model prog w) A (assign target env v) (fun _ s₂ =>
     wpAny (model prog w) A (forIn ifs true fun c r=>if r=true then do let ok ←isTrue c env (eval c env);pure (ForInStep.yield ok) else pure (ForInStep.yield r)) (fun ok s₃ =>
      if ok=true then wpAny (model prog w) A (eval elt env) (fun x s₄ =>
       wpAny (model prog w) A (call (.builtin "list.append") [acc,x]) (fun _ s₅=>∃ m,m<n/\I m s₅) (fun _ _=>False) s₄) (notedBy (model prog w) A env fun e s'=>R (.error e) s') s₃
      else ∃ m,m<n/\I m s₃) (fun _ _=>False) s₂) (fun _ _=>False) s₁') (fun _ _=>False) s₁) (fun _ _=>False) s)(n:Nat)(h:I n s) :
  codeAny (model prog w) A (.compLoop (.ListComp elt [⟨target,iter,ifs,0⟩] scope pos) 0 it acc env) R s:=by
 refine codeAny_loop rfl I (fun n s hI=>?_) n h;show wpAny _ A ((compTurn (.ListComp elt [⟨target,iter,ifs,0⟩] scope pos) 0 it acc env).onRaise (fun x=>do noteFrame x env;theTreesLotGoes x)) _ _ s;refine wpAny_noted ?_;rw[compTurn_list];refine z9 (wpAny_standAt (z9 (ZS (turn n s hI) (fun r s₁ h₁=>?_) fun _ _ h'=>h'.elim)));cases r with
 |none=>exact Zk h₁
 |some v =>
  refine z9 (ZS h₁ (fun _ s₁' h₁'=>?_) fun _ _ h'=>h'.elim);refine z9 (ZS h₁' (fun _ s₂ h₂=>z9 (ZS h₂ (fun ok s₃ h₃=>?_) fun _ _ h'=>h'.elim)) fun _ _ h'=>h'.elim);cases ok with
  |false=>exact Zk ⟨rfl,h₃⟩
  |true =>exact z9 (z9 (ZS h₃ (fun x s₄ h₄=>z9 (ZS h₄ (fun _ s₅ h₅=>Zk (Zk ⟨rfl,h₅⟩)) fun _ _ h'=>h'.elim)) fun _ _ h'=>h'))
section
variable{X:Cx}{pins:List (Addr×Obj)}{σ:St}{H2:Hp}{s2:Shared}{scope:Scope}{cap:List Nat}{capN own:List Str}
variable{elt tg iter:Expr}{ifs:List Expr}{pos:Pos}{g:TG}{tc:TT}{te:TE}{Q:VK}
theorem kF{EE:XK}{J:It}{fp:List Addr}{it:Addr}{tn:Nat->Heap->Prop}{E:Value->Shared->Prop}{RR:Value->Addr->Option Addr->Result->Shared->Prop}(O:CompOk X scope cap capN)(hc:X.calm=true)(hg:∀C s0 H0 ex,PG (aA X scope (own++capN) C s0 H0 ex) tg g)(gk:GK own.length g)(ht:∀C s0 H0 ex,hU (aA X scope (own++capN) C s0 H0 ex) ifs tc)(he:∀C s0 H0 ex,PE (fF X EE scope (own++capN) C s0 H0 ex) elt te)(I2:Inv X pins σ H2 s2)(T:Turn X.prog X.w X.K tg J fp it tn)(st2:tn 0 s2.heap)(f2:∀b∈fp,bF X pins H2 b)(hq:cN own.length cap g tc te σ J H2 Q)(fin:∀(D C:Addr) (s4:Shared) (H4:Hp) (ys:List V),Inv X pins σ (upd H4 D (.lst ys)) s4->(∃m,s4.heap.Ns C m)->bF X pins (upd H4 D (.lst ys)) C->Q (.ref D) (upd H4 D (.lst ys))->RR (.ref D) C X.env.frame (.ok .next) s4)(finX:∀(D C:Addr) (e:Value) (s':Shared),s2.heap.objs.size<=C->(∀b∈fp,bF X pins H2 b)->XeC X EE (aA X scope (own++capN) C s2 H2 fp) e s'->notedBy (model X.prog X.w) X.A (compEnvC scope (be X.env scope.names []) C X.env) (fun e s''=>RR (.ref D) C X.env.frame (.error e) s'') e s') :
  wpAny (model X.prog X.w) X.A (newList []) (fun acc s₃=>wpAny (model X.prog X.w) X.A (newFunctionEnv scope X.env.globals (be X.env scope.names []) [] X.env.qual none .none (some X.env)) (fun cenv s₄ =>
   codeAny (model X.prog X.w) X.A (.compStart (.ListComp elt [⟨tg,iter,ifs,0⟩] scope pos) 0 (.ref it) acc { cenv with scope:=relabel scope X.env }) (RR acc cenv.locals cenv.frame) s₄) E s₃) E s2:=by
 obtain⟨W,⟨m0,w0⟩,turn⟩:=hq;refine Yb (wpAny_newFunctionEnv O.nocell (by intro y hy;simp at hy) (fun h₁ hns₁ hsb₁=>?_) O.kind);dsimp only at hns₁ hsb₁ ⊢;generalize hHp:s2.heap.push { cls:=.type "list",dict:=none,data:=.seq ([]:List Value).toArray }=Hp2 at hns₁ hsb₁ ⊢;have hC:Hp2.objs.size=s2.heap.objs.size+1:=by rw[<-hHp,Ye]
 have hDC:s2.heap.objs.size≠Hp2.objs.size:=by rw[hC];exact ZG (Nat.lt_succ_self _)
 have hCle:s2.heap.objs.size<=Hp2.objs.size:=by rw[hC];exact Nat.le_succ _
 have below:∀b,b<s2.heap.objs.size->b≠Hp2.objs.size/\b≠s2.heap.objs.size:=fun b hb=>⟨by rw[hC];exact ZG (Nat.lt_succ_of_lt hb),ZG hb⟩
 have old:∀b o,s2.heap.get? b=some o->h₁.get? b=some o:=fun b o e=>hsb₁.extBut b o (below b (Zl e)).1 (Zb _ (hHp▸Zb _ e));have hacc:h₁.get? s2.heap.objs.size=some (bN [] 0):=hsb₁.extBut _ _ hDC (Zb _ (hHp▸Zs _ rfl));generalize hDe:s2.heap.objs.size=D at *;generalize hCe:Hp2.objs.size=C at *;have hfpl:∀b∈fp,b<s2.heap.objs.size:=fun b hb=>by obtain⟨o,e,_⟩:=T.obj _ _ st2 b hb;exact Zl e
 have hex:∀b∈fp,bF X pins H2 b/\b<s2.heap.objs.size:=fun b hb=>⟨f2 b hb,hfpl b hb⟩
 have hCle':s2.heap.objs.size<=C:=by rw[hDe];exact hCle
 have hDle:s2.heap.objs.size<=D:=by rw[hDe];exact Zg _
 have hDfp:∀b∈fp,D≠b:=fun b hb z=>by have:=hfpl b hb;rw[<-z]at this;exact absurd this (Nat.not_lt.mpr hDle)
 have I0:∀tk,Inv (aA X scope (own++capN) C s2 H2 fp) [] (bg own.length cap σ) H2 { s2 with heap:=h₁,toks:=tk }:=fun tk=>kH I2 O (by simp) qa hCle' hex old hns₁;have Dst:D∉frs X.stack:=iT I2 hDle;have Dcell:∀x c,(aA X scope (own++capN) C s2 H2 fp).env.cells.lookup x=some c->c≠D:=fun x c e=>oo I2 hDle x c (O.sub I2.ok x c e);have pinD:∀{σ':St} {H':Hp} {s':Shared} {its:List Value} {nn:Nat},Inv (aA X scope (own++capN) C s2 H2 fp) [] σ' H' s'->s'.heap.get? D=some (bN its nn)->H' D=none->Inv (aA X scope (own++capN) C s2 H2 fp) [(D,bN its nn)] σ' H' s':=fun{σ' H' s' its nn} I e hn =>
  I.pins_of fun p hp=>by
   have z:p=(D,bN its nn):=by simpa using hp
   subst z;exact⟨e,hn,hDC,Dst,fun v q=>by cases q⟩
 have loop:∀s₃:Shared,s₃={ s2 with heap:=h₁,toks:=s2.toks+([]:List (Str×Value)).length } ->
   codeAny (model X.prog X.w) X.A (.compLoop (.ListComp elt [⟨tg,iter,ifs,0⟩] scope pos) 0 (.ref it) (.ref D) (compEnvC scope (be X.env scope.names []) C X.env)) (RR (.ref D) C X.env.frame) s₃:=by
  rintro s₃ rfl;refine gL (fun k s'=>∃(i:Nat) (ys:List V) (its:List Value) (nn:Nat) (H':Hp),Inv (aA X scope (own++capN) C s2 H2 fp) [(D,bN its nn)] (bg own.length cap σ) H' s'/\tn i s'.heap/\(∀b∈fp,H' b=none)/\Vals ys its/\ys.length<=sizeLine/\W i k ys H') ?_ m0
   ⟨0,[],[],0,H2,pinD (I0 _) hacc (I2.hok.fresh hDle),T.keep _ _ _ st2 (fun b hb o e=>old b o e),fun b hb=>(f2 b hb).1,.nil,Yi _,w0⟩
  rintro k s3 ⟨i,ys,its,nn,H3,I3,st3,fr3,rv,hz,w3⟩;have oD3:s3.heap.get? D=some (bN its nn):=(I3.pin (D,bN its nn) (by simp)).1;have fpY:∀{H':Hp},(∀b∈fp,H' b=none)->∀b∈fp,bF (aA X scope (own++capN) C s2 H2 fp) [(D,bN its nn)] H' b:=fun{H'} hn b hb=>by
   obtain⟨f0,f1,g2,f3,f4,f5⟩:=f2 b hb;refine⟨hn b hb,ZG (Zm (hfpl b hb) hCle'),fun z=>?_,.inl hb,fun x c e=>f4 x c (O.sub I2.ok x c e),fun p hp=>?_⟩
   ·rcases Zr.mp (I2.stkSub b z)with e|e
    ·exact f1 e
    ·exact g2 e
   ·have z:p=(D,bN its nn):=by simpa[aA]using hp
    subst z;exact hDfp b hb
  rcases turn i k ys H3 w3 with⟨stop,qn⟩|⟨go,hlt,step⟩
  ·refine thn (T.done (aA X scope (own++capN) C s2 H2 fp) rfl rfl rfl hc i _ s3 _ H3 _ I3 (fpY fr3) st3 stop) fun r s4 ⟨hr,I4⟩=>?_;subst hr;obtain⟨oD,nD,_⟩:=I4.pin (D,bN its nn) (by simp);have neD:∀{b:Addr} {u:HO},H3 b=some u->b≠D:=fun{b u} e=>br e nD;have JX:Inv X pins σ (upd H3 D (.lst ys)) s4:=by
    refine I2.call' (ch:=fp) I4.os ⟨I4.base.keep,I4.base.slot,fun b o e nb hx=>?_,I4.base.there,fun b xs e=>?_,fun b o u e=>?_,fun b ps e=>?_⟩ (fun b u e=>?_) I4.bare (fun b hb=>?_)
    ·rw[aB (by rw[<-hDe];exact ZG (Zl e))];exact I4.base.free b o e nb hx
    ·have q:=I4.base.tups b xs e;rw[aB (neD q)];exact q
    ·have q:=I4.base.frzs b o u e;rw[aB (neD q)];exact q
    ·obtain⟨more,q⟩:=I4.base.tbls b ps e;exact⟨more,by rw[aB (neD q)];exact q⟩
    ·by_cases hb:b=D
     ·subst hb;rw[aa]at e;cases e;exact⟨hz,its,nn,rv,oD⟩
     ·rw[aB hb]at e;exact(I4.hok b u e).stay (fun _ _ _ q=>q) (fun c q=>by rw[aB (neD q)];exact q) fun c xs q=>by rw[aB (neD q)];exact q
    ·obtain⟨f0,f1,g2,f3,f4,f5⟩:=f2 b hb;exact⟨f3,f1,f4,f5⟩
   obtain⟨m4,hn4,_⟩:=I4.loc;refine fin D C s4 H3 ys JX ⟨m4,hn4⟩ ?_ (qn D nD);refine I2.fpOk (b:=C) hCle' ?_;rw[aB (Z0 hDC)];exact I4.free
  ·refine thn (T.item (aA X scope (own++capN) C s2 H2 fp) rfl rfl rfl hc i _ s3 _ H3 _ I3 (fpY fr3) st3 go) fun r s4 ⟨u,hr,h4⟩=>?_;subst hr;refine thn h4 fun _ s5 hz9=>?_;obtain⟨x,H5,I5,r5,y5,st5,fr5⟩:=hz9;have I5':=I5.pinned (fpY fr5) (T.obj _ _ st5);refine thn (hg C s2 H2 fp _ s5 _ H5 x u _ I5' r5 (gk _ _ _ _ (step x H5 y5))) fun _ s6 hz9=>?_;obtain⟨σ6,H6,I6,⟨l6,k6⟩,q6⟩:=hz9;refine thn (ht C s2 H2 fp _ s6 σ6 H6 _ I6 q6) fun ok s7 ⟨H7,I7,q7⟩=>?_;have wk:∀{H8:Hp} {s8:Shared} {pl:List (Addr×Obj)},Inv (aA X scope (own++capN) C s2 H2 fp) pl σ6 H8 s8->Inv (aA X scope (own++capN) C s2 H2 fp) pl (bg own.length cap σ) H8 s8:=fun I=>I.weak l6.symm fun j v e=>by obtain⟨hj,_⟩:=ib e;rw[k6 j hj];exact e
   have tn8:∀{σ8:St} {H8:Hp} {s8:Shared},Inv (aA X scope (own++capN) C s2 H2 fp) ([(D,bN its nn)]++gQ fp s5.heap) σ8 H8 s8->(∀b∈fp,∀o,s5.heap.get? b=some o->s8.heap.get? b=some o)/\∀b∈fp,H8 b=none:=fun{σ8 H8 s8} I=>by refine⟨fun b hb o e=>(I.pin (b,o) (ZF _ (ZF _ (dh hb e)))).1,fun b hb=>?_⟩;obtain⟨o,e,d⟩:=T.obj _ _ st5 b hb;exact(I.pin (b,o) (ZF _ (ZF _ (dh hb e)))).2.1
   cases ok with
   |false =>rw[BJ Zi]at q7 ⊢;obtain⟨m',hm,w7⟩:=q7;obtain⟨t1,t2⟩:=tn8 I7;exact⟨m',hm,i+1,ys,its,nn,H7,wk I7.unpinned,T.keep _ _ _ st5 t1,t2,rv,hz,w7⟩
   |true =>
    rw[BK rfl]at q7 ⊢;refine ZS (he C s2 H2 fp _ s7 σ6 H7 _ (I7.wish _) q7) (fun y s8 hz9=>?_) fun e s' hx=>finX D C e s' hCle f2 hx;obtain⟨yv,H8,I8,r8,m',hm,w8⟩:=hz9;have I8:=I8.unwish;obtain⟨t1,t2⟩:=tn8 I8;obtain⟨oD,nD,_⟩:=I8.pin (D,bN its nn) (by simp);have hil:=rv.length;refine call_meets F.slot_list_append ⟨_,oD,rfl⟩ F.entry_list_append (F.args_list_append_2 _ _) (PySem.list_append D its.toArray nn y (by rw[Zj];omega)) ⟨oD,?_⟩;have q:=PySem.IsL.update oD (fun x_1=>x_1.push y);have hf:its.toArray.push y=(its++[y]).toArray:=by simp
    rw[hf]at q;have keepO:∀b o,b≠D->s8.heap.get? b=some o->(s8.heap.update D (Obj.mapSeq fun x_1=>x_1.push y)).get? b=some o:=fun b o hb e=>(Z8 s8.heap (Obj.mapSeq fun x_1=>x_1.push y) (Z0 hb)).trans e;have I9:Inv (aA X scope (own++capN) C s2 H2 fp) [] σ6 H8 { s8 with heap:=s8.heap.update D (Obj.mapSeq fun x_1=>x_1.push y),toks:=s8.toks } :=
     (I8.pins_of (pins':=[]) fun p hp=>absurd hp (by simp)).turned (it:=D) keepO nD hDC (.inr hDle) Dcell (fun p hp=>absurd (show p∈([]:List (Addr×Obj))from hp) (by simp))
    refine⟨m',hm,i+1,ys++[yv],its++[y],_,H8,wk (pinD I9 q nD),T.keep _ _ _ st5 (fun b hb o e=>keepO b o (Z0 (hDfp b hb)) (t1 b hb o e)),t2,rv.append (.cons r8 .nil),?_,w8⟩;rw[Zh,Zn];omega
 exact codeAny_compStart_list (loop _ rfl) (T.self _ 0 _ _ _ (T.keep _ _ _ st2 (fun b hb o e=>old b o e)) (loop _ rfl))
theorem pT{h B B':Heap}(k:∀b,B.get? b=none->B'.get? b=none):∀{l:List Env},h.FunFrames B l->h.FunFrames B' l
 | [],_=>trivial
 |_::_,⟨a,⟨L,o,e1,e2,e3,e4⟩,r⟩=>⟨a,⟨L,o,e1,k _ e2,e3,e4⟩,pT k r⟩
theorem pU{h h' B:Heap}:∀{l:List Env},(∀b∈frs l,h'.get? b=h.get? b)->h.FunFrames B l->h'.FunFrames B l
 | [],_,_=>trivial
 |env::l,k,⟨a,⟨L,o,e1,e2,e3,e4⟩,r⟩=>by
  have m1:L∈frs (env::l):=by unfold frs;rw[List.filterMap_cons,e1];exact Zu
  have m2:∀b∈frs l,b∈frs (env::l):=fun b hb=>by unfold frs;rw[List.filterMap_cons,e1];exact Zt _ hb
  exact⟨a,⟨L,o,e1,e2,(k L m1).trans e3,e4⟩,pU (fun b hb=>k b (m2 b hb)) r⟩
theorem kG{EE:XK}{fp:List Addr}{C:Addr}{N':List Str}{e:Value}{s':Shared}{cenv:Env}{what:String}{Qv:Value->Shared->Prop}(hR:dF X EE)(hst:X.stack=X.env::X.outer)(hfr:X.env.frame=some X.env.locals)(I2:Inv X pins σ H2 s2)(hC:s2.heap.objs.size<=C)(hfp:∀b∈fp,bF X pins H2 b)(hx:XeC X EE (aA X scope N' C s2 H2 fp) e s')(hcf:cenv.frame=X.env.frame) :
  notedBy (model X.prog X.w) X.A cenv (fun e s''=>∃m,s''.heap.Ns C m/\∀h',Heap.SameBut C s''.heap h'->∀denv:Env,denv.frame=X.env.frame->wpAny (model X.prog X.w) X.A (PySem.passOn what e denv:Sem Value) Qv X.xe { s'' with heap:=h' }) e s':=by
 obtain⟨pins',σ',H8,s8,I8,ea,t,Cc,vs,B,H',dc,rfl,os,bare,un,hok,fly,tup,hBt,kb,dd,q⟩:=hx;obtain⟨m8,hn8,_⟩:=I8.loc;have hn8:s8.heap.Ns C m8:=hn8;have C8:H8 C=none:=I8.free;obtain⟨oC,es,ep,eC,rC⟩:=id hn8;have Cst:C∉frs X.stack:=iT I2 hC;have eC':s'.heap.get? C=some oC:=un.keep C oC eC C8 Cst (by simp);have hnC:s'.heap.Ns C m8:=⟨oC,es,ep,eC',rC⟩
 have BC:B.get? C=some oC:=kb C oC Cst (.inr ⟨oC,eC⟩) eC';have CH':H' C=none:=un.free C oC eC C8 (by simp);have tr:∀{K:Hp} {b:Addr} {u:HO},K C=none->K b=some u->b∉[C]:=fun{K b u} n e z=>by rw[Ze.mp z,n]at e;cases e
 have old:∀{b:Addr} {o:Obj},s2.heap.get? b=some o->b∉[C]:=fun{b o} e z=>by rw[Ze.mp z]at e;exact absurd (Zl e) (Nat.not_lt.mpr hC)
 have J:Inv X pins σ H8 { s8 with heap:=hideAll s8.heap [C] }:=by
  refine I2.call' (ch:=fp) I8.os ⟨fun b o e n hb hx=>hideAll_get _ (I8.base.keep b o e n hb hx) (old e),fun b o e n hb hx=>?_,I8.base.free,fun b o e hx=>?_,I8.base.tups,I8.base.frzs,I8.base.tbls⟩ (fun b u e=>?_) I8.bare (fun b hb=>?_)
  ·obtain⟨sl,z⟩:=I8.base.slot b o e n hb hx;exact⟨sl,hideAll_get _ z (old e)⟩
  ·obtain⟨o',z⟩:=I8.base.there b o e hx;exact⟨o',hideAll_get _ z (old e)⟩
  ·refine(I8.hok b u e).stay (fun c v hc z=>hideAll_get _ z ?_) (fun _ z=>z) fun _ _ z=>z;rcases hc with rfl|hc
   ·exact tr C8 e
   ·exact tr C8 hc
  ·obtain⟨f0,f1,g2,f3,f4,f5⟩:=hfp b hb;exact⟨f3,f1,f4,f5⟩
 have bn:∀b,B.get? b=none->(hideAll B [C]).get? b=none:=fun b n=>by
  cases z:(hideAll B [C]).get? b with
  |none=>rfl
  |some o=>rw[of_hideAll _ z]at n;cases n
 have F:Fl X H8 H' { s8 with heap:=hideAll s8.heap [C] } s' (hideAll B [C]):=by
  refine⟨os,bare,⟨fun b o z n hb hx=>un.keep b o (of_hideAll _ z) n hb hx,fun b o z n hb hx=>un.slot b o (of_hideAll _ z) n hb hx,fun b o z n hx=>un.free b o (of_hideAll _ z) n hx,fun b o z hx=>un.there b o (of_hideAll _ z) hx,un.tups,un.frzs,un.tbls⟩,hok,fun b o hb ho z=>hideAll_get _ (kb b o hb (ho.imp id fun⟨o0,y⟩=>⟨o0,of_hideAll _ y⟩) z) ?_⟩;rcases ho with⟨u,y⟩|⟨o0,y⟩
  ·exact tr CH' y
  ·intro m;have y:(hideAll s8.heap [C]).get? b=some o0:=y;rw[hideAll_none _ m]at y;cases y
 obtain⟨f1,f2,f3,oe,us,T,oT,ts,he,hc,dt,v1,nT,ne,hT,dT,t3⟩:=fly;have fly':Heap.FlyingW (hideAll B [C]) X.stack ea Cc (.ref t) s'.heap:=⟨fun b o z=>f1 b o (of_hideAll _ z),bn _ f2,pT bn f3,oe,us,T,oT,ts,he,hc,dt,v1,bn _ nT,ne,hT,dT,t3⟩
 have tC:t≠C:=fun z=>by rw[z,BC]at hBt;cases hBt
 clear f1 f2 f3 oe us T oT ts he hc dt v1 nT ne hT dT t3;show wpAny _ X.A (noteFrame (.ref ea) cenv) _ _ s';have en:noteFrame (.ref ea) cenv=noteFrame (.ref ea) X.env:=by unfold noteFrame PySem.frameOf;rw[hcf]
 rw[en];have fr:X.A.frames=some (X.env::X.outer):=by rw[<-hst];exact J.ok.frames
 rw[hst]at fly';refine ip fr hfr fly' dd fun h1 held up dd1=>?_;rw[<-hst]at held;have F1:=F.move (tk:=s'.toks) J held.1 up;refine⟨m8,up.ns hnC,fun h' sb denv hdf=>?_⟩;have t1:h1.TupAt t vs:=tup.of_slots up;obtain⟨g1,g2,g3,oe,us,T,oT,ts,he,hc,dt,v1,nT,ne,hT,dT,t3⟩:=held;obtain⟨slC,eC1⟩:=up C oC eC' fun ws z=>by obtain⟨z1,_⟩:=rC;rw[z1]at z;cases z
 have nf:∀{b:Addr} {o:Obj} {ws:Array Value},h1.get? b=some o->o.data=.fields ws->b≠C:=fun{b o ws} z1 z2 z=>by rw[z,eC1]at z1;cases z1;obtain⟨z3,_⟩:=rC;have z2:oC.data=.fields ws:=z2;rw[z3]at z2;cases z2
 have hidC:∀{h:Heap} {b:Addr} {o:Obj},(hideAll h [C]).get? b=some o->b≠C:=fun{h b o} z z2=>by rw[hideAll_none _ (Ze.mpr z2)]at z;cases z
 have nC:∀{K:Hp} {b:Addr} {u:HO},K C=none->K b=some u->b≠C:=fun n e z=>tr n e (Ze.mpr z);have k0:(hideAll B [C]).StaysIn h':=fun b o z=>(sb.2 b (hidC z)).trans (g1 b o z);have f0:h'.FunFrames (hideAll B [C]) X.stack:=pU (fun b hb=>sb.2 b fun z=>Cst (z▸hb)) g3;have eaC:=nf he dt;have TC:=nf hT dT;have tr0:h'.TracedAtW (hideAll B [C]) ea Cc (.ref t) (rawInt X.env.locals):=⟨oe,us,T,oT,ts,(sb.2 ea eaC).trans he,hc,dt,v1,nT,ne,(sb.2 T TC).trans hT,dT,t3⟩
 have dd0:cI h' ea dc:=by obtain⟨o,z1,z2⟩:=dd1;exact⟨o,(sb.2 ea eaC).trans z1,z2⟩
 have tu0:h'.TupAt t vs:=by obtain⟨o,n1,z1,z2⟩:=t1;exact⟨o,n1,(sb.2 t tC).trans z1,z2⟩
 have F2:Fl X H8 H' { s8 with heap:=hideAll s8.heap [C] } { s' with heap:=h' } (hideAll B [C]):=by
  refine⟨F1.os,F1.bare,⟨fun b o z n hb hx=>(sb.2 b (hidC z)).trans (F1.un.keep b o z n hb hx),fun b o z n hb hx=>?_,F1.un.free,fun b o z hx=>?_,F1.un.tups,F1.un.frzs,F1.un.tbls⟩,fun b u e=>?_,fun b o hb ho z=>F1.kb b o hb ho ((sb.2 b ?_).symm.trans z)⟩
  ·obtain⟨sl,y⟩:=F1.un.slot b o z n hb hx;exact⟨sl,(sb.2 b (hidC z)).trans y⟩
  ·obtain⟨o',y⟩:=F1.un.there b o z hx;exact⟨o',(sb.2 b (hidC z)).trans y⟩
  ·refine(F1.hok b u e).stay (fun c v hc z=>(sb.2 c ?_).trans z) (fun _ z=>z) fun _ _ z=>z;rcases hc with rfl|hc
   ·exact nC CH' e
   ·exact nC CH' hc
  ·rcases ho with⟨u,y⟩|⟨o0,y⟩
   ·exact nC CH' y
   ·exact hidC y
 unfold PySem.passOn;refine z9 (ZR ((sb.2 ea eaC).trans he) dt v1 ?_);rw[BJ (by simp)];rw[hdf,hfr];refine z9 (sG (s:={ s' with heap:=h' }) k0 f0 tr0 dd0 fun h2 k1 k2 k3 up2 dd2=>?_);refine wpAny_throw (hR ea _ ⟨pins,σ,H8,H',_,_,t,Cc,vs,dc,J,F2.move (tk:=s'.toks) J k1 up2,.inr (.inr ⟨k1,g2,k2,k3⟩),tu0.of_slots up2,bn _ hBt,dd2,q⟩)
theorem vw{EE:XK}{wi:TI}(hR:dF X EE)(hst:X.stack=X.env::X.outer)(hfr:X.env.frame=some X.env.locals)(O:CompOk X scope cap capN)(hc:X.calm=true)(hi:PI X tg iter wi)(hg:∀C s0 H0 ex,PG (aA X scope (own++capN) C s0 H0 ex) tg g)(gk:GK own.length g)(ht:∀C s0 H0 ex,hU (aA X scope (own++capN) C s0 H0 ex) ifs tc)(he:∀C s0 H0 ex,PE (fF X EE scope (own++capN) C s0 H0 ex) elt te)(hfree:∀x∈scope.names,x.2≠.free)(hcl:be X.env scope.names []=[])(hrl:relabel scope X.env=scope)(hs:∀x,foldedSetIterable iter X.env x=pure x:=by intro _;rfl):PE X (.ListComp elt [⟨tg,iter,ifs,0⟩] scope pos) (gF own.length cap wi g tc te):=by
 intro pins s σ H Q I h;rw[eval_ListComp];refine wpAny_comprehension (Q:=EP X pins σ Q) rfl hs hfree O.kind O.names (thn (hi pins s σ H _ I h) fun v s1 h1=>thn h1 fun itv s2 h2=>?_);obtain⟨it,fp,tn,J,H2,e,I2,T,st2,f2,hq⟩:=h2;subst e;have core:=kF (EE:=EE) (E:=X.xe) (pos:=pos) (iter:=iter) (RR:=fun acc C fr r s'=>∃ m,s'.heap.Ns C m/\∀ h',Heap.SameBut C s'.heap h'->match r with
   |.ok _=>EP X pins σ Q acc { s' with heap:=h' }
   | .error x=>∀ denv:Env,denv.frame=fr->wpAny (model X.prog X.w) X.A (PySem.passOn "comprehension.variables-let-go" x denv:Sem Value) (EP X pins σ Q) X.xe { s' with heap:=h' }) O hc hg gk ht he I2 T st2 f2 hq
  (fun D C s4 H4 ys J4 hn4 fC q4=>by
   obtain⟨m,hn⟩:=hn4;obtain⟨f0,f1,g2,f3,f4,f5⟩:=fC;exact⟨m,hn,fun h' sb=>⟨.ref D,_,J4.turned (t':=s4.toks) (fun b o hb e=>(sb.2 b hb).trans e) f0 f1 f3 f4 f5,rfl,q4⟩⟩)
  (fun D C e s' hC hfp hx=>kG hR hst hfr I2 hC hfp hx rfl)
 rw[hcl,hrl]at core;refine thn core fun acc s3 h3=>thn h3 fun cenv s4 h4=>codeAny_mono h4 fun r s' ⟨m,hn,k⟩=>⟨m,hn,fun h' sb=>?_⟩
 cases r with
 |ok _=>exact k h' sb
 |error x=>exact k h' sb _ rfl
theorem xK{EE:XK}{wi:TI}(hR:dF X EE)(O:CompOk X scope cap capN)(hc:X.calm=true)(hi:QI X tg iter wi)(hg:∀C s0 H0 ex,QG (aA X scope (own++capN) C s0 H0 ex) tg g)(gk:GK own.length g)(ht:∀C s0 H0 ex,QIf (aA X scope (own++capN) C s0 H0 ex) ifs tc)(he:∀C s0 H0 ex,QE (fF X EE scope (own++capN) C s0 H0 ex) elt te)(hst:X.stack=X.env::X.outer:=by rfl)(hfr:X.env.frame=some X.env.locals:=by rfl)(hfree:∀x∈scope.names,x.2≠.free:=by decide +kernel)(hcl:be X.env scope.names []=[]:=by rfl)(hrl:relabel scope X.env=scope:=by rfl)(hs:∀x,foldedSetIterable iter X.env x=pure x:=by intro _;rfl):QE X (.ListComp elt [⟨tg,iter,ifs,0⟩] scope pos) (gF own.length cap wi g tc te) :=
 ⟨vw hR hst hfr O hc hi.h (fun C s0 H0 ex=>(hg C s0 H0 ex).h) gk (fun C s0 H0 ex=>(ht C s0 H0 ex).h) (fun C s0 H0 ex=>(he C s0 H0 ex).h) hfree hcl hrl hs⟩
theorem vF{EE:XK}{wi:TI}{j:Nat}{y:Str}{py spos:Pos}(hR:dF X EE)(hst:X.stack=X.env::X.outer)(hfr:X.env.frame=some X.env.locals)(hN0:X.N.Nodup)(hj:X.N[j]?=some y)(hy:Loc X.env.scope y)(O:CompOk X scope cap capN)(hc:X.calm=true)(hi:PI X tg iter wi)(hg:∀C s0 H0 ex,PG (aA X scope (own++capN) C s0 H0 ex) tg g)(gk:GK own.length g)(ht:∀C s0 H0 ex,hU (aA X scope (own++capN) C s0 H0 ex) ifs tc)(he:∀C s0 H0 ex,PE (fF X EE scope (own++capN) C s0 H0 ex) elt te)(hfree:∀x∈scope.names,x.2≠.free)(hcl:be X.env scope.names []=[])(hrl:relabel scope X.env=scope)(hsw:swapsWith (.ListComp elt [⟨tg,iter,ifs,0⟩] scope pos) (some (.Name y py)) spos.line X.env=pure true:=by rfl)(hs:∀x,foldedSetIterable iter X.env x=pure x:=by intro _;rfl)(hf:X.fn y=true\/X.env.scope.names.lookup y=some .local:=by first|exact .inl rfl|exact .inr rfl|assumption) :
  PS X (.Assign [.Name y py] (.ListComp elt [⟨tg,iter,ifs,0⟩] scope pos) spos) (iI (gF own.length cap wi g tc te) (bC j)):=by
 intro pins s σ H D0 I h;rw[exec_Assign_Name_used _ _ _ _ hsw];refine z9 (wpAny_standAt (z9 ?_));show wpAny _ X.A (do let _ ←comprehension (.ListComp elt [⟨tg,iter,ifs,0⟩] scope pos) scope X.env _ (newList []) false (eval iter X.env) (some (assign (.Name y py) X.env))) _ _ s;refine z9 (ZS (wpAny_comprehension_use (u:=assign (.Name y py) X.env) (Q:=fun _ s'=>SP X pins D0 .next s') rfl hs hfree O.kind O.names (thn (hi pins s σ H _ I h) fun v s1 h1=>thn h1 fun itv s2 h2=>?_)) (fun _ s' hq=>Zk (Zk hq)) fun _ _ e=>e);obtain⟨it,fp,tn,J,H2,e,I2,T,st2,f2,hq⟩:=h2;subst e;have core:=kF (EE:=EE) (E:=X.xe) (pos:=pos) (iter:=iter) (RR:=fun acc C fr r s'=>match r with
   |.ok _=>wpAny (model X.prog X.w) X.A (assign (.Name y py) X.env acc) (fun _ s''=>∃m,s''.heap.Ns C m/\∀h',Heap.SameBut C s''.heap h'->SP X pins D0 .next { s'' with heap:=h' }) X.xe s'
   | .error x=>∃ m,s'.heap.Ns C m/\∀ h',Heap.SameBut C s'.heap h'->∀ denv:Env,denv.frame=fr->wpAny (model X.prog X.w) X.A (PySem.passOn "comprehension.variables-let-go" x denv:Sem Value) (fun _ s'=>SP X pins D0 .next s') X.xe { s' with heap:=h' }) O hc hg gk ht he I2 T st2 f2 hq
  (fun D C s4 H4 ys J4 hn4 fC q4=>by
   obtain⟨m,hn⟩:=hn4;obtain⟨f0,f1,g2,f3,f4,f5⟩:=fC;show wpAny _ X.A (assign (.Name y py) X.env (.ref D)) _ _ _;refine wpAny_assign_Name (jk J4 hN0 hj hy (v:=.ref D) rfl (fun s5 I5 ⟨a,sba,ha⟩=>?_) hf);have hCa:C≠a:=by
    rcases ha with z|z
    ·rw[z];exact f1
    ·exact Z0 (f4 _ _ z)
   refine⟨m,hn.sameBut sba hCa,fun h' sb=>?_⟩;exact⟨_,_,I5.turned (t':=s5.toks) (fun b o hb e=>(sb.2 b hb).trans e) f0 f1 f3 f4 f5,q4⟩)
  (fun D C e s' hC hfp hx=>kG hR hst hfr I2 hC hfp hx rfl)
 rw[hcl,hrl]at core;refine thn core fun acc s3 h3=>thn h3 fun cenv s4 h4=>codeAny_mono h4 fun r s' k=>?_;cases r with
 |ok _=>exact k
 |error x =>obtain⟨m,hn,k⟩:=k;exact⟨m,hn,fun h' sb=>k h' sb _ rfl⟩
theorem xM{EE:XK}{wi:TI}{j:Nat}{y:Str}{py spos:Pos}(hR:dF X EE)(hN0:X.N.Nodup)(O:CompOk X scope cap capN)(hc:X.calm=true)(hi:QI X tg iter wi)(hg:∀C s0 H0 ex,QG (aA X scope (own++capN) C s0 H0 ex) tg g)(gk:GK own.length g)(ht:∀C s0 H0 ex,QIf (aA X scope (own++capN) C s0 H0 ex) ifs tc)(he:∀C s0 H0 ex,QE (fF X EE scope (own++capN) C s0 H0 ex) elt te)(hst:X.stack=X.env::X.outer:=by rfl)(hfr:X.env.frame=some X.env.locals:=by rfl)(hfree:∀x∈scope.names,x.2≠.free:=by decide +kernel)(hcl:be X.env scope.names []=[]:=by rfl)(hrl:relabel scope X.env=scope:=by rfl)(hj:X.N[j]?=some y:=by rfl)(hy:Loc X.env.scope y:=by first|exact Or.inl rfl|exact Or.inr rfl)(hsw:swapsWith (.ListComp elt [⟨tg,iter,ifs,0⟩] scope pos) (some (.Name y py)) spos.line X.env=pure true:=by rfl)(hs:∀x,foldedSetIterable iter X.env x=pure x:=by intro _;rfl)(hf:X.fn y=true\/X.env.scope.names.lookup y=some .local:=by first|exact .inl rfl|exact .inr rfl) :
  QS X (.Assign [.Name y py] (.ListComp elt [⟨tg,iter,ifs,0⟩] scope pos) spos) (iI (gF own.length cap wi g tc te) (bC j)) :=
 ⟨vF hR hst hfr hN0 hj hy O hc hi.h (fun C s0 H0 ex=>(hg C s0 H0 ex).h) gk (fun C s0 H0 ex=>(ht C s0 H0 ex).h) (fun C s0 H0 ex=>(he C s0 H0 ex).h) hfree hcl hrl hsw hs hf⟩
end
open PySem PySem.Spec PyProof.Rows PySem.W Builtin Builtin.Str
structure QE1(X:Cx)(e:Expr)(t:TE):Prop where
 h:∀(pins:List (Addr×Obj)) (s:Shared) (σ:St) (H:Hp) (Q:VK),1<=s.toks->Inv X pins σ H s->t σ H Q->wpAny (model X.prog X.w) X.A (eval e X.env) (EP X pins σ Q) X.xe s
structure QT1(X:Cx)(e:Expr)(t:TT):Prop where
 h:∀(pins:List (Addr×Obj)) (s:Shared) (σ:St) (H:Hp) (Q:Bool->Hp->Prop),Inv X pins σ H s->t σ H Q->wpAny (model X.prog X.w) X.A (isTrue e X.env (eval e X.env)) (fun b s'=>1<=s'.toks/\TP X pins σ Q b s') X.xe s
structure QS1(X:Cx)(st:Stmt)(t:TS):Prop where
 h:∀(pins:List (Addr×Obj)) (s:Shared) (σ:St) (H:Hp) (D:Ends),Inv X pins σ H s->t D σ H->wpAny (model X.prog X.w) X.A (exec st X.env) (fun f s'=>1<=s'.toks/\SP X pins D f s') X.xe s
structure QB1(X:Cx)(st:List Stmt)(t:TS):Prop where
 h:∀(pins:List (Addr×Obj)) (s:Shared) (σ:St) (H:Hp) (D:Ends),1<=s.toks->Inv X pins σ H s->t D σ H->wpAny (model X.prog X.w) X.A (execs st X.env) (SP X pins D) X.xe s
theorem tkk{α:Type}{M:Model}{A:Around}{t:Sem α}{Q:α->Shared->Prop}{E:Value->Shared->Prop}{s:Shared}{n:Nat}(hn:n<=s.toks)(h:wpAny M A t Q E s):wpAny M A t (fun a s'=>n<=s'.toks/\Q a s') E s :=
 ZS (wpAny_toks_of hn h) (fun _ _ x=>x) fun _ _ x=>x.2
section
variable{X:Cx}{e a:Expr}{te ta to:TE}{st:Stmt}{rest b1 b2:List Stmt}{t u:TS}{c:Expr}{tc:TT}{p pos apos cpos:Pos}{o:Expr}
theorem QE.one(h:QE X e te):QE1 X e te:=⟨fun pins s σ H Q _ I hw=>h.h pins s σ H Q I hw⟩
theorem zX{op:CmpOp}{r:R2}{k:Str}{j:Nat}(ho:QOp X (compareOp op) r)(ha:QE X a ta)(hm:behindInMarks op (.Constant (.str k) j p)=false:=by first|exact on _|with_unfolding_all rfl) :
  QT1 X (.Compare a [op] [.Constant (.str k) j p] pos) (lv (tOp r ta (tC (.str k)))):=by
 refine⟨?_⟩;intro pins s σ H Q I h;refine wpAny_isTrue_Compare1 (thn (ha.h pins s σ H _ I h) fun v s1 ⟨x,H1,I1,r1,q1⟩=>Calls.Constant_str
  (thn (tkk (n:=1) (Nat.le_add_left 1 s1.toks) (ho.h pins { s1 with toks:=s1.toks+1 } σ H1 x (.str k) v _ _ (I1.tok _) r1 ⟨_,rfl⟩ q1)) fun c s3 ⟨n3,z,H3,I3,r3,k,e,q3⟩=>?_)) hm
 subst e;cases r3;exact ZZ ⟨n3,H3,I3,q3⟩
theorem AC(hc:QT1 X c tc)(ha:QB X b1 t)(hb:QB X b2 u):QS1 X (.If c b1 b2 pos) (vR tc t u):=by
 refine⟨?_⟩;intro pins s σ H D I h;refine wpAny_If (thn (hc.h pins s σ H _ I h) fun d s1 ⟨n1,H1,I1,q1⟩=>?_);cases d with
 |true=>exact tkk n1 (ha.h pins s1 σ H1 D I1 q1)
 |false=>exact tkk n1 (hb.h pins s1 σ H1 D I1 q1)
theorem AL(h1:QS1 X st t)(h2:QB1 X rest u):QB X (st::rest) (ku t u):=by
 refine⟨?_⟩;intro pins s σ H D I h;refine wpAny_execs_cons (thn (h1.h pins s σ H { D with nx:=u D } I h) fun f s1 q=>?_);obtain⟨n,q⟩:=q;cases f with
 |next =>obtain⟨σ',H',I',q⟩:=q;exact h2.h pins s1 σ' H' D n I' q
 |ret v=>exact q
 |brk=>exact q
 |cont=>exact q
theorem yi{i:Nat}{x:Str}{pos':Pos}(hN:X.N.Nodup)(he:QE1 X e te)(hr:QB X rest u)(hi:X.N[i]?=some x:=by rfl)(hx:Loc X.env.scope x:=by first|exact Or.inl rfl|exact Or.inr rfl)(hs:swapsWith e (some (.Name x pos')) pos.line X.env=pure false:=by rfl)(hf:X.fn x=true\/X.env.scope.names.lookup x=some .local:=by first|exact .inl rfl|exact .inr rfl):QB1 X (.Assign [.Name x pos'] e pos::rest) (ku (iI te (bC i)) u):=by refine⟨?_⟩;intro pins s σ H D n I h;refine wpAny_execs_cons (wpAny_Assign_Name (thn (he.h pins s σ H _ n I h) fun v s1 hz9=>?_) hs);obtain⟨y,H1,I1,r1,q1⟩:=hz9;exact fX I1 hN hi hx r1 (fun s2 I2=>hr.h pins s2 _ H1 D I2 q1) hf
def AE(y z:Str)(to:TE):TE:=fun σ H Q=>to σ H fun x H1=>∃a,x=.str a/\a.length<=100000/\Q (.str (Txt.replace a y z)) H1
theorem oG{y z:Str}{j k:Nat}{p1 p2:Pos}(ho:QE1 X o to)(hyz:(y==z)=false:=by decide)(hz:z.length<=14:=by decide)(hbase:attributeBase o "replace" X.env (eval o X.env)=eval o X.env:=by rfl)(hline:(apos.endLine==cpos.line)=true:=by rfl) :
  QE1 X (.Call (.Attribute o "replace" apos) [.Constant (.str y) j p1,.Constant (.str z) k p2] [] cpos) (AE y z to):=by
 refine⟨?_⟩;intro pins s σ H Q n I h;refine wpAny_Call_method_late hbase (by rfl) hline rfl (thn (tkk n (ho.h pins s σ H _ n I h)) fun v s1 hz9=>?_);obtain⟨n1,x,H1,I1,r1,a,ex,hl,q1⟩:=hz9;subst ex;obtain⟨tk,rfl⟩:=r1;refine⟨"str","str.replace",y3,PySem.F.slot_str_replace,PySem.F.type_str_replace,typeIs_str _ _ _,?_,?_⟩
 ·intro b eb;cases eb
 refine Calls.callWith_builtin (by rfl) (Calls.evalArgs_plain ?_);refine Calls.spliced_cons (Calls.Constant_str (k:=j) (pos:=p1) (Calls.spliced_cons (Calls.Constant_str (k:=k) (pos:=p2) (Calls.spliced_nil ?_))));refine SC.replaceW (by show s1.toks≠0;omega) (by show s1.toks+1≠0;omega) (by show s1.toks≠s1.toks+1;omega) hyz (by omega) hz fun t' k=>?_;exact⟨.str (Txt.replace a y z),H1,(I1.tok _:Inv X pins σ H1 { s1 with toks:=k }),⟨_,rfl⟩,q1⟩
theorem vJ{e:Expr}{te:TE}(ho:QE1 X o to)(he:QE X e te)(hs:aP e=true:=by rfl)(hbase:attributeBase o "split" X.env (eval o X.env)=eval o X.env:=by rfl)(hline:(apos.endLine==cpos.line)=true:=by rfl) :
  QE1 X (.Call (.Attribute o "split" apos) [e] [] cpos) (tBM X.K "str" oJ to (dS te iJ)):=by
 have h1:=aT (es:=[]) (env:=X.env) hs;have h2:starEach ([]:List Expr) X.env=[]:=rfl;refine⟨?_⟩;intro pins s σ H Q n I h;refine wpAny_Call_method_late hbase (by rw[h1,h2];rfl) hline rfl (thn (ho.h pins s σ H _ n I h) fun v s1 hz9=>?_);obtain⟨x,H1,I1,r1,ty,q1⟩:=hz9;obtain⟨g1,g2⟩:=pf I1 r1 ty;refine⟨"str","str.split",y3,PySem.F.slot_str_split,PySem.F.type_str_split,g1,g2,?_⟩;have hA:=(dL he.h fR (hs:=h1)) cpos pins s1 σ H1 _ I1 q1;rw[h1]at hA ⊢;refine Calls.callWith_builtin (by rw[h2];rfl) (Calls.evalArgs_plain ?_);exact thn hA fun us s2 ⟨vs,H2,I2,r2,q2⟩=>om pins s2 σ H2 x vs v us Q I2 r1 r2 q2
def qg:V->List V->Hp->VK->Prop:=fun x xs H Q=>∃(z y:Str) (i:Nat) (l:List Nat),x=.str z/\xs=[.str y]/\occurrences z y 0 z.length 1=i::l/\Q (.int i) H
theorem sU:MtR X "str.index" qg:=by intro pins s σ H x xs v us Q I rx r h;obtain⟨z,y,i,l,rfl,rfl,ho,q⟩:=h;obtain⟨t,rfl⟩:=rx;obtain⟨u,rfl,ru⟩:=cW r;obtain⟨t2,rfl⟩:=ru;exact SC.index ho ⟨.int i,H,I.tok _,⟨_,rfl⟩,q⟩
theorem vI{e:Expr}{te:TE}(ho:QE X o to)(he:QE X e te)(hs:aP e=true:=by rfl)(hbase:attributeBase o "index" X.env (eval o X.env)=eval o X.env:=by rfl)(hline:(apos.endLine==cpos.line)=true:=by rfl) :
  QE X (.Call (.Attribute o "index" apos) [e] [] cpos) (tBM X.K "str" qg to (dS te iJ)):=by
 have h1:=aT (es:=[]) (env:=X.env) hs;have h2:starEach ([]:List Expr) X.env=[]:=rfl;refine⟨kR y3 PySem.F.slot_str_index PySem.F.type_str_index sU ho.h (dL he.h fR (hs:=h1)) (hbase:=hbase) (hfew:=?_) (hline:=hline) (hs:=h1) (hplain:=by rw[h2];rfl)⟩;rw[h1,h2];rfl
end
end L2
set_option maxRecDepth 100000
set_option maxHeartbeats 4000000
namespace K13
open PySem L2
open PyProof.Rows (envOfC)
def top(i:Nat):Stmt:=PySem.Challenge.pw_limb_k13_a_deed_read.main.body.getD i (.Pass ⟨0,0,0,0⟩)
def tw(l:List Str):TV:=.tup (l.map V.str)
def DT:List (Str×TV):=[("put",tw ["up","place","text"]),("move",tw ["item","up","place"]),("write",tw ["item","text"]),("mark",tw ["item","truth"]),("due",tw ["item","whom"]),("fold",tw ["item","truth"]),("part",tw ["item","at","place"]),("join",tw ["item","item"]),("take",tw ["item"]),("back",tw ["item"]),("off",tw ["number"]),("on",tw ["number"]),("none",tw [])]
inductive Kd|u|p|t|i|b|w|a|n
deriving DecidableEq
def dY:Kd->Nat
 |.u=>117|.p=>112|.t=>116|.i=>105|.b=>98|.w=>119|.a=>97|.n=>110
def nm:Kd->Str
 |.u=>"up" |.p=>"place" |.t=>"text" |.i=>"item" |.b=>"truth" |.w=>"whom" |.a=>"at" |.n=>"number"
def sg(k:Kd):Str:=⟨#[dY k]⟩
def kst(l:List Kd):Str:=⟨(l.map dY).toArray⟩
def KDS:List (List Kd):=[[.u,.p,.t],[.i,.u,.p],[.i,.t],[.i,.b],[.i,.w],[.i,.b],[.i,.a,.p],[.i,.i],[.i],[.i],[.n],[.n],[]]
def WDS:List Str:=["put","move","write","mark","due","fold","part","join","take","back","off","on","none"]
theorem lO{m:Nat}{l:List Kd}(h:KDS[m]?=some l):l.length<=3:=by
 have k:∀l∈KDS,l.length<=3:=by decide
 exact k l (ZC h)
theorem xV{m:Nat}{l:List Kd}{x:Str}(h:KDS[m]?=some l)(hx:WDS[m]?=some x):PyProof.Rows.KTD.datumAt x DT=some (tw (l.map nm))/\x.length<=10:=by
 have hm:m<13:=(Zf.mp h).1;rcases m with _|_|_|_|_|_|_|_|_|_|_|_|_|m
 all_goals first
  |(cases h;cases hx;exact⟨rfl,by decide +kernel⟩)
  |omega
theorem Al:∀l∈KDS,(!(Builtin.Str.occurrences (kst l) "n" 0 (kst l).length 1).isEmpty)=decide (Kd.n∈l):=by decide +kernel
def ba:V->Int->Bool
 |.int i,lo=>decide (lo<=i)
 |_,_=>false
def ltB:V->Int->Bool
 |.int i,h=>decide (i<h)
 |_,_=>false
def nq(h:Int):Option HO->Bool
 |some (.tup [x,y])=>ba x 0&&(ltB x h&&ba y 1)
 |_=>false
def ju(H:Hp)(h:Int):V->Bool
 |.ref a=>nq h (H a)
 |_=>false
def nM(h:Int):Option HO->Bool
 |some (.tup xs)=>decide ((xs.length:Int)=h)&&xs.all (fun x=>ba x 0)
 |_=>false
def gK(H:Hp)(h:Int):V->Bool
 |.ref a=>nM h (H a)
 |_=>false
theorem bh{H:Hp}{a:Addr}{o:HO}{h:Int}(e:H a=some o):ju H h (.ref a)=nq h (some o):=by show nq h (H a)=_;rw[e]
theorem cX{H:Hp}{a:Addr}{o:HO}{h:Int}(e:H a=some o):gK H h (.ref a)=nM h (some o):=by show nM h (H a)=_;rw[e]
theorem sQ{K:PySem.W.Frag}{H:Hp}{v:V}{n:String}{h:Int}(ty:TyOf K H v (.type n))(hT:isT H v=false):ju H h v=false/\gK H h v=false:=by
 cases ty with
 |lst z=>exact⟨bh z,cX z⟩
 |frz z=>exact⟨bh z,cX z⟩
 |tup z=>rw[bD z (b:=true) rfl]at hT;cases hT
 |dK z=>exact⟨bh z,cX z⟩
 |dT z=>exact⟨bh z,cX z⟩
 |_=>exact⟨rfl,rfl⟩
def oF:Option HO->Bool
 |some (.tup xs)=>decide (1<=xs.length)&&decide (xs.length<=64)&&xs.all df
 |_=>false
def fS(H:Hp):V->Bool
 |.ref a=>oF (H a)
 |_=>false
theorem aY{H:Hp}{a:Addr}{o:HO}(e:H a=some o):fS H (.ref a)=oF (some o):=by show oF (H a)=_;rw[e]
theorem pE{K:PySem.W.Frag}{H H':Hp}{v:V}{n:String}(h:TyOf K H v (.type n))(e:Same H H'):fS H' v=fS H v:=by
 cases h with
 |lst q=>rw[aY (e _ _ q),aY q]
 |frz q=>rw[aY (e _ _ q),aY q]
 |tup q=>rw[aY (e _ _ q),aY q]
 |dK q=>rw[aY (e _ _ q),aY q]
 |dT q=>rw[aY (e _ _ q),aY q]
 |_=>rfl
def isS:V->Bool
 |.str _=>true
 |_=>false
theorem fH{K:PySem.W.Frag}{H:Hp}{v:V}{n:String}(h:TyOf K H v (.type n)):PySem.W.kitOne K (.type n) (.type "str")=some (isS v):=by
 cases h with
 |str x=>exact bv (b:=true) (by decide +kernel) (fun z=>nomatch z)
 |non=>exact aF (b:=false) (by decide +kernel) (by decide +kernel) (by decide +kernel)
 |bl x=>exact aF (b:=false) (by decide +kernel) (by decide +kernel) (by decide +kernel)
 |int i=>exact aF (b:=false) (by decide +kernel) (by decide +kernel) (by decide +kernel)
 |flt x=>exact aF (b:=false) (by decide +kernel) (by decide +kernel) (by decide +kernel)
 |lst e=>exact aF (b:=false) (by decide +kernel) (by decide +kernel) (by decide +kernel)
 |frz e=>exact aF (b:=false) (by decide +kernel) (by decide +kernel) (by decide +kernel)
 |tup e=>exact aF (b:=false) (by decide +kernel) (by decide +kernel) (by decide +kernel)
 |dK e=>exact aF (b:=false) (by decide +kernel) (by decide +kernel) (by decide +kernel)
 |dT e=>exact aF (b:=false) (by decide +kernel) (by decide +kernel) (by decide +kernel)
theorem qQ{K:PySem.W.Frag}{H H':Hp}{v:V}{n:String}{h:Int}(t:TyOf K H v (.type n))(e:Same H H'):ju H' h v=ju H h v:=by
 cases t with
 |lst q=>rw[bh (e _ _ q),bh q]
 |frz q=>rw[bh (e _ _ q),bh q]
 |tup q=>rw[bh (e _ _ q),bh q]
 |dK q=>rw[bh (e _ _ q),bh q]
 |dT q=>rw[bh (e _ _ q),bh q]
 |_=>rfl
theorem uX{K:PySem.W.Frag}{H H':Hp}{v:V}{n:String}(t:TyOf K H v (.type n))(e:Same H H'):isT H' v=isT H v:=by
 cases t with
 |lst q=>rw[bD (e _ _ q) rfl,bD q rfl]
 |frz q=>rw[bD (e _ _ q) rfl,bD q rfl]
 |tup q=>rw[bD (e _ _ q) rfl,bD q rfl]
 |dK q=>rw[bD (e _ _ q) rfl,bD q rfl]
 |dT q=>rw[bD (e _ _ q) rfl,bD q rfl]
 |_=>rfl
def fB(c:Nat):Bool:=(decide ((32:Int)<=c)&&decide ((c:Int)<=126))&&!decide ((c:Int)=37)
def bE(x:Str):Bool:=x.cps.toList.all fB
def nmL(hd:Int)(ns:List Int):List Int:=[hd,aj ns hd.toNat]
def fQ(hd:Int)(ns:List Int)(i j:Int):Bool:=(decide (0<=i)&&(decide (i<ns.length)&&decide (1<=j)))&&(decide (j<=aj ns i.toNat)&&!decide ([i,j]=nmL hd ns))
inductive ItemR(K:PySem.W.Frag)(H:Hp)(hd:Int)(ns:List Int):V->Bool->Prop
 |no {v:V} (a:Asked K H v) (e:ju H ns.length v=false):ItemR K H hd ns v false
 |is {a:Addr} {i j:Int} (e:H a=some (.tup [.int i,.int j])):ItemR K H hd ns (.ref a) (fQ hd ns i j)
theorem ItemR.same{K:PySem.W.Frag}{H H':Hp}{hd:Int}{ns:List Int}{v:V}{b:Bool}(r:ItemR K H hd ns v b)(s:Same H H'):ItemR K H' hd ns v b:=by
 cases r with
 |no a e=>exact .no (a.same s) (by obtain⟨⟨n,t⟩,_⟩:=a;rw[qQ t s];exact e)
 |is e=>exact .is (s _ _ e)
inductive PartR(K:PySem.W.Frag)(H:Hp)(hd:Int)(ns:List Int):Kd->V->Bool->Prop
 |it {v:V} {b:Bool} (r:ItemR K H hd ns v b):PartR K H hd ns .i v b
 |u0:PartR K H hd ns .u .non true
 |up {v:V} {b:Bool} (hv:v≠.non) (r:ItemR K H hd ns v b):PartR K H hd ns .u v b
 |pl {v:V} {b:Bool} (a:Asked K H v) (e:fS H v=b):PartR K H hd ns .p v b
 |tx {x:Str} {b:Bool} (hl:x.length<=1000) (ha:x.cps.all (·<128)=true) (e:(bE x&&decide (x.length<=60))=b):PartR K H hd ns .t (.str x) b
 |tn {v:V} {n:String} (ty:TyOf K H v (.type n)) (hs:isS v=false):PartR K H hd ns .t v false
 |bl {v:V} {n:String} {b:Bool} (ty:TyOf K H v (.type n)) (e:isB v=b):PartR K H hd ns .b v b
 |w0:PartR K H hd ns .w .non true
 |wh {v:V} {n:String} {b:Bool} (hv:v≠.non) (ty:TyOf K H v (.type n)) (e:(ba v 0&&ltB v ns.length)=b):PartR K H hd ns .w v b
 |at{v:V} {n:String} {b:Bool} (ty:TyOf K H v (.type n)) (e:ba v 0=b):PartR K H hd ns .a v b
 |nu {v:V} {n:String} {b:Bool} (ty:TyOf K H v (.type n)) (e:(ba v 1&&ltB v (aj ns hd.toNat))=b):PartR K H hd ns .n v b
theorem PartR.same{K:PySem.W.Frag}{H H':Hp}{hd:Int}{ns:List Int}{k:Kd}{v:V}{b:Bool}(r:PartR K H hd ns k v b)(s:Same H H'):PartR K H' hd ns k v b:=by
 cases r with
 |it r=>exact .it (r.same s)
 |u0=>exact .u0
 |up hv r=>exact .up hv (r.same s)
 |pl a e=>exact .pl (a.same s) (by obtain⟨⟨n,t⟩,_⟩:=a;rw[pE t s];exact e)
 |tx hl ha e=>exact .tx hl ha e
 |tn ty hs=>exact .tn (cz s ty) hs
 |bl ty e=>exact .bl (cz s ty) e
 |w0=>exact .w0
 |wh hv ty e=>exact .wh hv (cz s ty) e
 | «at» ty e=>exact .at (cz s ty) e
 |nu ty e=>exact .nu (cz s ty) e
def PartsR(K:PySem.W.Frag)(H:Hp)(hd:Int)(ns:List Int)(ks:List Kd)(ps:List V)(bs:List Bool):Prop:=ks.length=ps.length/\bs.length=ps.length/\∀(i:Nat) (k:Kd) (v:V) (b:Bool),ks[i]?=some k->ps[i]?=some v->bs[i]?=some b->PartR K H hd ns k v b
theorem PartsR.same{K:PySem.W.Frag}{H H':Hp}{hd:Int}{ns:List Int}{ks:List Kd}{ps:List V}{bs:List Bool}(p:PartsR K H hd ns ks ps bs)(s:Same H H'):PartsR K H' hd ns ks ps bs:=⟨p.1,p.2.1,fun i k v x h1 h2 h3=>(p.2.2 i k v x h1 h2 h3).same s⟩
inductive WhatR(K:PySem.W.Frag)(H:Hp)(hd:Int)(ns:List Int):V->Bool->Prop
 |flat {v:V} {n:String} (ty:TyOf K H v (.type n)) (hT:isT H v=false):WhatR K H hd ns v false
 |emp {a:Addr} (e:H a=some (.tup [])):WhatR K H hd ns (.ref a) false
 |noStr {a:Addr} {x:V} {n:String} {ps:List V} (e:H a=some (.tup (x::ps))) (ty:TyOf K H x (.type n)) (hs:isS x=false):WhatR K H hd ns (.ref a) false
 |noWord {a:Addr} {k:Str} {ps:List V} (e:H a=some (.tup (.str k::ps))) (hk:PyProof.Rows.KTD.datumAt k DT=none):WhatR K H hd ns (.ref a) false
 |len {a:Addr} {k:Str} {ps:List V} {ks:List Kd} (e:H a=some (.tup (.str k::ps))) (hk:PyProof.Rows.KTD.datumAt k DT=some (tw (ks.map nm))) (hl:ps.length≠ks.length):WhatR K H hd ns (.ref a) false
 |is {a:Addr} {k:Str} {ps:List V} {ks:List Kd} {bs:List Bool} {b:Bool} (e:H a=some (.tup (.str k::ps))) (hk:PyProof.Rows.KTD.datumAt k DT=some (tw (ks.map nm))) (l3:ks.length<=3) (p:PartsR K H hd ns ks ps bs) (hb:bs.all id=b):WhatR K H hd ns (.ref a) b
theorem WhatR.same{K:PySem.W.Frag}{H H':Hp}{hd:Int}{ns:List Int}{v:V}{b:Bool}(r:WhatR K H hd ns v b)(s:Same H H'):WhatR K H' hd ns v b:=by
 cases r with
 |flat ty hT=>exact .flat (cz s ty) (by rw[uX ty s];exact hT)
 |emp e=>exact .emp (s _ _ e)
 |noStr e ty hs=>exact .noStr (s _ _ e) (cz s ty) hs
 |noWord e hk=>exact .noWord (s _ _ e) hk
 |len e hk hl=>exact .len (s _ _ e) hk hl
 |is e hk l3 p hb=>exact .is (s _ _ e) hk l3 (p.same s) hb
inductive DeedR(K:PySem.W.Frag)(H:Hp)(h:Int):V->Bool->Prop
 |flat {v:V} {n:String} (ty:TyOf K H v (.type n)) (hT:isT H v=false):DeedR K H h v false
 |len {a:Addr} {xs:List V} (e:H a=some (.tup xs)) (hl:xs.length≠3):DeedR K H h (.ref a) false
 |hand {a:Addr} {x y z:V} {n:String} (e:H a=some (.tup [x,y,z])) (ty:TyOf K H x (.type n)) (hx:(ba x 0&&ltB x h)=false):DeedR K H h (.ref a) false
 |clock {a:Addr} {i:Int} {y z:V} (e:H a=some (.tup [.int i,y,z])) (i0:0<=i) (i1:i<h) (ay:Asked K H y) (hc:gK H h y=false):DeedR K H h (.ref a) false
 |zero {a c:Addr} {i:Int} {ns:List Int} {z:V} (e:H a=some (.tup [.int i,.ref c,z])) (i0:0<=i) (i1:i<h) (ec:H c=some (.tup (ns.map V.int))) (hl:(ns.length:Int)=h) (hn:∀n∈ns,0<=n) (h8:h<=8) (h0:aj ns i.toNat<1):DeedR K H h (.ref a) false
 |is {a c:Addr} {i:Int} {ns:List Int} {z:V} {b:Bool} (e:H a=some (.tup [.int i,.ref c,z])) (i0:0<=i) (i1:i<h) (ec:H c=some (.tup (ns.map V.int))) (hl:(ns.length:Int)=h) (hn:∀n∈ns,0<=n) (h8:h<=8) (h1:1<=aj ns i.toNat) (w:WhatR K H i ns z b):DeedR K H h (.ref a) b
def mh(K:PySem.W.Frag):Sp:=fun vs H Q _=>∃v n,vs=[v]/\TyOf K H v (.type n)/\Q (.bl (df v)) H
def gZ(K:PySem.W.Frag):Sp:=fun vs H Q _=>∃v n lo,vs=[v,.int lo]/\TyOf K H v (.type n)/\Q (.bl (ba v lo)) H
def tY(K:PySem.W.Frag):Sp:=fun vs H Q _=>∃v h,vs=[v,.int h]/\Asked K H v/\Q (.bl (ju H h v)) H
def mJ(K:PySem.W.Frag):Sp:=fun vs H Q _=>∃v h,vs=[v,.int h]/\Asked K H v/\∀H',Same H H'->Q (.bl (gK H h v)) H'
def qp:Sp:=fun vs H Q _=>∃(a b:Addr) (xs:List V) (i j z:Int),vs=[.ref a,.ref b]/\H a=some (.tup xs)/\H b=some (.tup [.int i,.int j])/\atI xs i=some (.int z)/\Q (.bl (decide (j<=z))) H
def kr(K:PySem.W.Frag):Sp:=fun vs H Q _=>∃v n,vs=[v]/\TyOf K H v (.type n)/\(isS v=false->Q (.bl false) H)/\(∀k,v=.str k->Q (.bl (PyProof.Rows.KTD.datumAt k DT).isSome) H)
def jC(K:PySem.W.Frag):Sp:=fun vs H Q _=>∃(k:Str) (ws:List Str),vs=[.str k]/\PyProof.Rows.KTD.datumAt k DT=some (tw ws)/\∀t,(∀H',SqT K H' t (ws.map V.str))->Q (.ref t) H
def mK(K:PySem.W.Frag):Sp:=fun vs H Q _=>∃v,vs=[v]/\Asked K H v/\∀H',Same H H'->Q (.bl (fS H v)) H'
def ud:Sp:=fun vs H Q _=>∃c:Nat,vs=[.str ⟨#[c]⟩]/\Q (.bl (fB c)) H
def oW(K:PySem.W.Frag):Sp:=fun vs H Q _=>∃v,vs=[v]/\((∃n,TyOf K H v (.type n)/\isS v=false/\Q (.bl false) H)\/∃x:Str,v=.str x/\x.length<=1000/\x.cps.all (·<128)=true/\∀H',Same H H'->Q (.bl (bE x)) H')
def oU(K:PySem.W.Frag):Sp:=fun vs H Q _=>∃v n h,vs=[v,.int h]/\TyOf K H v (.type n)/\Q (.bl (ba v 0&&ltB v h)) H
def qk(K:PySem.W.Frag):Sp:=fun vs H Q _=>∃(v:V) (b:Bool) (c:Addr) (hd:Int) (ns:List Int),vs=[v,.int hd,.ref c]/\H c=some (.tup (ns.map V.int))/\0<=hd/\hd<ns.length/\ItemR K H hd ns v b/\∀H',Same H H'->Q (.bl b) H'
def oV(K:PySem.W.Frag):Sp:=fun vs H Q _=>∃(k:Kd) (v:V) (b:Bool) (c:Addr) (hd:Int) (ns:List Int),vs=[.str (nm k),v,.int hd,.ref c]/\H c=some (.tup (ns.map V.int))/\0<=hd/\hd<ns.length/\PartR K H hd ns k v b/\∀H',Same H H'->Q (.bl b) H'
def oX(K:PySem.W.Frag):Sp:=fun vs H Q _=>∃(v:V) (b:Bool) (c:Addr) (hd:Int) (ns:List Int),vs=[v,.int hd,.ref c]/\H c=some (.tup (ns.map V.int))/\0<=hd/\hd<ns.length/\WhatR K H hd ns v b/\∀H',Same H H'->Q (.bl b) H'
def tX(K:PySem.W.Frag):Sp:=fun vs H Q _=>∃(v:V) (b:Bool) (h:Int),vs=[v,.int h]/\DeedR K H h v b/\∀H',Same H H'->Q (.bl b) H'
def Sm(i:Int):Prop:=i.natAbs<10^60
theorem Sm.big{i:Int}(h:Sm i):i.natAbs<10^4300:=Zm h (Nat.pow_le_pow_right (by decide) (by decide))
theorem Sm.len{i:Int}(h:Sm i):(ag i).length<=62:=Zd (uW (k:=59) h) (by decide)
theorem Sm.of{i:Int}{k:Nat}(h0:-(10^k)<=i)(h1:i<=10^k)(hk:k<=59):Sm i:=by
 have:i.natAbs<=10^k:=by
  have e:((10^k:Nat):Int)=10^k:=by norm_cast
  omega
 exact Nat.lt_of_le_of_lt this (Nat.pow_lt_pow_right (by decide) (by omega))
theorem fP{sep:Str}{ys:List Str}(h:∀y∈ys,y.length<=8000)(hs:sep.length<=8)(hl:ys.length<=80):(ys.map (·.length)).sum+ys.length*sep.length<=16777216:=by
 have a:(ys.map (·.length)).sum<=ys.length*8000:=by
  clear hl;induction ys with
  |nil=>simp
  |cons y ys ih =>have:=ih fun z hz=>h z (Zt _ hz);have:=h y Zu;simp only[ZH,Yj,Zq];omega
 have b:ys.length*sep.length<=ys.length*8:=Nat.mul_le_mul_left _ hs;omega
theorem mC(g:Str):∀(l:List Str) (acc:Array Nat),(l.foldl (fun acc p=>acc++g.cps++p.cps) acc).size=acc.size+(l.map (·.length)).sum+l.length*g.length
 | [],acc=>by simp
 |y::l,acc=>by rw[List.foldl_cons,mC g l];simp only[Array.size_append,ZH,Yj,Zq,Nat.succ_mul];have e1:y.cps.size=y.length:=rfl;have e2:g.cps.size=g.length:=rfl;omega
theorem eA(sep:Str)(ys:List Str):(Txt.join sep ys).length<=(ys.map (·.length)).sum+ys.length*sep.length:=by
 cases ys with
 |nil=>exact Zd (Nat.le_of_eq (show(Txt.join sep []).length=0 from rfl)) (Yi _)
 |cons y ys =>have:(Txt.join sep (y::ys)).length=y.length+(ys.map (·.length)).sum+ys.length*sep.length:=mC sep ys y.cps;rw[this];simp only[ZH,Yj,Zq,Nat.succ_mul];omega
theorem cZ{sep:Str}{ns:List Int}(h:∀n∈ns,Sm n)(hs:sep.length<=1)(hl:ns.length<=65):(Txt.join sep (ns.map ag)).length<=5000:=by
 refine Zd (eA _ _) ?_;have a:((ns.map ag).map (·.length)).sum<=ns.length*62:=by
  clear hl;induction ns with
  |nil=>simp
  |cons y ys ih =>have:=ih fun z hz=>h z (Zt _ hz);have:=(h y Zu).len;simp only[ZH,Yj,Zq];omega
 have b:(ns.map ag).length*sep.length<=(ns.map ag).length*1:=Nat.mul_le_mul_left _ hs;rw[z6]at b ⊢;omega
inductive PartV(H:Hp):Kd->V->Str->Prop
 |u0:PartV H .u .non "top"
 |ui {a:Addr} {i j:Int} (e:H a=some (.tup ([i,j].map V.int))) (h:∀n∈[i,j],Sm n):PartV H .u (.ref a) (Txt.join "." ([i,j].map ag))
 |it {a:Addr} {i j:Int} (e:H a=some (.tup ([i,j].map V.int))) (h:∀n∈[i,j],Sm n):PartV H .i (.ref a) (Txt.join "." ([i,j].map ag))
 |pl {a:Addr} {ns:List Int} (e:H a=some (.tup (ns.map V.int))) (h:∀n∈ns,Sm n) (hl:ns.length<=65):PartV H .p (.ref a) (Txt.join "/" (ns.map ag))
 |tx (x:Str) (hl:x.length<=200):PartV H .t (.str x) x
 |bl (b:Bool):PartV H .b (.bl b) (if b then"yes" else"no")
 |w0:PartV H .w .non "nobody"
 |wi (i:Int) (h:Sm i):PartV H .w (.int i) (ag i)
 |at(i:Int) (h:Sm i):PartV H .a (.int i) (ag i)
 |nu (i:Int) (h:Sm i):PartV H .n (.int i) (ag i)
theorem PartV.same{H H':Hp}{k:Kd}{v:V}{x:Str}(p:PartV H k v x)(s:Same H H'):PartV H' k v x:=by
 cases p with
 |u0=>exact .u0
 |ui e h=>exact .ui (s _ _ e) h
 |it e h=>exact .it (s _ _ e) h
 |pl e h hl=>exact .pl (s _ _ e) h hl
 |tx x hl=>exact .tx x hl
 |bl b=>exact .bl b
 |w0=>exact .w0
 |wi i h=>exact .wi i h
 | «at» i h=>exact .at i h
 |nu i h=>exact .nu i h
section
variable{P:Program}{w:World}{K:PySem.W.Frag}{mg:Str->Option Value}{base:Heap}
abbrev gH:Stmt:=top 1
abbrev pk:List Str:=["thing"]
theorem oQ:FnScope pk ["thing"] (au gH):=⟨rfl,rfl,rfl,by decide +kernel,rfl,by decide +kernel,by decide +kernel⟩
theorem oA{f:Addr}{fd:FuncData}(F:Fun K "is_number" "is_number" gH f fd)(a5:mg "isinstance" = none)(b9:mg "int" = none)(d8:mg "bool" = none) :
  FnOk P w K mg base CX0 1 f fd ["thing"] (mh K):=by
 refine F.okQ oQ (fun vs H Q E h=>?_) (fun cdv A outer s H vs Q E hr h=>?_)
 ·obtain⟨v,n,rfl,_⟩:=h;rfl
 obtain⟨v,n,rfl,ty,q⟩:=h;refine⟨_,(b_1 (aq (bO (q_B eO a5 aw (q_a (q_v 0) (q_a (cS b9 bK) ad))) (bP (rk (q_B eO a5 aw (q_a (q_v 0) (q_a (cS d8 fZ) ad)))))))),?_⟩;refine⟨v,rfl,v,"int",.type n,isI v,rfl,ty,lP ty,_,rfl,?_⟩;refine gG (fun c=>?_) (fun c=>?_)
 ·refine⟨v,rfl,v,"bool",.type n,isB v,rfl,ty,eF ty,_,rfl,?_⟩;have e:(!isB v)=df v:=by cases v<;>simp_all [isI,isB,df]
  show Q (.bl (!isB v)) H;rw[e];exact q
 ·have e:df v=false:=by cases v<;>simp_all [isI,df]
  rw[e]at q;exact q
abbrev iA:Stmt:=top 2
abbrev qA:List Str:=["thing","low"]
theorem pH:FnScope qA ["thing","low"] (au iA):=⟨rfl,rfl,rfl,by decide +kernel,rfl,by decide +kernel,by decide +kernel⟩
theorem pC{f:Addr}{fd:FuncData}(F:Fun K "is_whole" "is_whole" iA f fd)(h9:Fn P w K mg base 1 "is_number" ["thing"] (mh K)):FnOk P w K mg base CX0 2 f fd ["thing","low"] (gZ K):=by
 refine F.okQ pH (fun vs H Q E h=>?_) (fun cdv A outer s H vs Q E hr h=>?_)
 ·obtain⟨v,n,lo,rfl,_⟩:=h;rfl
 obtain⟨v,n,lo,rfl,ty,q⟩:=h;refine⟨_,(b_1 (aq (bO (aI h9 (hr.mono (by decide)) (q_a (q_v 0) ad)) (bP (aV vk (q_v 0) (q_v 1)))))),?_⟩;refine⟨v,rfl,v,n,rfl,ty,_,rfl,?_⟩;refine gG (fun c=>?_) (fun c=>?_)
 ·cases v with
  |int i=>exact⟨_,rfl,_,rfl,i,lo,rfl,rfl,q⟩
  |_=>cases c
 ·have e:ba v lo=false:=by
   cases v with
   |int i=>exact absurd rfl c
   |_=>rfl
  rw[e]at q;exact q
abbrev ja:Stmt:=top 3
abbrev rW:List Str:=["thing","hands"]
theorem rF:FnScope rW ["thing","hands"] (au ja):=⟨rfl,rfl,rfl,by decide +kernel,rfl,by decide +kernel,by decide +kernel⟩
theorem qX{f:Addr}{fd:FuncData}(F:Fun K "is_name" "is_name" ja f fd)(c6:Fn P w K mg base 2 "is_whole" ["thing","low"] (gZ K))(a5:mg "isinstance" = none)(a7:mg "tuple" = none)(a6:mg "len" = none) :
  FnOk P w K mg base CX0 3 f fd ["thing","hands"] (tY K):=by
 refine F.okQ rF (fun vs H Q E h=>?_) (fun cdv A outer s H vs Q E hr h=>?_)
 ·obtain⟨v,h,rfl,_⟩:=h;rfl
 obtain⟨v,h,rfl,⟨⟨n,ty⟩,hx⟩,q⟩:=h;refine⟨_,(b_c (aC (t_w (cA (bQ (bf (q_B eO a5 aw (q_a (q_v 0) (q_a (cS a7 bq) ad))))) (cu (ax eJ (q_B bB a6 Zw (q_a (q_v 0) ad)) ae)))) (b_1 (aq dA)) b_0)
   (b_1 (aq (bO (aI c6 (hr.mono (by decide)) (q_a (aE bz (q_v 0) ae) (q_a ae ad))) (bO (aV jX (aE bz (q_v 0) ae) (q_v 1)) (bP (aI c6 (hr.mono (by decide)) (q_a (aE bz (q_v 0) ae) (q_a ae ad))))))))),?_⟩
 refine⟨v,rfl,v,"tuple",.type n,isT H v,rfl,ty,dI ty,_,rfl,?_⟩;cases hT:isT H v with
 |false =>refine aK (aK ?_);rw[(sQ (h:=h) ty hT).1]at q;exact q
 |true =>
  obtain⟨a,xs,rfl,hH⟩:=lN hT;obtain⟨hl,hk⟩:=hx a xs rfl hH;rw[bh hH]at q;refine aD ?_;refine⟨_,rfl,a,xs,rfl,.inr (SqT.of hH),rfl,_,rfl,?_⟩;refine nk (fun c=>?_) (fun c=>?_)
  ·have e:nq h (some (.tup xs))=false:=by
    match xs,c with
    | [],_=>rfl
    | [_],_=>rfl
    | [_,_],c=>exact absurd rfl c
    |_::_::_::_,_=>rfl
   rw[e]at q;exact q
  ·obtain⟨x,y,rfl⟩:∃x y,xs=[x,y]:=by
    match xs,c with
    | [x,y],_=>exact⟨x,y,rfl⟩
    | [],c=>simp at c
    | [_],c=>simp at c
    |_::_::_::r,c=>simp at c;omega
   obtain⟨mx,tx⟩:=hk x (by simp);obtain⟨my,ty'⟩:=hk y (by simp);have q':Q (.bl (ba x 0&&(ltB x h&&ba y 1))) H:=q;refine⟨_,rfl,a,_,_,x,rfl,rfl,SqT.of hH,rfl,x,mx,0,rfl,tx,_,rfl,?_⟩;refine gG (fun c1=>?_) (fun c1=>?_)
   ·cases x with
    |int i =>
     rw[c1,ZX]at q';refine⟨_,rfl,a,_,_,.int i,rfl,rfl,SqT.of hH,rfl,_,rfl,_,_,rfl,rfl,_,rfl,?_⟩;refine gG (fun c2=>?_) (fun c2=>?_)
     ·have q2:Q (.bl (decide (i<h)&&ba y 1)) H:=q';rw[c2,ZX]at q2;exact⟨_,rfl,a,_,_,y,rfl,rfl,SqT.of hH,rfl,y,my,1,rfl,ty',q2⟩
     ·have q2:Q (.bl (decide (i<h)&&ba y 1)) H:=q';rw[ZQ.mpr c2,ZU]at q2;exact q2
    |_=>cases c1
   ·rw[ZQ.mpr c1,ZU]at q';exact q'
abbrev iw:Stmt:=top 4
abbrev qw:List Str:=["thing","hands"]
theorem pF:FnScope qw ["thing","hands"] (au iw):=⟨rfl,rfl,rfl,by decide +kernel,rfl,by decide +kernel,by decide +kernel⟩
theorem pz{f:Addr}{fd:FuncData}(F:Fun K "is_clock" "is_clock" iw f fd)(c6:Fn P w K mg base 2 "is_whole" ["thing","low"] (gZ K))(a5:mg "isinstance" = none)(a7:mg "tuple" = none)(a6:mg "len" = none)(d6:mg "all" = none) :
  FnOk P w K mg base CX0 3 f fd ["thing","hands"] (mJ K):=by
 refine F.okQ pF (fun vs H Q E h=>?_) (fun cdv A outer s H vs Q E hr h=>?_)
 ·obtain⟨v,h,rfl,_⟩:=h;rfl
 obtain⟨v,h,rfl,⟨⟨n,ty⟩,hx⟩,q⟩:=h;refine⟨_,(b_c (aC (t_w (cA (bQ (bf (q_B eO a5 aw (q_a (q_v 0) (q_a (cS a7 bq) ad))))) (cu (ax eJ (q_B bB a6 Zw (q_a (q_v 0) ad)) (q_v 1))))) (b_1 (aq dA)) b_0)
   (b_1 (aq (q_B (jn rfl) d6 dG (q_a (cK (own:=["number"]) (⟨rfl,by decide +kernel,by decide +kernel,rfl,trivial⟩:CompOk _ _ [] []) rfl (nj (q_v 0)) (fun _ _ _ _=>bp (i:=0) (show (["number"]:List Str).Nodup by decide +kernel)) (bj (by decide)) (fun _ _ _ _=>du) (fun _ _ _ _=>(aI c6 (hr.mono (by decide)) (q_a (q_v 0) (q_a ae ad))))) ad))))),?_⟩
 refine⟨v,rfl,v,"tuple",.type n,isT H v,rfl,ty,dI ty,_,rfl,?_⟩;cases hT:isT H v with
 |false =>refine aK (aK ?_);have q':=q H (Same.refl H);rw[(sQ (h:=h) ty hT).2]at q';exact q'
 |true =>
  obtain⟨a,xs,rfl,hH⟩:=lN hT;obtain⟨hl,hk⟩:=hx a xs rfl hH;rw[cX hH]at q;have q:∀H',Same H H'->Q (.bl (decide ((xs.length:Int)=h)&&xs.all (fun x=>ba x 0))) H':=q;refine aD ?_;refine⟨_,rfl,a,xs,rfl,.inr (SqT.of hH),_,rfl,rfl,_,rfl,?_⟩;refine nk (fun c=>?_) (fun c=>?_)
  ·have q':=q H (Same.refl H);rw[decide_eq_false c,ZU]at q';exact q'
  ·refine⟨_,rfl,a,rfl,⟨xs,SqT.of hH⟩,?_⟩;refine ic (xs:=xs) (fun i=>.bl (ba ((xs[i]?).getD .non) 0)) hl (SqT.of hH) (fun i x H1 hi sm R k=>?_) (fun p H1 sm hp=>?_)
   ·obtain⟨m,tx⟩:=hk x (ZC hi);have k':=k H1 (Same.refl H1);rw[hi]at k';exact⟨x,rfl,x,m,0,rfl,cz sm tx,k'⟩
   ·refine⟨p,(List.range xs.length).map (fun i=>ba ((xs[i]?).getD .non) 0),rfl,SqL.of ?_,?_⟩
    ·rw[aa,List.map_map];rfl
    ·rw[kz (fun x=>ba x 0)];have q':=q (upd H1 p (.lst ((List.range xs.length).map (fun i=>V.bl (ba ((xs[i]?).getD .non) 0))))) (sm.trans (af hp _));rw[decide_eq_true c,ZX]at q';exact q'
abbrev iy:Stmt:=top 24
abbrev qz:List Str:=["thing"]
theorem pG:FnScope qz ["thing"] (au iy):=⟨rfl,rfl,rfl,by decide +kernel,rfl,by decide +kernel,by decide +kernel⟩
theorem pA{f:Addr}{fd:FuncData}{tk:Tok}(F:Fun K "is_place" "is_place" iy f fd)(h9:Fn P w K mg base 1 "is_number" ["thing"] (mh K))(a5:mg "isinstance" = none)(a7:mg "tuple" = none)(a6:mg "len" = none)(d6:mg "all" = none)(i9:mg "MOST_NUMBERS" = some (.int 64 tk)) :
  FnOk P w K mg base CX0 2 f fd ["thing"] (mK K):=by
 refine F.okQ pG (fun vs H Q E h=>?_) (fun cdv A outer s H vs Q E hr h=>?_)
 ·obtain⟨v,rfl,_⟩:=h;rfl
 obtain⟨v,rfl,⟨⟨n,ty⟩,hx⟩,q⟩:=h;refine⟨_,(b_c (aC (t_w (cA (bQ (bf (q_B eO a5 aw (q_a (q_v 0) (q_a (cS a7 bq) ad))))) (cu (bQ (qs jW jW ae (q_B bB a6 Zw (q_a (q_v 0) ad)) (lV i9)))))) (b_1 (aq dA)) b_0)
   (b_1 (aq (q_B (jn rfl) d6 dG (q_a (cK (own:=["number"]) (⟨rfl,by decide +kernel,by decide +kernel,rfl,trivial⟩:CompOk _ _ [] []) rfl (nj (q_v 0)) (fun _ _ _ _=>bp (i:=0) (show (["number"]:List Str).Nodup by decide +kernel)) (bj (by decide)) (fun _ _ _ _=>du) (fun _ _ _ _=>(aI h9 (hr.mono (by decide)) (q_a (q_v 0) ad)))) ad))))),?_⟩
 refine⟨v,rfl,v,"tuple",.type n,isT H v,rfl,ty,dI ty,_,rfl,?_⟩;cases hT:isT H v with
 |false =>
  refine aK (aK ?_);have e:fS H v=false:=by
   cases ty with
   |lst z=>exact aY z
   |frz z=>exact aY z
   |tup z=>rw[bD z (b:=true) rfl]at hT;cases hT
   |dK z=>exact aY z
   |dT z=>exact aY z
   |_=>rfl
  have q':=q H (Same.refl H);rw[e]at q';exact q'
 |true =>
  obtain⟨a,xs,rfl,hH⟩:=lN hT;obtain⟨hl,hk⟩:=hx a xs rfl hH;have eB:fS H (.ref a)=(decide (1<=xs.length)&&decide (xs.length<=64)&&xs.all df):=aY hH;rw[eB]at q;refine aD ?_;refine⟨_,rfl,a,xs,rfl,.inr (SqT.of hH),_,_,rfl,rfl,_,rfl,?_⟩;refine gG (fun c=>?_) (fun c=>?_)
  ·have c1:1<=xs.length:=by have:=y6 c;omega
   refine⟨_,_,rfl,rfl,_,rfl,?_⟩;by_cases c2:xs.length<=64
   ·have e2:decide ((xs.length:Int)<=64)=true:=decide_eq_true (by omega);rw[e2];refine aD ?_;refine⟨_,rfl,a,rfl,⟨xs,SqT.of hH⟩,?_⟩;refine ic (xs:=xs) (fun i=>.bl (df ((xs[i]?).getD .non))) hl (SqT.of hH) (fun i x H1 hi sm R k=>?_) (fun p H1 sm hp=>?_)
    ·obtain⟨m,tx⟩:=hk x (ZC hi);refine⟨x,rfl,x,m,rfl,cz sm tx,?_⟩;have k':=k H1 (Same.refl H1);rw[hi]at k';exact k'
    ·refine⟨p,(List.range xs.length).map (fun i=>df ((xs[i]?).getD .non)),rfl,SqL.of ?_,?_⟩
     ·rw[aa,List.map_map];rfl
     ·rw[kz df];have q':=q (upd H1 p (.lst ((List.range xs.length).map (fun i=>V.bl (df ((xs[i]?).getD .non)))))) (sm.trans (af hp _));rw[decide_eq_true c1,decide_eq_true c2,ZX,ZX]at q';exact q'
   ·have e2:decide ((xs.length:Int)<=64)=false:=decide_eq_false (by omega);rw[e2];refine aK ?_;have q':=q H (Same.refl H);rw[decide_eq_false c2,Bool.and_false,ZU]at q';exact q'
  ·have c1:¬1<=xs.length:=by have:=of_decide_eq_false (ZQ.mpr c);omega
   refine⟨_,rfl,?_⟩;refine aK ?_;have q':=q H (Same.refl H);rw[decide_eq_false c1,ZU,ZU]at q';exact q'
abbrev md:Stmt:=top 5
abbrev wR:List Str:=["clock","name"]
theorem vN:FnScope wR ["clock","name"] (au md):=⟨rfl,rfl,rfl,by decide +kernel,rfl,by decide +kernel,by decide +kernel⟩
theorem vp{f:Addr}{fd:FuncData}(F:Fun K "tells" "tells" md f fd):FnOk P w K mg base CX0 1 f fd ["clock","name"] qp:=by
 refine F.okQ vN (fun vs H Q E h=>?_) (fun cdv A outer s H vs Q E hr h=>?_)
 ·obtain⟨a,b,xs,i,j,z,rfl,_⟩:=h;rfl
 obtain⟨a,b,xs,i,j,z,rfl,hA,hB,hz,q⟩:=h;refine⟨_,(b_1 (aq (aV vk (aE bz (q_v 0) (aE bz (q_v 1) ae)) (aE bz (q_v 1) ae)))),?_⟩;exact⟨_,rfl,_,rfl,b,_,_,_,rfl,rfl,SqT.of hB,rfl,a,_,_,_,rfl,rfl,SqT.of hA,hz,_,rfl,b,_,_,_,rfl,rfl,SqT.of hB,rfl,_,_,rfl,rfl,q⟩
abbrev eM:Stmt:=top 8
abbrev lC:List Str:=["thing"]
theorem kW:FnScope lC ["thing"] (au eM):=⟨rfl,rfl,rfl,by decide +kernel,rfl,by decide +kernel,by decide +kernel⟩
abbrev fU:Stmt:=top 9
abbrev nB:List Str:=["word"]
theorem mV:FnScope nB ["word"] (au fU):=⟨rfl,rfl,rfl,by decide +kernel,rfl,by decide +kernel,by decide +kernel⟩
theorem kP{f:Addr}{fd:FuncData}(F:Fun K "is_deed_word" "is_deed_word" eM f fd){dd:Addr}(g0:mg "DEED_PARTS" = some (.ref dd))(T:Tab K dd DT)(a5:mg "isinstance" = none)(c7:mg "str" = none):FnOk P w K mg base CX0 1 f fd ["thing"] (kr K):=by
 refine F.okQ kW (fun vs H Q E h=>?_) (fun cdv A outer s H vs Q E hr h=>?_)
 ·obtain⟨v,n,rfl,_⟩:=h;rfl
 obtain⟨v,n,rfl,ty,q0,q⟩:=h;refine⟨_,(b_1 (aq (bO (q_B eO a5 aw (q_a (q_v 0) (q_a (cS c7 ce) ad))) (bP (aV xi (q_v 0) (fj g0)))))),?_⟩;refine⟨_,rfl,v,"str",.type n,isS v,rfl,ty,fH ty,_,rfl,?_⟩;refine gG (fun c=>?_) (fun c=>?_)
 ·cases v with
  |str k=>exact⟨_,rfl,dd,k,DT,rfl,rfl,T,q k rfl⟩
  |_=>cases c
 ·exact q0 (ZQ.mpr c)
theorem mS{f:Addr}{fd:FuncData}(F:Fun K "deed_parts" "deed_parts" fU f fd){dd:Addr}(g0:mg "DEED_PARTS" = some (.ref dd))(T:Tab K dd DT):FnOk P w K mg base CX0 1 f fd ["word"] (jC K):=by
 refine F.okQ mV (fun vs H Q E h=>?_) (fun cdv A outer s H vs Q E hr h=>?_)
 ·obtain⟨k,ws,rfl,_⟩:=h;rfl
 obtain⟨k,ws,rfl,hk,q⟩:=h;refine⟨_,(b_1 (aq (aE AH (fj g0) (q_v 0)))),?_⟩;exact⟨_,rfl,dd,k,DT,tw ws,rfl,rfl,T,hk,q⟩
abbrev jc:Stmt:=top 32
abbrev rY:List Str:=["sign"]
theorem rH:FnScope rY ["sign"] (au jc):=⟨rfl,rfl,rfl,by decide +kernel,rfl,by decide +kernel,by decide +kernel⟩
theorem qZ{f:Addr}{fd:FuncData}{t1 t2 t3:Tok}(F:Fun K "is_sign" "is_sign" jc f fd)(Bs:mg "ord" = none)(j9:mg "FIRST_SIGN" = some (.int 32 t1))(n9:mg "LAST_SIGN" = some (.int 126 t2))(j0:mg "PERCENT_SIGN" = some (.int 37 t3)):FnOk P w K mg base CX0 1 f fd ["sign"] ud:=by
 refine F.okQ rH (fun vs H Q E h=>?_) (fun cdv A outer s H vs Q E hr h=>?_)
 ·obtain⟨c,rfl,_⟩:=h;rfl
 obtain⟨c,rfl,q⟩:=h;refine⟨_,(b_1 (aq (bO (xJ jW jW (lV j9) (q_B wf Bs PyProof.Rows.bootS_ord (q_a (q_v 0) ad)) (lV n9)) (bP (aV eJ (q_B wf Bs PyProof.Rows.bootS_ord (q_a (q_v 0) ad)) (lV j0)))))),?_⟩;refine⟨_,rfl,c,rfl,_,_,rfl,rfl,_,rfl,?_⟩;unfold fB at q;by_cases c1:(32:Int)<=c
 ·rw[decide_eq_true c1]at q ⊢;refine aK ⟨_,_,rfl,rfl,_,rfl,?_⟩;by_cases c2:(c:Int)<=126
  ·rw[decide_eq_true c2]at q ⊢;refine aK ⟨_,rfl,c,rfl,rfl,?_⟩;have e:decide (V.int (c:Int)=V.int 37)=decide ((c:Int)=37):=by
    by_cases z:(c:Int)=37
    ·rw[z,decide_eq_true rfl,decide_eq_true rfl]
    ·rw[decide_eq_false z,decide_eq_false (fun y=>z (V.int.inj y))]
   rw[e];exact q
  ·rw[decide_eq_false c2]at q ⊢;exact aD q
 ·rw[decide_eq_false c1]at q ⊢;exact aD ⟨_,rfl,aD q⟩
abbrev jd:Stmt:=top 31
abbrev rZ:List Str:=["thing"]
theorem rJ:FnScope rZ ["thing"] (au jd):=⟨rfl,rfl,rfl,by decide +kernel,rfl,by decide +kernel,by decide +kernel⟩
theorem tW(x:Str):(((List.range x.cps.size).map fun i=>fB (x.cps.getD i 0)).all id)=bE x:=by
 unfold bE;rw[List.all_map,y7,Zx,Zx];constructor
 ·intro h c hc;obtain⟨i,hi,rfl⟩:=Z3 hc;have hi':i<x.cps.size:=by simpa using hi
  have:=h i (Yq.mpr hi');simpa[ZV,hi']using this
 ·intro h i hi;have hi':=Yq.mp hi;have:=h x.cps[i] (by simp);simpa[ZV,hi']using this
theorem rc{f:Addr}{fd:FuncData}(F:Fun K "is_text" "is_text" jd f fd)(t7:Fn P w K mg base 1 "is_sign" ["sign"] ud)(a5:mg "isinstance" = none)(c7:mg "str" = none)(d6:mg "all" = none):FnOk P w K mg base CX0 2 f fd ["thing"] (oW K):=by
 refine F.okQ rJ (fun vs H Q E h=>?_) (fun cdv A outer s H vs Q E hr h=>?_)
 ·obtain⟨v,rfl,_⟩:=h;rfl
 obtain⟨v,rfl,h⟩:=h;refine⟨_,(b_1 (aq (bO (q_B eO a5 aw (q_a (q_v 0) (q_a (cS c7 ce) ad))) (bP (q_B (jn rfl) d6 dG (q_a (cK (own:=["sign"]) (⟨rfl,by decide +kernel,by decide +kernel,rfl,trivial⟩:CompOk _ _ [] []) rfl (wt (q_v 0)) (fun _ _ _ _=>bp (i:=0) (show(["sign"]:List Str).Nodup by decide +kernel)) (bj (by decide)) (fun _ _ _ _=>du) (fun _ _ _ _=>(aI t7 (hr.mono (by decide)) (q_a (q_v 0) ad)))) ad)))))),?_⟩;rcases h with⟨n,ty,hs,q⟩|⟨x,rfl,hl,ha,q⟩
 ·refine⟨_,rfl,v,"str",.type n,isS v,rfl,ty,fH ty,_,rfl,?_⟩;rw[hs];exact aD q
 ·refine⟨_,rfl,.str x,"str",.type "str",true,rfl,.str _,bv (b:=true) (by decide +kernel) (fun z=>nomatch z),_,rfl,aK ⟨_,rfl,x,rfl,ha,?_⟩⟩;refine nP (x:=x) (fun i=>.bl (fB (x.cps.getD i 0))) hl (fun i c H1 hi sm R k=>?_) (fun p H1 sm hp=>?_)
  ·have e:x.cps.getD i 0=c:=by rw[ZV,hi];rfl
   rw[e]at k;exact⟨_,rfl,c,rfl,k H1 (Same.refl H1)⟩
  ·refine⟨p,(List.range x.cps.size).map (fun i=>fB (x.cps.getD i 0)),rfl,SqL.of (by rw[aa,List.map_map];rfl),?_⟩;rw[tW];exact q _ (sm.trans (af hp _))
abbrev iZ:Stmt:=top 40
abbrev rV:List Str:=["thing","hands"]
theorem rE:FnScope rV ["thing","hands"] (au iZ):=⟨rfl,rfl,rfl,by decide +kernel,rfl,by decide +kernel,by decide +kernel⟩
theorem qW{f:Addr}{fd:FuncData}(F:Fun K "is_hand" "is_hand" iZ f fd)(c6:Fn P w K mg base 2 "is_whole" ["thing","low"] (gZ K)):FnOk P w K mg base CX0 3 f fd ["thing","hands"] (oU K):=by
 refine F.okQ rE (fun vs H Q E h=>?_) (fun cdv A outer s H vs Q E hr h=>?_)
 ·obtain⟨v,n,h,rfl,_⟩:=h;rfl
 obtain⟨v,n,h,rfl,ty,q⟩:=h;refine⟨_,(b_1 (aq (bO (aI c6 (hr.mono (by decide)) (q_a (q_v 0) (q_a ae ad))) (bP (aV jX (q_v 0) (q_v 1)))))),?_⟩;refine⟨_,rfl,v,n,0,rfl,ty,_,rfl,?_⟩;refine gG (fun c=>?_) (fun c=>?_)
 ·cases v with
  |int i =>rw[c,ZX]at q;exact⟨_,rfl,_,rfl,i,h,rfl,rfl,q⟩
  |_=>cases c
 ·rw[ZQ.mpr c,ZU]at q;exact q
abbrev dP:Stmt:=top 43
abbrev kx:List Str:=["thing","hand","clock"]
theorem kj:FnScope kx ["thing","hand","clock"] (au dP):=⟨rfl,rfl,rfl,by decide +kernel,rfl,by decide +kernel,by decide +kernel⟩
theorem jZ{f:Addr}{fd:FuncData}(F:Fun K "is_known_item" "is_known_item" dP f fd)(t8:Fn P w K mg base 3 "is_name" ["thing","hands"] (tY K))(Bj:Fn P w K mg base 1 "tells" ["clock","name"] qp)(a6:mg "len" = none):FnOk P w K mg base CX0 4 f fd ["thing","hand","clock"] (qk K):=by
 refine F.okQ kj (fun vs H Q E h=>?_) (fun cdv A outer s H vs Q E hr h=>?_)
 ·obtain⟨v,b,c,hd,ns,rfl,_⟩:=h;rfl
 obtain⟨v,b,c,hd,ns,rfl,hC,d0,d1,r,q⟩:=h;refine⟨_,(b_1 (aq (bO (aI t8 (hr.mono (by decide)) (q_a (q_v 0) (q_a (q_B bB a6 Zw (q_a (q_v 2) ad)) ad))) (bO (aI Bj (hr.mono (by decide)) (q_a (q_v 2) (q_a (q_v 0) ad))) (bP (aV (yH hr.units) (q_v 0) (gm (q_a (q_v 1) (q_a (aE bz (q_v 2) (q_v 1)) ad))))))))),?_⟩;cases r with
 |no a e =>refine⟨_,rfl,_,rfl,c,_,rfl,.inr (SqT.of hC),v,_,rfl,a,_,rfl,?_⟩;rw[z6,e];exact aD (q H (Same.refl H))
 |@is a i j e =>
  refine⟨_,rfl,_,rfl,c,_,rfl,.inr (SqT.of hC),.ref a,_,rfl,ml e (Nat.le_of_ble_eq_true rfl) (fun x hx=>?_),_,rfl,?_⟩
  ·simp only[Zr,ZK,Yg]at hx;rcases hx with rfl|rfl
   ·exact⟨_,.int _⟩
   ·exact⟨_,.int _⟩
  rw[z6,bh e];have e':H a=some (.tup ([i,j].map V.int)):=e;unfold fQ at q;show if(decide (0<=i)&&(decide (i<(ns.length:Int))&&decide (1<=j)))=true then _ else _
  by_cases c1:(decide (0<=i)&&(decide (i<(ns.length:Int))&&decide (1<=j)))=true
  ·rw[c1]at q ⊢;simp only[Zy,decide_eq_true_eq]at c1;obtain⟨i0,i1,j1⟩:=c1;refine aK ⟨_,rfl,_,rfl,c,a,_,i,j,_,rfl,hC,e,bJ i0 i1,_,rfl,?_⟩;by_cases c2:j<=aj ns i.toNat
   ·rw[decide_eq_true c2]at q ⊢;refine aK ⟨_,rfl,_,rfl,_,rfl,_,rfl,c,_,_,_,rfl,rfl,SqT.of hC,bJ d0 d1,sz rfl,fun p g=>?_⟩;have w1:=af g (.tup [.int hd,.int (aj ns hd.toNat)]);exact⟨a,p,[i,j],nmL hd ns,rfl,rfl,w1 _ _ e',aa,q _ w1⟩
   ·rw[decide_eq_false c2]at q ⊢;exact aD (q H (Same.refl H))
  ·rw[Bool.not_eq_true]at c1;rw[c1]at q ⊢;exact aD (q H (Same.refl H))
abbrev jb:Stmt:=top 42
abbrev rX:List Str:=["kind","part","hand","clock"]
theorem rG:FnScope rX ["kind","part","hand","clock"] (au jb):=⟨rfl,rfl,rfl,by decide +kernel,rfl,by decide +kernel,by decide +kernel⟩
theorem qY{f:Addr}{fd:FuncData}{tk:Tok}(F:Fun K "is_part" "is_part" jb f fd)(i5:Fn P w K mg base 4 "is_known_item" ["thing","hand","clock"] (qk K))(p0:Fn P w K mg base 2 "is_place" ["thing"] (mK K))(t9:Fn P w K mg base 2 "is_text" ["thing"] (oW K))(i7:Fn P w K mg base 3 "is_hand" ["thing","hands"] (oU K))(c6:Fn P w K mg base 2 "is_whole" ["thing","low"] (gZ K))(a5:mg "isinstance" = none)(d8:mg "bool" = none)(a6:mg "len" = none)(k4:mg "MOST_SIGNS" = some (.int 60 tk)):FnOk P w K mg base CX0 5 f fd ["kind","part","hand","clock"] (oV K):=by
 refine F.okQ rG (fun vs H Q E h=>?_) (fun cdv A outer s H vs Q E hr h=>?_)
 ·obtain⟨k,v,b,c,hd,ns,rfl,_⟩:=h;rfl
 obtain⟨k,v,b,c,hd,ns,rfl,hC,d0,d1,hp,q⟩:=h;refine⟨_,(b_c (aC (ax aH (q_v 0) ah) (b_1 (aq (aI i5 (hr.mono (by decide)) (q_a (q_v 1) (q_a (q_v 2) (q_a (q_v 3) ad)))))) b_0)
   (b_c (aC (ax aH (q_v 0) ah) (b_1 (aq (rm (aV jw (q_v 1) dj) (bP (aI i5 (hr.mono (by decide)) (q_a (q_v 1) (q_a (q_v 2) (q_a (q_v 3) ad)))))))) b_0)
   (b_c (aC (ax aH (q_v 0) ah) (b_1 (aq (aI p0 (hr.mono (by decide)) (q_a (q_v 1) ad)))) b_0)
   (b_c (aC (ax aH (q_v 0) ah) (b_1 (aq (bO (aI t9 (hr.mono (by decide)) (q_a (q_v 1) ad)) (bP (aV jW (q_B fN a6 Zw (q_a (q_v 1) ad)) (lV k4)))))) b_0)
   (b_c (aC (ax aH (q_v 0) ah) (b_1 (aq (q_B eO a5 aw (q_a (q_v 1) (q_a (cS d8 fZ) ad))))) b_0)
   (b_c (aC (ax aH (q_v 0) ah) (b_1 (aq (rm (aV jw (q_v 1) dj) (bP (aI i7 (hr.mono (by decide)) (q_a (q_v 1) (q_a (q_B bB a6 Zw (q_a (q_v 3) ad)) ad))))))) b_0)
   (b_c (aC (ax aH (q_v 0) ah) (b_1 (aq (aI c6 (hr.mono (by decide)) (q_a (q_v 1) (q_a ae ad))))) b_0)
   (b_1 (aq (bO (aI c6 (hr.mono (by decide)) (q_a (q_v 1) (q_a ae ad))) (bP (aV jX (q_v 1) (aE bz (q_v 3) (q_v 2)))))))))))))),?_⟩
 have q0:=q H (Same.refl H);cases hp with
 |it r=>exact⟨_,rfl,rfl,_,rfl,bA ⟨_,rfl,_,rfl,_,rfl,v,b,c,hd,ns,rfl,hC,d0,d1,r,q⟩⟩
 |u0=>exact⟨_,rfl,rfl,_,rfl,ak (by decide +kernel) ⟨_,rfl,rfl,_,rfl,bA ⟨_,rfl,rfl,_,rfl,gh rfl q0⟩⟩⟩
 |up hv r=>exact⟨_,rfl,rfl,_,rfl,ak (by decide +kernel) ⟨_,rfl,rfl,_,rfl,bA ⟨_,rfl,rfl,_,rfl,eR hv ⟨_,rfl,_,rfl,_,rfl,v,b,c,hd,ns,rfl,hC,d0,d1,r,q⟩⟩⟩⟩
 |pl a e =>subst e;exact⟨_,rfl,rfl,_,rfl,ak (by decide +kernel) ⟨_,rfl,rfl,_,rfl,ak (by decide +kernel) ⟨_,rfl,rfl,_,rfl,bA ⟨_,rfl,v,rfl,a,q⟩⟩⟩⟩
 |@tx x _ hl ha e =>
  refine⟨_,rfl,rfl,_,rfl,ak (by decide +kernel) ⟨_,rfl,rfl,_,rfl,ak (by decide +kernel) ⟨_,rfl,rfl,_,rfl,ak (by decide +kernel) ⟨_,rfl,rfl,_,rfl,bA ⟨_,rfl,.str x,rfl,.inr ⟨x,rfl,hl,ha,fun H1 s1=>⟨_,rfl,?_⟩⟩⟩⟩⟩⟩⟩;have q1:=q H1 s1;rw[<-e]at q1;by_cases c1:bE x=true
  ·rw[c1,ZX]at q1;rw[c1];refine aK ⟨_,rfl,x,rfl,hl,_,_,rfl,rfl,?_⟩;have e2:decide ((x.length:Int)<=60)=decide (x.length<=60):=by
    by_cases z:x.length<=60
    ·rw[decide_eq_true z,decide_eq_true (by omega)]
    ·rw[decide_eq_false z,decide_eq_false (by omega)]
   rw[<-e2]at q1;exact q1
  ·rw[Bool.not_eq_true]at c1;rw[c1,ZU]at q1;rw[c1];exact aD q1
 |@tn _ n ty hs=>exact⟨_,rfl,rfl,_,rfl,ak (by decide +kernel) ⟨_,rfl,rfl,_,rfl,ak (by decide +kernel) ⟨_,rfl,rfl,_,rfl,ak (by decide +kernel) ⟨_,rfl,rfl,_,rfl,bA ⟨_,rfl,v,rfl,.inl ⟨n,ty,hs,⟨_,rfl,aD q0⟩⟩⟩⟩⟩⟩⟩
 |@bl _ n _ ty e =>subst e;exact⟨_,rfl,rfl,_,rfl,ak (by decide +kernel) ⟨_,rfl,rfl,_,rfl,ak (by decide +kernel) ⟨_,rfl,rfl,_,rfl,ak (by decide +kernel) ⟨_,rfl,rfl,_,rfl,ak (by decide +kernel) ⟨_,rfl,rfl,_,rfl,bA ⟨_,rfl,v,"bool",.type n,isB v,rfl,ty,eF ty,q0⟩⟩⟩⟩⟩⟩
 |w0=>exact⟨_,rfl,rfl,_,rfl,ak (by decide +kernel) ⟨_,rfl,rfl,_,rfl,ak (by decide +kernel) ⟨_,rfl,rfl,_,rfl,ak (by decide +kernel) ⟨_,rfl,rfl,_,rfl,ak (by decide +kernel) ⟨_,rfl,rfl,_,rfl,ak (by decide +kernel) ⟨_,rfl,rfl,_,rfl,bA ⟨_,rfl,rfl,_,rfl,gh rfl q0⟩⟩⟩⟩⟩⟩⟩
 |@wh _ n _ hv ty e =>subst e;refine⟨_,rfl,rfl,_,rfl,ak (by decide +kernel) ⟨_,rfl,rfl,_,rfl,ak (by decide +kernel) ⟨_,rfl,rfl,_,rfl,ak (by decide +kernel) ⟨_,rfl,rfl,_,rfl,ak (by decide +kernel) ⟨_,rfl,rfl,_,rfl,ak (by decide +kernel) ⟨_,rfl,rfl,_,rfl,bA ⟨_,rfl,rfl,_,rfl,eR hv ⟨_,rfl,_,rfl,c,_,rfl,.inr (SqT.of hC),v,n,_,rfl,ty,?_⟩⟩⟩⟩⟩⟩⟩⟩;rw[z6];exact q0
 |@«at» _ n _ ty e =>subst e;exact⟨_,rfl,rfl,_,rfl,ak (by decide +kernel) ⟨_,rfl,rfl,_,rfl,ak (by decide +kernel) ⟨_,rfl,rfl,_,rfl,ak (by decide +kernel) ⟨_,rfl,rfl,_,rfl,ak (by decide +kernel) ⟨_,rfl,rfl,_,rfl,ak (by decide +kernel) ⟨_,rfl,rfl,_,rfl,ak (by decide +kernel) ⟨_,rfl,rfl,_,rfl,bA ⟨_,rfl,v,n,0,rfl,ty,q0⟩⟩⟩⟩⟩⟩⟩⟩
 |@nu _ n _ ty e =>
  subst e;refine⟨_,rfl,rfl,_,rfl,ak (by decide +kernel) ⟨_,rfl,rfl,_,rfl,ak (by decide +kernel) ⟨_,rfl,rfl,_,rfl,ak (by decide +kernel) ⟨_,rfl,rfl,_,rfl,ak (by decide +kernel) ⟨_,rfl,rfl,_,rfl,ak (by decide +kernel) ⟨_,rfl,rfl,_,rfl,ak (by decide +kernel) ⟨_,rfl,rfl,_,rfl,ak (by decide +kernel) ⟨_,rfl,v,n,1,rfl,ty,_,rfl,?_⟩⟩⟩⟩⟩⟩⟩⟩;refine gG (fun c1=>?_) (fun c1=>?_)
  ·cases v with
   |int i =>rw[c1,ZX]at q0;exact⟨_,rfl,_,rfl,_,rfl,c,_,_,_,rfl,rfl,SqT.of hC,bJ d0 d1,_,_,rfl,rfl,q0⟩
   |_=>cases c1
  ·rw[ZQ.mpr c1,ZU]at q0;exact q0
abbrev je:Stmt:=top 41
abbrev se:List Str:=["thing","hand","clock","kinds"]
theorem kX:FnScope se ["thing","hand","clock"] (au je):=⟨rfl,rfl,rfl,by decide +kernel,rfl,by decide +kernel,by decide +kernel⟩
theorem rd{f:Addr}{fd:FuncData}(F:Fun K "is_what" "is_what" je f fd)(e8:Fn P w K mg base 1 "is_deed_word" ["thing"] (kr K))(d7:Fn P w K mg base 1 "deed_parts" ["word"] (jC K))(u4:Fn P w K mg base 5 "is_part" ["kind","part","hand","clock"] (oV K))(a5:mg "isinstance" = none)(a7:mg "tuple" = none)(a6:mg "len" = none)(d6:mg "all" = none)(x5:mg "zip" = none):FnOk P w K mg base CX0 6 f fd ["thing","hand","clock"] (oX K):=by
 refine F.okQ kX (fun vs H Q E h=>?_) (fun cdv A outer s H vs Q E hr h=>?_)
 ·obtain⟨v,b,c,hd,ns,rfl,_⟩:=h;rfl
 obtain⟨v,b,c,hd,ns,rfl,hC,d0,d1,r,q⟩:=h;refine⟨_,(b_c (aC (t_w (cA (bQ (bf (q_B eO a5 aw (q_a (q_v 0) (q_a (cS a7 bq) ad))))) (cA (ax aH (q_B bB a6 Zw (q_a (q_v 0) ad)) ae) (cu (bQ (bf (aI e8 (hr.mono (by decide)) (q_a (aE bz (q_v 0) ae) ad)))))))) (b_1 (aq dA)) b_0)
   (b_c (aJ (i:=3) kX.nd (aI d7 (hr.mono (by decide)) (q_a (aE bz (q_v 0) ae) ad)))
   (b_c (aC (ax eJ (q_B bB a6 Zw (q_a (q_v 0) ad)) (ar bx (q_B bB a6 Zw (q_a (q_v 3) ad)) ae)) (b_1 (aq dA)) b_0)
   (b_1 (aq (q_B (jn rfl) d6 dG (q_a (cK (own:=["kind","part"]) (⟨rfl,by decide +kernel,by decide +kernel,rfl,⟨rfl,rfl,⟨rfl,rfl,trivial⟩⟩⟩:CompOk _ _ [1,2] ["hand","clock"]) rfl (Ah x5 (q_a (q_v 3) (q_a (cG yD (q_v 0) (cy ae) cU) ad))) (fun _ _ _ _=>sM (K:=K) (n:=2) rfl rfl (qL (bp (i:=0) (show (["kind","part","hand","clock"]:List Str).Nodup by decide +kernel)) (qL (bp (i:=1) (show (["kind","part","hand","clock"]:List Str).Nodup by decide +kernel)) yp))) (sN (ik (bj (by decide)) fG (ik (bj (by decide)) fG pV jr) (nZ fG jr))) (fun _ _ _ _=>du) (fun _ _ _ _=>(aI u4 (hr.mono (by decide)) (q_a (q_v 0) (q_a (q_v 1) (q_a (q_v 2) (q_a (q_v 3) ad))))))) ad))))))),?_⟩
 have q0:=q H (Same.refl H);have isT1:∀{t:Addr} {xs:List V},H t=some (.tup xs)->TyOf K H (.ref t) (.type "tuple"):=fun e=>.tup e;cases r with
 |@flat _ n ty hT =>refine⟨_,rfl,v,"tuple",.type n,isT H v,rfl,ty,dI ty,_,rfl,?_⟩;rw[hT];exact aK (aK q0)
 |@emp t e =>refine⟨_,rfl,.ref t,"tuple",.type "tuple",true,rfl,.tup e,bv (b:=true) (by decide +kernel) (fun z=>nomatch z),_,rfl,aD ?_⟩;exact⟨_,rfl,t,_,rfl,.inr (SqT.of e),rfl,_,rfl,gh rfl q0⟩
 |@noStr t x n ps e ty hs =>refine⟨_,rfl,.ref t,"tuple",.type "tuple",true,rfl,.tup e,bv (b:=true) (by decide +kernel) (fun z=>nomatch z),_,rfl,aD ?_⟩;refine⟨_,rfl,t,_,rfl,.inr (SqT.of e),rfl,_,rfl,ak (fun z=>by injection z with z;rw[Zq]at z;omega) ?_⟩;exact⟨_,rfl,t,_,_,_,rfl,rfl,SqT.of e,lG,x,n,rfl,ty,fun _=>⟨_,rfl,aK q0⟩,fun k hk=>by subst hk;cases hs⟩
 |@noWord t k ps e hk =>refine⟨_,rfl,.ref t,"tuple",.type "tuple",true,rfl,.tup e,bv (b:=true) (by decide +kernel) (fun z=>nomatch z),_,rfl,aD ?_⟩;refine⟨_,rfl,t,_,rfl,.inr (SqT.of e),rfl,_,rfl,ak (fun z=>by injection z with z;rw[Zq]at z;omega) ?_⟩;refine⟨_,rfl,t,_,_,_,rfl,rfl,SqT.of e,lG,.str k,"str",rfl,.str k,(fun z=>nomatch z),fun k' hk'=>⟨_,rfl,?_⟩⟩;cases hk';rw[hk];exact aK q0
 |@len t k ps ks e hk hl =>refine⟨_,rfl,.ref t,"tuple",.type "tuple",true,rfl,.tup e,bv (b:=true) (by decide +kernel) (fun z=>nomatch z),_,rfl,aD ?_⟩;refine⟨_,rfl,t,_,rfl,.inr (SqT.of e),rfl,_,rfl,ak (fun z=>by injection z with z;rw[Zq]at z;omega) ?_⟩;refine⟨_,rfl,t,_,_,_,rfl,rfl,SqT.of e,lG,.str k,"str",rfl,.str k,(fun z=>nomatch z),fun k' hk'=>⟨_,rfl,?_⟩⟩;cases hk';rw[hk];refine aD ?_;refine⟨_,rfl,t,_,_,_,rfl,rfl,SqT.of e,lG,k,ks.map nm,rfl,hk,fun y hy=>?_⟩;refine⟨_,rfl,t,_,rfl,.inr (SqT.of e),_,rfl,y,_,rfl,.inr (hy H),_,_,rfl,rfl,rfl,_,rfl,nk (fun _=>q0) (fun z=>?_)⟩;rw[Zq,z6,z6]at z;exact absurd (by omega) hl
 |@is t k ps ks bs _ e hk l3 hp hb =>
  subst hb;obtain⟨lw,lb,hpp⟩:=id hp;refine⟨_,rfl,.ref t,"tuple",.type "tuple",true,rfl,.tup e,bv (b:=true) (by decide +kernel) (fun z=>nomatch z),_,rfl,aD ?_⟩;refine⟨_,rfl,t,_,rfl,.inr (SqT.of e),rfl,_,rfl,ak (fun z=>by injection z with z;rw[Zq]at z;omega) ?_⟩;refine⟨_,rfl,t,_,_,_,rfl,rfl,SqT.of e,lG,.str k,"str",rfl,.str k,(fun z=>nomatch z),fun k' hk'=>⟨_,rfl,?_⟩⟩;cases hk';rw[hk];refine aD ?_;refine⟨_,rfl,t,_,_,_,rfl,rfl,SqT.of e,lG,k,ks.map nm,rfl,hk,fun y hy=>?_⟩;refine⟨_,rfl,t,_,rfl,.inr (SqT.of e),_,rfl,y,_,rfl,.inr (hy H),_,_,rfl,rfl,rfl,_,rfl,kM (by rw[Zq,z6,z6,lw];rfl) ?_⟩;have cv:aG (V.str k::ps) (some 1) none=ps:=by unfold aG;rw[HT.sIx_none,tP (by decide),Zq,show((1:Int).toNat)=1 from rfl,Nat.min_eq_left (by omega),List.drop_succ_cons,Yr,ZL (by omega)]
  refine⟨_,rfl,_,rfl,_,rfl,t,_,rfl,e,fun z H0 w1 ez=>?_⟩;rw[cv]at ez;refine⟨y,z,_,_,rfl,hy _,SqT.of ez,by rw[z6,z6,lw],?_⟩;refine uJ (fun i=>.bl ((bs[i]?).getD true)) (by rw[z6,z6];omega) (hy _) (SqT.of ez) (by rw[z6,z6,lw]) (fun i x v H1 hx hv sm R kk=>?_) (fun p H1 sm hp1=>?_)
  ·obtain⟨kd,hkd,rfl⟩:∃kd,ks[i]?=some kd/\x=.str (nm kd):=by
    rw[ZB,ZB]at hx;cases e:ks[i]? with
    |none=>rw[e]at hx;cases hx
    |some kd=>rw[e]at hx;cases hx;exact⟨kd,rfl,rfl⟩
   have hi:i<bs.length:=by rw[lb];exact(Zf.mp hv).1
   have hb:bs[i]?=some bs[i]:=Za hi;have pb:=(hpp i kd v bs[i] hkd hv hb).same (w1.trans sm);rw[hb]at kk;exact⟨_,rfl,_,rfl,_,rfl,_,rfl,kd,v,bs[i],c,hd,ns,rfl,sm _ _ (w1 _ _ hC),d0,d1,pb,fun H2 s2=>kk H2 s2⟩
  ·refine⟨p,(List.range ((ks.map nm).map V.str).length).map (fun i=>(bs[i]?).getD true),rfl,SqL.of (by rw[aa];simp only[List.map_map];rfl),?_⟩;have e:((List.range ((ks.map nm).map V.str).length).map fun i=>(bs[i]?).getD true)=bs:=by rw[z6,z6,lw,<-lb];refine List.ext_getElem (by simp) fun i h1 h2=>?_;simp[h2]
   rw[e];exact q _ (w1.trans (sm.trans (af hp1 _)))
abbrev iY:Stmt:=top 39
abbrev rT:List Str:=["thing","hands"]
theorem rD:FnScope rT ["thing","hands"] (au iY):=⟨rfl,rfl,rfl,by decide +kernel,rfl,by decide +kernel,by decide +kernel⟩
theorem fz{H:Hp}{c:Addr}{ns:List Int}(e:H c=some (.tup (ns.map V.int)))(hl:ns.length<=1000):Asked K H (.ref c):=ml e (by rw[z6];exact hl) (fun x hx=>by
 obtain⟨n,_,rfl⟩:=ZM.mp hx;exact⟨_,.int n⟩)
theorem mv{H:Hp}{c:Addr}{ns:List Int}{h:Int}(e:H c=some (.tup (ns.map V.int)))(hl:(ns.length:Int)=h)(hn:∀n∈ns,0<=n):gK H h (.ref c)=true:=by rw[cX e];show(decide (((ns.map V.int).length:Int)=h)&&(ns.map V.int).all (fun x=>ba x 0))=true;rw[z6,decide_eq_true hl,ZX,Zx];intro x hx;obtain⟨n,hm,rfl⟩:=ZM.mp hx;exact decide_eq_true (hn n hm)
theorem qV{f:Addr}{fd:FuncData}(F:Fun K "is_deed" "is_deed" iY f fd)(i7:Fn P w K mg base 3 "is_hand" ["thing","hands"] (oU K))(r6:Fn P w K mg base 3 "is_clock" ["thing","hands"] (mJ K))(u5:Fn P w K mg base 6 "is_what" ["thing","hand","clock"] (oX K))(a5:mg "isinstance" = none)(a7:mg "tuple" = none)(a6:mg "len" = none):FnOk P w K mg base CX0 7 f fd ["thing","hands"] (tX K):=by
 refine F.okQ rD (fun vs H Q E h=>?_) (fun cdv A outer s H vs Q E hr h=>?_)
 ·obtain⟨v,b,h,rfl,_⟩:=h;rfl
 obtain⟨v,b,h,rfl,r,q⟩:=h;refine⟨_,(b_c (aC (t_w (cA (bQ (bf (q_B eO a5 aw (q_a (q_v 0) (q_a (cS a7 bq) ad))))) (cu (ax eJ (q_B bB a6 Zw (q_a (q_v 0) ad)) ae)))) (b_1 (aq dA)) b_0)
   (b_c (aC (t_w (cA (bQ (bf (aI i7 (hr.mono (by decide)) (q_a (aE bz (q_v 0) ae) (q_a (q_v 1) ad))))) (cu (bQ (bf (aI r6 (hr.mono (by decide)) (q_a (aE bz (q_v 0) ae) (q_a (q_v 1) ad)))))))) (b_1 (aq dA)) b_0)
   (b_1 (aq (bO (aV vk (aE bz (aE bz (q_v 0) ae) (aE bz (q_v 0) ae)) ae) (bP (aI u5 (hr.mono (by decide)) (q_a (aE bz (q_v 0) ae) (q_a (aE bz (q_v 0) ae) (q_a (aE bz (q_v 0) ae) ad)))))))))),?_⟩
 have q0:=q H (Same.refl H);cases r with
 |@flat _ n ty hT =>refine⟨_,rfl,v,"tuple",.type n,isT H v,rfl,ty,dI ty,_,rfl,?_⟩;rw[hT];exact aK (aK q0)
 |@len a xs e hl =>refine⟨_,rfl,.ref a,"tuple",.type "tuple",true,rfl,.tup e,bv (b:=true) (by decide +kernel) (fun z=>nomatch z),_,rfl,aD ?_⟩;refine⟨_,rfl,a,_,rfl,.inr (SqT.of e),rfl,_,rfl,nk (fun _=>q0) (fun z=>absurd (by omega) hl)⟩
 |@hand a x y z n e ty hx =>refine⟨_,rfl,.ref a,"tuple",.type "tuple",true,rfl,.tup e,bv (b:=true) (by decide +kernel) (fun z=>nomatch z),_,rfl,aD ?_⟩;refine⟨_,rfl,a,_,rfl,.inr (SqT.of e),rfl,_,rfl,kM rfl ?_⟩;refine⟨_,rfl,a,_,_,_,rfl,rfl,SqT.of e,rfl,_,rfl,x,n,h,rfl,ty,_,rfl,?_⟩;rw[hx];exact aK (aK q0)
 |@clock a i y z e i0 i1 ay hc =>refine⟨_,rfl,.ref a,"tuple",.type "tuple",true,rfl,.tup e,bv (b:=true) (by decide +kernel) (fun z=>nomatch z),_,rfl,aD ?_⟩;refine⟨_,rfl,a,_,rfl,.inr (SqT.of e),rfl,_,rfl,kM rfl ?_⟩;refine⟨_,rfl,a,_,_,_,rfl,rfl,SqT.of e,rfl,_,rfl,.int i,"int",h,rfl,.int i,_,rfl,?_⟩;rw[show(ba (.int i) 0&&ltB (.int i) h)=true by show(decide (0<=i)&&decide (i<h))=true;rw[decide_eq_true i0,decide_eq_true i1];rfl];refine aD ?_;refine⟨_,rfl,a,_,_,_,rfl,rfl,SqT.of e,rfl,_,rfl,y,h,rfl,ay,fun H1 s1=>⟨_,rfl,?_⟩⟩;rw[hc];exact aK (q H1 s1)
 |@zero a c i ns z e i0 i1 ec hl hn h8 h0 =>refine⟨_,rfl,.ref a,"tuple",.type "tuple",true,rfl,.tup e,bv (b:=true) (by decide +kernel) (fun z=>nomatch z),_,rfl,aD ?_⟩;refine⟨_,rfl,a,_,rfl,.inr (SqT.of e),rfl,_,rfl,kM rfl ?_⟩;refine⟨_,rfl,a,_,_,_,rfl,rfl,SqT.of e,rfl,_,rfl,.int i,"int",h,rfl,.int i,_,rfl,?_⟩;rw[show(ba (.int i) 0&&ltB (.int i) h)=true by show(decide (0<=i)&&decide (i<h))=true;rw[decide_eq_true i0,decide_eq_true i1];rfl];refine aD ?_;refine⟨_,rfl,a,_,_,_,rfl,rfl,SqT.of e,rfl,_,rfl,.ref c,h,rfl,fz ec (by omega),fun H1 s1=>⟨_,rfl,?_⟩⟩;rw[mv ec hl hn];refine aD ?_;have f1:=s1 _ _ e;refine⟨_,rfl,a,_,_,_,rfl,rfl,SqT.of f1,rfl,_,rfl,a,_,_,_,rfl,rfl,SqT.of f1,rfl,c,_,_,_,rfl,rfl,SqT.of (s1 _ _ ec),bJ i0 (by omega),_,_,rfl,rfl,_,rfl,?_⟩;rw[decide_eq_false (by omega)];exact aD (q H1 s1)
 |@is a c i ns z _ e i0 i1 ec hl hn h8 h1 wr =>refine⟨_,rfl,.ref a,"tuple",.type "tuple",true,rfl,.tup e,bv (b:=true) (by decide +kernel) (fun z=>nomatch z),_,rfl,aD ?_⟩;refine⟨_,rfl,a,_,rfl,.inr (SqT.of e),rfl,_,rfl,kM rfl ?_⟩;refine⟨_,rfl,a,_,_,_,rfl,rfl,SqT.of e,rfl,_,rfl,.int i,"int",h,rfl,.int i,_,rfl,?_⟩;rw[show(ba (.int i) 0&&ltB (.int i) h)=true by show(decide (0<=i)&&decide (i<h))=true;rw[decide_eq_true i0,decide_eq_true i1];rfl];refine aD ?_;refine⟨_,rfl,a,_,_,_,rfl,rfl,SqT.of e,rfl,_,rfl,.ref c,h,rfl,fz ec (by omega),fun H1 s1=>⟨_,rfl,?_⟩⟩;rw[mv ec hl hn];refine aD ?_;have f1:=s1 _ _ e;refine⟨_,rfl,a,_,_,_,rfl,rfl,SqT.of f1,rfl,_,rfl,a,_,_,_,rfl,rfl,SqT.of f1,rfl,c,_,_,_,rfl,rfl,SqT.of (s1 _ _ ec),bJ i0 (by omega),_,_,rfl,rfl,_,rfl,?_⟩;rw[decide_eq_true h1];refine aK ⟨_,rfl,a,_,_,_,rfl,rfl,SqT.of f1,rfl,_,rfl,a,_,_,_,rfl,rfl,SqT.of f1,rfl,_,rfl,a,_,_,_,rfl,rfl,SqT.of f1,rfl,?_⟩;exact⟨z,_,c,i,ns,rfl,s1 _ _ ec,i0,by omega,wr.same s1,fun H2 s2=>q H2 (s1.trans s2)⟩
theorem cxK{CX:CXT}{N:List Str}{qual:Str}{scope:Scope}{f:Addr}{cd:Value}{A:Around}{outer:List Env}{s:Shared}{H:Hp}{E:XK}:(dO CX P w K mg base N qual scope f cd A outer s H E).nox.K=K:=rfl
theorem sL{K:PySem.W.Frag}{a:Addr}{xs:List V}{g:TG}{tb:L2.TS}{D:Ends}{σ:St}{H:Hp}(Pv:Nat->St->Hp->Prop)(h0:Pv 0 σ H)(hl:∀i σ H,i<=xs.length->Pv i σ H->SqL K H a xs)(hs:∀i x σ H,xs[i]?=some x->Pv i σ H->∀D':Ends,(∀σ' H',Pv (i+1) σ' H'->D'.nx σ' H')->g x σ H fun σ2 H2=>tb D' σ2 H2)(hd:∀σ H,Pv xs.length σ H->D.nx σ H) :
  ∃W:Nat->Nat->St->Hp->Prop,(∃m,W 0 m σ H)/\∀i m σ H,W i m σ H ->
   ((Itl K a).stop i H/\D.nx σ H)\/((Itl K a).go i H/\∃N:St->Hp->Prop,(∀σ' H',N σ' H'->∃m',m'<m/\W (i+1) m' σ' H')/\∀x H',(Itl K a).yld i H x H'->g x σ H' fun σ2 H2=>tb { D with nx:=N,ct:=N,bk:=D.nx } σ2 H2) :=
 uU Pv h0 hl (fun i x σ H a b=>hs i x σ H a b _ fun _ _ z=>z) hd
theorem dq{t u:L2.TS}{D:Ends}{σ:St}{H:Hp}(h:∀R:Ends,(∀σ' H',u D σ' H'->R.nx σ' H')->t R σ H):ku t u D σ H:=h { D with nx:=u D } fun _ _ z=>z
theorem at0{x:V}{r:List V}:atI (x::r) 0=some x:=bc (xs:=x::r) (j:=0) rfl
theorem at1{x y:V}{r:List V}:atI (x::y::r) 1=some y:=bc (xs:=x::y::r) (j:=1) rfl
theorem at2{x y z:V}{r:List V}:atI (x::y::z::r) 2=some z:=bc (xs:=x::y::z::r) (j:=2) rfl
theorem wv{c A B:Prop}[Decidable c](h:¬c)(hB:B):if decide c=true then A else B:=by rw[decide_eq_false h];exact aD hB
theorem jA{t u:L2.TS}{D:Ends}{σ:St}{H:Hp}(J:St->Hp->Prop)(h1:∀R:Ends,(∀σ' H',J σ' H'->R.nx σ' H')->t R σ H)(h2:∀σ' H',J σ' H'->u D σ' H'):ku t u D σ H:=h1 { D with nx:=u D } h2
inductive Pd|non|nm(i j:Int)|pl (ns:List Int)|tx (s:Str)|bl (b:Bool)|nu (i:Int)
def eg:Kd->Pd->Prop
 |.u,.non=>True
 |.u,.nm i j=>0<=i/\0<=j/\Sm i/\Sm j
 |.i,.nm i j=>0<=i/\0<=j/\Sm i/\Sm j
 |.p,.pl ns=>1<=ns.length/\ns.length<=65/\∀n∈ns,Sm n
 |.t,.tx s=>bE s=true/\s.length<=200
 |.b,.bl _=>True
 |.w,.non=>True
 |.w,.nu i=>0<=i/\Sm i
 |.a,.nu i=>0<=i/\Sm i
 |.n,.nu i=>0<=i/\Sm i
 |_,_=>False
def PdAt(H:Hp)(v:V):Pd->Prop
 |.non=>v=.non
 |.nm i j=>∃a,v=.ref a/\H a=some (.tup ([i,j].map V.int))
 |.pl ns=>∃a,v=.ref a/\H a=some (.tup (ns.map V.int))
 |.tx s=>v=.str s
 |.bl b=>v=.bl b
 |.nu i=>v=.int i
def ai(sep:Str)(ns:List Int):Str:=Txt.join sep (ns.map ag)
def aS:Kd->Pd->Str
 |.u,.non=>"top"
 |_,.non=>"nobody"
 |_,.nm i j=>ai "." [i,j]
 |_,.pl ns=>ai "/" ns
 |_,.tx s=>s
 |_,.bl b=>if b then"yes" else"no"
 |_,.nu i=>ag i
theorem PdAt.same{H H':Hp}{v:V}{d:Pd}(x:PdAt H v d)(s:Same H H'):PdAt H' v d:=by
 cases d with
 |nm=>obtain⟨a,h1,h2⟩:=x;exact⟨a,h1,s _ _ h2⟩
 |pl=>obtain⟨a,h1,h2⟩:=x;exact⟨a,h1,s _ _ h2⟩
 |_=>exact x
theorem cO{i j:Int}(h:Sm i/\Sm j):∀n∈[i,j],Sm n:=fun n hn=>by
 simp only[Zr,ZK,Yg]at hn;rcases hn with rfl|rfl
 ·exact h.1
 ·exact h.2
theorem PdAt.part{H:Hp}{k:Kd}{v:V}{d:Pd}(x:PdAt H v d)(f:eg k d):PartV H k v (aS k d):=by
 cases k<;>cases d<;>first|exact f.elim|skip
 case u.non=>rw[show v=.non from x];exact .u0
 case u.nm=>obtain⟨a,rfl,e⟩:=x;exact .ui e (cO f.2.2)
 case i.nm=>obtain⟨a,rfl,e⟩:=x;exact .it e (cO f.2.2)
 case p.pl=>obtain⟨a,rfl,e⟩:=x;exact .pl e f.2.2 f.2.1
 case t.tx=>rw[show v=_ from x];exact .tx _ f.2
 case b.bl=>rw[show v=_ from x];exact .bl _
 case w.non=>rw[show v=_ from x];exact .w0
 case w.nu=>rw[show v=_ from x];exact .wi _ f.2
 case a.nu=>rw[show v=_ from x];exact .at _ f.2
 case n.nu=>rw[show v=_ from x];exact .nu _ f.2
def dv(c:Nat):Bool:=decide (48<=c)&&decide (c<=57)
def cB(l:List Nat):Bool:=(decide (1<=l.length)&&decide (l.length<=60))&&l.all dv&&(decide (l=[48]) ||!decide (l.head?=some 48))
def FIG:Str:="0123456789"
theorem ym(c:Nat):decide (c∈FIG.cps.toList)=dv c:=by
 have e:FIG.cps.toList=[48,49,50,51,52,53,54,55,56,57]:=by decide +kernel
 rw[e];unfold dv;rw[y7,Yw,Zy,Yw,Yw];simp only[Zr,ZK,Yg];omega
def wI:Sp:=fun vs H Q _=>∃x:Str,vs=[.str x]/\x.length<=1000/\x.cps.all (·<128)=true/\∀H',Same H H'->Q (.bl (cB x.cps.toList)) H'
theorem uO(x:Str):(((List.range x.cps.size).map fun i=>dv (x.cps.getD i 0)).all id)=x.cps.toList.all dv:=by
 rw[List.all_map,y7,Zx,Zx];constructor
 ·intro h c hc;obtain⟨i,hi,rfl⟩:=Z3 hc;have hi':i<x.cps.size:=by simpa using hi
  have:=h i (Yq.mpr hi');simpa[ZV,hi']using this
 ·intro h i hi;have hi':=Yq.mp hi;have:=h x.cps[i] (by simp);simpa[ZV,hi']using this
theorem AQ(x:Str):decide (V.str x=V.str "0")=decide (x.cps.toList=[48]):=by
 rw[decide_eq_decide];constructor
 ·intro h;injection h with h;rw[h];decide +kernel
 ·intro h;have:x="0":=bM (by rw[h];decide +kernel);rw[this]
abbrev fV:Stmt:=top 33
abbrev nE:List Str:=["text"]
theorem mW:FnScope nE ["text"] (au fV):=⟨rfl,rfl,rfl,by decide +kernel,rfl,by decide +kernel,by decide +kernel⟩
theorem mT{f:Addr}{fd:FuncData}{t1 t2:Tok}(F:Fun K "is_figures" "is_figures" fV f fd)(a6:mg "len" = none)(d6:mg "all" = none)(j2:mg "MOST_FIGURES" = some (.int 60 t1))(u6:mg "FIGURES" = some (.str FIG t2)):FnOk P w K mg base CX0 1 f fd ["text"] wI:=by
 refine F.okQ mW (fun vs H Q E h=>?_) (fun cdv A outer s H vs Q E hr h=>?_)
 ·obtain⟨x,rfl,_⟩:=h;rfl
 obtain⟨x,rfl,hl,ha,q⟩:=h;refine⟨_,(b_c (aC (t_w (cA (bQ (qs jW jW ae (q_B fN a6 Zw (q_a (q_v 0) ad)) (lV j2))) (cu (bQ (bf (q_B (jn rfl) d6 dG (q_a (cK (own:=["sign"]) (⟨rfl,by decide +kernel,by decide +kernel,rfl,trivial⟩:CompOk _ _ [] []) rfl (wt (q_v 0)) (fun _ _ _ _=>bp (i:=0) (show (["sign"]:List Str).Nodup by decide +kernel)) (bj (by decide)) (fun _ _ _ _=>du) (fun _ _ _ _=>(aV wx (q_v 0) (A5 u6)))) ad))))))) (b_1 (aq dA)) b_0)
   (b_1 (aq (rm (aV aH (q_v 0) ah) (bP (rk (oH (q_v 0) ah))))))),?_⟩
 have lx:x.cps.toList.length=x.length:=Zz;have fin:∀H',Same H H'->x.cps.toList.all dv=true->1<=x.length->x.length<=60->∀R:VK,(∀b,b=cB x.cps.toList->R (.bl b) H')->vS (tOp rEq (tVar 0) (tC (.str "0"))) (rO (tBM K "str" lY (tVar 0) (dS (tC (.str "0")) iJ))) [some (.str x)] H' R:=fun H' s' h1 h2 h3 R hR=>by
  have fb:cB x.cps.toList=(decide (x.cps.toList=[48]) ||!decide (x.cps.toList.head?=some 48)):=by unfold cB;rw[h1,lx,decide_eq_true h2,decide_eq_true h3];rfl
  refine⟨_,rfl,rfl,_,rfl,?_⟩;rw[AQ];cases e:decide (x.cps.toList=[48])with
  |true=>exact aK (hR _ (by rw[fb,e];rfl))
  |false =>refine aD ⟨_,rfl,rfl,x,"0",rfl,rfl,_,rfl,?_⟩;have es:Txt.startswith x "0" = decide (x.cps.toList.head?=some 48):=mM (c:=48);rw[es];exact hR _ (by rw[fb,e];rfl)
 refine⟨_,rfl,x,rfl,hl,_,_,rfl,rfl,_,rfl,?_⟩;refine gG (fun c=>?_) (fun c=>?_)
 ·have c1:1<=x.length:=by have:=y6 c;omega
  refine⟨_,_,rfl,rfl,_,rfl,?_⟩;by_cases c2:x.length<=60
  ·rw[decide_eq_true (show(x.length:Int)<=60 by omega)];refine aD ⟨_,rfl,x,rfl,ha,?_⟩;refine nP (x:=x) (fun i=>.bl (dv (x.cps.getD i 0))) hl (fun i c' H1 hi sm R k=>?_) (fun p H1 sm hp=>?_)
   ·have e:x.cps.getD i 0=c':=by rw[ZV,hi];rfl
    rw[e]at k;have k':=k H1 (Same.refl H1);rw[<-ym,<-xj]at k';exact⟨_,rfl,⟨#[c']⟩,FIG,rfl,rfl,k'⟩
   ·refine⟨p,(List.range x.cps.size).map (fun i=>dv (x.cps.getD i 0)),rfl,SqL.of (by rw[aa,List.map_map];rfl),_,rfl,?_⟩;rw[uO];have sp:=sm.trans (af hp (.lst ((List.range x.cps.size).map fun i=>V.bl (dv (x.cps.getD i 0)))));cases e:x.cps.toList.all dv with
    |true=>exact aD (fin _ sp e c1 c2 _ fun b hb=>by rw[hb];exact q _ sp)
    |false =>refine aK ?_;have q':=q _ sp;rw[show cB x.cps.toList=false by unfold cB;rw[e];simp]at q';exact q'
  ·rw[decide_eq_false (show¬(x.length:Int)<=60 by omega)];refine aK (aK ?_);have q':=q H (Same.refl H);rw[show cB x.cps.toList=false by unfold cB;rw[lx,decide_eq_false c2];simp]at q';exact q'
 ·have c1:¬1<=x.length:=fun z=>c (decide_eq_true (by omega));refine⟨_,rfl,aK (aK ?_)⟩;have q':=q H (Same.refl H);rw[show cB x.cps.toList=false by unfold cB;rw[lx,decide_eq_false c1];simp]at q';exact q'
def bw(l:List Nat):Bool:=cB (if l.head?=some 45 then l.tail else l)&&!decide (l=[45,48])
theorem so{x:Str}(h:∀c∈x.cps.toList,c=45\/(48<=c/\c<=57)):x.cps.all (·<128)=true:=by rw[<-ZP,Zx];intro c hc;have:=h c hc;exact decide_eq_true (by omega)
theorem AM{x:Str}(h:1<=x.length):(bu x (some 1) none).cps.toList=x.cps.toList.tail:=by
 have e2:bu x (some ((1:Nat):Int)) none=bu x (some ((1:Nat):Int)) (some ((x.length:Nat):Int)):=by unfold bu;rw[StrLaws.sliceIdx_none_hi]
 show(bu x (some ((1:Nat):Int)) none).cps.toList=_;rw[e2];unfold bu;split
 ·rename_i z;rw[StrLaws.strSliceIndices_plain h (Zg _),z6,y4]at z;omega
 ·rw[StrLaws.sliced_plain x h (Zg _)];show((x.cps.toList.drop 1).take (x.length-1))=_;rw[ZL (by rw[Yk];exact Zg _)];exact List.drop_one
def tZ:Sp:=fun vs H Q _=>∃x:Str,vs=[.str x]/\x.length<=1000/\x.cps.all (·<128)=true/\∀H',Same H H'->Q (.bl (bw x.cps.toList)) H'
theorem Ac(x:Str):decide (V.str x=V.str "-0")=decide (x.cps.toList=[45,48]):=by
 rw[decide_eq_decide];constructor
 ·intro h;injection h with h;rw[h];decide +kernel
 ·intro h;have:x="-0":=bM (by rw[h];decide +kernel);rw[this]
abbrev dC:Stmt:=top 34
abbrev jM:List Str:=["word","figures"]
theorem fq:FnScope jM ["word"] (au dC):=⟨rfl,rfl,rfl,by decide +kernel,rfl,by decide +kernel,by decide +kernel⟩
theorem jE{f:Addr}{fd:FuncData}(F:Fun K "is_number_word" "is_number_word" dC f fd)(k7:Fn P w K mg base 1 "is_figures" ["text"] wI):FnOk P w K mg base CX0 2 f fd ["word"] tZ:=by
 refine F.okQ fq (fun vs H Q E h=>?_) (fun cdv A outer s H vs Q E hr h=>?_)
 ·obtain⟨x,rfl,_⟩:=h;rfl
 obtain⟨x,rfl,hl,ha,q⟩:=h;refine⟨_,(b_c (aJ (i:=1) fq.nd (zB (bf (oH (q_v 0) ah)) (cG oj (q_v 0) (cy ae) cU) (q_v 0)))
   (b_1 (aq (bO (aI k7 (hr.mono (by decide)) (q_a (q_v 1) ad)) (bP (aV eJ (q_v 0) ah)))))),?_⟩
 have es:Txt.startswith x "-" = decide (x.cps.toList.head?=some 45):=mM (c:=45);refine jA (fun σ' H'=>H'=H/\∃y:Str,y.length<=1000/\y.cps.all (·<128)=true/\y.cps.toList=(if x.cps.toList.head?=some 45 then x.cps.toList.tail else x.cps.toList)/\σ'=[some (.str x),some (.str y)]) (fun R hR=>?_) ?_
 rotate_left
 ·rintro σ' H' ⟨rfl,y,hy,hay,e,rfl⟩;refine⟨_,rfl,y,rfl,hy,hay,fun H1 s1=>?_⟩;have q':=q H1 s1;unfold bw at q';rw[<-e]at q';refine⟨_,rfl,?_⟩;cases eb:cB y.cps.toList with
  |true =>rw[eb,ZX]at q';refine aK ⟨_,rfl,rfl,?_⟩;rw[Ac];exact q'
  |false =>rw[eb]at q';exact aD q'
 refine⟨_,rfl,rfl,x,"-",rfl,rfl,_,rfl,?_⟩;rw[es];refine dw (fun c=>?_) (fun c=>?_)
 ·have l1:1<=x.length:=by
   show 1<=x.cps.size;rw[<-Zz];cases e:x.cps.toList with
   |nil=>rw[e]at c;cases c
   |cons a r=>simp
  refine⟨_,rfl,_,rfl,x,rfl,hl,?_⟩;have e:=AM l1;refine hR _ _ ⟨rfl,bu x (some 1) none,Zd (dZ x (some 1) none) hl,?_,by rw[e,BK c],rfl⟩
  ·rw[<-ZP,Zx]at ha ⊢;rw[e];intro d hd;exact ha d (List.mem_of_mem_tail hd)
 ·exact⟨_,rfl,hR _ _ ⟨rfl,x,hl,ha,by rw[BJ c],rfl⟩⟩
theorem cE{i:Int}(h:Sm i):bw (ag i).cps.toList=true:=by
 have dl:=nV 59 h;have da:=gM i.natAbs;have dn:=ie i.natAbs;have al:(dg i.natAbs).all dv=true:=by rw[Zx];intro c hc;have:=da c hc;unfold dv;rw[decide_eq_true this.1,decide_eq_true this.2];rfl
 have l1:1<=(dg i.natAbs).length:=List.length_pos_iff.mpr dn;have h0:(decide (dg i.natAbs=[48]) ||!decide ((dg i.natAbs).head?=some 48))=true:=by
  by_cases c:i.natAbs=0
  ·rw[c,show dg 0=[48]from ge (by decide)];rfl
  ·rw[decide_eq_false (pR _ c)];simp
 have fg:cB (dg i.natAbs)=true:=by unfold cB;rw[al,h0,decide_eq_true l1,decide_eq_true dl];rfl
 by_cases c:0<=i
 ·have e:(ag i).cps.toList=dg i.natAbs:=by rw[cC c,show i.toNat=i.natAbs by omega]
  have nh:(dg i.natAbs).head?≠some 45:=fun z=>by have:=da 45 (List.mem_of_mem_head? z);omega
  unfold bw;rw[e,BJ nh,fg,decide_eq_false]
  ·rfl
  ·intro z;rw[z]at nh;exact nh rfl
 ·have e:=cD (i:=i) (by omega);unfold bw;rw[e,List.head?_cons,BK rfl,List.tail_cons,fg,decide_eq_false]
  ·rfl
  ·intro z;injection z with _ z;have:=pR i.natAbs (by omega);rw[z]at this;exact this rfl
theorem xg{i:Int}(h:0<=i):bw (48::(ag i).cps.toList)=false:=by
 unfold bw;rw[List.head?_cons,BJ (by decide)];have:cB (48::(ag i).cps.toList)=false:=by
  have ne:¬(48::(ag i).cps.toList=[48]):=fun z=>by injection z with _ z;rw[cC h]at z;exact ie _ z
  unfold cB;rw[List.head?_cons,decide_eq_false ne,decide_eq_true (rfl:some 48=some 48)];simp
 rw[this];rfl
theorem xh{i:Int}(h:Sm i):(ag i).length<=62:=h.len
theorem wj:∀(n:Nat) (l:List Nat),l.length=n+1->l.all dv=true->(l=[48]\/l.head?≠some 48)->∃m,l=dg m/\(l.head?≠some 48->m≠0)/\m<10^(n+1)
 |0,l,hl,ha,_=>by
  match l,hl with
  | [c],_ =>
   have hc:48<=c/\c<=57:=by simp only[Ya,List.all_nil,Bool.and_true,dv,Zy,decide_eq_true_eq]at ha;exact ha
   refine⟨c-48,?_,fun h z=>h ?_,by omega⟩
   ·rw[ge (by omega),show 48+(c-48)=c by omega]
   ·rw[show c=48 by omega];rfl
 |n+1,l,hl,ha,h0=>by
  have ne:l≠[]:=fun z=>by rw[z]at hl;simp at hl
  have el:=Ys ne;generalize hl':l.dropLast=l' at el;generalize l.getLast ne=c at el;subst el;have ll:l'.length=n+1:=by rw[Zh,Zn]at hl;omega
  have hh:(l'++[c]).head?=l'.head?:=by
   cases l' with
   |nil=>simp at ll
   |cons=>rfl
  rw[Yp,Zy]at ha;have hc:48<=c/\c<=57:=by have:=ha.2;simp only[Ya,List.all_nil,Bool.and_true,dv,Zy,decide_eq_true_eq]at this;exact this
  have h1:l'.head?≠some 48:=by
   rcases h0 with z|z
   ·have:=ZT List.length z;rw[Zh,ll]at this;simp at this
   ·rw[<-hh];exact z
  obtain⟨m,e,hm,lt⟩:=wj n l' ll ha.1 (.inr h1);have m0:=hm h1;refine⟨10*m+(c-48),?_,fun _=>by omega,?_⟩
  ·rw[gN (by omega),show(10*m+(c-48)) / 10=m by omega,show 48+(10*m+(c-48))%10=c by omega,e]
  ·rw[Nat.pow_succ];omega
theorem sF{l:List Nat}(h:cB l=true):∃m,l=dg m/\m<10^60:=by unfold cB at h;simp only[Zy,Bool.or_eq_true,decide_eq_true_eq,Bool.not_eq_true',decide_eq_false_iff_not]at h;obtain⟨⟨⟨h1,h2⟩,h3⟩,h4⟩:=h;obtain⟨m,e,_,lt⟩:=wj (l.length-1) l (by omega) h3 h4;refine⟨m,e,Zm lt (Nat.pow_le_pow_right (by decide) (by omega))⟩
theorem oq{x:Str}(h:bw x.cps.toList=true):∃i:Int,x=ag i/\Sm i:=by
 unfold bw at h;rw[Zy]at h;obtain⟨h1,h2⟩:=h;by_cases c:x.cps.toList.head?=some 45
 ·rw[BK c]at h1;obtain⟨m,e,lt⟩:=sF h1;have ex:x.cps.toList=45::dg m:=by
   cases hx:x.cps.toList with
   |nil=>rw[hx]at c;cases c
   |cons a r =>rw[hx]at c e;cases c;rw[<-e];rfl
  have m0:m≠0:=fun z=>by rw[z,show dg 0=[48]from ge (by decide)]at ex;rw[ex]at h2;exact absurd h2 (by decide)
  refine⟨-(m:Int),bM ?_,?_⟩
  ·rw[ex,cD (by omega),show(-(m:Int)).natAbs=m by omega]
  ·unfold Sm;rw[show(-(m:Int)).natAbs=m by omega];exact lt
 ·rw[BJ c]at h1;obtain⟨m,e,lt⟩:=sF h1;refine⟨(m:Int),bM ?_,?_⟩
  ·rw[e,cC (by omega),Yf]
  ·unfold Sm;rw[Int.natAbs_natCast];exact lt
def Asc(x:Str):Prop:=x.length<=1000/\x.cps.all (·<128)=true
def lf(cT:Addr):Sp:=fun vs H Q E=>∃x:Str,vs=[.str x]/\Asc x/\(∀i:Int,x=ag i->Sm i->∀H',Same H H'->Q (.int i) H')/\(bw x.cps.toList=false->∀H',Same H H'->E (.ref cT) none H')
abbrev fm:Stmt:=top 50
abbrev mQ:List Str:=["word"]
theorem me:FnScope mQ ["word"] (au fm):=⟨rfl,rfl,rfl,by decide +kernel,rfl,by decide +kernel,by decide +kernel⟩
theorem lS{f cT:Addr}{fd:FuncData}(F:Fun K "read_number" "read_number" fm f fd)(i6:Fn P w K mg base 2 "is_number_word" ["word"] tZ)(b9:mg "int" = none)(x_NoText:ExCls K cT)(c8:mg "NoText" = some (.ref cT)):FnOk P w K mg base (CXr P w) 3 f fd ["word"] (lf cT):=by
 refine F.okX me (fun vs H Q E h=>?_) (fun cdv A outer s H vs Q E hr h=>?_)
 ·obtain⟨x,rfl,_⟩:=h;rfl
 obtain⟨x,rfl,as,q,qe⟩:=h;refine⟨_,(b_c (aC (bQ (bf (aI i6 (hr.mono (by decide)) (q_a (q_v 0) ad)))) (b_1 (gW (db aU) rfl x_NoText c8 (q_a ah ad))) b_0)
   (b_1 (aq (ci yj b9 bK (q_a (q_v 0) ad))))),?_⟩
 refine⟨_,rfl,x,rfl,as.1,as.2,fun H1 s1=>⟨_,rfl,?_⟩⟩;cases hb:bw x.cps.toList with
 |true =>obtain⟨i,rfl,hi⟩:=oq hb;exact aD ⟨_,rfl,ag i,i,rfl,kK hi,Zd (xh hi) (by decide),q i rfl hi H1 s1⟩
 |false=>exact aK ⟨sz rfl,qe hb H1 s1⟩
theorem jR{s:Str}:∀{l:List Str} {p:Str},p∈l->p.length<=(Str.join s l).length
 | [a],p,h=>by rw[Ze.mp h];exact Zg _
 |a::b::r,p,h=>by
  show p.length<=(a++s++Str.join s (b::r)).length;rw[ZD,ZD];rcases Zr.mp h with rfl|h
  ·omega
  ·have:=jR (s:=s) h;omega
def dz(x:Str):Int:=(PySem.intText? x).getD 0
theorem dJ{i:Int}(h:Sm i):dz (ag i)=i:=by unfold dz;rw[kK h];rfl
def bU(l:List Str):Bool:=l.all fun p=>bw p.cps.toList
def WdN(c:Nat)(x:Str):Prop:=x.length<=100000/\(Txt.split x (ch1 c)).length<=1000/\∀p∈Txt.split x (ch1 c),Asc p
def lg(cT:Addr):Sp:=fun vs H Q E=>∃(c:Nat) (x:Str),vs=[.str x,.str (ch1 c)]/\WdN c x/\(bU (Txt.split x (ch1 c))=true->∀(a:Addr) (H':Hp),Same H H'->H' a=some (.tup (((Txt.split x (ch1 c)).map dz).map V.int))->Q (.ref a) H')/\(bU (Txt.split x (ch1 c))=false->∀H',Same H H'->E (.ref cT) none H')
abbrev eN:Stmt:=top 49
abbrev lD:List Str:=["word","sign"]
theorem kY:FnScope lD ["word","sign"] (au eN):=⟨rfl,rfl,rfl,by decide +kernel,rfl,by decide +kernel,by decide +kernel⟩
theorem kQ{f cT:Addr}{fd:FuncData}(F:Fun K "read_numbers" "read_numbers" eN f fd)(FX_read_number:FnX P w K mg base 3 "read_number" ["word"] (lf cT))(a7:mg "tuple" = none):FnOk P w K mg base (CXr P w) 4 f fd ["word","sign"] (lg cT):=by
 refine F.okX kY (fun vs H Q E h=>?_) (fun cdv A outer s H vs Q E hr h=>?_)
 ·obtain⟨c,x,rfl,_⟩:=h;rfl
 obtain⟨c,x,rfl,⟨hx,hl,hp⟩,q,qe⟩:=h;refine⟨_,(b_1 (aq (ci kE a7 bq (q_a (xK aU (own:=["number"]) (⟨rfl,by decide +kernel,by decide +kernel,rfl,trivial⟩:CompOk _ _ [] []) rfl (oh (lW (q_v 0) (q_v 1))) (fun _ _ _ _=>bp (i:=0) (show(["number"]:List Str).Nodup by decide +kernel)) (bj (by decide)) (fun _ _ _ _=>du) (fun _ _ _ _=>(eU FX_read_number wB (hr.mono (by decide)) (q_a (q_v 0) ad)))) ad)))),?_⟩
 try rw[cxK]
 refine⟨_,rfl,rfl,_,rfl,_,ch1 c,rfl,rfl,rfl,hx,fun D gD=>⟨D,rfl,⟨_,SqL.of aa⟩,?_⟩⟩;generalize Txt.split x (ch1 c)=ps at hl hp q qe ⊢;have wD:=af gD (.lst (ps.map V.str));have eD:upd H D (.lst (ps.map V.str)) D=some (.lst (ps.map V.str)):=aa;generalize upd H D (.lst (ps.map V.str))=H1 at wD eD ⊢;refine jP (N:=ps.length) (fun i ys H'=>Same H1 H'/\i<=ps.length/\ys=((ps.take i).map dz).map V.int/\bU (ps.take i)=true) hl (fun i ys H' z=>?_) ⟨Same.refl _,Yi _,rfl,rfl⟩ (fun i ys H' hi z=>⟨_,.str ps[i],SqL.of (z.1 _ _ eD),by rw[ZB,Za hi];rfl⟩) (fun ys H' z=>⟨_,SqL.of (z.1 _ _ eD),by rw[z6];exact Zg _⟩) (fun i ys H' v H2 hi z y A kA=>?_) (fun ys p H' z g=>?_)
 ·obtain⟨_,hi,rfl,_⟩:=z;simp only[z6,y8];omega
 ·obtain⟨rfl,y⟩:=y;obtain⟨s1,_,rfl,ha⟩:=z;have hv:=y _ (SqL.of (s1 _ _ eD));rw[ZB,Za hi]at hv;cases hv;have tk:ps.take (i+1)=ps.take i++[ps[i]]:=by rw[List.take_succ,Za hi];rfl
  refine⟨_,rfl,ps[i],rfl,hp _ (Z9 hi),fun j ej hj H3 s3=>kA _ _ ⟨s1.trans s3,hi,?_,?_⟩,fun hb H3 s3=>qe ?_ _ (wD.trans (s1.trans s3))⟩
  ·rw[tk,ZO,ZO,List.map_singleton,List.map_singleton,ej,dJ hj]
  ·rw[tk];unfold bU at ha ⊢;rw[Yp,ha,ej,Ya,cE hj];rfl
  ·unfold bU;refine ZQ.mpr fun z=>?_;rw[Zx]at z;rw[z _ (Z9 hi)]at hb;cases hb
 ·obtain⟨s1,_,rfl,ha⟩:=z;rw[List.take_length]at ha ⊢;have wp:=af g (.lst ((ps.map dz).map V.int));exact⟨p,_,rfl,.inl ⟨SqL.of aa,fun t gt=>q ha t _ (wD.trans (s1.trans (wp.trans (af gt _)))) aa⟩⟩
def iK(x:Str):Bool:=decide (x="yes") ||decide (x="no")
def ug:Sp:=fun vs H Q _=>∃x:Str,vs=[.str x]/\∀H',Same H H'->Q (.bl (iK x)) H'
abbrev dQ:Stmt:=top 35
abbrev ky:List Str:=["word"]
theorem km:FnScope ky ["word"] (au dQ):=⟨rfl,rfl,rfl,by decide +kernel,rfl,by decide +kernel,by decide +kernel⟩
theorem ka{f:Addr}{fd:FuncData}(F:Fun K "is_truth_word" "is_truth_word" dQ f fd):FnOk P w K mg base CX0 1 f fd ["word"] ug:=by
 refine F.okQ km (fun vs H Q E h=>?_) (fun cdv A outer s H vs Q E hr h=>?_)
 ·obtain⟨x,rfl,_⟩:=h;rfl
 obtain⟨x,rfl,q⟩:=h;refine⟨_,(b_1 (aq (aV (Ak (K:=K) rfl) (q_v 0) (gm (q_a ah (q_a ah ad)))))),?_⟩;refine⟨_,rfl,sz rfl,fun u gu=>?_⟩;refine⟨u,_,rfl,.inr (SqT.of aa),rfl,rfl,?_⟩;have sd:∀y:Str,eqV (.str y) (.str x)=decide (x=y):=fun y=>by show(y==x)=decide (x=y);rw[y7,Yw,beq_iff_eq];exact eq_comm
 have e:inV (.str x) [.str "yes",.str "no"]=iK x:=by unfold iK;rw[<-sd,<-sd];simp[inV]
 show Q (.bl (if false=true then !inV (.str x) [.str "yes",.str "no"]else inV (.str x) [.str "yes",.str "no"])) _;rw[e];exact q _ (af gu _)
def wL(cT:Addr):Sp:=fun vs H Q E=>∃x:Str,vs=[.str x]/\(iK x=true->∀H',Same H H'->Q (.bl (decide (x="yes"))) H')/\(iK x=false->∀H',Same H H'->E (.ref cT) none H')
abbrev fW:Stmt:=top 48
abbrev nF:List Str:=["word"]
theorem mX:FnScope nF ["word"] (au fW):=⟨rfl,rfl,rfl,by decide +kernel,rfl,by decide +kernel,by decide +kernel⟩
theorem mU{f cT:Addr}{fd:FuncData}(F:Fun K "read_truth" "read_truth" fW f fd)(i8:Fn P w K mg base 1 "is_truth_word" ["word"] ug)(x_NoText:ExCls K cT)(c8:mg "NoText" = some (.ref cT)):FnOk P w K mg base (CXr P w) 2 f fd ["word"] (wL cT):=by
 refine F.okX mX (fun vs H Q E h=>?_) (fun cdv A outer s H vs Q E hr h=>?_)
 ·obtain⟨x,rfl,_⟩:=h;rfl
 obtain⟨x,rfl,q,qe⟩:=h;refine⟨_,(b_c (aC (bQ (bf (aI i8 (hr.mono (by decide)) (q_a (q_v 0) ad)))) (b_1 (gW (db aU) rfl x_NoText c8 (q_a ah ad))) b_0)
   (b_1 (aq (aV aH (q_v 0) ah)))),?_⟩
 refine⟨_,rfl,x,rfl,fun H1 s1=>⟨_,rfl,?_⟩⟩;cases hb:iK x with
 |true =>
  refine aD ⟨_,rfl,rfl,?_⟩;have sd:decide (V.str x=V.str "yes")=decide (x="yes"):=by rw[decide_eq_decide];exact⟨fun z=>V.str.inj z,fun z=>by rw[z]⟩
  rw[sd];exact q hb H1 s1
 |false=>exact aK ⟨sz rfl,qe hb H1 s1⟩
def cF(c:Nat)(x:Str):Option Pd:=if bU (Txt.split x (ch1 c))then some (.pl ((Txt.split x (ch1 c)).map dz))else none
def eH(x:Str):Option Pd:=if bw x.cps.toList then some (.nu (dz x))else none
def prs:Kd->Str->Option Pd
 |.t,x=>some (.tx x)
 |.b,x=>if iK x then some (.bl (decide (x="yes")))else none
 |.p,x=>cF 47 x
 |.i,x=>cF 46 x
 |.u,x=>if x="top" then some .non else cF 46 x
 |.w,x=>if x="nobody" then some .non else eH x
 |.a,x=>eH x
 |.n,x=>eH x
def WdP:Kd->Str->Prop
 |.t,_=>True
 |.b,_=>True
 |.p,x=>WdN 47 x
 |.i,x=>WdN 46 x
 |.u,x=>WdN 46 x
 |_,x=>Asc x
def wK(cT:Addr):Sp:=fun vs H Q E=>∃(k:Kd) (x:Str),vs=[.str (nm k),.str x]/\WdP k x/\(∀d,prs k x=some d->∀(v:V) (H':Hp),Same H H'->PdAt H' v d->Q v H')/\(prs k x=none->∀H',Same H H'->E (.ref cT) none H')
theorem lR{cT:Addr}{c:Nat}{x:Str}{H:Hp}{Q:VK}{E:XK}(h:WdN c x)(q:∀d,cF c x=some d->∀(v:V) (H':Hp),Same H H'->PdAt H' v d->Q v H')(qe:cF c x=none->∀H',Same H H'->E (.ref cT) none H'):lg cT [.str x,.str (ch1 c)] H Q E:=by
 unfold cF at q qe;refine⟨c,x,rfl,h,fun z a H' s e=>?_,fun z H' s=>?_⟩
 ·rw[BK z]at q;exact q _ rfl _ _ s ⟨a,rfl,e⟩
 ·rw[BJ (by rw[z];exact Zi)]at qe;exact qe rfl _ s
theorem ow{cT:Addr}{x:Str}{H:Hp}{Q:VK}{E:XK}(h:Asc x)(q:∀d,eH x=some d->∀(v:V) (H':Hp),Same H H'->PdAt H' v d->Q v H')(qe:eH x=none->∀H',Same H H'->E (.ref cT) none H'):lf cT [.str x] H Q E:=by
 unfold eH at q qe;refine⟨x,rfl,h,fun i ei hi H' s=>?_,fun z H' s=>?_⟩
 ·subst ei;rw[BK (cE hi)]at q;exact q _ rfl _ _ s (by rw[dJ hi];rfl)
 ·rw[BJ (by rw[z];exact Zi)]at qe;exact qe rfl _ s
theorem mi{A B:Prop}{x y:Str}(h1:x=y->A)(h2:x≠y->B):if decide (V.str x=V.str y)=true then A else B:=by
 by_cases c:x=y
 ·rw[decide_eq_true (by rw[c])];exact aK (h1 c)
 ·rw[decide_eq_false (fun z=>c (V.str.inj z))];exact aD (h2 c)
abbrev gI:Stmt:=top 47
abbrev pr:List Str:=["kind","word"]
theorem oR:FnScope pr ["kind","word"] (au gI):=⟨rfl,rfl,rfl,by decide +kernel,rfl,by decide +kernel,by decide +kernel⟩
theorem oB{f cT:Addr}{fd:FuncData}(F:Fun K "read_part" "read_part" gI f fd)(FX_read_truth:FnX P w K mg base 2 "read_truth" ["word"] (wL cT))(FX_read_numbers:FnX P w K mg base 4 "read_numbers" ["word","sign"] (lg cT))(FX_read_number:FnX P w K mg base 3 "read_number" ["word"] (lf cT)):FnOk P w K mg base (CXr P w) 5 f fd ["kind","word"] (wK cT):=by
 refine F.okX oR (fun vs H Q E h=>?_) (fun cdv A outer s H vs Q E hr h=>?_)
 ·obtain⟨k,x,rfl,_⟩:=h;rfl
 obtain⟨k,x,rfl,wd,q,qe⟩:=h;refine⟨_,(b_c (aC (ax aH (q_v 0) ah) (b_1 (aq (q_v 1))) b_0)
   (b_c (aC (ax aH (q_v 0) ah) (b_1 (aq (eU FX_read_truth (gl aU) (hr.mono (by decide)) (q_a (q_v 1) ad)))) b_0)
   (b_c (aC (ax aH (q_v 0) ah) (b_1 (aq (eU FX_read_numbers (gl aU) (hr.mono (by decide)) (q_a (q_v 1) (q_a ah ad))))) b_0)
   (b_c (aC (ax aH (q_v 0) ah) (b_1 (aq (eU FX_read_numbers (gl aU) (hr.mono (by decide)) (q_a (q_v 1) (q_a ah ad))))) b_0)
   (b_c (aC (ax aH (q_v 0) ah) (b_1 (aq (zB (ax aH (q_v 1) ah) dj (eU FX_read_numbers (gl aU) (hr.mono (by decide)) (q_a (q_v 1) (q_a ah ad)))))) b_0)
   (b_c (aC (t_w (fD (ax aH (q_v 0) ah) (dW (ax aH (q_v 1) ah)))) (b_1 (aq dj)) b_0)
   (b_1 (aq (eU FX_read_number (gl aU) (hr.mono (by decide)) (q_a (q_v 1) ad)))))))))),?_⟩
 try rw[cxK]
 cases k with
 |t=>exact⟨_,rfl,rfl,_,rfl,bA ⟨_,rfl,q _ rfl _ _ (Same.refl _) rfl⟩⟩
 |b =>
  refine⟨_,rfl,rfl,_,rfl,ak (by decide +kernel) ?_⟩;refine⟨_,rfl,rfl,_,rfl,bA ⟨_,rfl,x,rfl,fun z H1 s1=>?_,fun z H1 s1=>?_⟩⟩
  ·exact q (.bl (decide (x="yes"))) (BK z) _ _ s1 rfl
  ·exact qe (BJ (by rw[z];exact Zi)) _ s1
 |p =>refine⟨_,rfl,rfl,_,rfl,ak (by decide +kernel) ?_⟩;refine⟨_,rfl,rfl,_,rfl,ak (by decide +kernel) ?_⟩;exact⟨_,rfl,rfl,_,rfl,bA ⟨_,rfl,lR (c:=47) wd q qe⟩⟩
 |i =>refine⟨_,rfl,rfl,_,rfl,ak (by decide +kernel) ?_⟩;refine⟨_,rfl,rfl,_,rfl,ak (by decide +kernel) ?_⟩;refine⟨_,rfl,rfl,_,rfl,ak (by decide +kernel) ?_⟩;exact⟨_,rfl,rfl,_,rfl,bA ⟨_,rfl,lR (c:=46) wd q qe⟩⟩
 |u =>refine⟨_,rfl,rfl,_,rfl,ak (by decide +kernel) ?_⟩;refine⟨_,rfl,rfl,_,rfl,ak (by decide +kernel) ?_⟩;refine⟨_,rfl,rfl,_,rfl,ak (by decide +kernel) ?_⟩;refine⟨_,rfl,rfl,_,rfl,ak (by decide +kernel) ?_⟩;refine⟨_,rfl,rfl,_,rfl,bA ?_⟩;refine⟨_,rfl,rfl,_,rfl,mi (fun c=>q _ (BK c) _ _ (Same.refl _) rfl) fun c=>?_⟩;exact⟨_,rfl,lR (c:=46) wd (fun d z=>q d ((BJ c).trans z)) fun z=>qe ((BJ c).trans z)⟩
 |w =>refine⟨_,rfl,rfl,_,rfl,ak (by decide +kernel) ?_⟩;refine⟨_,rfl,rfl,_,rfl,ak (by decide +kernel) ?_⟩;refine⟨_,rfl,rfl,_,rfl,ak (by decide +kernel) ?_⟩;refine⟨_,rfl,rfl,_,rfl,ak (by decide +kernel) ?_⟩;refine⟨_,rfl,rfl,_,rfl,ak (by decide +kernel) ?_⟩;refine⟨_,rfl,rfl,_,rfl,bA ?_⟩;refine⟨_,rfl,rfl,_,rfl,mi (fun c=>q _ (BK c) _ _ (Same.refl _) rfl) fun c=>?_⟩;exact⟨_,rfl,ow wd (fun d z=>q d ((BJ c).trans z)) fun z=>qe ((BJ c).trans z)⟩
 |a =>refine⟨_,rfl,rfl,_,rfl,ak (by decide +kernel) ?_⟩;refine⟨_,rfl,rfl,_,rfl,ak (by decide +kernel) ?_⟩;refine⟨_,rfl,rfl,_,rfl,ak (by decide +kernel) ?_⟩;refine⟨_,rfl,rfl,_,rfl,ak (by decide +kernel) ?_⟩;refine⟨_,rfl,rfl,_,rfl,ak (by decide +kernel) ?_⟩;refine⟨_,rfl,rfl,_,rfl,ak (by decide +kernel) (aD ?_)⟩;exact⟨_,rfl,ow wd q qe⟩
 |n =>refine⟨_,rfl,rfl,_,rfl,ak (by decide +kernel) ?_⟩;refine⟨_,rfl,rfl,_,rfl,ak (by decide +kernel) ?_⟩;refine⟨_,rfl,rfl,_,rfl,ak (by decide +kernel) ?_⟩;refine⟨_,rfl,rfl,_,rfl,ak (by decide +kernel) ?_⟩;refine⟨_,rfl,rfl,_,rfl,ak (by decide +kernel) ?_⟩;refine⟨_,rfl,rfl,_,rfl,ak (by decide +kernel) (aD ?_)⟩;exact⟨_,rfl,ow wd q qe⟩
def HCW:List Str:=["hand","clock","word"]
def ptd(x:Str)(ks:List Str):List Str:=if ks.getLast?=some ("text":Str)then Txt.splitMax x " " ((ks.length:Int)-1)else Txt.split x " "
def wJ:Sp:=fun vs H Q _=>∃(kt:Addr) (x:Str) (ks:List Str),vs=[.str x,.ref kt]/\H kt=some (.tup (ks.map V.str))/\1<=ks.length/\ks.length<=10/\x.length<=100000/\∀D,H D=none->Q (.ref D) (upd H D (.lst ((ptd x ks).map V.str)))
theorem wV{xs:List V}{v:V}(h:xs.getLast?=some v):atI xs (-1)=some v:=by obtain⟨ys,rfl⟩:=List.getLast?_eq_some_iff.mp h;exact jN ys v
abbrev kg:Stmt:=top 36
abbrev uw:List Str:=["text","kinds"]
theorem tU:FnScope uw ["text","kinds"] (au kg):=⟨rfl,rfl,rfl,by decide +kernel,rfl,by decide +kernel,by decide +kernel⟩
theorem tD{f:Addr}{fd:FuncData}(F:Fun K "parted" "parted" kg f fd)(a6:mg "len" = none):FnOk P w K mg base CX0 1 f fd ["text","kinds"] wJ:=by
 refine F.okQ tU (fun vs H Q E h=>?_) (fun cdv A outer s H vs Q E hr h=>?_)
 ·obtain⟨kt,x,ks,rfl,_⟩:=h;rfl
 obtain⟨kt,x,ks,rfl,hk,k1,k10,hz,q⟩:=h;refine⟨_,(b_c (aC (ax aH (aE bz (q_v 1) (lX jD ae)) ah) (b_1 (aq (vK (q_v 0) ah (ar eS (q_B bB a6 Zw (q_a (q_v 1) ad)) ae)))) b_0)
   (b_1 (aq (lW (q_v 0) ah)))),?_⟩
 obtain⟨y,hy⟩:∃y,ks.getLast?=some y:=by
  cases e:ks.getLast? with
  |none=>rw[List.getLast?_eq_none_iff]at e;rw[e]at k1;exact absurd k1 (by decide)
  |some y=>exact⟨y,rfl⟩
 have hy':(ks.map V.str).getLast?=some (.str y):=by rw[List.getLast?_map,hy];rfl
 unfold ptd at q;rw[hy]at q;refine⟨_,rfl,_,rfl,kt,_,_,_,rfl,rfl,SqT.of hk,wV hy',rfl,_,rfl,mi (fun c=>?_) (fun c=>?_)⟩
 ·refine⟨_,rfl,rfl,_,rfl,kt,_,rfl,.inr (SqT.of hk),_,_,rfl,rfl,_," ",((ks.map V.str).length:Int)-1,rfl,rfl,by decide +kernel,hz,by rw[z6];omega,by rw[z6];omega,fun D gD=>?_⟩;rw[BK (by rw[c])]at q;rw[z6];exact q D gD
 ·refine⟨_,rfl,rfl,_," ",rfl,rfl,by decide +kernel,hz,fun D gD=>?_⟩;rw[BJ (fun z=>c (Zo z))]at q;exact q D gD
inductive WrR(x:Str):Option (List Str)->Prop
 |short (h:(Txt.split x " ").length<3):WrR x none
 |word (w0 w1 wd:Str) (r:List Str) (h:Txt.split x " " = w0::w1::wd::r) (h1:PyProof.Rows.KTD.datumAt wd DT=none):WrR x none
 |len (w0 w1 wd:Str) (r l:List Str) (h:Txt.split x " " = w0::w1::wd::r) (h1:PyProof.Rows.KTD.datumAt wd DT=some (tw l)) (h3:l.length<=3) (h2:(ptd x (HCW++l)).length≠3+l.length):WrR x none
 |ok (w0 w1 wd:Str) (r l:List Str) (h:Txt.split x " " = w0::w1::wd::r) (h1:PyProof.Rows.KTD.datumAt wd DT=some (tw l)) (h3:l.length<=3) (h2:(ptd x (HCW++l)).length=3+l.length):WrR x (some (ptd x (HCW++l)))
def zL(cT:Addr):Sp:=fun vs H Q E=>∃(x:Str) (res:Option (List Str)),vs=[.str x]/\x.length<=100000/\WrR x res/\(∀ws,res=some ws->∀(D:Addr) (H':Hp),Same H H'->H' D=some (.lst (ws.map V.str))->Q (.ref D) H')/\(res=none->∀H',Same H H'->E (.ref cT) none H')
abbrev iB:Stmt:=top 46
abbrev qB:List Str:=["text","words","kinds"]
theorem eV:FnScope qB ["text"] (au iB):=⟨rfl,rfl,rfl,by decide +kernel,rfl,by decide +kernel,by decide +kernel⟩
theorem pD{f cT:Addr}{fd:FuncData}(F:Fun K "words_in" "words_in" iB f fd)(e8:Fn P w K mg base 1 "is_deed_word" ["thing"] (kr K))(d7:Fn P w K mg base 1 "deed_parts" ["word"] (jC K))(x6:Fn P w K mg base 1 "parted" ["text","kinds"] wJ)(a6:mg "len" = none)(x_NoText:ExCls K cT)(c8:mg "NoText" = some (.ref cT)):FnOk P w K mg base (CXr P w) 2 f fd ["text"] (zL cT):=by
 refine F.okX eV (fun vs H Q E h=>?_) (fun cdv A outer s H vs Q E hr h=>?_)
 ·obtain⟨x,res,rfl,_⟩:=h;rfl
 obtain⟨x,res,rfl,hz,hr',q,qe⟩:=h;refine⟨_,(b_c (aJ (i:=1) eV.nd (lW (q_v 0) ah))
   (b_c (aC (t_w (cA (ax jX (q_B bB a6 Zw (q_a (q_v 1) ad)) ae) (cu (bQ (bf (aI e8 (hr.mono (by decide)) (q_a (aE aO (q_v 1) ae) ad))))))) (b_1 (gW (db aU) rfl x_NoText c8 (q_a ah ad))) b_0)
   (b_c (aJ (i:=2) eV.nd (ar yG (gm (q_a ah (q_a ah (q_a ah ad)))) (aI d7 (hr.mono (by decide)) (q_a (aE aO (q_v 1) ae) ad))))
   (b_c (aJ (i:=1) eV.nd (aI x6 (hr.mono (by decide)) (q_a (q_v 0) (q_a (q_v 2) ad))))
   (b_c (aC (ax eJ (q_B bB a6 Zw (q_a (q_v 1) ad)) (q_B bB a6 Zw (q_a (q_v 2) ad))) (b_1 (gW (db aU) rfl x_NoText c8 (q_a ah ad))) b_0)
   (b_1 (aq (q_v 1)))))))),?_⟩
 try rw[cxK]
 refine dq fun R8 hR8=>?_;refine⟨_,rfl,rfl,_," ",rfl,rfl,by decide +kernel,hz,fun D gD=>?_⟩;have wD:=af gD (.lst ((Txt.split x " ").map V.str));have eD:upd H D (.lst ((Txt.split x " ").map V.str)) D=some (.lst ((Txt.split x " ").map V.str)):=aa;generalize upd H D (.lst ((Txt.split x " ").map V.str))=H1 at wD eD ⊢;refine hR8 _ _ ?_;clear hR8 R8;refine dq fun R9 hR9=>?_;refine⟨_,rfl,D,_,rfl,.inl (SqL.of eD),_,_,rfl,rfl,_,rfl,?_⟩;by_cases c3:(Txt.split x " ").length<3
 ·have hn:res=none:=by
   cases hr' with
   |short=>rfl
   |word=>rfl
   |len=>rfl
   |ok w0 w1 wd r l h=>rw[h]at c3;simp at c3;omega
  refine gh (by rw[z6];omega) ?_;exact⟨sz rfl,qe hn _ wD⟩
 refine wv (by rw[z6];omega) ?_;obtain⟨w0,w1,wd,r,es⟩:∃w0 w1 wd r,Txt.split x " " = w0::w1::wd::r:=by
  match h:Txt.split x " ",c3 with
  |a::b::c::r,_=>exact⟨a,b,c,r,rfl⟩
  | [],c3=>simp at c3
  | [_],c3=>simp at c3
  | [_,_],c3=>simp at c3
 rw[es]at eD;have ix:atI ((w0::w1::wd::r).map V.str) 2=some (.str wd):=at2;refine⟨_,rfl,D,_,_,_,rfl,rfl,SqL.of eD,ix,.str wd,"str",rfl,.str _,(fun z=>by cases z),fun k ek=>⟨_,rfl,?_⟩⟩;cases ek;cases hd:PyProof.Rows.KTD.datumAt wd DT with
 |none =>
  have hn:res=none:=by
   cases hr' with
   |short=>rfl
   |word=>rfl
   |len=>rfl
   |ok w0' w1' wd' r' l h h1 =>rw[es]at h;cases h;rw[hd]at h1;cases h1
  exact aK ⟨sz rfl,qe hn _ wD⟩
 |some tv =>
  refine aD (hR9 _ _ ?_);clear hR9 R9;obtain⟨l,rfl,l3,hres⟩:∃l:List Str,tv=tw l/\l.length<=3/\(((ptd x (HCW++l)).length≠3+l.length/\res=none)\/((ptd x (HCW++l)).length=3+l.length/\res=some (ptd x (HCW++l)))):=by
   cases hr' with
   |short h=>exact absurd h c3
   |word w0' w1' wd' r' h h1 =>rw[es]at h;cases h;rw[hd]at h1;cases h1
   |len w0' w1' wd' r' l h h1 h3 h2 =>rw[es]at h;cases h;rw[hd]at h1;exact⟨l,Zo h1,h3,.inl ⟨h2,rfl⟩⟩
   |ok w0' w1' wd' r' l h h1 h3 h2 =>rw[es]at h;cases h;rw[hd]at h1;exact⟨l,Zo h1,h3,.inr ⟨h2,rfl⟩⟩
  clear hr';refine dq fun R0 hR0=>?_;refine⟨sz rfl,fun u gu=>?_⟩;have wu:=af gu (.tup [.str "hand",.str "clock",.str "word"]);have eu:upd H1 u (.tup [.str "hand",.str "clock",.str "word"]) u=some (.tup [.str "hand",.str "clock",.str "word"]):=aa;generalize upd H1 u (.tup [.str "hand",.str "clock",.str "word"])=H2 at wu eu ⊢;refine⟨_,rfl,D,_,_,_,rfl,rfl,SqL.of (wu _ _ eD),ix,wd,l,rfl,hd,fun t ht=>?_⟩;have h3:HCW.length=3:=rfl;have go:∀(kt:Addr) (H3:Hp),Same H2 H3->H3 kt=some (.tup ((HCW++l).map V.str))->R0.nx [some (.str x),some (.ref D),some (.ref kt)] H3:=fun kt H3 s3 ek=>by
   refine hR0 _ _ ?_;have lk:(HCW++l).length=3+l.length:=by rw[Zh,h3]
   refine dq fun R1 hR1=>?_;refine⟨_,rfl,_,rfl,kt,x,HCW++l,rfl,ek,by omega,by omega,hz,fun E2 gE=>?_⟩;have wE:=af gE (.lst ((ptd x (HCW++l)).map V.str));have W:=wD.trans (wu.trans (s3.trans wE));refine hR1 _ _ ?_;refine⟨_,rfl,E2,_,rfl,.inl (SqL.of aa),_,rfl,kt,_,rfl,.inr (SqT.of (wE _ _ ek)),rfl,_,rfl,?_⟩;rw[z6,z6,lk];rcases hres with⟨c,er⟩|⟨c,er⟩
   ·rw[decide_eq_false (fun z=>c (by injection z with z;omega))];exact aK ⟨sz rfl,qe er _ W⟩
   ·rw[decide_eq_true (ZT V.int (by omega))];exact aD ⟨_,rfl,q _ er E2 _ W aa⟩
  refine⟨u,t,_,_,rfl,rfl,SqT.of eu,ht _,by simp,aL (by rw[z6];simp;omega),fun e0=>?_,fun _ p gp=>?_⟩
  ·have:l=[]:=List.map_eq_nil_iff.mp e0;subst this;exact go u H2 (Same.refl _) eu
  ·exact go p _ (af gp _) (by rw[aa,ZO];rfl)
theorem uE{x:Str}(h:bE x=true):x.cps.all (·<128)=true:=by unfold bE at h;rw[Zx]at h;rw[Array.all_eq_true];intro i hi;have:=h x.cps[i] (by simp);unfold fB at this;simp only[Zy,decide_eq_true_eq]at this;exact decide_eq_true (by omega)
structure Dt14 where
 h:Int
 ns:List Int
 wd:Str
 ks:List Kd
 ds:List Pd
def DeedAt(H:Hp)(v:V)(D:Dt14):Prop:=∃(d c t:Addr) (ps:List V),v=.ref d/\H d=some (.tup [.int D.h,.ref c,.ref t])/\H c=some (.tup (D.ns.map V.int))/\H t=some (.tup (.str D.wd::ps))/\ps.length=D.ds.length/\∀(i:Nat) (p:V) (x:Pd),ps[i]?=some p->D.ds[i]?=some x->PdAt H p x
theorem DeedAt.same{H H':Hp}{v:V}{D:Dt14}(x:DeedAt H v D)(s:Same H H'):DeedAt H' v D:=by obtain⟨d,c,t,ps,h1,h2,h3,h4,h5,h6⟩:=x;exact⟨d,c,t,ps,h1,s _ _ h2,s _ _ h3,s _ _ h4,h5,fun i p x a b=>(h6 i p x a b).same s⟩
structure WrOk(x w0 w1 wd:Str)(ks:List Kd)(xs:List Str):Prop where
 sp:∃r,Txt.split x " " = w0::w1::wd::r
 dat:PyProof.Rows.KTD.datumAt wd DT=some (tw (ks.map nm))
 l3:ks.length<=3
 len:xs.length=ks.length
 pt:ptd x (HCW++ks.map nm)=w0::w1::wd::xs
 a0:Asc w0
 a1:WdN 44 w1
 ap:∀(i:Nat) (k:Kd) (p:Str),ks[i]?=some k->xs[i]?=some p->WdP k p
theorem WrOk.wr{x w0 w1 wd:Str}{ks:List Kd}{xs:List Str}(h:WrOk x w0 w1 wd ks xs):WrR x (some (w0::w1::wd::xs)):=by obtain⟨r,e⟩:=h.sp;have:=WrR.ok (x:=x) w0 w1 wd r (ks.map nm) e h.dat (by rw[z6];exact h.l3) (by rw[h.pt,z6];simp only[Zq];rw[h.len];omega);rw[h.pt]at this;exact this
def cw:List Kd->List Str->Option (List Pd)
 | [],[]=>some []
 |k::ks,x::xs=>(prs k x).bind fun d=>(cw ks xs).map fun ds=>d::ds
 |_,_=>none
theorem mG{k:Kd}{x:Str}{d:Pd}(h:prs k x=some d):∀{ks:List Kd} {xs:List Str} {ds:List Pd},cw ks xs=some ds->cw (ks++[k]) (xs++[x])=some (ds++[d])
 | [],[],_,e=>by cases e;show(prs k x).bind _=_;rw[h];rfl
 |a::ks,y::xs,ds,e=>by
  have e:((prs a y).bind fun d=>(cw ks xs).map fun ds=>d::ds)=some ds:=e;show((prs a y).bind fun d=>(cw (ks++[k]) (xs++[x])).map fun ds=>d::ds)=_;cases h1:prs a y with
  |none=>rw[h1]at e;cases e
  |some d1 =>
   rw[h1]at e;cases h2:cw ks xs with
   |none=>rw[h2]at e;cases e
   |some ds1 =>rw[h2]at e;cases e;rw[mG h h2];rfl
 | [],_::_,_,e=>by cases e
 |_::_,[],_,e=>by cases e
theorem iV{k:Kd}{x:Str}(h:prs k x=none):∀{ks:List Kd} {xs:List Str} {i:Nat},ks[i]?=some k->xs[i]?=some x->cw ks xs=none
 | [],_,_,e,_=>by simp at e
 |_::_,[],_,_,e=>by simp at e
 |a::ks,y::xs,0,e1,e2=>by cases e1;cases e2;show(prs k x).bind _=none;rw[h];rfl
 |a::ks,y::xs,i+1,e1,e2=>by show((prs a y).bind fun d=>(cw ks xs).map fun ds=>d::ds)=none;rw[iV h (ks:=ks) (xs:=xs) (i:=i) e1 e2];cases prs a y<;>rfl
theorem kc:∀{ks:List Kd} {xs:List Str} {ds:List Pd},cw ks xs=some ds->ds.length=ks.length
 | [],[],_,e=>by cases e;rfl
 |a::ks,y::xs,ds,e=>by
  have e:((prs a y).bind fun d=>(cw ks xs).map fun ds=>d::ds)=some ds:=e;cases h1:prs a y with
  |none=>rw[h1]at e;cases e
  |some d1 =>
   rw[h1]at e;cases h2:cw ks xs with
   |none=>rw[h2]at e;cases e
   |some ds1 =>rw[h2]at e;cases e;exact ZT (·+1) (kc h2)
 | [],_::_,_,e=>by cases e
 |_::_,[],_,e=>by cases e
def clk(w1:Str):List Str:=Txt.split w1 (ch1 44)
def dOf(w0 w1 wd:Str)(ks:List Kd)(ds:List Pd):Dt14:=⟨dz w0,(clk w1).map dz,wd,ks,ds⟩
inductive RdR(K:PySem.W.Frag)(hands:Int)(x:Str):Option Dt14->Prop
 |words (h:WrR x none):RdR K hands x none
 |bad (w0 w1 wd:Str) (ks:List Kd) (xs:List Str) (h:WrOk x w0 w1 wd ks xs) (h1:bw w0.cps.toList=false\/bU (clk w1)=false\/cw ks xs=none):RdR K hands x none
 |deed (w0 w1 wd:Str) (ks:List Kd) (xs:List Str) (ds:List Pd) (b:Bool) (h:WrOk x w0 w1 wd ks xs) (h1:bw w0.cps.toList=true) (h2:bU (clk w1)=true) (h3:cw ks xs=some ds) (dr:∀(H:Hp) (v:V),DeedAt H v (dOf w0 w1 wd ks ds)->DeedR K H hands v b):RdR K hands x (if b then some (dOf w0 w1 wd ks ds)else none)
def rL(K:PySem.W.Frag)(cT:Addr):Sp:=fun vs H Q E=>∃(x:Str) (hands:Int) (res:Option Dt14),vs=[.str x,.int hands]/\x.length<=100000/\RdR K hands x res/\(∀D,res=some D->∀(v:V) (H':Hp),Same H H'->DeedAt H' v D->Q v H')/\(res=none->∀H',Same H H'->E (.ref cT) none H')
abbrev oM:Stmt:=top 45
abbrev yc:List Str:=["text","hands","words","hand","clock","parts","deed"]
theorem fL:FnScope yc ["text","hands"] (au oM):=⟨rfl,rfl,rfl,by decide +kernel,rfl,by decide +kernel,by decide +kernel⟩
theorem xn{f cT:Addr}{fd:FuncData}(F:Fun K "read" "read" oM f fd)(FX_words_in:FnX P w K mg base 2 "words_in" ["text"] (zL cT))(FX_read_number:FnX P w K mg base 3 "read_number" ["word"] (lf cT))(FX_read_numbers:FnX P w K mg base 4 "read_numbers" ["word","sign"] (lg cT))(d7:Fn P w K mg base 1 "deed_parts" ["word"] (jC K))(FX_read_part:FnX P w K mg base 5 "read_part" ["kind","word"] (wK cT))(u7:Fn P w K mg base 7 "is_deed" ["thing","hands"] (tX K))(x5:mg "zip" = none)(a7:mg "tuple" = none)(x_NoText:ExCls K cT)(c8:mg "NoText" = some (.ref cT)):FnOk P w K mg base (CXr P w) 8 f fd ["text","hands"] (rL K cT):=by
 refine F.okX fL (fun vs H Q E h=>?_) (fun cdv A outer s H vs Q E hr h=>?_)
 ·obtain⟨x,hands,res,rfl,_⟩:=h;rfl
 obtain⟨x,hands,res,rfl,hz,hR,q,qe⟩:=h;refine⟨_,(b_c (aJ (i:=2) fL.nd (eU FX_words_in (gl aU) (hr.mono (by decide)) (q_a (q_v 0) ad)))
   (b_c (aJ (i:=3) fL.nd (eU FX_read_number (gl aU) (hr.mono (by decide)) (q_a (aE aO (q_v 2) ae) ad)))
   (b_c (aJ (i:=4) fL.nd (eU FX_read_numbers (gl aU) (hr.mono (by decide)) (q_a (aE aO (q_v 2) ae) (q_a ah ad))))
   (b_c (xM (j:=5) aU fL.nd (own:=["kind","word"]) (⟨rfl,by decide +kernel,by decide +kernel,rfl,trivial⟩:CompOk _ _ [] []) rfl (yt x5 (q_a (aI d7 (hr.mono (by decide)) (q_a (aE aO (q_v 2) ae) ad)) (q_a (cG bW (q_v 2) (cy ae) cU) ad))) (fun _ _ _ _=>sM (K:=K) (n:=2) rfl rfl (qL (bp (i:=0) (show (["kind","word"]:List Str).Nodup by decide +kernel)) (qL (bp (i:=1) (show (["kind","word"]:List Str).Nodup by decide +kernel)) yp))) (sN (ik (bj (by decide)) fG (ik (bj (by decide)) fG pV jr) (nZ fG jr))) (fun _ _ _ _=>du) (fun _ _ _ _=>(eU FX_read_part wB (hr.mono (by decide)) (q_a (q_v 0) (q_a (q_v 1) ad)))))
   (b_c (aJ (i:=6) fL.nd (gm (q_a (q_v 3) (q_a (q_v 4) (q_a (ar sZ (gm (q_a (aE aO (q_v 2) ae) ad)) (ci kE a7 bq (q_a (q_v 5) ad))) ad)))))
   (b_c (aC (bQ (bf (aI u7 (hr.mono (by decide)) (q_a (q_v 6) (q_a (q_v 1) ad))))) (b_1 (gW (db aU) rfl x_NoText c8 (q_a ah ad))) b_0)
   (b_1 (aq (q_v 6))))))))),?_⟩
 try rw[cxK]
 have hw:(res=none/\WrR x none)\/∃(w0 w1 wd:Str) (ks:List Kd) (xs:List Str),WrOk x w0 w1 wd ks xs/\(bw w0.cps.toList=false->res=none)/\(bU (clk w1)=false->res=none)/\(cw ks xs=none->res=none) /\
   ∀ds,bw w0.cps.toList=true->bU (clk w1)=true->cw ks xs=some ds->∃b:Bool,(∀(H:Hp) (v:V),DeedAt H v (dOf w0 w1 wd ks ds)->DeedR K H hands v b)/\res=if b then some (dOf w0 w1 wd ks ds)else none:=by
  cases hR with
  |words h=>exact .inl ⟨rfl,h⟩
  |bad w0 w1 wd ks xs h h1 =>
   refine .inr ⟨w0,w1,wd,ks,xs,h,fun _=>rfl,fun _=>rfl,fun _=>rfl,fun ds z1 z2 z3=>?_⟩;rcases h1 with y|y|y
   ·rw[y]at z1;cases z1
   ·rw[y]at z2;cases z2
   ·rw[y]at z3;cases z3
  |deed w0 w1 wd ks xs ds b h h1 h2 h3 dr =>
   refine .inr ⟨w0,w1,wd,ks,xs,h,fun z=>?_,fun z=>?_,fun z=>?_,fun ds' z1 z2 z3=>?_⟩
   ·rw[h1]at z;cases z
   ·rw[h2]at z;cases z
   ·rw[h3]at z;cases z
   ·rw[h3]at z3;cases z3;exact⟨b,dr,rfl⟩
 clear hR;refine dq fun R0 hR0=>?_;rcases hw with⟨rn,hw⟩|⟨w0,w1,wd,ks,xs,W,r0,r1,r2,r3⟩
 ·exact⟨_,rfl,x,none,rfl,hz,hw,(fun ws z=>nomatch z),fun _ H' s'=>qe rn _ s'⟩
 refine⟨_,rfl,x,_,rfl,hz,W.wr,fun ws ews WA H1 s1 eW=>hR0 _ _ ?_,fun z=>nomatch z⟩;cases ews;clear hR0 R0;have a0:atI ((w0::w1::wd::xs).map V.str) 0=some (.str w0):=at0;have a1:atI ((w0::w1::wd::xs).map V.str) 1=some (.str w1):=at1;have a2:atI ((w0::w1::wd::xs).map V.str) 2=some (.str wd):=at2;refine dq fun R0 hR0=>?_;refine⟨_,rfl,WA,_,_,_,rfl,rfl,SqL.of eW,a0,w0,rfl,W.a0,fun i ei hi H2 s2=>hR0 _ _ ?_,fun z H2 s2=>qe (r0 z) _ (s1.trans s2)⟩;clear hR0 R0;have n0:bw w0.cps.toList=true:=by rw[ei];exact cE hi
 have v0:dz w0=i:=by rw[ei];exact dJ hi
 have eW2:=s2 _ _ eW;refine dq fun R0 hR0=>?_;refine⟨_,rfl,WA,_,_,_,rfl,rfl,SqL.of eW2,a1,44,w1,rfl,W.a1,fun n1 c H3 s3 ec=>hR0 _ _ ?_,fun z H3 s3=>qe (r1 z) _ (s1.trans (s2.trans s3))⟩;clear hR0 R0;have eW3:=s3 _ _ eW2;have S3:=s1.trans (s2.trans s3);refine dq fun R0 hR0=>?_;refine⟨_,rfl,WA,_,_,_,rfl,rfl,SqL.of eW3,a2,wd,ks.map nm,rfl,W.dat,fun t ht=>?_⟩;refine⟨_,rfl,_,rfl,WA,_,rfl,SqL.of eW3,fun X gX=>?_⟩;have xl:=W.len;have l3:=W.l3;have cv:aG ((w0::w1::wd::xs).map V.str) (some 3) none=xs.map V.str:=by unfold aG;rw[HT.sIx_none,tP (by decide),show((3:Int).toNat)=3 from rfl];simp only[ZH,Zq,z6];rw[Nat.min_eq_left (by omega)];simp only[List.drop_succ_cons,Yr];rw[ZL (by rw[z6];omega)]
 rw[cv];have wX:=af gX (.lst (xs.map V.str));have eX:upd H3 X (.lst (xs.map V.str)) X=some (.lst (xs.map V.str)):=aa;generalize upd H3 X (.lst (xs.map V.str))=H4 at wX eX ⊢;have lz:((ks.map nm).map V.str).length=(xs.map V.str).length:=by rw[z6,z6,z6,xl]
 refine⟨t,X,_,_,rfl,ht _,SqL.of eX,lz,?_⟩;refine jP (N:=ks.length) (fun i ys H'=>Same H4 H'/\ys.length=i/\i<=ks.length/\∃ds,cw (ks.take i) (xs.take i)=some ds/\∀(j:Nat) (p:V) (x:Pd),ys[j]?=some p->ds[j]?=some x->PdAt H' p x) (by omega) (fun _ _ _ z=>z.2.1) ⟨Same.refl _,rfl,Yi _,[],rfl,fun j p x hj=>by simp at hj⟩ (fun i ys H' hi z=>⟨by rw[z6,z6];exact hi,ht _,SqL.of (z.1 _ _ eX)⟩) (fun ys H' z=>⟨by rw[z6,z6],ht _,SqL.of (z.1 _ _ eX)⟩) ?_ ?_
 ·rintro i ys H' v Hv hi ⟨sm,ly,_,ds,hds,hp⟩ ⟨T,kv,xv,gT,hk,hx,rfl,rfl⟩ Y hY;have wT:=af gT (.tup [kv,xv]);have hk':ks[i]?=some ks[i]:=Za hi;have hxi:i<xs.length:=by omega
  have hx':xs[i]?=some xs[i]:=Za hxi;obtain rfl:kv=.str (nm ks[i]):=by rw[ZB,ZB,hk']at hk;exact(Zo hk).symm
  obtain rfl:xv=.str xs[i]:=by rw[ZB,hx']at hx;exact(Zo hx).symm
  have dl:=kc hds;rw[y8,Nat.min_eq_left (by omega)]at dl;refine⟨T,_,rfl,SqT.of aa,rfl,_,_,rfl,_,_,rfl,rfl,?_⟩;refine⟨_,rfl,_,rfl,ks[i],xs[i],rfl,W.ap i _ _ hk' hx',fun d hd v H5 s5 pv=>hY _ _ ⟨sm.trans (wT.trans s5),by rw[Zh,ly];rfl,hi,ds++[d],?_,fun j p x hj hxj=>?_⟩,fun hd H5 s5=>qe (r2 (iV hd hk' hx')) _ (S3.trans (wX.trans (sm.trans (wT.trans s5))))⟩
  ·rw[List.take_succ,List.take_succ,hk',hx'];exact mG hd hds
  ·by_cases cj:j<ys.length
   ·rw[Z2 cj]at hj;rw[Z2 (by omega)]at hxj;exact(hp j p x hj hxj).same (wT.trans s5)
   ·have ej:j=i:=by have:=(Zf.mp hj).1;rw[Zh,Zn]at this;omega
    subst ej;rw[ZW (by omega),ly,Nat.sub_self]at hj;rw[ZW (by omega),dl,Nat.sub_self]at hxj;cases hj;cases hxj;exact pv
 rintro ys p5 H5 ⟨s5,ly,_,ds,hds,hp⟩ g5;rw[ZL (Zg _),ZL (by omega)]at hds;have dl:=kc hds;obtain⟨b,dr,er⟩:=r3 ds n0 n1 hds;have w5:=af g5 (.lst ys);have e5:upd H5 p5 (.lst ys) p5=some (.lst ys):=aa;have hp6:∀(j:Nat) (p:V) (x:Pd),ys[j]?=some p->ds[j]?=some x->PdAt (upd H5 p5 (.lst ys)) p x:=fun j p x a b=>(hp j p x a b).same w5;have S6:=S3.trans (wX.trans (s5.trans w5));have ec6:=w5 _ _ (s5 _ _ (wX _ _ ec));have eW6:=w5 _ _ (s5 _ _ (wX _ _ eW3));generalize upd H5 p5 (.lst ys)=H6 at e5 hp6 S6 ec6 eW6 ⊢;refine hR0 _ _ ?_;clear hR0 R0 hp w5 g5 s5 eX wX gX lz cv ht;refine dq fun R0 hR0=>?_;refine⟨_,rfl,_,rfl,_,rfl,WA,_,_,_,rfl,rfl,SqL.of eW6,a2,sz rfl,fun u gu=>?_⟩;have wu:=af gu (.tup [.str wd]);have eu:upd H6 u (.tup [.str wd]) u=some (.tup [.str wd]):=aa;generalize upd H6 u (.tup [.str wd])=H7 at wu eu ⊢;refine⟨_,rfl,p5,ys,rfl,.inl ⟨SqL.of (wu _ _ e5),fun z gz=>?_⟩⟩;have wz:=af gz (.tup ys);have ez:upd H7 z (.tup ys) z=some (.tup ys):=aa;generalize upd H7 z (.tup ys)=H8 at wz ez ⊢;refine⟨u,z,_,_,rfl,rfl,wz _ _ eu,ez,aL (by simp only[Zq,List.length_nil];omega),fun tt H9 s9 e9=>⟨sz rfl,fun dd gd=>?_⟩⟩;have wd':=af gd (.tup [.int i,.ref c,.ref tt]);have s69:Same H6 H9:=wu.trans (wz.trans s9);have DA:DeedAt (upd H9 dd (.tup [.int i,.ref c,.ref tt])) (.ref dd) (dOf w0 w1 wd ks ds):=⟨dd,c,tt,ys,rfl,by rw[aa,<-v0];rfl,wd' _ _ (s69 _ _ ec6),wd' _ _ e9,by rw[ly];exact dl.symm,fun i p x a b=>((hp6 i p x a b).same s69).same wd'⟩
 have S10:=S6.trans (s69.trans wd');generalize upd H9 dd (.tup [.int i,.ref c,.ref tt])=H10 at DA S10 ⊢;refine hR0 _ _ ?_;clear hR0 R0;refine⟨_,rfl,_,rfl,.ref dd,b,hands,rfl,dr _ _ DA,fun H11 s11=>⟨_,rfl,?_⟩⟩;cases b with
 |true=>exact aD ⟨_,rfl,q _ er _ _ (S10.trans s11) (DA.same s11)⟩
 |false=>exact aK ⟨sz rfl,qe er _ (S10.trans s11)⟩
structure ErT(K:PySem.W.Frag)(cL cT:Addr)(bT:List Value)(os:List Addr):Prop where
 eT:ExC K cT bT
 hT:(Value.ref cT::bT).contains (.ref cL)=true
 ek:ExK K cT
 kv:PySem.W.kitOne K (.ref cT) (.type "ValueError")=some true
 kT:PySem.W.kitOne K (.ref cT) (.ref cT)=some true
 ko:∀o∈os,PySem.W.kitOne K (.ref cT) (.ref o)=some false
def oY(cT:Addr):Sp:=fun vs H Q _=>∃e:Addr,vs=[.ref e]/\H e=some (exD e cT none)/\Q (.bl false) H
abbrev kf:Stmt:=top 60
abbrev uu:List Str:=["_law_e"]
theorem tS:FnScope uu ["_law_e"] (au kf):=⟨rfl,rfl,rfl,by decide +kernel,rfl,by decide +kernel,by decide +kernel⟩
theorem tz{f cL cT o1 o2 o3 o4 o5 o6 o7 o8 o9:Addr}{fd:FuncData}{bT:List Value}(F:Fun K "_law_others" "_law_others" kf f fd)(R:ErT K cL cT bT [o1,o2,o3,o4,o5,o6,o7,o8,o9])(x8:mg "NoDeed" = some (.ref o1))(u8:mg "NoPlace" = some (.ref o2))(Bu:mg "Twin" = some (.ref o3))(Bk:mg "Taken" = some (.ref o4))(x9:mg "NoItem" = some (.ref o5))(u9:mg "Beneath" = some (.ref o6))(BB:mg "Far" = some (.ref o7))(k8:mg "NoQuestion" = some (.ref o8))(Bl:mg "NoRow" = some (.ref o9))(a5:mg "isinstance" = none):FnOk P w K mg base CX0 1 f fd ["_law_e"] (oY cT):=by
 refine F.okQ tS (fun vs H Q E h=>?_) (fun cdv A outer s H vs Q E hr h=>?_)
 ·obtain⟨e,rfl,_⟩:=h;rfl
 obtain⟨e,rfl,he,q⟩:=h;refine⟨_,(b_c (aC (t_w (cA (bf (q_B cJ a5 aw (q_a (q_v 0) (q_a (fj x8) ad)))) (cA (bf (q_B cJ a5 aw (q_a (q_v 0) (q_a (fj u8) ad)))) (cA (bf (q_B cJ a5 aw (q_a (q_v 0) (q_a (fj Bu) ad)))) (cu (bf (q_B cJ a5 aw (q_a (q_v 0) (q_a (fj Bk) ad))))))))) (b_1 (aq dA)) b_0)
   (b_c (aC (t_w (cA (bf (q_B cJ a5 aw (q_a (q_v 0) (q_a (fj x9) ad)))) (cA (bf (q_B cJ a5 aw (q_a (q_v 0) (q_a (fj u9) ad)))) (cu (bf (q_B cJ a5 aw (q_a (q_v 0) (q_a (fj BB) ad)))))))) (b_1 (aq dA)) b_0)
   (b_1 (aq (rm (q_B cJ a5 aw (q_a (q_v 0) (q_a (fj k8) ad))) (bP (q_B cJ a5 aw (q_a (q_v 0) (q_a (fj Bl) ad))))))))),?_⟩
 try rw[cxK]
 have one:∀{o:Addr},o∈[o1,o2,o3,o4,o5,o6,o7,o8,o9]->∃e' c dc,V.ref e=.ref e'/\H e'=some (exD e' c dc)/\qv H dc/\ExK K c/\PySem.W.kitOne K (.ref c) (.ref o)=some false:=fun ho=>⟨e,cT,none,rfl,he,trivial,R.ek,R.ko _ ho⟩
 refine⟨_,rfl,_,_,_,_,rfl,(fun v hv=>hv),.inr (one (by simp)),⟨_,rfl,aD ⟨_,rfl,_,_,_,_,rfl,(fun v hv=>hv),.inr (one (by simp)),⟨_,rfl,aD ⟨_,rfl,_,_,_,_,rfl,(fun v hv=>hv),.inr (one (by simp)),⟨_,rfl,aD ⟨_,rfl,_,_,_,_,rfl,(fun v hv=>hv),.inr (one (by simp)),⟨_,rfl,aD ?_⟩⟩⟩⟩⟩⟩⟩⟩;refine⟨_,rfl,_,_,_,_,rfl,(fun v hv=>hv),.inr (one (by simp)),⟨_,rfl,aD ⟨_,rfl,_,_,_,_,rfl,(fun v hv=>hv),.inr (one (by simp)),⟨_,rfl,aD ⟨_,rfl,_,_,_,_,rfl,(fun v hv=>hv),.inr (one (by simp)),⟨_,rfl,aD ?_⟩⟩⟩⟩⟩⟩;exact⟨_,rfl,_,_,_,_,rfl,(fun v hv=>hv),.inr (one (by simp)),⟨_,rfl,aD ⟨_,rfl,_,_,_,_,rfl,(fun v hv=>hv),.inr (one (by simp)),q⟩⟩⟩
def uf(K:PySem.W.Frag):Sp:=fun vs H Q _=>∃(x:Str) (hands:Int) (res:Option Dt14),vs=[.str x,.int hands]/\x.length<=100000/\RdR K hands x res/\(∀D,res=some D->∀(v:V) (H':Hp),Same H H'->DeedAt H' v D->Q v H')/\(res=none->∀H',Same H H'->Q .non H')
abbrev oO:Stmt:=top 61
abbrev ye:List Str:=["_law_line","_law_hands","_law_found"]
theorem jy:FnScope ye ["_law_line","_law_hands"] (au oO):=⟨rfl,rfl,rfl,by decide +kernel,rfl,by decide +kernel,by decide +kernel⟩
theorem xp{f cL cT:Addr}{fd:FuncData}{bL bT:List Value}{os:List Addr}(F:Fun K "_law_told" "_law_told" oO f fd)(FX_read:FnX P w K mg base 8 "read" ["text","hands"] (rL K cT))(R:ErT K cL cT bT os)(k9:ExC K cL bL)(i3:mg "LimbError" = some (.ref cL)):FnOk P w K mg base CX0 9 f fd ["_law_line","_law_hands"] (uf K):=by
 refine F.okQ jy (fun vs H Q E h=>?_) (fun cdv A outer s H vs Q E hr h=>?_)
 ·obtain⟨x,hands,res,rfl,_⟩:=h;rfl
 obtain⟨x,hands,res,rfl,hz,hR,q,qe⟩:=h;refine⟨_,(b_c (aJ (i:=2) jy.nd dj)
   (b_c (tR rfl rfl (zO (i:=2) jy.nd (ut FX_read (hr.mono (by decide)) (q_a (q_v 0) (q_a (q_v 1) ad)))) (A0 k9 i3 (fun _=>(b_1 (aJ (i:=2) jy.nd dj))) Af))
   (b_1 (aq (q_v 2))))),?_⟩
 try rw[cxK]
 refine⟨_,rfl,_,rfl,x,hands,res,rfl,hz,hR,fun D er v H1 s1 da=>?_,fun er H1 s1=>?_⟩
 ·exact⟨_,rfl,q D er v H1 s1 da⟩
 ·refine⟨cT,bT,rfl,R.eT,?_⟩;rw[R.hT];exact aK ⟨_,rfl,qe er H1 s1⟩
def uc(K:PySem.W.Frag):Sp:=fun vs H Q _=>∃(x:Str) (hands:Int),vs=[.str x,.int hands]/\x.length<=100000/\RdR K hands x none/\∀H',Same H H'->Q (.bl true) H'
abbrev jg:Stmt:=top 62
abbrev sf:List Str:=["_law_line","_law_hands","_law_wrong","_law_e"]
theorem fA:FnScope sf ["_law_line","_law_hands"] (au jg):=⟨rfl,rfl,rfl,by decide +kernel,rfl,by decide +kernel,by decide +kernel⟩
theorem re{f cL cT:Addr}{fd:FuncData}{bL bT:List Value}{os:List Addr}(F:Fun K "_law_refused" "_law_refused" jg f fd)(FX_read:FnX P w K mg base 8 "read" ["text","hands"] (rL K cT))(R:ErT K cL cT bT os)(k9:ExC K cL bL)(i3:mg "LimbError" = some (.ref cL))(c8:mg "NoText" = some (.ref cT))(Bc:Fn P w K mg base 1 "_law_others" ["_law_e"] (oY cT))(a5:mg "isinstance" = none)(l4:mg "ValueError" = none):FnOk P w K mg base CX0 9 f fd ["_law_line","_law_hands"] (uc K):=by
 refine F.okQ fA (fun vs H Q E h=>?_) (fun cdv A outer s H vs Q E hr h=>?_)
 ·obtain⟨x,hands,rfl,_⟩:=h;rfl
 obtain⟨x,hands,rfl,hz,hR,q⟩:=h;refine⟨_,(b_c (aJ (i:=2) fA.nd dj)
   (b_c (tR rfl rfl (xP (ut FX_read (hr.mono (by decide)) (q_a (q_v 0) (q_a (q_v 1) ad)))) (Ae (i:=3) fA.nd k9 i3 (fun _=>(b_1 (aJ (i:=2) fA.nd (q_v 3))))))
   (b_c (aC (ax jw (q_v 2) dj) (b_1 (aq dA)) b_0)
   (b_1 (aq (bO (q_B cJ a5 aw (q_a (q_v 2) (q_a (fj c8) ad))) (bO (q_B cJ a5 aw (q_a (q_v 2) (q_a (cS l4 kC) ad))) (bP (rk (aI Bc (hr.mono (by decide)) (q_a (q_v 2) ad))))))))))),?_⟩
 try rw[cxK]
 refine⟨_,rfl,_,rfl,x,hands,none,rfl,hz,hR,(fun D er=>nomatch er),fun _ H1 s1=>?_⟩;refine⟨cT,bT,rfl,R.eT,R.hT,fun ea he=>⟨_,rfl,?_⟩⟩;have we:=af he (exD ea cT none);have ee:upd H1 ea (exD ea cT none) ea=some (exD ea cT none):=aa;have s2:=s1.trans we;generalize upd H1 ea (exD ea cT none)=H2 at ee s2 ⊢;refine⟨_,rfl,rfl,_,rfl,ak (by intro z;cases z) ?_⟩;refine⟨_,rfl,_,_,_,_,rfl,(fun v hv=>hv),.inr ⟨ea,cT,none,rfl,ee,trivial,R.ek,R.kT⟩,_,rfl,aK ?_⟩;refine⟨_,rfl,_,_,_,_,rfl,(fun v hv=>hv),.inr ⟨ea,cT,none,rfl,ee,trivial,R.ek,R.kv⟩,_,rfl,aK ?_⟩;exact⟨_,rfl,ea,rfl,ee,_,rfl,q _ s2⟩
def gY(K:PySem.W.Frag):Sp:=fun vs H Q _=>∃(a:Addr) (ns:List Int) (k:Int),vs=[.ref a,.int k]/\SqL K H a (ns.map V.int)/\0<=k/\Q (.int (aj ns k.toNat)) H
def qo(K:PySem.W.Frag):Sp:=fun vs H Q _=>∃(a:Addr) (sc:List Int) (c:Int),vs=[.ref a,.int c]/\SqL K H a (sc.map V.int)/\∀(p:Addr) (ns:List Int) (H':Hp),Same H H'->H' p=some (.tup (ns.map V.int))->(∀n∈ns,Sm n)->1<=ns.length->ns.length<=64->Q (.ref p) H'
def ue(K:PySem.W.Frag):Sp:=fun vs H Q _=>∃(a:Addr) (sc:List Int) (c:Int),vs=[.ref a,.int c]/\SqL K H a (sc.map V.int)/\∀x:Str,bE x=true->x.length<=60->Q (.str x) H
def ClockOk(sc ns:List Int)(h hd:Int)(ks:List Kd)(m:Nat):Prop:=ns.length=h.toNat/\(∀n∈ns,0<=n/\n<=10^59)/\1<=aj ns hd.toNat/\(Kd.n∈ks->2<=aj ns hd.toNat) /\
 ∀(j:Nat) (k:Kd),j<m->ks[j]?=some k->(k=.i\/k=.u/\0<aj sc (12+2*j)%4)->1+(if aj sc (11+2*j)%h=hd then 1 else 0)<=aj ns (aj sc (11+2*j)%h).toNat
def qj(K:PySem.W.Frag):Sp:=fun vs H Q _=>∃(a:Addr) (sc:List Int) (h hd:Int) (ks:List Kd),vs=[.ref a,.int h,.int hd,.str (kst ks)]/\SqL K H a (sc.map V.int)/\1<=h/\h<=8/\0<=hd/\hd<h/\ks∈KDS /\
 ∀(p:Addr) (ns:List Int) (H':Hp),Same H H'->H' p=some (.tup (ns.map V.int))->ClockOk sc ns h hd ks ks.length->Q (.ref p) H'
theorem xc{xs:List Nat}{i:Int}{c:Nat}(h:atI xs i=some c):c∈xs:=by
 unfold atI at h;cases e:ixN xs.length i with
 |none=>rw[e]at h;cases h
 |some j=>rw[e]at h;exact ZC h
abbrev iX:Stmt:=top 52
abbrev rS:List Str:=["_law_script","_law_k"]
theorem rB:FnScope rS ["_law_script","_law_k"] (au iX):=⟨rfl,rfl,rfl,by decide +kernel,rfl,by decide +kernel,by decide +kernel⟩
theorem qU{f:Addr}{fd:FuncData}(F:Fun K "_law_cell_at" "_law_cell_at" iX f fd)(a6:mg "len" = none):FnOk P w K mg base CX0 1 f fd ["_law_script","_law_k"] (gY K):=by
 refine F.okQ rB (fun vs H Q E h=>?_) (fun cdv A outer s H vs Q E hr h=>?_)
 ·obtain⟨a,ns,k,rfl,_⟩:=h;rfl
 obtain⟨a,ns,k,rfl,hS,h0,q⟩:=h;refine⟨_,(b_c (aC (ax jX (q_v 1) (q_B bB a6 Zw (q_a (q_v 0) ad))) (b_1 (aq (aE aO (q_v 0) (q_v 1)))) b_0)
   (b_1 (aq ae))),?_⟩
 refine⟨_,rfl,_,rfl,a,_,rfl,.inl hS,_,_,rfl,rfl,_,rfl,?_⟩;refine gG (fun c=>?_) (fun c=>?_)
 ·have c':k<((ns.map V.int).length:Int):=y6 c;rw[z6]at c';exact⟨_,rfl,_,rfl,a,_,_,_,rfl,rfl,hS,bJ h0 c',q⟩
 ·have c':¬k<((ns.map V.int).length:Int):=of_decide_eq_false (ZQ.mpr c);rw[z6]at c';rw[uI h0 c']at q;exact q
theorem yE{c:Int}{k:Nat}(hk:k<=59):Sm (c / 2%10^k*(1-2*(c%2))):=by
 have hp:(0:Int)<10^k:=Int.pow_pos (by decide);have a0:=ZA (c / 2) (show((10:Int)^k)≠0 by omega);have a1:=Zv (c / 2) hp;have b0:=ZA c (show(2:Int)≠0 by decide);have b1:=Zv c (show(0:Int)<2 by decide);rcases(show c%2=0\/c%2=1 by omega)with e|e
 ·rw[e];exact Sm.of (k:=k) (by omega) (by omega) (by omega)
 ·rw[e];exact Sm.of (k:=k) (by omega) (by omega) (by omega)
abbrev gU:Stmt:=top 54
abbrev pK:List Str:=["_law_script","_law_cell","_law_many","_law_some"]
theorem iE:FnScope pK ["_law_script","_law_cell"] (au gU):=⟨rfl,rfl,rfl,by decide +kernel,rfl,by decide +kernel,by decide +kernel⟩
theorem vo{f:Addr}{fd:FuncData}(F:Fun K "_law_place" "_law_place" gU f fd)(a8:Fn P w K mg base 1 "_law_cell_at" ["_law_script","_law_k"] (gY K))(a7:mg "tuple" = none)(a9:mg "range" = none):FnOk P w K mg base CX0 2 f fd ["_law_script","_law_cell"] (qo K):=by
 refine F.okQ iE (fun vs H Q E h=>?_) (fun cdv A outer s H vs Q E hr h=>?_)
 ·obtain⟨a,sc,c,rfl,_⟩:=h;rfl
 obtain⟨a,sc,c,rfl,hS,q⟩:=h;have hb:∃t,QB (dO CX0 P w K mg base pK "_law_place" (au gU) f cdv A outer s H E).nox ((bR gU).drop 2) t/\∀(m:Int) (o3:Option V),1<=m->m<=64->t { nx:=fun _ H'=>Q .non H',rt:=Q } [some (.ref a),some (.int c),some (.int m),o3] H:=by
  refine⟨_,(b_c (tQ (j:=3) iE.nd (own:=["_law_k"]) (⟨rfl,by decide +kernel,by decide +kernel,rfl,⟨rfl,rfl,trivial⟩⟩:CompOk _ _ [0] ["_law_script"]) rfl (fc a9 (q_a (q_v 2) ad)) (fun _ _ _ _=>bp (i:=0) (show (["_law_k","_law_script"]:List Str).Nodup by decide +kernel)) (bj (by decide)) (fun _ _ _ _=>du) (fun _ _ _ _=>(ar bx (aI a8 (hr.mono (by decide)) (q_a (q_v 1) (q_a (ar bx ae (q_v 0)) ad))) (ar iq ae (q_v 0)))))
   (b_1 (aq (ci kE a7 bq (q_a (cK (own:=["_law_number"]) (⟨rfl,by decide +kernel,by decide +kernel,rfl,trivial⟩:CompOk _ _ [] []) rfl (oh (q_v 3)) (fun _ _ _ _=>bp (i:=0) (show (["_law_number"]:List Str).Nodup by decide +kernel)) (bj (by decide)) (fun _ _ _ _=>du) (fun _ _ _ _=>(ar iq (ar aZ (ar fe (q_v 0) ae) (ar qT ae ae)) (ar eS ae (ar iq ae (ar aZ (q_v 0) ae)))))) ad))))),?_⟩
  intro m o3 m0 m1;refine⟨_,rfl,_,rfl,by omega,by omega,?_⟩;refine fu (N:=m.toNat) (lo:=0) (fun i=>.int (aj sc (19+(0+(i:Int))).toNat+3*(0+(i:Int)))) (by omega) (fun i H1 hi sm R k=>⟨_,rfl,_,rfl,_,_,rfl,rfl,a,sc,_,rfl,sm.seq hS,by omega,_,rfl,_,_,rfl,rfl,.inl ⟨by decide,by decide⟩,_,_,rfl,rfl,k H1 (Same.refl H1)⟩) (fun p1 H1 s1 g1=>?_);rw[<-jS];have l0:((List.range m.toNat).map fun(i:Nat)=>aj sc (19+(0+(i:Int))).toNat+3*(0+(i:Int))).length<=64/\1<=((List.range m.toNat).map fun(i:Nat)=>aj sc (19+(0+(i:Int))).toNat+3*(0+(i:Int))).length:=by rw[z6,y4];omega
  generalize((List.range m.toNat).map fun(i:Nat)=>aj sc (19+(0+(i:Int))).toNat+3*(0+(i:Int)))=cs at l0 ⊢;have w1:=s1.trans (af g1 (.lst (cs.map V.int)));have e1:upd H1 p1 (.lst (cs.map V.int)) p1=some (.lst (cs.map V.int)):=aa;generalize upd H1 p1 (.lst (cs.map V.int))=H2 at w1 e1 ⊢;refine⟨_,rfl,p1,rfl,⟨_,SqL.of e1⟩,?_⟩;refine sw (fun i=>.int (aj cs i / 2%10^30*(1-2*(aj cs i%2)))) (by rw[z6];omega) (SqL.of e1) (fun i x H3 hi sm R k=>?_) (fun p3 H3 s3 g3=>?_)
  ·obtain⟨rfl,_⟩:=io hi;have b0:=ZA (aj cs i) (show(2:Int)≠0 by decide);have b1:=Zv (aj cs i) (show(0:Int)<2 by decide);exact⟨_,rfl,_,_,rfl,rfl,⟨by decide,by decide⟩,_,_,rfl,rfl,⟨by decide,by decide,by decide⟩,_,_,rfl,rfl,(by show(0:Int)<10^30;decide),_,rfl,_,_,rfl,rfl,(by show(0:Int)<2;decide),_,_,rfl,rfl,.inl ⟨by decide,by decide⟩,_,_,rfl,rfl,_,_,rfl,rfl,.inr ⟨by omega,by omega⟩,k H3 (Same.refl H3)⟩
  ·rw[z6,<-jS];refine⟨p3,_,rfl,.inl ⟨SqL.of aa,fun p4 g4=>?_⟩⟩;refine q p4 _ _ (w1.trans (s3.trans ((af g3 _).trans (af g4 _)))) aa (fun n hn=>?_) (by rw[z6,y4];omega) (by rw[z6,y4];omega);obtain⟨i,_,rfl⟩:=ZM.mp hn;exact yE (by decide)
 obtain⟨tb,htb,hb⟩:=hb;refine⟨_,(b_c (aJ (i:=2) iE.nd (ar bx ae (ar aZ (q_v 1) ae)))
   (b_c (aC (ax aH (ar aZ (ar fe (q_v 1) ae) ae) ae) (b_1 (aJ (i:=2) iE.nd (ar eS ae (q_v 2)))) b_0)
   htb)),?_⟩
 have c0:=ZA c (show(6:Int)≠0 by decide);have c1:=Zv c (show(0:Int)<6 by decide);refine⟨_,rfl,_,_,rfl,rfl,(by show(0:Int)<6;decide),_,_,rfl,rfl,?_⟩;refine⟨_,rfl,_,_,rfl,rfl,⟨by decide,by decide⟩,_,_,rfl,rfl,(by show(0:Int)<5;decide),rfl,_,rfl,et (fun e=>?_) (fun e=>?_)⟩
 ·exact⟨_,rfl,_,_,rfl,rfl,hb _ _ (by show 1<=65-(1+c%6);omega) (by show 65-(1+c%6)<=64;omega)⟩
 ·exact hb _ _ (by show 1<=1+c%6;omega) (by show 1+c%6<=64;omega)
def iM:Str:=(" !\"#$&'()*+,-./0123456789:;<=>?@ABCDEFGHIJKLMNOPQRSTUVWXYZ[\\]^_`":Str)++("abcdefghijklmnopqrstuvwxyz{|}~":Str)
theorem uD:∀c∈iM.cps.toList,fB c=true:=by decide +kernel
theorem AO{x:Str}(h:2<=x.length):(bu x (some 2) none).length=x.length-2:=by
 have e2:bu x (some ((2:Nat):Int)) none=bu x (some ((2:Nat):Int)) (some ((x.length:Nat):Int)):=by unfold bu;rw[StrLaws.sliceIdx_none_hi]
 show(bu x (some ((2:Nat):Int)) none).length=_;rw[e2];unfold bu;split
 ·rename_i z;rw[StrLaws.strSliceIndices_plain h (Zg _),z6,y4]at z;omega
 ·rw[StrLaws.sliced_plain x h (Zg _)];show((x.cps.toList.drop 2).take (x.length-2)).toArray.size=_;rw[Zj,y8,Yk,Zz];show min (x.length-2) (x.length-2)=_;omega
theorem gB{x y:Str}(h1:bE x=true)(h2:bE y=true):bE (x++y)=true:=by unfold bE at h1 h2 ⊢;rw[aM,Yp,h1,h2];rfl
theorem mI{x:Str}{lo hi:Option Int}(h:bE x=true):bE (bu x lo hi)=true:=by unfold bE at h ⊢;rw[Zx]at h ⊢;exact fun c hc=>h c (uK hc)
theorem nH:iM.length=94/\iM.cps.toList.length=94:=by decide +kernel
abbrev oN:Stmt:=top 55
abbrev yd:List Str:=["_law_script","_law_cell","_law_some","_law_number","_law_found","_law_k"]
theorem dM:FnScope yd ["_law_script","_law_cell"] (au oN):=⟨rfl,rfl,rfl,by decide +kernel,rfl,by decide +kernel,by decide +kernel⟩
theorem xo{f:Addr}{fd:FuncData}(F:Fun K "_law_text" "_law_text" oN f fd)(a8:Fn P w K mg base 1 "_law_cell_at" ["_law_script","_law_k"] (gY K))(a9:mg "range" = none):FnOk P w K mg base CX0 2 f fd ["_law_script","_law_cell"] (ue K):=by
 refine F.okQ dM (fun vs H Q E h=>?_) (fun cdv A outer s H vs Q E hr h=>?_)
 ·obtain⟨a,sc,c,rfl,_⟩:=h;rfl
 obtain⟨a,sc,c,rfl,hS,q⟩:=h;refine⟨_,(b_c (aJ (i:=2) dM.nd ah)
   (b_c (aJ (i:=2) dM.nd (ar bI (q_v 2) ah))
   (b_c (aJ (i:=3) dM.nd (ar aZ (q_v 1) ae))
   (b_c (aJ (i:=4) dM.nd ah)
   (b_c (rA PassesOwn.never rfl (fc a9 (q_a (ar aZ (q_v 1) ae) ad)) (bp (i:=5) dM.nd) (b_c (aJ (i:=3) dM.nd (ar aZ (ar bx (ar iq (q_v 3) ae) ae) ae))
   (b_1 (aJ (i:=4) dM.nd (ar bI (q_v 4) (aE eZ (q_v 2) (ar aZ (ar bx (ar fe (aI a8 (hr.mono (by decide)) (q_a (q_v 0) (q_a (ar bx ae (q_v 5)) ad))) ae) (q_v 3)) ae)))))))
   (b_c (aC (ax aH (ar aZ (ar fe (q_v 1) ae) ae) ae) (b_1 (aq (cG oj (ar bI (ar bI ah (cG oj (q_v 4) (cy ae) cU)) ah) cU (cy (ar aZ (q_v 1) ae))))) b_0)
   (b_1 (aq (q_v 4))))))))),?_⟩
 refine⟨_,rfl,_,_,rfl,rfl,by decide +kernel,?_⟩;refine⟨_,rfl,_,_,rfl,rfl,(by show(0:Int)<1000003;decide),?_⟩;have c0:=ZA c (show(61:Int)≠0 by decide);have c1:=Zv c (show(0:Int)<61 by decide);have d0:=ZA c (show(1000003:Int)≠0 by decide);have d1:=Zv c (show(0:Int)<1000003 by decide);refine⟨_,rfl,_,_,rfl,rfl,(by show(0:Int)<61;decide),_,rfl,by show -2^62<=c%61;omega,by show c%61<2^62;omega,?_⟩;refine mD (lo:=0) (fun i σ H'=>H'=H/\∃(n:Int) (x:Str) (o5:Option V),0<=n/\n<2147483647/\x.length=i/\bE x=true/\σ=[some (.ref a),some (.int c),some (.str iM),some (.int n),some (.str x),o5]) ⟨rfl,c%1000003,"",none,by omega,by omega,by decide +kernel,rfl,rfl⟩ ?_ ?_
 ·rintro i σ H' hi ⟨rfl,n,x,o5,n0,n1,lx,sx,rfl⟩;have hi61:i<61:=by omega
  refine⟨_,rfl,_,_,rfl,rfl,.inl ⟨by omega,by omega⟩,_,_,rfl,rfl,_,_,rfl,rfl,(by show(0:Int)<2147483647;decide),?_⟩;have m0:=ZA (n*48271+11) (show(2147483647:Int)≠0 by decide);have m1:=Zv (n*48271+11) (show(0:Int)<2147483647 by decide);dsimp only;generalize(n*48271+11)%2147483647=n' at m0 m1 ⊢;refine⟨_,rfl,_,rfl,_,rfl,_,rfl,_,_,rfl,rfl,a,sc,_,rfl,hS,by omega,_,_,rfl,rfl,⟨by decide,by decide⟩,_,rfl,_,_,rfl,rfl,_,_,rfl,rfl,(by show(0:Int)<94;decide),?_⟩;have k0:=ZA (aj sc (19+(0+(i:Int))).toNat / 3+n') (show(94:Int)≠0 by decide);have k1:=Zv (aj sc (19+(0+(i:Int))).toNat / 3+n') (show(0:Int)<94 by decide);obtain⟨ch,hch⟩:∃ch,atI iM.cps.toList ((aj sc (19+(0+(i:Int))).toNat / 3+n')%94)=some ch:=by
   have hz:((aj sc (19+(0+(i:Int))).toNat / 3+n')%94).toNat<iM.cps.toList.length:=by rw[nH.2];omega
   have:=bc (xs:=iM.cps.toList) (Za hz);rw[show((((aj sc (19+(0+(i:Int))).toNat / 3+n')%94).toNat:Nat):Int)=(aj sc (19+(0+(i:Int))).toNat / 3+n')%94 by omega]at this;exact⟨_,this⟩
  refine⟨iM,_,ch,rfl,rfl,aL (by rw[nH.1];decide),hch,_,_,rfl,rfl,aL (by show x.length+1<=1000;omega),?_⟩;refine⟨rfl,n',_,_,m0,m1,?_,gB sx ?_,rfl⟩
  ·rw[Str.length_append,lx];rfl
  ·show([ch].all fB)=true;rw[Ya,uD ch (xc hch)];rfl
 ·rintro σ H' ⟨rfl,n,x,o5,n0,n1,lx,sx,rfl⟩;have lx':x.length<=60:=by omega
  refine⟨_,rfl,_,_,rfl,rfl,⟨by decide,by decide⟩,_,_,rfl,rfl,(by show(0:Int)<3;decide),rfl,_,rfl,et (fun e=>?_) (fun e=>?_)⟩
  ·refine⟨_,rfl,_,rfl,x,rfl,by omega,?_⟩;have cl:=dZ x (some 2) none;have cs:=mI (lo:=some 2) (hi:=none) sx;have l2:1+(bu x (some 2) none).length+1<=60:=by
    by_cases c2:2<=x.length
    ·rw[AO c2];omega
    ·omega
   generalize bu x (some 2) none=y at cl cs l2 ⊢;refine⟨_,_,rfl,rfl,aL (by show 1+y.length<=1000;omega),?_⟩;refine⟨_,_,rfl,rfl,aL (by rw[Str.length_append];show 1+y.length+1<=1000;omega),?_⟩;have ly:(((" ":Str)++y)++(" ":Str)).length=1+y.length+1:=by rw[Str.length_append,Str.length_append];rfl
   refine⟨_,rfl,_,_,rfl,rfl,(by show(0:Int)<61;decide),_,rfl,_,rfl,by rw[ly];omega,q _ (mI (gB (gB (by decide +kernel) cs) (by decide +kernel))) (Zd (dZ _ _ _) (by rw[ly];exact l2))⟩
  ·exact⟨_,rfl,q x sx lx'⟩
def NoB(x:Str):Prop:=(32:Nat)∉x.cps.toList
def okD(hd:Int)(ns:List Int):Kd->Pd->Bool
 |_,.non=>true
 |_,.nm i j=>fQ hd ns i j
 |_,.pl ms=>decide (ms.length<=64)
 |_,.tx s=>decide (s.length<=60)
 |_,.bl _=>true
 |.w,.nu i=>decide (i<(ns.length:Int))
 |.a,.nu _=>true
 |_,.nu i=>decide (1<=i)&&decide (i<aj ns hd.toNat)
theorem PdAt.okR{H:Hp}{hd:Int}{ns:List Int}{k:Kd}{v:V}{d:Pd}(x:PdAt H v d)(f:eg k d):PartR K H hd ns k v (okD hd ns k d):=by
 cases k<;>cases d<;>first|exact f.elim|skip
 case u.non=>rw[show v=.non from x];exact .u0
 case u.nm i j=>obtain⟨a,rfl,e⟩:=x;exact .up (fun z=>nomatch z) (.is e)
 case i.nm i j=>obtain⟨a,rfl,e⟩:=x;exact .it (.is e)
 case p.pl ms =>
  obtain⟨a,rfl,e⟩:=x;refine .pl (fz e (by have:=f.2.1;omega)) ?_;rw[aY e];show(decide (1<=(ms.map V.int).length)&&decide ((ms.map V.int).length<=64)&&(ms.map V.int).all df)=decide (ms.length<=64);have:(ms.map V.int).all df=true:=by rw[Zx];intro x hx;obtain⟨n,_,rfl⟩:=ZM.mp hx;rfl
  rw[z6,decide_eq_true f.1,this,ZX,Bool.and_true]
 case t.tx s =>rw[show v=_ from x];refine .tx (Zd f.2 (by decide)) (uE f.1) ?_;rw[f.1,ZX];rfl
 case b.bl b=>rw[show v=_ from x];exact .bl (.bl b) rfl
 case w.non=>rw[show v=_ from x];exact .w0
 case w.nu i =>rw[show v=_ from x];refine .wh (fun z=>nomatch z) (.int i) ?_;show(decide (0<=i)&&decide (i<(ns.length:Int)))=_;rw[decide_eq_true f.1];rfl
 case a.nu i=>rw[show v=_ from x];exact .at (.int i) (decide_eq_true f.1)
 case n.nu i=>rw[show v=_ from x];exact .nu (.int i) rfl
def Dt14.bs(D:Dt14):List Bool:=List.zipWith (okD D.h D.ns) D.ks D.ds
def Dt14.xs(D:Dt14):List Str:=List.zipWith aS D.ks D.ds
def eQ(hands:Int)(D:Dt14):Bool:=(decide (D.h<hands)&&decide (1<=aj D.ns D.h.toNat))&&D.bs.all id
structure Dt14.Fit(D:Dt14)(hands:Int):Prop where
 h0:0<=D.h
 hs:Sm D.h
 n8:hands<=8
 n1:1<=hands
 nl:(D.ns.length:Int)=hands
 nn:∀n∈D.ns,0<=n/\Sm n
 dat:PyProof.Rows.KTD.datumAt D.wd DT=some (tw (D.ks.map nm))
 wl:D.wd.length<=10
 b2:NoB D.wd
 l3:D.ks.length<=3
 len:D.ds.length=D.ks.length
 tl:∀i:Nat,D.ks[i]?=some .t->i+1=D.ks.length
 fit:∀(i:Nat) (k:Kd) (d:Pd),D.ks[i]?=some k->D.ds[i]?=some d->eg k d
theorem DeedAt.deedR{H:Hp}{v:V}{D:Dt14}{hands:Int}(x:DeedAt H v D)(F:D.Fit hands):DeedR K H hands v (eQ hands D):=by
 obtain⟨d,c,t,ps,rfl,h2,h3,h4,h5,h6⟩:=x;unfold eQ;by_cases c1:D.h<hands
 ·rw[decide_eq_true c1,ZX];by_cases c2:1<=aj D.ns D.h.toNat
  ·rw[decide_eq_true c2,ZX];refine .is h2 F.h0 c1 h3 F.nl (fun n hn=>(F.nn n hn).1) F.n8 c2 (.is h4 F.dat F.l3 (bs:=D.bs) ⟨by rw[h5,F.len],?_,fun i k p b e1 e2 e3=>?_⟩ rfl)
   ·unfold Dt14.bs;rw[List.length_zipWith,F.len,h5,F.len,Nat.min_self]
   ·have hi:i<D.ds.length:=by rw[<-h5];exact(Zf.mp e2).1
    have e4:=Za hi;have eb:b=okD D.h D.ns k D.ds[i]:=by unfold Dt14.bs at e3;rw[Z4,e1,e4]at e3;exact(Zo e3).symm
    rw[eb];exact(h6 i p _ e2 e4).okR (F.fit i k _ e1 e4)
  ·rw[decide_eq_false c2,ZU];exact .zero h2 F.h0 c1 h3 F.nl (fun n hn=>(F.nn n hn).1) F.n8 (by omega)
 ·rw[decide_eq_false c1,ZU,ZU];refine .hand h2 (.int _) ?_;show(decide (0<=D.h)&&decide (D.h<hands))=false;rw[decide_eq_false c1,Bool.and_false]
def cq(w0:Str)(D:Dt14):Str:=Txt.join " " (w0::ai "," D.ns::D.wd::D.xs)
def qm(K:PySem.W.Frag):Sp:=fun vs H Q _=>∃(a c:Addr) (sc ns:List Int) (h hd:Int) (ks:List Kd) (j:Nat) (k:Kd),vs=[.ref a,.str (sg k),.ref c,.int hd,.int (11+2*(j:Int))]/\SqL K H a (sc.map V.int)/\1<=h/\h<=8/\0<=hd/\hd<h/\ks[j]?=some k /\
 H c=some (.tup (ns.map V.int))/\ClockOk sc ns h hd ks ks.length/\∀(v:V) (d:Pd) (H':Hp),Same H H'->PdAt H' v d->eg k d->okD hd ns k d=true->Q v H'
def rz(cs:List Int)(t:Nat)(v:Int):List Int:=cs.set t (if v>aj cs t then v else aj cs t)
theorem tO{cs:List Int}{t:Nat}{v:Int}:(rz cs t v).length=cs.length:=by unfold rz;rw[Z7]
theorem wH{cs:List Int}{t:Nat}{v:Int}(h:t<cs.length):v<=aj (rz cs t v) t:=by
 unfold rz;generalize hz:(if v>aj cs t then v else aj cs t)=z;have:v<=z:=by rw[<-hz];split<;>omega
 unfold aj;rw[ZI h];exact this
theorem rp{cs:List Int}{t i:Nat}{v:Int}(h:t<cs.length):aj cs i<=aj (rz cs t v) i:=by
 unfold rz;generalize hz:(if v>aj cs t then v else aj cs t)=z;have:aj cs t<=z:=by rw[<-hz];split<;>omega
 by_cases e:t=i
 ·subst e;unfold aj at this ⊢;rw[ZI h];exact this
 ·unfold aj;rw[Z1 e];exact Int.le_refl _
theorem tN{cs:List Int}{t:Nat}{v:Int}(h:t<cs.length)(hc:∀n∈cs,0<=n/\n<=10^59)(hv:0<=v/\v<=10^59):∀n∈rz cs t v,0<=n/\n<=10^59:=by
 intro n hn;unfold rz at hn;rcases Yc hn with a|a
 ·exact hc n a
 ·rw[a];split
  ·exact hv
  ·rw[<-fO h];exact hc _ (Z9 h)
theorem ClockOk.rise{sc ns:List Int}{h hd v:Int}{ks:List Kd}{m t:Nat}(c:ClockOk sc ns h hd ks m)(ht:t<ns.length)(hv:0<=v/\v<=10^59)(hn:∀(k:Kd),ks[m]?=some k->(k=.i\/k=.u/\0<aj sc (12+2*m)%4)->t=(aj sc (11+2*m)%h).toNat/\1+(if aj sc (11+2*m)%h=hd then 1 else 0)<=v):ClockOk sc (rz ns t v) h hd ks (m+1):=by
 obtain⟨c1,c2,c3,c4,c5⟩:=c;refine⟨by rw[tO];exact c1,tN ht c2 hv,Int.le_trans c3 (rp ht),fun z=>Int.le_trans (c4 z) (rp ht),fun j k hj hk hc=>?_⟩;rcases(show j<m\/j=m by omega)with hj|rfl
 ·exact Int.le_trans (c5 j k hj hk hc) (rp ht)
 ·obtain⟨e,l⟩:=hn k hk hc;rw[<-e];exact Int.le_trans l (wH ht)
theorem ClockOk.skip{sc ns:List Int}{h hd:Int}{ks:List Kd}{m:Nat}(c:ClockOk sc ns h hd ks m)(hn:∀(k:Kd),ks[m]?=some k->¬(k=.i\/k=.u/\0<aj sc (12+2*m)%4)):ClockOk sc ns h hd ks (m+1):=by
 obtain⟨c1,c2,c3,c4,c5⟩:=c;refine⟨c1,c2,c3,c4,fun j k hj hk hc=>?_⟩;rcases(show j<m\/j=m by omega)with hj|rfl
 ·exact c5 j k hj hk hc
 ·exact absurd hc (hn k hk)
theorem A7{k:Kd}(h:V.str ⟨#[dY k]⟩=V.str "i"):k=.i:=by cases k<;>first|rfl|(revert h;decide +kernel)
theorem A8{k:Kd}(h:V.str ⟨#[dY k]⟩=V.str "u"):k=.u:=by cases k<;>first|rfl|(revert h;decide +kernel)
theorem iQ{ks:List Kd}{j:Nat}{k:Kd}(h:ks[j]?=some k):atI (kst ks).cps.toList (j:Int)=some (dY k):=by refine bc ?_;show(ks.map dY)[j]?=some (dY k);rw[ZB,h];rfl
theorem aW(ks:List Kd):(kst ks).length=ks.length:=by show(ks.map dY).toArray.size=_;rw[Zj,z6]
abbrev lZ:Stmt:=top 53
abbrev wP:List Str:=["_law_script","_law_hands","_law_hand","_law_kinds","_law_clock_here","_law_j","_law_at"]
theorem iD:FnScope wP ["_law_script","_law_hands","_law_hand","_law_kinds"] (au lZ):=⟨rfl,rfl,rfl,by decide +kernel,rfl,by decide +kernel,by decide +kernel⟩
theorem vm{f:Addr}{fd:FuncData}(F:Fun K "_law_clock" "_law_clock" lZ f fd)(a8:Fn P w K mg base 1 "_law_cell_at" ["_law_script","_law_k"] (gY K))(a7:mg "tuple" = none)(a9:mg "range" = none)(Bt:mg "max" = none)(b9:mg "int" = none)(a6:mg "len" = none):FnOk P w K mg base CX0 2 f fd ["_law_script","_law_hands","_law_hand","_law_kinds"] (qj K):=by
 refine F.okQ iD (fun vs H Q E h=>?_) (fun cdv A outer s H vs Q E hr h=>?_)
 ·obtain⟨a,sc,h,hd,ks,rfl,_⟩:=h;rfl
 obtain⟨a,sc,h,hd,ks,rfl,hS,h1,h8,d0,d1,hks,q⟩:=h;refine⟨_,(b_c (tQ (j:=4) iD.nd (own:=["_law_k"]) (⟨rfl,by decide +kernel,by decide +kernel,rfl,⟨rfl,rfl,trivial⟩⟩:CompOk _ _ [0] ["_law_script"]) rfl (fc a9 (q_a (q_v 1) ad)) (fun _ _ _ _=>bp (i:=0) (show (["_law_k","_law_script"]:List Str).Nodup by decide +kernel)) (bj (by decide)) (fun _ _ _ _=>du) (fun _ _ _ _=>(ar aZ (aI a8 (hr.mono (by decide)) (q_a (q_v 1) (q_a (ar bx ae (q_v 0)) ad))) (ar qT ae ae))))
   (b_c (rq (q_B (wc rfl) Bt nI (q_a (aE aO (q_v 4) (q_v 2)) (q_a (ar bx ae (ci ft b9 bK (q_a (aV wx ah (q_v 3)) ad))) ad))) (qK (q_v 4) (q_v 2) rK))
   (b_c (rA PassesOwn.never rfl (fc a9 (q_a (q_B fN a6 Zw (q_a (q_v 3) ad)) ad)) (bp (i:=5) iD.nd) (b_1 (aC (t_w (cA (ax aH (aE eZ (q_v 3) (q_v 5)) ah) (cu (t_w (fD (ax aH (aE eZ (q_v 3) (q_v 5)) ah) (dW (ax oy (ar aZ (aI a8 (hr.mono (by decide)) (q_a (q_v 0) (q_a (ar bx ae (ar iq ae (q_v 5))) ad))) ae) ae))))))) (b_c (aJ (i:=6) iD.nd (ar aZ (aI a8 (hr.mono (by decide)) (q_a (q_v 0) (q_a (ar bx ae (ar iq ae (q_v 5))) ad))) (q_v 1)))
   (b_1 (rq (q_B (wc rfl) Bt nI (q_a (aE aO (q_v 4) (q_v 6)) (q_a (ar bx ae (ci ft b9 bK (q_a (aV aH (q_v 6) (q_v 2)) ad))) ad))) (qK (q_v 4) (q_v 6) rK)))) b_0)))
   (b_1 (aq (ci kE a7 bq (q_a (q_v 4) ad))))))),?_⟩
 refine⟨_,rfl,_,rfl,by omega,by omega,?_⟩;refine fu (N:=h.toNat) (lo:=0) (fun i=>.int (aj sc (3+(0+(i:Int))).toNat%10^59)) (by omega) (fun i H1 hi sm R k=>?_) (fun p1 H1 s1 g1=>?_)
 ·exact⟨_,rfl,_,rfl,_,_,rfl,rfl,a,sc,_,rfl,sm.seq hS,by omega,_,_,rfl,rfl,⟨by decide,by decide,by decide⟩,_,_,rfl,rfl,(by show(0:Int)<10^59;decide),k H1 (Same.refl H1)⟩
 rw[<-jS];have lc:((List.range h.toNat).map fun(i:Nat)=>aj sc (3+(0+(i:Int))).toNat%10^59).length=h.toNat:=by rw[z6,y4]
 have pc:∀n∈((List.range h.toNat).map fun(i:Nat)=>aj sc (3+(0+(i:Int))).toNat%10^59),0<=n/\n<=10^59:=fun n hn=>by obtain⟨i,_,rfl⟩:=ZM.mp hn;exact⟨ZA _ (by decide),Int.le_of_lt (Zv _ (by decide))⟩
 generalize((List.range h.toNat).map fun(i:Nat)=>aj sc (3+(0+(i:Int))).toNat%10^59)=cs at lc pc ⊢;have hk:hd.toNat<cs.length:=by omega
 refine⟨_,rfl,_,rfl,p1,_,_,_,rfl,rfl,SqL.of aa,bJ d0 (by omega),_,rfl,_,_,rfl,rfl,.inr ⟨_,rfl,_,_,rfl,rfl,_,_,rfl,?_⟩⟩;rw[Al ks hks];refine⟨_,rfl,_,rfl,p1,_,_,hd.toNat,rfl,rfl,aa,kO d0 (by rw[z6];omega),?_⟩;rw[xR];have e1:upd H1 p1 (.lst ((cs.map V.int).set hd.toNat (.int (if 1+(if decide (Kd.n∈ks)=true then 1 else 0)>aj cs hd.toNat then 1+(if decide (Kd.n∈ks)=true then 1 else 0)else aj cs hd.toNat)))) p1=some (.lst ((rz cs hd.toNat (1+(if decide (Kd.n∈ks)=true then 1 else 0))).map V.int)):=by rw[aa];unfold rz;rw[<-List.map_set]
 have S3:=s1.trans (af g1 (.lst ((cs.map V.int).set hd.toNat (.int (if 1+(if decide (Kd.n∈ks)=true then 1 else 0)>aj cs hd.toNat then 1+(if decide (Kd.n∈ks)=true then 1 else 0)else aj cs hd.toNat)))));generalize upd H1 p1 (.lst ((cs.map V.int).set hd.toNat (.int (if 1+(if decide (Kd.n∈ks)=true then 1 else 0)>aj cs hd.toNat then 1+(if decide (Kd.n∈ks)=true then 1 else 0)else aj cs hd.toNat))))=H3 at e1 S3 ⊢;have hv2:∀b:Bool,(0:Int)<=1+(if b=true then 1 else 0)/\(1+(if b=true then 1 else 0):Int)<=10^59:=by decide
 have ck:ClockOk sc (rz cs hd.toNat (1+(if decide (Kd.n∈ks)=true then 1 else 0))) h hd ks 0:=by
  have w:=wH (v:=1+(if decide (Kd.n∈ks)=true then 1 else 0)) hk;refine⟨by rw[tO];omega,tN hk pc (hv2 _),?_,fun z=>?_,fun j k hj=>absurd hj (Nat.not_lt_zero _)⟩
  ·refine Int.le_trans ?_ w;split<;>omega
  ·rw[BK (decide_eq_true z)]at w ⊢;exact w
 generalize rz cs hd.toNat (1+(if decide (Kd.n∈ks)=true then 1 else 0))=ns at e1 ck;have lk:ks.length<=3:=by obtain⟨m,hm,rfl⟩:=List.mem_iff_getElem.mp hks;exact lO (Za hm)
 have gp:=s1.free g1;refine⟨_,rfl,_,rfl,by rw[aW];omega,_,rfl,by rw[aW];omega,by rw[aW];omega,?_⟩;rw[aW];refine mD (lo:=0) (fun i σ H'=>Same H H'/\∃(ns:List Int) (o5 o6:Option V),H' p1=some (.lst (ns.map V.int))/\ClockOk sc ns h hd ks i/\σ=[some (.ref a),some (.int h),some (.int hd),some (.str (kst ks)),some (.ref p1),o5,o6]) ⟨S3,ns,none,none,e1,ck,rfl⟩ ?_ ?_
 ·rintro i σ H' hi ⟨sm,ms,o5,o6,em,cm,rfl⟩;have hi':i<ks.length:=by omega
  have hki:ks[i]?=some ks[i]:=Za hi';have hat:=iQ hki;generalize ks[i]=k at hki hat;rw[show(0:Int)+(i:Int)=(i:Int) by omega];have lm:ms.length=h.toNat:=cm.1;have z1:(11+2*(i:Int)).toNat=11+2*i:=by omega
  have z2:(12+2*(i:Int)).toNat=12+2*i:=by omega
  have t0:=ZA (aj sc (11+2*i)) (show h≠0 by omega);have t1:=Zv (aj sc (11+2*i)) (show(0:Int)<h by omega);have up:ClockOk sc (rz ms (aj sc (11+2*i)%h).toNat (1+(if decide (V.int (aj sc (11+2*i)%h)=V.int hd)=true then 1 else 0))) h hd ks (i+1):=by
   refine cm.rise (by omega) (hv2 _) (fun k _ _=>⟨rfl,?_⟩);by_cases e:aj sc (11+2*i)%h=hd
   ·rw[BK e,e,BK (decide_eq_true rfl)];exact Int.le_refl _
   ·rw[BJ e];split<;>omega
  have szl:(kst ks).length<=sizeLine:=aL (by rw[aW];omega);refine⟨_,rfl,_,rfl,kst ks,_,_,rfl,rfl,szl,hat,rfl,_,rfl,dw (fun e=>?_) (fun e=>?_)⟩
  ·have ek:=A7 e;refine⟨_,rfl,_,rfl,_,_,rfl,rfl,.inl ⟨by decide,by decide⟩,_,_,rfl,rfl,a,sc,_,rfl,sm.seq hS,by omega,_,rfl,_,_,rfl,rfl,(by show(0:Int)<h;omega),?_⟩;rw[z1];refine⟨_,rfl,_,rfl,p1,_,_,_,rfl,rfl,SqL.of em,bJ t0 (by omega),_,rfl,_,rfl,rfl,.inr ⟨_,rfl,_,_,rfl,rfl,_,_,rfl,?_⟩⟩;refine⟨_,rfl,_,rfl,p1,_,_,(aj sc (11+2*i)%h).toNat,rfl,rfl,em,kO t0 (by rw[z6];omega),?_⟩;refine⟨iC sm gp,_,_,_,?_,up,rfl⟩;rw[aa];unfold rz;rw[<-List.map_set]
  ·refine⟨_,rfl,_,rfl,kst ks,_,_,rfl,rfl,szl,hat,rfl,_,rfl,dw (fun e2=>?_) (fun e2=>?_)⟩
   ·have ek:=A8 e2;refine⟨_,rfl,_,rfl,_,_,rfl,rfl,.inl ⟨by decide,by decide⟩,_,_,rfl,rfl,a,sc,_,rfl,sm.seq hS,by omega,_,_,rfl,rfl,(by show(0:Int)<4;decide),_,_,rfl,rfl,_,rfl,?_⟩;rw[z2];refine dw (fun e3=>?_) (fun e3=>?_)
    ·refine⟨_,rfl,_,rfl,_,_,rfl,rfl,.inl ⟨by decide,by decide⟩,_,_,rfl,rfl,a,sc,_,rfl,sm.seq hS,by omega,_,rfl,_,_,rfl,rfl,(by show(0:Int)<h;omega),?_⟩;rw[z1];refine⟨_,rfl,_,rfl,p1,_,_,_,rfl,rfl,SqL.of em,bJ t0 (by omega),_,rfl,_,rfl,rfl,.inr ⟨_,rfl,_,_,rfl,rfl,_,_,rfl,?_⟩⟩;refine⟨_,rfl,_,rfl,p1,_,_,(aj sc (11+2*i)%h).toNat,rfl,rfl,em,kO t0 (by rw[z6];omega),?_⟩;refine⟨iC sm gp,_,_,_,?_,up,rfl⟩;rw[aa];unfold rz;rw[<-List.map_set]
    ·refine⟨sm,ms,_,_,em,cm.skip (fun k' hk' z=>?_),rfl⟩;rw[hki]at hk';cases hk';rcases z with z|⟨_,z⟩
     ·subst z;cases ek
     ·exact e3 z
   ·refine⟨sm,ms,_,_,em,cm.skip (fun k' hk' z=>?_),rfl⟩;rw[hki]at hk';cases hk';rcases z with z|⟨z,_⟩
    ·subst z;exact e rfl
    ·subst z;exact e2 rfl
 ·rintro σ H' ⟨sm,ms,o5,o6,em,cm,rfl⟩;refine⟨_,rfl,p1,_,rfl,.inl ⟨SqL.of em,fun l hl=>?_⟩⟩;exact q l ms _ (sm.trans (af hl _)) aa cm
abbrev oK:Stmt:=top 56
abbrev yb:List Str:=["_law_script","_law_kind","_law_clock_here","_law_hand","_law_k","_law_cell","_law_more","_law_at"]
theorem jx:FnScope yb ["_law_script","_law_kind","_law_clock_here","_law_hand","_law_k"] (au oK):=⟨rfl,rfl,rfl,by decide +kernel,rfl,by decide +kernel,by decide +kernel⟩
theorem xm{f:Addr}{fd:FuncData}(F:Fun K "_law_part" "_law_part" oK f fd)(a8:Fn P w K mg base 1 "_law_cell_at" ["_law_script","_law_k"] (gY K))(Bm:Fn P w K mg base 2 "_law_place" ["_law_script","_law_cell"] (qo K))(Bv:Fn P w K mg base 2 "_law_text" ["_law_script","_law_cell"] (ue K))(b9:mg "int" = none)(a6:mg "len" = none):FnOk P w K mg base CX0 3 f fd ["_law_script","_law_kind","_law_clock_here","_law_hand","_law_k"] (qm K):=by
 refine F.okQ jx (fun vs H Q E h=>?_) (fun cdv A outer s H vs Q E hr h=>?_)
 ·obtain⟨a,c,sc,ns,h,hd,ks,j,k,rfl,_⟩:=h;rfl
 obtain⟨a,c,sc,ns,h,hd,ks,j,k,rfl,hS,h1,h8,d0,d1,hk,hc,ck,q⟩:=h;refine⟨_,(b_c (aJ (i:=5) jx.nd (aI a8 (hr.mono (by decide)) (q_a (q_v 0) (q_a (q_v 4) ad))))
   (b_c (aJ (i:=6) jx.nd (aI a8 (hr.mono (by decide)) (q_a (q_v 0) (q_a (ar bx (q_v 4) ae) ad))))
   (b_c (aC (t_w (fD (ax aH (q_v 1) ah) (dW (ax aH (ar aZ (q_v 6) ae) ae)))) (b_1 (aq dj)) b_0)
   (b_c (aC (t_w (cA (ax aH (q_v 1) ah) (cu (ax aH (q_v 1) ah)))) (b_c (aJ (i:=7) jx.nd (ar aZ (q_v 5) (q_B bB a6 Zw (q_a (q_v 2) ad))))
   (b_1 (aq (gm (q_a (q_v 7) (q_a (ar bx ae (ar aZ (ar fe (q_v 6) ae) (ar eS (aE bz (q_v 2) (q_v 7)) (ci ft b9 bK (q_a (aV aH (q_v 7) (q_v 3)) ad))))) ad)))))) b_0)
   (b_c (aC (ax aH (q_v 1) ah) (b_1 (aq (aI Bm (hr.mono (by decide)) (q_a (q_v 0) (q_a (q_v 5) ad))))) b_0)
   (b_c (aC (ax aH (q_v 1) ah) (b_1 (aq (aI Bv (hr.mono (by decide)) (q_a (q_v 0) (q_a (q_v 5) ad))))) b_0)
   (b_c (aC (ax aH (q_v 1) ah) (b_1 (aq (aV aH (ar aZ (q_v 5) ae) ae))) b_0)
   (b_c (aC (ax aH (q_v 1) ah) (b_1 (aq (aE aO (bS (q_a dj (q_a (ar aZ (q_v 6) (q_B bB a6 Zw (q_a (q_v 2) ad))) ad))) (ci ft b9 bK (q_a (aV oy (ar aZ (q_v 5) ae) ae) ad))))) b_0)
   (b_c (aC (ax aH (q_v 1) ah) (b_1 (aq (ar aZ (q_v 5) (ar qT ae ae)))) b_0)
   (b_1 (aq (ar bx ae (ar aZ (q_v 5) (ar eS (aE bz (q_v 2) (q_v 3)) ae)))))))))))))),?_⟩
 refine⟨_,rfl,_,rfl,a,sc,_,rfl,hS,by omega,?_⟩;refine⟨_,rfl,_,rfl,_,_,rfl,rfl,a,sc,_,rfl,hS,by omega,?_⟩;rw[show(11+2*(j:Int)).toNat=11+2*j by omega,show(11+2*(j:Int)+1).toNat=12+2*j by omega];have lk:=(Zf.mp hk).1;obtain⟨ln,pn,_,c4,c5⟩:=ck;have lh:((ns.map V.int).length:Int)=h:=by rw[z6];omega
 have t0:=ZA (aj sc (11+2*j)) (show h≠0 by omega);have t1:=Zv (aj sc (11+2*j)) (show(0:Int)<h by omega);have cpos:∀{t:Nat},t<ns.length->aj ns t<=10^59:=fun{t} ht=>by have:=(pn _ (Z9 ht)).2;rw[fO ht]at this;exact this
 have ipos:∀{x y z:Int},(1+if x=y then 1 else 0)<=z->0<z-(if decide (V.int x=V.int y)=true then 1 else 0):=fun{x y z} l=>by
  by_cases e:x=y
  ·subst e;rw[BK rfl]at l;rw[BK (decide_eq_true rfl)];omega
  ·rw[BJ e]at l;rw[BJ (fun z=>e (V.int.inj (y6 z)))];omega
 have isub:∀{z:Int} {b:Bool},z<=10^59->z-(if b=true then 1 else 0)<=10^59:=fun{z b} l=>by split<;>omega
 have mod_sm:∀{x m:Int},0<m->m<=10^59->Sm (1+x%m):=fun{x m} m0 m1=>by have:=ZA x (show m≠0 by omega);have:=Zv x m0;exact Sm.of (k:=59) (by omega) (by omega) (by decide)
 have cO:∀{x y:Int},Sm x->Sm y->∀n∈[x,y],Sm n:=fun{x y} hx hy n hn=>by
  simp only[Zr,ZK,Yg]at hn;rcases hn with rfl|rfl
  ·exact hx
  ·exact hy
 cases k with
 |i =>
  refine⟨_,rfl,rfl,_,rfl,ak (by decide +kernel) ⟨_,rfl,rfl,_,rfl,bA ⟨_,rfl,_,rfl,c,_,rfl,.inr (SqT.of hc),_,_,rfl,rfl,(by show(0:Int)<((ns.map V.int).length:Int);omega),?_⟩⟩⟩;rw[lh];have le:=c5 j _ lk hk (.inl rfl);refine⟨_,rfl,_,rfl,_,_,rfl,rfl,⟨by decide,by decide⟩,_,rfl,_,rfl,c,_,_,_,rfl,rfl,SqT.of hc,bJ t0 (by omega),_,rfl,_,rfl,rfl,.inr ⟨_,rfl,_,_,rfl,rfl,_,_,rfl,rfl,?_,_,_,rfl,rfl,sz rfl,fun p g=>?_⟩⟩
  ·exact ipos le
  ·have m0':=ZA (aj sc (12+2*j) / 4) (Int.ne_of_gt (ipos le));have m1':=Zv (aj sc (12+2*j) / 4) (ipos le);refine q _ (.nm _ _) _ (af g _) ⟨_,rfl,aa⟩ ⟨t0,by omega,Sm.of (k:=59) (by omega) (by omega) (by decide),mod_sm (ipos le) (isub (cpos (by omega)))⟩ ?_;show fQ hd ns _ _=true;unfold fQ nmL;have eb:∀{x y:Int},(if decide (V.int x=V.int y)=true then(1:Int)else 0)=if x=y then 1 else 0:=fun{x y}=>by
    by_cases e:x=y
    ·rw[BK e,BK (decide_eq_true (by rw[e]))]
    ·rw[BJ e,BJ (fun z=>e (V.int.inj (y6 z)))]
   rw[eb]at m0' m1' ⊢;generalize hdl:(if aj sc (11+2*j)%h=hd then(1:Int)else 0)=dl at m0' m1' ⊢;have d0:0<=dl:=by rw[<-hdl];split<;>decide
   rw[decide_eq_true (show 0<=aj sc (11+2*j)%h from t0),decide_eq_true (show aj sc (11+2*j)%h<(ns.length:Int) by omega),decide_eq_true (by omega),decide_eq_true (by omega),decide_eq_false]
   ·rfl
   ·intro z;injection z with z1 z2;injection z2 with z2;rw[BK z1]at hdl;rw[z1]at m1' m0';rw[z1]at z2;omega
 |u =>
  refine⟨_,rfl,rfl,_,rfl,bA ⟨_,rfl,_,_,rfl,rfl,(by show(0:Int)<4;decide),rfl,_,rfl,et (fun e=>?_) (fun e=>?_)⟩⟩
  ·exact q _ .non _ (Same.refl H) rfl trivial rfl
  have m0:=ZA (aj sc (12+2*j)) (show(4:Int)≠0 by decide);refine⟨_,rfl,rfl,_,rfl,ak (by decide +kernel) ⟨_,rfl,rfl,_,rfl,bA ⟨_,rfl,_,rfl,c,_,rfl,.inr (SqT.of hc),_,_,rfl,rfl,(by show(0:Int)<((ns.map V.int).length:Int);omega),?_⟩⟩⟩;rw[lh];have le:=c5 j _ lk hk (.inr ⟨rfl,by omega⟩);refine⟨_,rfl,_,rfl,_,_,rfl,rfl,⟨by decide,by decide⟩,_,rfl,_,rfl,c,_,_,_,rfl,rfl,SqT.of hc,bJ t0 (by omega),_,rfl,_,rfl,rfl,.inr ⟨_,rfl,_,_,rfl,rfl,_,_,rfl,rfl,?_,_,_,rfl,rfl,sz rfl,fun p g=>?_⟩⟩
  ·exact ipos le
  ·have m0':=ZA (aj sc (12+2*j) / 4) (Int.ne_of_gt (ipos le));have m1':=Zv (aj sc (12+2*j) / 4) (ipos le);refine q _ (.nm _ _) _ (af g _) ⟨_,rfl,aa⟩ ⟨t0,by omega,Sm.of (k:=59) (by omega) (by omega) (by decide),mod_sm (ipos le) (isub (cpos (by omega)))⟩ ?_;show fQ hd ns _ _=true;unfold fQ nmL;have eb:∀{x y:Int},(if decide (V.int x=V.int y)=true then(1:Int)else 0)=if x=y then 1 else 0:=fun{x y}=>by
    by_cases e:x=y
    ·rw[BK e,BK (decide_eq_true (by rw[e]))]
    ·rw[BJ e,BJ (fun z=>e (V.int.inj (y6 z)))]
   rw[eb]at m0' m1' ⊢;generalize hdl:(if aj sc (11+2*j)%h=hd then(1:Int)else 0)=dl at m0' m1' ⊢;have d0:0<=dl:=by rw[<-hdl];split<;>decide
   rw[decide_eq_true (show 0<=aj sc (11+2*j)%h from t0),decide_eq_true (show aj sc (11+2*j)%h<(ns.length:Int) by omega),decide_eq_true (by omega),decide_eq_true (by omega),decide_eq_false]
   ·rfl
   ·intro z;injection z with z1 z2;injection z2 with z2;rw[BK z1]at hdl;rw[z1]at m1' m0';rw[z1]at z2;omega
 |p=>exact⟨_,rfl,rfl,_,rfl,ak (by decide +kernel) ⟨_,rfl,rfl,_,rfl,ak (by decide +kernel) ⟨_,rfl,rfl,_,rfl,ak (by decide +kernel) ⟨_,rfl,rfl,_,rfl,bA ⟨_,rfl,_,rfl,a,sc,_,rfl,hS,fun p ms H1 s1 e1 h1 h2 h3=>q _ (.pl ms) _ s1 ⟨_,rfl,e1⟩ ⟨h2,Zd h3 (by decide),h1⟩ (decide_eq_true h3)⟩⟩⟩⟩⟩
 |t=>exact⟨_,rfl,rfl,_,rfl,ak (by decide +kernel) ⟨_,rfl,rfl,_,rfl,ak (by decide +kernel) ⟨_,rfl,rfl,_,rfl,ak (by decide +kernel) ⟨_,rfl,rfl,_,rfl,ak (by decide +kernel) ⟨_,rfl,rfl,_,rfl,bA ⟨_,rfl,_,rfl,a,sc,_,rfl,hS,fun x hs hx=>q _ (.tx x) _ (Same.refl H) rfl ⟨hs,Zd hx (by decide)⟩ (decide_eq_true hx)⟩⟩⟩⟩⟩⟩
 |b=>exact⟨_,rfl,rfl,_,rfl,ak (by decide +kernel) ⟨_,rfl,rfl,_,rfl,ak (by decide +kernel) ⟨_,rfl,rfl,_,rfl,ak (by decide +kernel) ⟨_,rfl,rfl,_,rfl,ak (by decide +kernel) ⟨_,rfl,rfl,_,rfl,ak (by decide +kernel) ⟨_,rfl,rfl,_,rfl,bA ⟨_,rfl,_,_,rfl,rfl,(by show(0:Int)<2;decide),rfl,q _ (.bl _) _ (Same.refl H) rfl trivial rfl⟩⟩⟩⟩⟩⟩⟩
 |w =>
  refine⟨_,rfl,rfl,_,rfl,ak (by decide +kernel) ⟨_,rfl,rfl,_,rfl,ak (by decide +kernel) ⟨_,rfl,rfl,_,rfl,ak (by decide +kernel) ⟨_,rfl,rfl,_,rfl,ak (by decide +kernel) ⟨_,rfl,rfl,_,rfl,ak (by decide +kernel) ⟨_,rfl,rfl,_,rfl,ak (by decide +kernel) ⟨_,rfl,rfl,_,rfl,bA ?_⟩⟩⟩⟩⟩⟩⟩;refine⟨_,rfl,_,rfl,c,_,rfl,.inr (SqT.of hc),_,_,rfl,rfl,(by show(0:Int)<((ns.map V.int).length:Int);omega),sz rfl,fun p g=>?_⟩;rw[lh];have w0:=ZA (aj sc (12+2*j)) (show h≠0 by omega);have w1:=Zv (aj sc (12+2*j)) (show(0:Int)<h by omega);refine⟨_,rfl,_,_,rfl,rfl,(by show(0:Int)<3;decide),_,_,rfl,rfl,.inr ⟨_,rfl,?_⟩⟩;generalize decide (0<aj sc (11+2*j)%3)=b;cases b with
  |true=>exact⟨p,_,_,_,rfl,rfl,SqL.of aa,rfl,q _ (.nu _) _ (af g _) rfl ⟨w0,Sm.of (k:=59) (by omega) (by omega) (by decide)⟩ (decide_eq_true (by omega))⟩
  |false=>exact⟨p,_,_,_,rfl,rfl,SqL.of aa,rfl,q _ .non _ (af g _) rfl trivial rfl⟩
 |a =>have w0:=ZA (aj sc (11+2*j)) (show(10:Int)^59≠0 by decide);have w1:=Zv (aj sc (11+2*j)) (show(0:Int)<10^59 by decide);exact⟨_,rfl,rfl,_,rfl,ak (by decide +kernel) ⟨_,rfl,rfl,_,rfl,ak (by decide +kernel) ⟨_,rfl,rfl,_,rfl,ak (by decide +kernel) ⟨_,rfl,rfl,_,rfl,ak (by decide +kernel) ⟨_,rfl,rfl,_,rfl,ak (by decide +kernel) ⟨_,rfl,rfl,_,rfl,ak (by decide +kernel) ⟨_,rfl,rfl,_,rfl,ak (by decide +kernel) ⟨_,rfl,rfl,_,rfl,bA ⟨_,rfl,_,_,rfl,rfl,⟨by decide,by decide,by decide⟩,_,_,rfl,rfl,(by show(0:Int)<10^59;decide),q _ (.nu _) _ (Same.refl H) rfl ⟨w0,(Sm.of (k:=59) (by show -(10^59)<=aj sc (11+2*j)%10^59;omega) (by show aj sc (11+2*j)%10^59<=10^59;omega) (by decide))⟩ rfl⟩⟩⟩⟩⟩⟩⟩⟩⟩
 |n =>
  have:=c4 (ZC hk);have cp:=cpos (show hd.toNat<ns.length by omega);have BI:∀{x z:Int},2<=z->z<=10^59->(0<=1+x%(z-1)/\Sm (1+x%(z-1)))/\(decide (1<=1+x%(z-1))&&decide (1+x%(z-1)<z))=true:=fun{x z} h2 h3=>by have b0:=ZA x (show z-1≠0 by omega);have b1:=Zv x (show 0<z-1 by omega);refine⟨⟨by omega,Sm.of (k:=59) (by omega) (by omega) (by decide)⟩,?_⟩;rw[decide_eq_true (by omega),decide_eq_true (by omega)];rfl
  exact⟨_,rfl,rfl,_,rfl,ak (by decide +kernel) ⟨_,rfl,rfl,_,rfl,ak (by decide +kernel) ⟨_,rfl,rfl,_,rfl,ak (by decide +kernel) ⟨_,rfl,rfl,_,rfl,ak (by decide +kernel) ⟨_,rfl,rfl,_,rfl,ak (by decide +kernel) ⟨_,rfl,rfl,_,rfl,ak (by decide +kernel) ⟨_,rfl,rfl,_,rfl,ak (by decide +kernel) ⟨_,rfl,rfl,_,rfl,ak (by decide +kernel) ⟨_,rfl,_,rfl,_,rfl,c,_,_,_,rfl,rfl,SqT.of hc,bJ d0 (by omega),_,_,rfl,rfl,_,_,rfl,rfl,(by show(0:Int)<aj ns hd.toNat-1;omega),_,_,rfl,rfl,q _ (.nu _) _ (Same.refl H) rfl (BI (by omega) (by omega)).1 (BI (by omega) (by omega)).2⟩⟩⟩⟩⟩⟩⟩⟩⟩
theorem pe{f:Nat->Str}{n:Nat}:((List.range n).map fun i=>V.str (f i))=((List.range n).map f).map V.str:=by rw[List.map_map];rfl
theorem oi{ns:List Int}:((List.range (ns.map V.int).length).map fun i=>ag (aj ns i))=ns.map ag:=by rw[z6];refine List.ext_getElem (by simp) fun i h1 h2=>?_;rw[List.getElem_map,List.getElem_map,List.getElem_range,fO]
def uh:Sp:=fun vs H Q _=>∃(k:Kd) (v:V) (x:Str),vs=[.str (sg k),v]/\PartV H k v x/\∀H',Same H H'->Q (.str x) H'
abbrev oP:Stmt:=top 57
abbrev yf:List Str:=["_law_kind","_law_part_here"]
theorem xN:FnScope yf ["_law_kind","_law_part_here"] (au oP):=⟨rfl,rfl,rfl,by decide +kernel,rfl,by decide +kernel,by decide +kernel⟩
theorem xq{f:Addr}{fd:FuncData}(F:Fun K "_law_word" "_law_word" oP f fd)(dg:PySem.W.nsIn K cStatics "sys.int_max_str_digits" = some none)(c7:mg "str" = none)(b9:mg "int" = none):FnOk P w K mg base CX0 1 f fd ["_law_kind","_law_part_here"] uh:=by
 refine F.okQ xN (fun vs H Q E h=>?_) (fun cdv A outer s H vs Q E hr h=>?_)
 ·obtain⟨k,v,x,rfl,_⟩:=h;rfl
 obtain⟨k,v,x,rfl,p,q⟩:=h;refine⟨_,(b_c (aC (ax aH (q_v 0) ah) (b_1 (aq (q_v 1))) b_0)
   (b_c (aC (ax aH (q_v 0) ah) (b_1 (aq (bY ah (cK (own:=["_law_number"]) (⟨rfl,by decide +kernel,by decide +kernel,rfl,trivial⟩:CompOk _ _ [] []) rfl (nj (q_v 1)) (fun _ _ _ _=>bp (i:=0) (show (["_law_number"]:List Str).Nodup by decide +kernel)) (bj (by decide)) (fun _ _ _ _=>du) (fun _ _ _ _=>(ci (fE (K:=K) rfl rfl dg) c7 ce (q_a (q_v 0) ad))))))) b_0)
   (b_c (aC (ax aH (q_v 0) ah) (b_1 (aq (aE aO (bS (q_a ah (q_a ah ad))) (ci ft b9 bK (q_a (q_v 1) ad))))) b_0)
   (b_c (aC (ax jw (q_v 1) dj) (b_1 (aq (aE aO (bS (q_a ah (q_a ah ad))) (ci ft b9 bK (q_a (aV aH (q_v 0) ah) ad))))) b_0)
   (b_c (aC (t_w (cA (ax aH (q_v 0) ah) (cu (ax aH (q_v 0) ah)))) (b_1 (aq (ar bI (ar bI (ci (fE (K:=K) rfl rfl dg) c7 ce (q_a (aE bz (q_v 1) ae) ad)) ah) (ci (fE (K:=K) rfl rfl dg) c7 ce (q_a (aE bz (q_v 1) ae) ad))))) b_0)
   (b_1 (aq (ci (fE (K:=K) rfl rfl dg) c7 ce (q_a (q_v 1) ad))))))))),?_⟩
 have q0:=q H (Same.refl H);have item:∀{a:Addr} {i j:Int},H a=some (.tup ([i,j].map V.int))->(∀n∈[i,j],Sm n)->Q (.str (Txt.join "." ([i,j].map ag))) H ->
   ∃v,[some (V.str (sg k)),some (V.ref a)][1]?=some (some v)/\v=.ref a:=fun _ _ _=>⟨_,rfl,rfl⟩
 cases p with
 |tx x hl=>exact⟨_,rfl,rfl,_,rfl,bA ⟨_,rfl,q0⟩⟩
 |@pl a ns e h hl =>
  refine⟨_,rfl,rfl,_,rfl,ak (by decide +kernel) ⟨_,rfl,rfl,_,rfl,bA ⟨rfl,_,rfl,a,rfl,⟨_,SqT.of e⟩,?_⟩⟩⟩;refine ic (fun i=>.str (ag (aj ns i))) (by rw[z6];omega) (SqT.of e) (fun i x H1 hi sm R k=>?_) (fun p H1 sm hp=>?_)
  ·obtain⟨rfl,hj⟩:=io hi;exact⟨_,rfl,_,rfl,(h _ (by rw[<-fO hj];exact Z9 hj)).big,k H1 (Same.refl H1)⟩
  ·rw[pe,oi];refine⟨"/",p,ns.map ag,rfl,rfl,SqL.of aa,fP (fun y hy=>?_) (by decide +kernel) (by rw[z6];omega),q _ (sm.trans (af hp _))⟩;obtain⟨n,hn,rfl⟩:=ZM.mp hy;have:=(h n hn).len;omega
 |bl b =>refine⟨_,rfl,rfl,_,rfl,ak (by decide +kernel) ⟨_,rfl,rfl,_,rfl,ak (by decide +kernel) ⟨_,rfl,rfl,_,rfl,bA ?_⟩⟩⟩;refine⟨sz rfl,fun p g=>?_⟩;have w1:=af g (.lst [.str "no",.str "yes"]);refine⟨_,rfl,.inr ⟨b,rfl,p,_,_,_,rfl,rfl,SqL.of aa,?_,q _ w1⟩⟩;cases b<;>rfl
 |u0 =>refine⟨_,rfl,rfl,_,rfl,ak (by decide +kernel) ⟨_,rfl,rfl,_,rfl,ak (by decide +kernel) ⟨_,rfl,rfl,_,rfl,ak (by decide +kernel) ⟨_,rfl,rfl,_,rfl,gh rfl ?_⟩⟩⟩⟩;refine⟨sz rfl,fun p g=>?_⟩;have w1:=af g (.lst [.str "top",.str "nobody"]);refine⟨_,rfl,rfl,.inr ⟨_,rfl,p,_,_,_,rfl,rfl,SqL.of aa,?_,q _ w1⟩⟩;decide +kernel
 |w0 =>refine⟨_,rfl,rfl,_,rfl,ak (by decide +kernel) ⟨_,rfl,rfl,_,rfl,ak (by decide +kernel) ⟨_,rfl,rfl,_,rfl,ak (by decide +kernel) ⟨_,rfl,rfl,_,rfl,gh rfl ?_⟩⟩⟩⟩;refine⟨sz rfl,fun p g=>?_⟩;have w1:=af g (.lst [.str "top",.str "nobody"]);refine⟨_,rfl,rfl,.inr ⟨_,rfl,p,_,_,_,rfl,rfl,SqL.of aa,?_,q _ w1⟩⟩;decide +kernel
 |@it a i j e h =>have si:=h i (by simp);have sj:=h j (by simp);have li:=si.len;have lj:=sj.len;refine⟨_,rfl,rfl,_,rfl,ak (by decide +kernel) ⟨_,rfl,rfl,_,rfl,ak (by decide +kernel) ⟨_,rfl,rfl,_,rfl,ak (by decide +kernel) ⟨_,rfl,rfl,_,rfl,eR (by intro z;cases z) ⟨_,rfl,rfl,_,rfl,bA ?_⟩⟩⟩⟩⟩;exact⟨_,rfl,a,_,_,_,rfl,rfl,SqT.of e,rfl,i,rfl,si.big,_,_,rfl,rfl,aL (by show _+1<=1000;omega),_,rfl,a,_,_,_,rfl,rfl,SqT.of e,rfl,j,rfl,sj.big,_,_,rfl,rfl,aL (by rw[Str.length_append];show _+1+_<=1000;omega),q0⟩
 |@ui a i j e h =>have si:=h i (by simp);have sj:=h j (by simp);have li:=si.len;have lj:=sj.len;refine⟨_,rfl,rfl,_,rfl,ak (by decide +kernel) ⟨_,rfl,rfl,_,rfl,ak (by decide +kernel) ⟨_,rfl,rfl,_,rfl,ak (by decide +kernel) ⟨_,rfl,rfl,_,rfl,eR (by intro z;cases z) ⟨_,rfl,rfl,_,rfl,ak (by decide +kernel) ⟨_,rfl,rfl,_,rfl,bA ?_⟩⟩⟩⟩⟩⟩;exact⟨_,rfl,a,_,_,_,rfl,rfl,SqT.of e,rfl,i,rfl,si.big,_,_,rfl,rfl,aL (by show _+1<=1000;omega),_,rfl,a,_,_,_,rfl,rfl,SqT.of e,rfl,j,rfl,sj.big,_,_,rfl,rfl,aL (by rw[Str.length_append];show _+1+_<=1000;omega),q0⟩
 |wi i h=>exact⟨_,rfl,rfl,_,rfl,ak (by decide +kernel) ⟨_,rfl,rfl,_,rfl,ak (by decide +kernel) ⟨_,rfl,rfl,_,rfl,ak (by decide +kernel) ⟨_,rfl,rfl,_,rfl,eR (by intro z;cases z) ⟨_,rfl,rfl,_,rfl,ak (by decide +kernel) ⟨_,rfl,rfl,_,rfl,ak (by decide +kernel) ⟨_,rfl,i,rfl,h.big,q0⟩⟩⟩⟩⟩⟩⟩
 | «at» i h=>exact⟨_,rfl,rfl,_,rfl,ak (by decide +kernel) ⟨_,rfl,rfl,_,rfl,ak (by decide +kernel) ⟨_,rfl,rfl,_,rfl,ak (by decide +kernel) ⟨_,rfl,rfl,_,rfl,eR (by intro z;cases z) ⟨_,rfl,rfl,_,rfl,ak (by decide +kernel) ⟨_,rfl,rfl,_,rfl,ak (by decide +kernel) ⟨_,rfl,i,rfl,h.big,q0⟩⟩⟩⟩⟩⟩⟩
 |nu i h=>exact⟨_,rfl,rfl,_,rfl,ak (by decide +kernel) ⟨_,rfl,rfl,_,rfl,ak (by decide +kernel) ⟨_,rfl,rfl,_,rfl,ak (by decide +kernel) ⟨_,rfl,rfl,_,rfl,eR (by intro z;cases z) ⟨_,rfl,rfl,_,rfl,ak (by decide +kernel) ⟨_,rfl,rfl,_,rfl,ak (by decide +kernel) ⟨_,rfl,i,rfl,h.big,q0⟩⟩⟩⟩⟩⟩⟩
def AlkF(x y:V):Prop:=x=y/\(x=.non\/(∃s,x=.str s)\/(∃i,x=.int i)\/∃b,x=.bl b)
def Alk:Nat->Hp->V->V->Prop
 |0,_,x,y=>AlkF x y
 |n+1,H,x,y=>AlkF x y\/∃(a b:Addr) (xs ys:List V),x=.ref a/\y=.ref b/\H a=some (.tup xs)/\H b=some (.tup ys)/\xs.length=ys.length/\xs.length<=100/\∀(i:Nat) (u v:V),xs[i]?=some u->ys[i]?=some v->Alk n H u v
theorem Alk.same:∀{n:Nat} {H H':Hp} {x y:V},Alk n H x y->Same H H'->Alk n H' x y
 |0,_,_,_,_,h,_=>h
 |n+1,_,_,_,_,h,s=>by
  rcases h with h|⟨a,b,xs,ys,h1,h2,h3,h4,h5,h6,h7⟩
  ·exact .inl h
  ·exact .inr ⟨a,b,xs,ys,h1,h2,s _ _ h3,s _ _ h4,h5,h6,fun i u v e1 e2=>(h7 i u v e1 e2).same s⟩
theorem Alk.up{n:Nat}{H:Hp}{x y:V}(h:Alk n H x y):Alk (n+1) H x y:=by
 induction n generalizing x y with
 |zero=>exact .inl h
 |succ n ih =>
  rcases h with h|⟨a,b,xs,ys,h1,h2,h3,h4,h5,h6,h7⟩
  ·exact .inl h
  ·exact .inr ⟨a,b,xs,ys,h1,h2,h3,h4,h5,h6,fun i u v e1 e2=>ih (h7 i u v e1 e2)⟩
def jB(n:Nat):Sp:=fun vs H Q _=>∃x y:V,vs=[x,y]/\Alk n H x y/\∀H',Same H H'->Q (.bl true) H'
theorem dk{T:String}:∀v,RelV (.ty T) v->v=.type T:=fun v h=>h
abbrev gS:Stmt:=top 63
abbrev wO:List Str:=["_law_found","_law_due"]
theorem vM:FnScope wO ["_law_found","_law_due"] (au gS):=⟨rfl,rfl,rfl,by decide +kernel,rfl,by decide +kernel,by decide +kernel⟩
def ql:Sp:=fun _ _ _ _=>False
theorem AlkF.ty{K:PySem.W.Frag}{H:Hp}{x y:V}(h:AlkF x y):∃n,TyOf K H x (.type n)/\isT H x=false:=by
 rcases h.2 with e|⟨s,e⟩|⟨i,e⟩|⟨b,e⟩<;>subst e
 ·exact⟨_,.non,rfl⟩
 ·exact⟨_,.str s,rfl⟩
 ·exact⟨_,.int i,rfl⟩
 ·exact⟨_,.bl b,rfl⟩
theorem mF{k n:Nat}{sp:Sp}{f:Addr}{fd:FuncData}(hsp:∀m,n=m+1->sp=jB m)(F:Fun K "_law_alike" "_law_alike" gS f fd)(i4:Fn P w K mg base k "_law_alike" ["_law_found","_law_due"] sp)(a5:mg "isinstance" = none)(a7:mg "tuple" = none)(c7:mg "str" = none)(b9:mg "int" = none)(d8:mg "bool" = none)(a6:mg "len" = none)(d6:mg "all" = none)(a9:mg "range" = none):FnOk P w K mg base CX0 (k+1) f fd ["_law_found","_law_due"] (jB n):=by
 refine F.okQ vM (fun vs H Q E h=>?_) (fun cdv A outer s H vs Q E hr h=>?_)
 ·obtain⟨x,y,rfl,_⟩:=h;rfl
 obtain⟨x,y,rfl,al,q⟩:=h;refine⟨_,(b_c (aC (bf (q_B (dX (K:=K) rfl) a5 aw (q_a (q_v 1) (q_a (cS a7 bq) ad)))) (b_c (aC (t_w (cA (bQ (bf (q_B (dX (K:=K) rfl) a5 aw (q_a (q_v 0) (q_a (cS a7 bq) ad))))) (cu (ax eJ (q_B bB a6 Zw (q_a (q_v 0) ad)) (q_B bB a6 Zw (q_a (q_v 1) ad)))))) (b_1 (aq dA)) b_0)
   (b_1 (aq (q_B (jn rfl) d6 dG (q_a (cK (own:=["_law_k"]) (⟨rfl,by decide +kernel,by decide +kernel,rfl,⟨rfl,rfl,⟨rfl,rfl,trivial⟩⟩⟩:CompOk _ _ [0,1] ["_law_found","_law_due"]) rfl (fc a9 (q_a (q_B bB a6 Zw (q_a (q_v 1) ad)) ad)) (fun _ _ _ _=>bp (i:=0) (show (["_law_k","_law_found","_law_due"]:List Str).Nodup by decide +kernel)) (bj (by decide)) (fun _ _ _ _=>du) (fun _ _ _ _=>(aI i4 (hr.mono (by omega)) (q_a (aE (ur (K:=K) rfl) (q_v 1) (q_v 0)) (q_a (aE (ur (K:=K) rfl) (q_v 2) (q_v 0)) ad))))) ad))))) b_0)
   (b_c (aC (ax jw (q_v 1) dj) (b_1 (aq (aV jw (q_v 0) dj))) b_0)
   (b_c (aC (bf (q_B (dX (K:=K) rfl) a5 aw (q_a (q_v 1) (q_a (cS c7 ce) ad)))) (b_1 (aq (bO (q_B (dX (K:=K) rfl) a5 aw (q_a (q_v 0) (q_a (cS c7 ce) ad))) (bP (aV aH (q_v 0) (q_v 1)))))) b_0)
   (b_1 (aq (bO (q_B (dX (K:=K) rfl) a5 aw (q_a (q_v 0) (q_a (cS b9 bK) ad))) (bO (aV aH (q_B (dX (K:=K) rfl) a5 aw (q_a (q_v 0) (q_a (cS d8 fZ) ad))) (q_B (dX (K:=K) rfl) a5 aw (q_a (q_v 1) (q_a (cS d8 fZ) ad)))) (bP (aV aH (q_v 0) (q_v 1)))))))))),?_⟩
 try rw[cxK]
 have tip:AlkF x y\/∃m,n=m+1/\∃(a b:Addr) (xs ys:List V),x=.ref a/\y=.ref b/\H a=some (.tup xs)/\H b=some (.tup ys)/\xs.length=ys.length/\xs.length<=100/\∀(i:Nat) (u v:V),xs[i]?=some u->ys[i]?=some v->Alk m H u v:=by
  cases n with
  |zero=>exact .inl al
  |succ m =>
   rcases al with h|h
   ·exact .inl h
   ·exact .inr ⟨m,rfl,h⟩
 rcases tip with h|⟨m,rfl,a,b,xs,ys,rfl,rfl,ea,eb,el,l1,hi⟩
 ·obtain⟨t,ty,nt⟩:=h.ty (K:=K) (H:=H);obtain⟨rfl,h⟩:=h;refine⟨_,rfl,x,.ty "tuple",.type "tuple",isT H x,rfl,dk,.inl ⟨_,ty,dI ty⟩,_,rfl,?_⟩;rw[nt];refine aD ?_;rcases h with e|⟨s,e⟩|⟨i,e⟩|⟨b,e⟩<;>subst e
  ·exact⟨_,rfl,rfl,_,rfl,gh rfl ⟨_,rfl,rfl,q _ (Same.refl _)⟩⟩
  ·refine⟨_,rfl,rfl,_,rfl,eR (by intro z;cases z) ?_⟩;refine⟨_,rfl,.str s,.ty "str",.type "str",true,rfl,dk,.inl ⟨_,.str s,fH (H:=H) (.str s)⟩,_,rfl,aK ?_⟩;refine⟨_,rfl,.str s,.ty "str",.type "str",true,rfl,dk,.inl ⟨_,.str s,fH (H:=H) (.str s)⟩,_,rfl,aK ?_⟩;refine⟨_,rfl,_,rfl,rfl,?_⟩;rw[decide_eq_true (rfl:V.str s=V.str s)];exact q _ (Same.refl _)
  ·refine⟨_,rfl,rfl,_,rfl,eR (by intro z;cases z) ?_⟩;refine⟨_,rfl,.int i,.ty "str",.type "str",false,rfl,dk,.inl ⟨_,.int i,fH (H:=H) (.int i)⟩,_,rfl,aD ?_⟩;refine⟨_,rfl,.int i,.ty "int",.type "int",true,rfl,dk,.inl ⟨_,.int i,lP (H:=H) (.int i)⟩,_,rfl,aK ?_⟩;refine⟨_,rfl,.int i,.ty "bool",.type "bool",false,rfl,dk,.inl ⟨_,.int i,eF (H:=H) (.int i)⟩,?_⟩;refine⟨_,rfl,.int i,.ty "bool",.type "bool",false,rfl,dk,.inl ⟨_,.int i,eF (H:=H) (.int i)⟩,?_⟩;refine⟨rfl,_,rfl,aK ?_⟩;refine⟨_,rfl,_,rfl,rfl,?_⟩;rw[decide_eq_true (rfl:V.int i=V.int i)];exact q _ (Same.refl _)
  ·refine⟨_,rfl,rfl,_,rfl,eR (by intro z;cases z) ?_⟩;refine⟨_,rfl,.bl b,.ty "str",.type "str",false,rfl,dk,.inl ⟨_,.bl b,fH (H:=H) (.bl b)⟩,_,rfl,aD ?_⟩;refine⟨_,rfl,.bl b,.ty "int",.type "int",true,rfl,dk,.inl ⟨_,.bl b,lP (H:=H) (.bl b)⟩,_,rfl,aK ?_⟩;refine⟨_,rfl,.bl b,.ty "bool",.type "bool",true,rfl,dk,.inl ⟨_,.bl b,eF (H:=H) (.bl b)⟩,?_⟩;refine⟨_,rfl,.bl b,.ty "bool",.type "bool",true,rfl,dk,.inl ⟨_,.bl b,eF (H:=H) (.bl b)⟩,?_⟩;refine⟨rfl,_,rfl,aK ?_⟩;refine⟨_,rfl,_,rfl,rfl,?_⟩;rw[decide_eq_true (rfl:V.bl b=V.bl b)];exact q _ (Same.refl _)
 ·have hm:=hsp m rfl;subst hm;refine⟨_,rfl,.ref b,.ty "tuple",.type "tuple",true,rfl,dk,.inl ⟨_,.tup eb,(dI (.tup eb)).trans (by rw[bD eb (b:=true) rfl])⟩,_,rfl,aK ?_⟩;refine⟨_,rfl,.ref a,.ty "tuple",.type "tuple",true,rfl,dk,.inl ⟨_,.tup ea,(dI (.tup ea)).trans (by rw[bD ea (b:=true) rfl])⟩,_,rfl,aD ?_⟩;refine⟨_,rfl,a,xs,rfl,.inr (SqT.of ea),_,rfl,b,ys,rfl,.inr (SqT.of eb),rfl,_,rfl,?_⟩;have e:decide (V.int (xs.length:Int)=V.int (ys.length:Int))=true:=decide_eq_true (by rw[el]);rw[e];refine aD ?_;refine⟨_,rfl,b,ys,rfl,.inr (SqT.of eb),_,rfl,by omega,by omega,?_⟩;rw[show(ys.length:Int).toNat=ys.length from Yf _];refine fu (N:=ys.length) (lo:=0) (fun _=>.bl true) (by omega) (fun i H1 hi1 s1 R k=>?_) (fun p H1 s1 g1=>?_)
  ·have hx:i<xs.length:=by omega
   refine⟨_,rfl,_,rfl,a,_,_,_,rfl,rfl,SqT.of (s1 _ _ ea),(by rw[Int.zero_add];exact bc (Za hx)),?_⟩;refine⟨_,rfl,_,rfl,b,_,_,_,rfl,rfl,SqT.of (s1 _ _ eb),(by rw[Int.zero_add];exact bc (Za hi1)),?_⟩;exact⟨_,_,rfl,(hi i _ _ (Za hx) (Za hi1)).same s1,fun H2 s2=>k H2 s2⟩
  ·refine⟨p,List.replicate ys.length true,rfl,SqL.of ?_,?_⟩
   ·rw[aa];refine ZT (fun l=>some (HO.lst l)) (List.ext_getElem (by simp) fun i h1 h2=>by simp)
   ·rw[show(List.replicate ys.length true).all id=true by simp];exact q _ (s1.trans (af g1 _))
theorem tu{f:Addr}{fd:FuncData}(F:Fun K "_law_alike" "_law_alike" gS f fd)(i4:Fn P w K mg base 1 "_law_alike" ["_law_found","_law_due"] ql)(a5:mg "isinstance" = none)(a7:mg "tuple" = none)(c7:mg "str" = none)(b9:mg "int" = none)(d8:mg "bool" = none)(a6:mg "len" = none)(d6:mg "all" = none)(a9:mg "range" = none):FnOk P w K mg base CX0 2 f fd ["_law_found","_law_due"] (jB 0) :=
 mF (fun _ z=>by cases z) F i4 a5 a7 c7 b9 d8 a6 d6 a9
theorem iU{k n:Nat}{f:Addr}{fd:FuncData}(F:Fun K "_law_alike" "_law_alike" gS f fd)(i4:Fn P w K mg base k "_law_alike" ["_law_found","_law_due"] (jB n))(a5:mg "isinstance" = none)(a7:mg "tuple" = none)(c7:mg "str" = none)(b9:mg "int" = none)(d8:mg "bool" = none)(a6:mg "len" = none)(d6:mg "all" = none)(a9:mg "range" = none):FnOk P w K mg base CX0 (k+1) f fd ["_law_found","_law_due"] (jB (n+1)) :=
 mF (fun m z=>by rw[show n=m by omega]) F i4 a5 a7 c7 b9 d8 a6 d6 a9
theorem blk:(" ":Str)=ch1 32:=by decide +kernel
def Sep(c:Nat):Prop:=c≠45/\(c<48\/57<c)
theorem bH(c:Nat)(ns:List Int):ai (ch1 c) ns=Str.join (ch1 c) (ns.map ag):=Ym _ _
theorem di{c:Nat}{ns:List Int}(hc:Sep c)(h:ns≠[]):Txt.split (ai (ch1 c) ns) (ch1 c)=ns.map ag:=by rw[bH];refine aR (fun z=>h (List.map_eq_nil_iff.mp z)) fun p hp hm=>?_;obtain⟨i,_,rfl⟩:=ZM.mp hp;have:=aQ i c hm;unfold Sep at hc;omega
structure LineOk(w0 w1 wd:Str)(ks:List Kd)(xs:List Str):Prop where
 b0:NoB w0
 b1:NoB w1
 b2:NoB wd
 dat:PyProof.Rows.KTD.datumAt wd DT=some (tw (ks.map nm))
 len:xs.length=ks.length
 l3:ks.length<=3
 bl:∀(i:Nat) (k:Kd) (x:Str),ks[i]?=some k->xs[i]?=some x->k≠.t->NoB x
 tl:∀i:Nat,ks[i]?=some .t->i+1=ks.length
 sz:(Txt.join " " (w0::w1::wd::xs)).length<=100000
theorem aX(i:Int):NoB (ag i):=fun h=>by have:=aQ i 32 h;omega
theorem eG(c:Nat)(hc:c≠32):∀ns:List Int,ns≠[]->NoB (ai (ch1 c) ns)
 | [],h=>absurd rfl h
 | [i],_=>aX i
 |i::j::ns,_=>fun h=>by
  rw[bH,ZH,ZH,cg]at h;rcases ZE.mp h with h|h
  ·exact aX i h
  ·rcases Zr.mp h with h|h
   ·exact hc h.symm
   ·refine eG c hc (j::ns) (by simp) ?_;rw[bH];exact h
theorem hJ{D:Dt14}{i:Nat}{k:Kd}{x:Str}(hk:D.ks[i]?=some k)(hx:D.xs[i]?=some x):∃d,D.ds[i]?=some d/\x=aS k d:=by
 unfold Dt14.xs at hx;rw[Z4,hk]at hx;cases e:D.ds[i]? with
 |none=>rw[e]at hx;cases hx
 |some d =>rw[e]at hx;exact⟨d,rfl,(Zo hx).symm⟩
theorem cP{D:Dt14}{hands:Int}(F:D.Fit hands):D.xs.length=D.ks.length:=by unfold Dt14.xs;rw[List.length_zipWith,F.len,Nat.min_self]
theorem mj{k:Kd}{d:Pd}(f:eg k d)(h:k≠.t):NoB (aS k d):=by
 cases k<;>cases d<;>first|exact f.elim|exact absurd rfl h|skip
 case u.non=>unfold NoB;decide +kernel
 case u.nm i j=>exact eG 46 (by decide) [i,j] (by simp)
 case i.nm i j=>exact eG 46 (by decide) [i,j] (by simp)
 case p.pl ns=>exact eG 47 (by decide) ns fun z=>by rw[z]at f;exact absurd f.1 (by decide)
 case b.bl b=>cases b<;>(unfold NoB;decide +kernel)
 case w.non=>unfold NoB;decide +kernel
 case w.nu i=>exact aX i
 case a.nu i=>exact aX i
 case n.nu i=>exact aX i
theorem hG{k:Kd}{d:Pd}(f:eg k d):(aS k d).length<=5000:=by
 cases k<;>cases d<;>first|exact f.elim|skip
 case u.non=>decide +kernel
 case u.nm i j=>exact cZ (cO f.2.2) (by decide +kernel) (by simp)
 case i.nm i j=>exact cZ (cO f.2.2) (by decide +kernel) (by simp)
 case p.pl ns=>exact cZ f.2.2 (by decide +kernel) f.2.1
 case t.tx s=>exact Zd f.2 (by decide)
 case b.bl b=>cases b<;>decide +kernel
 case w.non=>decide +kernel
 case w.nu i=>exact Zd f.2.len (by decide)
 case a.nu i=>exact Zd f.2.len (by decide)
 case n.nu i=>exact Zd f.2.len (by decide)
theorem cR{D:Dt14}{hands:Int}{w0:Str}(F:D.Fit hands)(b0:NoB w0)(l0:w0.length<=100):LineOk w0 (ai "," D.ns) D.wd D.ks D.xs:=by
 have hl:=cP F;have l3:=F.l3;have nl:=F.nl;have n1:=F.n1;have n8:=F.n8;have nne:D.ns≠[]:=fun z=>by rw[z]at nl;simp at nl;omega
 refine⟨b0,eG 44 (by decide) D.ns nne,F.b2,F.dat,hl,l3,fun i k x hk hx ht=>?_,F.tl,?_⟩
 ·obtain⟨d,hd,rfl⟩:=hJ hk hx;exact mj (F.fit i k d hk hd) ht
 ·have jl:=eA " " (w0::ai "," D.ns::D.wd::D.xs);have n5:(ai "," D.ns).length<=5000:=cZ (fun n hn=>(F.nn n hn).2) (by decide +kernel) (by omega);have wl:=F.wl;have e1:(" ":Str).length=1:=by decide +kernel
  have sx:(D.xs.map (·.length)).sum<=D.xs.length*5000:=by
   have:∀l:List Str,(∀x∈l,x.length<=5000)->(l.map (·.length)).sum<=l.length*5000:=fun l=>by
    induction l with
    |nil=>intro _;simp
    |cons a l ih =>intro h;have:=ih fun x hx=>h x (Zt _ hx);have:=h a Zu;simp only[ZH,Yj,Zq];omega
   refine this _ fun x hx=>?_;obtain⟨i,hi,rfl⟩:=Z3 hx;have hk:i<D.ks.length:=by omega
   obtain⟨d,hd,e⟩:=hJ (Za hk) (Za hi);rw[e];exact hG (F.fit i _ d (Za hk) hd)
  simp only[ZH,Yj,Zq,e1]at jl;omega
theorem LineOk.txt{w0 w1 wd:Str}{ks:List Kd}{xs:List Str}(L:LineOk w0 w1 wd ks xs):(∃r,Txt.split (Txt.join " " (w0::w1::wd::xs)) " " = w0::w1::wd::r)/\ptd (Txt.join " " (w0::w1::wd::xs)) (HCW++ks.map nm)=w0::w1::wd::xs:=by
 have ej:Txt.join " " (w0::w1::wd::xs)=Str.join (ch1 32) (w0::w1::wd::xs):=by rw[blk];exact Ym _ _
 have nobs:∀i x,(w0::w1::wd::xs)[i]?=some x->(∀j,i=j+3->ks[j]?≠some .t)->NoB x:=fun i x hx hn=>by
  match i,hx,hn with
  |0,hx,_=>cases hx;exact L.b0
  |1,hx,_=>cases hx;exact L.b1
  |2,hx,_=>cases hx;exact L.b2
  |i+3,hx,hn =>
   have hx':xs[i]?=some x:=hx;have hi':i<ks.length:=by rw[<-L.len];exact(Zf.mp hx').1
   exact L.bl i ks[i] x (Za hi') hx' fun z=>hn i rfl (by rw[Za hi',z])
 refine⟨?_,?_⟩
 ·rw[ej,blk,cH L.b0 (by simp),cH L.b1 (by simp)];cases xs with
  |nil=>exact⟨[],by rw[aR (by simp) (fun p hp=>by rw[Ze.mp hp];exact L.b2)]⟩
  |cons x xs=>exact⟨_,by rw[cH L.b2 (by simp)]⟩
 ·have lh:(HCW++ks.map nm).length=3+ks.length:=by rw[Zh,z6];rfl
  have ll:(w0::w1::wd::xs).length=3+ks.length:=by simp only[Zq];rw[L.len];omega
  unfold ptd;by_cases c:(HCW++ks.map nm).getLast?=some ("text":Str)
  ·rw[BK c,ej];obtain⟨pre,t,e⟩:∃pre t,w0::w1::wd::xs=pre++[t]:=⟨(w0::w1::wd::xs).dropLast,(w0::w1::wd::xs).getLast (by simp),(Ys _).symm⟩
   have lp:pre.length+1=3+ks.length:=by rw[<-ll,e,Zh];rfl
   rw[show((HCW++ks.map nm).length:Int)-1=(pre.length:Int) by rw[lh];omega,blk,e];refine mZ fun p hp=>?_;obtain⟨i,hi,rfl⟩:=Z3 hp;refine nobs i _ (by rw[e,Z2 hi,Za hi]) fun j ej' hj=>?_;have:=L.tl j hj;omega
  ·rw[BJ c,ej,blk];refine aR (by simp) fun p hp=>?_;obtain⟨i,hi,rfl⟩:=Z3 hp;refine nobs i _ (Za hi) fun j ej' hj=>c ?_;have tl:=L.tl j hj;have hj':j<ks.length:=(Zf.mp hj).1;rw[List.getLast?_append,List.getLast?_map,Yd,show ks.length-1=j by omega,hj];rfl
def cn:Pd->Pd
 |.nm i j=>.pl [i,j]
 |d=>d
theorem wg{H:Hp}{v:V}{d:Pd}(h:PdAt H v (cn d)):PdAt H v d:=by cases d<;>exact h
theorem bb{i:Int}(h:Sm i):Asc (ag i):=⟨Zd h.len (by decide),so (aQ i)⟩
theorem cb{ns:List Int}(h:∀n∈ns,Sm n):bU (ns.map ag)=true/\(ns.map ag).map dz=ns:=by
 refine⟨?_,?_⟩
 ·unfold bU;rw[Zx];intro p hp;obtain⟨n,hn,rfl⟩:=ZM.mp hp;exact cE (h n hn)
 ·rw[List.map_map]
  conv=>rhs;rw[<-List.map_id ns]
  exact List.map_congr_left fun n hn=>dJ (h n hn)
theorem fY{c:Nat}{ns:List Int}(hc:Sep c)(h:ns≠[])(hs:∀n∈ns,Sm n)(hl:ns.length<=65):WdN c (ai (ch1 c) ns):=by unfold WdN;rw[di hc h];refine⟨Zd (cZ (sep:=ch1 c) hs (Zg 1) hl) (by decide),by rw[z6];omega,fun p hp=>?_⟩;obtain⟨n,hn,rfl⟩:=ZM.mp hp;exact bb (hs n hn)
theorem jV{c:Nat}{ns:List Int}(hc:Sep c)(h:ns≠[])(hs:∀n∈ns,Sm n):cF c (ai (ch1 c) ns)=some (.pl ns):=by unfold cF;rw[di hc h,(cb hs).1,(cb hs).2];rfl
theorem gw:Sep 46:=by unfold Sep;decide
theorem nr:Sep 47:=by unfold Sep;decide
theorem iF:Sep 44:=by unfold Sep;decide
theorem lQ{i:Int}(h:Sm i):eH (ag i)=some (.nu i):=by unfold eH;rw[BK (cE h),dJ h]
theorem lU{k:Kd}{d:Pd}(f:eg k d):prs k (aS k d)=some (cn d)/\WdP k (aS k d):=by
 cases k<;>cases d<;>first|exact f.elim|skip
 case u.non =>have e:Txt.split "top" (ch1 46)=[("top":Str)]:=aR (c:=46) (l:=[("top":Str)]) (by simp) (by decide +kernel);refine⟨rfl,?_⟩;show WdN 46 "top";unfold WdN;rw[e];exact⟨by decide +kernel,by decide,fun p hp=>by rw[Ze.mp hp];exact⟨by decide +kernel,by decide +kernel⟩⟩
 case u.nm i j =>
  refine⟨?_,fY gw (ns:=[i,j]) (by simp) (cO f.2.2) (by simp)⟩;show(if ai "." [i,j]="top" then some Pd.non else cF 46 (ai "." [i,j]))=_;rw[BJ ?_]
  ·exact jV gw (ns:=[i,j]) (by simp) (cO f.2.2)
  ·intro z;have h:(46:Nat)∈(ai "." [i,j]).cps.toList:=by rw[show ai "." [i,j]=Str.join (ch1 46) [ag i,ag j]from bH 46 [i,j],cg];simp
   rw[z]at h;revert h;decide +kernel
 case i.nm i j=>exact⟨jV gw (ns:=[i,j]) (by simp) (cO f.2.2),fY gw (ns:=[i,j]) (by simp) (cO f.2.2) (by simp)⟩
 case p.pl ns =>
  have ne:ns≠[]:=fun z=>by rw[z]at f;exact absurd f.1 (by decide)
  exact⟨jV nr ne f.2.2,fY nr ne f.2.2 f.2.1⟩
 case t.tx s=>exact⟨rfl,trivial⟩
 case b.bl b =>
  refine⟨?_,trivial⟩;show(if iK (if b then"yes" else"no")then some (Pd.bl (decide ((if b then("yes":Str)else"no")="yes")))else none)=some (Pd.bl b);cases b with
  |true=>rw[BK (by decide +kernel),show decide ((if true=true then("yes":Str)else"no")="yes")=true by decide +kernel]
  |false=>rw[BK (by decide +kernel),show decide ((if false=true then("yes":Str)else"no")="yes")=false by decide +kernel]
 case w.non=>exact⟨rfl,by show Asc "nobody";exact⟨by decide +kernel,by decide +kernel⟩⟩
 case w.nu i =>
  refine⟨?_,bb f.2⟩;show(if ag i="nobody" then some Pd.non else eH (ag i))=_;rw[BJ ?_]
  ·exact lQ f.2
  ·intro z;have h:=aQ i 110;rw[z]at h;exact absurd (h (by decide +kernel)) (by decide)
 case a.nu i=>exact⟨lQ f.2,bb f.2⟩
 case n.nu i=>exact⟨lQ f.2,bb f.2⟩
theorem fT:∀{ks:List Kd} {ds:List Pd},ds.length=ks.length->(∀(i:Nat) (k:Kd) (d:Pd),ks[i]?=some k->ds[i]?=some d->eg k d)->cw ks (List.zipWith aS ks ds)=some (ds.map cn)
 | [],[],_,_=>rfl
 |k::ks,d::ds,hl,f=>by show((prs k (aS k d)).bind fun d=>(cw ks (List.zipWith aS ks ds)).map fun ds=>d::ds)=_;rw[(lU (f 0 k d rfl rfl)).1,fT (ks:=ks) (ds:=ds) (Nat.succ.inj hl) fun i k d a b=>f (i+1) k d a b];rfl
 | [],_::_,h,_=>by cases h
 |_::_,[],h,_=>by cases h
theorem mH{K:PySem.W.Frag}{D:Dt14}{hands:Int}(F:D.Fit hands):RdR K hands (cq (ag D.h) D) (if eQ hands D then some (dOf (ag D.h) (ai "," D.ns) D.wd D.ks (D.ds.map cn))else none):=by
 have nl:=F.nl;have n1:=F.n1;have n8:=F.n8;have nne:D.ns≠[]:=fun z=>by rw[z]at nl;simp at nl;omega
 have sm:∀n∈D.ns,Sm n:=fun n hn=>(F.nn n hn).2;have L:=cR F (aX D.h) (Zd F.hs.len (by decide));obtain⟨sp,pt⟩:=L.txt;have ck:clk (ai "," D.ns)=D.ns.map ag:=di iF nne;refine .deed (ag D.h) (ai "," D.ns) D.wd D.ks D.xs (D.ds.map cn) (eQ hands D) ⟨sp,F.dat,F.l3,cP F,pt,bb F.hs,fY iF nne sm (by omega),fun i k p hk hp=>?_⟩ (cE F.hs) (by rw[ck];exact(cb sm).1) (fT F.len F.fit) fun H v da=>?_
 ·obtain⟨d,hd,rfl⟩:=hJ hk hp;exact(lU (F.fit i k d hk hd)).2
 ·refine DeedAt.deedR (D:=D) ?_ F;obtain⟨d,c,t,ps,rfl,h2,h3,h4,h5,h6⟩:=da;refine⟨d,c,t,ps,rfl,?_,?_,h4,?_,fun i p x a b=>wg (h6 i p (cn x) a ?_)⟩
  ·have:(dOf (ag D.h) (ai "," D.ns) D.wd D.ks (D.ds.map cn)).h=D.h:=dJ F.hs;rw[this]at h2;exact h2
  ·have:(dOf (ag D.h) (ai "," D.ns) D.wd D.ks (D.ds.map cn)).ns=D.ns:=by show(clk (ai "," D.ns)).map dz=D.ns;rw[ck];exact(cb sm).2
   rw[this]at h3;exact h3
  ·have:(dOf (ag D.h) (ai "," D.ns) D.wd D.ks (D.ds.map cn)).ds.length=D.ds.length:=by show(D.ds.map cn).length=_;rw[z6]
   rw[h5,this]
  ·show(D.ds.map cn)[i]?=some (cn x);rw[ZB,b];rfl
theorem ot{x:Str}{c:Nat}(h:c∈x.cps.toList)(h1:c≠45)(h2:c<48\/57<c):bw x.cps.toList=false:=by refine ZQ.mpr fun z=>?_;obtain⟨i,rfl,_⟩:=oq z;have:=aQ i c h;omega
theorem gi{s:Str}{c:Nat}:∀{l:List Str},c∈(Str.join s l).cps.toList->c∈s.cps.toList\/∃p∈l,c∈p.cps.toList
 | [],h=>by have h:c∈([]:List Nat):=h;cases h
 | [a],h=>.inr ⟨a,Ze.mpr rfl,h⟩
 |a::b::l,h=>by
  have h:c∈(a++s++Str.join s (b::l)).cps.toList:=h;rw[aM,aM]at h;rcases ZE.mp h with h|h
  ·rcases ZE.mp h with h|h
   ·exact .inr ⟨a,Zu,h⟩
   ·exact .inl h
  ·rcases gi h with h|⟨p,hp,h⟩
   ·exact .inl h
   ·exact .inr ⟨p,Zt _ hp,h⟩
theorem pM{x:Str}{c d:Nat}(h:d∈x.cps.toList)(hc:d≠c)(h1:d≠45)(h2:d<48\/57<d):bU (Txt.split x (ch1 c))=false:=by
 refine ZQ.mpr fun z=>?_;have e:Str.join (ch1 c) (Txt.split x (ch1 c))=x:=Yv x _;rw[<-e]at h;rcases gi h with h|⟨p,hp,h⟩
 ·have:d=c:=by have h:d∈[c]:=h;exact Ze.mp h
  exact hc this
 ·unfold bU at z;rw[Zx]at z;exact absurd (z p hp) (by rw[ot h h1 h2];exact Zi)
theorem eI(i:Int):bw (("0":Str)++ag i).cps.toList=false:=by
 by_cases c:0<=i
 ·rw[aM];exact xg c
 ·have e:=cD (i:=i) (by omega);refine ZQ.mpr fun z=>?_;obtain⟨j,ej,_⟩:=oq z;have e1:(("0":Str)++ag i).cps.toList=48::45::dg i.natAbs:=by rw[aM,e];rfl
  rw[ej]at e1;by_cases cj:0<=j
  ·rw[cC cj]at e1;have:=gM j.toNat 45 (by rw[e1];simp);omega
  ·rw[cD (by omega)]at e1;cases e1
theorem iu{s y a:Str}{r:List Str}:y++Str.join s (a::r)=Str.join s ((y++a)::r):=by
 cases r with
 |nil=>rfl
 |cons b r =>refine bM ?_;show(y++(a++s++Str.join s (b::r))).cps.toList=((y++a)++s++Str.join s (b::r)).cps.toList;simp only[aM,Yy]
theorem iN{c:Nat}{ns:List Int}(hc:Sep c)(hne:ns≠[]):bU (Txt.split (("0":Str)++ai (ch1 c) ns) (ch1 c))=false:=by
 cases ns with
 |nil=>exact absurd rfl hne
 |cons n ns =>
  rw[bH,ZH,iu,aR (by simp) (fun p hp hm=>?_)]
  ·unfold bU;rw[Ya,eI];rfl
  ·rcases Zr.mp hp with rfl|hp
   ·rw[aM]at hm;rcases ZE.mp hm with hm|hm
    ·have:c=48:=by have hm:c∈[48]:=hm;exact Ze.mp hm
     unfold Sep at hc;omega
    ·have:=aQ n c hm;unfold Sep at hc;omega
   ·obtain⟨i,_,rfl⟩:=ZM.mp hp;have:=aQ i c hm;unfold Sep at hc;omega
theorem iO{x:Str}{t:TV}:∀{L:List (Str×TV)},PyProof.Rows.KTD.datumAt x L=some t->x∈L.map Prod.fst
 | [],h=>by cases h
 |(y,d)::L,h=>by
  unfold PyProof.Rows.KTD.datumAt at h;by_cases c:x=y
  ·rw[c];exact Zu
  ·rw[BJ (by rw[decide_eq_false c];exact Zi)]at h;exact Zt _ (iO h)
theorem vY{x:Str}{t:TV}(h:PyProof.Rows.KTD.datumAt x DT=some t):∀c∈x.cps.toList,97<=c/\c<=122:=by
 have k:∀x∈DT.map Prod.fst,∀c∈x.cps.toList,97<=c/\c<=122:=by decide +kernel
 exact k x (iO h)
theorem pY{x:Str}{c:Nat}(h:c∈x.cps.toList)(hc:c<97\/122<c):PyProof.Rows.KTD.datumAt x DT=none:=by
 cases e:PyProof.Rows.KTD.datumAt x DT with
 |none=>rfl
 |some t =>have:=vY e c h;omega
theorem jI{c:Nat}{ns:List Int}(h:ns≠[]):PyProof.Rows.KTD.datumAt (ai (ch1 c) ns) DT=none:=by
 cases ns with
 |nil=>exact absurd rfl h
 |cons n ns =>
  have m:∃d∈(ag n).cps.toList,d=45\/(48<=d/\d<=57):=by
   cases e:(ag n).cps.toList with
   |nil =>
    by_cases c0:0<=n
    ·rw[cC c0]at e;exact absurd e (ie _)
    ·rw[cD (by omega)]at e;cases e
   |cons d r=>exact⟨d,Zu,aQ n d (by rw[e];exact Zu)⟩
  obtain⟨d,hd,hs⟩:=m;refine pY (c:=d) ?_ (by omega);rw[bH,ZH];cases ns with
  |nil=>exact hd
  |cons k ns =>show d∈(ag n++ch1 c++Str.join (ch1 c) (ag k::ns.map ag)).cps.toList;rw[aM,aM];simp[hd]
theorem vE{k:Kd}{d:Pd}(f:eg k d)(h:k≠.t):prs k (("0":Str)++aS k d)=none:=by
 have nl:∀{x y:Str} {c:Nat},c∉y.cps.toList->c∈x.cps.toList->x≠y:=fun h1 h2 z=>h1 (z▸h2);have z0:∀x:Str,(48:Nat)∈(("0":Str)++x).cps.toList:=fun x=>by rw[aM];exact Zu
 have nz:∀{c:Nat} {x:Str},bU (Txt.split x (ch1 c))=false->cF c x=none:=fun h=>by unfold cF;rw[h];rfl
 have n1:∀{x:Str},bw x.cps.toList=false->eH x=none:=fun h=>by unfold eH;rw[h];rfl
 cases k<;>cases d<;>first|exact f.elim|exact absurd rfl h|skip
 case u.non =>show(if(("0":Str)++"top")="top" then some Pd.non else cF 46 (("0":Str)++"top"))=none;rw[BJ (by decide +kernel)];exact nz (pM (d:=116) (by decide +kernel) (by decide) (by decide) (by decide))
 case u.nm i j =>show(if(("0":Str)++ai "." [i,j])="top" then some Pd.non else cF 46 (("0":Str)++ai "." [i,j]))=none;rw[BJ (nl (c:=48) (by decide +kernel) (z0 _))];exact nz (iN gw (ns:=[i,j]) (by simp))
 case i.nm i j=>exact nz (iN gw (ns:=[i,j]) (by simp))
 case p.pl ns=>exact nz (iN nr fun z=>by rw[z]at f;exact absurd f.1 (by decide))
 case b.bl b =>show(if iK (("0":Str)++(if b then("yes":Str)else("no":Str)))then some (Pd.bl (decide ((("0":Str)++(if b then("yes":Str)else("no":Str)))="yes")))else none)=none;cases b<;>exact BJ (by decide +kernel)
 case w.non =>show(if(("0":Str)++"nobody")="nobody" then some Pd.non else eH (("0":Str)++"nobody"))=none;rw[BJ (by decide +kernel)];exact n1 (ot (c:=110) (by decide +kernel) (by decide) (by decide))
 case w.nu i =>show(if(("0":Str)++ag i)="nobody" then some Pd.non else eH (("0":Str)++ag i))=none;rw[BJ (nl (c:=48) (by decide +kernel) (z0 _))];exact n1 (eI i)
 case a.nu i=>exact n1 (eI i)
 case n.nu i=>exact n1 (eI i)
theorem fM{K:PySem.W.Frag}{hands:Int}{w0 w1 wd:Str}{ks:List Kd}{xs:List Str}(L:LineOk w0 w1 wd ks xs)(a0:Asc w0)(a1:WdN 44 w1)(ap:∀(i:Nat) (k:Kd) (p:Str),ks[i]?=some k->xs[i]?=some p->WdP k p)(h:bw w0.cps.toList=false\/bU (clk w1)=false\/cw ks xs=none):RdR K hands (Txt.join " " (w0::w1::wd::xs)) none :=
 .bad w0 w1 wd ks xs ⟨L.txt.1,L.dat,L.l3,L.len,L.txt.2,a0,a1,ap⟩ h
theorem hX{K:PySem.W.Frag}{hands:Int}{x w0 w1 wd:Str}{r:List Str}(h:Txt.split x " " = w0::w1::wd::r)(h1:PyProof.Rows.KTD.datumAt wd DT=none):RdR K hands x none:=.words (.word w0 w1 wd r h h1)
theorem txj(l:List Str):Txt.join " " l=Str.join (ch1 32) l:=by rw[blk];exact Ym _ _
theorem lq{a b c:Str}{xs:List Str}(ha:NoB a)(hb:NoB b)(hc:NoB c):∃r,Txt.split (Txt.join " " (a::b::c::xs)) " " = a::b::c::r:=by
 rw[txj,blk,cH ha (by simp),cH hb (by simp)];cases xs with
 |nil=>exact⟨[],by rw[aR (by simp) (fun p hp=>by rw[Ze.mp hp];exact hc)]⟩
 |cons x xs=>exact⟨_,by rw[cH hc (by simp)]⟩
theorem qR:NoB "":=by unfold NoB;decide +kernel
theorem jv{x y:Str}(h1:NoB x)(h2:NoB y):NoB (x++y):=fun h=>by
 rw[aM]at h;rcases ZE.mp h with h|h
 ·exact h1 h
 ·exact h2 h
theorem dE{l:List Str}(h:∀x∈l,x.length<=6000)(hl:l.length<=12):(Txt.join " " l).length<=100000:=by
 have jl:=eA " " l;have e1:(" ":Str).length=1:=rfl;have sx:∀l:List Str,(∀x∈l,x.length<=6000)->(l.map (·.length)).sum<=l.length*6000:=fun l=>by
  induction l with
  |nil=>intro _;simp
  |cons a l ih =>intro h;have:=ih fun x hx=>h x (Zt _ hx);have:=h a Zu;simp only[ZH,Yj,Zq];omega
 have:=sx l h;rw[e1]at jl;omega
section
variable{D:Dt14}{hands:Int}
theorem Dt14.Fit.lens(F:D.Fit hands):(ai "," D.ns).length<=5000/\∀x∈D.xs,x.length<=5000:=by
 refine⟨cZ (fun n hn=>(F.nn n hn).2) (by decide +kernel) (by have:=F.nl;have:=F.n8;omega),fun x hx=>?_⟩;obtain⟨i,hi,rfl⟩:=Z3 hx;have hk:i<D.ks.length:=by rw[<-cP F];exact hi
 obtain⟨d,hd,e⟩:=hJ (Za hk) (Za hi);rw[e];exact hG (F.fit i _ d (Za hk) hd)
theorem Dt14.Fit.sz(F:D.Fit hands){a b c:Str}{xs:List Str}(h0:a.length<=6000)(h1:b.length<=6000)(h2:c.length<=6000)(hx:∀x∈xs,x.length<=6000)(hl:xs.length<=6):(Txt.join " " (a::b::c::xs)).length<=100000:=by
 refine dE (fun x hm=>?_) (by simp only[Zq];omega);simp only[Zr]at hm;rcases hm with rfl|rfl|rfl|hm
 ·exact h0
 ·exact h1
 ·exact h2
 ·exact hx x hm
theorem Dt14.Fit.ne(F:D.Fit hands):D.ns≠[]:=fun z=>by have nl:=F.nl;have n1:=F.n1;rw[z]at nl;simp at nl;omega
theorem Dt14.Fit.sm(F:D.Fit hands):∀n∈D.ns,Sm n:=fun n hn=>(F.nn n hn).2
theorem Dt14.Fit.nob1(F:D.Fit hands):NoB (ai "," D.ns):=eG 44 (by decide) D.ns F.ne
theorem Dt14.Fit.wd1(F:D.Fit hands):WdN 44 (ai "," D.ns):=fY iF F.ne F.sm (by have:=F.nl;have:=F.n8;omega)
theorem Dt14.Fit.wdp(F:D.Fit hands):∀(i:Nat) (k:Kd) (p:Str),D.ks[i]?=some k->D.xs[i]?=some p->WdP k p:=fun i k p hk hp=>by obtain⟨d,hd,rfl⟩:=hJ hk hp;exact(lU (F.fit i k d hk hd)).2
theorem lM(F:D.Fit hands){y:Str}(hy:NoB y)(ly:y.length<=1)(ay:y.cps.all (·<128)=true)(hn:bw (y++ag D.h).cps.toList=false):RdR K hands (y++cq (ag D.h) D) none:=by
 have e:y++cq (ag D.h) D=Txt.join " " ((y++ag D.h)::ai "," D.ns::D.wd::D.xs):=by unfold cq;rw[txj,txj,iu]
 have l1:=F.hs.len;have ll:(y++ag D.h).length<=63:=by rw[ZD];omega
 rw[e];refine fM (cR F (jv hy (aX _)) (Zd ll (by decide))) ⟨Zd ll (by decide),?_⟩ F.wd1 F.wdp (.inl hn);rw[<-ZP,aM,Yp,ZP,ZP,ay,(bb F.hs).2];rfl
theorem AR(F:D.Fit hands):RdR K hands (("0":Str)++cq (ag D.h) D) none:=lM F (by unfold NoB;decide +kernel) (by decide +kernel) (by decide +kernel) (eI D.h)
theorem AT(F:D.Fit hands):RdR K hands (("+":Str)++cq (ag D.h) D) none:=lM F (by unfold NoB;decide +kernel) (by decide +kernel) (by decide +kernel) (ot (c:=43) (by rw[aM];exact Zu) (by decide) (by decide))
theorem AS(F:D.Fit hands):RdR K hands ((" ":Str)++cq (ag D.h) D) none:=by
 have e:(" ":Str)++cq (ag D.h) D=Txt.join " " (""::ag D.h::ai "," D.ns::D.wd::D.xs):=by unfold cq;rw[txj,txj];refine bM ?_;show((" ":Str)++Str.join (ch1 32) (ag D.h::ai "," D.ns::D.wd::D.xs)).cps.toList=(("":Str)++ch1 32++Str.join (ch1 32) (ag D.h::ai "," D.ns::D.wd::D.xs)).cps.toList;rw[aM,aM,aM];rfl
 rw[e];obtain⟨r,hr⟩:=lq (xs:=D.wd::D.xs) qR (aX D.h) F.nob1;exact hX hr (jI F.ne)
theorem AV(F:D.Fit hands):RdR K hands (Txt.join " " (ag D.h::""::ai "," D.ns::D.wd::D.xs)) none:=by obtain⟨r,hr⟩:=lq (xs:=D.wd::D.xs) (aX D.h) qR F.nob1;exact hX hr (jI F.ne)
theorem AW(F:D.Fit hands):RdR K hands (Txt.join " " (ag D.h::ai "," D.ns::""::D.wd::D.xs)) none:=by obtain⟨r,hr⟩:=lq (xs:=D.wd::D.xs) (aX D.h) F.nob1 qR;exact hX hr (by decide +kernel)
theorem uS(F:D.Fit hands){y:Str}{c:Nat}(hy:NoB y)(hc:c∈y.cps.toList)(h1:c<97\/122<c):RdR K hands (Txt.join " " (ag D.h::ai "," D.ns::y::D.xs)) none:=by obtain⟨r,hr⟩:=lq (xs:=D.xs) (aX D.h) F.nob1 hy;exact hX hr (pY hc h1)
theorem mB(F:D.Fit hands){y:Str}(hy:NoB y)(wy:WdN 44 (ai "," D.ns++y))(ly:y.length<=10)(h:bU (clk (ai "," D.ns++y))=false):RdR K hands (Txt.join " " (ag D.h::(ai "," D.ns++y)::D.wd::D.xs)) none:=by have L:=cR F (aX D.h) (Zd F.hs.len (by decide));have lw:=wy.1;refine fM ⟨L.b0,jv F.nob1 hy,L.b2,L.dat,L.len,L.l3,L.bl,L.tl,?_⟩ (bb F.hs) wy F.wdp (.inr (.inl h));obtain⟨n1,n2⟩:=F.lens;have l3:=F.l3;have xl:=cP F;exact F.sz (Zd F.hs.len (by decide)) (by rw[ZD];omega) (Zd F.wl (by decide)) (fun x hx=>Zd (n2 x hx) (by decide)) (by omega)
theorem jh{s a:Str}:∀{l:List Str},l≠[]->Str.join s l++(s++a)=Str.join s (l++[a])
 | [],h=>absurd rfl h
 | [b],_=>by refine bM ?_;show(b++(s++a)).cps.toList=(b++s++a).cps.toList;simp only[aM,Yy]
 |b::c::l,_=>by have ih:=jh (s:=s) (a:=a) (l:=c::l) (by simp);refine bM ?_;show((b++s++Str.join s (c::l))++(s++a)).cps.toList=(b++s++Str.join s (c::l++[a])).cps.toList;rw[<-ih];simp only[aM,Yy]
theorem nL{ns:List Int}{a:Str}(h:ns≠[])(ha:(44:Nat)∉a.cps.toList):clk (ai "," ns++((",":Str)++a))=ns.map ag++[a]:=by
 unfold clk;rw[show ai "," ns=Str.join (ch1 44) (ns.map ag)from bH 44 ns,show((",":Str)++a)=ch1 44++a from rfl,jh (fun z=>h (List.map_eq_nil_iff.mp z)),aR (by simp) fun p hp hm=>?_];rcases ZE.mp hp with hp|hp
 ·obtain⟨i,_,rfl⟩:=ZM.mp hp;have:=aQ i 44 hm;omega
 ·rw[Ze.mp hp]at hm;exact ha hm
theorem AY(F:D.Fit hands):RdR K hands (Txt.join " " (ag D.h::(ai "," D.ns++",")::D.wd::D.xs)) none:=by
 have e:ai "," D.ns++(",":Str)=ai "," D.ns++((",":Str)++""):=by refine bM ?_;simp only[aM];rw[show("":Str).cps.toList=[]from rfl,List.append_nil]
 have ck:=nL (a:="") F.ne (by decide +kernel);rw[<-e]at ck;have n8:=F.n8;have nl:=F.nl;refine mB F (by unfold NoB;decide +kernel) ⟨?_,?_,?_⟩ (by decide +kernel) ?_
 ·have:=F.lens.1;rw[ZD,show(",":Str).length=1 from rfl];omega
 ·show(clk (ai "," D.ns++",")).length<=1000;rw[ck,Zh,z6,Zn];omega
 ·show∀p∈clk (ai "," D.ns++","),Asc p;rw[ck];intro p hp;rcases ZE.mp hp with hp|hp
  ·obtain⟨n,hn,rfl⟩:=ZM.mp hp;exact bb (F.sm n hn)
  ·rw[Ze.mp hp];exact⟨by decide +kernel,by decide +kernel⟩
 ·rw[ck];unfold bU;rw[Yp,show([("":Str)].all fun p=>bw p.cps.toList)=false by decide +kernel,Bool.and_false]
end
theorem iR{s y a:Str}:∀{l:List Str},Str.join s (l++[a])++y=Str.join s (l++[a++y])
 | []=>rfl
 | [b]=>by refine bM ?_;show((b++s++a)++y).cps.toList=(b++s++(a++y)).cps.toList;simp only[aM,Yy]
 |b::c::l=>by have ih:=iR (s:=s) (y:=y) (a:=a) (l:=c::l);refine bM ?_;show((b++s++Str.join s (c::l++[a]))++y).cps.toList=(b++s++Str.join s (c::l++[a++y])).cps.toList;rw[<-ih];simp only[aM,Yy]
theorem sY{c:Nat}{ns:List Int}{y:Str}(hc:Sep c)(h:ns≠[])(hy:c∉y.cps.toList):∃(pre:List Int) (n:Int),ns=pre++[n]/\Txt.split (ai (ch1 c) ns++y) (ch1 c)=pre.map ag++[ag n++y]:=by
 refine⟨ns.dropLast,ns.getLast h,(Ys h).symm,?_⟩;have e:ns.map ag=ns.dropLast.map ag++[ag (ns.getLast h)]:=by
  conv=>lhs;rw[<-Ys h]
  rw[ZO];rfl
 rw[bH,e,iR,aR (by simp) fun p hp hm=>?_];have sg:∀i:Int,c∉(ag i).cps.toList:=fun i hm=>by have:=aQ i c hm;unfold Sep at hc;omega
 rcases ZE.mp hp with hp|hp
 ·obtain⟨i,_,rfl⟩:=ZM.mp hp;exact sg i hm
 ·rw[Ze.mp hp,aM]at hm;rcases ZE.mp hm with hm|hm
  ·exact sg _ hm
  ·exact hy hm
theorem wU{i:Int}{y:Str}(h:Sm i)(ly:y.length<=100)(ay:y.cps.all (·<128)=true):Asc (ag i++y):=by have:=h.len;refine⟨by rw[ZD];omega,?_⟩;rw[<-ZP,aM,Yp,ZP,ZP,ay,(bb h).2];rfl
theorem vW{c:Nat}{ns:List Int}{y:Str}(hc:Sep c)(h:ns≠[])(hs:∀n∈ns,Sm n)(hl:ns.length<=65)(hy:c∉y.cps.toList)(ly:y.length<=100)(ay:y.cps.all (·<128)=true):WdN c (ai (ch1 c) ns++y):=by
 obtain⟨pre,n,e,es⟩:=sY hc h hy;have ln:(ai (ch1 c) ns).length<=5000:=cZ (sep:=ch1 c) hs (Zg 1) hl;unfold WdN;rw[es];refine⟨by rw[ZD];omega,?_,fun p hp=>?_⟩
 ·rw[Zh,z6,Zn];have:=ZT List.length e;rw[Zh,Zn]at this;omega
 ·rcases ZE.mp hp with hp|hp
  ·obtain⟨m,hm,rfl⟩:=ZM.mp hp;exact bb (hs m (by rw[e];exact List.mem_append_left _ hm))
  ·rw[Ze.mp hp];exact wU (hs n (by rw[e];simp)) ly ay
section
variable{D:Dt14}{hands:Int}
theorem AZ(F:D.Fit hands):RdR K hands (Txt.join " " (ag D.h::(ai "," D.ns++"/0")::D.wd::D.xs)) none:=by have n8:=F.n8;have nl:=F.nl;refine mB F (by unfold NoB;decide +kernel) (vW (c:=44) iF F.ne F.sm (by omega) (by decide +kernel) (by decide +kernel) (by decide +kernel)) (by decide +kernel) ?_;exact pM (c:=44) (d:=47) (by rw[aM];exact ZF _ (by decide +kernel)) (by decide) (by decide) (by decide)
theorem AU(F:D.Fit hands):RdR K hands (("-":Str)++cq (ag D.h) D) none:=by
 by_cases c:D.h=0
 ·refine lM F (by unfold NoB;decide +kernel) (by decide +kernel) (by decide +kernel) ?_;rw[c];decide +kernel
 have h0:=F.h0;have ei:("-":Str)++ag D.h=ag (-D.h):=by refine bM ?_;rw[aM,cC h0,cD (by omega),show(-D.h).natAbs=D.h.toNat by omega];rfl
 have sm:Sm (-D.h):=by have:=F.hs;unfold Sm at this ⊢;omega
 have e:("-":Str)++cq (ag D.h) D=Txt.join " " (ag (-D.h)::ai "," D.ns::D.wd::D.xs):=by unfold cq;rw[txj,txj,iu,ei]
 rw[e];have L:=cR F (aX (-D.h)) (Zd sm.len (by decide));have ck:clk (ai "," D.ns)=D.ns.map ag:=di iF F.ne;refine RdR.deed (K:=K) (hands:=hands) (ag (-D.h)) (ai "," D.ns) D.wd D.ks D.xs (D.ds.map cn) false ⟨L.txt.1,L.dat,L.l3,L.len,L.txt.2,bb sm,F.wd1,F.wdp⟩ (cE sm) (by rw[ck];exact(cb F.sm).1) (fT F.len F.fit) fun H v da=>?_;obtain⟨d,c',t,ps,rfl,h2,_⟩:=da;have hv:(dOf (ag (-D.h)) (ai "," D.ns) D.wd D.ks (D.ds.map cn)).h=-D.h:=dJ sm;rw[hv]at h2;refine .hand h2 (.int _) ?_;show(decide (0<=-D.h)&&decide (-D.h<hands))=false;rw[decide_eq_false (by omega),ZU]
theorem sJ(F:D.Fit hands){xs:List Str}(hl:xs.length=D.ks.length)(hb:∀(i:Nat) (k:Kd) (x:Str),D.ks[i]?=some k->xs[i]?=some x->k≠.t->NoB x)(hw:∀(i:Nat) (k:Kd) (p:Str),D.ks[i]?=some k->xs[i]?=some p->WdP k p)(hz:∀x∈xs,x.length<=6000)(h:cw D.ks xs=none) :
  RdR K hands (Txt.join " " (ag D.h::ai "," D.ns::D.wd::xs)) none:=by
 have L:=cR F (aX D.h) (Zd F.hs.len (by decide));have l3:=F.l3;refine fM ⟨L.b0,L.b1,L.b2,L.dat,hl,L.l3,hb,L.tl,?_⟩ (bb F.hs) F.wd1 hw (.inr (.inr h));exact F.sz (Zd F.hs.len (by decide)) (Zd F.lens.1 (by decide)) (Zd F.wl (by decide)) hz (by omega)
end
theorem su{H:Hp}{c:Addr}{ns:List Int}{h:Int}(e:H c=some (.tup (ns.map V.int)))(hl:(ns.length:Int)≠h):gK H h (.ref c)=false:=by rw[cX e];show(decide (((ns.map V.int).length:Int)=h)&&_)=false;rw[z6,decide_eq_false hl,ZU]
theorem nU{H:Hp}{v:V}{E:Dt14}{hands:Int}(da:DeedAt H v E)(hl:(E.ns.length:Int)≠hands)(l1:E.ns.length<=1000):DeedR K H hands v false:=by
 obtain⟨d,c,t,ps,rfl,h2,h3,_⟩:=da;by_cases c1:0<=E.h/\E.h<hands
 ·exact .clock h2 c1.1 c1.2 (fz h3 l1) (su h3 hl)
 ·refine .hand h2 (.int _) ?_;show(decide (0<=E.h)&&decide (E.h<hands))=false;by_cases c2:0<=E.h
  ·rw[decide_eq_false fun z=>c1 ⟨c2,z⟩,Bool.and_false]
  ·rw[decide_eq_false c2,ZU]
section
variable{D:Dt14}{hands:Int}
theorem sH(F:D.Fit hands){other:Int}(h:other≠hands):RdR K other (cq (ag D.h) D) none:=by
 have nl:=F.nl;have n8:=F.n8;have L:=cR F (aX D.h) (Zd F.hs.len (by decide));have ck:clk (ai "," D.ns)=D.ns.map ag:=di iF F.ne;have en:(dOf (ag D.h) (ai "," D.ns) D.wd D.ks (D.ds.map cn)).ns=D.ns:=by show(clk (ai "," D.ns)).map dz=D.ns;rw[ck];exact(cb F.sm).2
 refine RdR.deed (K:=K) (hands:=other) (ag D.h) (ai "," D.ns) D.wd D.ks D.xs (D.ds.map cn) false ⟨L.txt.1,L.dat,L.l3,L.len,L.txt.2,bb F.hs,F.wd1,F.wdp⟩ (cE F.hs) (by rw[ck];exact(cb F.sm).1) (fT F.len F.fit) fun H v da=>nU da (by rw[en];omega) (by rw[en];omega)
theorem AX(F:D.Fit hands):RdR K hands (Txt.join " " (ag D.h::(ai "," D.ns++",0")::D.wd::D.xs)) none:=by
 have nl:=F.nl;have n8:=F.n8;have l3:=F.l3;have xl:=cP F;have L:=cR F (aX D.h) (Zd F.hs.len (by decide));have z0:("0":Str)=ag 0:=by decide +kernel
 have ck:clk (ai "," D.ns++(",0":Str))=(D.ns++[0]).map ag:=by rw[show(",0":Str)=(",":Str)++"0" by decide +kernel,nL F.ne (by decide +kernel),z0,ZO];rfl
 have sm:∀n∈D.ns++[0],Sm n:=fun n hn=>by
  rcases ZE.mp hn with hn|hn
  ·exact F.sm n hn
  ·rw[Ze.mp hn];unfold Sm;decide +kernel
 have en:(dOf (ag D.h) (ai "," D.ns++",0") D.wd D.ks (D.ds.map cn)).ns=D.ns++[0]:=by show(clk (ai "," D.ns++",0")).map dz=D.ns++[0];rw[ck];exact(cb sm).2
 have ll:=F.lens;have L':LineOk (ag D.h) (ai "," D.ns++",0") D.wd D.ks D.xs:=⟨L.b0,jv F.nob1 (by unfold NoB;decide +kernel),L.b2,L.dat,L.len,L.l3,L.bl,L.tl,F.sz (Zd F.hs.len (by decide)) (by rw[ZD,show(",0":Str).length=2 from rfl];omega) (Zd F.wl (by decide)) (fun x hx=>Zd (ll.2 x hx) (by decide)) (by omega)⟩
 have wd:WdN 44 (ai "," D.ns++",0"):=by
  refine⟨by rw[ZD,show(",0":Str).length=2 from rfl];omega,?_,?_⟩
  ·show(clk (ai "," D.ns++",0")).length<=1000;rw[ck,z6,Zh,Zn];omega
  ·show∀p∈clk (ai "," D.ns++",0"),Asc p;rw[ck];intro p hp;obtain⟨n,hn,rfl⟩:=ZM.mp hp;exact bb (sm n hn)
 refine RdR.deed (K:=K) (hands:=hands) (ag D.h) (ai "," D.ns++",0") D.wd D.ks D.xs (D.ds.map cn) false ⟨L'.txt.1,L'.dat,L'.l3,L'.len,L'.txt.2,bb F.hs,wd,F.wdp⟩ (cE F.hs) (by rw[ck];exact(cb sm).1) (fT F.len F.fit) fun H v da=>nU da (by rw[en,Zh,Zn];omega) (by rw[en,Zh,Zn];omega)
theorem mf{xs:List Str}{j i:Nat}{y x:Str}(h:(xs.set j y)[i]?=some x):(i=j/\x=y)\/(i≠j/\xs[i]?=some x):=by
 by_cases c:i=j
 ·subst c;rw[List.getElem?_set]at h;simp only[if_true]at h;split at h
  ·exact .inl ⟨rfl,(Zo h).symm⟩
  ·cases h
 ·rw[Z1 (Z0 c)]at h;exact .inr ⟨c,h⟩
theorem jp(F:D.Fit hands){j:Nat}{k:Kd}{y:Str}(hk:D.ks[j]?=some k)(hb:k≠.t->NoB y)(hw:WdP k y)(hz:y.length<=6000)(h:prs k y=none):RdR K hands (Txt.join " " (ag D.h::ai "," D.ns::D.wd::D.xs.set j y)) none:=by
 have L:=cR F (aX D.h) (Zd F.hs.len (by decide));have hj:j<D.xs.length:=by rw[cP F];exact(Zf.mp hk).1
 refine sJ F (by rw[Z7,cP F]) (fun i k' x h1 h2 h3=>?_) (fun i k' x h1 h2=>?_) (fun x hx=>?_) (iV h hk (by rw[ZI hj]))
 ·rcases mf h2 with⟨rfl,rfl⟩|⟨_,h2⟩
  ·rw[hk]at h1;cases h1;exact hb h3
  ·exact L.bl i k' x h1 h2 h3
 ·rcases mf h2 with⟨rfl,rfl⟩|⟨_,h2⟩
  ·rw[hk]at h1;cases h1;exact hw
  ·exact F.wdp i k' x h1 h2
 ·obtain⟨i,hi,rfl⟩:=Z3 hx;rcases mf (Za hi)with⟨_,e⟩|⟨_,h2⟩
  ·rw[e];exact hz
  ·exact Zd (F.lens.2 _ (ZC h2)) (by decide)
end
theorem rR{c:Nat}{n:Int}{ns:List Int}(hc:Sep c):Txt.split (("0":Str)++ai (ch1 c) (n::ns)) (ch1 c)=(("0":Str)++ag n)::ns.map ag:=by
 rw[bH,ZH,iu,aR (by simp) (fun p hp hm=>?_)];rcases Zr.mp hp with rfl|hp
 ·rw[aM]at hm;rcases ZE.mp hm with hm|hm
  ·have:c=48:=by have hm:c∈[48]:=hm;exact Ze.mp hm
   unfold Sep at hc;omega
  ·have:=aQ n c hm;unfold Sep at hc;omega
 ·obtain⟨i,_,rfl⟩:=ZM.mp hp;have:=aQ i c hm;unfold Sep at hc;omega
theorem hV{i:Int}(h:Sm i):Asc (("0":Str)++ag i):=by have:=h.len;refine⟨by rw[ZD,show("0":Str).length=1 from rfl];omega,?_⟩;rw[<-ZP,aM,Yp,ZP,ZP,(bb h).2];decide +kernel
theorem kw{c:Nat}{ns:List Int}(hc:Sep c)(h:ns≠[])(hs:∀n∈ns,Sm n)(hl:ns.length<=65):WdN c (("0":Str)++ai (ch1 c) ns):=by
 have ln:(ai (ch1 c) ns).length<=5000:=cZ (sep:=ch1 c) hs (Zg 1) hl;cases ns with
 |nil=>exact absurd rfl h
 |cons n ns =>
  unfold WdN;rw[rR hc];refine⟨by rw[ZD,show("0":Str).length=1 from rfl];omega,?_,fun p hp=>?_⟩
  ·simp only[Zq,z6]at hl ⊢;omega
  ·rcases Zr.mp hp with rfl|hp
   ·exact hV (hs n Zu)
   ·obtain⟨m,hm,rfl⟩:=ZM.mp hp;exact bb (hs m (Zt _ hm))
theorem xT{c:Nat}{x:Str}(h:c∉x.cps.toList)(a:Asc x):WdN c x:=by
 have e:Txt.split x (ch1 c)=[x]:=aR (c:=c) (l:=[x]) (by simp) fun p hp=>by rw[Ze.mp hp];exact h
 unfold WdN;rw[e];exact⟨Zd a.1 (by decide),by simp,fun p hp=>by rw[Ze.mp hp];exact a⟩
theorem vX{k:Kd}{d:Pd}(f:eg k d):WdP k (("0":Str)++aS k d):=by
 cases k<;>cases d<;>first|exact f.elim|skip
 case u.non=>exact xT (c:=46) (by decide +kernel) ⟨by decide +kernel,by decide +kernel⟩
 case u.nm i j=>exact kw gw (ns:=[i,j]) (by simp) (cO f.2.2) (by simp)
 case i.nm i j=>exact kw gw (ns:=[i,j]) (by simp) (cO f.2.2) (by simp)
 case p.pl ns=>exact kw nr (fun z=>by rw[z]at f;exact absurd f.1 (by decide)) f.2.2 f.2.1
 case t.tx=>trivial
 case b.bl=>trivial
 case w.non=>exact⟨by decide +kernel,by decide +kernel⟩
 case w.nu i=>exact hV f.2
 case a.nu i=>exact hV f.2
 case n.nu i=>exact hV f.2
section
variable{D:Dt14}{hands:Int}
theorem nW(F:D.Fit hands){j:Nat}{k:Kd}{d:Pd}(hk:D.ks[j]?=some k)(hd:D.ds[j]?=some d)(ht:k≠.t):RdR K hands (Txt.join " " (ag D.h::ai "," D.ns::D.wd::D.xs.set j (("0":Str)++aS k d))) none:=by have f:=F.fit j k d hk hd;have l:=hG f;exact jp F hk (fun _=>jv (by unfold NoB;decide +kernel) (mj f ht)) (vX f) (by rw[ZD,show("0":Str).length=1 from rfl];omega) (vE f ht)
end
theorem pW(i:Int):1<=(ag i).length:=by
 show 1<=(ag i).cps.size;rw[<-Zz];refine List.length_pos_iff.mpr fun e=>?_;by_cases c0:0<=i
 ·rw[cC c0]at e;exact absurd e (ie _)
 ·rw[cD (by omega)]at e;cases e
theorem vh{c:Nat}{ns:List Int}(h:ns≠[]):1<=(ai (ch1 c) ns).length:=by
 cases ns with
 |nil=>exact absurd rfl h
 |cons n ns =>rw[bH];exact Zd (pW n) (jR (s:=ch1 c) (l:=(n::ns).map ag) (by simp))
theorem pJ{x y:Str}{k:Nat}(hk:k<=x.length+1):(Txt.splitMax x y (k:Int)).length<=(Txt.split x y).length:=by
 have hl:PySem.limitOf x (k:Int)=k:=by unfold PySem.limitOf;rw[BJ (by omega)];omega
 unfold Txt.splitMax Txt.split;rw[hl];by_cases c1:(decide (x.length<y.length) ||decide (Builtin.Str.strKind x<Builtin.Str.strKind y))=true
 ·rw[BK c1,BK c1];exact Zg _
 ·rw[BJ c1,BJ c1,jY x y hk];by_cases c2:(Builtin.Str.occurrences x y 0 x.length (x.length+1)).isEmpty=true
  ·rw[BK c2,BK (by rw[List.isEmpty_iff]at c2;rw[c2];simp)];exact Zg _
  ·rw[BJ c2,length_partsBetween];by_cases c3:((Builtin.Str.occurrences x y 0 x.length (x.length+1)).take k).isEmpty=true
   ·rw[BK c3];simp
   ·rw[BJ c3,length_partsBetween,y8];omega
theorem ji{l:List Str}(h:l≠[])(hb:∀x∈l,NoB x):Txt.split (Txt.join " " l) " " = l:=by rw[txj,blk];exact aR h hb
theorem vb{ks:List Kd}(h:ks.getLast?≠some .t):(HCW++ks.map nm).getLast?≠some ("text":Str):=fun z=>by
 rw[List.getLast?_append,List.getLast?_map]at z;cases e:ks.getLast? with
 |none =>rw[e]at z;exact absurd z (by decide +kernel)
 |some k =>rw[e]at z h;have z:some (nm k)=some ("text":Str):=z;have:=Zo z;cases k<;>first|exact h rfl|exact absurd this (by decide +kernel)
section
variable{D:Dt14}{hands:Int}
theorem Dt14.Fit.nobs(F:D.Fit hands)(h:D.ks.getLast?≠some .t):∀x∈D.xs,NoB x:=fun x hx=>by
 obtain⟨i,hi,rfl⟩:=Z3 hx;have hk:i<D.ks.length:=by rw[<-cP F];exact hi
 obtain⟨d,hd,e⟩:=hJ (Za hk) (Za hi);rw[e];refine mj (F.fit i _ d (Za hk) hd) fun z=>h ?_;have:=F.tl i (by rw[Za hk,z]);rw[Yd,show D.ks.length-1=i by omega,Za hk,z]
theorem uR(F:D.Fit hands){y:Str}(h:D.ks.getLast?≠some .t)(hy:NoB y):RdR K hands (Txt.join " " ((ag D.h::ai "," D.ns::D.wd::D.xs)++[y])) none:=by
 have es:Txt.split (Txt.join " " ((ag D.h::ai "," D.ns::D.wd::D.xs)++[y])) " " = ag D.h::ai "," D.ns::D.wd::(D.xs++[y]):=by
  refine ji (by simp) fun x hx=>?_;rcases ZE.mp hx with hx|hx
  ·simp only[Zr]at hx;rcases hx with rfl|rfl|rfl|hx
   ·exact aX _
   ·exact F.nob1
   ·exact F.b2
   ·exact F.nobs h x hx
  ·rw[Ze.mp hx];exact hy
 refine .words (.len _ _ _ _ (D.ks.map nm) es F.dat (by rw[z6];exact F.l3) ?_);unfold ptd;rw[BJ (vb h),es];simp only[Zq,Zh,List.length_nil,z6];rw[cP F];omega
theorem wY(F:D.Fit hands):RdR K hands (Txt.join " " [ag D.h,ai "," D.ns]) none:=by
 refine .words (.short ?_);rw[ji (by simp) fun x hx=>?_]
 ·simp
 ·simp only[Zr,ZK,Yg]at hx;rcases hx with rfl|rfl
  ·exact aX _
  ·exact F.nob1
theorem sK(F:D.Fit hands)(h:D.ks≠[]):RdR K hands (Txt.join " " [ag D.h,ai "," D.ns,D.wd]) none:=by
 have es:Txt.split (Txt.join " " [ag D.h,ai "," D.ns,D.wd]) " " = [ag D.h,ai "," D.ns,D.wd]:=by
  refine ji (by simp) fun x hx=>?_;simp only[Zr,ZK,Yg]at hx;rcases hx with rfl|rfl|rfl
  ·exact aX _
  ·exact F.nob1
  ·exact F.b2
 have l3:=F.l3;have l1:0<D.ks.length:=List.length_pos_iff.mpr h;have lx:4<=(Txt.join " " [ag D.h,ai "," D.ns,D.wd]).length:=by rw[txj];show 4<=(ag D.h++ch1 32++(ai "," D.ns++ch1 32++D.wd)).length;have a:=pW D.h;have b:1<=(ai "," D.ns).length:=vh (c:=44) F.ne;have c:(ch1 32).length=1:=rfl;simp only[ZD];omega
 refine .words (.len _ _ _ _ (D.ks.map nm) es F.dat (by rw[z6];exact F.l3) ?_);have lp:(ptd (Txt.join " " [ag D.h,ai "," D.ns,D.wd]) (HCW++D.ks.map nm)).length<=3:=by
  unfold ptd;split
  ·have e:((HCW++D.ks.map nm).length:Int)-1=((2+D.ks.length:Nat):Int):=by rw[Zh,z6,show HCW.length=3 from rfl];omega
   rw[e];exact Zd (pJ (by omega)) (by rw[es];simp)
  ·rw[es];simp
 rw[z6];omega
end
section
variable{D:Dt14}{hands:Int}
theorem uP(F:D.Fit hands){y:Str}(hy:NoB y)(ly:y.length<=100)(ay:y.cps.all (·<128)=true)(hn:bw y.cps.toList=false):RdR K hands (Txt.join " " (y::ai "," D.ns::D.wd::D.xs)) none :=
 fM (cR F hy ly) ⟨Zd ly (by decide),ay⟩ F.wd1 F.wdp (.inl hn)
theorem ve{y:Str}(h:∀c∈y.cps.toList,c=49)(hl:60<y.length):bw y.cps.toList=false:=by
 have l1:60<y.cps.toList.length:=by rw[Zz];exact hl
 unfold bw;have hh:y.cps.toList.head?≠some 45:=fun z=>by have:=h 45 (List.mem_of_mem_head? z);omega
 rw[BJ hh];unfold cB;rw[decide_eq_false (by omega:¬y.cps.toList.length<=60)];simp
theorem xX{ks:List Kd}{ds:List Pd}{j:Nat}{k:Kd}{d:Pd}(hk:ks[j]?=some k):List.zipWith aS ks (ds.set j d)=(List.zipWith aS ks ds).set j (aS k d):=by
 refine List.ext_getElem? fun i=>?_;rw[Z4];by_cases c:i=j
 ·subst c;rw[hk];by_cases l:i<ds.length
  ·rw[ZI l,ZI];rw[List.length_zipWith];have:=(Zf.mp hk).1;omega
  ·rw[List.getElem?_eq_none (by rw[Z7];omega),List.getElem?_eq_none];rw[Z7,List.length_zipWith];omega
 ·rw[Z1 (Z0 c),Z1 (Z0 c),Z4]
theorem uQ(F:D.Fit hands){j:Nat}{s y:Str}(hk:D.ks[j]?=some .t)(hd:D.ds[j]?=some (.tx s))(hy:bE y=true)(l1:60<(s++y).length)(l2:(s++y).length<=200):RdR K hands (Txt.join " " (ag D.h::ai "," D.ns::D.wd::D.xs.set j (s++y))) none:=by
 have hj:j<D.ds.length:=(Zf.mp hd).1;have fs:=F.fit j _ _ hk hd;have F':Dt14.Fit { D with ds:=D.ds.set j (.tx (s++y)) } hands:=by
  refine⟨F.h0,F.hs,F.n8,F.n1,F.nl,F.nn,F.dat,F.wl,F.b2,F.l3,by show(D.ds.set j _).length=_;rw[Z7];exact F.len,F.tl,fun i k d h1 h2=>?_⟩;have h2:(D.ds.set j (.tx (s++y)))[i]?=some d:=h2;by_cases c:i=j
  ·subst c;rw[ZI hj]at h2;cases h2;have h1:D.ks[i]?=some k:=h1;rw[hk]at h1;cases h1;exact⟨gB fs.1 hy,l2⟩
  ·rw[Z1 (Z0 c)]at h2;exact F.fit i k d h1 h2
 have rl:=mH (K:=K) F';have eb:eQ hands { D with ds:=D.ds.set j (.tx (s++y)) }=false:=by
  unfold eQ;have:(Dt14.bs { D with ds:=D.ds.set j (.tx (s++y)) }).all id=false:=by
   refine ZQ.mpr fun z=>?_;rw[Zx]at z;have m:(Dt14.bs { D with ds:=D.ds.set j (.tx (s++y)) })[j]?=some (decide ((s++y).length<=60)):=by unfold Dt14.bs;show(List.zipWith (okD D.h D.ns) D.ks (D.ds.set j (.tx (s++y))))[j]?=_;rw[Z4,hk,ZI hj];rfl
   have:=z _ (ZC m);rw[decide_eq_false (by omega)]at this;cases this
  rw[this,Bool.and_false]
 rw[eb,BJ Zi]at rl;have el:cq (ag D.h) { D with ds:=D.ds.set j (.tx (s++y)) }=Txt.join " " (ag D.h::ai "," D.ns::D.wd::D.xs.set j (s++y)):=by unfold cq Dt14.xs;show Txt.join " " (ag D.h::ai "," D.ns::D.wd::List.zipWith aS D.ks (D.ds.set j (.tx (s++y))))=_;rw[xX hk];rfl
 rw[<-el];exact rl
end
structure BadPs(c:Nat)(ps:List Str):Prop where
 no:∀p∈ps,c∉p.cps.toList/\NoB p/\Asc p
 len:ps.length<=65
 ne:ps≠[]
 bad:∃p∈ps,bw p.cps.toList=false
theorem BadPs.split{c:Nat}{ps:List Str}(h:BadPs c ps):Txt.split (Str.join (ch1 c) ps) (ch1 c)=ps:=aR h.ne fun p hp=>(h.no p hp).1
theorem BadPs.alln{c:Nat}{ps:List Str}(h:BadPs c ps):bU (Txt.split (Str.join (ch1 c) ps) (ch1 c))=false:=by rw[h.split];obtain⟨p,hp,hb⟩:=h.bad;refine ZQ.mpr fun z=>?_;unfold bU at z;rw[Zx]at z;have:=z p hp;rw[hb]at this;cases this
theorem BadPs.size{c:Nat}{ps:List Str}(h:BadPs c ps)(hs:∀p∈ps,p.length<=80):(Str.join (ch1 c) ps).length<=6000:=by
 have jl:=eA (ch1 c) ps;rw[show Txt.join (ch1 c) ps=Str.join (ch1 c) ps from Ym _ _,show(ch1 c).length=1 from rfl]at jl;have sx:∀l:List Str,(∀x∈l,x.length<=80)->(l.map (·.length)).sum<=l.length*80:=fun l=>by
  induction l with
  |nil=>intro _;simp
  |cons a l ih =>intro h;have:=ih fun x hx=>h x (Zt _ hx);have:=h a Zu;simp only[ZH,Yj,Zq];omega
 have:=sx ps hs;have:=h.len;omega
theorem BadPs.wdn{c:Nat}{ps:List Str}(h:BadPs c ps)(hs:∀p∈ps,p.length<=80):WdN c (Str.join (ch1 c) ps):=by have szl:=h.size hs;unfold WdN;rw[h.split];exact⟨by omega,Zd h.len (by decide),fun p hp=>(h.no p hp).2.2⟩
theorem BadPs.nob{c:Nat}{ps:List Str}(h:BadPs c ps)(hc:c≠32):NoB (Str.join (ch1 c) ps):=fun m=>by
 rcases gi m with m|⟨p,hp,m⟩
 ·have m:32∈[c]:=m;exact hc (Ze.mp m).symm
 ·exact(h.no p hp).2.1 m
section
variable{D:Dt14}{hands:Int}
theorem qJ(F:D.Fit hands){ps:List Str}(h:BadPs 44 ps)(hs:∀p∈ps,p.length<=80):RdR K hands (Txt.join " " (ag D.h::Str.join (ch1 44) ps::D.wd::D.xs)) none:=by have L:=cR F (aX D.h) (Zd F.hs.len (by decide));have l3:=F.l3;have xl:=cP F;have szl:=h.size hs;refine fM ⟨L.b0,h.nob (by decide),L.b2,L.dat,L.len,L.l3,L.bl,L.tl,?_⟩ (bb F.hs) (h.wdn hs) F.wdp (.inr (.inl h.alln));exact F.sz (Zd F.hs.len (by decide)) szl (Zd F.wl (by decide)) (fun x hx=>Zd (F.lens.2 x hx) (by decide)) (by omega)
theorem sI(F:D.Fit hands){j c:Nat}{k:Kd}{ps:List Str}(hk:D.ks[j]?=some k)(hc:(k=.p/\c=47)\/((k=.i\/k=.u)/\c=46))(h:BadPs c ps)(hs:∀p∈ps,p.length<=80)(ht:Str.join (ch1 c) ps≠"top"):RdR K hands (Txt.join " " (ag D.h::ai "," D.ns::D.wd::D.xs.set j (Str.join (ch1 c) ps))) none:=by
 have np:cF c (Str.join (ch1 c) ps)=none:=by unfold cF;rw[h.alln];rfl
 have szl:=h.size hs;rcases hc with⟨rfl,rfl⟩|⟨rfl|rfl,rfl⟩
 ·exact jp F hk (fun _=>h.nob (by decide)) (h.wdn hs) szl np
 ·exact jp F hk (fun _=>h.nob (by decide)) (h.wdn hs) szl np
 ·refine jp F hk (fun _=>h.nob (by decide)) (h.wdn hs) szl ?_;show(if Str.join (ch1 46) ps="top" then _ else _)=none;rw[BJ ht];exact np
end
theorem gr{c d:Nat}{ps:List Str}(h:ps≠[])(hf:∀p∈ps,c∉p.cps.toList):Txt.replace (Str.join (ch1 c) ps) (ch1 c) (ch1 d)=Str.join (ch1 d) ps :=
 (StrLaws.replace_one _ _ c).trans (ZT (Str.join (ch1 d)) (aR h hf))
theorem de{c:Nat}{x z:Str}(hf:c∉x.cps.toList):Txt.replace x (ch1 c) z=x :=
 (StrLaws.replace_one _ _ c).trans (by
  have e:=aR (c:=c) (l:=[x]) (by simp) (by intro p hp;rw[Ze.mp hp];exact hf);rw[show Str.join (ch1 c) [x]=x from rfl]at e;rw[show Txt.split x ⟨#[c]⟩=[x]from e];rfl)
theorem eE{c d:Nat}{ps:List Str}(hd:d≠c)(hf:∀p∈ps,d∉p.cps.toList):d∉(Str.join (ch1 c) ps).cps.toList:=fun z=>by
 rcases gi z with z|⟨p,hp,z⟩
 ·exact hd (by simpa[ch1]using z)
 ·exact hf p hp z
theorem rh{c:Nat}{ps:List Str}(hc:c=44\/c=46\/c=47)(h:ps≠[])(hf:∀p∈ps,44∉p.cps.toList/\46∉p.cps.toList/\47∉p.cps.toList/\32∉p.cps.toList) :
  Txt.split (Txt.replace (Txt.replace (Txt.replace (Str.join (ch1 c) ps) "," " ") "." " ") "/" " ") " " = ps:=by
 rw[show(",":Str)=ch1 44 from rfl,show(".":Str)=ch1 46 from rfl,show("/":Str)=ch1 47 from rfl,show(" ":Str)=ch1 32 from rfl];have f44:=fun p hp=>(hf p hp).1;have f46:=fun p hp=>(hf p hp).2.1;have f47:=fun p hp=>(hf p hp).2.2.1;have f32:=fun p hp=>(hf p hp).2.2.2;have e:Txt.replace (Txt.replace (Txt.replace (Str.join (ch1 c) ps) (ch1 44) (ch1 32)) (ch1 46) (ch1 32)) (ch1 47) (ch1 32)=Str.join (ch1 32) ps:=by
  rcases hc with rfl|rfl|rfl
  ·rw[gr h f44,de (eE (by decide) f46),de (eE (by decide) f47)]
  ·rw[de (eE (by decide) f44),gr h f46,de (eE (by decide) f47)]
  ·rw[de (eE (by decide) f44),de (eE (by decide) f46),gr h f47]
 rw[e];exact aR h f32
def am(D:Dt14):List Str:=ag D.h::ai "," D.ns::D.wd::D.xs
def Clean(p:Str):Prop:=(44:Nat)∉p.cps.toList/\(46:Nat)∉p.cps.toList/\(47:Nat)∉p.cps.toList/\(32:Nat)∉p.cps.toList
structure BadY(y:Str):Prop where
 cl:Clean y
 asc:Asc y
 len:y.length<=80
 num:bw y.cps.toList=false
 top:y≠"top"
structure Spot(D:Dt14)(a c:Nat)(ps:List Str):Prop where
 hat:(am D)[a]?=some (Str.join (ch1 c) ps)
 ne:ps≠[]
 len:ps.length<=65
 cl:∀p∈ps,Clean p/\p.length<=62/\Asc p
 mq:(a=1/\c=44)\/∃j k,a=3+j/\D.ks[j]?=some k/\((k=.p/\c=47)\/((k=.i\/k=.u)/\c=46))
 zero:∀p∈ps,bw (("0":Str)++p).cps.toList=false
theorem Spot.hc{D:Dt14}{a c:Nat}{ps:List Str}(S:Spot D a c ps):c=44\/c=46\/c=47:=by
 rcases S.mq with⟨_,h⟩|⟨_,_,_,_,⟨_,h⟩|⟨_,h⟩⟩
 ·exact .inl h
 ·exact .inr (.inr h)
 ·exact .inr (.inl h)
theorem ss(i:Int):Clean (ag i):=by
 refine⟨fun h=>?_,fun h=>?_,fun h=>?_,fun h=>?_⟩
 ·have:=aQ i _ h;omega
 ·have:=aQ i _ h;omega
 ·have:=aQ i _ h;omega
 ·have:=aQ i _ h;omega
theorem Clean.no{p:Str}(h:Clean p){c:Nat}(hc:c=44\/c=46\/c=47):c∉p.cps.toList:=by
 rcases hc with rfl|rfl|rfl
 ·exact h.1
 ·exact h.2.1
 ·exact h.2.2.1
theorem BadY.zero{p:Str}(h:Clean p/\p.length<=62/\Asc p)(hn:bw (("0":Str)++p).cps.toList=false):BadY (("0":Str)++p):=by
 obtain⟨⟨h1,h2,h3,h4⟩,hl,ha⟩:=h;have no:∀{c:Nat},c≠48->c∉p.cps.toList->c∉(("0":Str)++p).cps.toList:=fun{c} hc hp hm=>by
  rw[aM]at hm;rcases ZE.mp hm with hm|hm
  ·have hm:c∈[48]:=hm;exact hc (Ze.mp hm)
  ·exact hp hm
 refine⟨⟨no (by decide) h1,no (by decide) h2,no (by decide) h3,no (by decide) h4⟩,⟨?_,?_⟩,?_,hn,fun z=>?_⟩
 ·rw[ZD,show("0":Str).length=1 from rfl];omega
 ·rw[<-ZP,aM,Yp,ZP,ZP,ha.2];decide +kernel
 ·rw[ZD,show("0":Str).length=1 from rfl];omega
 ·have m:(48:Nat)∈(("0":Str)++p).cps.toList:=by rw[aM];exact Zu
  rw[z]at m;revert m;decide +kernel
theorem BadY.minus:BadY ("-0":Str):=by refine⟨by unfold Clean;decide +kernel,⟨by decide +kernel,by decide +kernel⟩,by decide +kernel,by decide +kernel,by decide +kernel⟩
section
variable{D:Dt14}{hands:Int}
theorem Dt14.Fit.wds(F:D.Fit hands):(∀x∈am D,x.length<=5000)/\(am D).length=3+D.ks.length:=by
 refine⟨fun x hx=>?_,?_⟩
 ·unfold am at hx;simp only[Zr]at hx;rcases hx with rfl|rfl|rfl|hx
  ·exact Zd F.hs.len (by decide)
  ·exact F.lens.1
  ·exact Zd F.wl (by decide)
  ·exact F.lens.2 x hx
 ·unfold am;simp only[Zq];rw[cP F];omega
theorem ul(F:D.Fit hands){a:Nat}{z:Str}(hz:z.length<=6000):(Txt.join " " ((am D).set a z)).length<=100000:=by
 have l3:=F.l3;refine dE (fun x hx=>?_) (by rw[Z7,F.wds.2];omega);rcases Yc hx with h|h
 ·exact Zd (F.wds.1 x h) (by decide)
 ·rw[h];exact hz
theorem Spot.badps{a c:Nat}{ps:List Str}(S:Spot D a c ps){k:Nat}{y:Str}(hk:k<ps.length)(hy:BadY y):BadPs c (ps.set k y)/\∀p∈ps.set k y,p.length<=80:=by
 refine⟨⟨fun p hp=>?_,by rw[Z7];exact S.len,fun z=>?_,y,ZC (ZI hk),hy.num⟩,fun p hp=>?_⟩
 ·rcases Yc hp with h|h
  ·obtain⟨h1,_,h2⟩:=S.cl p h;exact⟨h1.no S.hc,h1.2.2.2,h2⟩
  ·rw[h];exact⟨hy.cl.no S.hc,hy.cl.2.2.2,hy.asc⟩
 ·have:=ZT List.length z;rw[Z7]at this;simp at this;rw[this]at hk;simp at hk
 ·rcases Yc hp with h|h
  ·have:=(S.cl p h).2.1;omega
  ·rw[h];exact hy.len
theorem Spot.bad{a c:Nat}{ps:List Str}(S:Spot D a c ps)(F:D.Fit hands){k:Nat}{y:Str}(hk:k<ps.length)(hy:BadY y):RdR K hands (Txt.join " " ((am D).set a (Str.join (ch1 c) (ps.set k y)))) none/\(Txt.join " " ((am D).set a (Str.join (ch1 c) (ps.set k y)))).length<=100000:=by
 obtain⟨B,bs⟩:=S.badps hk hy;refine⟨?_,ul F (B.size bs)⟩;rcases S.mq with⟨rfl,rfl⟩|⟨j,kd,rfl,hj,hc⟩
 ·exact qJ F B bs
 ·have e:(am D).set (3+j) (Str.join (ch1 c) (ps.set k y))=ag D.h::ai "," D.ns::D.wd::D.xs.set j (Str.join (ch1 c) (ps.set k y)):=by unfold am;rw[show 3+j=j+1+1+1 by omega];rfl
  rw[e];refine sI F hj hc B bs fun z=>?_;have hs:=B.split;rw[z]at hs;have c46:c∉("top":Str).cps.toList:=by rcases S.hc with rfl|rfl|rfl<;>decide +kernel
  have e2:Txt.split "top" (ch1 c)=[("top":Str)]:=aR (c:=c) (l:=[("top":Str)]) (by simp) (fun p hp=>by rw[Ze.mp hp];exact c46);rw[e2]at hs;have m:y∈ps.set k y:=ZC (ZI hk);rw[<-hs]at m;exact hy.top (Ze.mp m)
theorem jj{a c:Nat}{ns:List Int}(hat:(am D)[a]?=some (ai (ch1 c) ns))(h:ns≠[])(hs:∀n∈ns,Sm n)(hl:ns.length<=65)(mk:(a=1/\c=44)\/∃j k,a=3+j/\D.ks[j]?=some k/\((k=.p/\c=47)\/((k=.i\/k=.u)/\c=46))):Spot D a c (ns.map ag):=by
 refine⟨by rw[hat,bH],fun z=>h (List.map_eq_nil_iff.mp z),by rw[z6];exact hl,fun p hp=>?_,mk,fun p hp=>?_⟩
 ·obtain⟨n,hn,rfl⟩:=ZM.mp hp;exact⟨ss n,(hs n hn).len,bb (hs n hn)⟩
 ·obtain⟨n,hn,rfl⟩:=ZM.mp hp;exact eI n
theorem rM(F:D.Fit hands):Spot D 1 44 (D.ns.map ag) :=
 jj (c:=44) rfl F.ne F.sm (by have:=F.nl;have:=F.n8;omega) (.inl ⟨rfl,rfl⟩)
theorem mL(F:D.Fit hands){j:Nat}{k:Kd}(hk:D.ks[j]?=some k)(h:k=.i\/k=.u\/k=.p):∃c ps,Spot D (3+j) c ps:=by
 have hj:j<D.ks.length:=(Zf.mp hk).1;have hd:j<D.ds.length:=by rw[F.len];exact hj
 have hx:D.xs[j]?=some (aS k D.ds[j]):=by unfold Dt14.xs;rw[Z4,hk,Za hd]
 have hat:(am D)[3+j]?=some (aS k D.ds[j]):=by unfold am;rw[show 3+j=j+1+1+1 by omega];exact hx
 have f:=F.fit j k _ hk (Za hd);generalize D.ds[j]=d at hat f;have item:∀{i j':Int},(Sm i/\Sm j')->(am D)[3+j]?=some (ai (ch1 46) [i,j'])->(k=.i\/k=.u)->∃c ps,Spot D (3+j) c ps:=fun hs ha hik=>⟨46,_,jj ha (by simp) (cO hs) (by simp) (.inr ⟨j,k,rfl,hk,.inr ⟨hik,rfl⟩⟩)⟩
 rcases h with rfl|rfl|rfl<;>cases d<;>first|exact f.elim|skip
 case inl.nm i j'=>exact item f.2.2 hat (.inl rfl)
 case inr.inl.non =>
  refine⟨46,["top"],hat,by simp,by simp,fun p hp=>?_,.inr ⟨j,_,rfl,hk,.inr ⟨.inr rfl,rfl⟩⟩,fun p hp=>?_⟩
  ·rw[Ze.mp hp];exact⟨by unfold Clean;decide +kernel,by decide +kernel,by decide +kernel,by decide +kernel⟩
  ·rw[Ze.mp hp];decide +kernel
 case inr.inl.nm i j'=>exact item f.2.2 hat (.inr rfl)
 case inr.inr.pl ns=>exact⟨47,_,jj (c:=47) hat (fun z=>by rw[z]at f;exact absurd f.1 (by decide)) f.2.2 f.2.1 (.inr ⟨j,_,rfl,hk,.inl ⟨rfl,rfl⟩⟩)⟩
end
theorem nR{ws:List Str}{k:Nat}:aG (ws.map V.str) none (some (k:Int))=(ws.take k).map V.str:=by
 unfold aG;rw[HT.sIx_none,HT.sIx_nat,Yr,Nat.sub_zero,z6,<-List.map_take];refine ZT _ ?_;by_cases c:k<=ws.length
 ·rw[Nat.min_eq_left c]
 ·rw[Nat.min_eq_right (by omega),ZL (Zg _),ZL (by omega)]
theorem sA{ws:List Str}{k:Nat}:aG (ws.map V.str) (some (k:Int)) none=(ws.drop k).map V.str:=by
 unfold aG;rw[HT.sIx_none,HT.sIx_nat,z6,<-List.map_drop,<-List.map_take];refine ZT _ ?_;by_cases c:k<=ws.length
 ·rw[Nat.min_eq_left c];exact ZL (by rw[Yk];exact Zg _)
 ·rw[Nat.min_eq_right (by omega),List.drop_eq_nil_of_le (Zg _),List.drop_eq_nil_of_le (by omega),List.take_nil]
theorem qi{ws:List Str}{k:Nat}{z:Str}(h:k<ws.length):ws.take k++[z]++ws.drop (k+1)=ws.set k z:=by rw[List.set_eq_take_append_cons_drop,BK h,Yy];rfl
theorem uY{b c:Bool}{A B:Prop}(h:b=c)(k:if c=true then A else B):if b=true then A else B:=by rw[h];exact k
theorem ke{c e:Nat}{ps:List Str}(h:ps≠[])(he:e=44\/e=46\/e=47)(hf:∀p∈ps,Clean p):∃d,Txt.replace (Str.join (ch1 c) ps) (ch1 e) (ch1 32)=Str.join (ch1 d) ps:=by
 have hn:∀p∈ps,e∉p.cps.toList:=fun p hp=>(hf p hp).no he;by_cases ec:e=c
 ·subst ec;exact⟨32,gr h hn⟩
 ·exact⟨c,de (eE ec hn)⟩
theorem uZ{d:Nat}{ps:List Str}(hl:ps.length<=65)(hs:∀p∈ps,p.length<=62):(Str.join (ch1 d) ps).length<=5000:=by
 have jl:=eA (ch1 d) ps;rw[show Txt.join (ch1 d) ps=Str.join (ch1 d) ps from Ym _ _,show(ch1 d).length=1 from rfl]at jl;have sx:∀l:List Str,(∀x∈l,x.length<=62)->(l.map (·.length)).sum<=l.length*62:=fun l=>by
  induction l with
  |nil=>intro _;simp
  |cons a l ih =>intro h;have:=ih fun x hx=>h x (Zt _ hx);have:=h a Zu;simp only[ZH,Yj,Zq];omega
 have:=sx ps hs;omega
def bV(ks:List Kd)(i:Nat):Bool:=match ks[i]? with|some k=>Txt.contains "iup" (sg k)|none=>false
theorem xb{ks:List Kd}{i:Nat}(h:bV ks i=true):∃k,ks[i]?=some k/\(k=.i\/k=.u\/k=.p):=by
 unfold bV at h;cases e:ks[i]? with
 |none=>rw[e]at h;cases h
 |some k =>rw[e]at h;have h:Txt.contains "iup" (sg k)=true:=h;refine⟨k,rfl,?_⟩;revert h;cases k<;>decide +kernel
theorem Ai:∀ks∈KDS,Kd.p∈ks->(match Builtin.Str.occurrences (kst ks) "p" 0 (kst ks).length 1 with|i::_=>decide (ks[i]?=some .p)|[]=>false)=true:=by decide +kernel
def zM(K:PySem.W.Frag):Sp:=fun vs H Q _=>∃(w:Addr) (D:Dt14) (hands c:Int) (y:Str),vs=[.ref w,.str (kst D.ks),.int c,.str y]/\D.Fit hands/\D.ks∈KDS/\SqL K H w ((am D).map V.str)/\(y="0"\/y="-"/\Kd.p∈D.ks)/\∀x H',Same H H'->x.length<=100000->RdR K hands x none->Q (.str x) H'
abbrev kh:Stmt:=top 58
abbrev ux:List Str:=["_law_words","_law_kinds","_law_cell","_law_ahead","_law_spots","_law_at","_law_parts","_law_k","_law_mark"]
theorem bZ:FnScope ux ["_law_words","_law_kinds","_law_cell","_law_ahead"] (au kh):=⟨rfl,rfl,rfl,by decide +kernel,rfl,by decide +kernel,by decide +kernel⟩
theorem tE{f:Addr}{fd:FuncData}(F:Fun K "_law_within" "_law_within" kh f fd)(a6:mg "len" = none)(b9:mg "int" = none)(a9:mg "range" = none):FnOk P w K mg base CX0 2 f fd ["_law_words","_law_kinds","_law_cell","_law_ahead"] (zM K):=by
 refine F.okQ bZ (fun vs H Q E h=>?_) (fun cdv A outer s H vs Q E hr h=>?_)
 ·obtain⟨w,D,hands,c,y,rfl,_⟩:=h;rfl
 obtain⟨w,D,hands,c,y,rfl,Fi,hK,hW,hy,q⟩:=h;refine⟨_,(b_c (aJ (i:=4) bZ.nd (ar cV (bS (q_a ae ad)) (cK (own:=["_law_j"]) (⟨rfl,by decide +kernel,by decide +kernel,rfl,⟨rfl,rfl,trivial⟩⟩:CompOk _ _ [1] ["_law_kinds"]) rfl (fc a9 (q_a (q_B fN a6 Zw (q_a (q_v 1) ad)) ad)) (fun _ _ _ _=>bp (i:=0) (show (["_law_j","_law_kinds"]:List Str).Nodup by decide +kernel)) (bj (by decide)) (fun _ _ _ _=>(A3 (ax wA (aE eZ (q_v 1) (q_v 0)) ah))) (fun _ _ _ _=>(ar bx ae (q_v 0))))))
   (b_c (aJ (i:=5) bZ.nd (aE aO (q_v 4) (ar aZ (q_v 2) (q_B bB a6 Zw (q_a (q_v 4) ad)))))
   (AL (AC (zX aH (q_v 3)) (b_1 (aJ (i:=5) bZ.nd (ar bx ae (vI (q_v 1) ah)))) b_0)
   (yi (i:=6) bZ.nd (vJ (oG (oG (oG (QE.one (aE aO (q_v 0) (q_v 5)))))) ah)
   (b_c (aJ (i:=7) bZ.nd (ar aZ (ar fe (q_v 2) ae) (q_B bB a6 Zw (q_a (q_v 6) ad))))
   (b_c (aC (t_w (fD (ax oy (q_B bB a6 Zw (q_a (q_v 6) ad)) ae) (dW (ax aH (q_v 3) ah)))) (b_1 (aJ (i:=7) bZ.nd (ar bx ae (ar aZ (ar fe (q_v 2) ae) (ar eS (q_B bB a6 Zw (q_a (q_v 6) ad)) ae))))) b_0)
   (b_c (rq (aE aO (bS (q_a (ar bI (q_v 3) (aE aO (q_v 6) (q_v 7))) (q_a ah ad))) (ci ft b9 bK (q_a (aV aH (q_v 3) ah) ad))) (qK (q_v 6) (q_v 7) rK))
   (b_c (aJ (i:=8) bZ.nd (aE aO (bS (q_a ah (q_a ah ad))) (ci ft b9 bK (q_a (aV aH (q_v 5) ae) ad))))
   (b_c (aC (t_w (fD (ax oy (q_v 5) ae) (dW (ax eJ (aE eZ (q_v 1) (ar eS (q_v 5) ae)) ah)))) (b_1 (aJ (i:=8) bZ.nd ah)) b_0)
   (b_1 (aq (bY ah (ar cV (ar cV (cG bW (q_v 0) cU (cy (q_v 5))) (bS (q_a (bY (q_v 8) (q_v 6)) ad))) (cG bW (q_v 0) (cy (ar bx (q_v 5) ae)) cU)))))))))))))),?_⟩
 try rw[cxK]
 have l3:=Fi.l3;have szl:(kst D.ks).length<=sizeLine:=aL (by rw[aW];omega);refine⟨sz rfl,fun p g=>?_⟩;refine⟨_,rfl,_,rfl,by rw[aW];omega,_,rfl,by rw[aW];omega,by rw[aW];omega,?_⟩;rw[aW,show((D.ks.length:Nat):Int).toNat=D.ks.length from Yf _];refine nO (N:=D.ks.length) (lo:=0) (bV D.ks) (fun i=>.int (3+(0+(i:Int)))) (by omega) (fun i H1 hi s1 R k=>?_) (fun i H1 hi s1 hk R k=>?_) (fun p2 H2 s2 g2=>?_)
 ·have hki:=Za hi;have hat:=iQ hki;refine⟨_,rfl,_,rfl,kst D.ks,_,_,rfl,rfl,szl,(by rw[Int.zero_add];exact hat),_,_,rfl,rfl,_,rfl,?_⟩;have kk:=k H1 (Same.refl H1);unfold bV at kk;rw[hki]at kk;exact kk
 ·exact⟨_,rfl,_,_,rfl,rfl,k H1 (Same.refl H1)⟩
 have e1:upd H2 p2 (.lst (((List.range D.ks.length).filter (bV D.ks)).map fun(i:Nat)=>V.int (3+(0+(i:Int))))) p=some (.lst [.int 1]):=(af g2 _) _ _ (s2 _ _ aa);have w2:Same H (upd H2 p2 (.lst (((List.range D.ks.length).filter (bV D.ks)).map fun(i:Nat)=>V.int (3+(0+(i:Int)))))):=(af g _).trans (s2.trans (af g2 _));have l2:(((List.range D.ks.length).filter (bV D.ks)).map fun(i:Nat)=>V.int (3+(0+(i:Int)))).length<=3:=by rw[z6];have:=List.length_filter_le (bV D.ks) (List.range D.ks.length);rw[y4]at this;omega
 refine⟨p,p2,_,_,rfl,rfl,e1,aa,aL (by rw[Zn];omega),fun p3 g3=>?_⟩;have mem:∀v∈([V.int 1]++((List.range D.ks.length).filter (bV D.ks)).map fun(i:Nat)=>V.int (3+(0+(i:Int)))),∃(z:Int) (a c':Nat) (ps:List Str),v=.int z/\z=(a:Int)/\Spot D a c' ps:=fun v hv=>by
  rcases ZE.mp hv with hv|hv
  ·exact⟨1,1,44,_,Ze.mp hv,rfl,rM Fi⟩
  ·obtain⟨i,hi,rfl⟩:=ZM.mp hv;obtain⟨k,hk,h3⟩:=xb (List.mem_filter.mp hi).2;obtain⟨c',ps,S⟩:=mL Fi hk h3;exact⟨_,3+i,c',ps,rfl,by omega,S⟩
 have w3:=w2.trans (af g3 (.lst ([V.int 1]++((List.range D.ks.length).filter (bV D.ks)).map fun(i:Nat)=>V.int (3+(0+(i:Int))))));have e3:upd (upd H2 p2 (.lst (((List.range D.ks.length).filter (bV D.ks)).map fun(i:Nat)=>V.int (3+(0+(i:Int)))))) p3 (.lst ([V.int 1]++((List.range D.ks.length).filter (bV D.ks)).map fun(i:Nat)=>V.int (3+(0+(i:Int))))) p3=some (.lst ([V.int 1]++((List.range D.ks.length).filter (bV D.ks)).map fun(i:Nat)=>V.int (3+(0+(i:Int))))):=aa;generalize upd (upd H2 p2 (.lst (((List.range D.ks.length).filter (bV D.ks)).map fun(i:Nat)=>V.int (3+(0+(i:Int)))))) p3 (.lst ([V.int 1]++((List.range D.ks.length).filter (bV D.ks)).map fun(i:Nat)=>V.int (3+(0+(i:Int)))))=H3 at w3 e3 ⊢;have lp:0<([V.int 1]++((List.range D.ks.length).filter (bV D.ks)).map fun(i:Nat)=>V.int (3+(0+(i:Int)))).length:=by simp
 generalize([V.int 1]++((List.range D.ks.length).filter (bV D.ks)).map fun(i:Nat)=>V.int (3+(0+(i:Int))))=sp at mem e3 lp;have m0:=ZA c (show(sp.length:Int)≠0 by omega);have m1:=Zv c (show(0:Int)<(sp.length:Int) by omega);have hm:(c%(sp.length:Int)).toNat<sp.length:=by omega
 have hat:=bc (Za hm);rw[show(((c%(sp.length:Int)).toNat:Nat):Int)=c%(sp.length:Int) by omega]at hat;obtain⟨z,a,c',ps,ez,za,S⟩:=mem _ (Z9 hm);rw[ez]at hat;refine⟨_,rfl,_,rfl,_,rfl,p3,_,rfl,.inl (SqL.of e3),_,_,rfl,rfl,(by show(0:Int)<(sp.length:Int);omega),p3,_,_,_,rfl,rfl,SqL.of e3,hat,?_⟩;clear hat ez mem;dsimp only[bC];refine jA (fun σ' H'=>H3=H'/\∃(z:Int) (a c':Nat) (ps:List Str),z=(a:Int)/\Spot D a c' ps/\σ'=[some (.ref w),some (.str (kst D.ks)),some (.int c),some (.str y),some (.ref p3),some (.int z),none,none,none]) (fun R hR=>?_) ?_
 ·refine⟨_,rfl,rfl,_,rfl,?_⟩;rcases hy with rfl|⟨rfl,hp⟩
  ·exact ak (by decide +kernel) (hR _ _ ⟨rfl,z,a,c',ps,za,S,rfl⟩)
  ·refine bA ?_;have ix:=Ai D.ks hK hp;cases ho:Builtin.Str.occurrences (kst D.ks) "p" 0 (kst D.ks).length 1 with
   |nil=>rw[ho]at ix;cases ix
   |cons i l =>rw[ho]at ix;have ix:D.ks[i]?=some .p:=y6 ix;obtain⟨c2,ps2,S2⟩:=mL Fi ix (.inr (.inr rfl));exact⟨_,rfl,rfl,_,_,i,l,rfl,rfl,ho,_,_,rfl,rfl,hR _ _ ⟨rfl,_,3+i,c2,ps2,by omega,S2,rfl⟩⟩
 clear S za z a c' ps;rintro _ _ ⟨rfl,z,a,c',ps,za,S,rfl⟩;subst za;have hal:a<(am D).length:=(Zf.mp S.hat).1;have hx:atI ((am D).map V.str) (a:Int)=some (.str (Str.join (ch1 c') ps)):=by refine bc ?_;rw[ZB,S.hat];rfl
 have cl:∀p∈ps,Clean p:=fun p hp=>(S.cl p hp).1;have s62:∀p∈ps,p.length<=62:=fun p hp=>(S.cl p hp).2.1;obtain⟨d1,r1⟩:=ke (c:=c') (e:=44) S.ne (.inl rfl) cl;obtain⟨d2,r2⟩:=ke (c:=d1) (e:=46) S.ne (.inr (.inl rfl)) cl;obtain⟨d3,r3⟩:=ke (c:=d2) (e:=47) S.ne (.inr (.inr rfl)) cl;have ln:∀d,(Str.join (ch1 d) ps).length<=100000:=fun d=>Zd (uZ S.len s62) (by decide);have pb:=rh S.hc S.ne (fun p hp=>cl p hp);have e0:Txt.replace (Str.join (ch1 c') ps) "," " " = Str.join (ch1 d1) ps:=r1;have e00:Txt.replace (Str.join (ch1 d1) ps) "." " " = Str.join (ch1 d2) ps:=r2;have e000:Txt.replace (Str.join (ch1 d2) ps) "/" " " = Str.join (ch1 d3) ps:=r3;refine⟨_,rfl,_,rfl,w,_,_,_,rfl,rfl,w3.seq hW,hx,_,rfl,ln c',_,rfl,by rw[e0];exact ln d1,_,rfl,by rw[e0,e00];exact ln d2,rfl,_,_,rfl,rfl,by decide +kernel,by rw[e0,e00,e000];exact ln d3,fun p4 g4=>?_⟩;rw[pb];have w4:=w3.trans (af g4 (.lst (ps.map V.str)));have e4:upd H3 p4 (.lst (ps.map V.str)) p4=some (.lst (ps.map V.str)):=aa;have g40:H p4=none:=w3.free g4;clear e0 e00 e000 r1 r2 r3 pb;generalize upd H3 p4 (.lst (ps.map V.str))=H4 at w4 e4 ⊢;have lps:0<ps.length:=List.length_pos_iff.mpr S.ne;refine⟨_,rfl,_,_,rfl,rfl,⟨by decide,by decide⟩,_,rfl,p4,_,rfl,.inl (SqL.of e4),_,_,rfl,rfl,(by show(0:Int)<((ps.map V.str).length:Int);rw[z6];omega),?_⟩;have k0:=ZA (c / 4) (show((ps.map V.str).length:Int)≠0 by rw[z6];omega);have k1:=Zv (c / 4) (show(0:Int)<((ps.map V.str).length:Int) by rw[z6];omega);dsimp only[bC];refine jA (fun σ' H'=>H4=H'/\∃(z:Int) (k:Nat),z=(k:Int)/\k<ps.length/\σ'=[some (.ref w),some (.str (kst D.ks)),some (.int c),some (.str y),some (.ref p3),some (.int a),some (.ref p4),some (.int z),none]) (fun R hR=>?_) ?_
 ·rw[z6]at k0 k1;have base:R.nx [some (.ref w),some (.str (kst D.ks)),some (.int c),some (.str y),some (.ref p3),some (.int a),some (.ref p4),some (.int (c / 4%((ps.map V.str).length:Int))),none] H4:=by rw[z6];exact hR _ _ ⟨rfl,_,(c / 4%(ps.length:Int)).toNat,by omega,by omega,rfl⟩
  refine⟨_,rfl,p4,_,rfl,.inl (SqL.of e4),_,_,rfl,rfl,_,rfl,dw (fun h1=>?_) (fun h1=>base)⟩;refine⟨_,rfl,rfl,_,rfl,dw (fun h2=>?_) (fun h2=>base)⟩;rw[z6]at h1;have n0:=ZA (c / 4) (show(ps.length:Int)-1≠0 by omega);have n1:=Zv (c / 4) (show(0:Int)<(ps.length:Int)-1 by omega);refine⟨_,rfl,_,_,rfl,rfl,⟨by decide,by decide⟩,_,rfl,p4,_,rfl,.inl (SqL.of e4),_,_,rfl,rfl,_,_,rfl,rfl,(by show(0:Int)<((ps.map V.str).length:Int)-1;rw[z6];omega),_,_,rfl,rfl,?_⟩;rw[z6];exact hR _ _ ⟨rfl,_,(1+c / 4%((ps.length:Int)-1)).toNat,by omega,by omega,rfl⟩
 clear k0 k1;rintro _ _ ⟨rfl,z,k,zk,hk,rfl⟩;subst zk;have hpk:atI (ps.map V.str) (k:Int)=some (.str ps[k]):=by refine bc ?_;rw[ZB,Za hk];rfl
 have ly:y.length=1:=by
  rcases hy with rfl|⟨rfl,_⟩
  ·rfl
  ·rfl
 have l62:=s62 _ (Z9 hk);obtain⟨ny,hny,hb⟩:∃ny,atI [V.str (y++ps[k]),V.str "-0"] (if decide (V.str y=V.str "-")=true then 1 else 0)=some (.str ny)/\BadY ny:=by
  rcases hy with rfl|⟨rfl,hp⟩
  ·rw[show decide (V.str "0" = V.str "-")=false by decide +kernel];exact⟨_,rfl,BadY.zero (S.cl _ (Z9 hk)) (S.zero _ (Z9 hk))⟩
  ·rw[decide_eq_true rfl];exact⟨_,rfl,BadY.minus⟩
 refine⟨_,rfl,_,rfl,_,rfl,p4,_,_,_,rfl,rfl,SqL.of e4,hpk,_,_,rfl,rfl,aL (by omega),sz rfl,fun p5 g5=>?_⟩;have w5:=af g5 (.lst [V.str (y++ps[k]),V.str "-0"]);refine⟨_,rfl,rfl,.inr ⟨_,rfl,p5,_,_,_,rfl,rfl,SqL.of aa,hny,?_⟩⟩;refine⟨_,rfl,_,rfl,p4,_,_,k,rfl,rfl,w5 _ _ e4,(by rw[kO (by omega) (by rw[z6];omega)];rfl),?_⟩;rw[<-List.map_set];have w6:=iC (o:=.lst ((ps.set k ny).map V.str)) (w4.trans w5) g40;have e6:upd (upd H4 p5 (.lst [V.str (y++ps[k]),V.str "-0"])) p4 (.lst ((ps.set k ny).map V.str)) p4=some (.lst ((ps.set k ny).map V.str)):=aa;generalize upd (upd H4 p5 (.lst [V.str (y++ps[k]),V.str "-0"])) p4 (.lst ((ps.set k ny).map V.str))=H6 at w6 e6 ⊢;obtain⟨mk,hmk,mk1,mk2⟩:∃mk:Str,atI [V.str "/",V.str ","] (if decide (V.int (a:Int)=V.int 1)=true then 1 else 0)=some (.str mk)/\(a=1->mk=",")/\(a≠1->mk="/"):=by
  by_cases ca:a=1
  ·subst ca;rw[show decide (V.int ((1:Nat):Int)=V.int 1)=true by decide +kernel];exact⟨_,rfl,fun _=>rfl,fun z=>absurd rfl z⟩
  ·rw[decide_eq_false (fun z=>ca (by injection z with z;omega))];exact⟨_,rfl,fun z=>absurd z ca,fun _=>rfl⟩
 refine⟨sz rfl,fun p6 g6=>?_⟩;refine⟨_,rfl,rfl,.inr ⟨_,rfl,p6,_,_,_,rfl,rfl,SqL.of aa,hmk,?_⟩⟩;have w66:=af g6 (.lst [V.str "/",V.str ","]);have w06:=w6.trans w66;have e66:=w66 _ _ e6;generalize upd H6 p6 (.lst [V.str "/",V.str ","])=H7 at w06 e66 ⊢;dsimp only[bC];refine jA (fun σ' H'=>H7=H'/\σ'=[some (.ref w),some (.str (kst D.ks)),some (.int c),some (.str y),some (.ref p3),some (.int a),some (.ref p4),some (.int k),some (.str (ch1 c'))]) (fun R hR=>?_) ?_
 ·rcases S.mq with⟨rfl,rfl⟩|⟨j,kd,rfl,hj,hc⟩
  ·rw[mk1 rfl];exact⟨_,rfl,_,_,rfl,rfl,_,rfl,wv (by decide) (hR _ _ ⟨rfl,rfl⟩)⟩
  ·rw[mk2 (by omega)];refine⟨_,rfl,_,_,rfl,rfl,_,rfl,dw (fun _=>?_) (fun z=>absurd (show((3+j:Nat):Int)>1 by omega) z)⟩;have hat':atI (kst D.ks).cps.toList (((3+j:Nat):Int)-3)=some (dY kd):=by rw[show(((3+j:Nat):Int)-3)=(j:Int) by omega];exact iQ hj
   refine⟨_,rfl,_,rfl,_,_,rfl,rfl,kst D.ks,_,_,rfl,rfl,szl,hat',rfl,_,rfl,?_⟩;rcases hc with⟨rfl,rfl⟩|⟨rfl|rfl,rfl⟩
   ·exact uY (c:=false) (by decide +kernel) (aD (hR _ _ ⟨rfl,rfl⟩))
   ·exact uY (c:=true) (by decide +kernel) (aK (hR _ _ ⟨rfl,rfl⟩))
   ·exact uY (c:=true) (by decide +kernel) (aK (hR _ _ ⟨rfl,rfl⟩))
 rintro _ _ ⟨rfl,rfl⟩;have hW7:=w06.seq hW;obtain⟨bad,bl⟩:=S.bad (K:=K) Fi hk hb;have B:=(S.badps hk hb)
 have lw:(am D).length<=6:=by rw[Fi.wds.2];omega
 refine⟨rfl,_,rfl,_,rfl,_,rfl,w,_,rfl,hW7,fun p7 g7=>?_⟩;rw[nR];have w7:=af g7 (.lst (((am D).take a).map V.str));have e7:upd H7 p7 (.lst (((am D).take a).map V.str)) p7=some (.lst (((am D).take a).map V.str)):=aa;have e67:=w7 _ _ e66;have w07:=w06.trans w7;generalize upd H7 p7 (.lst (((am D).take a).map V.str))=H8 at e67 w07 e7 ⊢;have lt:((am D).take a).length<=6:=by rw[y8];omega
 have ld:((am D).drop (a+1)).length<=6:=by rw[Yk];omega
 refine⟨_,rfl,rfl,_,rfl,ch1 c',p4,ps.set k ny,rfl,rfl,SqL.of e67,fP (fun x hx=>Zd (B.2 x hx) (by decide)) (by show 1<=8;decide) (Zd B.1.len (by decide)),sz rfl,fun p8 g8=>?_⟩;rw[show Txt.join (ch1 c') (ps.set k ny)=Str.join (ch1 c') (ps.set k ny)from Ym _ _];have w8:=af g8 (.lst [V.str (Str.join (ch1 c') (ps.set k ny))]);refine⟨p7,p8,_,_,rfl,rfl,w8 _ _ e7,aa,aL (by rw[z6,Zn];omega),fun p9 g9=>?_⟩;have w9:=w8.trans (af g9 (.lst (((am D).take a).map V.str++[V.str (Str.join (ch1 c') (ps.set k ny))])));have e9:upd (upd H8 p8 (.lst [V.str (Str.join (ch1 c') (ps.set k ny))])) p9 (.lst (((am D).take a).map V.str++[V.str (Str.join (ch1 c') (ps.set k ny))])) p9=some (.lst (((am D).take a).map V.str++[V.str (Str.join (ch1 c') (ps.set k ny))])):=aa;generalize upd (upd H8 p8 (.lst [V.str (Str.join (ch1 c') (ps.set k ny))])) p9 (.lst (((am D).take a).map V.str++[V.str (Str.join (ch1 c') (ps.set k ny))]))=H9 at w9 e9 ⊢;refine⟨_,rfl,_,rfl,_,_,rfl,rfl,_,rfl,w,_,rfl,(w07.trans w9).seq hW,fun p10 g10=>?_⟩;rw[show((a:Int)+1)=((a+1:Nat):Int) by omega,sA];have w10:=af g10 (.lst (((am D).drop (a+1)).map V.str));refine⟨p9,p10,_,_,rfl,rfl,w10 _ _ e9,aa,aL (by rw[Zh,z6,z6,Zn];omega),fun p11 g11=>?_⟩;have eL:((am D).take a).map V.str++[V.str (Str.join (ch1 c') (ps.set k ny))]++((am D).drop (a+1)).map V.str=((am D).set a (Str.join (ch1 c') (ps.set k ny))).map V.str:=by rw[<-qi hal,ZO,ZO];rfl
 rw[eL];refine⟨" ",p11,(am D).set a (Str.join (ch1 c') (ps.set k ny)),rfl,rfl,SqL.of aa,fP (fun x hx=>?_) (by decide +kernel) (by rw[Z7];omega),q _ _ ((w07.trans w9).trans (w10.trans (af g11 _))) bl bad⟩;rcases Yc hx with h|h
 ·exact Zd (Fi.wds.1 x h) (by decide)
 ·rw[h];exact Zd (B.1.size B.2) (by decide)
theorem iG{t u:L2.TS}{D:Ends}{σ:St}{H:Hp}(J:St->Hp->Prop)(h1:∀R:Ends,R.rt=D.rt->(∀σ' H',J σ' H'->R.nx σ' H')->t R σ H)(h2:∀σ' H',J σ' H'->u D σ' H'):ku t u D σ H:=h1 { D with nx:=u D } rfl h2
theorem gc{ws:List Str}{i j:Nat}{z:Str}{a b:Int}(ha:a=(i:Int))(hb:b=(j:Int)):aG (ws.map V.str) none (some a)++[V.str z]++aG (ws.map V.str) (some b) none=(ws.take i++[z]++ws.drop j).map V.str:=by rw[ha,hb,nR,sA,ZO,ZO];rfl
theorem uM{ws:List Str}:aG (ws.map V.str) none (some (-1))=ws.dropLast.map V.str:=by unfold aG;rw[HT.sIx_none,Yr,Nat.sub_zero,z6,<-List.map_take,List.dropLast_eq_take];refine ZT (fun n=>(ws.take n).map V.str) ?_;show(if(-1:Int)<0 then((-1:Int)+(ws.length:Int)).toNat else min (-1:Int).toNat ws.length)=ws.length-1;rw[BK (by decide)];omega
theorem uL{x:Str}{n:Nat}(h:n<=x.length):(bu x (some (n:Int)) none).cps.toList=x.cps.toList.drop n:=by
 have e2:bu x (some (n:Int)) none=bu x (some (n:Int)) (some ((x.length:Nat):Int)):=by unfold bu;rw[StrLaws.sliceIdx_none_hi]
 rw[e2];unfold bu;split
 ·rename_i z;rw[StrLaws.strSliceIndices_plain h (Zg _),z6,y4]at z;by_cases c:n=0
  ·rw[c,Yr]
  ·have:x.cps.toList=[]:=List.eq_nil_of_length_eq_zero (by rw[Zz];show x.length=0;omega);rw[this,List.drop_nil]
 ·rw[StrLaws.sliced_plain x h (Zg _)];show((x.cps.toList.drop n).take (x.length-n)).toArray.toList=_;rw[List.toList_toArray,ZL];rw[Yk,Zz];exact Zg _
theorem Ag:∀ks∈KDS,Txt.contains (kst ks) "p" = decide (Kd.p∈ks):=by decide +kernel
theorem xQ:∀x∈DT.map Prod.fst,(Txt.upper x).length<=100/\(32:Nat)∉(Txt.upper x).cps.toList/\((Txt.upper x).cps.toList.any (·<97))=true:=by decide +kernel
theorem va{ks:List Kd}{k:Kd}(h:ks.getLast?=some k):atI (kst ks).cps.toList (-1)=some (dY k):=by rw[Yd]at h;have hl:=(Zf.mp h).1;have e:(kst ks).cps.toList=ks.map dY:=rfl;rw[e];unfold atI ixN;rw[BJ (by decide),z6,BK (by omega)];show(ks.map dY)[((-1:Int)+(ks.length:Int)).toNat]?=_;rw[show((-1:Int)+(ks.length:Int)).toNat=ks.length-1 by omega,ZB,h];rfl
theorem qS(k:Kd):(!decide (V.str ⟨#[dY k]⟩=V.str "t"))=decide (k≠.t):=by cases k<;>decide +kernel
theorem jN{ws:List Str}{a:Str}(h:ws.getLast?=some a):atI (ws.map V.str) (-1)=some (.str a):=by rw[Yd]at h;have hl:=(Zf.mp h).1;unfold atI ixN;rw[BJ (by decide),z6,BK (by omega)];show(ws.map V.str)[((-1:Int)+(ws.length:Int)).toNat]?=_;rw[show((-1:Int)+(ws.length:Int)).toNat=ws.length-1 by omega,ZB,h];rfl
theorem kn{ws:List Str}{j:Nat}{z:Str}(hj:j+1=ws.length):ws.dropLast++[z]=ws.set j z:=by rw[List.set_eq_take_append_cons_drop,BK (by omega),List.drop_eq_nil_of_le (by omega),List.dropLast_eq_take,show ws.length-1=j by omega]
theorem sR{ws:List Str}{j:Nat}{a z:Str}(h:ws[j]?=some a)(hj:j+1=ws.length):Txt.join " " ws++z=Txt.join " " (ws.set j (a++z)):=by
 have e:ws=ws.dropLast++[a]:=by
  rw[kn hj];refine List.ext_getElem? fun i=>?_;by_cases c:i=j
  ·subst c;rw[ZI (by omega),h]
  ·rw[Z1 (Z0 c)]
 rw[<-kn hj,txj,txj,<-iR]
 conv=>lhs;rw[e]
theorem jo{ws:List Str}(h:∀x∈ws,x.length<=6000)(hl:ws.length<=12):(ws.map (·.length)).sum+ws.length*(" ":Str).length<=16777216:=fP (fun x hx=>Zd (h x hx) (by decide)) (by decide +kernel) (by omega)
section
variable{D:Dt14}{hands:Int}
theorem Dt14.Fit.w6(F:D.Fit hands):(am D).length<=6:=by have:=F.l3;rw[F.wds.2];omega
theorem Dt14.Fit.line(F:D.Fit hands):(Txt.join " " (am D)).length<=40000:=by
 have jl:=eA " " (am D);have e1:(" ":Str).length=1:=rfl;have sx:∀l:List Str,(∀x∈l,x.length<=5000)->(l.map (·.length)).sum<=l.length*5000:=fun l=>by
  induction l with
  |nil=>intro _;simp
  |cons a l ih =>intro h;have:=ih fun x hx=>h x (Zt _ hx);have:=h a Zu;simp only[ZH,Yj,Zq];omega
 have:=sx _ F.wds.1;have:=F.w6;rw[e1]at jl;omega
theorem Dt14.Fit.ins(F:D.Fit hands){i j:Nat}{z:Str}(hz:z.length<=6000)(hi:i<=3):(∀x∈(am D).take i++[z]++(am D).drop j,x.length<=6000)/\((am D).take i++[z]++(am D).drop j).length<=12:=by
 have:=F.w6;refine⟨fun x hx=>?_,?_⟩
 ·rcases ZE.mp hx with hx|hx
  ·rcases ZE.mp hx with hx|hx
   ·exact Zd (F.wds.1 x (List.mem_of_mem_take hx)) (by decide)
   ·rw[Ze.mp hx];exact hz
  ·exact Zd (F.wds.1 x (List.mem_of_mem_drop hx)) (by decide)
 ·rw[Zh,Zh,y8,Yk,Zn];omega
theorem Dt14.Fit.at3(F:D.Fit hands){j:Nat}{k:Kd}(hk:D.ks[j]?=some k):∃d,D.ds[j]?=some d/\eg k d/\(am D)[3+j]?=some (aS k d)/\∀z,(am D).set (3+j) z=ag D.h::ai "," D.ns::D.wd::D.xs.set j z:=by
 have hj:j<D.ks.length:=(Zf.mp hk).1;have hd:j<D.ds.length:=by rw[F.len];exact hj
 have hx:D.xs[j]?=some (aS k D.ds[j]):=by unfold Dt14.xs;rw[Z4,hk,Za hd]
 refine⟨D.ds[j],Za hd,F.fit j k _ hk (Za hd),?_,fun z=>?_⟩
 ·unfold am;rw[show 3+j=j+1+1+1 by omega];exact hx
 ·unfold am;rw[show 3+j=j+1+1+1 by omega];rfl
end
def zK(K:PySem.W.Frag):Sp:=fun vs H Q _=>∃(w:Addr) (D:Dt14) (hands y c:Int),vs=[.ref w,.str (kst D.ks),.int y,.int c]/\D.Fit hands/\D.ks∈KDS/\eQ hands D=true/\0<=y/\y<18/\SqL K H w ((am D).map V.str)/\∀x H',Same H H'->x.length<=100000->RdR K hands x none->Q (.str x) H'
abbrev ma:Stmt:=top 59
abbrev wQ:List Str:=["_law_words","_law_kinds","_law_way","_law_cell","_law_line","_law_other"]
theorem ki:FnScope wQ ["_law_words","_law_kinds","_law_way","_law_cell"] (au ma):=⟨rfl,rfl,rfl,by decide +kernel,rfl,by decide +kernel,by decide +kernel⟩
theorem vn{f:Addr}{fd:FuncData}(F:Fun K "_law_fault" "_law_fault" ma f fd)(r9:Fn P w K mg base 2 "_law_within" ["_law_words","_law_kinds","_law_cell","_law_ahead"] (zM K))(a6:mg "len" = none)(b9:mg "int" = none):FnOk P w K mg base CX0 3 f fd ["_law_words","_law_kinds","_law_way","_law_cell"] (zK K):=by
 refine F.okQ ki (fun vs H Q E h=>?_) (fun cdv A outer s H vs Q E hr h=>?_)
 ·obtain⟨w,D,hands,y,c,rfl,_⟩:=h;rfl
 obtain⟨w,D,hands,y,c,rfl,Fi,hK,hD,y0,y1,hW,q⟩:=h;refine⟨_,(b_c (aJ (i:=4) ki.nd (bY ah (q_v 0)))
   (b_c (aC (t_w (fD (ax aH (q_v 2) ae) (dW (ax wA ah (q_v 1))))) (b_1 (aq (aI r9 (hr.mono (by decide)) (q_a (q_v 0) (q_a (q_v 1) (q_a (q_v 3) (q_a ah ad))))))) b_0)
   (b_c (aC (ax oy (q_v 2) ae) (b_1 (aq (aI r9 (hr.mono (by decide)) (q_a (q_v 0) (q_a (q_v 1) (q_a (q_v 3) (q_a ah ad))))))) b_0)
   (b_c (aC (ax jX (q_v 2) ae) (b_1 (aq (ar bI (aE aO (bS (q_a ah (q_a ah (q_a ah (q_a ah ad))))) (q_v 2)) (q_v 4)))) b_0)
   (b_c (aC (t_w (cA (ax aH (q_v 2) ae) (cu (ax aH (q_v 2) ae)))) (b_1 (aq (bY ah (ar cV (ar cV (cG bW (q_v 0) cU (cy (ar eS (q_v 2) ae))) (bS (q_a ah ad))) (cG bW (q_v 0) (cy (ar eS (q_v 2) ae)) cU))))) b_0)
   (b_c (aC (ax jX (q_v 2) ae) (b_c (aJ (i:=5) ki.nd (aE aO (bS (q_a (ar bI (aE aO (q_v 0) ae) ah) (q_a (ar bI (aE aO (q_v 0) ae) ah) (q_a (ar bI (aE aO (q_v 0) ae) ah) ad)))) (ar eS (q_v 2) ae)))
   (b_1 (aq (bY ah (ar cV (ar cV (cG bW (q_v 0) cU (cy ae)) (bS (q_a (q_v 5) ad))) (cG bW (q_v 0) (cy ae) cU)))))) b_0)
   (b_c (aC (ax aH (q_v 2) ae) (b_1 (aq (bY ah (ar cV (ar cV (cG bW (q_v 0) cU (cy ae)) (bS (q_a (xL (aE aO (q_v 0) ae)) ad))) (cG bW (q_v 0) (cy ae) cU))))) b_0)
   (b_c (aC (ax aH (q_v 2) ae) (b_1 (aq (bY ah (cG bW (q_v 0) cU (cy (ar bx ae (ci ft b9 bK (q_a (aV eJ (q_v 1) ah) ad)))))))) b_0)
   (b_c (aC (t_w (cA (ax aH (q_v 2) ae) (cu (ax aH (q_v 1) ah)))) (b_1 (aq (ar bI (ar tj ah ae) (cG yC (q_v 4) (cy (q_B fN a6 Zw (q_a (aE aO (q_v 0) ae) ad))) cU)))) b_0)
   (b_c (aC (t_w (fD (ax aH (q_v 2) ae) (dW (ax eJ (aE eZ (q_v 1) (lX jD ae)) ah)))) (b_1 (aq (ar bI (q_v 4) ah))) b_0)
   (b_c (aC (t_w (fD (ax aH (q_v 2) ae) (dW (ax eJ (aE eZ (q_v 1) (lX jD ae)) ah)))) (b_1 (aq (ar bI (q_v 4) ah))) b_0)
   (b_c (aC (t_w (fD (ax aH (q_v 2) ae) (dW (ax eJ (aE eZ (q_v 1) (lX jD ae)) ah)))) (b_1 (aq (bY ah (ar cV (cG bW (q_v 0) cU (cy (lX jD ae))) (bS (q_a (ar bI ah (aE aO (q_v 0) (lX jD ae))) ad)))))) b_0)
   (b_c (aC (ax aH (q_v 2) ae) (b_1 (aq (bY ah (ar cV (ar cV (cG bW (q_v 0) cU (cy ae)) (bS (q_a (ar bI ah (aE aO (q_v 0) ae)) ad))) (cG bW (q_v 0) (cy ae) cU))))) b_0)
   (b_1 (aq (ar bI (q_v 4) (ar tj ah ae))))))))))))))))),?_⟩
 try rw[cxK]
 have w6:=Fi.w6;have ll:=Fi.line;have szl:(kst D.ks).length<=sizeLine:=aL (by rw[aW];have:=Fi.l3;omega);have b6:∀x∈am D,x.length<=6000:=fun x hx=>Zd (Fi.wds.1 x hx) (by decide);refine⟨rfl,_,rfl," ",w,am D,rfl,rfl,hW,jo b6 (by omega),?_⟩;obtain⟨line,el⟩:∃line,Txt.join " " (am D)=line:=⟨_,rfl⟩
 have eD:cq (ag D.h) D=line:=el;rw[el]at ll;dsimp only[bC];rw[el];refine iG (fun σ' H'=>H=H'/\σ'=[some (.ref w),some (.str (kst D.ks)),some (.int y),some (.int c),some (.str line),none]) (fun R hrt hR=>?_) ?_
 ·refine⟨_,rfl,rfl,_,rfl,et (fun e=>?_) (fun e=>hR _ _ ⟨rfl,rfl⟩)⟩;refine⟨_,rfl,_,_,rfl,rfl,_,rfl,?_⟩;rw[Ag _ hK];refine dw (fun e2=>?_) (fun e2=>hR _ _ ⟨rfl,rfl⟩);exact⟨_,rfl,_,rfl,_,rfl,w,D,hands,c,"-",rfl,Fi,hK,hW,.inr ⟨rfl,e2⟩,fun x H' s1 l r=>by rw[hrt];exact q x H' s1 l r⟩
 rintro _ _ ⟨rfl,rfl⟩;refine⟨_,rfl,_,_,rfl,rfl,_,rfl,dw (fun e=>⟨_,rfl,_,rfl,_,rfl,w,D,hands,c,"0",rfl,Fi,hK,hW,.inl rfl,q⟩) (fun e15=>?_)⟩;refine⟨_,rfl,_,_,rfl,rfl,_,rfl,dw (fun e=>?_) (fun e4=>?_)⟩
 ·refine⟨sz rfl,fun p g=>?_⟩;have w1:=af g (.lst [V.str "0",V.str " ",V.str "+",V.str "-"]);obtain⟨z,hat,lz,bad⟩:∃z:Str,atI [V.str "0",V.str " ",V.str "+",V.str "-"] y=some (.str z)/\z.length=1/\RdR K hands (z++line) none:=by
   rw[<-eD];rcases(show y=0\/y=1\/y=2\/y=3 by omega)with rfl|rfl|rfl|rfl
   ·exact⟨_,rfl,rfl,AR Fi⟩
   ·exact⟨_,rfl,rfl,AS Fi⟩
   ·exact⟨_,rfl,rfl,AT Fi⟩
   ·exact⟨_,rfl,rfl,AU Fi⟩
  exact⟨_,rfl,p,_,_,_,rfl,rfl,SqL.of aa,hat,_,rfl,_,_,rfl,rfl,eY (by omega),q _ _ w1 (by rw[ZD];omega) bad⟩
 refine⟨_,rfl,rfl,_,rfl,et (fun e=>?a) (fun e=>⟨_,rfl,rfl,_,rfl,et (fun e=>?b) (fun e5=>?c)⟩)⟩
 case a|b =>
  obtain⟨k,ek,k3,bad⟩:∃k:Nat,y-3=(k:Int)/\k<=3/\RdR K hands (Txt.join " " ((am D).take k++[("":Str)]++(am D).drop k)) none:=by
   first
    |exact⟨1,by have:=‹y=4›;omega,by decide,AV Fi⟩
    |exact⟨2,by have:=‹y=5›;omega,by decide,AW Fi⟩
  obtain⟨i1,i2⟩:=Fi.ins (i:=k) (j:=k) (z:=("":Str)) (by decide) (by omega);refine⟨rfl,_,rfl,_,rfl,_,_,rfl,rfl,_,rfl,w,_,rfl,hW,fun p1 g1=>?_⟩;have w1:=af g1 (.lst (aG ((am D).map V.str) none (some (y-3))));have e1:upd H p1 (.lst (aG ((am D).map V.str) none (some (y-3)))) p1=some (.lst (aG ((am D).map V.str) none (some (y-3)))):=aa;have lc1:=bo ((am D).map V.str) none (some (y-3));have lc2:=bo ((am D).map V.str) (some (y-3)) none;rw[z6]at lc1 lc2;generalize upd H p1 (.lst (aG ((am D).map V.str) none (some (y-3))))=H1 at w1 e1 ⊢;refine⟨sz rfl,fun p2 g2=>?_⟩;have w2:=af g2 (.lst [V.str ("":Str)]);refine⟨p1,p2,_,_,rfl,rfl,w2 _ _ e1,aa,aL (by rw[Zn];omega),fun p3 g3=>?_⟩;have w3:=(w1.trans w2).trans (af g3 (.lst (aG ((am D).map V.str) none (some (y-3))++[V.str ("":Str)])));have e3:upd (upd H1 p2 (.lst [V.str ("":Str)])) p3 (.lst (aG ((am D).map V.str) none (some (y-3))++[V.str ("":Str)])) p3=some (.lst (aG ((am D).map V.str) none (some (y-3))++[V.str ("":Str)])):=aa;generalize upd (upd H1 p2 (.lst [V.str ("":Str)])) p3 (.lst (aG ((am D).map V.str) none (some (y-3))++[V.str ("":Str)]))=H3 at w3 e3 ⊢;refine⟨_,rfl,_,rfl,_,_,rfl,rfl,_,rfl,w,_,rfl,w3.seq hW,fun p4 g4=>?_⟩;have w4:=af g4 (.lst (aG ((am D).map V.str) (some (y-3)) none));refine⟨p3,p4,_,_,rfl,rfl,w4 _ _ e3,aa,aL (by rw[Zh,Zn];omega),fun p5 g5=>?_⟩;rw[gc (i:=k) (j:=k) (a:=(y-3)) (b:=(y-3)) ek ek];exact⟨" ",p5,_,rfl,rfl,SqL.of aa,jo i1 i2,q _ _ (w3.trans (w4.trans (af g5 _))) (dE i1 i2) bad⟩
 refine⟨_,rfl,_,_,rfl,rfl,_,rfl,dw (fun e=>?_) (fun e9=>?_)⟩
 ·have h1:atI ((am D).map V.str) 1=some (.str (ai "," D.ns)):=bc (j:=1) rfl;have l1:=Fi.lens.1;have sm:∀z:Str,z.length<=2->(ai "," D.ns).length+z.length<=sizeLine:=fun z hz=>eY (by omega);refine⟨_,rfl,w,_,_,_,rfl,rfl,hW,h1,_,_,rfl,rfl,sm _ (by decide),_,rfl,w,_,_,_,rfl,rfl,hW,h1,_,_,rfl,rfl,sm _ (by decide),_,rfl,w,_,_,_,rfl,rfl,hW,h1,_,_,rfl,rfl,sm _ (by decide),sz rfl,fun p g=>?_⟩;obtain⟨z,hat,lz,bad⟩:∃z:Str,atI [V.str (ai "," D.ns++",0"),V.str (ai "," D.ns++","),V.str (ai "," D.ns++"/0")] (y-6)=some (.str z)/\z.length<=6000/\RdR K hands (Txt.join " " ((am D).take 1++[z]++(am D).drop 2)) none:=by
   have lz:∀z:Str,z.length<=2->(ai "," D.ns++z).length<=6000:=fun z hz=>by rw[ZD];omega
   rcases(show y=6\/y=7\/y=8 by omega)with rfl|rfl|rfl
   ·exact⟨_,rfl,lz _ (by decide),AX Fi⟩
   ·exact⟨_,rfl,lz _ (by decide),AY Fi⟩
   ·exact⟨_,rfl,lz _ (by decide),AZ Fi⟩
  have w0:=af g (.lst [V.str (ai "," D.ns++",0"),V.str (ai "," D.ns++","),V.str (ai "," D.ns++"/0")]);refine⟨_,rfl,_,_,rfl,rfl,p,_,_,_,rfl,rfl,SqL.of aa,hat,?_⟩
  replace hW:=w0.seq hW
  replace q:∀x H',Same _ H'->x.length<=100000->RdR K hands x none->Q (.str x) H':=fun x H' s1 l r=>q x H' (w0.trans s1) l r
  generalize upd H p (.lst [V.str (ai "," D.ns++",0"),V.str (ai "," D.ns++","),V.str (ai "," D.ns++"/0")])=H at hW q ⊢;obtain⟨i1,i2⟩:=Fi.ins (i:=1) (j:=2) (z:=z) lz (by omega);refine⟨rfl,_,rfl,_,rfl,w,_,rfl,hW,fun p1 g1=>?_⟩;have w1:=af g1 (.lst (aG ((am D).map V.str) none (some 1)));have e1:upd H p1 (.lst (aG ((am D).map V.str) none (some 1))) p1=some (.lst (aG ((am D).map V.str) none (some 1))):=aa;have lc1:=bo ((am D).map V.str) none (some 1);have lc2:=bo ((am D).map V.str) (some 2) none;rw[z6]at lc1 lc2;generalize upd H p1 (.lst (aG ((am D).map V.str) none (some 1)))=H1 at w1 e1 ⊢;refine⟨_,rfl,sz rfl,fun p2 g2=>?_⟩;have w2:=af g2 (.lst [V.str z]);refine⟨p1,p2,_,_,rfl,rfl,w2 _ _ e1,aa,aL (by rw[Zn];omega),fun p3 g3=>?_⟩;have w3:=(w1.trans w2).trans (af g3 (.lst (aG ((am D).map V.str) none (some 1)++[V.str z])));have e3:upd (upd H1 p2 (.lst [V.str z])) p3 (.lst (aG ((am D).map V.str) none (some 1)++[V.str z])) p3=some (.lst (aG ((am D).map V.str) none (some 1)++[V.str z])):=aa;generalize upd (upd H1 p2 (.lst [V.str z])) p3 (.lst (aG ((am D).map V.str) none (some 1)++[V.str z]))=H3 at w3 e3 ⊢;refine⟨_,rfl,_,rfl,w,_,rfl,w3.seq hW,fun p4 g4=>?_⟩;have w4:=af g4 (.lst (aG ((am D).map V.str) (some 2) none));refine⟨p3,p4,_,_,rfl,rfl,w4 _ _ e3,aa,aL (by rw[Zh,Zn];omega),fun p5 g5=>?_⟩;rw[gc (i:=1) (j:=2) (a:=1) (b:=2) rfl rfl];exact⟨" ",p5,_,rfl,rfl,SqL.of aa,jo i1 i2,q _ _ (w3.trans (w4.trans (af g5 _))) (dE i1 i2) bad⟩
 refine⟨_,rfl,rfl,_,rfl,et (fun e=>?_) (fun e9'=>?_)⟩
 ·obtain⟨u1,u2,u3⟩:=xQ D.wd (iO Fi.dat);obtain⟨cc,hc,hc2⟩:=List.any_eq_true.mp u3;have bad:RdR K hands (Txt.join " " ((am D).take 2++[Txt.upper D.wd]++(am D).drop 3)) none:=uS Fi u2 hc (.inl (y6 hc2));have h2:atI ((am D).map V.str) 2=some (.str D.wd):=bc (j:=2) rfl;obtain⟨i1,i2⟩:=Fi.ins (i:=2) (j:=3) (z:=(Txt.upper D.wd)) (by omega) (by omega);refine⟨rfl,_,rfl,_,rfl,w,_,rfl,hW,fun p1 g1=>?_⟩;have w1:=af g1 (.lst (aG ((am D).map V.str) none (some 2)));have e1:upd H p1 (.lst (aG ((am D).map V.str) none (some 2))) p1=some (.lst (aG ((am D).map V.str) none (some 2))):=aa;have lc1:=bo ((am D).map V.str) none (some 2);have lc2:=bo ((am D).map V.str) (some 3) none;rw[z6]at lc1 lc2;generalize upd H p1 (.lst (aG ((am D).map V.str) none (some 2)))=H1 at w1 e1 ⊢;refine⟨_,rfl,w,_,_,_,rfl,rfl,w1.seq hW,h2,rfl,_,rfl,rfl,(by show decide ((Txt.upper D.wd).length>sizeLine)=false;exact decide_eq_false (Nat.not_lt.mpr (Zd u1 (eY (by decide))))),sz rfl,fun p2 g2=>?_⟩;have w2:=af g2 (.lst [V.str (Txt.upper D.wd)]);refine⟨p1,p2,_,_,rfl,rfl,w2 _ _ e1,aa,aL (by rw[Zn];omega),fun p3 g3=>?_⟩;have w3:=(w1.trans w2).trans (af g3 (.lst (aG ((am D).map V.str) none (some 2)++[V.str (Txt.upper D.wd)])));have e3:upd (upd H1 p2 (.lst [V.str (Txt.upper D.wd)])) p3 (.lst (aG ((am D).map V.str) none (some 2)++[V.str (Txt.upper D.wd)])) p3=some (.lst (aG ((am D).map V.str) none (some 2)++[V.str (Txt.upper D.wd)])):=aa;generalize upd (upd H1 p2 (.lst [V.str (Txt.upper D.wd)])) p3 (.lst (aG ((am D).map V.str) none (some 2)++[V.str (Txt.upper D.wd)]))=H3 at w3 e3 ⊢;refine⟨_,rfl,_,rfl,w,_,rfl,w3.seq hW,fun p4 g4=>?_⟩;have w4:=af g4 (.lst (aG ((am D).map V.str) (some 3) none));refine⟨p3,p4,_,_,rfl,rfl,w4 _ _ e3,aa,aL (by rw[Zh,Zn];omega),fun p5 g5=>?_⟩;rw[gc (i:=2) (j:=3) (a:=2) (b:=3) rfl rfl];exact⟨" ",p5,_,rfl,rfl,SqL.of aa,jo i1 i2,q _ _ (w3.trans (w4.trans (af g5 _))) (dE i1 i2) bad⟩
 refine⟨_,rfl,rfl,_,rfl,et (fun e=>?_) (fun e10=>?_)⟩
 ·obtain⟨m,em,m3,bad⟩:∃m:Nat,(2:Int)+(if(!decide (V.str (kst D.ks)=V.str ""))=true then 1 else 0)=(m:Int)/\m<=3/\RdR K hands (Txt.join " " ((am D).take m)) none:=by
   by_cases hk:D.ks=[]
   ·refine⟨2,?_,by decide,wY Fi⟩;rw[hk];decide +kernel
   ·refine⟨3,?_,by decide,sK Fi hk⟩;rw[decide_eq_false fun z=>hk ?_]
    ·rfl
    ·have z:kst D.ks="":=V.str.inj z;have zl:=aW D.ks;rw[z]at zl;exact List.eq_nil_of_length_eq_zero zl.symm
  refine⟨rfl,_,rfl,_,rfl,rfl,.inr ⟨_,rfl,_,_,rfl,rfl,_,rfl,w,_,rfl,hW,fun p1 g1=>?_⟩⟩;rw[em,nR];have bt:∀x∈(am D).take m,x.length<=6000:=fun x hx=>b6 x (List.mem_of_mem_take hx);have lt:((am D).take m).length<=12:=by rw[y8];omega
  exact⟨" ",p1,(am D).take m,rfl,rfl,SqL.of aa,jo bt lt,q _ _ (af g1 _) (dE bt lt) bad⟩
 refine⟨_,rfl,rfl,_,rfl,et (fun e=>?d) (fun e11=>⟨_,rfl,rfl,_,rfl,dw (fun e=>?e) (fun e12=>?f)⟩)⟩
 case d|e =>
  refine⟨_,_,rfl,rfl,rfl,by decide,by decide,fun z lz hz=>?_⟩;have h0:atI ((am D).map V.str) 0=some (.str (ag D.h)):=bc (j:=0) rfl;have lh:=Fi.hs.len;have lz:z.length=61:=lz;have ec:z++bu line (some ((ag D.h).length:Int)) none=Txt.join " " (z::ai "," D.ns::D.wd::D.xs):=by rw[<-el];unfold am;refine bM ?_;rw[aM,uL (by rw[txj];exact jR (s:=ch1 32) (by simp)),txj,txj,cg,List.drop_left' (by rw[Zz];rfl),cg 32 z]
  have z49:∀c∈z.cps.toList,c=49:=fun c hc=>by have h:c∈[49]:=hz c hc;exact Ze.mp h
  have bad:RdR K hands (z++bu line (some ((ag D.h).length:Int)) none) none:=by
   rw[ec];refine uP Fi (fun h=>?_) (by omega) ?_ (ve z49 (by omega))
   ·have:=z49 _ h;omega
   ·rw[<-ZP,Zx];intro c hc;rw[z49 c hc];decide
  have lc:=dZ line (some ((ag D.h).length:Int)) none;exact⟨_,rfl,_,rfl,w,_,_,_,rfl,rfl,hW,h0,_,rfl,by omega,_,rfl,line,rfl,by omega,_,_,rfl,rfl,eY (by omega),q _ _ (Same.refl _) (by rw[ZD];omega) bad⟩
 obtain⟨kl,hkl⟩:∃kl,D.ks.getLast?=some kl:=by
  cases h:D.ks.getLast? with
  |some k=>exact⟨k,rfl⟩
  |none =>rw[List.getLast?_eq_none_iff]at h;exact absurd (by rw[h];decide +kernel) e12
 have hl:=va hkl;have hkj:D.ks[D.ks.length-1]?=some kl:=by rw[<-Yd];exact hkl
 have lk:0<D.ks.length:=by have:=(Zf.mp hkj).1;omega
 have lw:(am D).length=3+D.ks.length:=Fi.wds.2;have snoc:∀{a:Str},NoB a->kl≠.t->RdR K hands (line++(ch1 32++a)) none:=fun{a} ha ht=>by rw[<-el,txj,jh (by unfold am;simp),<-txj];exact uR Fi (by rw[hkl];intro z;exact ht (Zo z)) ha
 dsimp only[rN];refine iG (fun σ' H'=>H=H'/\σ'=[some (.ref w),some (.str (kst D.ks)),some (.int y),some (.int c),some (.str line),none]/\(y=12->kl=.t)) (fun R hrt hR=>?_) ?_
 ·refine⟨_,rfl,rfl,_,rfl,et (fun e=>?_) (fun e=>hR _ _ ⟨rfl,rfl,fun z=>absurd z e⟩)⟩;refine⟨_,rfl,_,rfl,kst D.ks,_,_,rfl,rfl,szl,hl,rfl,_,rfl,?_⟩;rw[qS];refine dw (fun e2=>?_) (fun e2=>hR _ _ ⟨rfl,rfl,fun _=>Decidable.byContradiction e2⟩);have bad:=snoc (a:="") (by unfold NoB;decide +kernel) e2;refine⟨_,rfl,_,_,rfl,rfl,eY (by show line.length+1<=100000;omega),?_⟩;rw[hrt];exact q _ _ (Same.refl _) (by rw[ZD];show line.length+1<=100000;omega) bad
 rintro _ _ ⟨rfl,rfl,e120⟩;refine iG (fun σ' H'=>H=H'/\σ'=[some (.ref w),some (.str (kst D.ks)),some (.int y),some (.int c),some (.str line),none]/\(y=13->kl=.t)) (fun R hrt hR=>?_) ?_
 ·refine⟨_,rfl,rfl,_,rfl,et (fun e=>?_) (fun e=>hR _ _ ⟨rfl,rfl,fun z=>absurd z e⟩)⟩;refine⟨_,rfl,_,rfl,kst D.ks,_,_,rfl,rfl,szl,hl,rfl,_,rfl,?_⟩;rw[qS];refine dw (fun e2=>?_) (fun e2=>hR _ _ ⟨rfl,rfl,fun _=>Decidable.byContradiction e2⟩);have bad:=snoc (a:="0") (by unfold NoB;decide +kernel) e2;refine⟨_,rfl,_,_,rfl,rfl,eY (by show line.length+2<=100000;omega),?_⟩;rw[hrt];exact q _ _ (Same.refl _) (by rw[ZD];show line.length+2<=100000;omega) bad
 rintro _ _ ⟨rfl,rfl,e130⟩;refine iG (fun σ' H'=>H=H'/\σ'=[some (.ref w),some (.str (kst D.ks)),some (.int y),some (.int c),some (.str line),none]/\(y=15->kl=.t)) (fun R hrt hR=>?_) ?_
 ·refine⟨_,rfl,rfl,_,rfl,et (fun e=>?_) (fun e=>hR _ _ ⟨rfl,rfl,fun z=>absurd z e⟩)⟩;refine⟨_,rfl,_,rfl,kst D.ks,_,_,rfl,rfl,szl,hl,rfl,_,rfl,?_⟩;rw[qS];refine dw (fun e2=>?_) (fun e2=>hR _ _ ⟨rfl,rfl,fun _=>Decidable.byContradiction e2⟩);obtain⟨d,hd,fd',hx,hs⟩:=Fi.at3 hkj;have ha:(am D).getLast?=some (aS kl d):=by rw[Yd,lw,show 3+D.ks.length-1=3+(D.ks.length-1) by omega];exact hx
  have lx:=hG fd';have bad:RdR K hands (Txt.join " " ((am D).set (3+(D.ks.length-1)) (("0":Str)++aS kl d))) none:=by rw[hs];exact nW Fi hkj hd e2
  refine⟨rfl,_,rfl,_,rfl,_,rfl,w,_,rfl,hW,fun p1 g1=>?_⟩;rw[show aG ((am D).map V.str) none (some (-1))=_ from uM];have w1:=af g1 (.lst ((am D).dropLast.map V.str));have e1:upd H p1 (.lst ((am D).dropLast.map V.str)) p1=some (.lst ((am D).dropLast.map V.str)):=aa;generalize upd H p1 (.lst ((am D).dropLast.map V.str))=H1 at w1 e1 ⊢;refine⟨_,rfl,_,rfl,w,_,_,_,rfl,rfl,w1.seq hW,jN ha,_,_,rfl,rfl,eY (by show 1+_<=100000;omega),sz rfl,fun p2 g2=>?_⟩;have w2:=af g2 (.lst [V.str (("0":Str)++aS kl d)]);refine⟨p1,p2,_,_,rfl,rfl,w2 _ _ e1,aa,aL (by rw[z6,List.length_dropLast,Zn];omega),fun p3 g3=>?_⟩;rw[show(am D).dropLast.map V.str++[V.str (("0":Str)++aS kl d)]=((am D).set (3+(D.ks.length-1)) (("0":Str)++aS kl d)).map V.str by rw[<-kn (by omega),ZO];rfl];have l0:(("0":Str)++aS kl d).length<=6000:=by rw[ZD,show("0":Str).length=1 from rfl];omega
  have bs:∀x∈(am D).set (3+(D.ks.length-1)) (("0":Str)++aS kl d),x.length<=6000:=fun x hx=>by
   rcases Yc hx with h|h
   ·exact b6 x h
   ·rw[h];exact l0
  refine⟨" ",p3,_,rfl,rfl,SqL.of aa,jo bs (by rw[Z7];omega),?_⟩;rw[hrt];exact q _ _ (w1.trans (w2.trans (af g3 _))) (ul Fi l0) bad
 rintro _ _ ⟨rfl,rfl,e150⟩;refine⟨_,rfl,rfl,_,rfl,et (fun e=>?_) (fun e14=>?_)⟩
 ·obtain⟨k0,hk0⟩:∃k0,D.ks[0]?=some k0:=⟨_,Za lk⟩
  have kt:k0≠.t:=by
   have:∀ks∈KDS,ks[0]?≠some .t:=by decide +kernel
   intro z;subst z;exact this _ hK hk0
  obtain⟨d,hd,fd',hx,hs⟩:=Fi.at3 hk0;have lx:=hG fd';have l0:(("0":Str)++aS k0 d).length<=6000:=by rw[ZD,show("0":Str).length=1 from rfl];omega
  have bad:RdR K hands (Txt.join " " ((am D).take 3++[("0":Str)++aS k0 d]++(am D).drop 4)) none:=by rw[qi (k:=3) (by omega),hs];exact nW Fi hk0 hd kt
  have h3:atI ((am D).map V.str) 3=some (.str (aS k0 d)):=by refine bc (j:=3) ?_;rw[ZB,show(am D)[3]?=_ from hx];rfl
  obtain⟨i1,i2⟩:=Fi.ins (i:=3) (j:=4) (z:=(("0":Str)++aS k0 d)) l0 (by omega);refine⟨rfl,_,rfl,_,rfl,w,_,rfl,hW,fun p1 g1=>?_⟩;have w1:=af g1 (.lst (aG ((am D).map V.str) none (some 3)));have e1:upd H p1 (.lst (aG ((am D).map V.str) none (some 3))) p1=some (.lst (aG ((am D).map V.str) none (some 3))):=aa;have lc1:=bo ((am D).map V.str) none (some 3);have lc2:=bo ((am D).map V.str) (some 4) none;rw[z6]at lc1 lc2;generalize upd H p1 (.lst (aG ((am D).map V.str) none (some 3)))=H1 at w1 e1 ⊢;refine⟨_,rfl,w,_,_,_,rfl,rfl,w1.seq hW,h3,_,_,rfl,rfl,eY (by show 1+_<=100000;omega),sz rfl,fun p2 g2=>?_⟩;have w2:=af g2 (.lst [V.str (("0":Str)++aS k0 d)]);refine⟨p1,p2,_,_,rfl,rfl,w2 _ _ e1,aa,aL (by rw[Zn];omega),fun p3 g3=>?_⟩;have w3:=(w1.trans w2).trans (af g3 (.lst (aG ((am D).map V.str) none (some 3)++[V.str (("0":Str)++aS k0 d)])));have e3:upd (upd H1 p2 (.lst [V.str (("0":Str)++aS k0 d)])) p3 (.lst (aG ((am D).map V.str) none (some 3)++[V.str (("0":Str)++aS k0 d)])) p3=some (.lst (aG ((am D).map V.str) none (some 3)++[V.str (("0":Str)++aS k0 d)])):=aa;generalize upd (upd H1 p2 (.lst [V.str (("0":Str)++aS k0 d)])) p3 (.lst (aG ((am D).map V.str) none (some 3)++[V.str (("0":Str)++aS k0 d)]))=H3 at w3 e3 ⊢;refine⟨_,rfl,_,rfl,w,_,rfl,w3.seq hW,fun p4 g4=>?_⟩;have w4:=af g4 (.lst (aG ((am D).map V.str) (some 4) none));refine⟨p3,p4,_,_,rfl,rfl,w4 _ _ e3,aa,aL (by rw[Zh,Zn];omega),fun p5 g5=>?_⟩;rw[gc (i:=3) (j:=4) (a:=3) (b:=4) rfl rfl];exact⟨" ",p5,_,rfl,rfl,SqL.of aa,jo i1 i2,q _ _ (w3.trans (w4.trans (af g5 _))) (dE i1 i2) bad⟩
 have kt:kl=.t:=by
  rcases(show y=12\/y=13\/y=15 by omega)with h|h|h
  ·exact e120 h
  ·exact e130 h
  ·exact e150 h
 subst kt;obtain⟨d,hd,fd',hx,hs⟩:=Fi.at3 hkj;cases d<;>first|exact fd'.elim|skip
 rename_i s;have ls:s.length<=60:=by
  unfold eQ at hD;rw[Zy,Zx]at hD;have m:D.bs[D.ks.length-1]?=some (decide (s.length<=60)):=by unfold Dt14.bs;rw[Z4,hkj,hd];rfl
  exact y6 (hD.2 _ (ZC m))
 refine⟨_,rfl,_,_,rfl,rfl,rfl,by decide,by decide,fun z lz hz=>?_⟩;have lz:z.length=61:=lz;have z97:∀c∈z.cps.toList,c=97:=fun c hc=>by have h:c∈[97]:=hz c hc;exact Ze.mp h
 have bad:RdR K hands (line++z) none:=by rw[<-el,sR hx (by omega),hs];refine uQ Fi hkj hd ?_ (by rw[ZD];omega) (by show(s++z).length<=200;rw[ZD];omega);unfold bE;rw[Zx];intro c hc;rw[z97 c hc];decide +kernel
 exact⟨_,_,rfl,rfl,eY (by omega),q _ _ (Same.refl _) (by rw[ZD];omega) bad⟩
theorem jQ{H:Hp}{a b:Addr}{ns:List Int}(ea:H a=some (.tup (ns.map V.int)))(eb:H b=some (.tup (ns.map V.int)))(l:ns.length<=100):Alk 1 H (.ref a) (.ref b) :=
 .inr ⟨a,b,_,_,rfl,rfl,ea,eb,rfl,by rw[z6];exact l,fun i u v e1 e2=>by
  rw[e1]at e2;cases e2;obtain⟨rfl,_⟩:=io e1;exact⟨rfl,.inr (.inr (.inl ⟨_,rfl⟩))⟩⟩
theorem PdAt.alk{H:Hp}{u v:V}{k:Kd}{d:Pd}(x:PdAt H u d)(y:PdAt H v d)(f:eg k d):Alk 1 H u v:=by
 cases d with
 |non=>rw[show u=.non from x,show v=.non from y];exact .inl ⟨rfl,.inl rfl⟩
 |bl b=>rw[show u=.bl b from x,show v=.bl b from y];exact .inl ⟨rfl,.inr (.inr (.inr ⟨b,rfl⟩))⟩
 |nu i=>rw[show u=.int i from x,show v=.int i from y];exact .inl ⟨rfl,.inr (.inr (.inl ⟨i,rfl⟩))⟩
 |tx s=>rw[show u=.str s from x,show v=.str s from y];exact .inl ⟨rfl,.inr (.inl ⟨s,rfl⟩)⟩
 |nm i j =>obtain⟨a,rfl,e⟩:=x;obtain⟨b,rfl,e'⟩:=y;exact jQ e e' (by show 2<=100;decide)
 |pl ms =>
  obtain⟨a,rfl,e⟩:=x;obtain⟨b,rfl,e'⟩:=y;refine jQ e e' ?_;cases k<;>first|exact f.elim|skip
  exact Zd f.2.1 (by decide)
theorem DeedAt.alk{H:Hp}{u v:V}{D:Dt14}{hands:Int}(x:DeedAt H u D)(y:DeedAt H v D)(Fi:D.Fit hands):Alk 3 H u v:=by
 obtain⟨d,c,t,ps,rfl,h1,h2,h3,h4,h5⟩:=x;obtain⟨d',c',t',ps',rfl,g1,g2,g3,g4,g5⟩:=y;have nl:=Fi.nl;have n8:=Fi.n8;have l3:=Fi.l3;have hl:=Fi.len;have ac:Alk 1 H (.ref c) (.ref c'):=jQ h2 g2 (by omega);have at':Alk 2 H (.ref t) (.ref t'):=by
  refine .inr ⟨t,t',_,_,rfl,rfl,h3,g3,by simp[h4,g4],by simp;omega,fun i u v e1 e2=>?_⟩;cases i with
  |zero =>cases e1;cases e2;exact .inl ⟨rfl,.inr (.inl ⟨_,rfl⟩)⟩
  |succ i =>
   have e1:ps[i]?=some u:=e1;have e2:ps'[i]?=some v:=e2;have hi:i<D.ds.length:=by rw[<-h4];exact(Zf.mp e1).1
   have ed:=Za hi;have ek:=Za (l:=D.ks) (i:=i) (by omega);exact(h5 i u _ e1 ed).alk (g5 i v _ e2 ed) (Fi.fit i _ _ ek ed)
 refine .inr ⟨d,d',_,_,rfl,rfl,h1,g1,rfl,by simp,fun i u v e1 e2=>?_⟩
 match i,e1,e2 with
 |0,e1,e2 =>cases e1;cases e2;exact .inl ⟨rfl,.inr (.inr (.inl ⟨_,rfl⟩))⟩
 |1,e1,e2 =>cases e1;cases e2;exact ac.up
 |2,e1,e2 =>cases e1;cases e2;exact at'
 |n+3,e1,e2=>cases e1
theorem xU{m:Nat}{x:Str}(h:WDS[m]?=some x):NoB x:=by
 have k:∀x∈WDS,(x.cps.toList.contains 32)=false:=by decide +kernel
 intro hm;have:=k x (ZC h);rw[List.contains_iff_mem.mpr hm]at this;cases this
theorem yx{m:Nat}{l:List Kd}(h:KDS[m]?=some l):∀i:Nat,l[i]?=some .t->i+1=l.length:=fun i hi=>by
 have k:∀l∈KDS,∀i:Fin 3,l[i.val]?=some .t->i.val+1=l.length:=by decide
 have lk:=lO h;have hl:=(Zf.mp hi).1;exact k l (ZC h) ⟨i,by omega⟩ hi
theorem vP{α β:Type}{ys:List α}{ds:List β}{v:α}{d:β}(h:ys.length=ds.length){j:Nat}{p:α}{x:β}(h1:(ys++[v])[j]?=some p)(h2:(ds++[d])[j]?=some x):(ys[j]?=some p/\ds[j]?=some x)\/(j=ds.length/\p=v/\x=d):=by
 by_cases hj:j<ys.length
 ·rw[Z2 hj]at h1;rw[Z2 (by omega)]at h2;exact .inl ⟨h1,h2⟩
 ·have hl:=(Zf.mp h1).1;rw[Zh]at hl;have e:j=ys.length:=by simp at hl;omega
  subst e;rw[ZW (Zg _),Nat.sub_self]at h1;rw[h,ZW (Zg _),Nat.sub_self]at h2;cases h1;cases h2;exact .inr ⟨h,rfl,rfl⟩
theorem vQ{xs:List Str}{n:Nat}(h:xs.length=n):((List.range n).map fun i=>V.str (xs.getD i ""))=xs.map V.str:=by
 refine List.ext_getElem (by simp[h]) fun i h1 h2=>?_;have:i<xs.length:=by rw[z6]at h2;exact h2
 rw[List.getElem_map,List.getElem_map,List.getElem_range];simp[this]
theorem tm{H:Hp}{v:V}{D:Dt14}{hands:Int}(F:D.Fit hands)(da:DeedAt H v (dOf (ag D.h) (ai "," D.ns) D.wd D.ks (D.ds.map cn))):DeedAt H v D:=by
 obtain⟨d,c,t,ps,rfl,h2,h3,h4,h5,h6⟩:=da;have ck:clk (ai "," D.ns)=D.ns.map ag:=di iF F.ne;refine⟨d,c,t,ps,rfl,?_,?_,h4,?_,fun i p x a b=>wg (h6 i p (cn x) a ?_)⟩
 ·have:(dOf (ag D.h) (ai "," D.ns) D.wd D.ks (D.ds.map cn)).h=D.h:=dJ F.hs;rw[this]at h2;exact h2
 ·have:(dOf (ag D.h) (ai "," D.ns) D.wd D.ks (D.ds.map cn)).ns=D.ns:=by show(clk (ai "," D.ns)).map dz=D.ns;rw[ck];exact(cb F.sm).2
  rw[this]at h3;exact h3
 ·have:(dOf (ag D.h) (ai "," D.ns) D.wd D.ks (D.ds.map cn)).ds.length=D.ds.length:=by show(D.ds.map cn).length=_;rw[z6]
  rw[h5,this]
 ·show(D.ds.map cn)[i]?=some (cn x);rw[ZB,b];rfl
def nw(K:PySem.W.Frag):Sp:=fun vs H Q _=>∃(a:Addr) (ns:List Int),vs=[.ref a]/\SqL K H a (ns.map V.int)/\ns.length<=63/\∀H',Q (.bl true) H'
abbrev gv:Stmt:=top 64
abbrev wa:List Str:=["_law_script","_law_hands","_law_hand","_law_at","_law_words","_law_kinds","_law_clock_here","_law_parts","_law_due","_law_line","_law_cell"]
theorem cM:FnScope wa ["_law_script"] (au gv):=⟨rfl,rfl,rfl,by decide +kernel,rfl,by decide +kernel,by decide +kernel⟩
theorem yI{f:Addr}{fd:FuncData}(F:Fun K "law" "law" gv f fd)(a8:Fn P w K mg base 1 "_law_cell_at" ["_law_script","_law_k"] (gY K))(Bn:Fn P w K mg base 2 "_law_clock" ["_law_script","_law_hands","_law_hand","_law_kinds"] (qj K))(Bw:Fn P w K mg base 3 "_law_part" ["_law_script","_law_kind","_law_clock_here","_law_hand","_law_k"] (qm K))(By:Fn P w K mg base 1 "_law_word" ["_law_kind","_law_part_here"] uh)(i4:Fn P w K mg base 5 "_law_alike" ["_law_found","_law_due"] (jB 3))(Bf:Fn P w K mg base 9 "_law_told" ["_law_line","_law_hands"] (uf K))(n6:Fn P w K mg base 9 "_law_refused" ["_law_line","_law_hands"] (uc K))(Bo:Fn P w K mg base 3 "_law_fault" ["_law_words","_law_kinds","_law_way","_law_cell"] (zK K))(dg:PySem.W.nsIn K cStatics "sys.int_max_str_digits" = some none)(c7:mg "str" = none)(a7:mg "tuple" = none)(a9:mg "range" = none)(a6:mg "len" = none):FnOk P w K mg base CX0 10 f fd ["_law_script"] (nw K):=by
 refine F.okQ cM (fun vs H Q E h=>?_) (fun cdv A outer s H vs Q E hr h=>?_)
 ·obtain⟨a,sc,rfl,_⟩:=h;rfl
 obtain⟨a,sc,rfl,hS,hl,q⟩:=h;have hb:∃t,QB (dO CX0 P w K mg base wa "law" (au gv) f cdv A outer s H E).nox ((bR gv).drop 6) t/\∀(hands hd:Int) (c:Addr) (ns:List Int) (m:Nat) (ks:List Kd) (wd:Str) (wl:Addr) (H1:Hp),1<=hands->hands<=8->0<=hd->hd<hands->KDS[m]?=some ks->WDS[m]?=some wd->Same H H1->H1 wl=some (.lst (WDS.map V.str))->H1 c=some (.tup (ns.map V.int))->ClockOk sc ns hands hd ks ks.length->t { nx:=fun _ H'=>Q .non H',rt:=Q } [some (.ref a),some (.int hands),some (.int hd),some (.int m),some (.ref wl),some (.str (kst ks)),some (.ref c),none,none,none,none] H1:=by
  refine⟨_,(b_c (aJ (i:=7) cM.nd (cK (own:=["_law_j"]) (⟨rfl,by decide +kernel,by decide +kernel,rfl,⟨rfl,rfl,⟨rfl,rfl,⟨rfl,rfl,⟨rfl,rfl,trivial⟩⟩⟩⟩⟩:CompOk _ _ [0,5,6,2] ["_law_script","_law_kinds","_law_clock_here","_law_hand"]) rfl (fc a9 (q_a (q_B fN a6 Zw (q_a (q_v 5) ad)) ad)) (fun _ _ _ _=>bp (i:=0) (show (["_law_j","_law_script","_law_kinds","_law_clock_here","_law_hand"]:List Str).Nodup by decide +kernel)) (bj (by decide)) (fun _ _ _ _=>du) (fun _ _ _ _=>(aI Bw (hr.mono (by decide)) (q_a (q_v 1) (q_a (aE eZ (q_v 2) (q_v 0)) (q_a (q_v 3) (q_a (q_v 4) (q_a (ar bx ae (ar iq ae (q_v 0))) ad)))))))))
   (b_c (aJ (i:=8) cM.nd (gm (q_a (q_v 2) (q_a (q_v 6) (q_a (ar sZ (gm (q_a (aE aO (q_v 4) (q_v 3)) ad)) (ci kE a7 bq (q_a (q_v 7) ad))) ad)))))
   (b_c (aJ (i:=9) cM.nd (bS (q_a (ci (fE (K:=K) rfl rfl dg) c7 ce (q_a (q_v 2) ad)) (q_a (bY ah (cK (own:=["_law_number"]) (⟨rfl,by decide +kernel,by decide +kernel,rfl,trivial⟩:CompOk _ _ [] []) rfl (nj (q_v 6)) (fun _ _ _ _=>bp (i:=0) (show (["_law_number"]:List Str).Nodup by decide +kernel)) (bj (by decide)) (fun _ _ _ _=>du) (fun _ _ _ _=>(ci (fE (K:=K) rfl rfl dg) c7 ce (q_a (q_v 0) ad))))) (q_a (aE aO (q_v 4) (q_v 3)) ad)))))
   (b_c (aJ (i:=9) cM.nd (ar cV (q_v 9) (cK (own:=["_law_j"]) (⟨rfl,by decide +kernel,by decide +kernel,rfl,⟨rfl,rfl,⟨rfl,rfl,trivial⟩⟩⟩:CompOk _ _ [5,7] ["_law_kinds","_law_parts"]) rfl (fc a9 (q_a (q_B fN a6 Zw (q_a (q_v 5) ad)) ad)) (fun _ _ _ _=>bp (i:=0) (show (["_law_j","_law_kinds","_law_parts"]:List Str).Nodup by decide +kernel)) (bj (by decide)) (fun _ _ _ _=>du) (fun _ _ _ _=>(aI By (hr.mono (by decide)) (q_a (aE eZ (q_v 1) (q_v 0)) (q_a (aE (xW (K:=K) rfl) (q_v 2) (q_v 0)) ad)))))))
   (b_c (aC (bQ (bf (aI i4 (hr.mono (by decide)) (q_a (aI Bf (hr.mono (by decide)) (q_a (bY ah (q_v 9)) (q_a (q_v 1) ad))) (q_a (q_v 8) ad))))) (b_1 (aq dA)) b_0)
   (b_c (rA PassesOwn.never rfl (oh (ar cV (bS (q_a (ar bx (aI a8 (hr.mono (by decide)) (q_a (q_v 0) (q_a ae ad))) (aI a8 (hr.mono (by decide)) (q_a (q_v 0) (q_a ae ad)))) ad)) (cG bW (q_v 0) (cy ae) (cy ae)))) (bp (i:=10) cM.nd) (b_1 (aC (bQ (bf (aI n6 (hr.mono (by decide)) (q_a (aI Bo (hr.mono (by decide)) (q_a (q_v 9) (q_a (q_v 5) (q_a (ar aZ (q_v 10) ae) (q_a (ar fe (q_v 10) ae) ad))))) (q_a (q_v 1) ad))))) (b_1 (aq dA)) b_0)))
   (b_c (aC (bQ (bf (aI n6 (hr.mono (by decide)) (q_a (bY ah (q_v 9)) (q_a (ar bx (ar aZ (q_v 1) ae) ae) ad))))) (b_1 (aq dA)) b_0)
   (b_1 (aq (aI i4 (hr.mono (by decide)) (q_a (aI Bf (hr.mono (by decide)) (q_a (bY ah (q_v 9)) (q_a (q_v 1) ad))) (q_a (q_v 8) ad)))))))))))),?_⟩
  intro hands hd c ns m ks wd wl H1 h1 h8 d0 d1 hks hwd s0 ew ec ck;obtain⟨hdat,lwd⟩:=xV hks hwd;have lk:=lO hks;have szk:(kst ks).length<=sizeLine:=aL (by rw[aW];omega);have nl:(ns.length:Int)=hands:=by have:=ck.1;omega
  have hns:∀n∈ns,0<=n/\Sm n:=fun n hn=>by have:=ck.2.1 n hn;exact⟨this.1,Sm.of (k:=59) (by omega) this.2 (by decide)⟩
  refine⟨_,rfl,_,rfl,by rw[aW];omega,_,rfl,by rw[aW];omega,by rw[aW];omega,?_⟩;rw[aW,Yf];refine jP (N:=ks.length) (fun i ys H'=>Same H1 H'/\ys.length=i/\∃ds:List Pd,ds.length=i/\(∀(j:Nat) (p:V) (x:Pd),ys[j]?=some p->ds[j]?=some x->PdAt H' p x)/\∀(j:Nat) (k:Kd) (d:Pd),ks[j]?=some k->ds[j]?=some d->eg k d/\okD hd ns k d=true) (by omega) (fun _ _ _ p=>p.2.1) ⟨Same.refl _,rfl,[],rfl,fun j p x h=>by simp at h,fun j k d _ h=>by simp at h⟩ (fun i ys H' hi _=>hi) (fun ys H' _=>Zg _) ?_ ?_
  ·rintro i ys H' x H2 hi ⟨sm,ly,ds,ld,pd,fi⟩ ⟨rfl,rfl⟩ R k;have hki:ks[i]?=some ks[i]:=Za hi;have hat:=iQ hki;generalize ks[i]=kd at hki hat;rw[show(0:Int)+(i:Int)=(i:Int) by omega];refine⟨_,rfl,_,rfl,_,rfl,kst ks,_,_,rfl,rfl,szk,hat,_,rfl,_,rfl,_,rfl,_,_,rfl,rfl,.inl ⟨by decide,by decide⟩,_,_,rfl,rfl,?_⟩;refine⟨a,c,sc,ns,hands,hd,ks,i,kd,rfl,(s0.trans sm).seq hS,h1,h8,d0,d1,hki,sm _ _ ec,ck,fun v d H3 s3 pv fv ov=>k v H3 ⟨sm.trans s3,by rw[Zh,ly];rfl,ds++[d],by rw[Zh,ld];rfl,fun j p x e1 e2=>?_,fun j k' d' e1 e2=>?_⟩⟩
   ·rcases vP (by omega) e1 e2 with⟨g1,g2⟩|⟨_,rfl,rfl⟩
    ·exact(pd j p x g1 g2).same s3
    ·exact pv
   ·by_cases hj:j<ds.length
    ·rw[Z2 hj]at e2;exact fi j k' d' e1 e2
    ·have hl:=(Zf.mp e2).1;rw[Zh]at hl;have e:j=ds.length:=by simp at hl;omega
     subst e;rw[ZW (Zg _),Nat.sub_self]at e2;cases e2;rw[ld,hki]at e1;cases e1;exact⟨fv,ov⟩
  rintro ys pp H2 ⟨s2,ly,ds,ld,pd,fi⟩ gpp;have w2:=af gpp (.lst ys);have ep:upd H2 pp (.lst ys) pp=some (.lst ys):=aa;have pd:∀(j:Nat) (p:V) (x:Pd),ys[j]?=some p->ds[j]?=some x->PdAt (upd H2 pp (.lst ys)) p x:=fun j p x e1 e2=>(pd j p x e1 e2).same w2;have S2:=s2.trans w2;generalize upd H2 pp (.lst ys)=H3 at ep pd S2 ⊢;have ec:=S2 _ _ ec;have ew:=S2 _ _ ew;have S3:=s0.trans S2;clear S2 w2 gpp s2 s0;have shd:Sm hd:=Sm.of (k:=59) (by omega) (by omega) (by decide);obtain⟨D,hD⟩:∃D:Dt14,D=⟨hd,ns,wd,ks,ds⟩:=⟨_,rfl⟩
  have Fi:D.Fit hands:=by rw[hD];exact⟨d0,shd,h8,h1,nl,hns,hdat,lwd,xU hwd,lk,ld,yx hks,fun i k d e1 e2=>(fi i k d e1 e2).1⟩
  have dB:eQ hands D=true:=by rw[hD];unfold eQ;show((decide (hd<hands)&&decide (1<=aj ns hd.toNat))&&(List.zipWith (okD hd ns) ks ds).all id)=true;rw[decide_eq_true d1,decide_eq_true ck.2.2.1,ZX,ZX,Zx];intro b hb;obtain⟨i,hi,rfl⟩:=Z3 hb;rw[List.length_zipWith]at hi;rw[List.getElem_zipWith];exact(fi i _ _ (Za (by omega)) (Za (by omega))).2
  have kD:D.ks=ks:=by rw[hD]
  have xl:=cP Fi;have hsm:∀n∈ns,Sm n:=fun n hn=>(hns n hn).2;have hwd':atI (WDS.map V.str) (m:Int)=some (.str wd):=by refine bc ?_;rw[ZB,hwd];rfl
  refine⟨_,rfl,_,rfl,_,rfl,_,rfl,wl,_,_,_,rfl,rfl,SqL.of ew,hwd',sz rfl,fun t1 g1=>?_⟩;have v1:=af g1 (.tup [.str wd]);refine⟨_,rfl,pp,_,rfl,.inl ⟨SqL.of (v1 _ _ ep),fun t2 g2=>?_⟩⟩;have v2:=af g2 (.tup ys);refine⟨t1,t2,_,_,rfl,rfl,v2 _ _ aa,aa,aL (by simp;omega),fun t3 H10 v3 e3=>?_⟩;refine⟨sz rfl,fun t4 g4=>?_⟩;have v4:=af g4 (.tup [.int hd,.ref c,.ref t3]);have vv:=v1.trans (v2.trans (v3.trans v4));have due:DeedAt (upd H10 t4 (.tup [.int hd,.ref c,.ref t3])) (.ref t4) D:=by
   refine⟨t4,c,t3,ys,rfl,?_,?_,?_,?_,?_⟩
   ·rw[show D.h=hd by rw[hD]];exact aa
   ·rw[show D.ns=ns by rw[hD]];exact vv _ _ ec
   ·rw[show D.wd=wd by rw[hD]];exact v4 _ _ e3
   ·rw[show D.ds=ds by rw[hD],ly,ld]
   ·rw[show D.ds=ds by rw[hD]];exact fun j p x e1 e2=>(pd j p x e1 e2).same vv
  have ec:=vv _ _ ec;have ew:=vv _ _ ew;have ep:=vv _ _ ep;have pd:∀(j:Nat) (p:V) (x:Pd),ys[j]?=some p->ds[j]?=some x->PdAt (upd H10 t4 (.tup [.int hd,.ref c,.ref t3])) p x:=fun j p x e1 e2=>(pd j p x e1 e2).same vv;have S4:=S3.trans vv;generalize upd H10 t4 (.tup [.int hd,.ref c,.ref t3])=H4 at due ec ew ep pd S4 ⊢;clear vv v4 v3 v2 v1 S3;refine⟨_,rfl,hd,rfl,shd.big,rfl,_,rfl,c,rfl,⟨_,SqT.of ec⟩,?_⟩;refine ic (fun i=>.str (ag (aj ns i))) (by rw[z6];omega) (SqT.of ec) (fun i x H1 hi sm R k=>?_) (fun p H5 sm hp=>?_)
  ·obtain⟨rfl,hj⟩:=io hi;exact⟨_,rfl,_,rfl,(hsm _ (by rw[<-fO hj];exact Z9 hj)).big,k H1 (Same.refl H1)⟩
  rw[pe,oi];have w4:=sm.trans (af hp (.lst ((ns.map ag).map V.str)));have e4:upd H5 p (.lst ((ns.map ag).map V.str)) p=some (.lst ((ns.map ag).map V.str)):=aa;generalize upd H5 p (.lst ((ns.map ag).map V.str))=H5 at w4 e4 ⊢;refine⟨",",p,ns.map ag,rfl,rfl,SqL.of e4,fP (fun y hy=>?_) (by decide +kernel) (by rw[z6];omega),?_⟩
  ·obtain⟨n,hn,rfl⟩:=ZM.mp hy;have:=(hsm n hn).len;omega
  refine⟨_,rfl,_,rfl,wl,_,_,_,rfl,rfl,SqL.of (w4 _ _ ew),hwd',sz rfl,fun pd' gd=>?_⟩;have w5:=af gd (.lst [.str (ag hd),.str (Txt.join "," (ns.map ag)),.str wd]);have ed:upd H5 pd' (.lst [.str (ag hd),.str (Txt.join "," (ns.map ag)),.str wd]) pd'=some (.lst ([ag hd,Txt.join "," (ns.map ag),wd].map V.str)):=aa;have S5:=w4.trans w5;generalize upd H5 pd' (.lst [.str (ag hd),.str (Txt.join "," (ns.map ag)),.str wd])=H6 at ed S5 ⊢;have ep:=S5 _ _ ep;have pd:∀(j:Nat) (p:V) (x:Pd),ys[j]?=some p->ds[j]?=some x->PdAt H6 p x:=fun j p x e1 e2=>(pd j p x e1 e2).same S5;have due:=due.same S5;have S6:=S4.trans S5;clear w4 w5 S5 S4;have xd:D.xs=List.zipWith aS ks ds:=by rw[hD];rfl
  have xl':D.xs.length=ks.length:=by rw[xl,hD]
  refine⟨_,rfl,_,rfl,_,rfl,by rw[aW];omega,_,rfl,by rw[aW];omega,by rw[aW];omega,?_⟩;rw[aW,Yf];refine fu (N:=ks.length) (lo:=0) (fun i=>.str (D.xs.getD i "")) (by omega) (fun i H7 hi s7 R k=>?_) (fun pw H7 s7 g7=>?_)
  ·rw[show(0:Int)+(i:Int)=(i:Int) by omega];have hki:ks[i]?=some ks[i]:=Za hi;have hyi:ys[i]?=some ys[i]:=Za (by omega);have hdi:ds[i]?=some ds[i]:=Za (by omega);have pw:=((pd i _ _ hyi hdi).part (fi i _ _ hki hdi).1).same s7;have hat:=iQ hki;have e:D.xs.getD i "" = aS ks[i] ds[i]:=by rw[List.getD_eq_getElem?_getD,xd,Z4,hki,hdi];rfl
   rw[e]at k;generalize ks[i]=kd at hki hat pw k;exact⟨_,rfl,_,rfl,kst ks,_,_,rfl,rfl,szk,hat,_,rfl,_,rfl,pp,_,_,_,rfl,rfl,SqL.of (s7 _ _ ep),bc hyi,kd,_,_,rfl,pw,fun H8 s8=>k H8 s8⟩
  rw[vQ (by omega)];have w7:=s7.trans (af g7 (.lst (D.xs.map V.str)));have e7:upd H7 pw (.lst (D.xs.map V.str)) pw=some (.lst (D.xs.map V.str)):=aa;generalize upd H7 pw (.lst (D.xs.map V.str))=H8 at w7 e7 ⊢;refine⟨pd',pw,_,_,rfl,rfl,w7 _ _ ed,e7,aL (by simp;omega),fun pq gq=>?_⟩;rw[<-ZO,show[ag hd,Txt.join "," (ns.map ag),wd]++D.xs=am D by rw[hD];rfl];have w9:=w7.trans (af gq (.lst ((am D).map V.str)));have eq:upd H8 pq (.lst ((am D).map V.str)) pq=some (.lst ((am D).map V.str)):=aa;generalize upd H8 pq (.lst ((am D).map V.str))=H9 at w9 eq ⊢;have due:=due.same w9;have S9:=S6.trans w9;clear w9 w7 S6 e7 ed pd ep ec ew;have b6:∀x∈am D,x.length<=6000:=fun x hx=>Zd (Fi.wds.1 x hx) (by decide);have l6:=Fi.w6;have ll:(Txt.join " " (am D)).length<=100000:=Zd Fi.line (by decide);have rl:=mH (K:=K) Fi;rw[dB,BK rfl]at rl;refine⟨rfl,_,rfl," ",pq,am D,rfl,rfl,SqL.of eq,jo b6 (by omega),_,rfl,_,hands,_,rfl,ll,rl,fun D' er v H10 s10 da=>?_,fun er=>nomatch er⟩;cases er;refine⟨_,rfl,_,_,rfl,(tm Fi da).alk (due.same s10) Fi,fun H11 s11=>⟨_,rfl,aD ?_⟩⟩;have S11:=s10.trans s11;have S:=S9.trans S11;refine⟨_,rfl,a,sc,0,rfl,S.seq hS,by decide,_,rfl,a,sc,2,rfl,S.seq hS,by decide,_,_,rfl,rfl,sz rfl,fun p1 g1=>?_⟩;generalize hs0:aj sc (0:Int).toNat+aj sc (2:Int).toNat=s0;have w1:=af g1 (.lst [V.int s0]);refine⟨_,rfl,_,rfl,_,rfl,a,_,rfl,(S.trans w1).seq hS,fun p2 g2=>?_⟩;have lc:=bo (sc.map V.int) (some 17) (some 25);have cm:∀v∈aG (sc.map V.int) (some 17) (some 25),v∈sc.map V.int:=fun v hv=>List.mem_of_mem_drop (List.mem_of_mem_take hv);rw[z6]at lc;generalize aG (sc.map V.int) (some 17) (some 25)=cs at lc cm ⊢;have w2:=af g2 (.lst cs);refine⟨p1,p2,_,_,rfl,rfl,w2 _ _ aa,aa,aL (by rw[Zn];omega),fun p3 g3=>?_⟩;have w3:=S11.trans (w1.trans (w2.trans (af g3 (.lst ([V.int s0]++cs)))));have e3:upd (upd (upd H11 p1 (.lst [V.int s0])) p2 (.lst cs)) p3 (.lst ([V.int s0]++cs)) p3=some (.lst ([V.int s0]++cs)):=aa;generalize upd (upd (upd H11 p1 (.lst [V.int s0])) p2 (.lst cs)) p3 (.lst ([V.int s0]++cs))=H12 at w3 e3 ⊢;have zi:∀v∈[V.int s0]++cs,∃n,v=.int n:=fun v hv=>by
   rcases ZE.mp hv with hv|hv
   ·exact⟨s0,Ze.mp hv⟩
   ·obtain⟨n,_,e⟩:=ZM.mp (cm v hv);exact⟨n,e.symm⟩
  generalize[V.int s0]++cs=zs at e3 zi;refine⟨p3,rfl,⟨zs,SqL.of e3⟩,?_⟩;refine sL (xs:=zs) (fun i σ H'=>Same H12 H'/\∃o10:Option V,σ=[some (.ref a),some (.int hands),some (.int hd),some (.int m),some (.ref wl),some (.str (kst ks)),some (.ref c),some (.ref pp),some (.ref t4),some (.ref pq),o10]) ⟨Same.refl _,none,rfl⟩ (fun i σ H' _ hP=>SqL.of (hP.1 _ _ e3)) (fun i x σ H' hx hP D' kN=>?_) (fun σ H' hP=>?_)
  ·obtain⟨s5,o10,rfl⟩:=hP;obtain⟨n,rfl⟩:=zi x (ZC hx);have n0:=ZA n (show(18:Int)≠0 by decide);have n1:=Zv n (show(0:Int)<18 by decide);refine⟨_,rfl,_,rfl,_,rfl,_,_,rfl,rfl,(by show(0:Int)<18;decide),_,rfl,_,_,rfl,rfl,⟨by decide,by decide⟩,?_⟩;refine⟨pq,D,hands,_,_,by rw[kD];rfl,Fi,by rw[kD];exact ZC hks,dB,n0,n1,SqL.of (s5 _ _ (w3 _ _ eq)),fun y H13 s13 ly ry=>?_⟩;exact⟨_,rfl,y,hands,rfl,ly,ry,fun H14 s14=>⟨_,rfl,aD (kN _ _ ⟨s5.trans (s13.trans s14),_,rfl⟩)⟩⟩
  ·obtain⟨s5,o10,rfl⟩:=hP;have s9:=w3.trans s5;have fh:=sH (K:=K) Fi (show hands%8+1≠hands by omega);refine⟨rfl,_,rfl," ",pq,am D,rfl,rfl,SqL.of (s9 _ _ eq),jo b6 (by omega),_,rfl,_,_,rfl,rfl,(by show(0:Int)<8;decide),_,_,rfl,rfl,_,_,rfl,ll,fh,fun H13 s13=>⟨_,rfl,aD ?_⟩⟩;have s93:=s9.trans s13;refine⟨rfl,_,rfl," ",pq,am D,rfl,rfl,SqL.of (s93 _ _ eq),jo b6 (by omega),_,rfl,_,hands,_,rfl,ll,rl,fun D' er v H14 s14 da=>?_,fun er=>nomatch er⟩;cases er;exact⟨_,rfl,_,_,rfl,(tm Fi da).alk (due.same (s93.trans s14)) Fi,fun H15 s15=>q _⟩
 obtain⟨tb,htb,hb⟩:=hb;refine⟨_,(b_c (aJ (i:=1) cM.nd (ar bx ae (ar aZ (aI a8 (hr.mono (by decide)) (q_a (q_v 0) (q_a ae ad))) ae)))
   (b_c (aJ (i:=2) cM.nd (ar aZ (aI a8 (hr.mono (by decide)) (q_a (q_v 0) (q_a ae ad))) (q_v 1)))
   (b_c (aJ (i:=3) cM.nd (ar aZ (aI a8 (hr.mono (by decide)) (q_a (q_v 0) (q_a ae ad))) ae))
   (b_c (aJ (i:=4) cM.nd (bS (q_a ah (q_a ah (q_a ah (q_a ah (q_a ah (q_a ah (q_a ah (q_a ah (q_a ah (q_a ah (q_a ah (q_a ah (q_a ah ad)))))))))))))))
   (b_c (aJ (i:=5) cM.nd (aE aO (bS (q_a ah (q_a ah (q_a ah (q_a ah (q_a ah (q_a ah (q_a ah (q_a ah (q_a ah (q_a ah (q_a ah (q_a ah (q_a ah ad)))))))))))))) (q_v 3)))
   (b_c (aJ (i:=6) cM.nd (aI Bn (hr.mono (by decide)) (q_a (q_v 0) (q_a (q_v 1) (q_a (q_v 2) (q_a (q_v 5) ad))))))
   htb)))))),?_⟩
 refine⟨_,rfl,a,sc,0,rfl,hS,by decide,_,_,rfl,rfl,(by show(0:Int)<8;decide),_,_,rfl,rfl,?_⟩;have h0:=ZA (aj sc (0:Int).toNat) (show(8:Int)≠0 by decide);have h1:=Zv (aj sc (0:Int).toNat) (show(0:Int)<8 by decide);dsimp only;generalize aj sc (0:Int).toNat%8=h' at h0 h1 ⊢;obtain⟨hands,eh⟩:∃hands,hands=1+h':=⟨_,rfl⟩
 rw[<-eh];refine⟨_,rfl,a,sc,1,rfl,hS,by decide,_,rfl,_,_,rfl,rfl,(by show(0:Int)<hands;omega),?_⟩;have d0:=ZA (aj sc (1:Int).toNat) (show hands≠0 by omega);have d1:=Zv (aj sc (1:Int).toNat) (show(0:Int)<hands by omega);dsimp only;generalize aj sc (1:Int).toNat%hands=hd at d0 d1 ⊢;refine⟨_,rfl,a,sc,2,rfl,hS,by decide,_,_,rfl,rfl,(by show(0:Int)<13;decide),?_⟩;have m0:=ZA (aj sc (2:Int).toNat) (show(13:Int)≠0 by decide);have m1:=Zv (aj sc (2:Int).toNat) (show(0:Int)<13 by decide);dsimp only;generalize aj sc (2:Int).toNat%13=mm at m0 m1 ⊢;obtain⟨m,rfl⟩:=Int.eq_ofNat_of_zero_le m0;have hm:m<13:=by omega
 obtain⟨ks,hks⟩:∃ks,KDS[m]?=some ks:=⟨_,Za (show m<KDS.length from hm)⟩
 obtain⟨wd,hwd⟩:∃wd,WDS[m]?=some wd:=⟨_,Za (show m<WDS.length from hm)⟩
 have hat:atI (KDS.map fun k=>V.str (kst k)) (m:Int)=some (.str (kst ks)):=by refine bc ?_;rw[ZB,hks];rfl
 refine⟨sz rfl,fun p1 g1=>?_⟩;have w1:=af g1 (.lst (WDS.map V.str));refine⟨sz rfl,fun p2 g2=>?_⟩;have w2:=af g2 (.lst (KDS.map fun k=>V.str (kst k)));have e1:upd H p1 (.lst (WDS.map V.str)) p1=some (.lst (WDS.map V.str)):=aa;refine⟨_,rfl,p2,_,_,_,rfl,rfl,SqL.of aa,hat,?_⟩;have w12:=w1.trans w2;refine⟨_,rfl,_,rfl,_,rfl,_,rfl,a,sc,hands,hd,ks,rfl,w12.seq hS,by omega,by omega,d0,d1,ZC hks,fun c ns H3 s3 ec ck=>?_⟩;exact hb hands hd c ns m ks wd p1 _ (by omega) (by omega) d0 d1 hks hwd (w12.trans s3) (s3 _ _ (w2 _ _ e1)) ec ck
end
def qE:Nat->(List Value->Prop)->Prop
 |0,p=>p []
 |n+1,p=>∀a,qE n fun us=>p (a::us)
theorem lE:∀{n:Nat} {p:List Value->Prop},qE n p->∀us:List Value,us.length=n->p us
 |0,_,h,[],_=>h
 |_+1,_,h,a::us,e=>lE (h a) us (Nat.succ.inj e)
section
variable{P:Program}{w:World}{K:PySem.W.Frag}{mg:Str->Option Value}{base h:Heap}{n m x q:Str}{st:Stmt}{C f:Addr}{k:Nat}{ps:List Str}{sp:Sp}{bm:List Value}
structure Bx(P:Program)(w:World)(K:PySem.W.Frag)(mg:Str->Option Value)(base h:Heap):Prop where
 X:K.In h
 G:h.Ns mainGlobals mg
def A1(K:PySem.W.Frag)(n:Str)(st:Stmt)(f:Addr):Prop:=PySem.W.nsIn K mainGlobals n=some (some (.ref f))/\∃fd,Fun K n n st f fd
def AF(K:PySem.W.Frag):List (Str×Stmt×Addr)->Prop
 | []=>True
 |(n,st,f)::l=>A1 K n st f/\AF K l
def AN(p:Str->Prop):List Str->Prop
 | []=>True
 |n::l=>p n/\AN p l
theorem anI{p p':Str->Prop}(i:∀{n},p n->p' n):∀{l:List Str},AN p l->AN p' l
 | [],_=>True.intro
 |_::_,h=>⟨i h.1,anI i h.2⟩
theorem gf{l:List (Str×Stmt×Addr)}{oc kV dc pm cd ct:Value}{od an:Option Addr}{sl:Array (Option Value)}(a:PySem.W.nsIn K mainGlobals n=some (some (.ref f)))(b:K.lookup f=some ⟨oc,od,.func (PySem.W.fnOf n n (dH st) (bR st) (au st) .none kV dc pm an cd ct),sl⟩)(c:PySem.W.codeIn K cd n=true)(d:PySem.W.keepIn K (.ref f)=true)(r:AF K l):AF K ((n,st,f)::l):=⟨⟨a,_,yn b c d⟩,r⟩
theorem gn{l:List Str}(a:PySem.W.nsIn K mainGlobals n=some none)(r:AN (fun n=>PySem.W.nsIn K mainGlobals n=some none) l):AN (fun n=>PySem.W.nsIn K mainGlobals n=some none) (n::l):=⟨a,r⟩
theorem mkF(B:Bx P w K mg base h)(A:A1 K n st f)(ok:∀{fd},Fun K n n st f fd->FnOk P w K mg base CX0 k f fd ps sp)(hb:∀(kV doc pm:Value) (an:Option Addr) (cdv ct:Value),qE ps.length fun us=>bindArgs (PySem.W.fnOf n n (dH st) (bR st) (au st) .none kV doc pm an cdv ct) ⟨us,[]⟩=pure (ps.zip us):=by(repeat intro _);rfl):Fn P w K mg base k n ps sp:=by obtain⟨a,fd,F⟩:=A;exact⟨f,fd,ok F,ZJ B.X B.G a,F.kp,F.binds fun a b c d e g=>lE (hb a b c d e g)⟩
theorem mkR(B:Bx P w K mg base h)(A:A1 K n st f)(ok:∀{fd},Fun K n n st f fd->FnOk P w K mg base (CXr P w) k f fd ps sp)(hb:∀(kV doc pm:Value) (an:Option Addr) (cdv ct:Value),qE ps.length fun us=>bindArgs (PySem.W.fnOf n n (dH st) (bR st) (au st) .none kV doc pm an cdv ct) ⟨us,[]⟩=pure (ps.zip us):=by(repeat intro _);rfl):FnX P w K mg base k n ps sp:=by obtain⟨a,fd,F⟩:=A;exact⟨f,fd,ok F,ZJ B.X B.G a,F.kp,F.binds fun a b c d e g=>lE (hb a b c d e g)⟩
end
theorem yh{l:PySem.W.OpenLaw}{w:World}{K:PySem.W.Frag}{h:Heap}{mg:Str->Option Value}{fa f1 f2 f3 f4 f5 f6 f7 f8 f9 f10 f11 f12 f13 f14 f15 f16 f17 f18 f19 f20 f21 f22 f23 f24 f25 f26 f27 f28 f29 f30 f31 f32 f33 f34 f35 f36 f37 f38:Addr}(X:K.In h)(G:h.Ns mainGlobals mg)(hfa:mg "law" = some (.ref fa)){Bg:Tok}{Bq:Tok}{Br:Tok}{Bz:Tok}{Bh:Tok}{Bi:Tok}{BD:Tok}{j7:Addr}{c_NoText c_LimbError c_NoDeed c_NoPlace c_Twin c_Taken c_NoItem c_Beneath c_Far c_NoQuestion c_NoRow:Addr}(v5:PySem.W.nsIn K mainGlobals "NoText" = some (some (.ref c_NoText)))(l5:PySem.W.nsIn K mainGlobals "LimbError" = some (some (.ref c_LimbError)))(v6:PySem.W.nsIn K mainGlobals "NoDeed" = some (some (.ref c_NoDeed)))(t5:PySem.W.nsIn K mainGlobals "NoPlace" = some (some (.ref c_NoPlace)))(Bp:PySem.W.nsIn K mainGlobals "Twin" = some (some (.ref c_Twin)))(Bd:PySem.W.nsIn K mainGlobals "Taken" = some (some (.ref c_Taken)))(v7:PySem.W.nsIn K mainGlobals "NoItem" = some (some (.ref c_NoItem)))(t6:PySem.W.nsIn K mainGlobals "Beneath" = some (some (.ref c_Beneath)))(BA:PySem.W.nsIn K mainGlobals "Far" = some (some (.ref c_Far)))(j8:PySem.W.nsIn K mainGlobals "NoQuestion" = some (some (.ref c_NoQuestion)))(Be:PySem.W.nsIn K mainGlobals "NoRow" = some (some (.ref c_NoRow)))(zF:AF K (("is_number",gH,f1)::("is_whole",iA,f2)::("is_name",ja,f3)::("is_clock",iw,f4)::("tells",md,f5)::("is_deed_word",eM,f6)::("deed_parts",fU,f7)::("is_place",iy,f8)::("is_sign",jc,f9)::("is_text",jd,f10)::("is_hand",iZ,f11)::("is_known_item",dP,f12)::("is_part",jb,f13)::("is_what",je,f14)::("is_deed",iY,f15)::("is_figures",fV,f16)::("is_number_word",dC,f17)::("is_truth_word",dQ,f18)::("parted",kg,f19)::("read_number",fm,f20)::("read_numbers",eN,f21)::("read_truth",fW,f22)::("read_part",gI,f23)::("words_in",iB,f24)::("read",oM,f25)::("_law_cell_at",iX,f26)::("_law_clock",lZ,f27)::("_law_place",gU,f28)::("_law_text",oN,f29)::("_law_part",oK,f30)::("_law_word",oP,f31)::("_law_within",kh,f32)::("_law_fault",ma,f33)::("_law_others",kf,f34)::("_law_told",oO,f35)::("_law_refused",jg,f36)::("_law_alike",gS,f37)::("law",gv,f38)::[]))(zN:AN (fun n=>PySem.W.nsIn K mainGlobals n=some none) ("isinstance"::"int"::"bool"::"str"::"tuple"::"len"::"all"::"zip"::"max"::"range"::"ord"::"ValueError"::[]))(j3:PySem.W.nsIn K mainGlobals "MOST_NUMBERS" = some (some (.int 64 Bg)))(l7:PySem.W.nsIn K mainGlobals "MOST_SIGNS" = some (some (.int 60 Bq)))(l8:PySem.W.nsIn K mainGlobals "FIRST_SIGN" = some (some (.int 32 Br)))(pi:PySem.W.nsIn K mainGlobals "LAST_SIGN" = some (some (.int 126 Bz)))(j4:PySem.W.nsIn K mainGlobals "PERCENT_SIGN" = some (some (.int 37 Bh)))(j5:PySem.W.nsIn K mainGlobals "MOST_FIGURES" = some (some (.int 60 Bi)))(v8:PySem.W.nsIn K mainGlobals "FIGURES" = some (some (.str FIG BD)))(m5:PySem.W.nsIn K mainGlobals "DEED_PARTS" = some (some (.ref j7)))(t_DEED_PARTS:PyProof.Rows.KTD.tabLook (lA K) (fun b=>K.lookup b) j7 DT=true)(dg:PySem.W.nsIn K cStatics "sys.int_max_str_digits" = some none)(m6:PySem.W.excIn K c_LimbError [.type "ValueError",.type "Exception",.type "BaseException",.type "object"] "ValueError.__new__" = true)(m7:∃c d cd sl,K.lookup c_LimbError=some ⟨c,d,.cls cd,sl⟩/\cd.mro=Value.ref c_LimbError::VE)(v9:PySem.W.excIn K c_NoText [.type "ValueError",.type "Exception",.type "BaseException",.type "object"] "ValueError.__new__" = true)(x2:∃c d cd sl,K.lookup c_NoText=some ⟨c,d,.cls cd,sl⟩/\cd.mro=Value.ref c_NoText::(Value.ref c_LimbError::VE))(e1:(PySem.W.clsIn K c_NoText).isSome=true)(e2:PySem.W.findIn K (.ref c_NoText) "__getattribute__" = some (some (.builtin "BaseException.__getattribute__")))(e3:PySem.W.findIn K (.ref c_NoText) "__getattr__" = some none)(e4:PySem.W.findIn K (.ref c_NoText) "__class__" = some (some (.builtin "object.__class__")))(e5:PySem.W.mroIn K c_NoText (.type "BaseException")=some true)(e6:PySem.W.mroIn K c_NoText (.type "object")=some true)(kv:PySem.W.kitOne K (.ref c_NoText) (.type "ValueError")=some true)(kq:PySem.W.kitOne K (.ref c_NoText) (.ref c_NoText)=some true)(k_NoDeed:PySem.W.kitOne K (.ref c_NoText) (.ref c_NoDeed)=some false)(k_NoPlace:PySem.W.kitOne K (.ref c_NoText) (.ref c_NoPlace)=some false)(k_Twin:PySem.W.kitOne K (.ref c_NoText) (.ref c_Twin)=some false)(k_Taken:PySem.W.kitOne K (.ref c_NoText) (.ref c_Taken)=some false)(k_NoItem:PySem.W.kitOne K (.ref c_NoText) (.ref c_NoItem)=some false)(k_Beneath:PySem.W.kitOne K (.ref c_NoText) (.ref c_Beneath)=some false)(k_Far:PySem.W.kitOne K (.ref c_NoText) (.ref c_Far)=some false)(k_NoQuestion:PySem.W.kitOne K (.ref c_NoText) (.ref c_NoQuestion)=some false)(k_NoRow:PySem.W.kitOne K (.ref c_NoText) (.ref c_NoRow)=some false)
  :∃fd:FuncData,(∀(s:Shared) (v:Value),BindsTo s fd ⟨[v],[]⟩ [("_law_script",v)])/\∀base:Heap,K.In base->base.Ns mainGlobals mg->FnOk l.prog w K mg base CX0 10 fa fd ["_law_script"] (nw K):=by
 obtain⟨Af1,Af2,Af3,Af4,Af5,Af6,Af7,Af8,Af9,Af10,Af11,Af12,Af13,Af14,Af15,Af16,Af17,Af18,Af19,Af20,Af21,Af22,Af23,Af24,Af25,Af26,Af27,Af28,Af29,Af30,Af31,Af32,Af33,Af34,Af35,Af36,Af37,⟨a0,_,F0⟩,_⟩:=zF;obtain⟨a5,b9,d8,c7,a7,a6,d6,x5,Bt,a9,Bs,l4,_⟩:=anI (p':=fun n=>mg n=none) (fun z=>PySem.W.mg_none_of X G z) zN;have e:=hfa.symm.trans (ZJ X G a0);cases e;obtain⟨oc,od,kV,dc,pm,an,cd,ct,sl,rfl,l0,c0⟩:=id F0.ex;have i9:=ZJ X G j3;have k4:=ZJ X G l7;have j9:=ZJ X G l8;have n9:=ZJ X G pi;have j0:=ZJ X G j4;have j2:=ZJ X G j5;have u6:=ZJ X G v8;have g0:=ZJ X G m5;have x3:Tab K j7 DT:=⟨t_DEED_PARTS⟩
 have c8:=ZJ X G v5;have i3:=ZJ X G l5;have x8:=ZJ X G v6;have u8:=ZJ X G t5;have Bu:=ZJ X G Bp;have Bk:=ZJ X G Bd;have x9:=ZJ X G v7;have u9:=ZJ X G t6;have BB:=ZJ X G BA;have k8:=ZJ X G j8;have Bl:=ZJ X G Be;have x4:ExcAt K c_LimbError VE:=⟨m6,m7,by decide⟩
 have j6:ExcAt K c_NoText (Value.ref c_LimbError::VE):=⟨v9,x2,by rw[List.contains_cons];rfl⟩
 have er:ErT K c_LimbError c_NoText _ [c_NoDeed,c_NoPlace,c_Twin,c_Taken,c_NoItem,c_Beneath,c_Far,c_NoQuestion,c_NoRow]:=⟨kI j6,by simp,⟨e1,e2,e3,e4,e5,e6⟩,kv,kq,fun o ho=>by
  simp only[Zr,ZK,Yg]at ho;rcases ho with rfl|rfl|rfl|rfl|rfl|rfl|rfl|rfl|rfl
  all_goals assumption⟩
 refine⟨PySem.W.fnOf "law" "law" (dH gv) (bR gv) (au gv) .none kV dc pm an cd ct,fun s v=>.of_eq rfl,fun base _ _=>?_⟩;have B:Bx l.prog w K mg base h:=⟨X,G⟩
 have h9:=mkF B Af1 fun F=>oA F a5 b9 d8;have c6:=mkF B Af2 fun F=>pC F h9;have t8:=mkF B Af3 fun F=>qX F c6 a5 a7 a6;have r6:=mkF B Af4 fun F=>pz F c6 a5 a7 a6 d6;have Bj:=mkF B Af5 fun F=>vp F;have e8:=mkF B Af6 fun F=>kP F g0 x3 a5 c7;have d7:=mkF B Af7 fun F=>mS F g0 x3;have p0:=mkF B Af8 fun F=>pA F h9 a5 a7 a6 d6 i9;have t7:=mkF B Af9 fun F=>qZ F Bs j9 n9 j0;have t9:=mkF B Af10 fun F=>rc F t7 a5 c7 d6;have i7:=mkF B Af11 fun F=>qW F c6;have i5:=mkF B Af12 fun F=>jZ F t8 Bj a6;have u4:=mkF B Af13 fun F=>qY F i5 p0 t9 i7 c6 a5 d8 a6 k4;have u5:=mkF B Af14 fun F=>rd F e8 d7 u4 a5 a7 a6 d6 x5;have u7:=mkF B Af15 fun F=>qV F i7 r6 u5 a5 a7 a6;have k7:=mkF B Af16 fun F=>mT F a6 d6 j2 u6;have i6:=mkF B Af17 fun F=>jE F k7;have i8:=mkF B Af18 fun F=>ka F;have x6:=mkF B Af19 fun F=>tD F a6;have FX_read_number:=mkR B Af20 fun F=>lS F i6 b9 (ii j6) c8;have FX_read_numbers:=mkR B Af21 fun F=>kQ F FX_read_number a7;have FX_read_truth:=mkR B Af22 fun F=>mU F i8 (ii j6) c8;have FX_read_part:=mkR B Af23 fun F=>oB F FX_read_truth FX_read_numbers FX_read_number;have FX_words_in:=mkR B Af24 fun F=>pD F e8 d7 x6 a6 (ii j6) c8;have FX_read:=mkR B Af25 fun F=>xn F FX_words_in FX_read_number FX_read_numbers d7 FX_read_part u7 x5 a7 (ii j6) c8;have a8:=mkF B Af26 fun F=>qU F a6;have Bn:=mkF B Af27 fun F=>vm F a8 a7 a9 Bt b9 a6;have Bm:=mkF B Af28 fun F=>vo F a8 a7 a9;have Bv:=mkF B Af29 fun F=>xo F a8 a9;have Bw:=mkF B Af30 fun F=>xm F a8 Bm Bv b9 a6;have By:=mkF B Af31 fun F=>xq F dg c7 b9;have r9:=mkF B Af32 fun F=>tE F a6 b9 a9;have Bo:=mkF B Af33 fun F=>vn F r9 a6 b9;have Bc:=mkF B Af34 fun F=>tz F er x8 u8 Bu Bk x9 u9 BB k8 Bl a5;have Bf:=mkF B Af35 fun F=>xp F FX_read er (kI x4) i3;have n6:=mkF B Af36 fun F=>re F FX_read er (kI x4) i3 c8 Bc a5 l4;have BE:=mkF (k:=1) (ps:=["_law_found","_law_due"]) (sp:=ql) B Af37 fun _=>uT;have BF:=mkF B Af37 fun F=>tu F BE a5 a7 c7 b9 d8 a6 d6 a9;have BG:=mkF B Af37 fun F=>iU F BF a5 a7 c7 b9 d8 a6 d6 a9;have BH:=mkF B Af37 fun F=>iU F BG a5 a7 c7 b9 d8 a6 d6 a9;have i4:=mkF B Af37 fun F=>iU F BH a5 a7 c7 b9 d8 a6 d6 a9;exact yI F0 a8 Bn Bw By i4 Bf n6 Bo dg c7 a7 a9 a6
theorem Bb{l:PySem.W.OpenLaw}{q:Program}{loose:List Str}{XP:(Str->Option Value)->Heap->Prop}{YP:World->Heap->Prop}{d:DefRec}{K:Params->PySem.W.Frag}(hn:l.most=some 63)(hdf:d.params.defaults=[])(hY:∀ (w:World) (h:Heap),YP w h->(K w.params).In h)(F:∀ (w:World) (mg:Str->Option Value) (fa:Addr) (h:Heap),(K w.params).In h->h.Ns mainGlobals mg->mg d.name=some (.ref fa) ->
   ∃ fd:FuncData,(∀ (s:Shared) (u:Value),BindsTo s fd ⟨[u],[]⟩ [("_law_script",u)])/\∀ base:Heap,(K w.params).In base->base.Ns mainGlobals mg->FnOk l.prog w (K w.params) mg base CX0 10 fa fd ["_law_script"] (nw (K w.params))) :
  PySem.W.WalkO q loose XP YP l.row.toRowW d [] (fun f vs=>PySem.call f vs) :=
 L2.xS (n:=63) (k:=10) (x:="_law_script") (CX:=fun _=>CX0) (sp:=fun w=>nw (K w.params)) hn (by decide) hdf ⟨rfl,by decide,by decide⟩ hY F (fun _ _ a ns hl _ hS=>⟨a,ns,rfl,hS,hl,fun _=>rfl⟩) fun _ _ _ _ _ z=>z
end K13
namespace PySem.W.Fast
def tw15342956242552952142:=()
def tw10688133134345880807:=()
def tw8812780510741019800:=()
def tw7683956219071410761:=()
def tw7807653627160610882:=()
def tw16097700098742164624:=()
def tw5268408433837565793:=()
def tw16600275999122059995:=()
def tw5849901134693194270:=()
def tw5229729154987381484:=()
def tw17622767634001074887:=()
def tw6687442889702691305:=()
def tw1145440064221318324:=()
def tw7888804184004931348:=()
def tw17304678883868166677:=()
def tw10683786753026480686:=()
def tw10462248477429868874:=()
def tw6905379419432209363:=()
def tw5312656489175058820:=()
def tw335871547177856901:=()
def tw16679278317535089972:=()
def tw14142596596274084720:=()
def tw11885934842143942277:=()
def tw6391993912745953781:=()
def tw1164906714276202683:=()
def tw9834477777061955953:=()
def tw1573433934766064488:=()
def tw13699695341965167887:=()
def tw3280108960216551285:=()
def tw7246183178553319910:=()
def tw16804171490314610891:=()
def tw18142907252853372274:=()
def tw6668384857436423819:=()
def tw8750818472612867749:=()
def tw17068138464828463455:=()
def tw3304835756499263066:=()
def tw15039164440713753625:=()
def tw10697896743784493416:=()
def tw8759731745967081826:=()
def tw7335371591714374499:=()
def tw13057719295559250086:=()
def tw13958088768167155649:=()
def tw1932839779359466905:=()
def tw2694988873078604898:=()
def tw17199496991136834140:=()
def tw1589157626194211781:=()
def tw13553545575861790820:=()
def tw10646827946568604139:=()
def tw5359426927949776651:=()
def tw2469256356477162891:=()
def tw9821870569336801536:=()
def tw17871812528594599390:=()
def tw15216613029299964554:=()
def tw16039460721740600472:=()
def tw15256387004123738470:=()
def tw14635187965561268687:=()
def tw7803729123717695941:=()
def tw3149812139988304252:=()
def tw7173619476485095533:=()
def tw13093059761632967597:=()
def tw17363284604934235222:=()
def tw4016969424249399000:=()
def tw870620317328795991:=()
def tw3000335713857023806:=()
def tw1758494708315626288:=()
def tw11150759769897979575:=()
def tw9257145110489686743:=()
def tw2504541101300527445:=()
def tw2322643986959636559:=()
def tw2772463836178052607:=()
end PySem.W.Fast
open PySem PySem.W PyProof.Rows
set_option maxRecDepth 100000 in
set_option maxHeartbeats 0 in
theorem PySem.Challenge.cw_limb_k13_a_deed_read_holds : PySem.Challenge.rw_limb_k13_a_deed_read.Holds := by
  w_on; o_law; k_head; (case hw => w_witness2)
  k_fill
  refine K13.Bb (l := PySem.Challenge.rw_limb_k13_a_deed_read) rfl rfl (fun w h Y => PySem.W.kIn_of Y) ?F
  case F =>
    intro w mg fa h KX G hmg
    refine' K13.yh KX G hmg ?v5 ?l5 ?v6 ?t5 ?Bp ?Bd ?v7 ?t6 ?BA ?j8 ?Be ?zF ?zN ?j3 ?l7 ?l8 ?pi ?j4 ?j5 ?v8 ?m5 ?t_DEED_PARTS ?dg ?m6 ?m7 ?v9 ?x2 ?e1 ?e2 ?e3 ?e4 ?e5 ?e6 ?kv ?kq ?k_NoDeed ?k_NoPlace ?k_Twin ?k_Taken ?k_NoItem ?k_Beneath ?k_Far ?k_NoQuestion ?k_NoRow
    (case v5 => k_is)
    (case l5 => k_is)
    (case v6 => k_is)
    (case t5 => k_is)
    (case Bp => k_is)
    (case Bd => k_is)
    (case v7 => k_is)
    (case t6 => k_is)
    (case BA => k_is)
    (case j8 => k_is)
    (case Be => k_is)
    (case zF => (repeat refine K13.gf (by k_is) (by k_is) (by k_is) (by k_is) ?_); exact True.intro)
    (case zN => (repeat refine K13.gn (by k_is) ?_); exact True.intro)
    (case j3 => k_is)
    (case l7 => k_is)
    (case l8 => k_is)
    (case pi => k_is)
    (case j4 => k_is)
    (case j5 => k_is)
    (case v8 => k_is)
    (case m5 => k_is)
    (case t_DEED_PARTS => rfl)
    (case dg => k_is)
    (case m6 => k_exc)
    (case m7 => exact ⟨_, _, _, _, rfl, rfl⟩)
    (case v9 => k_exc)
    (case x2 => exact ⟨_, _, _, _, rfl, rfl⟩)
    (case e1 => rfl)
    (case e2 => k_is)
    (case e3 => k_is)
    (case e4 => k_is)
    (case e5 => k_is)
    (case e6 => k_is)
    (case kv => rfl)
    (case kq => rfl)
    (case k_NoDeed => rfl)
    (case k_NoPlace => rfl)
    (case k_Twin => rfl)
    (case k_Taken => rfl)
    (case k_NoItem => rfl)
    (case k_Beneath => rfl)
    (case k_Far => rfl)
    (case k_NoQuestion => rfl)
    (case k_NoRow => rfl)
