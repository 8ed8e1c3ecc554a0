import PyProof.Rows.All
import Wide.All
import OpenK.AllK
import Wide.FinOn
import PyProof.EqAt
import PyProof.EqKinds
import PyProof.TupleCall
import Lean
import PySem.Challenge.RW_limb_k14_whole_deeds_and_texts
def za:=@PySem.wpAny_bind
def zb:=@List.length_map
def zc:=@PySem.Heap.get?_push_of_some
def zd:=@List.getElem?_eq_getElem
def ze:=@Nat.le_refl
def zh:=@List.size_toArray
def zi:=@PySem.wpAny_pure
def zj:=@List.getElem?_eq_some_iff
def zk:=@PySem.Heap.lt_size
def zl:=@Nat.lt_of_lt_of_le
def zm:=@List.length_cons
def zn:=@PySem.Heap.get?_push_size
def zo:=@Bool.false_ne_true
def zp:=@Option.some.inj
def zq:=@Nat.le_trans
def zr:=@List.length_append
def zt:=@PySem.boot_len
def zw:=@List.mem_cons
def zA:=@Bool.and_eq_true
def zB:=@Array.length_toList
def zC:=@List.mem_singleton
def zD:=@Int.emod_lt_of_pos
def zE:=@List.getElem?_map
def zG:=@List.mem_cons_of_mem
def zH:=@List.all_eq_true
def zI:=@Int.emod_nonneg
def zJ:=@Nat.ne_of_lt
def zK:=@List.lookup_cons
def zL:=@List.not_mem_nil
def zM:=@Bool.true_and
def zO:=@Array.getD_eq_getD_getElem?
def zP:=@Bool.false_and
def zQ:=@List.mem_append_right
def zR:=@PySem.wpAny_field
def zS:=@List.map_cons
def zT:=@PySem.wpAny_callSpecial?_slot
def zU:=@List.mem_cons_self
def zV:=@List.take_of_length_le
def zW:=@PySem.wpAny_truthy_bool
def zX:=@PyProof.Rows.slot_tuple_getitem
def zY:=@List.getElem?_append_right
def zZ:=@PySem.W.kia_one
def z0:=@List.getElem?_append_left
def z6:=@PySem.W.mg_of
def z9:=@List.mem_of_getElem?
def Za:=@PySem.wpAny_call_entry
def Zb:=@PySem.Heap.get?_update_other
def Zd:=@congrArg
def Ze:=@Bool.eq_iff_iff
def Zf:=@PySem.wpAny_newObj_type
def Zg:=@Bool.eq_false_iff
def Zh:=@List.mem_append
def Zi:=@PyProof.Rows.callWith_type1
def Zj:=@List.map_append
def Zk:=@PySem.mem_of_lookup
def Zl:=@PySem.wpAny_mono
def Zm:=@List.mem_range
def Zn:=@Ne.symm
def Zo:=@PySem.Heap.size_push
def Zq:=@Nat.ne_of_gt
def Zr:=@or_false
def Zs:=@PySem.F.slot_zip_next
def Zt:=@Int.toNat_natCast
def Zu:=@List.getElem_of_mem
def Zv:=@Nat.zero_le
def Zw:=@List.length_singleton
def Zx:=@Nat.lt_irrefl
def Zy:=@List.length_range
def Zz:=@of_decide_eq_true
set_option Elab.async false
set_option linter.all false
set_option maxRecDepth 100000
set_option maxHeartbeats 2000000
local macro_rules | `(tactic| omega) => `(tactic| first | with_reducible first | assumption | exact Nat.le_of_lt (by assumption) | exact Nat.le_refl _ | exact Nat.lt_add_one _ | exact Nat.le_trans (by assumption) (by decide) | exact Nat.lt_of_lt_of_le (by assumption) (by decide) | exact Nat.sub_lt_sub_left (by assumption) (Nat.lt_add_one _) | exact Nat.le_antisymm (by assumption) (Nat.le_of_not_lt (by assumption)) | lia)
namespace L2
open PySem PySem.Spec PyProof.Rows
abbrev Key:=Sum Int Str
def sK:Key->Value->Bool
 |.inl k,v=>Value.isInt k v
 |.inr x,v=>Value.isStrOf x v
def xE(w:World):Key->Int
 |.inl k=>hashInt k
 |.inr x=>hashStr w x
theorem bh:∀{k:Key} {v:Value},sK k v=true->(∃i t,k=Sum.inl i/\v=Value.int i t)\/(∃x t,k=Sum.inr x/\v=Value.str x t)
 |.inl i,v,h=>by obtain⟨t,e⟩:=Value.isInt_shape (k:=i) (v:=v) h;exact .inl ⟨i,t,rfl,e⟩
 |.inr x,v,h=>by obtain⟨t,e⟩:=Value.isStrOf_shape (x:=x) (v:=v) h;exact .inr ⟨x,t,rfl,e⟩
theorem uW(a b:Int):decide ((Sum.inl a:Key)=Sum.inl b)=(a==b):=by
 by_cases e:a=b
 ·subst e;simp
 ·have h:¬(Sum.inl a:Key)=Sum.inl b:=fun q=>e (Sum.inl.inj q);rw[decide_eq_false h];exact(beq_eq_false_iff_ne.mpr e).symm
theorem uZ(a b:Str):decide ((Sum.inr a:Key)=Sum.inr b)=decide (a=b):=by
 by_cases e:a=b
 ·subst e;simp
 ·have h:¬(Sum.inr a:Key)=Sum.inr b:=fun q=>e (Sum.inr.inj q);rw[decide_eq_false h,decide_eq_false e]
theorem uX(a:Int)(b:Str):decide ((Sum.inl a:Key)=Sum.inr b)=false:=decide_eq_false (fun q=>nomatch q)
theorem uY(a:Str)(b:Int):decide ((Sum.inr a:Key)=Sum.inl b)=false:=decide_eq_false (fun q=>nomatch q)
def mK(prog:Program)(w:World):PySem.KeyKind prog w Key where
 is:=sK
 hash:=xE w
 inj:=fun v a b ha hb=>by
  rcases bh ha with⟨i,t,rfl,rfl⟩|⟨x,t,rfl,rfl⟩
  ·rcases bh hb with⟨j,u,rfl,e⟩|⟨y,u,rfl,e⟩
   ·injection e with e1 _;rw[e1]
   ·exact nomatch e
  ·rcases bh hb with⟨j,u,rfl,e⟩|⟨y,u,rfl,e⟩
   ·exact nomatch e
   ·injection e with e1 _;rw[e1]
 byValue:=fun k v h=>by rcases bh h with⟨i,t,rfl,rfl⟩|⟨x,t,rfl,rfl⟩<;>rfl
 pyHash:=fun hv h=>by
  rcases bh hv with⟨i,t,rfl,rfl⟩|⟨x,t,rfl,rfl⟩
  ·exact wpAny_pyHash_int h
  ·exact wpAny_pyHash_str h
 eqBool:=fun hu hv h=>by
  rcases bh hu with⟨i,t,rfl,rfl⟩|⟨x,t,rfl,rfl⟩
  ·rcases bh hv with⟨j,u,rfl,rfl⟩|⟨y,u,rfl,rfl⟩
   ·rw[uW]at h;exact wpAny_eqBool_int h
   ·rw[uX]at h;exact SeqAt.EqAt.int_str i t y u _ _ _ _ h
  ·rcases bh hv with⟨j,u,rfl,rfl⟩|⟨y,u,rfl,rfl⟩
   ·rw[uY]at h;exact SeqAt.EqAt.str_int x t j u _ _ _ _ h
   ·rw[uZ]at h;exact wpAny_eqBool_str h
 «strs»:=fun k x t v h=>by
  rcases bh h with⟨i,u,rfl,e⟩|⟨y,u,rfl,e⟩
  ·exact nomatch e
  ·injection e with e1 _;subst e1;cases v<;>rfl
open PySem PySem.Spec PyProof.Rows
inductive V where
 |non|bl (b:Bool)|int (i:Int)|str (x:Str)|byt (b:Array UInt8)|flt (b:UInt64)|ref (a:Addr)|ty (n:String)
 deriving DecidableEq
def RelV:V->Value->Prop
 |.non,u=>u=Value.none
 |.bl b,u=>u=Value.bool b
 |.int i,u=>∃t,u=Value.int i t
 |.str x,u=>∃t,u=Value.str x t
 |.byt b,u=>∃t,u=Value.bytes b t
 |.flt b,u=>∃t,u=Value.float b t
 |.ref a,u=>u=Value.ref a
 |.ty n,u=>u=Value.type n
abbrev Vals:List V->List Value->Prop:=Paired RelV
theorem Vals.length{xs:List V}{us:List Value}(r:Vals xs us):xs.length=us.length:=Paired.length r
theorem Vals.get:∀{xs:List V} {us:List Value} {i:Nat} {x:V},Vals xs us->xs[i]?=some x->∃u,us[i]?=some u/\RelV x u
 |_,_,_,_,.nil,e=>by simp at e
 |_,_,0,_,.cons r _,e=>by simp at e;subst e;exact⟨_,rfl,r⟩
 |_,_,i+1,x,.cons _ t,e=>by obtain⟨u,h1,h2⟩:=Vals.get (i:=i) (x:=x) t (by simpa using e);exact⟨u,by simpa using h1,h2⟩
theorem Vals.set{x:V}{u:Value}(r:RelV x u):∀{xs:List V} {us:List Value} (i:Nat),Vals xs us->Vals (xs.set i x) (us.set i u)
 |_,_,_,.nil=>.nil
 |_,_,0,.cons _ t=>.cons r t
 |_,_,i+1,.cons q t=>.cons q (Vals.set r i t)
theorem Vals.append:∀{xs ys:List V} {us ws:List Value},Vals xs us->Vals ys ws->Vals (xs++ys) (us++ws)
 |_,_,_,_,.nil,s=>s
 |_,_,_,_,.cons r t,s=>.cons r (Vals.append t s)
theorem Vals.take:∀{xs:List V} {us:List Value} (n:Nat),Vals xs us->Vals (xs.take n) (us.take n)
 |_,_,0,_=>.nil
 |_,_,_+1,.nil=>.nil
 |_,_,n+1,.cons r t=>.cons r (Vals.take n t)
theorem Vals.drop:∀{xs:List V} {us:List Value} (n:Nat),Vals xs us->Vals (xs.drop n) (us.drop n)
 |_,_,0,r=>r
 |_,_,_+1,.nil=>.nil
 |_,_,n+1,.cons _ t=>Vals.drop n t
def qX:Option V->Option Value->Prop
 |some v,some u=>RelV v u
 |none,none=>True
 |_,_=>False
def KV{κ:Type}:List (κ×V)->List (κ×Value)->Prop:=Paired fun(p:κ×V) (q:κ×Value)=>p.1=q.1/\RelV p.2 q.2
def kV:Key->V
 |.inl i=>.int i
 |.inr x=>.str x
inductive HO where
 |lst (xs:List V)
 |tup (xs:List V)
 |dK (kvs:List (Key×V))|dT (kvs:List (List Key×V))
 |set (S:Int->Bool)(n:Nat)
 |ins (C dx:Addr)(fs:List (Str×V))
 |own (x:Addr)
 |xd (fs:List (Str×V))
 |met (f x:Addr)
 |rng (lo hi:Int)
 |frz (o:Obj)(u:HO)
 |tbl (ps:Array Value)
 |ext (φ:Heap->Prop)
abbrev Hp:=Addr->Option HO
def upd(H:Hp)(a:Addr)(o:HO):Hp:=fun b=>if b=a then some o else H b
theorem af{H:Hp}{a:Addr}{o:HO}:upd H a o a=some o:=by unfold upd;rw[if_pos rfl]
theorem aw{H:Hp}{a b:Addr}{o:HO}(h:b≠a):upd H a o b=H b:=by unfold upd;rw[if_neg h]
theorem wQ{H:Hp}{a b:Addr}{o u:HO}(h:H a=some o)(h':H b=some u)(d:o≠u):a≠b:=by intro e;subst e;rw[h]at h';exact d (zp h')
theorem aZ{H:Hp}{a b:Addr}{o:HO}(h:H a=some o)(h':H b=none):a≠b:=by intro e;subst e;rw[h]at h';cases h'
section
variable(P:Program)(w:World)
def ObjOk(H:Hp)(h:Heap)(a:Addr):HO->Prop
 |.lst xs=>xs.length<=sizeLine/\∃(its:List Value) (n:Nat),Vals xs its/\h.get? a=some { cls:=.type "list",data:=.seq its.toArray n }
 |.tup xs=>xs.length<=sizeLine/\∃its:List Value,Vals xs its/\IsTup h a its.toArray
 |.dK kvs=>kvs.length<=sizeLine/\(a==sysModules)=false/\∃vs,KV kvs vs/\h.DictOf (mK P w) a vs
 |.dT kvs=>kvs.length<=sizeLine/\(a==sysModules)=false/\∃xs:List (List Key×Addr×Value),
   Paired (fun(p:List Key×V) (q:List Key×Addr×Value)=>p.1=q.1/\H q.2.1=some (.tup (p.1.map kV))/\RelV p.2 q.2.2) kvs xs /\
   ∃o es ep,h.get? a=some o/\o.ExactDict/\o.data=.dict es ep/\es.toList=xs.map (entryOfKey (tupleKind (mK P w)))/\(xs.map (·.1)).Nodup
 |.set S n=>h.SetOf (intKind P w) a S n
 |.ins C dx fs=>H dx=some (.own a)/\fs.length<=1000/\dx≠a/\h.get? a=some (PySem.W.instObj C dx) /\
   ∃mA,h.Ns1 dx mA/\(∀f,qX (fs.lookup f) (mA f))/\PySem.Within mA (fs.map (·.1))
 |.own _=>∃o,h.get? a=some o
 |.xd fs=>∃mA,h.Ns1 a mA/\∀f,qX (fs.lookup f) (mA f)
 |.rng lo hi=>∃t u v,h.get? a=some { cls:=.type "range",data:=.fields #[.int lo t,.int hi u,.int 1 v] }
 |.frz o u=>h.get? a=some o/\ObjOk H h a u
 |.tbl ps=>h.get? a=some { cls:=.none,data:=.fields ps }
 |.met f x=>h.get? a=some (PySem.W.methodObj (.ref f) (.ref x))
 |.ext φ=>φ h/\(∃o,h.get? a=some o)/\∀h1 h2:Heap,φ h1->(∀o,h1.get? a=some o->h2.get? a=some o)->φ h2
def HOk(H:Hp)(h:Heap):Prop:=∀a o,H a=some o->ObjOk P w H h a o
end
section
variable{P:Program}{w:World}{H H':Hp}{h h':Heap}{a:Addr}{o:HO}
theorem ObjOk.lt(x:ObjOk P w H h a o):a<h.objs.size:=by
 cases o with
 |lst xs=>obtain⟨_,_,_,_,e⟩:=x;exact zk e
 |tup xs=>obtain⟨_,_,_,p⟩:=x;exact p.lt
 |dK kvs=>obtain⟨_,_,_,_,o,_,_,e,_⟩:=x;exact zk e
 |dT kvs=>obtain⟨_,_,_,_,o,_,_,e,_⟩:=x;exact zk e
 |set S n=>obtain⟨o,_,_,_,e,_⟩:=x;exact zk e
 |ins C dx fs=>obtain⟨_,_,_,e,_⟩:=x;exact zk e
 |own y=>obtain⟨_,e⟩:=x;exact zk e
 |xd fs=>obtain⟨_,⟨_,_,_,e,_⟩,_⟩:=x;exact zk e
 |rng lo hi=>obtain⟨_,_,_,e⟩:=x;exact zk e
 |frz ob u=>obtain⟨e,_⟩:=x;exact zk e
 |tbl ps=>exact zk (show h.get? a=some _ from x)
 |met f y=>exact zk (show h.get? a=some _ from x)
 |ext φ=>obtain⟨_,⟨_,e⟩,_⟩:=x;exact zk e
theorem Paired.mapP{α β:Type}{F G:α->β->Prop}:∀{l₁:List α} {l₂:List β},Paired F l₁ l₂->(∀a b,F a b->G a b)->Paired G l₁ l₂
 |_,_,.nil,_=>.nil
 |_,_,.cons r t,f=>.cons (f _ _ r) (Paired.mapP t f)
theorem ObjOk.stay(x:ObjOk P w H h a o)(k:∀b u,(b=a\/H b=some (.own a))->h.get? b=some u->h'.get? b=some u)(ho:∀b,H b=some (.own a)->H' b=some (.own a))(ht:∀b xs,H b=some (.tup xs)->H' b=some (.tup xs)):ObjOk P w H' h' a o:=by
 induction o with
 |lst xs=>obtain⟨z,its,n,r,e⟩:=x;exact⟨z,its,n,r,k _ _ (.inl rfl) e⟩
 |tup xs=>obtain⟨z,its,r,ob,e,c⟩:=x;exact⟨z,its,r,ob,k _ _ (.inl rfl) e,c⟩
 |dK kvs=>obtain⟨z,y,vs,r,ob,es,ep,e,c⟩:=x;exact⟨z,y,vs,r,ob,es,ep,k _ _ (.inl rfl) e,c⟩
 |dT kvs =>obtain⟨z,y,xs,r,ob,es,ep,e,c⟩:=x;exact⟨z,y,xs,Paired.mapP r fun p q z=>⟨z.1,ht _ _ z.2.1,z.2.2⟩,ob,es,ep,k _ _ (.inl rfl) e,c⟩
 |set S n=>obtain⟨ob,es,ep,t,e,c⟩:=x;exact⟨ob,es,ep,t,k _ _ (.inl rfl) e,c⟩
 |ins C dx fs =>obtain⟨d,z,ne,e,mA,⟨od,es,ep,e2,c⟩,r⟩:=x;exact⟨ho _ d,z,ne,k _ _ (.inl rfl) e,mA,⟨od,es,ep,k _ _ (.inr d) e2,c⟩,r⟩
 |own y=>obtain⟨ob,e⟩:=x;exact⟨ob,k _ _ (.inl rfl) e⟩
 |xd fs=>obtain⟨mA,⟨od,es,ep,e,c⟩,r⟩:=x;exact⟨mA,⟨od,es,ep,k _ _ (.inl rfl) e,c⟩,r⟩
 |rng lo hi=>obtain⟨t,u,v,e⟩:=x;exact⟨t,u,v,k _ _ (.inl rfl) e⟩
 |frz ob u ih=>obtain⟨e,q⟩:=x;exact⟨k _ _ (.inl rfl) e,ih q⟩
 |tbl ps =>have e:h.get? a=some { cls:=.none,data:=.fields ps }:=x;show h'.get? a=some { cls:=.none,data:=.fields ps };exact k a _ (.inl rfl) e
 |met f y =>have e:h.get? a=some (PySem.W.methodObj (.ref f) (.ref y)):=x;show h'.get? a=some (PySem.W.methodObj (.ref f) (.ref y));exact k a _ (.inl rfl) e
 |ext φ=>obtain⟨p,⟨o,e⟩,st⟩:=x;exact⟨st _ _ p fun o q=>k _ _ (.inl rfl) q,⟨o,k _ _ (.inl rfl) e⟩,st⟩
theorem HOk.lt(x:HOk P w H h)(e:H a=some o):a<h.objs.size:=(x a o e).lt
theorem HOk.fresh(x:HOk P w H h)(e:h.objs.size<=a):H a=none:=by
 cases q:H a with
 |none=>rfl
 |some u=>exact absurd (zl (x.lt q) e) (Zx _)
theorem HOk.kept(x:HOk P w H h)(k:∀b u,h.get? b=some u->h'.get? b=some u):HOk P w H h':=fun a o e =>
 (x a o e).stay (fun b u _ q=>k b u q) (fun _ q=>q) fun _ _ q=>q
theorem HOk.laid(x:HOk P w H h)(k:∀b u,h.get? b=some u->h'.get? b=some u)(hp:h.objs.size<=a)(new:ObjOk P w (upd H a o) h' a o):HOk P w (upd H a o) h':=fun b u e=>by
 have hn:=x.fresh hp;by_cases hb:b=a
 ·subst hb;rw[af]at e;cases e;exact new
 ·rw[aw hb]at e;exact(x b u e).stay (fun c v _ q=>k c v q) (fun c q=>by rw[aw (aZ q hn)];exact q) fun c xs q=>by rw[aw (aZ q hn)];exact q
end
def Rd(H:Hp)(a:Addr)(u:HO):Prop:=H a=some u\/∃o,H a=some (.frz o u)
theorem Rd.of{H:Hp}{a:Addr}{u:HO}(h:H a=some u):Rd H a u:=.inl h
theorem Rd.ok{P:Program}{w:World}{H:Hp}{h:Heap}{a:Addr}{u:HO}(r:Rd H a u)(x:HOk P w H h):ObjOk P w H h a u:=by
 rcases r with r|⟨o,r⟩
 ·exact x a u r
 ·obtain⟨_,q⟩:=x a _ r;exact q
def Mut:Option HO->Prop
 |some (.lst _)=>True
 |some (.dK _)=>True
 |some (.dT _)=>True
 |some (.set _ _)=>True
 |some (.ins _ _ _)=>True
 |some (.ext _)=>True
 |_=>False
section
variable{P:Program}{w:World}{H:Hp}{h h':Heap}{x e:Addr}{o':HO}
theorem HOk.write(ok:HOk P w H h)(mu:Mut (H x))(he:e=x\/H e=some (.own x))(k:∀b u,b≠e->h.get? b=some u->h'.get? b=some u)(heo:∃u,h'.get? e=some u)(new:ObjOk P w (upd H x o') h' x o'):HOk P w (upd H x o') h':=fun b u q=>by
 have nown:∀c y,H c=some (.own y)->c≠x:=fun c y r z=>by subst z;rw[r]at mu;exact mu
 have ntup:∀c xs,H c=some (.tup xs)->c≠x:=fun c xs r z=>by subst z;rw[r]at mu;exact mu
 by_cases hb:b=x
 ·subst hb;rw[af]at q;cases q;exact new
 ·rw[aw hb]at q;by_cases hbe:b=e
  ·have q':H b=some (.own x):=by
    rcases he with z|z
    ·exact absurd (hbe.trans z) hb
    ·rw[hbe];exact z
   rw[q]at q';cases q';obtain⟨v,hv⟩:=heo;exact⟨v,by rw[hbe];exact hv⟩
  ·refine(ok b u q).stay (fun c v hc r=>k c v ?_ r) (fun c r=>by rw[aw (nown c b r)];exact r) fun c xs r=>by rw[aw (ntup c xs r)];exact r
   rcases hc with rfl|hc
   ·exact hbe
   ·rintro rfl;rcases he with z|z
    ·exact nown c b hc z
    ·rw[hc]at z;cases z;exact hb rfl
end
structure Un(fs ex:List Addr)(H H':Hp)(h h':Heap):Prop where
 keep:∀b o,h.get? b=some o->H b=none->b∉fs->b∉ex->h'.get? b=some o
 slot:∀b o,h.get? b=some o->H b=none->b∈fs->b∉ex->∃sl,h'.get? b=some { o with slots:=sl }
 free:∀b o,h.get? b=some o->H b=none->b∉ex->H' b=none
 there:∀b o,h.get? b=some o->b∉ex->∃o',h'.get? b=some o'
 tups:∀b xs,H b=some (.tup xs)->H' b=some (.tup xs)
 frzs:∀b o u,H b=some (.frz o u)->H' b=some (.frz o u)
 tbls:∀b ps,H b=some (.tbl ps)->∃more,H' b=some (.tbl (ps++more))
section
variable{fs fs' ex ex':List Addr}{H H1 H2:Hp}{h h1 h2 h':Heap}{a x e:Addr}{o:HO}
theorem Un.any(u:Un fs ex H H1 h h1){b:Addr}{ob:Obj}(q:h.get? b=some ob)(n:H b=none)(hx:b∉ex):∃sl,h1.get? b=some { ob with slots:=sl }:=by
 by_cases hb:b∈fs
 ·exact u.slot b ob q n hb hx
 ·exact⟨ob.slots,u.keep b ob q n hb hx⟩
theorem Un.kept(k:∀b u,h.get? b=some u->h'.get? b=some u):Un fs ex H H h h' :=
 ⟨fun b ob q _ _ _=>k b ob q,fun b ob q _ _ _=>⟨ob.slots,k b ob q⟩,fun _ _ _ n _=>n,fun b ob q _=>⟨ob,k b ob q⟩,fun _ _ q=>q,fun _ _ _ q=>q,fun _ ps q=>⟨#[],by rw[q];simp⟩⟩
theorem Un.refl:Un fs ex H H h h:=Un.kept fun _ _ q=>q
theorem Un.laid(k:∀b u,h.get? b=some u->h'.get? b=some u)(hp:h.objs.size<=a)(hn:H a=none):Un fs ex H (upd H a o) h h' where
 keep:=fun b u q _ _ _=>k b u q
 slot:=fun b u q _ _ _=>⟨u.slots,k b u q⟩
 free:=fun b u q n _=>by rw[aw (zJ (zl (zk q) hp))];exact n
 there:=fun b u q _=>⟨u,k b u q⟩
 tups:=fun b xs q=>by rw[aw (aZ q hn)];exact q
 frzs:=fun b u xs q=>by rw[aw (aZ q hn)];exact q
 tbls:=fun b ps q=>⟨#[],by rw[aw (aZ q hn),q];simp⟩
theorem Un.write(mu:Mut (H x))(he:e=x\/H e=some (.own x))(k:∀b u,b≠e->h.get? b=some u->h'.get? b=some u)(heo:∃u,h'.get? e=some u):Un fs ex H (upd H x o) h h':=by
 have hx:∀b,H b=none->b≠x:=fun b n z=>by subst z;rw[n]at mu;exact mu
 have hb:∀b,H b=none->b≠e:=fun b n z=>by
  subst z;rcases he with r|r
  ·exact hx b n r
  ·rw[n]at r;cases r
 have hm:∀b u,H b=some u->¬Mut (some u)->b≠x:=fun b u q nm z=>by subst z;rw[q]at mu;exact nm mu
 refine⟨fun b u q n _ _=>k b u (hb b n) q,fun b u q n _ _=>⟨u.slots,k b u (hb b n) q⟩,fun b u q n _=>by rw[aw (hx b n)];exact n,fun b u q _=>?_,
  fun b xs q=>by rw[aw (hm b _ q fun z=>z)];exact q,fun b u xs q=>by rw[aw (hm b _ q fun z=>z)];exact q,fun b ps q=>⟨#[],by rw[aw (hm b _ q fun z=>z),q];simp⟩⟩
 by_cases hbe:b=e
 ·subst hbe;exact heo
 ·exact⟨u,k b u hbe q⟩
end
def trk(h:Heap)(H:Hp):List Addr:=(List.range h.objs.size).filter fun a=>(H a).isSome
def fu(h:Heap)(H:Hp):Heap:=PySem.W.hideAll h (trk h H)
theorem pS(h:Heap)(H:Hp):(fu h H).objs.size=h.objs.size:=PySem.W.hideAll_size _ _
theorem rz{h:Heap}{H:Hp}{b:Addr}{o:Obj}(e:h.get? b=some o)(n:H b=none):(fu h H).get? b=some o :=
 PySem.W.hideAll_get _ e fun hm=>by have q:(H b).isSome=true:=(List.mem_filter.mp hm).2;rw[n]at q;simp at q
theorem tL{h:Heap}{H:Hp}{b:Addr}{o:Obj}(e:(fu h H).get? b=some o):h.get? b=some o/\H b=none:=by
 have e':h.get? b=some o:=PySem.W.of_hideAll (trk h H) e;refine⟨e',?_⟩;cases q:H b with
 |none=>rfl
 |some x =>have hm:b∈trk h H:=List.mem_filter.mpr ⟨Zm.mpr (zk e'),by simp[q]⟩;have z:(fu h H).get? b=none:=PySem.W.hideAll_none (trk h H) hm;rw[z]at e;cases e
open PySem PySem.Spec PyProof.Rows
structure Mod(K:PySem.W.Frag)(mg:Str->Option Value)(base:Heap):Prop where
 kin:K.In base
 glob:base.Ns mainGlobals mg
 blt:∃mb,base.Ns builtinsNs mb/\∀x:Str,x≠"__name__"->mb x=bootBuiltins x
 nolimit:base.NoLimit
structure Cx where
 prog:Program
 w:World
 K:PySem.W.Frag
 mg:Str->Option Value
 base:Heap
 A:Around
 N:List Str
 s₀:Shared
 H₀:Hp
 env:Env
 outer:List Env
 stack:List Env
 ex:List Addr
 fn:Str->Bool
 calm:Bool
 pn:List (Addr×Obj)
 xe:Value->Shared->Prop
def frs(l:List Env):List Addr:=l.filterMap (·.frame)
abbrev Cx.fs(X:Cx):List Addr:=frs X.outer
def Vis(sc:Scope)(x:Str):Prop:=sc.names.lookup x=some .local\/sc.names.lookup x=some .cell\/sc.names.lookup x=some .free
def Loc(sc:Scope)(x:Str):Prop:=sc.names.lookup x=some .local\/sc.names.lookup x=some .cell
def xy(env:Env)(h:Heap)(m:Str->Option Value)(x:Str)(u:Value):Prop :=
 (env.kindOf x=some .local/\m x=some u)\/((env.kindOf x=some .cell\/env.kindOf x=some .free)/\∃c,env.cells.lookup x=some c/\h.IsCell c (some u))
structure Cx.Ok(X:Cx):Prop where
 mod:Mod X.K X.mg X.base
 kind:X.env.scope.kind=.function
 glob:X.env.globals=mainGlobals
 blt:X.env.builtins=builtinsNs
 above:X.s₀.heap.objs.size<=X.env.locals
 inj:∀x y c,X.env.cells.lookup x=some c->X.env.cells.lookup y=some c->x=y
 has:∀x,(X.env.kindOf x=some .cell\/X.env.kindOf x=some .free)->∃c,X.env.cells.lookup x=some c
 cab:∀x c,X.fn x=true->X.env.cells.lookup x=some c->X.s₀.heap.objs.size<=c
 hd:X.calm=true->X.A.handled=none
 frames:X.A.frames=some X.stack
 stk:X.stack=X.outer\/(X.stack=X.env::X.outer/\X.env.frame=some X.env.locals)
 exf:∀b∈X.ex,b≠X.env.locals/\∀x c,X.env.cells.lookup x=some c->c≠b
 bs:∀b o,X.base.get? b=some o->X.s₀.heap.get? b=some o/\X.H₀ b=none
 bsz:X.base.objs.size<=X.s₀.heap.objs.size
 noex:∀b o,X.base.get? b=some o->b∉X.ex
 exfs:∀b∈X.ex,b∉X.fs
 funs:X.s₀.heap.FunFrames X.base X.outer
 frf:∀b∈X.fs,X.H₀ b=none
structure Inv(X:Cx)(pins:List (Addr×Obj))(σ:List (Option V))(H:Hp)(s:Shared):Prop where
 ok:X.Ok
 os:s.os=X.s₀.os
 bare:AllBare s.gens
 base:Un X.fs X.ex X.H₀ H X.s₀.heap s.heap
 loc:∃m,s.heap.Ns X.env.locals m/\∀(i:Nat) (x:Str) (v:V),X.N[i]?=some x->σ[i]?=some (some v)->Vis X.env.scope x->∃u,RelV v u/\xy X.env s.heap m x u
 cell:∀x c,X.env.cells.lookup x=some c->∃v,s.heap.IsCell c v
 free:H X.env.locals=none
 freeC:∀x c,X.env.cells.lookup x=some c->H c=none
 pin:∀p∈X.pn++pins,s.heap.get? p.1=some p.2/\H p.1=none/\p.1≠X.env.locals/\p.1∉X.fs/\∀v,p.2.data≠.cell v
 hok:HOk X.prog X.w H s.heap
 len:σ.length=X.N.length
section
variable{X:Cx}{pins:List (Addr×Obj)}{σ:List (Option V)}{H H':Hp}{s:Shared}{h':Heap}
theorem Cx.Ok.nofr(ok:X.Ok){b:Addr}{o:Obj}(e:X.base.get? b=some o):b∉X.fs:=fun hb=>by have:=(ok.funs.mem hb).1;rw[e]at this;cases this
theorem Inv.bs(I:Inv X pins σ H s):∀b o,X.base.get? b=some o->s.heap.get? b=some o/\H b=none:=fun b o e =>
 ⟨I.base.keep b o (I.ok.bs b o e).1 (I.ok.bs b o e).2 (I.ok.nofr e) (I.ok.noex b o e),I.base.free b o (I.ok.bs b o e).1 (I.ok.bs b o e).2 (I.ok.noex b o e)⟩
theorem Inv.bk(I:Inv X pins σ H s):∀b o,X.base.get? b=some o->s.heap.get? b=some o:=fun b o e=>(I.bs b o e).1
theorem Inv.mod(I:Inv X pins σ H s):Mod X.K X.mg X.base:=I.ok.mod
theorem Inv.kIn(I:Inv X pins σ H s):X.K.In s.heap:=I.ok.mod.kin.keeps I.bk
theorem Inv.nolimit(I:Inv X pins σ H s):s.heap.NoLimit:=I.ok.mod.nolimit.keeps I.bk
theorem Inv.fr(I:Inv X pins σ H s):∃m,Fr X.base X.env.locals s.heap m :=
 let⟨m,hn,_⟩:=I.loc
 ⟨m,hn,I.bk,zq I.ok.bsz I.ok.above⟩
theorem Inv.lt(I:Inv X pins σ H s):X.env.locals<s.heap.objs.size:=let⟨_,hn,_⟩:=I.loc;hn.lt
theorem Inv.sz(I:Inv X pins σ H s):X.s₀.heap.objs.size<=s.heap.objs.size:=zq I.ok.above (Nat.le_of_lt I.lt)
theorem Inv.nofs(I:Inv X pins σ H s){a:Addr}(h:s.heap.objs.size<=a):a∉X.fs:=fun hb=>by obtain⟨_,o,ho,_⟩:=I.ok.funs.mem hb;exact absurd (zl (zk ho) (zq I.sz h)) (Zx _)
theorem Inv.cne(I:Inv X pins σ H s):∀x c,X.env.cells.lookup x=some c->c≠X.env.locals:=fun x c e z=>by obtain⟨v,o,ho,hd⟩:=I.cell x c e;obtain⟨m,⟨o',es,ep,ho',hd',_⟩,_⟩:=I.loc;rw[z,ho']at ho;cases ho;rw[hd']at hd;cases hd
theorem Inv.funs(I:Inv X pins σ H s):s.heap.FunFrames X.base X.outer:=by
 have all:∀(l:List Env),(∀b∈frs l,b∈X.fs)->X.s₀.heap.FunFrames X.base l->s.heap.FunFrames X.base l:=by
  intro l;induction l with
  |nil=>intro _ _;trivial
  |cons env r ih =>intro hs hl;obtain⟨hk,⟨L,o,hf,hn,ho,hd⟩,hr⟩:=hl;have hL:L∈X.fs:=hs L (by unfold frs;rw[List.filterMap_cons,hf];exact zU);obtain⟨sl,e⟩:=I.base.slot L o ho (I.ok.frf L hL) hL fun z=>I.ok.exfs L z hL;exact⟨hk,⟨L,_,hf,hn,e,hd⟩,ih (fun b hb=>hs b (by unfold frs;rw[List.filterMap_cons,hf];exact zG _ hb)) hr⟩
 exact all X.outer (fun _ hb=>hb) I.ok.funs
theorem Inv.stack(I:Inv X pins σ H s):s.heap.FunFrames X.base X.stack:=by
 rcases I.ok.stk with e|⟨e,hf⟩
 ·rw[e];exact I.funs
 ·rw[e];obtain⟨m,hn,_⟩:=I.loc;refine .cons (by rw[I.ok.kind];decide) hf hn ?_ I.funs;exact Heap.get?_none_of_le (zq I.ok.bsz I.ok.above)
theorem Inv.stkSub(I:Inv X pins σ H s):∀b∈frs X.stack,b∈X.env.locals::X.fs:=fun b hb=>by
 rcases I.ok.stk with e|⟨e,hf⟩
 ·rw[e]at hb;exact zG _ hb
 ·rw[e]at hb;unfold frs at hb;rw[List.filterMap_cons,hf]at hb;exact hb
theorem Inv.stkFree(I:Inv X pins σ H s):∀b∈frs X.stack,H b=none:=fun b hb=>by
 rcases zw.mp (I.stkSub b hb)with e|hb
 ·rw[e];exact I.free
 ·obtain⟨_,o,ho,_⟩:=I.ok.funs.mem hb;exact I.base.free b o ho (I.ok.frf b hb) fun z=>I.ok.exfs b z hb
theorem Inv.step{g':Array GenState}{t':Nat}{d':Drawn}{ch:List Addr}(I:Inv X pins σ H s)(hch:∀b∈ch,(b∈X.ex\/X.s₀.heap.objs.size<=b)/\b≠X.env.locals/\(∀x c,X.env.cells.lookup x=some c->c≠b)/\∀p∈X.pn++pins,p.1≠b)(keep:∀b o,b≠X.env.locals->b∉X.fs->b∉ch->s.heap.get? b=some o->H b=none->h'.get? b=some o)(slot:∀b o,b≠X.env.locals->b∈X.fs->b∉ch->s.heap.get? b=some o->H b=none->∃sl,h'.get? b=some { o with slots:=sl })(free:∀b o,b∉ch->s.heap.get? b=some o->H b=none->H' b=none)(there:∀b o,b∉ch->s.heap.get? b=some o->∃o',h'.get? b=some o')(tups:∀b xs,H b=some (.tup xs)->H' b=some (.tup xs))(frzs:∀b o u,H b=some (.frz o u)->H' b=some (.frz o u))(tbls:∀b ps,H b=some (.tbl ps)->∃more,H' b=some (.tbl (ps++more)))(ns:∀m,s.heap.Ns X.env.locals m->h'.Ns X.env.locals m)(hok:HOk X.prog X.w H' h')(hg:AllBare g') :
  Inv X pins σ H' { s with heap:=h',gens:=g',drawn:=d',toks:=t' }:=by
 have neL:∀b o,X.s₀.heap.get? b=some o->b≠X.env.locals:=fun b o e=>zJ (zl (zk e) I.ok.above);have neC:∀b o,X.s₀.heap.get? b=some o->b∉X.ex->b∉ch:=fun b o e hx hb=>by
  rcases(hch b hb).1 with z|z
  ·exact hx z
  ·exact absurd (zl (zk e) z) (Zx _)
 have cellK:∀x c,X.env.cells.lookup x=some c->∀v,s.heap.IsCell c v->h'.IsCell c v:=fun x c e v ⟨o,ho,hd⟩=>by
  have nch:c∉ch:=fun z=>(hch c z).2.2.1 x c e rfl;by_cases hc:c∈X.fs
  ·obtain⟨sl,q⟩:=slot c o (I.cne x c e) hc nch ho (I.freeC x c e);exact⟨_,q,hd⟩
  ·exact⟨o,keep c o (I.cne x c e) hc nch ho (I.freeC x c e),hd⟩
 refine⟨I.ok,I.os,hg,⟨fun b o e n hb hx=>?_,fun b o e n hb hx=>?_,fun b o e n hx=>?_,fun b o e hx=>?_,fun b xs e=>tups b xs (I.base.tups b xs e),fun b o xs e=>frzs b o xs (I.base.frzs b o xs e),fun b ps e=>?_⟩,?_,fun x c e=>?_,?_,fun x c e=>?_,fun p hp=>?_,hok,I.len⟩
 ·exact keep b o (neL b o e) hb (neC b o e hx) (I.base.keep b o e n hb hx) (I.base.free b o e n hx)
 ·obtain⟨sl,e1⟩:=I.base.slot b o e n hb hx;obtain⟨sl',e2⟩:=slot b _ (neL b o e) hb (neC b o e hx) e1 (I.base.free b o e n hx);exact⟨sl',e2⟩
 ·obtain⟨o',e1⟩:=I.base.there b o e hx;exact free b o' (neC b o e hx) e1 (I.base.free b o e n hx)
 ·obtain⟨o',e1⟩:=I.base.there b o e hx;exact there b o' (neC b o e hx) e1
 ·obtain⟨m1,e1⟩:=I.base.tbls b ps e;obtain⟨m2,e2⟩:=tbls b _ e1;exact⟨m1++m2,by rw[e2,Array.append_assoc]⟩
 ·obtain⟨m,hn,hl⟩:=I.loc;refine⟨m,ns m hn,fun i x v e1 e2 e3=>?_⟩;obtain⟨u,r,l⟩:=hl i x v e1 e2 e3;refine⟨u,r,?_⟩;rcases l with l|⟨k,c,e,z⟩
  ·exact .inl l
  ·exact .inr ⟨k,c,e,cellK x c e _ z⟩
 ·obtain⟨v,z⟩:=I.cell x c e;exact⟨v,cellK x c e v z⟩
 ·obtain⟨m,⟨o,_,_,ho,_⟩,_⟩:=I.loc;exact free _ o (fun z=>(hch _ z).2.1 rfl) ho I.free
 ·obtain⟨v,o,ho,hd⟩:=I.cell x c e;exact free c o (fun z=>(hch c z).2.2.1 x c e rfl) ho (I.freeC x c e)
 ·obtain⟨e,n,ne,nf,d⟩:=I.pin p hp;have nch:p.1∉ch:=fun z=>(hch p.1 z).2.2.2 p hp rfl;exact⟨keep p.1 p.2 ne nf nch e n,free p.1 p.2 nch e n,ne,nf,d⟩
theorem Inv.un{t':Nat}(I:Inv X pins σ H s)(u:Un X.fs [] H H' s.heap h')(hok:HOk X.prog X.w H' h'):Inv X pins σ H' { s with heap:=h',toks:=t' }:=by
 obtain⟨m,⟨o,es,ep,ho,r⟩,_⟩:=id I.loc;obtain⟨sl,hL⟩:=u.any ho I.free (by simp);exact I.step (g':=s.gens) (d':=s.drawn) (ch:=[]) (fun _ z=>nomatch z) (fun b o _ hb _ e n=>u.keep b o e n hb (by simp)) (fun b o _ hb _ e n=>u.slot b o e n hb (by simp)) (fun b o _ e n=>u.free b o e n (by simp)) (fun b o _ e=>u.there b o e (by simp)) u.tups u.frzs u.tbls (fun m' hm=>by
  obtain⟨o',es',ep',ho',r'⟩:=hm;rw[ho]at ho';cases ho';exact⟨_,es',ep',hL,r'⟩) hok I.bare
theorem Inv.call{g':Array GenState}{t':Nat}{d':Drawn}{ch:List Addr}(I:Inv X pins σ H s)(u:Un (frs X.stack) ch H H' s.heap h')(hok:HOk X.prog X.w H' h')(hg:AllBare g')(hch:∀b∈ch,(b∈X.ex\/X.s₀.heap.objs.size<=b)/\b≠X.env.locals/\(∀x c,X.env.cells.lookup x=some c->c≠b)/\∀p∈X.pn++pins,p.1≠b) :
  Inv X pins σ H' { s with heap:=h',gens:=g',drawn:=d',toks:=t' }:=by
 obtain⟨m,⟨o,es,ep,ho,r⟩,_⟩:=id I.loc;obtain⟨sl,hL⟩:=u.any ho I.free fun z=>(hch _ z).2.1 rfl;exact I.step (ch:=ch) hch (fun b o hL hb hc e n=>u.keep b o e n (fun z=>(zw.mp (I.stkSub b z)).elim hL hb) hc) (fun b o _ _ hc e n=>u.any e n hc) (fun b o hc e n=>u.free b o e n hc) (fun b o hc e=>u.there b o e hc) u.tups u.frzs u.tbls (fun m' hm=>by
  obtain⟨o',es',ep',ho',r'⟩:=hm;rw[ho]at ho';cases ho';exact⟨_,es',ep',hL,r'⟩) hok hg
theorem Inv.turned{t':Nat}{it:Addr}(I:Inv X pins σ H s)(k:∀b o,b≠it->s.heap.get? b=some o->h'.get? b=some o)(hn:H it=none)(hL:it≠X.env.locals)(h1:it∈X.ex\/X.s₀.heap.objs.size<=it)(h2:∀x c,X.env.cells.lookup x=some c->c≠it)(h3:∀p∈X.pn++pins,p.1≠it):Inv X pins σ H { s with heap:=h',toks:=t' }:=by
 have nit:∀b u,H b=some u->b≠it:=fun b u e z=>by rw[z,hn]at e;cases e
 refine I.step (g':=s.gens) (d':=s.drawn) (ch:=[it]) (fun b hb=>?_) (fun b o _ _ hc e _=>k b o (fun z=>hc (by simp[z])) e) (fun b o _ _ hc e _=>⟨o.slots,k b o (fun z=>hc (by simp[z])) e⟩) (fun _ _ _ _ n=>n)
  (fun b o hc e=>⟨o,k b o (fun z=>hc (by simp[z])) e⟩) (fun _ _ e=>e) (fun _ _ _ e=>e) (fun b ps e=>⟨#[],by rw[e];simp⟩) (fun m hm=>?_) (fun b u e=>?_) I.bare
 ·have e:b=it:=by simpa using hb
  subst e;exact⟨h1,hL,h2,h3⟩
 ·obtain⟨o,es,ep,ho,r⟩:=hm;exact⟨o,es,ep,k _ o (Zn hL) ho,r⟩
 ·refine(I.hok b u e).stay (fun c v hc q=>k c v ?_ q) (fun _ q=>q) fun _ _ q=>q;rcases hc with z|z
  ·rw[z];exact nit b u e
  ·exact nit c _ z
theorem Inv.tok(I:Inv X pins σ H s)(t:Nat):Inv X pins σ H { s with toks:=t }:=I.un (h':=s.heap) (t':=t) Un.refl I.hok
theorem Inv.kept{t':Nat}(I:Inv X pins σ H s)(k:∀b u,s.heap.get? b=some u->h'.get? b=some u):Inv X pins σ H { s with heap:=h',toks:=t' }:=I.un (Un.kept k) (I.hok.kept k)
theorem Inv.laid{a:Addr}{o:HO}{t':Nat}(I:Inv X pins σ H s)(k:∀b u,s.heap.get? b=some u->h'.get? b=some u)(hp:s.heap.objs.size<=a)(new:ObjOk X.prog X.w (upd H a o) h' a o) :
  Inv X pins σ (upd H a o) { s with heap:=h',toks:=t' }:=I.un (Un.laid k hp (I.hok.fresh hp)) (I.hok.laid k hp new)
theorem Inv.write{x e:Addr}{o:HO}{t':Nat}(I:Inv X pins σ H s)(mu:Mut (H x))(he:e=x\/H e=some (.own x))(k:∀b u,b≠e->s.heap.get? b=some u->h'.get? b=some u)(heo:∃u,h'.get? e=some u)(new:ObjOk X.prog X.w (upd H x o) h' x o):Inv X pins σ (upd H x o) { s with heap:=h',toks:=t' }:=I.un (Un.write mu he k heo) (I.hok.write mu he k heo new)
theorem Inv.weak{σ':List (Option V)}(I:Inv X pins σ H s)(hl:σ'.length=σ.length)(w:∀(i:Nat) v,σ'[i]?=some (some v)->σ[i]?=some (some v)):Inv X pins σ' H s :=
 ⟨I.ok,I.os,I.bare,I.base,let⟨m,hn,hl'⟩:=I.loc;⟨m,hn,fun i x v e1 e2 e3=>hl' i x v e1 (w i v e2) e3⟩,I.cell,I.free,I.freeC,I.pin,I.hok,hl.trans I.len⟩
theorem Inv.pins_of{pins':List (Addr×Obj)}(I:Inv X pins σ H s)(h:∀p∈pins',s.heap.get? p.1=some p.2/\H p.1=none/\p.1≠X.env.locals/\p.1∉X.fs/\∀v,p.2.data≠.cell v):Inv X pins' σ H s :=
 ⟨I.ok,I.os,I.bare,I.base,I.loc,I.cell,I.free,I.freeC,fun p hp=>(Zh.mp hp).elim (fun z=>I.pin p (List.mem_append_left _ z)) (h p),I.hok,I.len⟩
theorem iq{N:List Str}(hN:N.Nodup){i j:Nat}{x:Str}(a:N[i]?=some x)(b:N[j]?=some x):i=j:=by obtain⟨h1,e1⟩:=zj.mp a;obtain⟨h2,e2⟩:=zj.mp b;exact(List.getElem_inj hN).mp (e1.trans e2.symm)
theorem ka{M:Model}{A:Around}{E:Value->Shared->Prop}{i:Nat}{x:Str}{v:V}{u:Value}{Q:Unit->Shared->Prop}(I:Inv X pins σ H s)(hN:X.N.Nodup)(hi:X.N[i]?=some x)(hx:Loc X.env.scope x)(r:RelV v u)(h:∀s',Inv X pins (σ.set i (some v)) H s'->(∃a,Heap.SameBut a s.heap s'.heap/\(a=X.env.locals\/X.env.cells.lookup x=some a))->Q () s')(hf:X.fn x=true\/X.env.scope.names.lookup x=some .local:=by first|exact .inl rfl|exact .inr rfl|assumption):wpAny M A (storeName X.env x u) Q E s:=by
 obtain⟨m,hn,hl⟩:=id I.loc;have hcls:(X.env.scope.kind == .class ||(X.env.scope.kind == .module&&X.env.locals != X.env.globals))=false:=by rw[I.ok.kind];rfl
 have hiσ:i<σ.length:=by rw[I.len];exact(zj.mp hi).1
 have cne:=I.cne;have tracked:∀{a:Addr} {h':Heap},(∃o,s.heap.get? a=some o/\H a=none)->Heap.SameBut a s.heap h'->HOk X.prog X.w H h':=fun{a h'} ha hs b ob e=>by
  obtain⟨_,_,hfree⟩:=ha;refine(I.hok b ob e).stay (fun c w' hc q=>(hs.2 c ?_).trans q) (fun _ q=>q) fun _ _ q=>q;rintro rfl;rcases hc with rfl|hc
  ·rw[hfree]at e;cases e
  ·rw[hfree]at hc;cases hc
 rcases hx with hk|hk
 ·refine wpAny_storeName_local hk hn (fun h' hn' hs=>?_) hcls;obtain⟨oL,_,_,hoL,_⟩:=id hn;refine h _ ⟨I.ok,I.os,I.bare,⟨fun b o e n hb hx=>?_,fun b o e n hb hx=>?_,I.base.free,fun b o e hx=>?_,I.base.tups,I.base.frzs,I.base.tbls⟩,⟨_,hn',fun j y v' e1 e2 e3=>?_⟩,fun y c e=>?_,I.free,I.freeC,fun p hp=>?_,tracked ⟨oL,hoL,I.free⟩ hs,by simpa using I.len⟩ ⟨_,hs,.inl rfl⟩
  ·exact(hs.2 b (zJ (zl (zk e) I.ok.above))).trans (I.base.keep b o e n hb hx)
  ·obtain⟨sl,e1⟩:=I.base.slot b o e n hb hx;exact⟨sl,(hs.2 b (zJ (zl (zk e) I.ok.above))).trans e1⟩
  ·obtain⟨o',e1⟩:=I.base.there b o e hx;exact⟨o',(hs.2 b (zJ (zl (zk e) I.ok.above))).trans e1⟩
  ·by_cases hj:j=i
   ·subst hj;rw[hi]at e1;cases e1;rw[List.getElem?_set_self hiσ]at e2;cases e2;exact⟨u,r,.inl ⟨hk,by simp⟩⟩
   ·rw[List.getElem?_set_ne (Zn hj)]at e2;obtain⟨u',r',q⟩:=hl j y v' e1 e2 e3;refine⟨u',r',?_⟩;rcases q with⟨k,e⟩|⟨k,c,e,z⟩
    ·refine .inl ⟨k,?_⟩;have:y≠x:=fun e=>hj (iq hN e1 (e▸hi));simp[this,e]
    ·exact .inr ⟨k,c,e,z.sameBut hs (cne y c e)⟩
  ·obtain⟨w',z⟩:=I.cell y c e;exact⟨w',z.sameBut hs (cne y c e)⟩
  ·obtain⟨e,n,ne,nf,d⟩:=I.pin p hp;exact⟨(hs.2 p.1 ne).trans e,n,ne,nf,d⟩
 ·have hfn:X.fn x=true:=by
   rcases hf with z|z
   ·exact z
   ·rw[z]at hk;cases hk
  obtain⟨c,hc⟩:=I.ok.has x (.inl hk);obtain⟨w',z⟩:=I.cell x c hc;refine wpAny_storeName_cell I.ok.kind hk hc z (fun h' hc' hs=>?_);obtain⟨oc,hoc,hocd⟩:=id z;refine h { s with heap:=h' } ⟨I.ok,I.os,I.bare,⟨fun b o e n hb hx=>?_,fun b o e n hb hx=>?_,I.base.free,fun b o e hx=>?_,I.base.tups,I.base.frzs,I.base.tbls⟩,⟨m,hn.sameBut hs (Zn (cne x c hc)),fun j y v' e1 e2 e3=>?_⟩,fun y c' e=>?_,I.free,I.freeC,fun p hp=>?_,tracked ⟨oc,hoc,I.freeC x c hc⟩ hs,by simpa using I.len⟩ ⟨c,hs,.inr hc⟩
  ·exact(hs.2 b (zJ (zl (zk e) (I.ok.cab x c hfn hc)))).trans (I.base.keep b o e n hb hx)
  ·obtain⟨sl,e1⟩:=I.base.slot b o e n hb hx;exact⟨sl,(hs.2 b (zJ (zl (zk e) (I.ok.cab x c hfn hc)))).trans e1⟩
  ·obtain⟨o',e1⟩:=I.base.there b o e hx;exact⟨o',(hs.2 b (zJ (zl (zk e) (I.ok.cab x c hfn hc)))).trans e1⟩
  ·by_cases hj:j=i
   ·subst hj;rw[hi]at e1;cases e1;rw[List.getElem?_set_self hiσ]at e2;cases e2;exact⟨u,r,.inr ⟨.inl hk,c,hc,hc'⟩⟩
   ·rw[List.getElem?_set_ne (Zn hj)]at e2;obtain⟨u',r',q⟩:=hl j y v' e1 e2 e3;refine⟨u',r',?_⟩;rcases q with q|⟨k,c',e,z'⟩
    ·exact .inl q
    ·refine .inr ⟨k,c',e,z'.sameBut hs ?_⟩;rintro rfl;exact hj (iq hN e1 (I.ok.inj _ _ _ e hc▸hi))
  ·by_cases hcc:c'=c
   ·subst hcc;exact⟨_,hc'⟩
   ·obtain⟨w2,z2⟩:=I.cell y c' e;exact⟨w2,z2.sameBut hs hcc⟩
  ·obtain⟨e,n,ne,nf,d⟩:=I.pin p hp;refine⟨(hs.2 p.1 ?_).trans e,n,ne,nf,d⟩;intro q;rw[q,hoc]at e;have q':oc=p.2:=zp e;exact d w' (by rw[<-q'];exact hocd)
theorem fQ{M:Model}{A:Around}{E:Value->Shared->Prop}{i:Nat}{x:Str}{v:V}{u:Value}{Q:Unit->Shared->Prop}(I:Inv X pins σ H s)(hN:X.N.Nodup)(hi:X.N[i]?=some x)(hx:Loc X.env.scope x)(r:RelV v u)(h:∀s',Inv X pins (σ.set i (some v)) H s'->Q () s')(hf:X.fn x=true\/X.env.scope.names.lookup x=some .local:=by first|exact .inl rfl|exact .inr rfl|assumption):wpAny M A (storeName X.env x u) Q E s :=
 ka I hN hi hx r (fun s' I' _=>h s' I') hf
theorem Inv.call'{s':Shared}{ch:List Addr}(I:Inv X pins σ H s)(ho:s'.os=s.os)(u:Un (frs X.stack) ch H H' s.heap s'.heap)(hok:HOk X.prog X.w H' s'.heap)(hg:AllBare s'.gens)(hch:∀b∈ch,(b∈X.ex\/X.s₀.heap.objs.size<=b)/\b≠X.env.locals/\(∀x c,X.env.cells.lookup x=some c->c≠b)/\∀p∈X.pn++pins,p.1≠b):Inv X pins σ H' s':=by obtain⟨h',g',d',t',o'⟩:=s';have e:o'=s.os:=ho;subst e;exact I.call (g':=g') (t':=t') (d':=d') u hok hg hch
end
abbrev XK:=Value->Option Addr->Hp->Prop
abbrev St:=List (Option V)
abbrev VK:=V->Hp->Prop
abbrev TE:=St->Hp->VK->Prop
abbrev TT:=St->Hp->(Bool->Hp->Prop)->Prop
abbrev TA:=St->Hp->(List V->Hp->Prop)->Prop
structure Ends where
 nx:St->Hp->Prop
 rt:VK
 bk:St->Hp->Prop:=fun _ _=>False
 ct:St->Hp->Prop:=fun _ _=>False
abbrev TS:=Ends->St->Hp->Prop
def EP(X:Cx)(pins:List (Addr×Obj))(σ:St)(Q:VK)(u:Value)(s':Shared):Prop:=∃v H',Inv X pins σ H' s'/\RelV v u/\Q v H'
def TP(X:Cx)(pins:List (Addr×Obj))(σ:St)(Q:Bool->Hp->Prop)(b:Bool)(s':Shared):Prop:=∃H',Inv X pins σ H' s'/\Q b H'
def AP(X:Cx)(pins:List (Addr×Obj))(σ:St)(Q:List V->Hp->Prop)(us:List Value)(s':Shared):Prop:=∃vs H',Inv X pins σ H' s'/\Vals vs us/\Q vs H'
def SP(X:Cx)(pins:List (Addr×Obj))(D:Ends)(f:Flow)(s':Shared):Prop :=
 match f with
 |.next=>∃σ' H',Inv X pins σ' H' s'/\D.nx σ' H'
 |.brk=>∃σ' H',Inv X pins σ' H' s'/\D.bk σ' H'
 |.cont=>∃σ' H',Inv X pins σ' H' s'/\D.ct σ' H'
 |.ret u=>∃v σ' H',Inv X pins σ' H' s'/\RelV v u/\D.rt v H'
def PE(X:Cx)(e:Expr)(t:TE):Prop :=
 ∀(pins:List (Addr×Obj)) (s:Shared) (σ:St) (H:Hp) (Q:VK),Inv X pins σ H s->t σ H Q->wpAny (model X.prog X.w) X.A (eval e X.env) (EP X pins σ Q) X.xe s
def PT(X:Cx)(e:Expr)(t:TT):Prop :=
 ∀(pins:List (Addr×Obj)) (s:Shared) (σ:St) (H:Hp) (Q:Bool->Hp->Prop),Inv X pins σ H s->t σ H Q->wpAny (model X.prog X.w) X.A (isTrue e X.env (eval e X.env)) (TP X pins σ Q) X.xe s
def PW(X:Cx)(e:Expr)(t:TT):Prop :=
 ∀(whole:Sem Value) (pins:List (Addr×Obj)) (s:Shared) (σ:St) (H:Hp) (Q:Bool->Hp->Prop),Inv X pins σ H s->t σ H Q->wpAny (model X.prog X.w) X.A (isTrue e X.env whole) (TP X pins σ Q) X.xe s
theorem PW.pt{X:Cx}{e:Expr}{t:TT}(h:PW X e t):PT X e t:=h _
def PA(X:Cx)(es:List Expr)(t:TA):Prop :=
 ∀(pos:Pos) (pins:List (Addr×Obj)) (s:Shared) (σ:St) (H:Hp) (Q:List V->Hp->Prop),Inv X pins σ H s->t σ H Q->wpAny (model X.prog X.w) X.A (spliced (backTo pos (starEach es X.env))) (AP X pins σ Q) X.xe s
def PS(X:Cx)(st:Stmt)(t:TS):Prop :=
 ∀(pins:List (Addr×Obj)) (s:Shared) (σ:St) (H:Hp) (D:Ends),Inv X pins σ H s->t D σ H->wpAny (model X.prog X.w) X.A (exec st X.env) (SP X pins D) X.xe s
def PSs(X:Cx)(st:List Stmt)(t:TS):Prop :=
 ∀(pins:List (Addr×Obj)) (s:Shared) (σ:St) (H:Hp) (D:Ends),Inv X pins σ H s->t D σ H->wpAny (model X.prog X.w) X.A (execs st X.env) (SP X pins D) X.xe s
theorem thn{α:Type}{t:Sem α}{Q Q':α->Shared->Prop}{M:Model}{A:Around}{E:Value->Shared->Prop}{s:Shared}(h:wpAny M A t Q E s)(hQ:∀a s,Q a s->Q' a s):wpAny M A t Q' E s:=Zl h hQ fun _ _ x=>x
open PySem PySem.Spec PyProof.Rows
section
variable{X:Cx}
def oU(i:Nat):TE:=fun σ H Q=>∃v,σ[i]?=some (some v)/\Q v H
def tC(v:V):TE:=fun _ H Q=>Q v H
theorem vH{i:Nat}{x:Str}{pos:Pos}(hN:X.N[i]?=some x)(hv:Vis X.env.scope x)(hd:(x==("__debug__":Str))=false:=by decide)(hcd:(x==("__classdict__":Str))=false:=by decide):PE X (.Name x pos) (oU i):=by
 intro pins s σ H Q I h;obtain⟨v,e,h⟩:=h;obtain⟨m,hn,hl⟩:=I.loc;obtain⟨u,r,l⟩:=hl i x v hN e hv;have fin:EP X pins σ Q u s:=⟨v,H,I,r,h⟩
 rcases l with⟨hk,hm⟩|⟨hk,c,hc,hcell⟩
 ·exact wpAny_Name (wpAny_loadName_local I.ok.kind hk hn hm fin) hd
 ·rcases hk with hk|hk
  ·exact wpAny_Name (wpAny_loadName_cell I.ok.kind hk hc hcell fin) hd
  ·exact wpAny_Name (wpAny_loadName_free I.ok.kind hk hc hcell fin hcd) hd
theorem vA{i j pos}:PE X (.Constant (.int i) j pos) (tC (.int i)):=fun _ _ _ H _ I h=>wpAny_Constant_int ⟨.int i,H,I.tok _,⟨_,rfl⟩,h⟩
theorem xf{b j pos}:PE X (.Constant (.bool b) j pos) (tC (.bl b)):=fun _ _ _ H _ I h=>Constant_bool ⟨.bl b,H,I,rfl,h⟩
theorem vC{j pos}:PE X (.Constant .none j pos) (tC .non):=fun _ _ _ H _ I h=>Constant_none ⟨.non,H,I,rfl,h⟩
theorem vF{x j pos}:PE X (.Constant (.str x) j pos) (tC (.str x)):=fun _ _ _ H _ I h=>Calls.Constant_str ⟨.str x,H,I.tok _,⟨_,rfl⟩,h⟩
def Gl(X:Cx)(x:Str):Prop:=X.env.kindOf x=some .globalImplicit
theorem eM{E:Value->Shared->Prop}{pins:List (Addr×Obj)}{s:Shared}{σ:St}{H:Hp}{x:Str}{u:Value}{pos:Pos}{Q:Value->Shared->Prop}(I:Inv X pins σ H s)(hg:Gl X x)(hm:X.mg x=some u)(h:Q u s)(hd:(x==("__debug__":Str))=false:=by decide):wpAny (model X.prog X.w) X.A (eval (.Name x pos) X.env) Q E s :=
 Calls.Name_function_global I.ok.kind hg (Calls.loadGlobal_global (by rw[I.ok.glob];exact I.mod.glob.keeps I.bk) hm h) hd
theorem dM{E:Value->Shared->Prop}{pins:List (Addr×Obj)}{s:Shared}{σ:St}{H:Hp}{x:Str}{u:Value}{pos:Pos}{Q:Value->Shared->Prop}(I:Inv X pins σ H s)(hg:Gl X x)(hm:X.mg x=none)(hv:bootBuiltins x=some u)(h:Q u s)(hn:x≠"__name__":=by decide)(hd:(x==("__debug__":Str))=false:=by decide):wpAny (model X.prog X.w) X.A (eval (.Name x pos) X.env) Q E s:=by obtain⟨mb,h1,h2⟩:=I.mod.blt;exact Calls.Name_function_global I.ok.kind hg (Calls.loadGlobal_builtin (by rw[I.ok.glob];exact I.mod.glob.keeps I.bk) hm (by rw[I.ok.blt];exact h1.keeps I.bk) ((h2 x hn).trans hv) h) hd
theorem jD{x:Str}{v:V}{u:Value}{pos:Pos}(hg:Gl X x)(hm:X.mg x=some u)(r:RelV v u)(hd:(x==("__debug__":Str))=false:=by decide):PE X (.Name x pos) (tC v) :=
 fun _ _ _ H _ I h=>eM I hg hm ⟨v,H,I,r,h⟩ hd
theorem tS{x:Str}{v:V}{u:Value}{pos:Pos}(hg:Gl X x)(hm:X.mg x=none)(hv:bootBuiltins x=some u)(r:RelV v u)(hn:x≠"__name__":=by decide)(hd:(x==("__debug__":Str))=false:=by decide):PE X (.Name x pos) (tC v) :=
 fun _ _ _ H _ I h=>dM I hg hm hv ⟨v,H,I,r,h⟩ hn hd
variable{a b:Expr}{ta tb:TE}{pos:Pos}
def tB(t:TE):TT:=fun σ H Q=>t σ H fun x H1=>∃c,x=.bl c/\Q c H1
theorem vR{e:Expr}{t:TE}(h:PE X e t)(he:∀whole,isTrue e X.env whole=(do let v ←whole;standAt e.pos;holding [v] (truthy v)):=by intro _;rfl):PT X e (tB t):=by intro pins s σ H Q I hw;refine isTrue_plain (thn (h pins s σ H _ I hw) fun v s1 hz9=>?_) (he _);obtain⟨x,H1,I1,r1,q1⟩:=hz9;obtain⟨d,rfl,q⟩:=q1;cases r1;exact zW ⟨H1,I1,q⟩
variable{tA tB':TT}{rest:List Expr}
def wm(t u:TT):TT:=fun σ H Q=>t σ H fun c H1=>if c=true then u σ H1 Q else Q false H1
def tOr(t u:TT):TT:=fun σ H Q=>t σ H fun c H1=>if c=true then Q true H1 else u σ H1 Q
def wv(t:TT):TT:=fun σ H Q=>t σ H fun c H1=>Q (!c) H1
theorem ul(ha:PT X a tA):PW X (.BoolOp .And [a] pos) tA:=by
 intro wh pins s σ H Q I h;refine isTrue_and (thn (ha pins s σ H Q I h) fun c s1 e=>?_);cases c with
 |true=>exact isTrue_and_nil e
 |false=>exact e
theorem vT(ha:PT X a tA):PW X (.BoolOp .Or [a] pos) tA:=by
 intro wh pins s σ H Q I h;refine isTrue_or (thn (ha pins s σ H Q I h) fun c s1 e=>?_);cases c with
 |false=>exact isTrue_or_nil e
 |true=>exact e
theorem vS(ha:PT X a tA)(hb:PW X (.BoolOp .And (b::rest) pos) tB'):PW X (.BoolOp .And (a::b::rest) pos) (wm tA tB'):=by
 intro wh pins s σ H Q I h;refine isTrue_and (thn (ha pins s σ H _ I h) fun c s1 ⟨H1,I1,q1⟩=>?_);cases c with
 |true=>exact hb wh pins s1 σ H1 Q I1 q1
 |false=>exact⟨H1,I1,q1⟩
theorem xo(ha:PT X a tA)(hb:PW X (.BoolOp .Or (b::rest) pos) tB'):PW X (.BoolOp .Or (a::b::rest) pos) (tOr tA tB'):=by
 intro wh pins s σ H Q I h;refine isTrue_or (thn (ha pins s σ H _ I h) fun c s1 ⟨H1,I1,q1⟩=>?_);cases c with
 |true=>exact⟨H1,I1,q1⟩
 |false=>exact hb wh pins s1 σ H1 Q I1 q1
theorem vQ(ha:PT X a tA):PT X (.UnaryOp .Not a pos) (wv tA):=by intro pins s σ H Q I h;exact isTrue_not (ha pins s σ H (fun c H1=>Q (!c) H1) I h)
def sW(ta tb:TE):TE:=fun σ H Q=>ta σ H fun x H1=>∃c,x=.bl c/\if c=true then tb σ H1 Q else Q (.bl false) H1
def ss(ta tb:TE):TE:=fun σ H Q=>ta σ H fun x H1=>∃c,x=.bl c/\if c=true then Q (.bl true) H1 else tb σ H1 Q
def oR(ta:TE):TE:=fun σ H Q=>ta σ H fun x H1=>∃c,x=.bl c/\Q (.bl (!c)) H1
theorem vE{op}{t:TE}(h:PE X a t):PE X (.BoolOp op [a] pos) t:=fun pins s σ H Q I hw=>BoolOp_one (h pins s σ H Q I hw)
theorem vy(ha:PE X a ta)(hb:PE X (.BoolOp .And (b::rest) pos) tb):PE X (.BoolOp .And (a::b::rest) pos) (sW ta tb):=by
 intro pins s σ H Q I h;refine BoolOp_and (thn (ha pins s σ H _ I h) fun v s1 hz9=>?_);obtain⟨x,H1,I1,r1,q1⟩:=hz9;obtain⟨c,rfl,q1⟩:=q1;cases r1;refine zW ?_;cases c with
 |true=>exact hb pins s1 σ H1 Q I1 q1
 |false=>exact⟨.bl false,H1,I1,rfl,q1⟩
theorem xj(ha:PE X a ta)(hb:PE X (.BoolOp .Or (b::rest) pos) tb):PE X (.BoolOp .Or (a::b::rest) pos) (ss ta tb):=by
 intro pins s σ H Q I h;refine BoolOp_or (thn (ha pins s σ H _ I h) fun v s1 hz9=>?_);obtain⟨x,H1,I1,r1,q1⟩:=hz9;obtain⟨c,rfl,q1⟩:=q1;cases r1;refine zW ?_;cases c with
 |false=>exact hb pins s1 σ H1 Q I1 q1
 |true=>exact⟨.bl true,H1,I1,rfl,q1⟩
theorem vD(ha:PE X a ta):PE X (.UnaryOp .Not a pos) (oR ta):=by intro pins s σ H Q I h;refine UnaryOp_ (thn (ha pins s σ H _ I h) fun v s1 hz9=>?_);obtain⟨x,H1,I1,r1,q1⟩:=hz9;obtain⟨c,rfl,q1⟩:=q1;cases r1;exact not_of (zW ⟨.bl (!c),H1,I1,rfl,q1⟩)
def tIf(t:TT)(ta tb:TE):TE:=fun σ H Q=>t σ H fun c H1=>if c=true then ta σ H1 Q else tb σ H1 Q
theorem rN{c:Expr}(hc:PT X c tA)(ha:PE X a ta)(hb:PE X b tb):PE X (.IfExp c a b pos) (tIf tA ta tb):=by
 intro pins s σ H Q I h;refine wpAny_IfExp (thn (hc pins s σ H _ I h) fun d s1 ⟨H1,I1,q1⟩=>?_);cases d with
 |true=>exact ha pins s1 σ H1 Q I1 q1
 |false=>exact hb pins s1 σ H1 Q I1 q1
end
open PySem PySem.Spec PyProof.Rows
def SqL(K:PySem.W.Frag)(H:Hp)(a:Addr)(xs:List V):Prop :=
 Rd H a (.lst xs) \/
  ∃(o:Obj) (its:Array Value) (n:Nat),K.lookup a=some o/\o.cls=.type "list"/\o.dict=none/\o.data=.seq its n/\its.size<=sizeLine/\Vals xs its.toList
def SqT(K:PySem.W.Frag)(H:Hp)(a:Addr)(xs:List V):Prop :=
 Rd H a (.tup xs) \/
  ∃(o:Obj) (its:Array Value) (n:Nat),K.lookup a=some o/\o.cls=.type "tuple"/\o.data=.seq its n/\its.size<=sizeLine/\Vals xs its.toList
def xA:Value->Option V
 |.none=>some .non
 |.bool b=>some (.bl b)
 |.int i _=>some (.int i)
 |.str x _=>some (.str x)
 |.bytes b _=>some (.byt b)
 |.float b _=>some (.flt b)
 |.ref a=>some (.ref a)
 |.type n=>some (.ty n)
 |_=>none
theorem RelV.abs{x:V}{u:Value}(r:RelV x u):xA u=some x:=by
 cases x with
 |non=>cases r;rfl
 |bl _=>cases r;rfl
 |int _=>obtain⟨t,rfl⟩:=r;rfl
 |str _=>obtain⟨t,rfl⟩:=r;rfl
 |byt _=>obtain⟨t,rfl⟩:=r;rfl
 |flt _=>obtain⟨t,rfl⟩:=r;rfl
 |ref _=>cases r;rfl
 |ty _=>cases r;rfl
theorem RelV.inj{x y:V}{u:Value}(r:RelV x u)(q:RelV y u):x=y:=zp (r.abs.symm.trans q.abs)
theorem Vals.inj:∀{xs ys:List V} {us:List Value},Vals xs us->Vals ys us->xs=ys
 |_,_,_,.nil,.nil=>rfl
 |_,_,_,.cons r t,.cons r' t'=>by rw[r.inj r',Vals.inj t t']
section
variable{X:Cx}{pins:List (Addr×Obj)}{σ:St}{H:Hp}{s:Shared}{a:Addr}{xs ys:List V}
theorem SqL.of{K:PySem.W.Frag}(h:H a=some (.lst xs)):SqL K H a xs:=.inl (.inl h)
theorem SqT.of{K:PySem.W.Frag}(h:H a=some (.tup xs)):SqT K H a xs:=.inl (.inl h)
theorem Inv.list(I:Inv X pins σ H s)(h:SqL X.K H a xs):∃its:List Value,Vals xs its/\PlainL s.heap a its.toArray/\xs.length<=sizeLine:=by
 rcases h with h|⟨o,its,n,hk,hc,hd,hs,hz,r⟩
 ·obtain⟨z,its,n,r,e⟩:=h.ok I.hok;exact⟨its,r,⟨_,n,e,rfl,rfl,rfl⟩,z⟩
 ·refine⟨its.toList,r,⟨o,n,I.kIn a o hk,hc,hd,by simpa using hs⟩,?_⟩;have e:=r.length;simp only[zB]at e;omega
theorem Inv.tuple(I:Inv X pins σ H s)(h:SqT X.K H a xs):∃its:List Value,Vals xs its/\IsTup s.heap a its.toArray/\xs.length<=sizeLine:=by
 rcases h with h|⟨o,its,n,hk,hc,hs,hz,r⟩
 ·obtain⟨z,its,r,p⟩:=h.ok I.hok;exact⟨its,r,p,z⟩
 ·refine⟨its.toList,r,⟨o,I.kIn a o hk,hc,n,by simpa using hs⟩,?_⟩;have e:=r.length;simp only[zB]at e;omega
theorem Inv.list_inj(I:Inv X pins σ H s)(h:SqL X.K H a xs)(h':SqL X.K H a ys):xs=ys:=by
 obtain⟨its,r,⟨o,n,e,_,_,d⟩,_⟩:=I.list h;obtain⟨its',r',⟨o',n',e',_,_,d'⟩,_⟩:=I.list h';rw[e]at e';cases e';rw[d]at d';injection d' with d1 _;have:its=its':=by simpa using Zd Array.toList d1
 subst this;exact r.inj r'
theorem Inv.tuple_inj(I:Inv X pins σ H s)(h:SqT X.K H a xs)(h':SqT X.K H a ys):xs=ys:=by
 obtain⟨its,r,⟨o,e,_,n,d⟩,_⟩:=I.tuple h;obtain⟨its',r',⟨o',e',_,n',d'⟩,_⟩:=I.tuple h';rw[e]at e';cases e';rw[d]at d';injection d' with d1 _;have:its=its':=by simpa using Zd Array.toList d1
 subst this;exact r.inj r'
end
abbrev Cx.wish(X:Cx)(E:Value->Shared->Prop):Cx:={ X with xe:=E }
abbrev Cx.nox(X:Cx):Cx:=X.wish fun _ _=>False
theorem Cx.Ok.wish{X:Cx}(ok:X.Ok)(E:Value->Shared->Prop):(X.wish E).Ok :=
 ⟨ok.mod,ok.kind,ok.glob,ok.blt,ok.above,ok.inj,ok.has,ok.cab,ok.hd,ok.frames,ok.stk,ok.exf,ok.bs,ok.bsz,ok.noex,ok.exfs,ok.funs,ok.frf⟩
theorem Cx.Ok.unwish{X:Cx}{E:Value->Shared->Prop}(ok:(X.wish E).Ok):X.Ok :=
 ⟨ok.mod,ok.kind,ok.glob,ok.blt,ok.above,ok.inj,ok.has,ok.cab,ok.hd,ok.frames,ok.stk,ok.exf,ok.bs,ok.bsz,ok.noex,ok.exfs,ok.funs,ok.frf⟩
section
variable{X:Cx}{pins:List (Addr×Obj)}{σ:St}{H:Hp}{s:Shared}{E:Value->Shared->Prop}
theorem Inv.wish(I:Inv X pins σ H s)(E:Value->Shared->Prop):Inv (X.wish E) pins σ H s:=⟨I.ok.wish E,I.os,I.bare,I.base,I.loc,I.cell,I.free,I.freeC,I.pin,I.hok,I.len⟩
theorem Inv.unwish(I:Inv (X.wish E) pins σ H s):Inv X pins σ H s:=⟨I.ok.unwish,I.os,I.bare,I.base,I.loc,I.cell,I.free,I.freeC,I.pin,I.hok,I.len⟩
theorem SP.unwish{D:Ends}{f:Flow}{s':Shared}(h:SP (X.wish E) pins D f s'):SP X pins D f s':=by
 cases f with
 |next=>obtain⟨σ',H',I,q⟩:=h;exact⟨σ',H',I.unwish,q⟩
 |brk=>obtain⟨σ',H',I,q⟩:=h;exact⟨σ',H',I.unwish,q⟩
 |cont=>obtain⟨σ',H',I,q⟩:=h;exact⟨σ',H',I.unwish,q⟩
 |ret u=>obtain⟨v,σ',H',I,r,q⟩:=h;exact⟨v,σ',H',I.unwish,r,q⟩
theorem PSs.nox{st:List Stmt}{t:TS}(h:PSs X.nox st t):PSs X st t:=fun pins s σ H D I hw =>
 Zl (h pins s σ H D (I.wish _) hw) (fun _ _ q=>q.unwish) fun _ _ z=>False.elim z
end
section
variable{X:Cx}{st:Stmt}{rest:List Stmt}{t u:TS}{e:Expr}{te:TE}{pos:Pos}
def sY:TS:=fun D σ H=>D.nx σ H
def oS(t u:TS):TS:=fun D σ H=>t { D with nx:=u D } σ H
theorem ug:PSs X [] sY:=fun _ _ σ H _ I h=>wpAny_execs_nil ⟨σ,H,I,h⟩
theorem rS(h1:PS X st t)(h2:PSs X rest u):PSs X (st::rest) (oS t u):=by
 intro pins s σ H D I h;refine wpAny_execs_cons (thn (h1 pins s σ H { D with nx:=u D } I h) fun f s1 q=>?_);cases f with
 |next =>obtain⟨σ',H',I',q⟩:=q;exact h2 pins s1 σ' H' D I' q
 |ret v=>exact q
 |brk=>exact q
 |cont=>exact q
theorem uh(h1:PS X st t):PSs X [st] t:=by
 intro pins s σ H D I h;refine wpAny_execs_cons (thn (h1 pins s σ H D I h) fun f s1 q=>?_);cases f with
 |next=>exact wpAny_execs_nil q
 |ret v=>exact q
 |brk=>exact q
 |cont=>exact q
theorem Inv.quiet{pins:List (Addr×Obj)}{σ:St}{H:Hp}{s:Shared}(I:Inv X pins σ H s):interactive X.env=false:=by simp[interactive,I.ok.kind]
def sX(te:TE):TS:=fun D σ H=>te σ H fun _ H1=>D.nx σ H1
theorem ue(he:PE X e te)(hs:swapsWith e none pos.line X.env=pure false:=by rfl):PS X (.Expr e pos) (sX te):=by intro pins s σ H D I h;exact wpAny_Expr_any (thn (he pins s σ H _ I h) fun v s1 ⟨x,H1,I1,r1,q1⟩=>⟨σ,H1,I1,q1⟩) I.quiet hs
def ww(te:TE):TS:=fun D σ H=>te σ H D.rt
theorem vO(he:PE X e te):PS X (.Return (some e) pos) (ww te):=by intro pins s σ H D I h;exact wpAny_Return_some (thn (he pins s σ H _ I h) fun v s1 ⟨x,H1,I1,r1,q1⟩=>⟨x,σ,H1,I1,r1,q1⟩)
def wq(c:TT)(t u:TS):TS:=fun D σ H=>c σ H fun b H1=>if b=true then t D σ H1 else u D σ H1
theorem xn{c:Expr}{a b:List Stmt}{tc:TT}(hc:PT X c tc)(ha:PSs X a t)(hb:PSs X b u):PS X (.If c a b pos) (wq tc t u):=by
 intro pins s σ H D I h;refine wpAny_If (thn (hc pins s σ H _ I h) fun d s1 ⟨H1,I1,q1⟩=>?_);cases d with
 |true=>exact ha pins s1 σ H1 D I1 q1
 |false=>exact hb pins s1 σ H1 D I1 q1
end
abbrev TG:=V->St->Hp->(St->Hp->Prop)->Prop
abbrev TGs:=List V->St->Hp->(St->Hp->Prop)->Prop
def PG(X:Cx)(target:Expr)(t:TG):Prop :=
 ∀(pins:List (Addr×Obj)) (s:Shared) (σ:St) (H:Hp) (v:V) (u:Value) (Q:St->Hp->Prop),Inv X pins σ H s->RelV v u->t v σ H Q ->
  wpAny (model X.prog X.w) X.A (assign target X.env u) (fun _ s'=>∃σ' H',Inv X pins σ' H' s'/\Q σ' H') X.xe s
def PGs(X:Cx)(ts:List Expr)(t:TGs):Prop :=
 ∀(pins:List (Addr×Obj)) (s:Shared) (σ:St) (H:Hp) (vs:List V) (us:List Value) (Q:St->Hp->Prop),Inv X pins σ H s->Vals vs us->t vs σ H Q ->
  wpAny (model X.prog X.w) X.A (assignInOrder ((assignEach ts X.env).map (·.2)) us) (fun _ s'=>∃σ' H',Inv X pins σ' H' s'/\Q σ' H') X.xe s
abbrev kK:=V->V->V->Hp->(Hp->Prop)->Prop
def qW(X:Cx)(t:kK):Prop :=
 ∀(pins:List (Addr×Obj)) (s:Shared) (σ:St) (H:Hp) (o i v:V) (ov iv u:Value) (Q:Hp->Prop),Inv X pins σ H s->RelV o ov->RelV i iv->RelV v u->t o i v H Q ->
  wpAny (model X.prog X.w) X.A (setItem ov iv u) (fun _ s'=>∃H',Inv X pins σ H' s'/\Q H') X.xe s
abbrev TIp:=V->V->Hp->VK->Prop
def PIp(X:Cx)(op:Operator)(t:TIp):Prop :=
 ∀(pins:List (Addr×Obj)) (s:Shared) (σ:St) (H:Hp) (x y:V) (v u:Value) (Q:VK),Inv X pins σ H s->RelV x v->RelV y u->t x y H Q ->
  wpAny (model X.prog X.w) X.A (inplaceOp op v u) (EP X pins σ Q) X.xe s
section
variable{X:Cx}{pos:Pos}
def bA(i:Nat):TG:=fun v σ H Q=>Q (σ.set i (some v)) H
theorem tW{i:Nat}{x:Str}(hN:X.N.Nodup)(hi:X.N[i]?=some x)(hx:Loc X.env.scope x)(hf:X.fn x=true\/X.env.scope.names.lookup x=some .local:=by first|exact .inl rfl|exact .inr rfl|assumption):PG X (.Name x pos) (bA i):=by intro pins s σ H v u Q I r h;exact wpAny_assign_Name (fQ I hN hi hx r (fun s' I'=>⟨_,H,I',h⟩) hf)
def jx:TGs:=fun vs σ H Q=>vs=[]/\Q σ H
def dY(t:TG)(u:TGs):TGs:=fun vs σ H Q=>∃v r,vs=v::r/\t v σ H fun σ' H'=>u r σ' H' Q
theorem tX:PGs X [] jx:=by intro pins s σ H vs us Q I r h;obtain⟨e,h⟩:=h;subst e;cases r;exact assignInOrder_nil ⟨σ,H,I,h⟩
theorem rP{e:Expr}{es:List Expr}{t:TG}{u:TGs}(h1:PG X e t)(h2:PGs X es u)(hs:(assignEach (e::es) X.env).map (·.2)=assign e X.env::(assignEach es X.env).map (·.2):=by rfl):PGs X (e::es) (dY t u):=by
 intro pins s σ H vs us Q I r h;obtain⟨v,vr,e1,h⟩:=h;subst e1;cases r with
 |cons r rr =>rw[hs];refine assignInOrder_cons (thn (h1 pins s σ H _ _ _ I r h) fun _ s1 ⟨σ1,H1,I1,q1⟩=>?_);exact h2 pins s1 σ1 H1 _ _ Q I1 rr q1
def jy(K:PySem.W.Frag)(n:Nat)(t:TGs):TG:=fun v σ H Q=>∃a xs,v=.ref a/\SqT K H a xs/\xs.length=n/\t xs σ H Q
theorem vJ{es:List Expr}{k:Nat}{t:TGs}{n:Nat}(hc:X.calm=true)(h:PGs X es t)(hn:(assignEach es X.env).length=n:=by rfl)(hst:(assignEach es X.env).findIdx? (·.1)=none:=by rfl):PG X (.Tuple es k pos) (jy X.K n t):=by intro pins s σ H v u Q I r hw;obtain⟨a,xs,e1,hq,hl,hw⟩:=hw;subst e1;cases r;obtain⟨its,rv,ht,hz⟩:=I.tuple hq;refine assign_Tuple_tuple (I.ok.hd hc) ht (by simp[hn,<-hl,rv.length]) hst fun h' hx=>?_;have I1:Inv X pins σ H { s with heap:=h' }:=I.kept (t':=s.toks) fun b o e=>hx b o (zJ (zk e)) e;exact h pins _ σ H xs _ Q I1 (by simpa using rv) hw
def uO(to ti:TE)(t:kK):TG:=fun v σ H Q=>to σ H fun o H1=>ti σ H1 fun i H2=>t o i v H2 fun H3=>Q σ H3
theorem vI{o i:Expr}{to ti:TE}{t:kK}(ho:PE X o to)(hi:PE X i ti)(hs:qW X t)(ha:∀ v,assign (.Subscript o i pos) X.env v=(do
   let ov ←holding [v] (eval o X.env)
   let iv ←holding [v,ov] (eval i X.env)
   standAt pos
   holding [v,ov,iv] (setItem ov iv v)
   release [v,ov,iv] []):=by intro _;rfl):PG X (.Subscript o i pos) (uO to ti t):=by
 intro pins s σ H v u Q I r h;rw[ha];refine za (wpAny_holding (thn (ho pins s σ H _ I h) fun ov s1 hz9=>?_));obtain⟨x,H1,I1,r1,q1⟩:=hz9;refine za (wpAny_holding (thn (hi pins s1 σ H1 _ I1 q1) fun iv s2 hz9=>?_));obtain⟨y,H2,I2,r2,q2⟩:=hz9;refine za (wpAny_standAt (za (wpAny_holding (thn (hs pins s2 σ H2 x y v ov iv u _ I2 r1 r2 r q2) fun _ s3 ⟨H3,I3,q3⟩=>?_))));exact wpAny_release ⟨σ,H3,I3,q3⟩
def jK(te:TE)(g:TG):TS:=fun D σ H=>te σ H fun x H1=>g x σ H1 D.nx
theorem vM{tg e:Expr}{te:TE}{g:TG}(he:PE X e te)(hg:PG X tg g)(hs:swapsWithSole [tg] e pos.line X.env=pure false:=by rfl)(hw:swappedStores [tg] e X.env=pure none:=by rfl)(h1:(assignEach [tg] X.env).map (·.2)=[assign tg X.env]:=by rfl):PS X (.Assign [tg] e pos) (jK te g):=by intro pins s σ H D I h;refine wpAny_Assign_stores (thn (he pins s σ H _ I h) fun v s1 hz9=>?_) hs hw;obtain⟨x,H1,I1,r1,q1⟩:=hz9;rw[h1];exact thn (hg pins s1 σ H1 x v _ I1 r1 q1) fun _ s2 q=>q
theorem vP{i:Nat}{x:Str}{e:Expr}{te:TE}{pos':Pos}(hN:X.N.Nodup)(hi:X.N[i]?=some x)(hx:Loc X.env.scope x)(he:PE X e te)(hs:swapsWith e (some (.Name x pos')) pos.line X.env=pure false:=by rfl)(hf:X.fn x=true\/X.env.scope.names.lookup x=some .local:=by first|exact .inl rfl|exact .inr rfl|assumption) :
  PS X (.Assign [.Name x pos'] e pos) (jK te (bA i)):=by
 intro pins s σ H D I h;refine wpAny_Assign_Name (thn (he pins s σ H _ I h) fun v s1 hz9=>?_) hs;obtain⟨y,H1,I1,r1,q1⟩:=hz9;exact fQ I1 hN hi hx r1 (fun s2 I2=>⟨_,H1,I2,q1⟩) hf
end
structure It where
 go:Nat->Hp->Prop
 yld:Nat->Hp->V->Hp->Prop
 stop:Nat->Hp->Prop
def bB(X:Cx)(pins:List (Addr×Obj))(H:Hp)(b:Addr):Prop :=
 H b=none/\b≠X.env.locals/\b∉X.fs/\(b∈X.ex\/X.s₀.heap.objs.size<=b)/\(∀x c,X.env.cells.lookup x=some c->c≠b)/\∀p∈X.pn++pins,p.1≠b
theorem Inv.fpOk{X:Cx}{pins:List (Addr×Obj)}{σ:St}{H H':Hp}{s:Shared}{b:Addr}(I:Inv X pins σ H s)(hb:s.heap.objs.size<=b)(hn:H' b=none):bB X pins H' b:=by
 refine⟨hn,Zq (zl I.lt hb),I.nofs hb,.inr (zq I.sz hb),fun x c e z=>?_,fun p hp z=>?_⟩
 ·obtain⟨v,q⟩:=I.cell x c e;exact absurd (zl q.lt (by rw[z];exact hb)) (Zx _)
 ·exact absurd (zl (zk (I.pin p hp).1) (by rw[z];exact hb)) (Zx _)
structure Turn(P:Program)(w:World)(K:PySem.W.Frag)(tg:Expr)(J:It)(fp:List Addr)(it:Addr)(tn:Nat->Heap->Prop):Prop where
 mem:it∈fp
 obj:∀i h,tn i h->∀b∈fp,∃o,h.get? b=some o/\∀v,o.data≠.cell v
 keep:∀i h h',tn i h->(∀b∈fp,∀o,h.get? b=some o->h'.get? b=some o)->tn i h'
 item:∀(X:Cx),X.prog=P->X.w=w->X.K=K->X.calm=true->∀(i:Nat) (pins:List (Addr×Obj)) (s:Shared) (σ:St) (H:Hp) (E:Value->Shared->Prop),Inv X pins σ H s->(∀b∈fp,bB X pins H b)->tn i s.heap->J.go i H ->
  wpAny (model P w) X.A (pyNext (.ref it)) (fun r s1=>∃ u,r=some u /\
   wpAny (model P w) X.A (letOwnedTupleGo tg (.ref it) u) (fun _ s2=>∃ x H',Inv X pins σ H' s2/\RelV x u/\J.yld i H x H'/\tn (i+1) s2.heap/\∀ b∈fp,H' b=none) E s1) E s
 done:∀(X:Cx),X.prog=P->X.w=w->X.K=K->X.calm=true->∀(i:Nat) (pins:List (Addr×Obj)) (s:Shared) (σ:St) (H:Hp) (E:Value->Shared->Prop),Inv X pins σ H s->(∀b∈fp,bB X pins H b)->tn i s.heap->J.stop i H ->
  wpAny (model P w) X.A (pyNext (.ref it)) (fun r s1=>r=none/\Inv X pins σ H s1) E s
 self:∀(A:Around) (i:Nat) (s:Shared) (Q:Value->Shared->Prop) (E:Value->Shared->Prop),tn i s.heap->Q (.ref it) s->wpAny (model P w) A (pyIter (.ref it)) Q E s
abbrev TI:=St->Hp->(It->Hp->Prop)->Prop
def PIE(X:Cx)(pins:List (Addr×Obj))(σ:St)(tg:Expr)(R:It->Hp->Prop)(itv:Value)(s2:Shared):Prop :=
 ∃(it:Addr) (fp:List Addr) (tn:Nat->Heap->Prop) (J:It) (H':Hp),itv=.ref it/\Inv X pins σ H' s2/\Turn X.prog X.w X.K tg J fp it tn/\tn 0 s2.heap/\(∀b∈fp,bB X pins H' b)/\R J H'
def PI(X:Cx)(tg iter:Expr)(wi:TI):Prop :=
 ∀(pins:List (Addr×Obj)) (s:Shared) (σ:St) (H:Hp) (R:It->Hp->Prop),Inv X pins σ H s->wi σ H R ->
  wpAny (model X.prog X.w) X.A (eval iter X.env) (fun v s1=>wpAny (model X.prog X.w) X.A (pyIter v) (PIE X pins σ tg R) X.xe s1) X.xe s
theorem iM{M:Model}{A:Around}{E:Value->Shared->Prop}{s:Shared}{tg:Expr}{it:Addr}{u:Value}{o:Obj}{n:String}{vs:Array Value}{Q:Unit->Shared->Prop}(ho:s.heap.get? it=some o)(hc:o.cls=.type n)(hd:o.data=.fields vs)(hn:["enumerate","zip","dict_itemiterator","dict_reverseitemiterator","odict_iterator","itertools.zip_longest","itertools.pairwise"].contains n=false)(hQ:Q () s):wpAny M A (letOwnedTupleGo tg (.ref it) u) Q E s:=by
 unfold letOwnedTupleGo;cases tg<;>first
  |exact zi hQ
  | (cases u<;>first
    |exact zi hQ
    | (refine za (wpAny_load ho ?_)
       rw[hc,hd];show wpAny M A (if(["enumerate","zip","dict_itemiterator","dict_reverseitemiterator","odict_iterator","itertools.zip_longest","itertools.pairwise"].contains n&&vs[0]?==some (rawInt _))=true then _ else _) Q E s;rw[if_neg (by intro h;rw[hn,zP]at h;cases h)];exact zi hQ))
def Itl(K:PySem.W.Frag)(a:Addr):It :=
 ⟨fun i H=>∃xs x,SqL K H a xs/\xs[i]?=some x,fun i H x H'=>H'=H/\∀xs,SqL K H a xs->xs[i]?=some x,fun i H=>∃xs,SqL K H a xs/\xs.length<=i⟩
def Itt(K:PySem.W.Frag)(a:Addr):It :=
 ⟨fun i H=>∃xs x,SqT K H a xs/\xs[i]?=some x,fun i H x H'=>H'=H/\∀xs,SqT K H a xs->xs[i]?=some x,fun i H=>∃xs,SqT K H a xs/\xs.length<=i⟩
def Itr(lo:Int)(n:Nat):It:=⟨fun i _=>i<n,fun i H x H'=>H'=H/\x=.int (lo+i),fun i _=>n<=i⟩
theorem qO{P:Program}{w:World}{K:PySem.W.Frag}{tg:Expr}(a it:Addr):Turn P w K tg (Itl K a) [it] it (fun i h=>h.IsListIter it a i) where
 mem:=by simp
 obj:=fun i h st b hb=>by
  have e:b=it:=by simpa using hb
  subst e;obtain⟨o,e,c,d⟩:=st;exact⟨o,e,fun v z=>by rw[d]at z;cases z⟩
 keep:=fun i h h' st k=>st.at fun o e=>k it (by simp) o e
 item:=by intro X hP hw hK hc i pins s σ H E I hf st hg;subst hP hw hK;obtain⟨xs,x,hq,hx⟩:=hg;obtain⟨its,rv,p,hz⟩:=I.list hq;obtain⟨u,hu,ru⟩:=rv.get hx;obtain⟨f0,f1,f2,f3,f4,f5⟩:=hf it (by simp);refine wpAny_pyNext_list_item st p.isList (x:=u) (by simpa using hu) fun h' st' sb=>?_;have I1:Inv X pins σ H { s with heap:=h' }:=I.turned (t':=s.toks) (fun b o hb e=>(sb.2 b hb).trans e) f0 f1 f3 f4 f5;obtain⟨o,e,c,d⟩:=id st';exact⟨u,rfl,iM (s:={ s with heap:=h' }) e c d (by decide) ⟨x,H,I1,ru,⟨rfl,fun ys hy=>by rw[I.list_inj hy hq];exact hx⟩,st',fun b hb=>(hf b hb).1⟩⟩
 done:=by intro X hP hw hK hc i pins s σ H E I hf st hg;subst hP hw hK;obtain⟨xs,hq,hx⟩:=hg;obtain⟨its,rv,p,hz⟩:=I.list hq;obtain⟨f0,f1,f2,f3,f4,f5⟩:=hf it (by simp);have hl:=rv.length;exact wpAny_pyNext_list_end (I.ok.hd hc) st p.isList (by simp;omega) fun h' eb=>⟨rfl,I.turned (t':=s.toks) (fun b o hb e=>eb b o hb e) f0 f1 f3 f4 f5⟩
 self:=fun _ _ _ _ _ st h=>wpAny_pyIter_listiter st h
theorem oW{P:Program}{w:World}{K:PySem.W.Frag}{tg:Expr}(a it:Addr):Turn P w K tg (Itt K a) [it] it (fun i h=>h.IsTupleIter it a i) where
 mem:=by simp
 obj:=fun i h st b hb=>by
  have e:b=it:=by simpa using hb
  subst e;obtain⟨o,e,c,d⟩:=st;exact⟨o,e,fun v z=>by rw[d]at z;cases z⟩
 keep:=fun i h h' st k=>st.at fun o e=>k it (by simp) o e
 item:=by intro X hP hw hK hc i pins s σ H E I hf st hg;subst hP hw hK;obtain⟨xs,x,hq,hx⟩:=hg;obtain⟨its,rv,p,hz⟩:=I.tuple hq;obtain⟨u,hu,ru⟩:=rv.get hx;obtain⟨f0,f1,f2,f3,f4,f5⟩:=hf it (by simp);refine wpAny_pyNext_tuple_item st (show s.heap.IsTuple a its.toArray from p) (x:=u) (by simpa using hu) fun h' st' sb=>?_;have I1:Inv X pins σ H { s with heap:=h' }:=I.turned (t':=s.toks) (fun b o hb e=>(sb.2 b hb).trans e) f0 f1 f3 f4 f5;obtain⟨o,e,c,d⟩:=id st';exact⟨u,rfl,iM (s:={ s with heap:=h' }) e c d (by decide) ⟨x,H,I1,ru,⟨rfl,fun ys hy=>by rw[I.tuple_inj hy hq];exact hx⟩,st',fun b hb=>(hf b hb).1⟩⟩
 done:=by intro X hP hw hK hc i pins s σ H E I hf st hg;subst hP hw hK;obtain⟨xs,hq,hx⟩:=hg;obtain⟨its,rv,p,hz⟩:=I.tuple hq;obtain⟨f0,f1,f2,f3,f4,f5⟩:=hf it (by simp);have hl:=rv.length;exact wpAny_pyNext_tuple_end (I.ok.hd hc) st (show s.heap.IsTuple a its.toArray from p) (by simp;omega) fun h' eb=>⟨rfl,I.turned (t':=s.toks) (fun b o hb e=>eb b o hb e) f0 f1 f3 f4 f5⟩
 self:=fun _ _ _ _ _ st h=>wpAny_pyIter_tupleiter st h
theorem oV{P:Program}{w:World}{K:PySem.W.Frag}{tg:Expr}(it:Addr)(lo:Int)(n:Nat):Turn P w K tg (Itr lo n) [it] it (fun i h=>IsRangeIter h it (lo+(i:Nat)*1) ((n:Int)-(i:Nat)) 1) where
 mem:=by simp
 obj:=fun i h st b hb=>by
  have e:b=it:=by simpa using hb
  subst e;exact⟨_,st,fun v z=>by
   have z':Data.fields _=Data.cell v:=z;cases z'⟩
 keep:=fun i h h' st k=>k it (by simp) _ st
 item:=by intro X hP hw hK hc i pins s σ H E I hf st hg;subst hP hw hK;obtain⟨f0,f1,f2,f3,f4,f5⟩:=hf it (by simp);have W:=Walks.range (prog:=X.prog) (w:=X.w) (I.ok.hd hc) it lo 1 n;refine W.item i s _ _ hg st fun v h' tk hv st' kk=>?_;obtain⟨t,rfl⟩:=hv;have I1:Inv X pins σ H { s with heap:=h',toks:=tk }:=I.turned (fun b o hb e=>kk b o (by simpa using hb) e) f0 f1 f3 f4 f5;refine⟨_,rfl,iM (s:={ s with heap:=h',toks:=tk }) (n:="range_iterator") st' rfl rfl (by decide) ⟨.int (lo+i),H,I1,⟨t,?_⟩,⟨rfl,rfl⟩,st',fun b hb=>(hf b hb).1⟩⟩;rw[Int.mul_one]
 done:=by intro X hP hw hK hc i pins s σ H E I hf st hg;subst hP hw hK;obtain⟨f0,f1,f2,f3,f4,f5⟩:=hf it (by simp);exact wpAny_pyNext_range_end (I.ok.hd hc) st (by have:n<=i:=hg;omega) fun h' eb=>⟨rfl,I.turned (t':=s.toks) (fun b o hb e=>eb b o hb e) f0 f1 f3 f4 f5⟩
 self:=fun _ _ _ _ _ st h=>wpAny_pyIter_rangeiter st h
open PySem PySem.Spec PyProof.Rows
section
variable{X:Cx}{tg:Expr}
def sF(K:PySem.W.Frag)(tl:TE):TI:=fun σ H R=>tl σ H fun x H1=>∃a,x=.ref a/\(∃xs,SqL K H1 a xs)/\R (Itl K a) H1
def uP(K:PySem.W.Frag)(tl:TE):TI:=fun σ H R=>tl σ H fun x H1=>∃a,x=.ref a/\(∃xs,SqT K H1 a xs)/\R (Itt K a) H1
theorem tY{l:Expr}{tl:TE}(hl:PE X l tl):PI X tg l (sF X.K tl):=by
 intro pins s σ H R I h;refine thn (hl pins s σ H _ I h) fun v s1 hz9=>?_;obtain⟨x,H1,I1,r1,q1⟩:=hz9;obtain⟨a,e,⟨xs,hq⟩,q⟩:=q1;subst e;cases r1;obtain⟨its,rv,p,hz⟩:=I1.list hq;refine wpAny_pyIter_list p.isList ?_;refine⟨s1.heap.objs.size,[s1.heap.objs.size],_,_,H1,rfl,I1.kept (t':=s1.toks) fun b o e=>zc _ e,qO a _,⟨_,zn _ rfl,rfl,rfl⟩,fun b hb=>?_,q⟩;have e:b=s1.heap.objs.size:=by simpa using hb
 subst e;exact I1.fpOk (ze _) (I1.hok.fresh (ze _))
theorem vK{l:Expr}{tl:TE}(hl:PE X l tl):PI X tg l (uP X.K tl):=by
 intro pins s σ H R I h;refine thn (hl pins s σ H _ I h) fun v s1 hz9=>?_;obtain⟨x,H1,I1,r1,q1⟩:=hz9;obtain⟨a,e,⟨xs,hq⟩,q⟩:=q1;subst e;cases r1;obtain⟨its,rv,p,hz⟩:=I1.tuple hq;refine wpAny_pyIter_tuple (show s1.heap.IsTuple a its.toArray from p) ?_;refine⟨s1.heap.objs.size,[s1.heap.objs.size],_,_,H1,rfl,I1.kept (t':=s1.toks) fun b o e=>zc _ e,oW a _,⟨_,zn _ rfl,rfl,rfl⟩,fun b hb=>?_,q⟩;have e:b=s1.heap.objs.size:=by simpa using hb
 subst e;exact I1.fpOk (ze _) (I1.hok.fresh (ze _))
theorem rZ{pins:List (Addr×Obj)}{σ:St}{H:Hp}{s:Shared}{R:It->Hp->Prop}{E:Value->Shared->Prop}{lo hi:Int}{t u v:Tok}{tk:Nat}(I:Inv X pins σ H s)(h1:-(2^62)<=lo)(h2:lo<2^62)(h3:-(2^62)<=hi)(h4:hi<2^62)(q:R (Itr lo (hi-lo).toNat) H):wpAny (model X.prog X.w) X.A (pyIter (.ref s.heap.objs.size)) (PIE X pins σ tg R) E { s with heap:=s.heap.push { cls:=.type "range",data:=.fields #[.int lo t,.int hi u,.int 1 v] },toks:=tk }:=by
 refine wpAny_pyIter_range (IsRange.new ..) (small_one h1 h2 h3 h4) ?_;have I1:Inv X pins σ H { s with heap:=s.heap.push { cls:=.type "range",data:=.fields #[.int lo t,.int hi u,.int 1 v] },toks:=tk }:=I.kept fun b o e=>zc _ e;refine⟨(s.heap.push { cls:=.type "range",data:=.fields #[.int lo t,.int hi u,.int 1 v] }).objs.size,[(s.heap.push { cls:=.type "range",data:=.fields #[.int lo t,.int hi u,.int 1 v] }).objs.size],_,_,H,rfl,
  I1.kept (t':=tk) fun b o e=>zc _ e,oV _ lo (hi - lo).toNat,?_,fun b hb=>?_,q⟩
 ·have e1:lo+((0:Nat):Int)*1=lo:=by simp
  have e2:(((hi-lo).toNat:Nat):Int)-((0:Nat):Int)=Builtin.Range.rangeSize lo hi 1:=by rw[rangeSize_one];split<;>omega
  show IsRangeIter _ _ (lo+((0:Nat):Int)*1) ((((hi-lo).toNat:Nat):Int)-((0:Nat):Int)) 1;rw[e1,e2];exact zn _ rfl
 ·have e:b=(s.heap.push { cls:=.type "range",data:=.fields #[.int lo t,.int hi u,.int 1 v] }).objs.size:=by simpa using hb
  subst e;exact I1.fpOk (ze _) (I1.hok.fresh (ze _))
def sG(ta:TA):TI:=fun σ H R=>ta σ H fun vs H1=>∃j:Int,vs=[.int j]/\-(2^62)<=j/\j<2^62/\R (Itr 0 j.toNat) H1
theorem qs{a:Expr}{ta:TA}{p pos:Pos}(hg:Gl X "range")(hm:X.mg "range" = none)(ha:PA X [a] ta)(hs:starEach [a] X.env=[(false,eval a X.env)]:=by rfl):PI X tg (.Call (.Name "range" p) [a] [] pos) (sG ta):=by
 intro pins s σ H R I h;refine Call_ (dM I hg hm boot_range (Zi (thn (ha pos pins s σ H _ I h) fun us s1 hz9=>?_) hs rfl));obtain⟨vs,H1,I1,r1,q1⟩:=hz9;obtain⟨j,e,q1,q2,q⟩:=q1;subst e;cases r1 with
 |cons r rr =>cases rr;obtain⟨t,rfl⟩:=r;exact call_range_1 (rZ I1 (by omega) (by omega) q1 q2 (by simpa using q))
def wo(wi:TI)(g:TG)(tb:TS):TS:=fun D σ H=>wi σ H fun J H1=>∃W:Nat->Nat->St->Hp->Prop,(∃m,W 0 m σ H1)/\∀i m σ H,W i m σ H ->
 (J.stop i H/\D.nx σ H)\/(J.go i H/\∃N:St->Hp->Prop,(∀σ' H',N σ' H'->∃m',m'<m/\W (i+1) m' σ' H')/\∀x H',J.yld i H x H'->g x σ H' fun σ2 H2=>tb { D with nx:=N,ct:=N,bk:=D.nx } σ2 H2)
def gg(fp:List Addr)(h:Heap):List (Addr×Obj):=fp.filterMap fun b=>(h.get? b).map fun o=>(b,o)
theorem dA{fp:List Addr}{h:Heap}{b:Addr}{o:Obj}(hb:b∈fp)(e:h.get? b=some o):(b,o)∈gg fp h:=List.mem_filterMap.mpr ⟨b,hb,by rw[e];rfl⟩
theorem qj{fp:List Addr}{h:Heap}{p:Addr×Obj}(hp:p∈gg fp h):p.1∈fp/\h.get? p.1=some p.2:=by
 obtain⟨b,hb,e⟩:=List.mem_filterMap.mp hp;cases q:h.get? b with
 |none=>rw[q]at e;cases e
 |some o =>rw[q]at e;have e':(b,o)=p:=zp e;subst e';exact⟨hb,q⟩
theorem Inv.pinned{pins:List (Addr×Obj)}{σ:St}{H:Hp}{s:Shared}{fp:List Addr}(I:Inv X pins σ H s)(hf:∀b∈fp,bB X pins H b)(ho:∀b∈fp,∃o,s.heap.get? b=some o/\∀v,o.data≠.cell v):Inv X (pins++gg fp s.heap) σ H s :=
 I.pins_of fun p hp=>(Zh.mp hp).elim (fun z=>I.pin p (zQ _ z)) fun z=>by obtain⟨hb,e⟩:=qj z;obtain⟨f0,f1,f2,_⟩:=hf p.1 hb;obtain⟨o,e',d⟩:=ho p.1 hb;rw[e]at e';cases e';exact⟨e,f0,f1,f2,d⟩
theorem Inv.unpinned{pins pl:List (Addr×Obj)}{σ:St}{H:Hp}{s:Shared}(I:Inv X (pins++pl) σ H s):Inv X pins σ H s:=I.pins_of fun p hp=>I.pin p (zQ _ (List.mem_append_left _ hp))
theorem vN{iter:Expr}{body:List Stmt}{wi:TI}{g:TG}{tb:TS}{pos:Pos}(hp:PassesOwn (model X.prog X.w) X.A X.env X.xe)(hc:X.calm=true)(hi:PI X tg iter wi)(hg:PG X tg g)(hb:PSs X body tb)(hs:∀x,foldedSetIterable iter X.env x=pure x:=by intro _;rfl):PS X (.For tg iter body [] pos) (wo wi g tb):=by
 intro pins s σ H D I h;refine wpAny_For (thn (hi pins s σ H _ I h) fun v s1 h1=>thn h1 fun itv s2 h2=>?_) hs;obtain⟨it,fp,tn,J,H2,e,I2,T,st2,f2,W,⟨m0,w0⟩,turn⟩:=h2;subst e;have stat:∀{H':Hp},(∀b∈fp,H' b=none)->∀b∈fp,bB X pins H' b:=fun hn b hb=>⟨hn b hb,(f2 b hb).2⟩
 refine codeAny_forLoop_any (fun n s'=>∃i σ' H',Inv X pins σ' H' s'/\tn i s'.heap/\(∀b∈fp,H' b=none)/\W i n σ' H') ?_ m0 ⟨0,σ,H2,I2,st2,fun b hb=>(f2 b hb).1,w0⟩;rintro n s3 ⟨i,σ3,H3,I3,st3,fr3,w3⟩;rcases turn i n σ3 H3 w3 with⟨stop,qn⟩|⟨go,N,hN,step⟩
 ·refine wpAny_passesOwn hp (thn (T.done X rfl rfl rfl hc i pins s3 σ3 H3 X.xe I3 (stat fr3) st3 stop) fun r s4 ⟨hr,I4⟩=>?_);subst hr;exact wpAny_execs_nil ⟨σ3,H3,I4,qn⟩
 ·refine wpAny_passesOwn hp (thn (T.item X rfl rfl rfl hc i pins s3 σ3 H3 X.xe I3 (stat fr3) st3 go) fun r s4 ⟨u,hr,h4⟩=>?_);subst hr;refine wpAny_passesOwn hp (thn h4 fun _ s5 hz9=>?_);obtain⟨x,H5,I5,r5,y5,st5,fr5⟩:=hz9;have I5':=I5.pinned (stat fr5) (T.obj _ _ st5);refine wpAny_passesOwn hp (thn (hg _ s5 σ3 H5 x u _ I5' r5 (step x H5 y5)) fun _ s6 ⟨σ6,H6,I6,q6⟩=>?_);refine wpAny_passesOwn hp (thn (hb _ s6 σ6 H6 _ I6 q6) fun f s7 q7=>?_);have again:∀{σ7:St} {H7:Hp},Inv X (pins++gg fp s5.heap) σ7 H7 s7->N σ7 H7->∃m,m<n/\∃i σ' H',Inv X pins σ' H' s7/\tn i s7.heap/\(∀b∈fp,H' b=none)/\W i m σ' H':=fun{σ7 H7} I7 n7=>by obtain⟨m',hm,w7⟩:=hN σ7 H7 n7;refine⟨m',hm,i+1,σ7,H7,I7.unpinned,T.keep _ _ _ st5 fun b hb o e=>(I7.pin (b,o) (zQ _ (zQ _ (dA hb e)))).1,fun b hb=>?_,w7⟩;obtain⟨o,e,d⟩:=T.obj _ _ st5 b hb;exact(I7.pin (b,o) (zQ _ (zQ _ (dA hb e)))).2.1
  cases f with
  |next=>obtain⟨σ7,H7,I7,n7⟩:=q7;exact again I7 n7
  |cont=>obtain⟨σ7,H7,I7,n7⟩:=q7;exact again I7 n7
  |brk=>obtain⟨σ7,H7,I7,q7⟩:=q7;exact⟨σ7,H7,I7.unpinned,q7⟩
  |ret v=>obtain⟨x7,σ7,H7,I7,r7,q7⟩:=q7;exact⟨x7,σ7,H7,I7.unpinned,r7,q7⟩
end
theorem rq{K:PySem.W.Frag}{a:Addr}{xs:List V}{g:TG}{tb:TS}{D:Ends}{σ:St}{H:Hp}(Pv:Nat->St->Hp->Prop)(h0:Pv 0 σ H)(hl:∀i σ H,i<=xs.length->Pv i σ H->SqL K H a xs)(hs:∀i x σ H,xs[i]?=some x->Pv i σ H->g x σ H fun σ2 H2=>tb { D with nx:=Pv (i+1),ct:=Pv (i+1),bk:=D.nx } σ2 H2)(hd:∀σ H,Pv xs.length σ H->D.nx σ H) :
  ∃W:Nat->Nat->St->Hp->Prop,(∃m,W 0 m σ H)/\∀i m σ H,W i m σ H ->
   ((Itl K a).stop i H/\D.nx σ H)\/((Itl K a).go i H/\∃N:St->Hp->Prop,(∀σ' H',N σ' H'->∃m',m'<m/\W (i+1) m' σ' H')/\∀x H',(Itl K a).yld i H x H'->g x σ H' fun σ2 H2=>tb { D with nx:=N,ct:=N,bk:=D.nx } σ2 H2):=by
 refine⟨fun i m σ H=>m=xs.length-i/\i<=xs.length/\Pv i σ H,⟨xs.length,by simp,Zv _,h0⟩,?_⟩;rintro i m σ H ⟨rfl,hi,p⟩;have q:=hl i σ H hi p;by_cases hlt:i<xs.length
 ·refine .inr ⟨⟨xs,xs[i],q,by simp[hlt]⟩,Pv (i+1),fun σ' H' p'=>⟨xs.length-(i+1),by omega,rfl,hlt,p'⟩,fun x H' y=>?_⟩;obtain⟨e,y⟩:=y;subst e;exact hs i x σ _ (y xs q) p
 ·have e:i=xs.length:=by omega
  subst e;exact .inl ⟨⟨xs,q,ze _⟩,hd σ H p⟩
theorem pP{lo:Int}{n:Nat}{g:TG}{tb:TS}{D:Ends}{σ:St}{H:Hp}(Pv:Nat->St->Hp->Prop)(h0:Pv 0 σ H)(hs:∀i σ H,i<n->Pv i σ H->g (.int (lo+i)) σ H fun σ2 H2=>tb { D with nx:=Pv (i+1),ct:=Pv (i+1),bk:=D.nx } σ2 H2)(hd:∀σ H,Pv n σ H->D.nx σ H) :
  ∃W:Nat->Nat->St->Hp->Prop,(∃m,W 0 m σ H)/\∀i m σ H,W i m σ H ->
   ((Itr lo n).stop i H/\D.nx σ H)\/((Itr lo n).go i H/\∃N:St->Hp->Prop,(∀σ' H',N σ' H'->∃m',m'<m/\W (i+1) m' σ' H')/\∀x H',(Itr lo n).yld i H x H'->g x σ H' fun σ2 H2=>tb { D with nx:=N,ct:=N,bk:=D.nx } σ2 H2):=by
 refine⟨fun i m σ H=>m=n-i/\i<=n/\Pv i σ H,⟨n,by simp,Zv _,h0⟩,?_⟩;rintro i m σ H ⟨rfl,hi,p⟩;by_cases hlt:i<n
 ·refine .inr ⟨hlt,Pv (i+1),fun σ' H' p'=>⟨n-(i+1),by omega,rfl,hlt,p'⟩,fun x H' y=>?_⟩;obtain⟨e,y⟩:=y;subst e y;exact hs i σ _ hlt p
 ·have e:i=n:=by omega
  subst e;exact .inl ⟨ze _,hd σ H p⟩
open PySem PySem.Spec PyProof.Rows
abbrev R2:=V->V->Hp->VK->Prop
def OpR(X:Cx)(f:Value->Value->Sem Value)(r:R2):Prop :=
 ∀(pins:List (Addr×Obj)) (s:Shared) (σ:St) (H:Hp) (x y:V) (v u:Value) (Q:VK),Inv X pins σ H s->RelV x v->RelV y u->r x y H Q ->
  wpAny (model X.prog X.w) X.A (f v u) (EP X pins σ Q) X.xe s
def UnR(X:Cx)(f:Value->Sem Value)(r:V->Hp->VK->Prop):Prop :=
 ∀(pins:List (Addr×Obj)) (s:Shared) (σ:St) (H:Hp) (x:V) (v:Value) (Q:VK),Inv X pins σ H s->RelV x v->r x H Q ->
  wpAny (model X.prog X.w) X.A (f v) (EP X pins σ Q) X.xe s
def cu(X:Cx)(f:Value)(r:List V->Hp->VK->Prop):Prop :=
 ∀(pins:List (Addr×Obj)) (s:Shared) (σ:St) (H:Hp) (xs:List V) (us:List Value) (Q:VK),Inv X pins σ H s->Vals xs us->r xs H Q ->
  wpAny (model X.prog X.w) X.A (call f us) (EP X pins σ Q) X.xe s
def tOp(r:R2)(ta tb:TE):TE:=fun σ H Q=>ta σ H fun x H1=>tb σ H1 fun y H2=>r x y H2 Q
def tUn(r:V->Hp->VK->Prop)(ta:TE):TE:=fun σ H Q=>ta σ H fun x H1=>r x H1 Q
def rI(C:Int->Int->Prop)(g:Int->Int->V):R2:=fun x y H Q=>∃i j,x=.int i/\y=.int j/\C i j/\Q (g i j) H
def rI0(g:Int->Int->V):R2:=fun x y H Q=>∃i j,x=.int i/\y=.int j/\Q (g i j) H
def rU(g:Int->V):V->Hp->VK->Prop:=fun x H Q=>∃i,x=.int i/\Q (g i) H
section
variable{X:Cx}{a b c:Expr}{ta tb tc:TE}{pos:Pos}
theorem rc(ha:PE X a ta)(hb:PE X b tb){pins:List (Addr×Obj)}{s:Shared}{σ:St}{H:Hp}{R:V->V->Hp->Prop}(I:Inv X pins σ H s)(h:ta σ H fun x H1=>tb σ H1 fun y H2=>R x y H2){Q:Value->Shared->Prop}{f:Value->Value->Sem Value}(hf:∀v u s2 x y H2,Inv X pins σ H2 s2->RelV x v->RelV y u->R x y H2->wpAny (model X.prog X.w) X.A (f v u) Q X.xe s2) :
  wpAny (model X.prog X.w) X.A (eval a X.env) (fun v s₁=>wpAny (model X.prog X.w) X.A (eval b X.env) (fun u s₂=>wpAny (model X.prog X.w) X.A (f v u) Q X.xe s₂) X.xe s₁) X.xe s:=by
 refine thn (ha pins s σ H _ I h) fun v s1 hz9=>?_;obtain⟨x,H1,I1,r1,q1⟩:=hz9;refine thn (hb pins s1 σ H1 _ I1 q1) fun u s2 hz9=>?_;obtain⟨y,H2,I2,r2,q2⟩:=hz9;exact hf v u s2 x y H2 I2 r1 r2 q2
theorem xi{op:Operator}{r:R2}(ho:OpR X (binaryOp op) r)(ha:PE X a ta)(hb:PE X b tb):PE X (.BinOp a op b pos) (tOp r ta tb):=by intro pins s σ H Q I h;exact wpAny_BinOp (rc ha hb I h fun v u s2 x y H2 I2 rx ry q=>ho pins s2 σ H2 x y v u Q I2 rx ry q)
theorem xk{op:UnaryOp}{r:V->Hp->VK->Prop}(ho:UnR X (unaryOp op) r)(ha:PE X a ta):PE X (.UnaryOp op a pos) (tUn r ta):=by intro pins s σ H Q I h;exact UnaryOp_ (thn (ha pins s σ H _ I h) fun v s1 ⟨x,H1,I1,r1,q1⟩=>ho pins s1 σ H1 x v Q I1 r1 q1)
theorem opI{f:Value->Value->Sem Value}{C:Int->Int->Prop}{g:Int->Int->Int}(rule:∀(i j:Int) (t u:Tok) (s:Shared) (Q:Value->Shared->Prop) (E:Value->Shared->Prop),C i j->Q (.int (g i j) s.toks) { s with toks:=s.toks+1 }->wpAny (model X.prog X.w) X.A (f (.int i t) (.int j u)) Q E s) :
  OpR X f (rI C fun i j=>.int (g i j)):=by
 intro pins s σ H x y v u Q I rx ry h;obtain⟨i,j,rfl,rfl,hc,q⟩:=h;obtain⟨t,rfl⟩:=rx;obtain⟨t',rfl⟩:=ry;exact rule i j t t' s _ _ hc ⟨.int (g i j),H,I.tok _,⟨_,rfl⟩,q⟩
theorem vk{f:Value->Value->Sem Value}{g:Int->Int->Int}(rule:∀(i j:Int) (t u:Tok) (s:Shared) (Q:Value->Shared->Prop) (E:Value->Shared->Prop),Q (.int (g i j) s.toks) { s with toks:=s.toks+1 }->wpAny (model X.prog X.w) X.A (f (.int i t) (.int j u)) Q E s) :
  OpR X f (rI0 fun i j=>.int (g i j)):=by
 intro pins s σ H x y v u Q I rx ry h;obtain⟨i,j,rfl,rfl,q⟩:=h;obtain⟨t,rfl⟩:=rx;obtain⟨t',rfl⟩:=ry;exact rule i j t t' s _ _ ⟨.int (g i j),H,I.tok _,⟨_,rfl⟩,q⟩
theorem ow{f:Value->Value->Sem Value}{g:Int->Int->Bool}(rule:∀(i j:Int) (t u:Tok) (s:Shared) (Q:Value->Shared->Prop) (E:Value->Shared->Prop),Q (.bool (g i j)) s->wpAny (model X.prog X.w) X.A (f (.int i t) (.int j u)) Q E s) :
  OpR X f (rI0 fun i j=>.bl (g i j)):=by
 intro pins s σ H x y v u Q I rx ry h;obtain⟨i,j,rfl,rfl,q⟩:=h;obtain⟨t,rfl⟩:=rx;obtain⟨t',rfl⟩:=ry;exact rule i j t t' s _ _ ⟨.bl (g i j),H,I,rfl,q⟩
def uy(i j:Int):Prop:=0<j/\j<1073741824
def uA(i j:Int):Prop:=0<=j/\j<=1000000/\i.natAbs<2^64
def CMul(i j:Int):Prop:=(-(2^64)<i/\i<2^64)\/(-(2^64)<j/\j<2^64)
theorem CMul.ok{i j:Int}(h:CMul i j):IntMulOk i j:=by
 rcases h with⟨h1,h2⟩|⟨h1,h2⟩
 ·exact .of_left (intBits_le_64 h1 h2)
 ·exact .of_right (intBits_le_64 h1 h2)
theorem vm:OpR X (binaryOp .Add) (rI0 fun i j=>.int (i+j)):=vk fun _ _ _ _ _ _ _ q=>add_int q
theorem vx:OpR X (binaryOp .Sub) (rI0 fun i j=>.int (i-j)):=vk fun _ _ _ _ _ _ _ q=>sub_int q
theorem vq:OpR X (binaryOp .Mult) (rI CMul fun i j=>.int (i*j)):=opI fun _ _ _ _ _ _ _ hc q=>mul_int q hc.ok
theorem tQ:OpR X (binaryOp .FloorDiv) (rI uy fun i j=>.int (i / j)):=opI fun i j _ _ _ _ _ hc q=>by have h1:(0:Int)<j:=hc.1;have h2:j<1073741824:=hc.2;exact floordiv_int (by omega) (by rw[Int.fdiv_eq_ediv_of_nonneg i (by omega)];exact q) (.inl (PyProof.noPylong_small (by omega)))
theorem vp:OpR X (binaryOp .Mod) (rI (fun _ j=>0<j) fun i j=>.int (i%j)):=opI fun i j _ _ _ _ _ hc q=>by have h1:(0:Int)<j:=hc;exact mod_int' (by omega) (by rw[Int.fmod_eq_emod_of_nonneg i (by omega)];exact q)
theorem vw:OpR X (binaryOp .Pow) (rI uA fun i j=>.int (i^j.toNat)):=opI fun _ _ _ _ _ _ _ hc q=>pow_int_small hc.1 hc.2.1 hc.2.2 q
theorem unI{f:Value->Sem Value}{g:Int->Int}(rule:∀(i:Int) (t:Tok) (s:Shared) (Q:Value->Shared->Prop) (E:Value->Shared->Prop),Q (.int (g i) s.toks) { s with toks:=s.toks+1 }->wpAny (model X.prog X.w) X.A (f (.int i t)) Q E s) :
  UnR X f (rU fun i=>.int (g i)):=by
 intro pins s σ H x v Q I rx h;obtain⟨i,rfl,q⟩:=h;obtain⟨t,rfl⟩:=rx;exact rule i t s _ _ ⟨.int (g i),H,I.tok _,⟨_,rfl⟩,q⟩
theorem wC:UnR X (unaryOp .USub) (rU fun i=>.int (-i)):=unI fun _ _ _ _ _ q=>neg_int q
end
def wc:V->V->Bool
 |.non,.non=>true|.non,.int _=>true|.int _,.non=>true|.non,.bl _=>true|.bl _,.non=>true|.non,.str _=>true|.str _,.non=>true
 |.int _,.int _=>true|.bl _,.bl _=>true|.str _,.str _=>true|.byt _,.byt _=>true
 |.int _,.str _=>true|.str _,.int _=>true|.bl _,.str _=>true|.str _,.bl _=>true
 |_,_=>false
def rEq:R2:=fun x y H Q=>wc x y=true/\Q (.bl (decide (x=y))) H
def rNe:R2:=fun x y H Q=>wc x y=true/\Q (.bl (!decide (x=y))) H
theorem mC{i j:Int}:decide (V.int i=V.int j)=(i==j):=by rw[Ze];simp
theorem pJ{i j:Bool}:decide (V.bl i=V.bl j)=(i==j):=by rw[Ze];simp
theorem mD{i j:Str}:decide (V.str i=V.str j)=(i==j):=by rw[Ze];simp
theorem mB{i j:Array UInt8}:decide (V.byt i=V.byt j)=(i.toList==j.toList):=by rw[Ze];cases i;cases j;simp
section
variable{X:Cx}{a b c:Expr}{ta tb tc:TE}{pos:Pos}
theorem aH{pins:List (Addr×Obj)}{σ:St}{H:Hp}{s:Shared}{Q:VK}{k k':Bool}(I:Inv X pins σ H s)(q:Q (.bl k) H)(e:k=k'):EP X pins σ Q (.bool k') s:=by subst e;exact⟨.bl k,H,I,rfl,q⟩
theorem wU:OpR X (compareOp .Eq) rEq:=by
 intro pins s σ H x y v u Q I rx ry h;obtain⟨hs,q⟩:=h;cases x with
 |non =>
  cases rx;cases y with
  |non=>cases ry;exact PySem.EqNone.eq_none_none (aH I q (by simp))
  |bl j=>cases ry;exact PySem.EqNone.eq_none_bool (aH I q (by simp))
  |int j=>obtain⟨t',rfl⟩:=ry;exact PySem.EqNone.eq_none_int (aH I q (by simp))
  |str j=>obtain⟨t',rfl⟩:=ry;exact PySem.EqNone.eq_none_str (aH I q (by simp))
  |_=>exact absurd (show false=true from hs) zo
 |bl i =>
  cases rx;cases y with
  |non=>cases ry;exact PySem.EqNone.eq_bool_none (aH I q (by simp))
  |bl j=>cases ry;exact eq_bool (aH I q pJ)
  |str j=>obtain⟨t',rfl⟩:=ry;exact PySem.EqMixed.eq_bool_str (aH I q (by simp))
  |_=>exact absurd (show false=true from hs) zo
 |int i =>
  obtain⟨t,rfl⟩:=rx;cases y with
  |non=>cases ry;exact PySem.EqNone.eq_int_none (aH I q (by simp))
  |int j=>obtain⟨t',rfl⟩:=ry;exact eq_int (aH I q mC)
  |str j=>obtain⟨t',rfl⟩:=ry;exact PySem.EqMixed.eq_int_str (aH I q (by simp))
  |_=>exact absurd (show false=true from hs) zo
 |str i =>
  obtain⟨t,rfl⟩:=rx;cases y with
  |non=>cases ry;exact PySem.EqNone.eq_str_none (aH I q (by simp))
  |bl j=>cases ry;exact PySem.EqMixed.eq_str_bool (aH I q (by simp))
  |int j=>obtain⟨t',rfl⟩:=ry;exact PySem.EqMixed.eq_str_int (aH I q (by simp))
  |str j=>obtain⟨t',rfl⟩:=ry;exact eq_str (aH I q mD)
  |_=>exact absurd (show false=true from hs) zo
 |byt i =>
  obtain⟨t,rfl⟩:=rx;cases y with
  |byt j=>obtain⟨t',rfl⟩:=ry;exact PySem.W.eq_bytes (aH I q mB)
  |_=>exact absurd (show false=true from hs) zo
 |_=>cases y<;>exact absurd (show false=true from hs) zo
theorem xa:OpR X (compareOp .NotEq) rNe:=by
 intro pins s σ H x y v u Q I rx ry h;obtain⟨hs,q⟩:=h;cases x with
 |non =>
  cases rx;cases y with
  |non=>cases ry;exact PySem.EqNone.ne_none_none (aH I q (by simp))
  |bl j=>cases ry;exact PySem.EqNone.ne_none_bool (aH I q (by simp))
  |int j=>obtain⟨t',rfl⟩:=ry;exact PySem.EqNone.ne_none_int (aH I q (by simp))
  |str j=>obtain⟨t',rfl⟩:=ry;exact PySem.EqNone.ne_none_str (aH I q (by simp))
  |_=>exact absurd (show false=true from hs) zo
 |bl i =>
  cases rx;cases y with
  |non=>cases ry;exact PySem.EqNone.ne_bool_none (aH I q (by simp))
  |bl j=>cases ry;exact ne_bool (aH I q (Zd not pJ))
  |str j=>obtain⟨t',rfl⟩:=ry;exact PySem.EqMixed.ne_bool_str (aH I q (by simp))
  |_=>exact absurd (show false=true from hs) zo
 |int i =>
  obtain⟨t,rfl⟩:=rx;cases y with
  |non=>cases ry;exact PySem.EqNone.ne_int_none (aH I q (by simp))
  |int j=>obtain⟨t',rfl⟩:=ry;exact ne_int (aH I q (Zd not mC))
  |str j=>obtain⟨t',rfl⟩:=ry;exact PySem.EqMixed.ne_int_str (aH I q (by simp))
  |_=>exact absurd (show false=true from hs) zo
 |str i =>
  obtain⟨t,rfl⟩:=rx;cases y with
  |non=>cases ry;exact PySem.EqNone.ne_str_none (aH I q (by simp))
  |bl j=>cases ry;exact PySem.EqMixed.ne_str_bool (aH I q (by simp))
  |int j=>obtain⟨t',rfl⟩:=ry;exact PySem.EqMixed.ne_str_int (aH I q (by simp))
  |str j=>obtain⟨t',rfl⟩:=ry;exact ne_str (aH I q (Zd not mD))
  |_=>exact absurd (show false=true from hs) zo
 |byt i =>
  obtain⟨t,rfl⟩:=rx;cases y with
  |byt j=>obtain⟨t',rfl⟩:=ry;exact PySem.W.ne_bytes (aH I q (Zd not mB))
  |_=>exact absurd (show false=true from hs) zo
 |_=>cases y<;>exact absurd (show false=true from hs) zo
theorem wZ:OpR X (compareOp .Lt) (rI0 fun i j=>.bl (decide (i<j))):=ow fun _ _ _ _ _ _ _ q=>lt_int q
theorem wY:OpR X (compareOp .LtE) (rI0 fun i j=>.bl (decide (i<=j))):=ow fun _ _ _ _ _ _ _ q=>le_int q
theorem wW:OpR X (compareOp .Gt) (rI0 fun i j=>.bl (decide (j<i))):=ow fun _ _ _ _ _ _ _ q=>gt_int q
theorem wV:OpR X (compareOp .GtE) (rI0 fun i j=>.bl (decide (j<=i))):=ow fun _ _ _ _ _ _ _ q=>ge_int q
theorem vo:OpR X (compareOp .Is) (fun x y H Q=>y=.non/\Q (.bl (decide (x=.non))) H):=by
 intro pins s σ H x y v u Q I rx ry h;obtain⟨rfl,q⟩:=h;cases ry;refine is_none_gen (aH I q ?_);cases x<;>first
  |(cases rx;rfl)
  |(obtain⟨t,rfl⟩:=rx;rfl)
theorem qg(b:Expr){op:CmpOp}(h:op≠.In:=by decide)(h2:op≠.NotIn:=by decide):behindInMarks op b=false:=by
 have e1:(op==CmpOp.In)=false:=by cases op<;>first|rfl|exact absurd rfl h
 have e2:(op==CmpOp.NotIn)=false:=by cases op<;>first|rfl|exact absurd rfl h2
 cases b<;>simp[behindInMarks,e1,e2]
theorem tU{op:CmpOp}{r:R2}(ho:OpR X (compareOp op) r)(ha:PE X a ta)(hb:PE X b tb)(hm:behindInMarks op b=false):PE X (.Compare a [op] [b] pos) (tOp r ta tb):=by intro pins s σ H Q I h;exact wpAny_Compare1 (rc ha hb I h fun v u s2 x y H2 I2 rx ry q=>ho pins s2 σ H2 x y v u Q I2 rx ry q) hm
def kC(t:TE):TT:=fun σ H Q=>t σ H fun x H'=>∃k,x=.bl k/\Q k H'
theorem uk{op:CmpOp}{r:R2}(ho:OpR X (compareOp op) r)(ha:PE X a ta)(hb:PE X b tb)(hm:behindInMarks op b=false):PT X (.Compare a [op] [b] pos) (kC (tOp r ta tb)):=by
 intro pins s σ H Q I h;refine wpAny_isTrue_Compare1 (thn (ha pins s σ H _ I h) fun v s1 ⟨x,H1,I1,r1,q1⟩=>thn (hb pins s1 σ H1 _ I1 q1) fun u s2 ⟨y,H2,I2,r2,q2⟩ =>
  thn (ho pins s2 σ H2 x y v u _ I2 r1 r2 q2) fun c s3 ⟨z,H3,I3,r3,k,e,q3⟩=>?_) hm
 subst e;cases r3;exact zW ⟨H3,I3,q3⟩
def je(r r':R2)(ta tb tc:TE):TE:=fun σ H Q=>ta σ H fun x H1=>tb σ H1 fun y H2=>r x y H2 fun z H3=>∃k,z=.bl k /\
 (if k=true then tc σ H3 fun w' H4=>r' y w' H4 Q else Q (.bl false) H3)
theorem rM{op op':CmpOp}{r r':R2}(ho:OpR X (compareOp op) r)(ho':OpR X (compareOp op') r')(ha:PE X a ta)(hb:PE X b tb)(hc:PE X c tc)(hm:lastMarks [op,op'] [b,c]=false:=by with_unfolding_all rfl):PE X (.Compare a [op,op'] [b,c] pos) (je r r' ta tb tc):=by
 intro pins s σ H Q I h;refine Compare_chain (thn (ha pins s σ H _ I h) fun v s1 ⟨x,H1,I1,r1,q1⟩=>chain_link (thn (hb pins s1 σ H1 _ I1 q1) fun u s2 ⟨y,H2,I2,r2,q2⟩ =>
  thn (ho pins s2 σ H2 x y v u _ I2 r1 r2 q2) fun d s3 ⟨z,H3,I3,r3,k,e,q3⟩=>?_)) hm
 subst e;cases r3;refine zW ?_;cases k with
 |false=>exact ite_ff ⟨.bl false,H3,I3,rfl,q3⟩
 |true=>exact ite_tt (chain_last (thn (hc pins s3 σ H3 _ I3 q3) fun w' s4 ⟨z',H4,I4,r4,q4⟩=>ho' pins s4 σ H4 y z' u w' Q I4 r2 r4 q4))
theorem rT{op op':CmpOp}{r r':R2}(ho:OpR X (compareOp op) r)(ho':OpR X (compareOp op') r')(ha:PE X a ta)(hb:PE X b tb)(hc:PE X c tc)(hm:lastMarks [op,op'] [b,c]=false:=by with_unfolding_all rfl):PT X (.Compare a [op,op'] [b,c] pos) (kC (je r r' ta tb tc)):=by
 intro pins s σ H Q I h;refine isTrue_chain (thn (ha pins s σ H _ I h) fun v s1 ⟨x,H1,I1,r1,q1⟩=>test_link (thn (hb pins s1 σ H1 _ I1 q1) fun u s2 ⟨y,H2,I2,r2,q2⟩ =>
  thn (ho pins s2 σ H2 x y v u _ I2 r1 r2 q2) fun d s3 ⟨z,H3,I3,r3,k,e,q3⟩=>?_)) hm
 subst e;cases r3;refine zW ?_;cases k with
 |false =>obtain⟨k',e',q'⟩:=q3;cases e';exact ite_ff ⟨H3,I3,q'⟩
 |true =>refine ite_tt (test_last (thn (hc pins s3 σ H3 _ I3 q3) fun w' s4 ⟨z',H4,I4,r4,q4⟩=>thn (ho' pins s4 σ H4 y z' u w' _ I4 r2 r4 q4) fun d' s5 hz9=>?_));obtain⟨z2,H5,I5,r5,k2,e2,q5⟩:=hz9;subst e2;cases r5;exact zW ⟨H5,I5,q5⟩
theorem fZ:(sizeLine:Nat)<2^63:=by rw[sizeLine_eq];decide
theorem oy:OpR X (binaryOp .Add) (fun x y H Q=>∃i j,x=.str i/\y=.str j/\i.length+j.length<=sizeLine/\Q (.str (i++j)) H):=by intro pins s σ H x y v u Q I rx ry h;obtain⟨i,j,rfl,rfl,hz,q⟩:=h;obtain⟨t,rfl⟩:=rx;obtain⟨t',rfl⟩:=ry;exact add_str (fun t' tk=>⟨.str (i++j),H,I.tok _,⟨_,rfl⟩,q⟩) hz
theorem ce{x:V}{us:List Value}(r:Vals [x] us):∃u,us=[u]/\RelV x u:=by
 cases r with
 |cons r1 r2=>cases r2;exact⟨_,rfl,r1⟩
theorem gZ{x y:V}{us:List Value}(r:Vals [x,y] us):∃u w',us=[u,w']/\RelV x u/\RelV y w':=by
 cases r with
 |cons r1 r2 =>
  cases r2 with
  |cons r3 r4=>cases r4;exact⟨_,_,rfl,r1,r3⟩
theorem pF(hc:X.calm=true):cu X (.builtin "max") (fun xs H Q=>∃i j,xs=[.int i,.int j]/\Q (.int (if j>i then j else i)) H):=by
 intro pins s σ H xs us Q I r h;obtain⟨i,j,rfl,q⟩:=h;obtain⟨u,w',rfl,⟨t,rfl⟩,⟨t',rfl⟩⟩:=gZ r;refine max_two_ints (I.ok.hd hc) fun h' tk k=>⟨_,H,I.kept k,?_,q⟩
 by_cases hj:j>i
 ·rw[if_pos hj,if_pos hj];exact⟨_,rfl⟩
 ·rw[if_neg hj,if_neg hj];exact⟨_,rfl⟩
theorem pG(hc:X.calm=true):cu X (.builtin "min") (fun xs H Q=>∃i j,xs=[.int i,.int j]/\Q (.int (if j<i then j else i)) H):=by
 intro pins s σ H xs us Q I r h;obtain⟨i,j,rfl,q⟩:=h;obtain⟨u,w',rfl,⟨t,rfl⟩,⟨t',rfl⟩⟩:=gZ r;refine min_two_ints (I.ok.hd hc) fun h' tk k=>⟨_,H,I.kept k,?_,q⟩
 by_cases hj:j<i
 ·rw[if_pos hj,if_pos hj];exact⟨_,rfl⟩
 ·rw[if_neg hj,if_neg hj];exact⟨_,rfl⟩
theorem pE:cu X (.type "int") (fun xs H Q=>(∃i,xs=[.int i]/\Q (.int i) H)\/∃k,xs=[.bl k]/\Q (.int (if k then 1 else 0)) H):=by
 intro pins s σ H xs us Q I r h;rcases h with⟨i,rfl,q⟩|⟨k,rfl,q⟩
 ·obtain⟨u,rfl,t,rfl⟩:=ce r;exact call_int_int ⟨.int i,H,I,⟨_,rfl⟩,q⟩
 ·obtain⟨u,rfl,r1⟩:=ce r;cases r1;exact call_int_bool ⟨.int (if k then 1 else 0),H,I.tok _,⟨_,rfl⟩,q⟩
end
open PySem PySem.Spec PyProof.Rows
structure ObjM(h:Heap)(x dx C:Addr)(mA:Str->Option Value):Prop where
 obj:h.get? x=some (PySem.W.instObj C dx)
 ns:h.Ns1 dx mA
 ne:dx≠x
theorem pZ{h:Heap}{dx:Addr}{mA:Str->Option Value}(n:h.Ns1 dx mA):∃od,h.get? dx=some od/\∀name,PySem.W.lookIn name od=some (mA name):=by
 obtain⟨o,es,ep,ho,hd,hk,_,hm⟩:=n;refine⟨o,ho,fun name=>?_⟩;have e:=hm name;unfold nsFind findBy at e;rw[<-Array.find?_toList]at e;unfold PySem.W.lookIn;rw[hd];dsimp only;split
 ·rename_i y q;rw[q]at e;exact Zd some e
 ·rename_i q;rw[q]at e;have a:es.toList.any (·.refKey)=false:=by rw[List.any_eq_false];intro y hy;obtain⟨z,t,hkey⟩:=hk y (Array.mem_toList_iff.mp hy);simp[DictEntry.refKey,hkey]
  have a':¬es.toList.any (·.refKey)=true:=by rw[a];exact zo
  rw[if_neg a'];exact Zd some e
theorem ObjM.look{h:Heap}{x dx C:Addr}{mA:Str->Option Value}(I:ObjM h x dx C mA):∃od,PySem.W.InstAt h x (PySem.W.instObj C dx) C (some od)/\∀name,PySem.W.lookIn name od=some (mA name) :=
 let⟨od,ho,hl⟩:=pZ I.ns
 ⟨od,⟨I.obj,rfl,rfl,ho⟩,hl⟩
section
variable{P:Program}{w:World}{H H':Hp}{h h':Heap}{a C dx:Addr}{fs fs':List (Str×V)}
theorem tF(hok:HOk P w H h)(e:H a=some (.ins C dx fs)):∃mA,ObjM h a dx C mA/\(∀f,qX (fs.lookup f) (mA f))/\PySem.Within mA (fs.map (·.1))/\fs.length<=1000/\H dx=some (.own a):=by
 obtain⟨d,z,ne,ob,mA,n,r,q⟩:=(show ObjOk P w H h a (.ins C dx fs)from hok a _ e)
 exact⟨mA,⟨ob,n,ne⟩,r,q,z,d⟩
end
structure Cls(K:PySem.W.Frag)(C:Addr):Prop where
 pg:PySem.W.plainGet K C Str.empty=true
 hd:PySem.W.hasDictIn K C=true
 po:PySem.W.plainOver K C=true
 sa:PySem.W.findIn K (.ref C) "__setattr__" = some (some (.builtin "object.__setattr__"))
theorem Cls.get{K:PySem.W.Frag}{C:Addr}(c:Cls K C)(f:Str):PySem.W.plainGet K C f=true:=c.pg
structure Con(K:PySem.W.Frag)(C:Addr)(f:Str)(v:V)(u:Value):Prop where
 at_:PySem.W.findIn K (.ref C) f=some (some u)
 rel:RelV v u
 get:PySem.W.specialIn K u "__get__" = some none
 cp:PySem.W.copiedNames.contains f=false
structure Meth(K:PySem.W.Frag)(C:Addr)(m:Str)(f:Addr):Prop where
 at_:PySem.W.findIn K (.ref C) m=some (some (.ref f))
 fn:PySem.W.isFn K (.ref f)=true
 kp:PySem.W.keepIn K (.ref f)=true
section
variable{X:Cx}{pins:List (Addr×Obj)}{σ:St}{H:Hp}{s:Shared}{A:Around}{E:Value->Shared->Prop}{Q:Value->Shared->Prop}{c:Value}{b:Bool}
inductive TyOf(K:PySem.W.Frag)(H:Hp):V->Value->Prop where
 |non:TyOf K H .non (.type "NoneType")
 |bl (x:Bool):TyOf K H (.bl x) (.type "bool")
 |int (i:Int):TyOf K H (.int i) (.type "int")
 |str (x:Str):TyOf K H (.str x) (.type "str")
 |flt (x:UInt64):TyOf K H (.flt x) (.type "float")
 |lst {a:Addr} {xs:List V} (e:H a=some (.lst xs)):TyOf K H (.ref a) (.type "list")
 |frz {a:Addr} {o:Obj} {xs:List V} (e:H a=some (.frz o (.lst xs))):TyOf K H (.ref a) (.type "list")
 |tup {a:Addr} {xs:List V} (e:H a=some (.tup xs)):TyOf K H (.ref a) (.type "tuple")
 |dK {a:Addr} {kvs:List (Key×V)} (e:H a=some (.dK kvs)):TyOf K H (.ref a) (.type "dict")
 |dT {a:Addr} {kvs:List (List Key×V)} (e:H a=some (.dT kvs)):TyOf K H (.ref a) (.type "dict")
 |ins {a C dx:Addr} {fs:List (Str×V)} (e:H a=some (.ins C dx fs)) (cl:Cls K C) (ha:PySem.W.findIn K (.ref C) "__class__" = some (some (.builtin "object.__class__")))
   (hn:PySem.W.specialIn K (.builtin "object.__class__") "__get__" = some (some (.builtin "getset_descriptor.__get__"))) (htk:PySem.W.takesIn K (.builtin "object.__class__")=some true)
   (hm:PySem.W.mroIn K C (.type "object")=some true):TyOf K H (.ref a) (.ref C)
theorem jU{x:V}{u t:Value}(I:Inv X pins σ H s)(rx:RelV x u)(ty:TyOf X.K H x t)(e:PySem.W.kitOne X.K t c=some b)(h:∀tk,Q (.bool b) { s with toks:=tk }) :
  wpAny (model X.prog X.w) A (call (.builtin "isinstance") [u,c]) Q E s:=by
 cases ty with
 |non=>cases(show u=Value.none from rx);exact zZ PySem.W.kitx_none I.kIn True.intro e (fun z=>nomatch z) h
 |bl y=>cases(show u=Value.bool y from rx);exact zZ PySem.W.kitx_bool I.kIn True.intro e (fun z=>nomatch z) h
 |int i=>obtain⟨t,q⟩:=(show∃t,u=Value.int i t from rx);cases q;exact zZ PySem.W.kitx_int I.kIn True.intro e (fun z=>nomatch z) h
 |str y=>obtain⟨t,q⟩:=(show∃t,u=Value.str y t from rx);cases q;exact zZ PySem.W.kitx_str I.kIn True.intro e (fun z=>nomatch z) h
 |flt y=>obtain⟨t,q⟩:=(show∃t,u=Value.float y t from rx);cases q;exact zZ PySem.W.kitx_float I.kIn True.intro e (fun z=>nomatch z) h
 |@lst a xs ea =>
  cases(show u=Value.ref a from rx);obtain⟨_,_,n,_,h1⟩:=(show ObjOk X.prog X.w H s.heap a (.lst xs)from I.hok a _ ea)
  exact zZ PySem.W.kitx_list I.kIn ⟨_,h1,rfl⟩ e (fun z=>nomatch z) h
 |@frz a ob xs ea =>
  cases(show u=Value.ref a from rx);obtain⟨_,_,_,n,_,h1⟩:=(show ObjOk X.prog X.w H s.heap a (.frz ob (.lst xs))from I.hok a _ ea)
  exact zZ PySem.W.kitx_list I.kIn ⟨_,h1,rfl⟩ e (fun z=>nomatch z) h
 |@tup a xs ea =>
  cases(show u=Value.ref a from rx);obtain⟨_,_,_,p⟩:=(show ObjOk X.prog X.w H s.heap a (.tup xs)from I.hok a _ ea)
  obtain⟨o,h1,h2,_⟩:=p;exact zZ PySem.W.kitx_tuple I.kIn ⟨o,h1,h2⟩ e (fun z=>nomatch z) h
 |@dK a kvs ea =>
  cases(show u=Value.ref a from rx);obtain⟨_,_,vs,_,p⟩:=(show ObjOk X.prog X.w H s.heap a (.dK kvs)from I.hok a _ ea)
  obtain⟨o,es,ep,h1,h2,_⟩:=p;exact zZ PySem.W.kitx_dict I.kIn ⟨o,h1,h2.1⟩ e (fun z=>nomatch z) h
 |@dT a kvs ea =>
  cases(show u=Value.ref a from rx);obtain⟨_,_,xs,_,o,es,ep,h1,h2,_⟩:=(show ObjOk X.prog X.w H s.heap a (.dT kvs)from I.hok a _ ea)
  exact zZ PySem.W.kitx_dict I.kIn ⟨o,h1,h2.1⟩ e (fun z=>nomatch z) h
 |@ins a C dx fs ea cl ha hn htk hm =>cases(show u=Value.ref a from rx);obtain⟨mA,O,_⟩:=tF I.hok ea;obtain⟨od,J,_⟩:=O.look;exact zZ (PySem.W.kitx_own (cl.get _) cl.hd ha hn htk hm) I.kIn J e (fun z=>nomatch z) h
end
open PySem PySem.Spec PyProof.Rows
structure Room(k:Nat)(A:Around):Prop where
 hd:A.handled=none
 dp:A.depth+3*k+5<recursionLimit
 un:A.units+16*k+200<cLine
theorem Room.mono{j k:Nat}{A:Around}(r:Room k A)(h:j<=k):Room j A:=⟨r.hd,by have:=r.dp;omega,by have:=r.un;omega⟩
theorem Room.deeper{k:Nat}{A:Around}(r:Room (k+1) A)(env:Env):Room k (A.deeper env) :=
 ⟨r.hd,by have:=r.dp;show A.depth+1+3*k+5<_;omega,by have:=r.un;show A.units+3+16*k+200<_;omega⟩
theorem Room.depth{k:Nat}{A:Around}(r:Room k A):A.depth<recursionLimit:=by have:=r.dp;omega
theorem Room.units{k:Nat}{A:Around}(r:Room k A):A.units+64<cLine:=by have:=r.un;omega
def gL:TA:=fun _ H Q=>Q [] H
def di(ta:TE)(tr:TA):TA:=fun σ H Q=>ta σ H fun x H1=>tr σ H1 fun xs H2=>Q (x::xs) H2
section
variable{X:Cx}{e:Expr}{es:List Expr}{te:TE}{t:TA}{pos:Pos}
theorem eQ:PA X [] gL:=fun _ _ _ _ H Q I h=>Calls.spliced_nil ⟨[],H,I,.nil,h⟩
theorem dF(ha:PE X e te)(hr:PA X es t)(hs:starEach (e::es) X.env=(false,eval e X.env)::starEach es X.env:=by rfl):PA X (e::es) (di te t):=by intro pos pins s σ H Q I h;rw[hs];show wpAny _ _ (spliced ((false,eval e X.env)::backTo pos (starEach es X.env))) _ _ s;refine Calls.spliced_cons (thn (ha pins s σ H _ I h) fun u s1 hz9=>?_);obtain⟨x,H1,I1,r1,q1⟩:=hz9;exact thn (hr pos pins s1 σ H1 _ I1 q1) fun us s2 ⟨xs,H2,I2,r2,q2⟩=>⟨x::xs,H2,I2,.cons r1 r2,q2⟩
def wx(t:TA):TE:=fun σ H Q=>t σ H fun xs H1=>xs.length<=sizeLine/\∀p,H1 p=none->Q (.ref p) (upd H1 p (.tup xs))
def wt(t:TA):TE:=fun σ H Q=>t σ H fun xs H1=>xs.length<=sizeLine/\∀p,H1 p=none->Q (.ref p) (upd H1 p (.lst xs))
theorem vG{x1}(h:PA X es t):PE X (.Tuple es x1 pos) (wx t):=by intro pins s σ H Q I hq;refine wpAny_Tuple_spliced (thn (h pos pins s σ H _ I hq) fun us s1 ⟨xs,H1,I1,r,z,q⟩=>⟨by rw[<-r.length];exact z,?_⟩);have hf:H1 s1.heap.objs.size=none:=I1.hok.fresh (ze _);refine⟨.ref s1.heap.objs.size,upd H1 s1.heap.objs.size (.tup xs),I1.laid (t':=s1.toks) (fun b u e=>zc _ e) (ze _) ?_,rfl,q _ hf⟩;exact⟨z,us,r,⟨_,zn _ rfl,rfl,_,rfl⟩⟩
theorem vB(h:PA X es t):PE X (.List es pos) (wt t):=by intro pins s σ H Q I hq;refine wpAny_List_spliced (thn (h pos pins s σ H _ I hq) fun us s1 ⟨xs,H1,I1,r,z,q⟩=>⟨by rw[<-r.length];exact z,?_⟩);have hf:H1 s1.heap.objs.size=none:=I1.hok.fresh (ze _);refine⟨.ref s1.heap.objs.size,upd H1 s1.heap.objs.size (.lst xs),I1.laid (t':=s1.toks) (fun b u e=>zc _ e) (ze _) ?_,rfl,q _ hf⟩;exact⟨z,us,0,r,zn _ rfl⟩
end
abbrev Sp:=List V->Hp->VK->XK->Prop
abbrev CXT:=List Env->Hp->Shared->XK->Value->Shared->Prop
structure Env0(P:Program)(w:World)(K:PySem.W.Frag)(mg:Str->Option Value)(base:Heap)(A:Around)(outer:List Env)(s:Shared)(H:Hp):Prop where
 frames:A.frames=some outer
 mod:Mod K mg base
 bs:∀b o,base.get? b=some o->s.heap.get? b=some o/\H b=none
 bsz:base.objs.size<=s.heap.objs.size
 funs:s.heap.FunFrames base outer
 frf:∀b∈frs outer,H b=none
 hok:HOk P w H s.heap
 bare:AllBare s.gens
def CE(outer:List Env)(P:Program)(w:World)(H:Hp)(s:Shared)(Q:VK)(u:Value)(s':Shared):Prop :=
 ∃v H',s'.os=s.os/\AllBare s'.gens/\Un (frs outer) [] H H' s.heap s'.heap/\HOk P w H' s'.heap/\RelV v u/\Q v H'
def CR(CX:CXT)(outer:List Env)(P:Program)(w:World)(H:Hp)(s:Shared)(Q:VK)(E:XK)(r:Result)(s':Shared):Prop :=
 match r with
 |.ok (.ret u)=>CE outer P w H s Q u s'
 |.ok _=>False
 |.error e=>CX outer H s E e s'
structure FnOk(P:Program)(w:World)(K:PySem.W.Frag)(mg:Str->Option Value)(base:Heap)(CX:CXT)(k:Nat)(f:Addr)(fd:FuncData)(ps:List Str)(sp:Sp):Prop where
 len:∀vs H Q E,sp vs H Q E->vs.length=ps.length
 run:∀(A:Around) (outer:List Env) (s:Shared) (H:Hp) (args:Args) (us:List Value) (vs:List V) (Q:VK) (E:XK),Room k A->Env0 P w K mg base A outer s H->BindsTo s fd args (ps.zip us)->Vals vs us->sp vs H Q E ->
  codeAny (model P w) A (.call (.ref f) args) (CR CX outer P w H s Q E) s
section
variable{X:Cx}{pins:List (Addr×Obj)}{σ:St}{H:Hp}{s s':Shared}
theorem Inv.env0(I:Inv X pins σ H s):Env0 X.prog X.w X.K X.mg X.base X.A X.stack s H :=
 ⟨I.ok.frames,I.ok.mod,I.bs,zq I.ok.bsz I.sz,I.stack,I.stkFree,I.hok,I.bare⟩
theorem Inv.after{Q:VK}{u:Value}(I:Inv X pins σ H s)(h:CE X.stack X.prog X.w H s Q u s'):EP X pins σ Q u s':=by obtain⟨v,H',os,bare,un,hok,r,q⟩:=h;obtain⟨hh,g,d,t,os'⟩:=s';obtain rfl:os'=s.os:=os;exact⟨v,H',I.call (h':=hh) (g':=g) (d':=d) (t':=t) (ch:=[]) un hok bare (fun b z=>absurd z (by simp)),r,q⟩
end
def jd(sp:Sp)(dvs:List V)(E:XK)(t:TA):TE:=fun σ H Q=>t σ H fun vs H1=>sp (vs++dvs) H1 Q E
def Binds(K:PySem.W.Frag)(fd:FuncData)(ps:List Str)(ds:List Value):Prop :=
 ∀(s:Shared) (us:List Value),K.In s.heap->(us++ds).length=ps.length->BindsTo s fd ⟨us,[]⟩ (ps.zip (us++ds))
theorem Binds.all{K:PySem.W.Frag}{fd:FuncData}{ps:List Str}(h:∀us:List Value,us.length=ps.length->bindArgs fd ⟨us,[]⟩=pure (ps.zip us)):Binds K fd ps []:=fun s us _ hl=>by rw[List.append_nil]at hl ⊢;exact .of_eq (h us hl)
def fS(CX:CXT)(X:Cx)(E:XK):Prop:=∀(pins:List (Addr×Obj)) (σ:St) (H:Hp) (s:Shared) (e:Value) (s':Shared),Inv X pins σ H s->CX X.stack H s E e s'->X.xe e s'
section
variable{X:Cx}{CX:CXT}{k:Nat}{f C:Addr}{fd:FuncData}{ps:List Str}{sp:Sp}{dvs:List V}{ds:List Value}{E:XK}{x m:Str}{p pos apos:Pos}{e o:Expr}{es:List Expr}{ta:TE}{t:TA}
theorem vZ{pins:List (Addr×Obj)}{σ:St}{H:Hp}{s:Shared}{Q:VK}{us:List Value}{vs:List V}(F:FnOk X.prog X.w X.K X.mg X.base CX k f fd ps sp)(hr:Room k X.A)(hb:Binds X.K fd ps ds)(hd:Vals dvs ds)(hx:fS CX X E)(I:Inv X pins σ H s)(r:Vals vs us)(h:sp (vs++dvs) H Q E):wpAny (model X.prog X.w) X.A (call (.ref f) us) (EP X pins σ Q) X.xe s:=by
 have r2:Vals (vs++dvs) (us++ds):=r.append hd;have hl:(us++ds).length=ps.length:=by rw[<-r2.length];exact F.len _ _ _ _ h
 refine wpAny_call (codeAny_mono (F.run X.A X.stack s H ⟨us,[]⟩ (us++ds) (vs++dvs) Q E hr I.env0 (hb s us I.kIn hl) r2 h) fun r s' hq=>?_);cases r with
 |error e=>exact hx pins σ H s e s' I hq
 |ok fl =>
  cases fl with
  |ret u=>exact I.after hq
  |next=>exact False.elim hq
  |brk=>exact False.elim hq
  |cont=>exact False.elim hq
theorem mM(F:FnOk X.prog X.w X.K X.mg X.base CX k f fd ps sp)(hr:Room k X.A)(hg:Gl X x)(hm:X.mg x=some (.ref f))(hk:PySem.W.keepIn X.K (.ref f)=true)(hb:Binds X.K fd ps ds)(hd:Vals dvs ds)(hx:fS CX X E)(ha:PA X (e::es) t)(hdb:(x==("__debug__":Str))=false:=by decide)(he:starEach (e::es) X.env=(false,eval e X.env)::starEach es X.env:=by rfl)(hpl:(backTo pos (starEach es X.env)).any (·.1)=false:=by rfl) :
  PE X (.Call (.Name x p) (e::es) [] pos) (jd sp dvs E t):=by
 intro pins s σ H Q I h;refine wpAny_Call_Name_kw (eM I hg hm ?_ hdb);refine PySem.W.callWith_K (h₀:=X.base) I.ok.mod.kin hk (thn (ha pos pins s σ H _ I h) fun us s1 ⟨vs,H1,I1,r,q⟩=>⟨I1.kIn,?_⟩) he hpl;exact vZ F hr hb hd hx I1 r q
structure Mk(K:PySem.W.Frag)(C f:Addr):Prop where
 makes:PySem.W.makesIn K C=true
 init:PySem.W.findIn K (.ref C) "__init__" = some (some (.ref f))
 fn:PySem.W.isFn K (.ref f)=true
 kp:PySem.W.keepIn K (.ref C)=true
end
section
variable{X:Cx}{CX:CXT}{k:Nat}{f C:Addr}{fd:FuncData}{ps ks:List Str}{sp:Sp}{E:XK}{x m:Str}{p pos apos kpos:Pos}{e o:Expr}{es:List Expr}{kws:List Keyword}{te ta:TE}{t tk:TA}{nm:Option Str}
structure KBinds(K:PySem.W.Frag)(fd:FuncData)(ps ks:List Str)(g:List Value->List Value->List Value)(gV:List V->List V->List V):Prop where
 to:∀(s:Shared) (us ws:List Value),K.In s.heap->(g us ws).length=ps.length->BindsTo s fd ⟨us,ks.zip ws⟩ (ps.zip (g us ws))
 rel:∀{vs:List V} {us:List Value} {zs:List V} {ws:List Value},Vals vs us->Vals zs ws->Vals (gV vs zs) (g us ws)
variable{g:List Value->List Value->List Value}{gV:List V->List V->List V}
end
structure FnScope(N P:List Str)(sc:Scope):Prop where
 kind:sc.kind=.function
 co:sc.isCoroutine=false
 gen:sc.isGenerator=false
 nd:N.Nodup
 pre:N.take P.length=P
 par:∀x∈P,sc.names.lookup x=some .local\/sc.names.lookup x=some .cell
 nofree:∀y∈sc.names,y.2≠.free
theorem jP{kindOf:Str->Option NameKind}{x:Str}:∀{binds:List (Str×Value)} {m:Str->Option Value},(∀v,(x,v)∉binds)->bindL kindOf binds m x=m x
 | [],_,_=>rfl
 |(n,v)::r,m,h=>by
  unfold bindL;rw[jP fun w hw=>h w (zG _ hw)];split
  ·have:x≠n:=by rintro rfl;exact h v zU
   simp[this]
  ·rfl
theorem jN{kindOf:Str->Option NameKind}{x:Str}:∀{binds:List (Str×Value)} {m:Str->Option Value},(∀v,(x,v)∉binds)->bindC kindOf binds m x=m x
 | [],_,_=>rfl
 |(n,v)::r,m,h=>by
  unfold bindC;rw[jN fun w hw=>h w (zG _ hw)];split
  ·rfl
  ·have:x≠n:=by rintro rfl;exact h v zU
   simp[this]
theorem jO{kindOf:Str->Option NameKind}{x:Str}{v:Value}:∀{P:List Str} {vs:List Value} {i:Nat} {m:Str->Option Value},P.Nodup->P[i]?=some x->vs[i]?=some v->kindOf x=some .local ->
  bindL kindOf (P.zip vs) m x=some v
 | [],_,_,_,_,h,_,_=>by simp at h
 |_::_,[],_,_,_,_,h,_=>by simp at h
 |p::P,w::vs,0,m,nd,h1,h2,hk=>by simp at h1 h2;subst h1;subst h2;show bindL kindOf ((p,w)::P.zip vs) m p=_;unfold bindL;rw[jP fun v hv=>(List.nodup_cons.mp nd).1 (List.of_mem_zip hv).1,if_pos hk];simp
 |p::P,w::vs,i+1,m,nd,h1,h2,hk=>by show bindL kindOf ((p,w)::P.zip vs) m x=_;unfold bindL;exact jO (i:=i) (List.nodup_cons.mp nd).2 (by simpa using h1) (by simpa using h2) hk
theorem jM{kindOf:Str->Option NameKind}{x:Str}{v:Value}:∀{P:List Str} {vs:List Value} {i:Nat} {m:Str->Option Value},P.Nodup->P[i]?=some x->vs[i]?=some v->kindOf x≠some .local ->
  bindC kindOf (P.zip vs) m x=some v
 | [],_,_,_,_,h,_,_=>by simp at h
 |_::_,[],_,_,_,_,h,_=>by simp at h
 |p::P,w::vs,0,m,nd,h1,h2,hk=>by simp at h1 h2;subst h1;subst h2;show bindC kindOf ((p,w)::P.zip vs) m p=_;unfold bindC;rw[jN fun v hv=>(List.nodup_cons.mp nd).1 (List.of_mem_zip hv).1,if_neg hk];simp
 |p::P,w::vs,i+1,m,nd,h1,h2,hk=>by show bindC kindOf ((p,w)::P.zip vs) m x=_;unfold bindC;exact jM (i:=i) (List.nodup_cons.mp nd).2 (by simpa using h1) (by simpa using h2) hk
def cR(N:List Str)(vs:List V):St:=vs.map some++List.replicate (N.length-vs.length) none
def cU(CX:CXT)(P:Program)(w:World)(K:PySem.W.Frag)(mg:Str->Option Value)(base:Heap)(N:List Str)(qual:Str)(scope:Scope)(f:Addr)(cd:Value)(A:Around)(outer:List Env)(s:Shared)(H:Hp)(E:XK):Cx where
 prog:=P
 w:=w
 K:=K
 mg:=mg
 base:=base
 A:=A.deeper (envOfC qual scope s.heap.objs.size f cd)
 N:=N
 s₀:=s
 H₀:=H
 env:=envOfC qual scope s.heap.objs.size f cd
 outer:=outer
 stack:=envOfC qual scope s.heap.objs.size f cd::outer
 ex:=[]
 calm:=true
 fn:=fun _=>true
 pn:=[]
 xe:=fun e s'=>wpAny (model P w) (A.deeper (envOfC qual scope s.heap.objs.size f cd)) (leaving (envOfC qual scope s.heap.objs.size f cd) e) (fun _ s''=>CX outer H s E e s'') (fun e' s''=>CX outer H s E e' s'') s'
theorem kN{sc:Scope}{n:Nat}{x:Str}(h:sc.names.lookup x=some .cell):∃c,(cellsFrom n sc.names []).lookup x=some c:=by have q:=PySem.W.cellsFrom_some sc.names n [] (.inl h);exact Option.isSome_iff_exists.mp q
theorem pU{CX:CXT}{P:Program}{w:World}{K:PySem.W.Frag}{mg:Str->Option Value}{base:Heap}{N ps:List Str}{qual:Str}{scope:Scope}{f:Addr}{cd:Value}{A:Around}{outer:List Env}{s s1:Shared}{H:Hp}{E:XK}{us:List Value}{vs:List V}(S:FnScope N ps scope)(hd:A.handled=none)(e0:Env0 P w K mg base A outer s H)(hl:vs.length=ps.length)(r:Vals vs us)(x:InCallC s s.heap.objs.size (bindL (envOfC qual scope s.heap.objs.size f cd).kindOf (ps.zip us) fun _=>none) (cellsFrom (s.heap.objs.size+1) scope.names []) (bindC (envOfC qual scope s.heap.objs.size f cd).kindOf (ps.zip us) fun _=>none) s1) :
  Inv (cU CX P w K mg base N qual scope f cd A outer s H E) [] (cR N vs) H s1:=by
 have hpl:ps.length<=N.length:=by have:=Zd List.length S.pre;rw[List.length_take]at this;omega
 obtain⟨h1,tk,rfl,hk⟩:=x.done;have noA:∀b:Addr,b∉(cU CX P w K mg base N qual scope f cd A outer s H E).ex:=fun b z=>absurd (show b∈([]:List Addr)from z) (by simp);refine⟨⟨e0.mod,S.kind,rfl,rfl,ze _,fun y z c h1 h2=>?_,fun y hy=>?_,fun y c _ h=>?_,fun _=>hd,Around.frames_deeper e0.frames,.inr ⟨rfl,rfl⟩,fun b z=>absurd z (noA b),e0.bs,e0.bsz,fun b _ _=>noA b,fun b z=>absurd z (noA b),e0.funs,e0.frf⟩,
  rfl,e0.bare,Un.kept hk,⟨_,x.toInCall.ns,fun i y v h1 h2 h3=>?_⟩,fun y c h=>⟨_,x.cell y c h⟩,e0.hok.fresh (ze _),fun y c h=>?_,fun p hp=>absurd (show p∈([]:List (Addr×Obj)) from hp) (by simp),e0.hok.kept hk,?_⟩
 ·exact name_of_addr x.apart (Zk h1) (Zk h2)
 ·have hy:scope.names.lookup y=some .cell\/scope.names.lookup y=some .free:=hy;rcases hy with hy|hy
  ·exact kN hy
  ·exact absurd rfl (S.nofree _ (Zk hy))
 ·exact Nat.le_of_lt (x.above y c (Zk h))
 ·have hi:i<vs.length:=by
   unfold cR at h2;by_cases hi:i<vs.length
   ·exact hi
   ·rw[zY (by simpa using hi)]at h2;rw[List.getElem?_replicate]at h2;split at h2<;>cases h2
  have ha:vs[i]?=some v:=by
   unfold cR at h2;rw[z0 (by simpa using hi),zE]at h2;cases e:vs[i]? with
   |none=>rw[e]at h2;cases h2
   |some a=>rw[e]at h2;cases h2;rfl
  obtain⟨u,hu,rv⟩:=r.get ha;have hp:ps[i]?=some y:=by rw[<-S.pre,List.getElem?_take_of_lt (by omega)];exact h1
  have ndP:ps.Nodup:=by rw[<-S.pre];exact S.nd.sublist (List.take_sublist _ _)
  refine⟨u,rv,?_⟩;rcases S.par y (z9 hp)with k|k
  ·exact .inl ⟨k,jO ndP hp hu k⟩
  ·obtain⟨c,e⟩:=kN (n:=s.heap.objs.size+1) k;refine .inr ⟨.inl k,c,e,?_⟩;have q:=x.cell y c e;rw[jM ndP hp hu (by show scope.names.lookup y≠_;rw[k];decide)]at q;exact q
 ·exact e0.hok.fresh (Nat.le_of_lt (x.above y c (Zk h)))
 ·unfold cR;show _=N.length;rw[zr,zb,List.length_replicate];omega
theorem sE{CX:CXT}{P:Program}{w:World}{K:PySem.W.Frag}{mg:Str->Option Value}{base:Heap}{k:Nat}{f:Addr}{name qual:Str}{params:Arguments}{body:List Stmt}{scope:Scope}{dV kV doc pm cdv ct oc:Value}{an od:Option Addr}{osl:Array (Option Value)}{N ps:List Str}{sp:Sp}(lk:K.lookup f=some ⟨oc,od,.func (PySem.W.fnOf name qual params body scope dV kV doc pm an cdv ct),osl⟩)(hcd:PySem.W.codeIn K cdv qual=true)(S:FnScope N ps scope)(len:∀ vs H Q E,sp vs H Q E->vs.length=ps.length)(hbody:∀ (A:Around) (outer:List Env) (s:Shared) (H:Hp) (vs:List V) (Q:VK) (E:XK),Room k (A.deeper (envOfC qual scope s.heap.objs.size f cdv))->sp vs H Q E ->
   ∃ t,PSs (cU CX P w K mg base N qual scope f cdv A outer s H E) body t/\t { nx:=fun _ H'=>Q .non H',rt:=Q } (cR N vs) H) :
  FnOk P w K mg base CX (k+1) f (PySem.W.fnOf name qual params body scope dV kV doc pm an cdv ct) ps sp:=by
 refine⟨len,fun A outer s H args us vs Q E hr e0 hb r hsp=>?_⟩;have hl:=len _ _ _ _ hsp;have KX:K.In s.heap:=e0.mod.kin.keeps fun b o e=>(e0.bs b o e).1;have lim:s.heap.NoLimit:=e0.mod.nolimit.keeps fun b o e=>(e0.bs b o e).1;have hkind:∀y∈ps.zip us,scope.names.lookup y.1=some .local\/(scope.names.lookup y.1=some .cell/\((cellsFrom (s.heap.objs.size+1) scope.names []).lookup y.1).isSome=true):=fun⟨n,v⟩ hy=>by
  rcases S.par n (List.of_mem_zip hy).1 with q|q
  ·exact .inl q
  ·exact .inr ⟨q,PySem.W.cellsFrom_some _ _ _ (.inl q)⟩
 refine codeAny_call_function hr.depth (KX _ _ lk) rfl S.co S.gen rfl (PySem.W.codeRec_of KX hcd) (hb _ _ _ _ ?_);refine wpAny_newFunctionEnv_cells S.kind hkind fun env he s1 x=>?_;subst he;refine⟨lim.keeps x.toInCall.keep,codeAny_func ?_⟩;obtain⟨t,ht,hq⟩:=hbody A outer s H vs Q E (hr.deeper _) hsp;have I:Inv (cU CX P w K mg base N qual scope f cdv A outer s H E) [] (cR N vs) H s1:=pU S hr.hd e0 hl r x;refine Zl (ht [] s1 (cR N vs) H _ I hq) (fun fl s' hs=>?_) fun e s' hs=>hs;have fin:∀{σ':St} {H':Hp} {v:V} {u:Value},Inv (cU CX P w K mg base N qual scope f cdv A outer s H E) [] σ' H' s'->RelV v u->Q v H'->CE outer P w H s Q u s' :=
  fun{σ' H' v u} J rv q=>⟨v,H',J.os,J.bare,J.base,J.hok,rv,q⟩
 cases fl with
 |ret u =>obtain⟨v,σ',H',J,rv,q⟩:=hs;exact fin J rv q
 |next =>obtain⟨σ',H',J,q⟩:=hs;exact fin (v:=V.non) (u:=Value.none) J rfl q
 |brk =>obtain⟨_,_,_,q⟩:=hs;exact False.elim q
 |cont =>obtain⟨_,_,_,q⟩:=hs;exact False.elim q
open PySem PySem.Spec PyProof.Rows
section
variable{X:Cx}{x:Str}{p pos:Pos}{e:Expr}{es:List Expr}{t:TA}{id T:String}{r:List V->Hp->VK->Prop}
def tCB(r:List V->Hp->VK->Prop)(t:TA):TE:=fun σ H Q=>t σ H fun vs H1=>r vs H1 Q
theorem rL(hc:cu X (.builtin id) r)(hg:Gl X x)(hm:X.mg x=none)(hv:bootBuiltins x=some (.builtin id))(ha:PA X (e::es) t)(hn:x≠"__name__":=by decide)(hdb:(x==("__debug__":Str))=false:=by decide)(he:starEach (e::es) X.env=(false,eval e X.env)::starEach es X.env:=by rfl)(hpl:(backTo pos (starEach es X.env)).any (·.1)=false:=by rfl):PE X (.Call (.Name x p) (e::es) [] pos) (tCB r t):=by intro pins s σ H Q I h;refine wpAny_Call_Name_kw (dM I hg hm hv ?_ hn hdb);exact PyProof.Rows.callWith_builtin1 (thn (ha pos pins s σ H _ I h) fun us s1 ⟨vs,H1,I1,r1,q1⟩=>hc pins s1 σ H1 vs us Q I1 r1 q1) he hpl
theorem qq(hc:cu X (.type T) r)(hg:Gl X x)(hm:X.mg x=none)(hv:bootBuiltins x=some (.type T))(ha:PA X (e::es) t)(hn:x≠"__name__":=by decide)(hdb:(x==("__debug__":Str))=false:=by decide)(he:starEach (e::es) X.env=(false,eval e X.env)::starEach es X.env:=by rfl)(hpl:(backTo pos (starEach es X.env)).any (·.1)=false:=by rfl):PE X (.Call (.Name x p) (e::es) [] pos) (tCB r t):=by intro pins s σ H Q I h;refine wpAny_Call_Name_kw (dM I hg hm hv ?_ hn hdb);exact Zi (thn (ha pos pins s σ H _ I h) fun us s1 ⟨vs,H1,I1,r1,q1⟩=>hc pins s1 σ H1 vs us Q I1 r1 q1) he hpl
end
end L2
namespace HT
open PySem PyProof.Rows
section
variable{prog:Program}{w:World}{A:Around}{E:Value->Shared->Prop}{s:Shared}
theorem cat_tup{t b:Addr}{vs ws:List Value}{Q:Value->Shared->Prop}(ht:IsTup s.heap t vs.toArray)(hb:IsTup s.heap b ws.toArray)(hv:vs≠[])(h1:ws=[]->Q (.ref t) s)(h2:ws≠[]->Q (.ref s.heap.objs.size) { s with heap:=s.heap.push { cls:=.type "tuple",data:=.seq (vs++ws).toArray } })(hsz:vs.length+ws.length<=sizeLine):wpAny (model prog w) A (binaryOp .Add (.ref t) (.ref b)) Q E s:=by
 obtain⟨⟨cls,dd,data,sl⟩,ho,hc,n,hd⟩:=id ht;obtain⟨⟨cls2,dd2,data2,sl2⟩,ho2,hc2,n2,hd2⟩:=id hb;simp only at hc hd hc2 hd2;subst hc hd hc2 hd2;have e:vs.toArray++ws.toArray=(vs++ws).toArray:=by simp
 by_cases hw:ws=[]
 ·exact concat_meets ⟨_,ho,rfl⟩ ⟨_,ho2,rfl⟩ noFill_tuple_add seq_tuple_add PySem.F.slot_tuple_add PySem.F.entry_tuple_add (PySem.F.args_tuple_add_2 _ _)
   (tuple_addW1 t b vs.toArray ws.toArray n n2 dd dd2 sl sl2 (by simpa using hv) (by simp[hw])) ⟨ho,ho2,h1 hw⟩
 ·refine concat_meets ⟨_,ho,rfl⟩ ⟨_,ho2,rfl⟩ noFill_tuple_add seq_tuple_add PySem.F.slot_tuple_add PySem.F.entry_tuple_add (PySem.F.args_tuple_add_2 _ _)
   (tuple_addW2 t b vs.toArray ws.toArray n n2 dd dd2 sl sl2 (by simpa using hv) (by simpa using hw) (by rw[zh,zh];exact hsz)) ⟨ho,ho2,?_⟩
  rw[e];exact h2 hw
def sIx(n d:Nat):Option Int->Nat
 |none=>d
 |some v=>if v<0 then(v+(n:Int)).toNat else min v.toNat n
theorem sIx_none(n d:Nat):sIx n d none=d:=rfl
theorem sIx_nat(n d k:Nat):sIx n d (some (k:Int))=min k n:=by show(if(k:Int)<0 then((k:Int)+(n:Int)).toNat else min (k:Int).toNat n)=min k n;rw[if_neg (by omega),Zt]
theorem wa(n d:Nat)(hd:d<=n)(o:Option Int):sIx n d o<=n:=by
 cases o with
 |none=>exact hd
 |some v =>
  show(if v<0 then(v+(n:Int)).toNat else min v.toNat n)<=n;by_cases hv:v<0
  ·rw[if_pos hv];omega
  ·rw[if_neg hv];exact Nat.min_le_right _ _
theorem mz(v:Int)(n d:Nat):(if v<0 then max (v+(n:Int)) 0 else min v (n:Int))=((sIx n d (some v):Nat):Int):=by
 show(if v<0 then max (v+(n:Int)) 0 else min v (n:Int))=(((if v<0 then(v+(n:Int)).toNat else min v.toNat n):Nat):Int);by_cases hv:v<0
 ·simp only[if_pos hv];omega
 ·simp only[if_neg hv];omega
theorem nI(lo hi:Option Int)(n:Nat):Builtin.Slice.sliceAdjust lo hi 1 (n:Int)=(((sIx n 0 lo:Nat):Int),((sIx n n hi:Nat):Int)):=by
 have h1:¬((1:Int)<0):=by omega
 unfold Builtin.Slice.sliceAdjust;simp only[h1,if_false];refine Prod.ext ?_ ?_
 ·cases lo with
  |none=>rfl
  |some v=>exact mz v n 0
 ·cases hi with
  |none=>rfl
  |some v=>exact mz v n n
theorem oA(i j:Nat):Builtin.Slice.slicePlaces (i:Int) (j:Int) 1=j-i:=by
 unfold Builtin.Slice.slicePlaces;have h1:(1:Int)>0:=by omega
 simp only[h1,if_true,Int.ediv_one];split<;>omega
theorem jc{v:Value}{o:Option Int}{Q:Option Int->Shared->Prop}(p:IsPart v o)(h:Q o s):wpAny (model prog w) A (Builtin.Slice.slicePartIndex v) Q E s:=by
 cases p with
 |none=>exact slicePart_none h
 |int i t=>exact slicePart_int h
theorem sliceApplied_gen{sl:Addr}{vl vu:Value}{lo hi:Option Int}{n:Nat}{Q:Int×Int×Nat->Shared->Prop}(hs:s.heap.IsSliceOf sl vl vu .none)(pl:IsPart vl lo)(pu:IsPart vu hi)(h:Q (((sIx n 0 lo:Nat):Int),1,sIx n n hi-sIx n 0 lo) s):wpAny (model prog w) A (Builtin.Slice.sliceApplied (.ref sl) (pure (n:Int))) Q E s:=by obtain⟨os,hos,hcs,hds⟩:=id hs;unfold Builtin.Slice.sliceApplied Builtin.Slice.sliceFields;refine za (za (zR hos hds (x:=vl) rfl (za (zR hos hds (x:=vu) rfl (za (zR hos hds (x:=.none) rfl (zi ?_)))))));refine za (slicePart_none ?_);show wpAny _ _ (if((1:Int)==0)=true then _ else _) _ _ s;rw[if_neg (by decide)];refine za (jc pl (za (jc pu (za (zi ?_)))));show wpAny _ _ (match Builtin.Slice.sliceAdjust lo hi 1 (n:Int)with|(lo,hi)=>pure (lo,(1:Int),Builtin.Slice.slicePlaces lo hi 1)) _ _ s;rw[nI lo hi n];show wpAny _ _ (pure (((sIx n 0 lo:Nat):Int),(1:Int),Builtin.Slice.slicePlaces ((sIx n 0 lo:Nat):Int) ((sIx n n hi:Nat):Int) 1)) _ _ s;rw[oA];exact zi h
theorem rQ(xs:Array Value)(i k:Nat):((List.range k).filterMap fun(m:Nat)=>xs[((i:Int)+(m:Int)*1).toNat]?).toArray=((xs.toList.drop i).take k).toArray:=by
 have e:(fun(m:Nat)=>xs[((i:Int)+(m:Int)*1).toNat]?)=fun m=>xs[i+m]?:=by
  funext m;have:((i:Int)+(m:Int)*1).toNat=i+m:=by omega
  rw[this]
 rw[e];have:=pick_run xs i k;rw[List.filterMap_map]at this;have e2:((fun x=>xs[x]?)∘fun x=>i+x)=fun m=>xs[i+m]?:=rfl;rw[e2]at this;rw[this]
theorem getItem_tuple_cut{t sl:Addr}{items:Array Value}{vl vu:Value}{lo hi:Option Int}{Q:Value->Shared->Prop}(ht:IsTup s.heap t items)(hs:s.heap.IsSliceOf sl vl vu .none)(pl:IsPart vl lo)(pu:IsPart vu hi)(hw:¬(sIx items.size 0 lo=0/\sIx items.size items.size hi=items.size))(h:Q (.ref s.heap.objs.size) { s with heap:=s.heap.push { cls:=.type "tuple",data:=.seq ((items.toList.drop (sIx items.size 0 lo)).take (sIx items.size items.size hi-sIx items.size 0 lo)).toArray } })(hsz:items.size<=sizeLine):wpAny (model prog w) A (getItem (.ref t) (.ref sl)) Q E s:=by
 have htake:sizeOk (.seq ((items.toList.drop (sIx items.size 0 lo)).take (sIx items.size items.size hi-sIx items.size 0 lo)).toArray):=by show((items.toList.drop (sIx items.size 0 lo)).take (sIx items.size items.size hi-sIx items.size 0 lo)).toArray.size<=sizeLine;rw[zh,List.length_take,List.length_drop,zB];omega
 have hj:sIx items.size items.size hi<=items.size:=wa _ _ (ze _) hi;obtain⟨os,hos,hcs,hds⟩:=id hs;have hTs:s.TypeIs (.ref sl) "slice":=⟨os,hos,hcs⟩
 unfold getItem
 try with_reducible refine wpAny_holding ?_
 first|refine za (zi ?_)|skip
 refine za (wpAny_sequenceKey ht.typeIs (by decide) ?_);refine za (zT (name:=Str.ofString "__getitem__") ht.typeIs zX
  (Za zX ht.typeIs entry_tuple_getitem ?_ (args_tuple_getitem _ _)))
 show wpAny _ _ (Builtin.Tuple.tupleItemsOf (.ref t) >>= _) _ _ s;refine za (tupleItemsOf_ ht ?_);refine za (wpAny_typeOf hTs ?_);rw[if_pos (by decide)];refine za (sliceApplied_gen hs pl pu ?_);have hno:¬((((sIx items.size 0 lo:Nat):Int)==0&&(1:Int)==1&&(sIx items.size items.size hi-sIx items.size 0 lo)==items.size)=true):=by intro q;rw[zA,zA]at q;have q1:((sIx items.size 0 lo:Nat):Int)=0:=eq_of_beq q.1.1;have q2:sIx items.size items.size hi-sIx items.size 0 lo=items.size:=eq_of_beq q.2;exact hw ⟨by omega,by omega⟩
 show wpAny _ _ (if(((sIx items.size 0 lo:Nat):Int)==0&&(1:Int)==1&&(sIx items.size items.size hi-sIx items.size 0 lo)==items.size)=true then _ else _) _ _ s;rw[if_neg hno,rQ]
 first
  |exact za (m:=Builtin.Tuple.tupleExact _) (Zf (zi ⟨_,rfl,zi h⟩) htake)
  |exact za (m:=Builtin.Tuple.tupleExact _) (Zf (za (zi (zi ⟨_,rfl,zi h⟩))) htake)
  |exact za (za (m:=Builtin.Tuple.tupleExact _) (Zf (zi (zi ⟨_,rfl,zi h⟩)) htake))
  |exact za (za (m:=Builtin.Tuple.tupleExact _) (Zf (zi ⟨_,rfl,zi h⟩) htake))
end
end HT
namespace L2
open PySem PySem.Spec PyProof.Rows
abbrev TO:=St->Hp->(Option Int->Hp->Prop)->Prop
def PO(X:Cx)(e:Option Expr)(t:TO):Prop :=
 ∀(pins:List (Addr×Obj)) (s:Shared) (σ:St) (H:Hp) (Q:Option Int->Hp->Prop),Inv X pins σ H s->t σ H Q ->
  wpAny (model X.prog X.w) X.A (evalPart e X.env) (fun u s'=>∃o H',Inv X pins σ H' s'/\IsPart u o/\Q o H') X.xe s
def nq:TO:=fun _ H Q=>Q none H
def sZ(t:TE):TO:=fun σ H Q=>t σ H fun x H1=>∃i,x=.int i/\Q (some i) H1
section
variable{X:Cx}{e:Expr}{te:TE}{lo hi:Option Expr}{tl th:TO}{pos p2:Pos}
theorem uc:PO X none nq:=by intro pins s σ H Q I h;rw[evalPart_none];exact zi ⟨none,H,I,.none,h⟩
theorem ud(h:PE X e te):PO X (some e) (sZ te):=by intro pins s σ H Q I hw;rw[evalPart_some];refine thn (h pins s σ H _ I hw) fun u s1 hz9=>?_;obtain⟨x,H1,I1,r1,q1⟩:=hz9;obtain⟨i,rfl,q⟩:=q1;obtain⟨t,rfl⟩:=r1;exact⟨some i,H1,I1,.int i t,q⟩
def SlR(X:Cx)(r:V->Option Int->Option Int->Hp->VK->Prop):Prop :=
 ∀(pins:List (Addr×Obj)) (s:Shared) (σ:St) (H:Hp) (x:V) (v vl vu:Value) (lo hi:Option Int) (sl:Addr) (Q:VK),Inv X pins σ H s->RelV x v->s.heap.IsSliceOf sl vl vu .none->IsPart vl lo->IsPart vu hi->r x lo hi H Q ->
  ∃T id,typeLookup (.type T) "__getitem__" = pure (some (.builtin id))/\s.TypeIs v T/\wpAny (model X.prog X.w) X.A (getItem v (.ref sl)) (EP X pins σ Q) X.xe s
def tSl(r:V->Option Int->Option Int->Hp->VK->Prop)(te:TE)(tl th:TO):TE:=fun σ H Q=>te σ H fun x H1=>tl σ H1 fun l H2=>th σ H2 fun u H3=>r x l u H3 Q
theorem rO{r:V->Option Int->Option Int->Hp->VK->Prop}(hr:SlR X r)(he:PE X e te)(hl:PO X lo tl)(hu:PO X hi th):PE X (.Subscript e (.Slice lo hi none p2) pos) (tSl r te tl th):=by intro pins s σ H Q I h;refine Subscript_ (thn (he pins s σ H _ I h) fun v s1 hz9=>?_);obtain⟨x,H1,I1,r1,q1⟩:=hz9;refine wpAny_Slice (thn (hl pins s1 σ H1 _ I1 q1) fun vl s2 ⟨l,H2,I2,pl,q2⟩=>thn (hu pins s2 σ H2 _ I2 q2) fun vu s3 hz9=>?_);obtain⟨u,H3,I3,pu,q3⟩:=hz9;rw[evalPart_none];refine zi ?_;have I4:Inv X pins σ H3 { s3 with heap:=s3.heap.push { cls:=.type "slice",data:=.fields #[vl,vu,.none] } }:=I3.kept (t':=s3.toks) fun b ob q=>zc _ q;obtain⟨T,id,hT,ht,hg⟩:=hr pins { s3 with heap:=s3.heap.push { cls:=.type "slice",data:=.fields #[vl,vu,.none] } } σ H3 x v vl vu l u s3.heap.objs.size Q I4 r1 (Heap.IsSliceOf.new ..) pl pu q3;show wpAny (model X.prog X.w) X.A (subscriptTail e (.Slice lo hi none p2) v (.ref s3.heap.objs.size)) (EP X pins σ Q) X.xe { s3 with heap:=s3.heap.push { cls:=.type "slice",data:=.fields #[vl,vu,.none] } };exact tail_any (ops:=[.ref s3.heap.objs.size,v]) ht hT hg (by with_unfolding_all rfl)
def bt(xs:List V)(lo hi:Option Int):List V:=(xs.drop (HT.sIx xs.length 0 lo)).take (HT.sIx xs.length xs.length hi-HT.sIx xs.length 0 lo)
theorem eA(xs:List V)(lo hi:Option Int):(bt xs lo hi).length<=xs.length:=by unfold bt;rw[List.length_take,List.length_drop];omega
def xJ(K:PySem.W.Frag):V->Option Int->Option Int->Hp->VK->Prop:=fun x lo hi H Q=>∃a xs,x=.ref a/\SqT K H a xs /\
 ¬(HT.sIx xs.length 0 lo=0/\HT.sIx xs.length xs.length hi=xs.length)/\∀p,H p=none->Q (.ref p) (upd H p (.tup (bt xs lo hi)))
theorem wf:SlR X (xJ X.K):=by
 intro pins s σ H x v vl vu lo hi sl Q I rx hs pl pu h;obtain⟨a,xs,rfl,hx,hw,q⟩:=h;cases rx;obtain⟨its,r,ht,hz⟩:=I.tuple hx;have hlen:its.toArray.size=xs.length:=by rw[zh];exact r.length.symm
 refine⟨"tuple",_,zX.lookup,ht.typeIs,?_⟩;refine HT.getItem_tuple_cut ht hs pl pu (by rw[hlen];exact hw) ?_ (by rw[hlen];exact hz);rw[hlen];refine⟨.ref s.heap.objs.size,_,I.laid (t':=s.toks) (o:=.tup (bt xs lo hi)) (fun b ob q=>zc _ q) (ze _) ?_,rfl,q _ (I.hok.fresh (ze _))⟩;exact⟨zq (eA xs lo hi) hz,_,(r.drop (HT.sIx xs.length 0 lo)).take (HT.sIx xs.length xs.length hi-HT.sIx xs.length 0 lo),IsTup.new _ _⟩
def sQ(K:PySem.W.Frag):R2:=fun x y H Q=>∃a b xs ys,x=.ref a/\y=.ref b/\SqT K H a xs/\SqT K H b ys/\xs≠[]/\xs.length+ys.length<=sizeLine /\
 (ys=[]->Q (.ref a) H)/\(ys≠[]->∀p,H p=none->Q (.ref p) (upd H p (.tup (xs++ys))))
theorem Vals.nil_iff{xs:List V}{us:List Value}(r:Vals xs us):us=[]↔xs=[]:=by
 cases r with
 |nil=>simp
 |cons _ _=>simp
theorem mL:OpR X (binaryOp .Add) (sQ X.K):=by intro pins s σ H x y v u Q I rx ry h;obtain⟨a,b,xs,ys,rfl,rfl,ha,hb,hx,hz,q1,q2⟩:=h;cases rx;cases ry;obtain⟨its,r1,p1,_⟩:=I.tuple ha;obtain⟨its2,r2,p2,_⟩:=I.tuple hb;refine HT.cat_tup p1 p2 (fun z=>hx (r1.nil_iff.mp z)) (fun z=>⟨.ref a,H,I,rfl,q1 (r2.nil_iff.mp z)⟩) (fun z=>?_) (by rw[<-r1.length,<-r2.length];exact hz);refine⟨.ref s.heap.objs.size,_,I.laid (t':=s.toks) (o:=.tup (xs++ys)) (fun b ob q=>zc _ q) (ze _) ?_,rfl,q2 (fun w=>z (r2.nil_iff.mpr w)) _ (I.hok.fresh (ze _))⟩;exact⟨by rw[zr];exact hz,_,r1.append r2,IsTup.new _ _⟩
end
open PySem PySem.Spec PyProof.Rows
def ixN(n:Nat)(i:Int):Option Nat:=if 0<=i then(if i<n then some i.toNat else none)else if -(n:Int)<=i then some (i+n).toNat else none
def atI{α:Type}(xs:List α)(i:Int):Option α:=(ixN xs.length i).bind fun j=>xs[j]?
theorem mH{n:Nat}{i:Int}{j:Nat}(h:ixN n i=some j):seqIndex? i n=some j/\j<n/\-(n:Int)<=i/\i<n:=by
 unfold ixN at h;by_cases h0:0<=i
 ·rw[if_pos h0]at h;by_cases h1:i<n
  ·rw[if_pos h1]at h;have e:i.toNat=j:=zp h;exact⟨by rw[seqIndex_of h0 h1,e],by omega,by omega,h1⟩
  ·rw[if_neg h1]at h;cases h
 ·rw[if_neg h0]at h;by_cases h1:-(n:Int)<=i
  ·rw[if_pos h1]at h;have e:(i+n).toNat=j:=zp h;exact⟨by rw[seqIndex_neg (by omega) h1,e],by omega,h1,by omega⟩
  ·rw[if_neg h1]at h;cases h
theorem jq{α:Type}{xs:List α}{i:Int}{v:α}(h:atI xs i=some v):∃j,seqIndex? i xs.length=some j/\xs[j]?=some v/\j<xs.length/\-(xs.length:Int)<=i/\i<xs.length:=by
 unfold atI at h;cases e:ixN xs.length i with
 |none=>rw[e]at h;cases h
 |some j =>rw[e]at h;obtain⟨h1,h2,h3,h4⟩:=mH e;exact⟨j,h1,h,h2,h3,h4⟩
theorem bo{α:Type}{xs:List α}{j:Nat}{v:α}(h:xs[j]?=some v):atI xs (j:Int)=some v:=by
 have hj:j<xs.length:=(zj.mp h).1;have e:ixN xs.length (j:Int)=some j:=by unfold ixN;rw[if_pos (by omega),if_pos (by omega)];simp
 unfold atI;rw[e];exact h
theorem qZ{α:Type}(xs:List α)(v:α):atI (xs++[v]) (-1)=some v:=by
 have hl:(xs++[v]).length=xs.length+1:=by simp
 have e:ixN (xs++[v]).length (-1)=some xs.length:=by unfold ixN;rw[hl,if_neg (by decide),if_pos (by omega)];congr 1;omega
 unfold atI;rw[e];show(xs++[v])[xs.length]?=some v;simp
def mw(b:Expr):Prop:=∀o i,subscripted b false o i=operate [o,i] (getItem o i)
def IxR(X:Cx)(r:R2):Prop :=
 ∀(value slice:Expr) (pins:List (Addr×Obj)) (s:Shared) (σ:St) (H:Hp) (x y:V) (v u:Value) (Q:VK),Inv X pins σ H s->RelV x v->RelV y u->r x y H Q ->
  subscripted slice false v u=operate [v,u] (getItem v u)->wpAny (model X.prog X.w) X.A (subscriptTail value slice v u) (EP X pins σ Q) X.xe s
def MtR(X:Cx)(id:String)(r:V->List V->Hp->VK->Prop):Prop :=
 ∀(pins:List (Addr×Obj)) (s:Shared) (σ:St) (H:Hp) (x:V) (xs:List V) (v:Value) (us:List Value) (Q:VK),Inv X pins σ H s->RelV x v->Vals xs us->r x xs H Q ->
  wpAny (model X.prog X.w) X.A (call (.builtin id) (v::us)) (EP X pins σ Q) X.xe s
section
variable{X:Cx}{a b:Expr}{ta tb:TE}{pos:Pos}
theorem xh{r:R2}(hr:IxR X r)(ha:PE X a ta)(hb:PE X b tb)(hs:mw b):PE X (.Subscript a b pos) (tOp r ta tb):=by intro pins s σ H Q I h;exact Subscript_ (rc ha hb I h fun v u s2 x y H2 I2 rx ry q=>hr a b pins s2 σ H2 x y v u Q I2 rx ry q (hs _ _))
def rX(K:PySem.W.Frag):R2:=fun x y H Q=>∃p xs i v,x=.ref p/\y=.int i/\SqL K H p xs/\atI xs i=some v/\Q v H
def rY(K:PySem.W.Frag):R2:=fun x y H Q=>∃p xs i v,x=.ref p/\y=.int i/\SqT K H p xs/\atI xs i=some v/\Q v H
def vW:R2:=fun x y H Q=>∃z i c,x=.str z/\y=.int i/\z.length<=sizeLine/\atI z.cps.toList i=some c/\Q (.str ⟨#[c]⟩) H
theorem tG:IxR X (rX X.K):=by
 intro value slice pins s σ H x y v u Q I rx ry h hs;obtain⟨p,xs,i,z,rfl,rfl,hq,he,q⟩:=h;cases rx;obtain⟨t,rfl⟩:=ry;obtain⟨its,r,pl,hz⟩:=I.list hq;obtain⟨j,h1,h2,h3,h4,h5⟩:=jq he;obtain⟨w,ew,rw'⟩:=r.get h2;have hl:=r.length;have hn:=fZ;have fin:EP X pins σ Q w s:=⟨z,H,I,rw',q⟩
 by_cases h0:0<=i
 ·have hj:i.toNat=j:=by rw[seqIndex_of h0 h5]at h1;exact zp h1
  exact item_listR pl.isList h0 (by omega) (by rw[hj];simpa using ew) fin hs
 ·have hj:(i+(its.toArray.size:Int)).toNat=j:=by rw[seqIndex_neg (by omega) h4]at h1;rw[zh,<-hl];exact zp h1
  exact subscriptTail_builtinR (x:=w) pl.isList.typeIs slot_list_getitem.lookup
   (wpAny_getItem_list_neg (Q:=fun r s'=>r=w/\EP X pins σ Q r s') pl.isList (by omega) (by rw[zh]<;>omega) (by omega) (by rw[hj];simpa using ew) ⟨rfl,fin⟩) hs
theorem uU:IxR X (rY X.K):=by
 intro value slice pins s σ H x y v u Q I rx ry h hs;obtain⟨p,xs,i,z,rfl,rfl,hq,he,q⟩:=h;cases rx;obtain⟨t,rfl⟩:=ry;obtain⟨its,r,pl,hz⟩:=I.tuple hq;obtain⟨j,h1,h2,h3,h4,h5⟩:=jq he;obtain⟨w,ew,rw'⟩:=r.get h2;have hl:=r.length;have hn:=fZ;have fin:EP X pins σ Q w s:=⟨z,H,I,rw',q⟩
 exact subscriptTail_builtinR (x:=w) pl.typeIs slot_tuple_getitem.lookup
  (getItem_tuple (j:=j) (Q:=fun r s'=>r=w/\EP X pins σ Q r s') pl (by omega) (by omega) (by rw[zh,<-hl];exact h1) (by simpa using ew) ⟨rfl,fin⟩) hs
theorem uT:IxR X vW:=by
 intro value slice pins s σ H x y v u Q I rx ry h hs;obtain⟨z,i,c,rfl,rfl,hz,he,q⟩:=h;obtain⟨t,rfl⟩:=rx;obtain⟨t',rfl⟩:=ry;obtain⟨j,h1,h2,h3,h4,h5⟩:=jq he;have hl:z.cps.toList.length=z.length:=by simp[Str.length]
 rw[hl]at h1 h4 h5;have hn:=fZ;exact tail_any (typeIs_str s z t) slot_str_getitem.lookup (getItem_str (c:=c) (by
  have e1:decide (i < -(2^63:Int))=false:=decide_eq_false (by omega);have e2:decide (i>=2^63)=false:=decide_eq_false (by omega);rw[e1,e2,Bool.or_false]) (by rw[h1];simpa using h2) ⟨.str ⟨#[c]⟩,H,I.tok _,⟨_,rfl⟩,q⟩) hs
theorem nU(its:List Value)(n j:Nat)(u:Value):Obj.mapSeq (·.setIfInBounds j u) { cls:=.type "list",data:=.seq its.toArray n }={ cls:=.type "list",data:=.seq (its.set j u).toArray n }:=by simp[Obj.mapSeq]
theorem Inv.lst{pins:List (Addr×Obj)}{σ:St}{H:Hp}{s:Shared}{p:Addr}{xs:List V}(I:Inv X pins σ H s)(h:H p=some (.lst xs)) :
  ∃(its:List Value) (n:Nat),Vals xs its/\s.heap.get? p=some { cls:=.type "list",data:=.seq its.toArray n }/\xs.length<=sizeLine:=by
 obtain⟨z,its,n,r,e⟩:=I.hok p _ h;exact⟨its,n,r,e,z⟩
theorem Inv.lstUpd{pins:List (Addr×Obj)}{σ:St}{H:Hp}{s:Shared}{p:Addr}{xs ys:List V}{its its':List Value}{n n':Nat}{f:Obj->Obj}(I:Inv X pins σ H s)(h:H p=some (.lst xs))(ho:s.heap.get? p=some { cls:=.type "list",data:=.seq its.toArray n })(hf:f { cls:=.type "list",data:=.seq its.toArray n }={ cls:=.type "list",data:=.seq its'.toArray n' })(r:Vals ys its')(hz:ys.length<=sizeLine)(t:Nat) :
  Inv X pins σ (upd H p (.lst ys)) { s with heap:=s.heap.update p f,toks:=t }:=by
 have e:(s.heap.update p f).get? p=some { cls:=.type "list",data:=.seq its'.toArray n' }:=by rw[Heap.get?_update_self f ho (by rw[hf]<;>rfl),hf]
 refine I.write (x:=p) (e:=p) (by rw[h];trivial) (.inl rfl) (fun b u hb q=>(Zb _ _ (Zn hb)).trans q) ⟨_,e⟩ ?_;exact⟨hz,its',n',r,e⟩
def sS:V->V->V->Hp->(Hp->Prop)->Prop:=fun o i v H Q=>∃p xs k j,o=.ref p/\i=.int k/\H p=some (.lst xs)/\ixN xs.length k=some j/\Q (upd H p (.lst (xs.set j v)))
theorem sf:qW X sS:=by
 intro pins s σ H o i v ov iv u Q I ro ri rv h;obtain⟨p,xs,k,j,rfl,rfl,hp,hj,q⟩:=h;cases ro;obtain⟨t,rfl⟩:=ri;obtain⟨its,n,r,ho,hz⟩:=I.lst hp;obtain⟨h1,h2,h3,h4⟩:=mH hj;have hl:=r.length;have hn:=fZ;have I':Inv X pins σ (upd H p (.lst (xs.set j v))) { s with heap:=s.heap.update p (Obj.mapSeq (·.setIfInBounds j u)) } :=
  I.lstUpd hp ho (nU its n j u) (r.set rv j) (by rw[List.length_set];exact hz) s.toks
 by_cases h0:0<=k
 ·have hk:k.toNat=j:=by rw[seqIndex_of h0 h4]at h1;exact zp h1
  exact PySem.W.ki_setAt ho h0 (by omega) (by rw[zh,<-hl];exact h4) (by rw[hk];exact⟨_,I',q⟩)
 ·have hk:(k+(its.toArray.size:Int)).toNat=j:=by rw[seqIndex_neg (by omega) h3]at h1;rw[zh,<-hl];exact zp h1
  exact PySem.W.ki_setBack ho (by omega) (by rw[zh,<-hl];exact h3) (by omega) (by rw[hk];exact⟨_,I',q⟩)
theorem lM(lo hi:Option Int)(n:Nat):(sliceBounds lo hi none n).1=((HT.sIx n 0 lo:Nat):Int)/\(sliceBounds lo hi none n).2.1=((HT.sIx n n hi:Nat):Int)/\(sliceBounds lo hi none n).2.2=1:=by
 refine⟨?_,?_,rfl⟩
 ·cases lo with
  |none=>simp[sliceBounds,HT.sIx]
  |some i =>
   simp only[sliceBounds,HT.sIx,Option.getD_none,show(1:Int)>0 by decide,if_true];by_cases h:i<0
   ·simp only[h,if_true]<;>omega
   ·simp only[h,if_false]<;>omega
 ·cases hi with
  |none=>simp[sliceBounds,HT.sIx]
  |some i =>
   simp only[sliceBounds,HT.sIx,Option.getD_none,show(1:Int)>0 by decide,if_true];by_cases h:i<0
   ·simp only[h,if_true]<;>omega
   ·simp only[h,if_false]<;>omega
theorem ko(its:List Value)(lo hi:Option Int):slicePick its.toArray lo hi none=((its.drop (HT.sIx its.length 0 lo)).take (HT.sIx its.length its.length hi-HT.sIx its.length 0 lo)).toArray:=by obtain⟨h1,h2,h3⟩:=lM lo hi its.toArray.size;unfold slicePick;rw[h1,h2,h3];simp only[sliceRange_one,pick_run,zh]<;>rfl
def vY(K:PySem.W.Frag):V->Option Int->Option Int->Hp->VK->Prop:=fun x lo hi H Q=>∃a xs,x=.ref a/\SqL K H a xs/\∀p,H p=none->Q (.ref p) (upd H p (.lst (bt xs lo hi)))
theorem uq:SlR X (vY X.K):=by intro pins s σ H x v vl vu lo hi sl Q I rx hs pl pu h;obtain⟨a,xs,rfl,hx,q⟩:=h;cases rx;obtain⟨its,r,ht,hz⟩:=I.list hx;have hlen:=r.length;refine⟨"list",_,slot_list_getitem.lookup,ht.isList.typeIs,?_⟩;refine wpAny_getItem_list_slice ht.isList hs pl pu .none (by simp) ?_ (by rw[zh]<;>omega);rw[ko,<-hlen];refine⟨.ref s.heap.objs.size,_,I.laid (t':=s.toks) (o:=.lst (bt xs lo hi)) (fun b ob q=>zc _ q) (ze _) ?_,rfl,q _ (I.hok.fresh (ze _))⟩;exact⟨zq (eA xs lo hi) hz,_,0,(r.drop (HT.sIx xs.length 0 lo)).take (HT.sIx xs.length xs.length hi-HT.sIx xs.length 0 lo),zn _ rfl⟩
def dX:V->Bool
 |.non=>true
 |.bl _=>true
 |.int _=>true
 |.str _=>true
 |_=>false
def eqV:V->V->Bool
 |.non,.non=>true
 |.bl a,.bl b=>a==b
 |.bl a,.int b=>(if a then 1 else 0)==b
 |.int a,.bl b=>a==(if b then 1 else 0)
 |.int a,.int b=>a==b
 |.str a,.str b=>a==b
 |_,_=>false
theorem uK{A:Around}{s:Shared}{y x:V}{u v:Value}(ry:RelV y u)(rx:RelV x v)(fy:dX y=true)(fx:dX x=true):SeqAt.EqAt A s u v (eqV y x):=by
 cases y with
 |non =>
  cases ry;cases x with
  |non=>cases rx;exact SeqAt.EqAt.same _
  |bl b=>cases rx;exact SeqAt.EqAt.none_bool b
  |int b=>obtain⟨t,rfl⟩:=rx;exact SeqAt.EqAt.none_int b t
  |str b=>obtain⟨t,rfl⟩:=rx;exact SeqAt.EqAt.none_str b t
  |_=>exact absurd (show false=true from fx) zo
 |bl a =>
  cases ry;cases x with
  |non=>cases rx;exact SeqAt.EqAt.bool_none a
  |bl b=>cases rx;exact SeqAt.EqAt.bool_bool a b
  |int b=>obtain⟨t,rfl⟩:=rx;exact SeqAt.EqAt.bool_int a b t
  |str b=>obtain⟨t,rfl⟩:=rx;exact SeqAt.EqAt.bool_str a b t
  |_=>exact absurd (show false=true from fx) zo
 |int a =>
  obtain⟨t',rfl⟩:=ry;cases x with
  |non=>cases rx;exact SeqAt.EqAt.int_none a t'
  |bl b=>cases rx;exact SeqAt.EqAt.int_bool a t' b
  |int b=>obtain⟨t,rfl⟩:=rx;exact SeqAt.EqAt.int_int a t' b t
  |str b=>obtain⟨t,rfl⟩:=rx;exact SeqAt.EqAt.int_str a t' b t
  |_=>exact absurd (show false=true from fx) zo
 |str a =>
  obtain⟨t',rfl⟩:=ry;cases x with
  |non=>cases rx;exact SeqAt.EqAt.str_none a t'
  |bl b=>cases rx;exact SeqAt.EqAt.str_bool a t' b
  |int b=>obtain⟨t,rfl⟩:=rx;exact SeqAt.EqAt.str_int a t' b t
  |str b=>obtain⟨t,rfl⟩:=rx;exact SeqAt.EqAt.str_str a t' b t
  |_=>exact absurd (show false=true from fx) zo
 |_=>exact absurd (show false=true from fy) zo
def eqU(x:V)(u:Value):Bool:=match u with
 |.none=>eqV .non x
 |.bool b=>eqV (.bl b) x
 |.int i _=>eqV (.int i) x
 |.str z _=>eqV (.str z) x
 |_=>false
theorem pL{x y:V}{u:Value}(r:RelV y u)(f:dX y=true):eqU x u=eqV y x:=by
 cases y with
 |non=>cases r;rfl
 |bl b=>cases r;rfl
 |int i=>obtain⟨t,rfl⟩:=r;rfl
 |str z=>obtain⟨t,rfl⟩:=r;rfl
 |_=>exact absurd (show false=true from f) zo
theorem jp{x:V}:∀{xs:List V} {us:List Value},Vals xs us->xs.all dX=true->us.any (eqU x)=xs.any fun y=>eqV y x
 |_,_,.nil,_=>rfl
 |y::xs,u::us,.cons r t,f=>by rw[List.all_cons,zA]at f;rw[List.any_cons,List.any_cons,pL r f.1,jp t f.2]
theorem ip{A:Around}{s:Shared}{x:V}{v:Value}(rx:RelV x v)(fx:dX x=true):∀{xs:List V} {us:List Value},Vals xs us->xs.all dX=true->∀u∈us,SeqAt.EqAt A s u v (eqU x u)
 |_,_,.nil,_=>fun u hu=>by cases hu
 |y::xs,u::us,.cons r t,f=>fun u' hu=>by
  rw[List.all_cons,zA]at f;rcases zw.mp hu with rfl|hu
  ·rw[pL r f.1];exact uK r rx f.1 fx
  ·exact ip rx fx t f.2 u' hu
def inV(x:V)(xs:List V):Bool:=xs.any fun y=>eqV y x
def rIn(K:PySem.W.Frag)(neg:Bool):R2:=fun x y H Q=>∃p xs,y=.ref p/\(SqL K H p xs\/SqT K H p xs)/\dX x=true/\xs.all dX=true/\Q (.bl (if neg then !inV x xs else inV x xs)) H
theorem qo:OpR X (compareOp .In) (rIn X.K false):=by
 intro pins s σ H x y v u Q I rx ry h;obtain⟨p,xs,rfl,hq,fx,fs,q⟩:=h;cases ry;rcases hq with hq|hq
 ·obtain⟨its,r,pl,hz⟩:=I.list hq;refine SeqAt.in_listAt (eqU x) pl.isList (fun w hw=>ip rx fx r fs w (by simpa using hw)) ⟨.bl _,H,I,rfl,?_⟩;rw[show its.toArray.any (eqU x)=its.any (eqU x) by simp,jp r fs];exact q
 ·obtain⟨its,r,pl,hz⟩:=I.tuple hq;refine SeqAt.in_tupleAt (eqU x) pl (fun w hw=>ip rx fx r fs w (by simpa using hw)) ⟨.bl _,H,I,rfl,?_⟩;rw[show its.toArray.any (eqU x)=its.any (eqU x) by simp,jp r fs];exact q
theorem kM:cu X (.builtin "len") (fun xs H Q=>∃p ys,xs=[.ref p]/\(SqL X.K H p ys\/SqT X.K H p ys)/\Q (.int ys.length) H):=by
 intro pins s σ H xs us Q I r h;obtain⟨p,ys,rfl,hq,q⟩:=h;obtain⟨u,rfl,rx⟩:=ce r;cases rx;have hn:=fZ;rcases hq with hq|hq
 ·obtain⟨its,r',pl,hz⟩:=I.list hq;have hlen:=r'.length;exact Calls.call_len_list pl.isList (by simp only[zh]<;>omega) ⟨.int ys.length,H,I.tok _,⟨s.toks+1,by rw[zh,hlen]⟩,q⟩
 ·obtain⟨its,r',pl,hz⟩:=I.tuple hq;have hlen:=r'.length;exact len_tuple pl (by simp only[zh]<;>omega) ⟨.int ys.length,H,I.tok _,⟨s.toks+1,by rw[zh,hlen]⟩,q⟩
theorem kg:cu X (.type "tuple") (fun xs H Q=>∃p ys,xs=[.ref p]/\((SqL X.K H p ys/\∀l,H l=none->Q (.ref l) (upd H l (.tup ys)))\/(SqT X.K H p ys/\Q (.ref p) H))):=by
 intro pins s σ H xs us Q I r h;obtain⟨p,ys,rfl,h⟩:=h;obtain⟨u,rfl,rx⟩:=ce r;cases rx;rcases h with⟨hq,q⟩|⟨hq,q⟩
 ·obtain⟨its,r',pl,hz⟩:=I.list hq;have hlen:=r'.length;refine call_tuple_list pl.isList (fun h' kp=>?_) (by simp only[zh]<;>omega);have I1:Inv X pins σ H { s with heap:=h' }:=I.kept (t':=s.toks) kp;have I2:Inv X pins σ (upd H h'.objs.size (.tup ys)) { s with heap:=h'.push { cls:=.type "tuple",data:=.seq its.toArray } } :=
   I1.laid (t':=s.toks) (fun b o e=>zc _ e) (ze _) (show ObjOk X.prog X.w _ _ _ (.tup ys)from⟨hz,its,r',IsTup.new _ _⟩)
  exact⟨.ref h'.objs.size,_,I2,rfl,q _ (I1.hok.fresh (ze _))⟩
 ·obtain⟨its,r',pl,hz⟩:=I.tuple hq;exact call_tuple_same pl ⟨.ref p,H,I,rfl,q⟩
def tyV(K:PySem.W.Frag)(T:String)(x:V)(H:Hp):Prop:=match x with
 |.str _=>T="str"
 |.int _=>T="int"
 |.ref p=>(T="list"/\∃xs,SqL K H p xs)\/(T="tuple"/\∃o,K.lookup p=some o/\o.cls=.type "tuple"/\o.dict=none) \/
   (T="dict"/\((∃kvs,H p=some (.dK kvs))\/∃kvs,H p=some (.dT kvs)))\/(T="set"/\∃S n,H p=some (.set S n))
 |_=>False
theorem wB{pins:List (Addr×Obj)}{σ:St}{H:Hp}{s:Shared}{T:String}{x:V}{v:Value}(I:Inv X pins σ H s)(r:RelV x v)(ty:tyV X.K T x H) :
  s.TypeIs v T/\∀a,v=.ref a->∃ob,s.heap.get? a=some ob/\ob.dict=none:=by
 cases x with
 |str z =>obtain⟨t,rfl⟩:=r;cases(show T="str" from ty);exact⟨typeIs_str s z t,fun _ e=>nomatch e⟩
 |int i =>obtain⟨t,rfl⟩:=r;cases(show T="int" from ty);exact⟨typeIs_int s i t,fun _ e=>nomatch e⟩
 |ref p =>
  cases r;rcases ty with⟨rfl,xs,hq⟩|⟨rfl,o,hk,hc,hd⟩|⟨rfl,hk⟩|⟨rfl,S,n,hk⟩
  ·obtain⟨its,_,pl,_⟩:=I.list hq;refine⟨pl.isList.typeIs,fun a e=>?_⟩;cases e;obtain⟨o,n,e,c,hd,_⟩:=pl;exact⟨o,e,hd⟩
  ·refine⟨⟨o,I.kIn p o hk,hc⟩,fun a e=>?_⟩;cases e;exact⟨o,I.kIn _ o hk,hd⟩
  ·have z:∃o,s.heap.get? p=some o/\o.ExactDict:=by
    rcases hk with⟨kvs,hk⟩|⟨kvs,hk⟩
    ·obtain⟨_,_,_,_,o,_,_,e,ex,_⟩:=I.hok p _ hk;exact⟨o,e,ex⟩
    ·obtain⟨_,_,_,_,o,_,_,e,ex,_⟩:=I.hok p _ hk;exact⟨o,e,ex⟩
   obtain⟨o,e,ex⟩:=z;refine⟨⟨o,e,ex.1⟩,fun a e2=>?_⟩;cases e2;exact⟨o,e,ex.2.1⟩
  ·obtain⟨o,_,_,_,e,ex,_⟩:=I.hok p _ hk;refine⟨⟨o,e,ex.1⟩,fun a e2=>?_⟩;cases e2;exact⟨o,e,ex.2.1⟩
 |_=>exact False.elim ty
def tBM(K:PySem.W.Frag)(T:String)(r:V->List V->Hp->VK->Prop)(to:TE)(t:TA):TE:=fun σ H Q=>to σ H fun x H1=>tyV K T x H1/\t σ H1 fun xs H2=>r x xs H2 Q
variable{o e:Expr}{es:List Expr}{to:TE}{t:TA}{name:Str}{apos cpos:Pos}{T id:String}{r:V->List V->Hp->VK->Prop}
theorem iV(pa:PlainAttrs T)(slot:Slot T name id)(hty:typeOf (.builtin id)=pure (.type "method_descriptor"))(hm:MtR X id r)(ho:PE X o to)(ha:PA X (e::es) t)(hbase:attributeBase o name X.env (eval o X.env)=eval o X.env:=by rfl)(hfew:((backTo cpos (starEach (e::es) X.env)).all (fun x=>!x.1)&&(backToKw cpos (keywordEach [] X.env)).all (fun x=>x.1.isSome)
  &&decide ((e::es).length+([]:List Keyword).length+(if ([]:List Keyword).isEmpty then 0 else 1)<30))=true:=by rfl)(hline:(apos.endLine == cpos.line)=true:=by rfl)(hs:starEach (e::es) X.env=(false,eval e X.env)::starEach es X.env:=by rfl)(hplain:(backTo cpos (starEach es X.env)).any (·.1)=false:=by rfl) :
  PE X (.Call (.Attribute o name apos) (e::es) [] cpos) (tBM X.K T r to t):=by
 intro pins s σ H Q I h;refine wpAny_Call_method_late hbase hfew hline rfl (thn (ho pins s σ H _ I h) fun v s1 hz9=>?_);obtain⟨x,H1,I1,r1,ty,q1⟩:=hz9;obtain⟨h1,h2⟩:=wB I1 r1 ty;refine⟨T,id,pa,slot,hty,h1,h2,?_⟩;have hA:=ha cpos pins s1 σ H1 _ I1 q1;rw[hs]at hA ⊢;refine Calls.callWith_builtin (by show(false ||(backTo cpos (starEach es X.env)).any (·.1))=false;rw[hplain]<;>rfl) (Calls.evalArgs_plain ?_);exact thn hA fun us s2 ⟨vs,H2,I2,r2,q2⟩=>hm pins s2 σ H2 x vs v us Q I2 r1 r2 q2
end
open PySem PySem.Spec PyProof.Rows
def MtM(X:Cx)(id:String)(r:V->List V->Hp->VK->Prop):Prop :=
 ∀(pins:List (Addr×Obj)) (s:Shared) (σ:St) (H:Hp) (x:V) (xs:List V) (v:Value) (us:List Value) (Q:VK),Inv X pins σ H s->RelV x v->Vals xs us->r x xs H Q ->
  wpAny (model X.prog X.w) X.A (call (.builtin id) (v::us)) (EP X pins σ Q) X.xe s
theorem Vals.one:∀{x:V} {us:List Value},Vals [x] us->∃u,us=[u]/\RelV x u
 |_,_,.cons r .nil=>⟨_,rfl,r⟩
section
variable{X:Cx}{pins:List (Addr×Obj)}{σ:St}{H:Hp}{s:Shared}{l b:Addr}{xs ys zs:List V}
theorem Inv.lset{its its':List Value}{n:Nat}{f:Array Value->Array Value}{t':Nat}(I:Inv X pins σ H s)(hH:H l=some (.lst xs))(e:s.heap.get? l=some { cls:=.type "list",data:=.seq its.toArray n })(hf:f its.toArray=its'.toArray)(hv:Vals ys its')(hz:ys.length<=sizeLine) :
  Inv X pins σ (upd H l (.lst ys)) { s with heap:=s.heap.update l (Obj.mapSeq f),toks:=t' }:=by
 have q:=PySem.IsL.update e f;rw[hf]at q;refine I.write (x:=l) (e:=l) (by rw[hH];exact trivial) (.inl rfl) (fun b' u hb hu=>(Zb s.heap (Obj.mapSeq f) (Zn hb)).trans hu) ⟨_,q⟩ ?_;exact⟨hz,its',_,hv,q⟩
theorem Inv.lnew{its:List Value}{t':Nat}(I:Inv X pins σ H s)(hv:Vals ys its)(hz:ys.length<=sizeLine) :
  Inv X pins σ (upd H s.heap.objs.size (.lst ys)) { s with heap:=s.heap.push { cls:=.type "list",data:=.seq its.toArray },toks:=t' } :=
 I.laid (fun _ _ q=>zc _ q) (ze _) ⟨hz,its,0,hv,zn _ rfl⟩
theorem Inv.fresh(I:Inv X pins σ H s):H s.heap.objs.size=none:=I.hok.fresh (ze _)
theorem Inv.lstM(I:Inv X pins σ H s)(hH:H l=some (.lst xs)):xs.length<=sizeLine/\∃(its:List Value) (n:Nat),Vals xs its/\xs.length=its.length/\s.heap.get? l=some { cls:=.type "list",data:=.seq its.toArray n }:=by obtain⟨z,its,n,r,e⟩:=I.hok l _ hH;exact⟨z,its,n,r,r.length,e⟩
end
section
variable{X:Cx}
def mP:V->List V->Hp->VK->Prop:=fun x vs H Q=>∃l xs y,x=.ref l/\vs=[y]/\H l=some (.lst xs)/\xs.length<sizeLine/\Q .non (upd H l (.lst (xs++[y])))
theorem qa:MtM X "list.append" mP:=by intro pins s σ H x vs v us Q I rx rv h;obtain⟨l,xs,y,rfl,rfl,hH,hz,q⟩:=h;cases rx;obtain⟨u,rfl,ru⟩:=rv.one;obtain⟨z,its,n,r,hl,e⟩:=I.lstM hH;refine call_meets F.slot_list_append ⟨_,e,rfl⟩ F.entry_list_append (F.args_list_append_2 _ _) (PySem.list_append l its.toArray n u (by rw[zh];omega)) ⟨e,?_⟩;refine⟨.non,_,I.lset (its':=its++[u]) hH e (by simp) (r.append (.cons ru .nil)) ?_,rfl,q⟩;rw[zr,Zw];omega
def vU:R2:=fun x y H Q=>∃l b xs zs,x=.ref l/\y=.ref b/\H l=some (.lst xs)/\H b=some (.lst zs)/\xs.length+zs.length<=sizeLine/\∀p,H p=none->Q (.ref p) (upd H p (.lst (xs++zs)))
theorem vn:OpR X (binaryOp .Add) vU:=by
 intro pins s σ H x y v u Q I rx ry h;obtain⟨l,b,xs,zs,rfl,rfl,hH,hB,hz,q⟩:=h;cases rx;cases ry;obtain⟨z,its,n,r,hl,e⟩:=I.lstM hH;obtain⟨z2,its2,n2,r2,hl2,e2⟩:=I.lstM hB;refine PySem.P.add_list e e2 ?_ (by rw[zh,zh];omega);have ea:its.toArray++its2.toArray=(its++its2).toArray:=by simp
 rw[ea];exact⟨.ref _,_,I.lnew (t':=s.toks) (r.append r2) (by rw[zr];omega),rfl,q _ I.fresh⟩
end
open PySem PySem.Spec PyProof.Rows
def qN:List (TE×TE)->St->Hp->(List (V×V)->Hp->Prop)->Prop
 | [],_,H,Q=>Q [] H
 |(tk,tv)::r,σ,H,Q=>tk σ H fun x H1=>tv σ H1 fun y H2=>qN r σ H2 fun ps H3=>Q ((x,y)::ps) H3
abbrev VV:List (V×V)->List (Value×Value)->Prop:=Paired fun p q=>RelV p.1 q.1/\RelV p.2 q.2
def PPs(X:Cx)(pos:Pos)(keys:List (Option Expr))(values:List Expr)(trs:List (TE×TE)):Prop :=
 ∀(pins:List (Addr×Obj)) (s:Shared) (σ:St) (H:Hp) (Q:List (V×V)->Hp->Prop),Inv X pins σ H s->qN trs σ H Q ->
  wpAny (model X.prog X.w) X.A (evalPairs (pairTrees keys values X.env pos)) (fun vs s'=>∃ps H',Inv X pins σ H' s'/\VV ps vs/\Q ps H') X.xe s
structure M1(X:Cx)(o:Expr)(m:Str)(apos:Pos)(e:Expr)(cpos:Pos):Prop where
 base:attributeBase o m X.env (eval o X.env)=eval o X.env
 few:((backTo cpos (starEach [e] X.env)).all (fun x=>!x.1)&&(backToKw cpos (keywordEach [] X.env)).all (fun x=>x.1.isSome)
 &&decide (([e]:List Expr).length+([]:List Keyword).length+(if ([]:List Keyword).isEmpty then 0 else 1)<30))=true
 line:(apos.endLine==cpos.line)=true
 trees:backTo cpos (starEach [e] X.env)=[(false,eval e X.env)]
structure M2(X:Cx)(o:Expr)(m:Str)(apos:Pos)(e f:Expr)(cpos:Pos):Prop where
 base:attributeBase o m X.env (eval o X.env)=eval o X.env
 few:((backTo cpos (starEach [e,f] X.env)).all (fun x=>!x.1)&&(backToKw cpos (keywordEach [] X.env)).all (fun x=>x.1.isSome)
 &&decide (([e,f]:List Expr).length+([]:List Keyword).length+(if ([]:List Keyword).isEmpty then 0 else 1)<30))=true
 line:(apos.endLine==cpos.line)=true
 trees:backTo cpos (starEach [e,f] X.env)=[(false,eval e X.env),(false,eval f X.env)]
end L2
namespace Att
open PySem PySem.W PySem.Calls PyProof.Rows
theorem iP{P:Params}{h:Heap}:∀(ns:List Int) (vs:List Value),WellAll P h vs (ns.map WData.int)->IntsAre vs ns:=by
 intro ns;induction ns with
 |nil =>intro vs w;rw[List.map_nil]at w;cases w;exact .nil
 |cons n ns ih =>
  intro vs w;rw[zS]at w;cases w with
  |cons a b =>cases a;exact .cons _ _ (ih _ b)
theorem qC{l:OpenLaw}{n:Nat}(hn:l.most=some n){P:Params}{h:Heap}{args:List WData}{vals:List Value}(hpre:l.row.toRowW.claim.pre args=true)(hwl:WellAll P h vals args) :
  ∃a vs ns,vals=[Value.ref a]/\args=[WData.list (ns.map WData.int)]/\h.get? a=some { cls:=.type "list",data:=.seq vs.toArray }/\IntsAre vs ns/\ns.length<=n:=by
 have hsh:WShape.hasAll [] args [.list .int]=true:=(pre_splitW hpre).1;have hc:l.pre.holds [] { args:=args }=true:=(pre_splitW hpre).2;obtain⟨d,r,rfl,h1,h2⟩:=hasAllW_cons hsh;obtain rfl:=hasAllW_nil h2;obtain⟨xs,rfl,h3⟩:=hasW_list h1;obtain⟨ns,rfl⟩:=items_int h3;have hlen:ns.length<=n:=by
  unfold OpenLaw.pre at hc;have h4:(WTm.not (.lt (.lit (.int (n:Int))) (.len (.arg 0)))).holds [] { args:=[.list (ns.map .int)] }=true:=by have h4:=(holds_andW hc).1;rw[hn]at h4;exact h4
  have h5:=condW_of h4 (w_not (w_lt w_lit (w_len_list (w_arg rfl))));rw[zb]at h5;refine Nat.le_of_not_lt fun q=>?_;have q':(n:Int)<((ns.length:Nat):Int):=by omega
  first
   |(rw[decide_eq_true q']at h5;exact absurd h5 (by decide))
   |(simp at h5;omega)
 cases hwl with
 |cons w1 w2 =>
  cases w2;cases w1 with
  |list ho hall=>exact⟨_,_,ns,rfl,rfl,ho,iP ns _ hall,hlen⟩
theorem qu(l:OpenLaw)(args:List WData):l.row.toRowW.claim.post args (.bool true) args=true :=
 postW_of (r:=l.row.toRowW) (X:=(true==true))
  (show WShape.has [] (.bool true) .bool=true by first|rfl|decide|simp[WShape.has,WShape.arms,WShape.armsAll])
  (show(WTm.eq .res (.lit (.bool true))).value [] { args:=args,res:=some (.bool true),after:=args }=some (.bool (true==true))from w_eq_bool (w_res rfl) w_lit) rfl
theorem attach_call{l:OpenLaw}{n:Nat}{q:Program}{loose:List Str}{XP:(Str->Option Value)->Heap->Prop}{YP:World->Heap->Prop}{d:DefRec}(hn:l.most=some n)(hdf:d.params.defaults=[])(call:∀ (w:World) (s₀ s₁:Shared) (mg mb:Str->Option Value) (fa:Addr) (o:Obj) (pm cd doc:Value) (a:Addr) (vs:List Value) (ns:List Int),
   Ground q loose [] XP w s₀ mg mb s₁.heap->YP w s₁.heap ->
   s₁.heap.get? fa=some o->o.data=.func (docDef d.name d.params d.body d.scope pm cd doc)->s₁.heap.CodeRec cd d.name->mg d.name=some (.ref fa) ->
   s₁.heap.get? a=some { cls:=.type "list",data:=.seq vs.toArray }->IntsAre vs ns->ns.length<=n->s₁.gens=#[] ->
   codeAny (model l.prog w) callerA (.call (.ref fa) ⟨[.ref a],[]⟩) (fun r s'=>r=.ok (.ret (.bool true))/\OldK s₁.heap s'.heap/\s'.os=s₁.os/\AllBare s'.gens) s₁) :
  WalkO q loose XP YP l.row.toRowW d [] (fun f vs=>PySem.call f vs):=by
 intro w s₀ s₁ mg mb G Y fa o pm cd doc dV kV ho hd hcd hD hmg hg args vals as hpre hlay hrd hwl hlo;obtain rfl:dV=.none:=Dflts.none hD hdf;obtain rfl:kV=.none:=Dflts.noKw hD;obtain⟨a,vs,ns,rfl,rfl,hobj,hints,hlen⟩:=qC hn hpre hwl;refine enter_call (codeAny_mono (call w s₀ s₁ mg mb fa o pm cd doc a vs ns G Y ho (fd_plain hd) hcd hmg hobj hints hlen hg) fun r s' hq=>?_);obtain⟨rfl,h2,h3,h4⟩:=hq;exact⟨.inl ⟨.bool true,.bool true,[],rfl,fun _=>rfl,.bool true,qu l _,fun _=>⟨List.Pairwise.nil,fun _ hm=>(nomatch hm)⟩⟩,h2,h3,h4⟩
end Att
namespace L2
open PySem PySem.Spec PyProof.Rows
theorem ke:∀{vs:List Value} {ns:List Int},IntsAre vs ns->Vals (ns.map V.int) vs
 |_,_,.nil=>.nil
 |_,_,.cons n t h=>.cons ⟨t,rfl⟩ (ke h)
def qV(H:Hp):Prop:=∀b,H b=none\/∃o xs,H b=some (.frz o (.lst xs))
theorem rC{P:Program}{w:World}{K:PySem.W.Frag}{mg mb:Str->Option Value}{CX:CXT}{k:Nat}{fa a:Addr}{fd:FuncData}{x:Str}{sp:Sp}{s₁:Shared}{vs:List Value}{ns:List Int}(KX:K.In s₁.heap)(hns:s₁.heap.Ns mainGlobals mg)(hb:s₁.heap.Ns builtinsNs mb)(hbb:∀x:Str,x≠"__name__"->mb x=bootBuiltins x)(hlim:s₁.heap.NoLimit)(hg:s₁.gens=#[])(ha:s₁.heap.get? a=some { cls:=.type "list",data:=.seq vs.toArray })(hi:IntsAre vs ns)(hl:ns.length<=sizeLine)(hr:Room k callerA)(F:∀base:Heap,K.In base->base.Ns mainGlobals mg->FnOk P w K mg base CX k fa fd [x] sp)(hbind:∀(s:Shared) (u:Value),BindsTo s fd ⟨[u],[]⟩ [(x,u)])(hsp:∀H:Hp,qV H->SqL K H a (ns.map V.int)->sp [.ref a] H (fun v _=>v=.bl true) fun _ _ _=>False)(hCX:∀H e s',CX [] H s₁ (fun _ _ _=>False) e s'->False) :
  codeAny (model P w) callerA (.call (.ref fa) ⟨[.ref a],[]⟩) (fun r s'=>r=.ok (.ret (.bool true))/\OldK s₁.heap s'.heap/\s'.os=s₁.os/\AllBare s'.gens) s₁:=by
 have rv:=ke hi;have lenV:=hi.length;have core:∀H:Hp,qV H->SqL K H a (ns.map V.int)->HOk P w H s₁.heap->(∀b,H b≠none->b=a)->(H a≠none->K.lookup a=none) ->
   codeAny (model P w) callerA (.call (.ref fa) ⟨[.ref a],[]⟩) (fun r s'=>r=.ok (.ret (.bool true))/\OldK s₁.heap s'.heap/\s'.os=s₁.os/\AllBare s'.gens) s₁:=by
  intro H hO hS hok hA hK;have base_of:∀{b:Addr} {o:Obj},s₁.heap.get? b=some o->H b=none->(fu s₁.heap H).get? b=some o:=fun e n=>rz e n;have noA:∀{b:Addr} {o:Obj} {es:Array DictEntry} {ep:Nat},s₁.heap.get? b=some o->o.data=.dict es ep->H b=none:=fun{b o es ep} e d=>by
   cases q:H b with
   |none=>rfl
   |some u =>have e':b=a:=hA b (by rw[q];simp);subst e';rw[ha]at e;cases e;have d':Data.seq vs.toArray _=Data.dict es ep:=d;cases d'
  have nsK:∀{b:Addr} {m:Str->Option Value},s₁.heap.Ns b m->(fu s₁.heap H).Ns b m:=fun{b m} ⟨o,es,ep,e,d,r⟩=>⟨o,es,ep,base_of e (noA e d),d,r⟩
  have hKb:K.In (fu s₁.heap H):=fun b o e=>base_of (KX b o e) (by
   cases q:H b with
   |none=>rfl
   |some u =>
    have e':b=a:=hA b (by rw[q];simp);subst e';rw[hK (by rw[q];simp)]at e;cases e)
  have hM:Mod K mg (fu s₁.heap H):=⟨hKb,nsK hns,⟨mb,nsK hb,hbb⟩,let⟨mc,h1,h2⟩:=hlim;⟨mc,nsK h1,h2⟩⟩
  have e0:Env0 P w K mg (fu s₁.heap H) callerA [] s₁ H:=⟨rfl,hM,fun b o e=>tL e,Nat.le_of_eq (pS _ _),trivial,fun b hb=>absurd (show b∈([]:List Addr)from hb) (by simp),hok,.of_eq hg⟩
  refine codeAny_mono ((F _ hKb (nsK hns)).run callerA [] s₁ H ⟨[.ref a],[]⟩ [.ref a] [.ref a] _ _ hr e0 (hbind s₁ (.ref a)) (.cons rfl .nil) (hsp H hO hS)) fun r s' h=>?_;cases r with
  |error e=>exact(hCX H e s' h).elim
  |ok fl =>
   cases fl with
   |next=>exact False.elim h
   |brk=>exact False.elim h
   |cont=>exact False.elim h
   |ret u =>
    obtain⟨v,H',os,bare,un,hok',r',q⟩:=h;have q':v=.bl true:=q;subst q';obtain rfl:u=Value.bool true:=r';refine⟨rfl,OldK.of_keep fun b o e=>?_,os,bare⟩;cases q:H b with
    |none=>exact un.keep b o e q (by intro z;exact absurd (show b∈([]:List Addr)from z) (by simp)) (by simp)
    |some u =>
     rcases hO b with z|⟨ob,xs,z⟩
     ·rw[q]at z;cases z
     ·have z2:=un.frzs b ob _ z;obtain⟨e1,_⟩:=hok b _ z;obtain⟨e2,_⟩:=hok' b _ z2;rw[e]at e1;cases e1;exact e2
 cases hk:K.lookup a with
 |some o =>have e:=KX a o hk;rw[ha]at e;cases e;refine core (fun _=>none) (fun _=>.inl rfl) (.inr ⟨_,vs.toArray,_,hk,rfl,rfl,rfl,by rw[zh,lenV];exact hl,by simpa using rv⟩) (fun b u z=>by have z':(none:Option HO)=some u:=z;cases z') (fun b z=>absurd rfl z) fun z=>absurd rfl z
 |none =>
  refine core (fun b=>if b=a then some (.frz { cls:=.type "list",data:=.seq vs.toArray } (.lst (ns.map V.int)))else none) (fun b=>?_) (.inl (.inr ⟨{ cls:=.type "list",data:=.seq vs.toArray },if_pos rfl⟩)) (fun b u z=>?_) (fun b z=>?_) fun _=>hk
  ·by_cases hb:b=a
   ·exact .inr ⟨_,_,if_pos hb⟩
   ·exact .inl (if_neg hb)
  ·by_cases hb:b=a
   ·have z':=(if_pos hb).symm.trans z;cases z';subst hb;exact⟨ha,by rw[zb];exact hl,vs,_,rv,ha⟩
   ·have z':=(if_neg hb).symm.trans z;cases z'
  ·by_cases hb:b=a
   ·exact hb
   ·exact absurd (if_neg hb) z
open PySem PySem.Spec PyProof.Rows
theorem uu{l:PySem.W.OpenLaw}{n k:Nat}{q:Program}{loose:List Str}{XP:(Str->Option Value)->Heap->Prop}{YP:World->Heap->Prop}{d:DefRec}{K:Params->PySem.W.Frag}{CX:World->CXT}{sp:World->Sp}{x:Str}(hn:l.most=some n)(hn2:n<=sizeLine)(hdf:d.params.defaults=[])(hr:Room k callerA)(hY:∀ (w:World) (h:Heap),YP w h->(K w.params).In h)(F:∀ (w:World) (mg:Str->Option Value) (fa:Addr) (h:Heap),(K w.params).In h->h.Ns mainGlobals mg->mg d.name=some (.ref fa) ->
   ∃fd:FuncData,(∀(s:Shared) (u:Value),BindsTo s fd ⟨[u],[]⟩ [(x,u)]) /\
    ∀ base:Heap,(K w.params).In base->base.Ns mainGlobals mg->FnOk l.prog w (K w.params) mg base (CX w) k fa fd [x] (sp w))(hsp:∀ (w:World) (H:Hp) (a:Addr) (ns:List Int),ns.length<=n->qV H->SqL (K w.params) H a (ns.map V.int)->sp w [.ref a] H (fun v _=>v=.bl true) fun _ _ _=>False)(hCX:∀ (w:World) (H:Hp) (s:Shared) (e:Value) (s':Shared),CX w [] H s (fun _ _ _=>False) e s'->False) :
  PySem.W.WalkO q loose XP YP l.row.toRowW d [] (fun f vs=>PySem.call f vs):=by
 refine Att.attach_call hn hdf fun w s₀ s₁ mg mb fa o pm cd doc a vs ns G Y ho hd hcd hmg hobj hints hlen hg=>?_;have KX:=hY w _ Y;obtain⟨fd,hb,hF⟩:=F w mg fa _ KX G.T.g hmg;exact rC KX G.T.g G.T.b G.T.builtins G.T.nolimit hg hobj hints (zq hlen hn2) hr hF hb (fun H hO hS=>hsp w H a ns hlen hO hS) fun H e s'=>hCX w H s₁ e s'
open PySem PySem.Spec PyProof.Rows
def cF(s:Stmt):Arguments:=match s with
 |.FunctionDef _ a _ _ _ _ _ _ _ _=>a
 |_=>{ posonlyargs:=[],args:=[],vararg:=none,kwonlyargs:=[],kw_defaults:=[],kwarg:=none,defaults:=[] }
def bC(s:Stmt):List Stmt:=match s with
 |.FunctionDef _ _ b _ _ _ _ _ _ _=>b
 |_=>[]
def ak(s:Stmt):Scope:=match s with
 |.FunctionDef _ _ _ _ _ _ sc _ _ _=>sc
 |_=>{ kind:=.function,names:=[],isGenerator:=false,isCoroutine:=false }
abbrev CX0:CXT:=fun _ _ _ _ _ _=>False
abbrev E0:XK:=fun _ _ _=>False
theorem xb{X:Cx}:fS CX0 X E0:=fun _ _ _ _ _ _ _ h=>h.elim
structure Fun(K:PySem.W.Frag)(x qual:Str)(st:Stmt)(f:Addr)(fd:FuncData):Prop where
 ex:∃(oc:Value) (od:Option Addr) (kV doc pm:Value) (an:Option Addr) (cdv ct:Value) (osl:Array (Option Value)),
  fd=PySem.W.fnOf x qual (cF st) (bC st) (ak st) .none kV doc pm an cdv ct/\K.lookup f=some ⟨oc,od,.func fd,osl⟩/\PySem.W.codeIn K cdv qual=true
 kp:PySem.W.keepIn K (.ref f)=true
section
variable{P:Program}{w:World}{K:PySem.W.Frag}{mg:Str->Option Value}{base:Heap}
theorem Fun.ok{x qual:Str}{st:Stmt}{f:Addr}{fd:FuncData}{N ps:List Str}{k:Nat}{sp:Sp}(F:Fun K x qual st f fd)(S:FnScope N ps (ak st))(len:∀ vs H Q E,sp vs H Q E->vs.length=ps.length)(hbody:∀ (cdv:Value) (A:Around) (outer:List Env) (s:Shared) (H:Hp) (vs:List V) (Q:VK) (E:XK),Room k (A.deeper (envOfC qual (ak st) s.heap.objs.size f cdv))->sp vs H Q E ->
   ∃ t,PSs (cU CX0 P w K mg base N qual (ak st) f cdv A outer s H E).nox (bC st) t/\t { nx:=fun _ H'=>Q .non H',rt:=Q } (cR N vs) H):FnOk P w K mg base CX0 (k+1) f fd ps sp:=by
 obtain⟨oc,od,kV,doc,pm,an,cdv,ct,osl,rfl,lk,hcd⟩:=F.ex;refine sE lk hcd S len fun A outer s H vs Q E hr hsp=>?_;obtain⟨t,h,q⟩:=hbody cdv A outer s H vs Q E hr hsp;exact⟨t,h.nox,q⟩
theorem Fun.binds{x qual:Str}{st:Stmt}{f:Addr}{fd:FuncData}{ps:List Str}(F:Fun K x qual st f fd)(h:∀(kV doc pm:Value) (an:Option Addr) (cdv ct:Value) (us:List Value),us.length=ps.length->bindArgs (PySem.W.fnOf x qual (cF st) (bC st) (ak st) .none kV doc pm an cdv ct) ⟨us,[]⟩=pure (ps.zip us)):Binds K fd ps []:=by obtain⟨oc,od,kV,doc,pm,an,cdv,ct,osl,rfl,lk,hcd⟩:=F.ex;exact .all (h kV doc pm an cdv ct)
theorem uN{x qual:Str}{st:Stmt}{f:Addr}{oc:Value}{od an:Option Addr}{osl:Array (Option Value)}{kV doc pm cdv ct:Value}(l:K.lookup f=some ⟨oc,od,.func (PySem.W.fnOf x qual (cF st) (bC st) (ak st) .none kV doc pm an cdv ct),osl⟩)(c:PySem.W.codeIn K cdv qual=true)(k:PySem.W.keepIn K (.ref f)=true):Fun K x qual st f (PySem.W.fnOf x qual (cF st) (bC st) (ak st) .none kV doc pm an cdv ct):=⟨⟨oc,od,kV,doc,pm,an,cdv,ct,osl,rfl,l,c⟩,k⟩
end
theorem cJ{n:Nat}(h:n<=1000):n<sizeLine:=Nat.lt_of_le_of_lt h (by decide)
theorem ar{A B:Prop}(h:B):if false=true then A else B:=by rw[if_neg zo];exact h
theorem aB{A B:Prop}(h:A):if true=true then A else B:=by rw[if_pos rfl];exact h
theorem eE{c A B:Prop}[Decidable c](h1:c->A)(h2:¬c->B):if c then A else B:=by
 by_cases h:c
 ·rw[if_pos h];exact h1 h
 ·rw[if_neg h];exact h2 h
theorem gQ{c A B:Prop}[Decidable c](hc:c)(h:B):if(!decide c)=true then A else B:=by rw[decide_eq_true hc];exact ar h
def Same(H H':Hp):Prop:=∀b o,H b=some o->H' b=some o
theorem Same.refl(H:Hp):Same H H:=fun _ _ h=>h
theorem Same.trans{H H1 H2:Hp}(a:Same H H1)(b:Same H1 H2):Same H H2:=fun c o h=>b c o (a c o h)
theorem Same.free{H H':Hp}(e:Same H H'){l:Addr}(h:H' l=Option.none):H l=Option.none:=by
 cases q:H l with
 |none=>rfl
 |some o =>rw[e l o q]at h;cases h
theorem Same.seq{K:PySem.W.Frag}{H H':Hp}{a:Addr}{xs:List V}(e:Same H H')(h:SqL K H a xs):SqL K H' a xs:=by
 rcases h with(h|⟨o,h⟩)|h
 ·exact .inl (.inl (e _ _ h))
 ·exact .inl (.inr ⟨o,e _ _ h⟩)
 ·exact .inr h
open PySem PySem.Spec PyProof.Rows
open PySem PySem.Spec PyProof.Rows
theorem eR{env:Env}:∀{names:List (Str×NameKind)} {x:Str} {k:NameKind},
  (names.map fun(n,k)=>if(k==NameKind.free&&env.scope.kind == .function&&env.kindOf n==some .cell)then(n,NameKind.cell)else(n,k)).lookup x=some k ->
  ∃k',names.lookup x=some k'/\(k=k'\/(k'=.free/\k=.cell))
 | [],_,_,h=>by simp at h
 |(n,k0)::r,x,k,h=>by
  have ih:=@eR env r x k;rw[zS]at h;by_cases hc:(k0==NameKind.free&&env.scope.kind == .function&&env.kindOf n==some .cell)=true
  ·have e:(if(k0==NameKind.free&&env.scope.kind == .function&&env.kindOf n==some .cell)=true then(n,NameKind.cell)else(n,k0))=(n,NameKind.cell):=if_pos hc;simp only[e]at h;cases hx:x==n with
   |true =>
    simp only[zK,hx]at h ⊢;have hf:k0=.free:=by have:=hc;simp only[zA,beq_iff_eq]at this;exact this.1.1
    exact⟨k0,rfl,.inr ⟨hf,(zp h).symm⟩⟩
   |false =>simp only[zK,hx]at h ⊢;exact ih h
  ·have e:(if(k0==NameKind.free&&env.scope.kind == .function&&env.kindOf n==some .cell)=true then(n,NameKind.cell)else(n,k0))=(n,k0):=if_neg hc;simp only[e]at h;cases hx:x==n with
   |true =>simp only[zK,hx]at h ⊢;exact⟨k0,rfl,.inl (zp h).symm⟩
   |false =>simp only[zK,hx]at h ⊢;exact ih h
theorem gj{env:Env}:∀{names:List (Str×NameKind)} {x:Str},names.lookup x=some .free ->
  (names.map fun(n,k)=>if(k==NameKind.free&&env.scope.kind == .function&&env.kindOf n==some .cell)then(n,NameKind.cell)else(n,k)).lookup x=some .cell \/
  (names.map fun(n,k)=>if(k==NameKind.free&&env.scope.kind == .function&&env.kindOf n==some .cell)then(n,NameKind.cell)else(n,k)).lookup x=some .free
 | [],_,h=>by simp at h
 |(n,k0)::r,x,h=>by
  have ih:=@gj env r x;rw[zS];by_cases hc:(k0==NameKind.free&&env.scope.kind == .function&&env.kindOf n==some .cell)=true
  ·have e:(if(k0==NameKind.free&&env.scope.kind == .function&&env.kindOf n==some .cell)=true then(n,NameKind.cell)else(n,k0))=(n,NameKind.cell):=if_pos hc;simp only[e];cases hx:x==n with
   |true =>
    simp only[zK,hx]at h ⊢
    first|exact .inl rfl|exact .inl trivial
   |false =>simp only[zK,hx]at h ⊢;exact ih h
  ·have e:(if(k0==NameKind.free&&env.scope.kind == .function&&env.kindOf n==some .cell)=true then(n,NameKind.cell)else(n,k0))=(n,k0):=if_neg hc;simp only[e];cases hx:x==n with
   |true =>simp only[zK,hx]at h ⊢;exact .inr h
   |false =>simp only[zK,hx]at h ⊢;exact ih h
def bp(env:Env):List (Str×NameKind)->List (Str×Addr)->List (Str×Addr)
 | [],acc=>acc
 |y::r,acc=>if(y.2==NameKind.free)=true then bp env r ((y.1,(env.cells.lookup y.1).getD 0)::acc)else bp env r acc
theorem jt{env:Env}:∀{names:List (Str×NameKind)} {acc:List (Str×Addr)},(∀y∈names,y.2=.free->∃c,env.cells.lookup y.1=some c) ->
  (forIn names acc fun(x:Str×NameKind) (cs:List (Str×Addr))=>if(x.2==NameKind.free)=true then do let c ←cellOf env x.1;pure (ForInStep.yield ((x.1,c)::cs))else pure (ForInStep.yield cs):Sem (List (Str×Addr)))=pure (bp env names acc)
 | [],_,_=>rfl
 |y::r,acc,h=>by
  rw[List.forIn_cons];by_cases hy:(y.2==NameKind.free)=true
  ·obtain⟨c,hc⟩:=h y zU (by simpa using hy);have e:cellOf env y.1=pure c:=by unfold cellOf;rw[hc]
   rw[if_pos hy,e,pure_bind,pure_bind];show(forIn r ((y.1,c)::acc) _:Sem (List (Str×Addr)))=_;rw[jt fun z hz=>h z (zG _ hz)];show _=pure (if(y.2==NameKind.free)=true then bp env r ((y.1,(env.cells.lookup y.1).getD 0)::acc)else bp env r acc);rw[if_pos hy,hc];rfl
  ·rw[if_neg hy,pure_bind];show(forIn r acc _:Sem (List (Str×Addr)))=_;rw[jt fun z hz=>h z (zG _ hz)];show _=pure (if(y.2==NameKind.free)=true then bp env r ((y.1,(env.cells.lookup y.1).getD 0)::acc)else bp env r acc);rw[if_neg hy]
theorem tD{scope:Scope}{env:Env}(h:∀y∈scope.names,y.2=.free->∃c,env.cells.lookup y.1=some c):closureFor scope env=pure (bp env scope.names []):=by have q:=jt (env:=env) (names:=scope.names) (acc:=[]) h;unfold closureFor;exact(by first|(simp only[bind_pure];exact q)|(rw[bind_pure];exact q)|exact q)
theorem ju{env:Env}:∀{names:List (Str×NameKind)} {acc:List (Str×Addr)},(∀y∈names,y.2=.free->∃c,env.cells.lookup y.1=some c)->(∀x c,acc.lookup x=some c->env.cells.lookup x=some c) ->
  ∀x c,(bp env names acc).lookup x=some c->env.cells.lookup x=some c
 | [],_,_,ha=>ha
 |y::r,acc,h,ha=>by
  have hr:∀z∈r,z.2=.free->∃c,env.cells.lookup z.1=some c:=fun z hz=>h z (zG _ hz);intro x c e;unfold bp at e;by_cases hy:(y.2==NameKind.free)=true
  ·rw[if_pos hy]at e;refine ju hr (fun x' c' e'=>?_) x c e;obtain⟨d,hd⟩:=h y zU (by simpa using hy);rw[hd,Option.getD_some]at e';cases hx:x'==y.1 with
   |true =>simp only[zK,hx]at e';have e1:x'=y.1:=eq_of_beq hx;rw[e1,hd];exact e'
   |false =>simp only[zK,hx]at e';exact ha x' c' e'
  ·rw[if_neg hy]at e;exact ju hr ha x c e
theorem ic{env:Env}:∀{names:List (Str×NameKind)} {acc:List (Str×Addr)} {x:Str},(∃c,acc.lookup x=some c)->∃c,(bp env names acc).lookup x=some c
 | [],_,_,h=>h
 |y::r,acc,x,h=>by
  unfold bp;by_cases hy:(y.2==NameKind.free)=true
  ·rw[if_pos hy];refine ic ?_;cases hx:x==y.1 with
   |true=>exact⟨(env.cells.lookup y.1).getD 0,by simp only[zK,hx]⟩
   |false =>obtain⟨c,e⟩:=h;exact⟨c,by simp only[zK,hx];exact e⟩
  ·rw[if_neg hy];exact ic h
theorem jr{env:Env}:∀{names:List (Str×NameKind)} {acc:List (Str×Addr)} {x:Str},names.lookup x=some .free->∃c,(bp env names acc).lookup x=some c
 | [],_,_,h=>by simp at h
 |(n,k)::r,acc,x,h=>by
  unfold bp;cases hx:x==n with
  |true =>
   simp only[zK,hx]at h;have hy:(k==NameKind.free)=true:=by rw[zp h];rfl
   rw[if_pos hy];exact ic ⟨(env.cells.lookup n).getD 0,by simp only[zK,hx]⟩
  |false =>
   simp only[zK,hx]at h;by_cases hy:(k==NameKind.free)=true
   ·rw[if_pos hy];exact jr h
   ·rw[if_neg hy];exact jr h
abbrev aK(X:Cx)(scope:Scope)(N':List Str)(C:Addr)(s0:Shared)(H0:Hp)(ex:List Addr):Cx where
 prog:=X.prog
 w:=X.w
 K:=X.K
 mg:=X.mg
 base:=X.base
 A:=X.A
 N:=N'
 s₀:=s0
 H₀:=H0
 env:=compEnvC scope (bp X.env scope.names []) C X.env
 outer:=X.stack
 stack:=X.stack
 ex:=ex
 fn:=fun _=>false
 calm:=X.calm
 pn:=[]
 xe:=fun _ _=>False
def CapOk(X:Cx)(sc:Scope):List Nat->List Str->Prop
 | [],[]=>True
 |j::js,x::xs=>X.N[j]?=some x/\sc.names.lookup x=some .free/\CapOk X sc js xs
 |_,_=>False
theorem CapOk.get{X:Cx}{sc:Scope}:∀{js:List Nat} {xs:List Str} {i:Nat} {x:Str},CapOk X sc js xs->xs[i]?=some x ->
  ∃j,js[i]?=some j/\X.N[j]?=some x/\sc.names.lookup x=some .free
 | [],[],_,_,_,e=>by simp at e
 |j::js,y::xs,0,x,h,e=>by
  obtain⟨h1,h2,_⟩:=h;have e':y=x:=by simpa using e
  subst e';exact⟨j,rfl,h1,h2⟩
 |j::js,y::xs,i+1,x,h,e=>by obtain⟨_,_,h6⟩:=h;obtain⟨j',q⟩:=CapOk.get (i:=i) (x:=x) h6 (by simpa using e);exact⟨j',by simpa using q.1,q.2⟩
 | [],_::_,_,_,h,_=>h.elim
 |_::_,[],_,_,h,_=>h.elim
theorem CapOk.len{X:Cx}{sc:Scope}:∀{js:List Nat} {xs:List Str},CapOk X sc js xs->js.length=xs.length
 | [],[],_=>rfl
 |j::js,y::xs,h=>by obtain⟨_,_,h6⟩:=h;simp[CapOk.len h6]
 | [],_::_,h=>h.elim
 |_::_,[],h=>h.elim
structure CompOk(X:Cx)(scope:Scope)(cap:List Nat)(capN:List Str):Prop where
 kind:scope.kind=.function
 names:∀x∈scope.names,x.2=.local->scope.names.lookup x.1=some .local
 nocell:∀y∈scope.names,y.2≠.cell
 frees:(scope.names.all fun y=>!(y.2==NameKind.free) ||(X.env.kindOf y.1==some .cell ||X.env.kindOf y.1==some .free))=true
 cap:CapOk X scope cap capN
section
variable{X:Cx}{scope:Scope}{cap:List Nat}{capN:List Str}
theorem CompOk.around(O:CompOk X scope cap capN){y:Str×NameKind}(hy:y∈scope.names)(hf:y.2=.free):X.env.kindOf y.1=some .cell\/X.env.kindOf y.1=some .free:=by have q:=zH.mp O.frees y hy;rw[hf]at q;simpa using q
theorem CompOk.cells(O:CompOk X scope cap capN)(ok:X.Ok):∀y∈scope.names,y.2=.free->∃c,X.env.cells.lookup y.1=some c:=fun y hy hf=>ok.has _ (O.around hy hf)
theorem CompOk.clos(O:CompOk X scope cap capN)(ok:X.Ok):closureFor scope X.env=pure (bp X.env scope.names []):=tD (O.cells ok)
theorem CompOk.sub(O:CompOk X scope cap capN)(ok:X.Ok):∀x c,(bp X.env scope.names []).lookup x=some c->X.env.cells.lookup x=some c:=ju (O.cells ok) fun x c e=>by simp at e
theorem CompOk.has(_O:CompOk X scope cap capN){x:Str}(h:scope.names.lookup x=some .free):∃c,(bp X.env scope.names []).lookup x=some c:=jr h
end
def bn(n:Nat)(cap:List Nat)(σ:St):St:=List.replicate n none++cap.map (fun j=>(σ[j]?).join)
theorem nM{n:Nat}{cap:List Nat}{σ:St}:(bn n cap σ).length=n+cap.length:=by unfold bn;rw[zr,List.length_replicate,zb]
theorem iJ{n:Nat}{cap:List Nat}{σ:St}{i:Nat}{v:V}(h:(bn n cap σ)[i]?=some (some v)):n<=i/\∃j,cap[i-n]?=some j/\σ[j]?=some (some v):=by
 unfold bn at h;by_cases hi:i<n
 ·rw[z0 (by simpa using hi),List.getElem?_replicate]at h;rw[if_pos hi]at h;cases h
 ·have hi':n<=i:=Nat.le_of_not_lt hi;rw[zY (by simpa using hi'),List.length_replicate,zE]at h;refine⟨hi',?_⟩;cases e:cap[i-n]? with
  |none=>rw[e]at h;cases h
  |some j =>
   rw[e]at h;refine⟨j,rfl,?_⟩;have h':(σ[j]?).join=some v:=by simpa using h
   cases q:σ[j]? with
   |none=>rw[q]at h';cases h'
   |some o =>rw[q]at h';have:o=some v:=h';rw[this]
section
variable{X:Cx}{pins:List (Addr×Obj)}{σ:St}{H:Hp}{s:Shared}{scope:Scope}{cap:List Nat}{capN N':List Str}{C:Addr}{ex:List Addr}
theorem pH(I:Inv X pins σ H s)(O:CompOk X scope cap capN)(hC:s.heap.objs.size<=C)(hex:∀b∈ex,bB X pins H b/\b<s.heap.objs.size):(aK X scope N' C s H ex).Ok where
 mod:=I.ok.mod
 kind:=O.kind
 glob:=I.ok.glob
 blt:=I.ok.blt
 above:=hC
 inj:=fun x y c h1 h2=>I.ok.inj x y c (O.sub I.ok x c h1) (O.sub I.ok y c h2)
 has:=fun x hx=>by
  have hx':(relabel scope X.env).names.lookup x=some .cell\/(relabel scope X.env).names.lookup x=some .free:=hx;have key:∀k,(relabel scope X.env).names.lookup x=some k->(k=.cell\/k=.free)->scope.names.lookup x=some .free:=fun k e hk=>by
   obtain⟨k',e',q⟩:=eR (env:=X.env) e;rcases q with q|⟨q,_⟩
   ·subst q;rcases hk with z|z
    ·subst z;exact absurd rfl (O.nocell _ (Zk e'))
    ·subst z;exact e'
   ·subst q;exact e'
  rcases hx' with e|e
  ·exact O.has (key _ e (.inl rfl))
  ·exact O.has (key _ e (.inr rfl))
 cab:=fun x c h _=>by cases h
 hd:=I.ok.hd
 frames:=I.ok.frames
 stk:=.inl rfl
 exf:=fun b hb=>by obtain⟨⟨f0,f1,f2,f3,f4,f5⟩,lt⟩:=hex b hb;exact⟨zJ (zl lt hC),fun x c e=>f4 x c (O.sub I.ok x c e)⟩
 bs:=I.bs
 bsz:=zq I.ok.bsz I.sz
 noex:=fun b o e hb=>by
  obtain⟨⟨f0,f1,f2,f3,f4,f5⟩,lt⟩:=hex b hb;rcases f3 with z|z
  ·exact I.ok.noex b o e z
  ·exact absurd (zl (zk e) (zq I.ok.bsz z)) (Zx _)
 exfs:=fun b hb z=>by
  obtain⟨⟨f0,f1,f2,f3,f4,f5⟩,lt⟩:=hex b hb;rcases zw.mp (I.stkSub b z)with e|e
  ·exact f1 e
  ·exact f2 e
 funs:=I.stack
 frf:=I.stkFree
theorem qh(I:Inv X pins σ H s){b:Addr}(hb:s.heap.objs.size<=b):b∉frs X.stack:=fun z=>by
 rcases zw.mp (I.stkSub b z)with e|e
 ·exact absurd (zl I.lt hb) (by rw[e];exact Zx _)
 ·exact I.nofs hb e
theorem rE(I:Inv X pins σ H s){b:Addr}(hb:s.heap.objs.size<=b):∀x c,X.env.cells.lookup x=some c->c≠b:=fun x c e z=>by obtain⟨v,q⟩:=I.cell x c e;exact absurd (zl q.lt (by rw[z];exact hb)) (Zx _)
theorem nN{n:Nat}{h1:Heap}{m1:Str->Option Value}{tk:Nat}(I:Inv X pins σ H s)(O:CompOk X scope cap capN)(hN:N'.length=n+capN.length)(hN2:∀i x,n<=i->N'[i]?=some x->capN[i-n]?=some x)(hC:s.heap.objs.size<=C)(hex:∀b∈ex,bB X pins H b/\b<s.heap.objs.size)(hk:∀b o,s.heap.get? b=some o->h1.get? b=some o)(hn:h1.Ns C m1):Inv (aK X scope N' C s H ex) [] (bn n cap σ) H { s with heap:=h1,toks:=tk }:=by
 refine⟨pH I O hC hex,rfl,I.bare,Un.kept hk,⟨m1,hn,fun i x v e1 e2 e3=>?_⟩,fun x c e=>?_,I.hok.fresh hC,fun x c e=>I.freeC x c (O.sub I.ok x c e),fun p hp=>absurd (show p∈([]:List (Addr×Obj))from hp) (by simp),I.hok.kept hk,?_⟩
 ·obtain⟨hi,j,ej,es⟩:=iJ e2;obtain⟨j',q1,q2,qf⟩:=O.cap.get (hN2 i x hi e1);have q3:=O.around (Zk qf) rfl;have q4:=gj (env:=X.env) qf;obtain⟨c,q5⟩:=O.has qf;have q6:=O.sub I.ok x c q5;rw[q1]at ej;cases ej;obtain⟨m0,hn0,hl0⟩:=I.loc;obtain⟨u,r,l⟩:=hl0 _ x v q2 es (by
   rcases q3 with z|z
   ·exact .inr (.inl z)
   ·exact .inr (.inr z))
  refine⟨u,r,.inr ⟨q4,c,q5,?_⟩⟩;rcases l with⟨k,_⟩|⟨_,c',e',z⟩
  ·rcases q3 with z|z
   ·have z':X.env.kindOf x=some .cell:=z;rw[z']at k;cases k
   ·have z':X.env.kindOf x=some .free:=z;rw[z']at k;cases k
  ·rw[q6]at e';cases e';obtain⟨o,ho,hd⟩:=z;exact⟨o,hk _ _ ho,hd⟩
 ·obtain⟨v,o,ho,hd⟩:=I.cell x c (O.sub I.ok x c e);exact⟨v,o,hk _ _ ho,hd⟩
 ·rw[nM,O.cap.len];exact hN.symm
end
def kJ(X:Cx)(ifs:List Expr)(t:TT):Prop :=
 ∀(pins:List (Addr×Obj)) (s:Shared) (σ:St) (H:Hp) (Q:Bool->Hp->Prop),Inv X pins σ H s->t σ H Q ->
  wpAny (model X.prog X.w) X.A (forIn ifs true fun c r=>if r=true then do let ok ←isTrue c X.env (eval c X.env);pure (ForInStep.yield ok)else pure (ForInStep.yield r)) (TP X pins σ Q) X.xe s
def cS:TT:=fun _ H Q=>Q true H
theorem rR{X:Cx}:kJ X [] cS:=fun _ _ _ H _ I h=>wpAny_tests_nil ⟨H,I,h⟩
def GK(n:Nat)(g:TG):Prop:=∀x σ H Q,g x σ H Q->g x σ H (fun σ2 H2=>(σ2.length=σ.length/\∀i,n<=i->σ2[i]?=σ[i]?)/\Q σ2 H2)
theorem aT{n i:Nat}(hi:i<n):GK n (bA i):=fun x σ H Q h=>⟨⟨List.length_set,fun j hj=>List.getElem?_set_ne (by omega)⟩,h⟩
def GKs(n:Nat)(g:TGs):Prop:=∀xs σ H Q,g xs σ H Q->g xs σ H (fun σ2 H2=>(σ2.length=σ.length/\∀i,n<=i->σ2[i]?=σ[i]?)/\Q σ2 H2)
theorem mG{n:Nat}:GKs n jx:=fun xs σ H Q h=>⟨h.1,⟨rfl,fun _ _=>rfl⟩,h.2⟩
def GM(g:TG):Prop:=∀x σ H Q Q',(∀σ2 H2,Q σ2 H2->Q' σ2 H2)->g x σ H Q->g x σ H Q'
def GMs(g:TGs):Prop:=∀xs σ H Q Q',(∀σ2 H2,Q σ2 H2->Q' σ2 H2)->g xs σ H Q->g xs σ H Q'
theorem dD{i:Nat}:GM (bA i):=fun _ _ _ _ _ f h=>f _ _ h
theorem gP:GMs jx:=fun _ _ _ _ _ f h=>⟨h.1,f _ _ h.2⟩
theorem kY{t:TG}{u:TGs}(a:GM t)(b:GMs u):GMs (dY t u):=fun xs σ H Q Q' f h=>by obtain⟨v,r,e,h⟩:=h;exact⟨v,r,e,a _ _ _ _ _ (fun σ2 H2 z=>b _ _ _ _ _ f z) h⟩
theorem ft{n:Nat}{t:TG}{u:TGs}(a:GK n t)(m:GM t)(b:GKs n u)(mb:GMs u):GKs n (dY t u):=fun xs σ H Q h=>by obtain⟨v,r,e,h⟩:=h;refine⟨v,r,e,m _ _ _ _ _ (fun σ2 H2 z=>?_) (a _ _ _ _ h)⟩;obtain⟨⟨l1,k1⟩,z⟩:=z;refine mb _ _ _ _ _ (fun σ3 H3 w=>?_) (b _ _ _ _ z);obtain⟨⟨l2,k2⟩,w⟩:=w;exact⟨⟨l2.trans l1,fun i hi=>(k2 i hi).trans (k1 i hi)⟩,w⟩
theorem pR{n m:Nat}{K:PySem.W.Frag}{t:TGs}(a:GKs n t):GK n (jy K m t):=fun x σ H Q h=>by obtain⟨b,xs,e,h1,h2,h3⟩:=h;exact⟨b,xs,e,h1,h2,a _ _ _ _ h3⟩
def cq(n:Nat)(cap:List Nat)(g:TG)(tc:TT)(te:TE)(σ:St)(J:It)(H1:Hp)(Q:VK):Prop :=
 ∃W:Nat->Nat->List V->Hp->Prop,(∃m,W 0 m [] H1)/\∀i m ys H,W i m ys H ->
  (J.stop i H/\∀p,H p=none->Q (.ref p) (upd H p (.lst ys))) \/
  (J.go i H/\ys.length<sizeLine/\∀ x H',J.yld i H x H'->g x (bn n cap σ) H' fun σ2 H2=>tc σ2 H2 fun b H3 =>
   if b=true then te σ2 H3 fun y H4=>∃ m',m'<m/\W (i+1) m' (ys++[y]) H4 else ∃ m',m'<m/\W (i+1) m' ys H3)
def kz(n:Nat)(cap:List Nat)(wi:TI)(g:TG)(tc:TT)(te:TE):TE:=fun σ H Q=>wi σ H fun J H1=>cq n cap g tc te σ J H1 Q
theorem fj{prog:Program}{w:World}{A:Around}{R:Result->Shared->Prop}{s:Shared}{elt target iter:Expr}{ifs:List Expr}{scope:Scope}{pos:Pos}{it acc:Value}{env:Env}(I:Nat->Shared->Prop)(turn:∀ n s,I n s->wpAny (model prog w) A (pyNext it) (fun r s₁=>match r with
   |none=>R (.ok .next) s₁
   | some v=>wpAny (model prog w) A (letOwnedTupleGo target it v) (fun _ s₁'=>wpAny (model prog w) A (assign target env v) (fun _ s₂ =>
     wpAny (model prog w) A (forIn ifs true fun c r=>if r=true then do let ok ←isTrue c env (eval c env);pure (ForInStep.yield ok) else pure (ForInStep.yield r)) (fun ok s₃ =>
      if ok=true then wpAny (model prog w) A (eval elt env) (fun x s₄ =>
       wpAny (model prog w) A (call (.builtin "list.append") [acc,x]) (fun _ s₅=>∃ m,m<n/\I m s₅) (fun _ _=>False) s₄) (fun _ _=>False) s₃
      else ∃ m,m<n/\I m s₃) (fun _ _=>False) s₂) (fun _ _=>False) s₁') (fun _ _=>False) s₁) (fun _ _=>False) s)(n:Nat)(h:I n s) :
  codeAny (model prog w) A (.compLoop (.ListComp elt [⟨target,iter,ifs,0⟩] scope pos) 0 it acc env) R s:=by
 refine codeAny_loop rfl I (fun n s hI=>?_) n h;show wpAny _ A ((compTurn (.ListComp elt [⟨target,iter,ifs,0⟩] scope pos) 0 it acc env).onRaise (fun x=>do noteFrame x env;theTreesLotGoes x)) _ _ s;refine wpAny_noted (wpAny_noRaise ?_);rw[compTurn_list];refine za (wpAny_standAt (za (Zl (turn n s hI) (fun r s₁ h₁=>?_) fun _ _ h'=>h')));cases r with
 |none=>exact zi h₁
 |some v =>
  refine za (Zl h₁ (fun _ s₁' h₁'=>?_) fun _ _ h'=>h');refine za (Zl h₁' (fun _ s₂ h₂=>za (Zl h₂ (fun ok s₃ h₃=>?_) fun _ _ h'=>h')) fun _ _ h'=>h');cases ok with
  |false=>exact zi ⟨rfl,h₃⟩
  |true =>exact za (za (Zl h₃ (fun x s₄ h₄=>za (Zl h₄ (fun _ s₅ h₅=>zi (zi ⟨rfl,h₅⟩)) fun _ _ h'=>h')) fun _ _ h'=>h'))
theorem tR{own capN:List Str}:∀(i:Nat) (x:Str),own.length<=i->(own++capN)[i]?=some x->capN[i-own.length]?=some x:=fun i x hi e=>by rw[zY hi]at e;exact e
section
variable{X:Cx}{pins:List (Addr×Obj)}{σ:St}{H2:Hp}{s2:Shared}{scope:Scope}{cap:List Nat}{capN own:List Str}
variable{elt tg iter:Expr}{ifs:List Expr}{pos:Pos}{g:TG}{tc:TT}{te:TE}{Q:VK}
abbrev dq(its:List Value)(nn:Nat):Obj:={ cls:=.type "list",data:=.seq its.toArray nn }
theorem jR{J:It}{fp:List Addr}{it:Addr}{tn:Nat->Heap->Prop}{E:Value->Shared->Prop}{RR:Value->Addr->Result->Shared->Prop}(O:CompOk X scope cap capN)(hc:X.calm=true)(hg:∀C s0 H0 ex,PG (aK X scope (own++capN) C s0 H0 ex) tg g)(gk:GK own.length g)(ht:∀C s0 H0 ex,kJ (aK X scope (own++capN) C s0 H0 ex) ifs tc)(he:∀C s0 H0 ex,PE (aK X scope (own++capN) C s0 H0 ex) elt te)(I2:Inv X pins σ H2 s2)(T:Turn X.prog X.w X.K tg J fp it tn)(st2:tn 0 s2.heap)(f2:∀b∈fp,bB X pins H2 b)(hq:cq own.length cap g tc te σ J H2 Q)(fin:∀(D C:Addr) (s4:Shared) (H4:Hp) (ys:List V),Inv X pins σ (upd H4 D (.lst ys)) s4->(∃m,s4.heap.Ns C m)->bB X pins (upd H4 D (.lst ys)) C->Q (.ref D) (upd H4 D (.lst ys))->RR (.ref D) C (.ok .next) s4) :
  wpAny (model X.prog X.w) X.A (newList []) (fun acc s₃=>wpAny (model X.prog X.w) X.A (newFunctionEnv scope X.env.globals (bp X.env scope.names []) [] X.env.qual none .none (some X.env)) (fun cenv s₄ =>
   codeAny (model X.prog X.w) X.A (.compStart (.ListComp elt [⟨tg,iter,ifs,0⟩] scope pos) 0 (.ref it) acc { cenv with scope:=relabel scope X.env }) (RR acc cenv.locals) s₄) E s₃) E s2:=by
 obtain⟨W,⟨m0,w0⟩,turn⟩:=hq;refine Zf (wpAny_newFunctionEnv O.nocell (by intro y hy;simp at hy) (fun h₁ hns₁ hsb₁=>?_) O.kind);dsimp only at hns₁ hsb₁ ⊢;generalize hHp:s2.heap.push { cls:=.type "list",dict:=none,data:=.seq ([]:List Value).toArray }=Hp2 at hns₁ hsb₁ ⊢;have hC:Hp2.objs.size=s2.heap.objs.size+1:=by rw[<-hHp,Zo]
 have hDC:s2.heap.objs.size≠Hp2.objs.size:=by rw[hC];exact zJ (Nat.lt_succ_self _)
 have hCle:s2.heap.objs.size<=Hp2.objs.size:=by rw[hC];exact Nat.le_succ _
 have below:∀b,b<s2.heap.objs.size->b≠Hp2.objs.size/\b≠s2.heap.objs.size:=fun b hb=>⟨by rw[hC];exact zJ (Nat.lt_succ_of_lt hb),zJ hb⟩
 have old:∀b o,s2.heap.get? b=some o->h₁.get? b=some o:=fun b o e=>hsb₁.extBut b o (below b (zk e)).1 (zc _ (hHp▸zc _ e));have hacc:h₁.get? s2.heap.objs.size=some (dq [] 0):=hsb₁.extBut _ _ hDC (zc _ (hHp▸zn _ rfl));generalize hDe:s2.heap.objs.size=D at *;generalize hCe:Hp2.objs.size=C at *;have hfpl:∀b∈fp,b<s2.heap.objs.size:=fun b hb=>by obtain⟨o,e,_⟩:=T.obj _ _ st2 b hb;exact zk e
 have hex:∀b∈fp,bB X pins H2 b/\b<s2.heap.objs.size:=fun b hb=>⟨f2 b hb,hfpl b hb⟩
 have hCle':s2.heap.objs.size<=C:=by rw[hDe];exact hCle
 have hDle:s2.heap.objs.size<=D:=by rw[hDe];exact ze _
 have hDfp:∀b∈fp,D≠b:=fun b hb z=>by have:=hfpl b hb;rw[<-z]at this;exact absurd this (Nat.not_lt.mpr hDle)
 have I0:∀tk,Inv (aK X scope (own++capN) C s2 H2 fp) [] (bn own.length cap σ) H2 { s2 with heap:=h₁,toks:=tk }:=fun tk=>nN I2 O (by simp) tR hCle' hex old hns₁;have Dst:D∉frs X.stack:=qh I2 hDle;have Dcell:∀x c,(aK X scope (own++capN) C s2 H2 fp).env.cells.lookup x=some c->c≠D:=fun x c e=>rE I2 hDle x c (O.sub I2.ok x c e);have pinD:∀{σ':St} {H':Hp} {s':Shared} {its:List Value} {nn:Nat},Inv (aK X scope (own++capN) C s2 H2 fp) [] σ' H' s'->s'.heap.get? D=some (dq its nn)->H' D=none->Inv (aK X scope (own++capN) C s2 H2 fp) [(D,dq its nn)] σ' H' s':=fun{σ' H' s' its nn} I e hn =>
  I.pins_of fun p hp=>by
   have z:p=(D,dq its nn):=by simpa using hp
   subst z;exact⟨e,hn,hDC,Dst,fun v q=>by cases q⟩
 have loop:∀s₃:Shared,s₃={ s2 with heap:=h₁,toks:=s2.toks+([]:List (Str×Value)).length } ->
   codeAny (model X.prog X.w) X.A (.compLoop (.ListComp elt [⟨tg,iter,ifs,0⟩] scope pos) 0 (.ref it) (.ref D) (compEnvC scope (bp X.env scope.names []) C X.env)) (RR (.ref D) C) s₃:=by
  rintro s₃ rfl;refine fj (fun k s'=>∃(i:Nat) (ys:List V) (its:List Value) (nn:Nat) (H':Hp),Inv (aK X scope (own++capN) C s2 H2 fp) [(D,dq its nn)] (bn own.length cap σ) H' s'/\tn i s'.heap/\(∀b∈fp,H' b=none)/\Vals ys its/\ys.length<=sizeLine/\W i k ys H') ?_ m0
   ⟨0,[],[],0,H2,pinD (I0 _) hacc (I2.hok.fresh hDle),T.keep _ _ _ st2 (fun b hb o e=>old b o e),fun b hb=>(f2 b hb).1,.nil,Zv _,w0⟩
  rintro k s3 ⟨i,ys,its,nn,H3,I3,st3,fr3,rv,hz,w3⟩;have oD3:s3.heap.get? D=some (dq its nn):=(I3.pin (D,dq its nn) (by simp)).1;have fpY:∀{H':Hp},(∀b∈fp,H' b=none)->∀b∈fp,bB (aK X scope (own++capN) C s2 H2 fp) [(D,dq its nn)] H' b:=fun{H'} hn b hb=>by
   obtain⟨f0,f1,g2,f3,f4,f5⟩:=f2 b hb;refine⟨hn b hb,zJ (zl (hfpl b hb) hCle'),fun z=>?_,.inl hb,fun x c e=>f4 x c (O.sub I2.ok x c e),fun p hp=>?_⟩
   ·rcases zw.mp (I2.stkSub b z)with e|e
    ·exact f1 e
    ·exact g2 e
   ·have z:p=(D,dq its nn):=by simpa[aK]using hp
    subst z;exact hDfp b hb
  rcases turn i k ys H3 w3 with⟨stop,qn⟩|⟨go,hlt,step⟩
  ·refine thn (T.done (aK X scope (own++capN) C s2 H2 fp) rfl rfl rfl hc i _ s3 _ H3 _ I3 (fpY fr3) st3 stop) fun r s4 ⟨hr,I4⟩=>?_;subst hr;obtain⟨oD,nD,_⟩:=I4.pin (D,dq its nn) (by simp);have neD:∀{b:Addr} {u:HO},H3 b=some u->b≠D:=fun{b u} e=>aZ e nD;have JX:Inv X pins σ (upd H3 D (.lst ys)) s4:=by
    refine I2.call' (ch:=fp) I4.os ⟨I4.base.keep,I4.base.slot,fun b o e nb hx=>?_,I4.base.there,fun b xs e=>?_,fun b o u e=>?_,fun b ps e=>?_⟩ (fun b u e=>?_) I4.bare (fun b hb=>?_)
    ·rw[aw (by rw[<-hDe];exact zJ (zk e))];exact I4.base.free b o e nb hx
    ·have q:=I4.base.tups b xs e;rw[aw (neD q)];exact q
    ·have q:=I4.base.frzs b o u e;rw[aw (neD q)];exact q
    ·obtain⟨more,q⟩:=I4.base.tbls b ps e;exact⟨more,by rw[aw (neD q)];exact q⟩
    ·by_cases hb:b=D
     ·subst hb;rw[af]at e;cases e;exact⟨hz,its,nn,rv,oD⟩
     ·rw[aw hb]at e;exact(I4.hok b u e).stay (fun _ _ _ q=>q) (fun c q=>by rw[aw (neD q)];exact q) fun c xs q=>by rw[aw (neD q)];exact q
    ·obtain⟨f0,f1,g2,f3,f4,f5⟩:=f2 b hb;exact⟨f3,f1,f4,f5⟩
   obtain⟨m4,hn4,_⟩:=I4.loc;refine fin D C s4 H3 ys JX ⟨m4,hn4⟩ ?_ (qn D nD);refine I2.fpOk (b:=C) hCle' ?_;rw[aw (Zn hDC)];exact I4.free
  ·refine thn (T.item (aK X scope (own++capN) C s2 H2 fp) rfl rfl rfl hc i _ s3 _ H3 _ I3 (fpY fr3) st3 go) fun r s4 ⟨u,hr,h4⟩=>?_;subst hr;refine thn h4 fun _ s5 hz9=>?_;obtain⟨x,H5,I5,r5,y5,st5,fr5⟩:=hz9;have I5':=I5.pinned (fpY fr5) (T.obj _ _ st5);refine thn (hg C s2 H2 fp _ s5 _ H5 x u _ I5' r5 (gk _ _ _ _ (step x H5 y5))) fun _ s6 hz9=>?_;obtain⟨σ6,H6,I6,⟨l6,k6⟩,q6⟩:=hz9;refine thn (ht C s2 H2 fp _ s6 σ6 H6 _ I6 q6) fun ok s7 ⟨H7,I7,q7⟩=>?_;have wk:∀{H8:Hp} {s8:Shared} {pl:List (Addr×Obj)},Inv (aK X scope (own++capN) C s2 H2 fp) pl σ6 H8 s8->Inv (aK X scope (own++capN) C s2 H2 fp) pl (bn own.length cap σ) H8 s8:=fun I=>I.weak l6.symm fun j v e=>by obtain⟨hj,_⟩:=iJ e;rw[k6 j hj];exact e
   have tn8:∀{σ8:St} {H8:Hp} {s8:Shared},Inv (aK X scope (own++capN) C s2 H2 fp) ([(D,dq its nn)]++gg fp s5.heap) σ8 H8 s8->(∀b∈fp,∀o,s5.heap.get? b=some o->s8.heap.get? b=some o)/\∀b∈fp,H8 b=none:=fun{σ8 H8 s8} I=>by refine⟨fun b hb o e=>(I.pin (b,o) (zQ _ (zQ _ (dA hb e)))).1,fun b hb=>?_⟩;obtain⟨o,e,d⟩:=T.obj _ _ st5 b hb;exact(I.pin (b,o) (zQ _ (zQ _ (dA hb e)))).2.1
   cases ok with
   |false =>rw[if_neg zo]at q7 ⊢;obtain⟨m',hm,w7⟩:=q7;obtain⟨t1,t2⟩:=tn8 I7;exact⟨m',hm,i+1,ys,its,nn,H7,wk I7.unpinned,T.keep _ _ _ st5 t1,t2,rv,hz,w7⟩
   |true =>
    rw[if_pos rfl]at q7 ⊢;refine thn (he C s2 H2 fp _ s7 σ6 H7 _ I7 q7) fun y s8 hz9=>?_;obtain⟨yv,H8,I8,r8,m',hm,w8⟩:=hz9;obtain⟨t1,t2⟩:=tn8 I8;obtain⟨oD,nD,_⟩:=I8.pin (D,dq its nn) (by simp);have hil:=rv.length;refine call_meets F.slot_list_append ⟨_,oD,rfl⟩ F.entry_list_append (F.args_list_append_2 _ _) (PySem.list_append D its.toArray nn y (by rw[zh];omega)) ⟨oD,?_⟩;have q:=PySem.IsL.update oD (fun x_1=>x_1.push y);have hf:its.toArray.push y=(its++[y]).toArray:=by simp
    rw[hf]at q;have keepO:∀b o,b≠D->s8.heap.get? b=some o->(s8.heap.update D (Obj.mapSeq fun x_1=>x_1.push y)).get? b=some o:=fun b o hb e=>(Zb s8.heap (Obj.mapSeq fun x_1=>x_1.push y) (Zn hb)).trans e;have I9:Inv (aK X scope (own++capN) C s2 H2 fp) [] σ6 H8 { s8 with heap:=s8.heap.update D (Obj.mapSeq fun x_1=>x_1.push y),toks:=s8.toks } :=
     (I8.pins_of (pins':=[]) fun p hp=>absurd hp (by simp)).turned (it:=D) keepO nD hDC (.inr hDle) Dcell (fun p hp=>absurd (show p∈([]:List (Addr×Obj))from hp) (by simp))
    refine⟨m',hm,i+1,ys++[yv],its++[y],_,H8,wk (pinD I9 q nD),T.keep _ _ _ st5 (fun b hb o e=>keepO b o (Zn (hDfp b hb)) (t1 b hb o e)),t2,rv.append (.cons r8 .nil),?_,w8⟩;rw[zr,Zw];omega
 exact codeAny_compStart_list (loop _ rfl) (T.self _ 0 _ _ _ (T.keep _ _ _ st2 (fun b hb o e=>old b o e)) (loop _ rfl))
theorem tV{wi:TI}(O:CompOk X scope cap capN)(hc:X.calm=true)(hi:PI X tg iter wi)(hg:∀C s0 H0 ex,PG (aK X scope (own++capN) C s0 H0 ex) tg g)(gk:GK own.length g)(ht:∀C s0 H0 ex,kJ (aK X scope (own++capN) C s0 H0 ex) ifs tc)(he:∀C s0 H0 ex,PE (aK X scope (own++capN) C s0 H0 ex) elt te)(hs:∀x,foldedSetIterable iter X.env x=pure x:=by intro _;rfl):PE X (.ListComp elt [⟨tg,iter,ifs,0⟩] scope pos) (kz own.length cap wi g tc te):=by intro pins s σ H Q I h;rw[eval_ListComp];refine wpAny_comprehension_free (use:=none) rfl hs (O.clos I.ok) O.kind O.names (thn (hi pins s σ H _ I h) fun v s1 h1=>thn h1 fun itv s2 h2=>?_);obtain⟨it,fp,tn,J,H2,e,I2,T,st2,f2,hq⟩:=h2;subst e;refine jR (RR:=fun acc C=>compPost (model X.prog X.w) X.A X.xe none (EP X pins σ Q) acc C) O hc hg gk ht he I2 T st2 f2 hq fun D C s4 H4 ys J4 hn4 fC q4=>?_;obtain⟨m,hn⟩:=hn4;obtain⟨f0,f1,g2,f3,f4,f5⟩:=fC;exact⟨m,hn,fun h' sb=>⟨.ref D,_,J4.turned (t':=s4.toks) (fun b o hb e=>(sb.2 b hb).trans e) f0 f1 f3 f4 f5,rfl,q4⟩⟩
theorem uf{wi:TI}{j:Nat}{y:Str}{py spos:Pos}(hN0:X.N.Nodup)(hj:X.N[j]?=some y)(hy:Loc X.env.scope y)(O:CompOk X scope cap capN)(hc:X.calm=true)(hi:PI X tg iter wi)(hg:∀C s0 H0 ex,PG (aK X scope (own++capN) C s0 H0 ex) tg g)(gk:GK own.length g)(ht:∀C s0 H0 ex,kJ (aK X scope (own++capN) C s0 H0 ex) ifs tc)(he:∀C s0 H0 ex,PE (aK X scope (own++capN) C s0 H0 ex) elt te)(hsw:swapsWith (.ListComp elt [⟨tg,iter,ifs,0⟩] scope pos) (some (.Name y py)) spos.line X.env=pure true:=by rfl)(hs:∀x,foldedSetIterable iter X.env x=pure x:=by intro _;rfl)(hf:X.fn y=true\/X.env.scope.names.lookup y=some .local:=by first|exact .inl rfl|exact .inr rfl|assumption) :
  PS X (.Assign [.Name y py] (.ListComp elt [⟨tg,iter,ifs,0⟩] scope pos) spos) (jK (kz own.length cap wi g tc te) (bA j)):=by
 intro pins s σ H D0 I h;rw[exec_Assign_Name_used _ _ _ _ hsw];refine za (wpAny_standAt (za ?_));show wpAny _ X.A (do let _ ←comprehension (.ListComp elt [⟨tg,iter,ifs,0⟩] scope pos) scope X.env _ (newList []) false (eval iter X.env) (some (assign (.Name y py) X.env))) _ _ s;refine za (Zl (wpAny_comprehension_free (use:=some (assign (.Name y py) X.env)) (Q:=fun _ s'=>SP X pins D0 .next s') rfl hs (O.clos I.ok) O.kind O.names (thn (hi pins s σ H _ I h) fun v s1 h1=>thn h1 fun itv s2 h2=>?_)) (fun _ s' hq=>zi (zi hq)) fun _ _ e=>e);obtain⟨it,fp,tn,J,H2,e,I2,T,st2,f2,hq⟩:=h2;subst e;refine jR (RR:=fun acc C=>compPost (model X.prog X.w) X.A X.xe (some (assign (.Name y py) X.env)) (fun _ s'=>SP X pins D0 .next s') acc C) O hc hg gk ht he I2 T st2 f2 hq fun D C s4 H4 ys J4 hn4 fC q4=>?_;obtain⟨m,hn⟩:=hn4;obtain⟨f0,f1,g2,f3,f4,f5⟩:=fC;show wpAny _ X.A (assign (.Name y py) X.env (.ref D)) _ _ _;refine wpAny_assign_Name (ka J4 hN0 hj hy (v:=.ref D) rfl (fun s5 I5 ⟨a,sba,ha⟩=>?_) hf);have hCa:C≠a:=by
  rcases ha with z|z
  ·rw[z];exact f1
  ·exact Zn (f4 _ _ z)
 refine⟨m,hn.sameBut sba hCa,fun h' sb=>?_⟩;exact⟨_,_,I5.turned (t':=s5.toks) (fun b o hb e=>(sb.2 b hb).trans e) f0 f1 f3 f4 f5,q4⟩
end
open PySem PySem.Spec PyProof.Rows
structure Fn(P:Program)(w:World)(K:PySem.W.Frag)(mg:Str->Option Value)(base:Heap)(k:Nat)(x:Str)(ps:List Str)(sp:Sp):Prop where
 ex:∃f fd,FnOk P w K mg base CX0 k f fd ps sp/\mg x=some (.ref f)/\PySem.W.keepIn K (.ref f)=true/\Binds K fd ps []
section
variable{X:Cx}{k:Nat}{x:Str}{p pos:Pos}{e:Expr}{es:List Expr}{ps:List Str}{sp:Sp}{t:TA}
theorem xg(F:Fn X.prog X.w X.K X.mg X.base k x ps sp)(hr:Room k X.A)(ha:PA X (e::es) t)(hg:Gl X x:=by rfl)(hdb:(x==("__debug__":Str))=false:=by decide)(he:starEach (e::es) X.env=(false,eval e X.env)::starEach es X.env:=by rfl)(hpl:(backTo pos (starEach es X.env)).any (·.1)=false:=by rfl) :
  PE X (.Call (.Name x p) (e::es) [] pos) (jd sp [] E0 t):=by
 obtain⟨f,fd,G,m,kp,b⟩:=F.ex;exact mM G hr hg m kp b .nil xb ha hdb he hpl
end
theorem au:bootBuiltins "isinstance" = some (.builtin "isinstance"):=by decide +kernel
theorem rd:bootBuiltins "max" = some (.builtin "max"):=by decide +kernel
theorem re:bootBuiltins "min" = some (.builtin "min"):=by decide +kernel
theorem cA:bootBuiltins "int" = some (.type "int"):=by decide +kernel
theorem dU:bootBuiltins "bool" = some (.type "bool"):=by decide +kernel
theorem aU:bootBuiltins "tuple" = some (.type "tuple"):=by decide +kernel
theorem cD:bootBuiltins "all" = some (.builtin "all"):=by decide +kernel
section
variable{X:Cx}
theorem rf(hc:X.calm=true):cu X (.builtin "all") (fun xs H Q=>∃(p:Addr) (bs:List Bool),xs=[.ref p]/\SqL X.K H p (bs.map V.bl)/\Q (.bl (bs.all id)) H):=by
 intro pins s σ H xs us Q I r h;obtain⟨p,bs,rfl,hq,q⟩:=h;obtain⟨u,rfl,rx⟩:=ce r;cases rx;obtain⟨its,rv,pl,hz⟩:=I.list hq;have hl:=pl.isList;have hlt:p<s.heap.objs.size:=by obtain⟨_,e,_⟩:=hl;exact zk e
 have hh:=I.ok.hd hc;have hlen:bs.length=its.length:=by rw[<-rv.length,zb]
 refine call_all_walk (wpAny_pyIter_list hl ?_);refine⟨s.heap.objs.size,[s.heap.objs.size,p],[s.heap.objs.size],its.toArray.size,_,_,fun i=>(bs[i]?).getD true,rfl,Walks.list (A:=X.A.in1) hh _ p (zJ hlt) its.toArray,
  ⟨⟨_,zn _ rfl,rfl,rfl⟩,hl.push _⟩,fun i v s' Q' E' hP hQ=>?_,fun h' tk hk=>?_⟩
 ·have hv:its[i]?=some v:=by simpa using hP
  have hi:i<bs.length:=by rw[hlen];exact(zj.mp hv).1
  obtain⟨u,hu,ru⟩:=rv.get (i:=i) (x:=.bl bs[i]) (by rw[zE,zd hi];rfl);rw[hv]at hu;cases hu;cases ru;have hQ':Q' ((bs[i]?).getD true) s':=hQ;rw[zd hi]at hQ';exact zW hQ'
 ·have e:((List.range its.toArray.size).all fun i=>(bs[i]?).getD true)=bs.all id:=by rw[zh,<-hlen];exact LSm.range_all bs
  rw[e];exact⟨.bl _,H,I.kept (t':=tk) (LSm.kept_iter hk),rfl,q⟩
theorem rg:cu X (.builtin "isinstance") (fun xs H Q=>∃x T t b,xs=[x,.ty T]/\TyOf X.K H x t/\PySem.W.kitOne X.K t (.type T)=some b/\Q (.bl b) H):=by intro pins s σ H xs us Q I r h;obtain⟨x,T,t,b,rfl,ty,e,q⟩:=h;obtain⟨u,w',rfl,rx,ry⟩:=gZ r;cases(show w'=Value.type T from ry);exact jU I rx ty e fun tk=>⟨.bl b,H,I.tok tk,rfl,q⟩
end
def isI:V->Bool
 |.int _=>true
 |.bl _=>true
 |_=>false
def isB:V->Bool
 |.bl _=>true
 |_=>false
def bZ:V->Bool
 |.int _=>true
 |_=>false
def nS:Option HO->Bool
 |some (.tup _)=>true
 |_=>false
def isT(H:Hp):V->Bool
 |.ref a=>nS (H a)
 |_=>false
theorem aY{H:Hp}{a:Addr}{o:HO}{b:Bool}(e:H a=some o)(h:nS (some o)=b):isT H (.ref a)=b:=by show nS (H a)=b;rw[e];exact h
theorem aW{K:PySem.W.Frag}{t T:String}{b:Bool}(h1:(Value.type t==Value.type T)=b)(h2:b=false->PySem.W.kitMeta T=true/\(PySem.fastBuiltinMro t).map (·.contains (Value.type T))=some false):PySem.W.kitOne K (.type t) (.type T)=some b:=by
 unfold PySem.W.kitOne;rw[h1];cases b with
 |true=>exact if_pos rfl
 |false =>rw[if_neg zo];obtain⟨m,q⟩:=h2 rfl;show(if PySem.W.kitMeta T=true then PySem.W.subIn K (.type t) (.type T)else none)=_;rw[if_pos m];exact q
theorem aA{K:PySem.W.Frag}{t T:String}{b:Bool}(h1:(Value.type t==Value.type T)=false)(h2:PySem.W.kitMeta T=true)(h3:(PySem.fastBuiltinMro t).map (·.contains (Value.type T))=some b):PySem.W.kitOne K (.type t) (.type T)=some b:=by unfold PySem.W.kitOne;rw[h1,if_neg zo];show(if PySem.W.kitMeta T=true then PySem.W.subIn K (.type t) (.type T)else none)=_;rw[if_pos h2];exact h3
theorem jB{K:PySem.W.Frag}{H:Hp}{v:V}{n:String}(h:TyOf K H v (.type n)):PySem.W.kitOne K (.type n) (.type "int")=some (isI v):=by
 cases h with
 |non=>exact aA (b:=false) (by decide +kernel) (by decide +kernel) (by decide +kernel)
 |bl x=>exact aA (b:=true) (by decide +kernel) (by decide +kernel) (by decide +kernel)
 |int i=>exact aW (b:=true) (by decide +kernel) (fun z=>nomatch z)
 |str x=>exact aA (b:=false) (by decide +kernel) (by decide +kernel) (by decide +kernel)
 |flt x=>exact aA (b:=false) (by decide +kernel) (by decide +kernel) (by decide +kernel)
 |lst e=>exact aA (b:=false) (by decide +kernel) (by decide +kernel) (by decide +kernel)
 |frz e=>exact aA (b:=false) (by decide +kernel) (by decide +kernel) (by decide +kernel)
 |tup e=>exact aA (b:=false) (by decide +kernel) (by decide +kernel) (by decide +kernel)
 |dK e=>exact aA (b:=false) (by decide +kernel) (by decide +kernel) (by decide +kernel)
 |dT e=>exact aA (b:=false) (by decide +kernel) (by decide +kernel) (by decide +kernel)
theorem cV{K:PySem.W.Frag}{H:Hp}{v:V}{n:String}(h:TyOf K H v (.type n)):PySem.W.kitOne K (.type n) (.type "bool")=some (isB v):=by
 cases h with
 |non=>exact aA (b:=false) (by decide +kernel) (by decide +kernel) (by decide +kernel)
 |bl x=>exact aW (b:=true) (by decide +kernel) (fun z=>nomatch z)
 |int i=>exact aA (b:=false) (by decide +kernel) (by decide +kernel) (by decide +kernel)
 |str x=>exact aA (b:=false) (by decide +kernel) (by decide +kernel) (by decide +kernel)
 |flt x=>exact aA (b:=false) (by decide +kernel) (by decide +kernel) (by decide +kernel)
 |lst e=>exact aA (b:=false) (by decide +kernel) (by decide +kernel) (by decide +kernel)
 |frz e=>exact aA (b:=false) (by decide +kernel) (by decide +kernel) (by decide +kernel)
 |tup e=>exact aA (b:=false) (by decide +kernel) (by decide +kernel) (by decide +kernel)
 |dK e=>exact aA (b:=false) (by decide +kernel) (by decide +kernel) (by decide +kernel)
 |dT e=>exact aA (b:=false) (by decide +kernel) (by decide +kernel) (by decide +kernel)
theorem cG{K:PySem.W.Frag}{H:Hp}{v:V}{n:String}(h:TyOf K H v (.type n)):PySem.W.kitOne K (.type n) (.type "tuple")=some (isT H v):=by
 cases h with
 |non=>exact aA (b:=false) (by decide +kernel) (by decide +kernel) (by decide +kernel)
 |bl x=>exact aA (b:=false) (by decide +kernel) (by decide +kernel) (by decide +kernel)
 |int i=>exact aA (b:=false) (by decide +kernel) (by decide +kernel) (by decide +kernel)
 |str x=>exact aA (b:=false) (by decide +kernel) (by decide +kernel) (by decide +kernel)
 |flt x=>exact aA (b:=false) (by decide +kernel) (by decide +kernel) (by decide +kernel)
 |lst e =>rw[aY e (b:=false) rfl];exact aA (b:=false) (by decide +kernel) (by decide +kernel) (by decide +kernel)
 |frz e =>rw[aY e (b:=false) rfl];exact aA (b:=false) (by decide +kernel) (by decide +kernel) (by decide +kernel)
 |tup e =>rw[aY e (b:=true) rfl];exact aW (b:=true) (by decide +kernel) (fun z=>nomatch z)
 |dK e =>rw[aY e (b:=false) rfl];exact aA (b:=false) (by decide +kernel) (by decide +kernel) (by decide +kernel)
 |dT e =>rw[aY e (b:=false) rfl];exact aA (b:=false) (by decide +kernel) (by decide +kernel) (by decide +kernel)
theorem aj{H:Hp}{p:Addr}(h:H p=none)(o:HO):Same H (upd H p o):=fun b u q=>by rw[aw (aZ q h)];exact q
theorem cC{K:PySem.W.Frag}{H H':Hp}{a:Addr}{xs:List V}(e:Same H H')(h:SqT K H a xs):SqT K H' a xs:=by
 rcases h with(h|⟨o,h⟩)|h
 ·exact .inl (.inl (e _ _ h))
 ·exact .inl (.inr ⟨o,e _ _ h⟩)
 ·exact .inr h
theorem bI{K:PySem.W.Frag}{H H':Hp}{v:V}{n:Value}(e:Same H H')(h:TyOf K H v n):TyOf K H' v n:=by
 cases h with
 |non=>exact .non
 |bl x=>exact .bl x
 |int i=>exact .int i
 |str x=>exact .str x
 |flt x=>exact .flt x
 |lst q=>exact .lst (e _ _ q)
 |frz q=>exact .frz (e _ _ q)
 |tup q=>exact .tup (e _ _ q)
 |dK q=>exact .dK (e _ _ q)
 |dT q=>exact .dT (e _ _ q)
 |ins q cl ha hn htk hm=>exact .ins (e _ _ q) cl ha hn htk hm
theorem bz{n:Nat}(h:n<=1000):n<=sizeLine:=Nat.le_of_lt (cJ h)
theorem sz{n:Nat}(h:Nat.ble n 1000=true):n<=sizeLine:=bz (Nat.le_of_ble_eq_true h)
theorem dW{J:It}{N n:Nat}{cap:List Nat}{te:TE}{σ:St}{H0:Hp}{Q:VK}(x0 f:Nat->V)(hz:N<=1000)(hgo:∀i H,i<N->Same H0 H->J.go i H)(hst:∀H,Same H0 H->J.stop N H)(hy:∀i H x H',i<N->Same H0 H->J.yld i H x H'->H'=H/\x=x0 i)(he:∀i H,i<N->Same H0 H->∀R:VK,(∀H',Same H H'->R (f i) H')->te ((bn n cap σ).set 0 (some (x0 i))) H R)(hq:∀p H,Same H0 H->H p=none->Q (.ref p) (upd H p (.lst ((List.range N).map f)))):cq n cap (bA 0) cS te σ J H0 Q:=by
 refine⟨fun i m ys H=>m=N-i/\i<=N/\Same H0 H/\ys=(List.range i).map f,⟨N,by simp,Zv _,Same.refl _,rfl⟩,?_⟩;rintro i m ys H ⟨rfl,hi,sm,rfl⟩;by_cases hlt:i<N
 ·refine .inr ⟨hgo i H hlt sm,?_,fun x H' y=>?_⟩
  ·rw[zb,Zy];exact cJ (by omega)
  ·obtain⟨e1,e2⟩:=hy i H x H' hlt sm y;subst e1 e2;refine he i H' hlt sm _ fun H4 sm4=>⟨N-(i+1),by omega,rfl,hlt,sm.trans sm4,?_⟩
   rw[List.range_succ,Zj];rfl
 ·have e:i=N:=by omega
  subst e;exact .inl ⟨hst H sm,fun p hp=>hq p H sm hp⟩
theorem pI{K:PySem.W.Frag}{a:Addr}{xs:List V}{n:Nat}{cap:List Nat}{te:TE}{σ:St}{H0:Hp}{Q:VK}(f:Nat->V)(hz:xs.length<=1000)(hl:SqL K H0 a xs)(he:∀i x H,xs[i]?=some x->Same H0 H->∀R:VK,(∀H',Same H H'->R (f i) H')->te ((bn n cap σ).set 0 (some x)) H R)(hq:∀p H,Same H0 H->H p=none->Q (.ref p) (upd H p (.lst ((List.range xs.length).map f)))):cq n cap (bA 0) cS te σ (Itl K a) H0 Q:=by
 refine dW (N:=xs.length) (fun i=>(xs[i]?).getD .non) f hz (fun i H hi sm=>⟨xs,xs[i],sm.seq hl,by simp[hi]⟩) (fun H sm=>⟨xs,sm.seq hl,ze _⟩) (fun i H x H' hi sm y=>⟨y.1,?_⟩) (fun i H hi sm R k=>?_) hq
 ·rw[y.2 xs (sm.seq hl)];rfl
 ·have e:xs[i]?=some xs[i]:=by simp[hi]
  rw[e];exact he i xs[i] H e sm R k
theorem dH{K:PySem.W.Frag}{a:Addr}{xs:List V}{n:Nat}{cap:List Nat}{te:TE}{σ:St}{H0:Hp}{Q:VK}(f:Nat->V)(hz:xs.length<=1000)(hl:SqT K H0 a xs)(he:∀i x H,xs[i]?=some x->Same H0 H->∀R:VK,(∀H',Same H H'->R (f i) H')->te ((bn n cap σ).set 0 (some x)) H R)(hq:∀p H,Same H0 H->H p=none->Q (.ref p) (upd H p (.lst ((List.range xs.length).map f)))):cq n cap (bA 0) cS te σ (Itt K a) H0 Q:=by
 refine dW (N:=xs.length) (fun i=>(xs[i]?).getD .non) f hz (fun i H hi sm=>⟨xs,xs[i],cC sm hl,by simp[hi]⟩) (fun H sm=>⟨xs,cC sm hl,ze _⟩) (fun i H x H' hi sm y=>⟨y.1,?_⟩) (fun i H hi sm R k=>?_) hq
 ·rw[y.2 xs (cC sm hl)];rfl
 ·have e:xs[i]?=some xs[i]:=by simp[hi]
  rw[e];exact he i xs[i] H e sm R k
theorem dz{N n:Nat}{lo:Int}{cap:List Nat}{te:TE}{σ:St}{H0:Hp}{Q:VK}(f:Nat->V)(hz:N<=1000)(he:∀i H,i<N->Same H0 H->∀R:VK,(∀H',Same H H'->R (f i) H')->te ((bn n cap σ).set 0 (some (.int (lo+i)))) H R)(hq:∀p H,Same H0 H->H p=none->Q (.ref p) (upd H p (.lst ((List.range N).map f)))):cq n cap (bA 0) cS te σ (Itr lo N) H0 Q :=
 dW (N:=N) (fun i=>.int (lo+i)) f hz (fun _ _ hi _=>hi) (fun _ _=>ze N) (fun _ _ _ _ _ _ y=>y) he hq
open PySem PySem.Spec PyProof.Rows
def aI:Expr->Bool
 |.Starred _ _=>false
 |_=>true
theorem aO{e:Expr}{es:List Expr}{env:Env}(h:aI e=true):starEach (e::es) env=(false,eval e env)::starEach es env:=by cases e<;>first|rfl|cases h
theorem bv{env:Env}{pos:Pos}:∀{es:List Expr},es.all aI=true->(backTo pos (starEach es env)).any (·.1)=false
 | [],_=>rfl
 |e::es,h=>by rw[List.all_cons,zA]at h;rw[aO h.1];show(false ||(backTo pos (starEach es env)).any (·.1))=false;rw[Bool.false_or];exact bv h.2
section
variable{X:Cx}{x:Str}{p pos:Pos}{e:Expr}{es:List Expr}{te:TE}{t:TA}{id T:String}{r:List V->Hp->VK->Prop}{k:Nat}{ps:List Str}{sp:Sp}
theorem pa(ha:PE X e te)(hr:PA X es t)(hs:aI e=true:=by rfl):PA X (e::es) (di te t):=dF ha hr (aO hs)
theorem pB(hc:cu X (.builtin id) r)(hm:X.mg x=none)(hv:bootBuiltins x=some (.builtin id))(ha:PA X (e::es) t)(hg:Gl X x:=by rfl)(hs:(e::es).all aI=true:=by rfl)(hn:x≠"__name__":=by decide)(hdb:(x==("__debug__":Str))=false:=by decide) :
  PE X (.Call (.Name x p) (e::es) [] pos) (tCB r t):=by
 rw[List.all_cons,zA]at hs;exact rL hc hg hm hv ha hn hdb (aO hs.1) (bv hs.2)
theorem pTy(hc:cu X (.type T) r)(hm:X.mg x=none)(hv:bootBuiltins x=some (.type T))(ha:PA X (e::es) t)(hg:Gl X x:=by rfl)(hs:(e::es).all aI=true:=by rfl)(hn:x≠"__name__":=by decide)(hdb:(x==("__debug__":Str))=false:=by decide) :
  PE X (.Call (.Name x p) (e::es) [] pos) (tCB r t):=by
 rw[List.all_cons,zA]at hs;exact qq hc hg hm hv ha hn hdb (aO hs.1) (bv hs.2)
theorem pfn(F:Fn X.prog X.w X.K X.mg X.base k x ps sp)(hr:Room k X.A)(ha:PA X (e::es) t)(hg:Gl X x:=by rfl)(hs:(e::es).all aI=true:=by rfl)(hdb:(x==("__debug__":Str))=false:=by decide) :
  PE X (.Call (.Name x p) (e::es) [] pos) (jd sp [] E0 t):=by
 rw[List.all_cons,zA]at hs;exact xg F hr ha hg hdb (aO hs.1) (bv hs.2)
end
open PySem PySem.Spec PyProof.Rows
structure QE(X:Cx)(e:Expr)(t:TE):Prop where
 h:PE X e t
structure QT(X:Cx)(e:Expr)(t:TT):Prop where
 h:PT X e t
structure QW(X:Cx)(e:Expr)(t:TT):Prop where
 h:PW X e t
structure QA(X:Cx)(es:List Expr)(t:TA):Prop where
 h:PA X es t
structure QS(X:Cx)(st:Stmt)(t:TS):Prop where
 h:PS X st t
structure QB(X:Cx)(st:List Stmt)(t:TS):Prop where
 h:PSs X st t
structure QG(X:Cx)(tg:Expr)(g:TG):Prop where
 h:PG X tg g
structure QGs(X:Cx)(ts:List Expr)(g:TGs):Prop where
 h:PGs X ts g
structure QI(X:Cx)(tg iter:Expr)(wi:TI):Prop where
 h:PI X tg iter wi
structure QIf(X:Cx)(ifs:List Expr)(t:TT):Prop where
 h:kJ X ifs t
structure QO(X:Cx)(e:Option Expr)(t:TO):Prop where
 h:PO X e t
structure QOp(X:Cx)(f:Value->Value->Sem Value)(r:R2):Prop where
 h:OpR X f r
structure QCall(X:Cx)(f:Value)(r:List V->Hp->VK->Prop):Prop where
 h:cu X f r
structure QIx(X:Cx)(r:R2):Prop where
 h:IxR X r
structure QSl(X:Cx)(r:V->Option Int->Option Int->Hp->VK->Prop):Prop where
 h:SlR X r
structure QSet(X:Cx)(t:kK):Prop where
 h:qW X t
structure QUn(X:Cx)(f:Value->Sem Value)(r:V->Hp->VK->Prop):Prop where
 h:UnR X f r
structure QIp(X:Cx)(op:Operator)(t:TIp):Prop where
 h:PIp X op t
section
variable{X:Cx}{pos p:Pos}{e a b c o:Expr}{es rest:List Expr}{te ta tb tc:TE}{t:TA}{tA tB':TT}{x:Str}
theorem q_v(i:Nat){x:Str}{pos:Pos}(hN:X.N[i]?=some x:=by rfl)(hv:Vis X.env.scope x:=by first|exact Or.inl rfl|exact Or.inr (Or.inl rfl)|exact Or.inr (Or.inr rfl))(hd:(x==("__debug__":Str))=false:=by decide)(hcd:(x==("__classdict__":Str))=false:=by decide):QE X (.Name x pos) (oU i):=⟨vH hN hv hd hcd⟩
theorem ad{i:Int}{j:Nat}:QE X (.Constant (.int i) j pos) (tC (.int i)):=⟨vA⟩
theorem cM{i:Bool}{j:Nat}:QE X (.Constant (.bool i) j pos) (tC (.bl i)):=⟨xf⟩
theorem bR{j:Nat}:QE X (.Constant .none j pos) (tC .non):=⟨vC⟩
theorem ag{i:Str}{j:Nat}:QE X (.Constant (.str i) j pos) (tC (.str i)):=⟨vF⟩
theorem bP{T:String}(hm:X.mg x=none)(hv:bootBuiltins x=some (.type T))(hg:Gl X x:=by rfl)(hn:x≠"__name__":=by decide)(hd:(x==("__debug__":Str))=false:=by decide):QE X (.Name x pos) (tC (.ty T)):=⟨tS hg hm hv rfl hn hd⟩
theorem jE{i:Int}{tk:Tok}(hm:X.mg x=some (.int i tk))(hg:Gl X x:=by rfl)(hd:(x==("__debug__":Str))=false:=by decide):QE X (.Name x pos) (tC (.int i)):=⟨jD hg hm ⟨_,rfl⟩ hd⟩
theorem am{op:Operator}{r:R2}(ho:QOp X (binaryOp op) r)(ha:QE X a ta)(hb:QE X b tb):QE X (.BinOp a op b pos) (tOp r ta tb):=⟨xi ho.h ha.h hb.h⟩
theorem xG{op:UnaryOp}{r:V->Hp->VK->Prop}(ho:QUn X (unaryOp op) r)(ha:QE X a ta):QE X (.UnaryOp op a pos) (tUn r ta):=⟨xk ho.h ha.h⟩
theorem bb{op}(h:QE X a ta):QE X (.BoolOp op [a] pos) ta:=⟨vE h.h⟩
theorem bj(ha:QE X a ta)(hb:QE X (.BoolOp .And (b::rest) pos) tb):QE X (.BoolOp .And (a::b::rest) pos) (sW ta tb):=⟨vy ha.h hb.h⟩
theorem oE(ha:QE X a ta)(hb:QE X (.BoolOp .Or (b::rest) pos) tb):QE X (.BoolOp .Or (a::b::rest) pos) (ss ta tb):=⟨xj ha.h hb.h⟩
theorem sO(ha:QE X a ta):QE X (.UnaryOp .Not a pos) (oR ta):=⟨vD ha.h⟩
theorem aN{op:CmpOp}{r:R2}(ho:QOp X (compareOp op) r)(ha:QE X a ta)(hb:QE X b tb)(hm:behindInMarks op b=false:=by first|exact qg _|with_unfolding_all rfl):QE X (.Compare a [op] [b] pos) (tOp r ta tb):=⟨tU ho.h ha.h hb.h hm⟩
theorem um{op op':CmpOp}{r r':R2}(ho:QOp X (compareOp op) r)(ho':QOp X (compareOp op') r')(ha:QE X a ta)(hb:QE X b tb)(hc:QE X c tc)(hm:lastMarks [op,op'] [b,c]=false:=by with_unfolding_all rfl) :
  QE X (.Compare a [op,op'] [b,c] pos) (je r r' ta tb tc):=⟨rM ho.h ho'.h ha.h hb.h hc.h hm⟩
theorem oB(hc:QT X c tA)(ha:QE X a ta)(hb:QE X b tb):QE X (.IfExp c a b pos) (tIf tA ta tb):=⟨rN hc.h ha.h hb.h⟩
theorem fF(h:QA X es t):QE X (.List es pos) (wt t):=⟨vB h.h⟩
theorem cy{x1}(h:QA X es t):QE X (.Tuple es x1 pos) (wx t):=⟨vG h.h⟩
theorem aE{r:R2}(hr:QIx X r)(ha:QE X a ta)(hb:QE X b tb)(hs:mw b:=by intro _ _;rfl):QE X (.Subscript a b pos) (tOp r ta tb):=⟨xh hr.h ha.h hb.h hs⟩
theorem lC{r:V->Option Int->Option Int->Hp->VK->Prop}{lo hi:Option Expr}{tl th:TO}{p2:Pos}(hr:QSl X r)(he:QE X e te)(hl:QO X lo tl)(hu:QO X hi th):QE X (.Subscript e (.Slice lo hi none p2) pos) (tSl r te tl th):=⟨rO hr.h he.h hl.h hu.h⟩
theorem lA:QO X none nq:=⟨uc⟩
theorem lB(h:QE X e te):QO X (some e) (sZ te):=⟨ud h.h⟩
theorem ae:QA X [] gL:=⟨eQ⟩
theorem q_a(ha:QE X e te)(hr:QA X es t)(hs:aI e=true:=by rfl):QA X (e::es) (di te t):=⟨pa ha.h hr.h hs⟩
theorem q_B{id:String}{r:List V->Hp->VK->Prop}(hc:QCall X (.builtin id) r)(hm:X.mg x=none)(hv:bootBuiltins x=some (.builtin id))(ha:QA X (e::es) t)(hg:Gl X x:=by rfl)(hs:(e::es).all aI=true:=by rfl)(hn:x≠"__name__":=by decide)(hdb:(x==("__debug__":Str))=false:=by decide) :
  QE X (.Call (.Name x p) (e::es) [] pos) (tCB r t):=⟨pB hc.h hm hv ha.h hg hs hn hdb⟩
theorem bL{T:String}{r:List V->Hp->VK->Prop}(hc:QCall X (.type T) r)(hm:X.mg x=none)(hv:bootBuiltins x=some (.type T))(ha:QA X (e::es) t)(hg:Gl X x:=by rfl)(hs:(e::es).all aI=true:=by rfl)(hn:x≠"__name__":=by decide)(hdb:(x==("__debug__":Str))=false:=by decide) :
  QE X (.Call (.Name x p) (e::es) [] pos) (tCB r t):=⟨pTy hc.h hm hv ha.h hg hs hn hdb⟩
theorem aC{k:Nat}{ps:List Str}{sp:Sp}(F:Fn X.prog X.w X.K X.mg X.base k x ps sp)(hr:Room k X.A)(ha:QA X (e::es) t)(hg:Gl X x:=by rfl)(hs:(e::es).all aI=true:=by rfl)(hdb:(x==("__debug__":Str))=false:=by decide) :
  QE X (.Call (.Name x p) (e::es) [] pos) (jd sp [] E0 t):=⟨pfn F hr ha.h hg hs hdb⟩
theorem aq{op:CmpOp}{r:R2}(ho:QOp X (compareOp op) r)(ha:QE X a ta)(hb:QE X b tb)(hm:behindInMarks op b=false:=by first|exact qg _|with_unfolding_all rfl):QT X (.Compare a [op] [b] pos) (kC (tOp r ta tb)):=⟨uk ho.h ha.h hb.h hm⟩
theorem nr{op op':CmpOp}{r r':R2}(ho:QOp X (compareOp op) r)(ho':QOp X (compareOp op') r')(ha:QE X a ta)(hb:QE X b tb)(hc:QE X c tc)(hm:lastMarks [op,op'] [b,c]=false:=by with_unfolding_all rfl) :
  QT X (.Compare a [op,op'] [b,c] pos) (kC (je r r' ta tb tc)):=⟨rT ho.h ho'.h ha.h hb.h hc.h hm⟩
theorem bq(ha:QT X a tA):QT X (.UnaryOp .Not a pos) (wv tA):=⟨vQ ha.h⟩
theorem bc(h:QE X e te)(he:∀whole,isTrue e X.env whole=(do let v ←whole;standAt e.pos;holding [v] (truthy v)):=by intro _;rfl):QT X e (tB te):=⟨vR h.h he⟩
theorem lX(ha:QT X a tA):QW X (.BoolOp .And [a] pos) tA:=⟨ul ha.h⟩
theorem bE(ha:QT X a tA):QW X (.BoolOp .Or [a] pos) tA:=⟨vT ha.h⟩
theorem oX(ha:QT X a tA)(hb:QW X (.BoolOp .And (b::rest) pos) tB'):QW X (.BoolOp .And (a::b::rest) pos) (wm tA tB'):=⟨vS ha.h hb.h⟩
theorem bK(ha:QT X a tA)(hb:QW X (.BoolOp .Or (b::rest) pos) tB'):QW X (.BoolOp .Or (a::b::rest) pos) (tOr tA tB'):=⟨xo ha.h hb.h⟩
theorem t_w(h:QW X e tA):QT X e tA:=⟨h.h.pt⟩
end
section
variable{X:Cx}{pos:Pos}{tg iter elt:Expr}{ifs:List Expr}{g:TG}{gs:TGs}{tc:TT}{te:TE}{scope:Scope}{cap:List Nat}{capN own:List Str}{wi:TI}
theorem aP{i:Nat}{x:Str}(hN:X.N.Nodup)(hi:X.N[i]?=some x:=by rfl)(hx:Loc X.env.scope x:=by first|exact Or.inl rfl|exact Or.inr rfl)(hf:X.fn x=true\/X.env.scope.names.lookup x=some .local:=by first|exact .inl rfl|exact .inr rfl):QG X (.Name x pos) (bA i):=⟨tW hN hi hx hf⟩
theorem nR:QGs X [] jx:=⟨tX⟩
theorem fX{e:Expr}{es:List Expr}(h1:QG X e g)(h2:QGs X es gs)(hs:(assignEach (e::es) X.env).map (·.2)=assign e X.env::(assignEach es X.env).map (·.2):=by rfl):QGs X (e::es) (dY g gs):=⟨rP h1.h h2.h hs⟩
theorem nQ{es:List Expr}{k n:Nat}(hc:X.calm=true)(h:QGs X es gs)(hn:(assignEach es X.env).length=n:=by rfl)(hst:(assignEach es X.env).findIdx? (·.1)=none:=by rfl):QG X (.Tuple es k pos) (jy X.K n gs):=⟨vJ hc h.h hn hst⟩
theorem wM{o i:Expr}{to ti:TE}{t:kK}(ho:QE X o to)(hi:QE X i ti)(hs:QSet X t)(ha:∀ v,assign (.Subscript o i pos) X.env v=(do
   let ov ←holding [v] (eval o X.env)
   let iv ←holding [v,ov] (eval i X.env)
   standAt pos
   holding [v,ov,iv] (setItem ov iv v)
   release [v,ov,iv] []):=by intro _;rfl):QG X (.Subscript o i pos) (uO to ti t):=⟨vI ho.h hi.h hs.h ha⟩
theorem pT{l:Expr}(hl:QE X l te):QI X tg l (sF X.K te):=⟨tY hl.h⟩
theorem iN{l:Expr}(hl:QE X l te):QI X tg l (uP X.K te):=⟨vK hl.h⟩
theorem dj{a:Expr}{ta:TA}{p:Pos}(hm:X.mg "range" = none)(ha:QA X [a] ta)(hg:Gl X "range":=by rfl)(hs:aI a=true:=by rfl):QI X tg (.Call (.Name "range" p) [a] [] pos) (sG ta):=⟨qs hg hm ha.h (aO hs)⟩
theorem ck:QIf X [] cS:=⟨rR⟩
theorem bD(O:CompOk X scope cap capN)(hc:X.calm=true)(hi:QI X tg iter wi)(hg:∀C s0 H0 ex,QG (aK X scope (own++capN) C s0 H0 ex) tg g)(gk:GK own.length g)(ht:∀C s0 H0 ex,QIf (aK X scope (own++capN) C s0 H0 ex) ifs tc)(he:∀C s0 H0 ex,QE (aK X scope (own++capN) C s0 H0 ex) elt te)(hs:∀x,foldedSetIterable iter X.env x=pure x:=by intro _;rfl):QE X (.ListComp elt [⟨tg,iter,ifs,0⟩] scope pos) (kz own.length cap wi g tc te) :=
 ⟨tV O hc hi.h (fun C s0 H0 ex=>(hg C s0 H0 ex).h) gk (fun C s0 H0 ex=>(ht C s0 H0 ex).h) (fun C s0 H0 ex=>(he C s0 H0 ex).h) hs⟩
variable{st:Stmt}{rest:List Stmt}{t u:TS}{e c:Expr}
theorem b_0:QB X [] sY:=⟨ug⟩
theorem b_1(h:QS X st t):QB X [st] t:=⟨uh h.h⟩
theorem b_c(h1:QS X st t)(h2:QB X rest u):QB X (st::rest) (oS t u):=⟨rS h1.h h2.h⟩
theorem ai(h:QE X e te):QS X (.Return (some e) pos) (ww te):=⟨vO h.h⟩
theorem qz(h:QE X e te)(hs:swapsWith e none pos.line X.env=pure false:=by rfl):QS X (.Expr e pos) (sX te):=⟨ue h.h hs⟩
theorem ax{body els:List Stmt}(hc:QT X c tc)(ht:QB X body t)(hu:QB X els u):QS X (.If c body els pos) (wq tc t u):=⟨xn hc.h ht.h hu.h⟩
theorem aG{i:Nat}{x:Str}{pos':Pos}(hN:X.N.Nodup)(he:QE X e te)(hi:X.N[i]?=some x:=by rfl)(hx:Loc X.env.scope x:=by first|exact Or.inl rfl|exact Or.inr rfl)(hs:swapsWith e (some (.Name x pos')) pos.line X.env=pure false:=by rfl)(hf:X.fn x=true\/X.env.scope.names.lookup x=some .local:=by first|exact .inl rfl|exact .inr rfl):QS X (.Assign [.Name x pos'] e pos) (jK te (bA i)):=⟨vP hN hi hx he.h hs hf⟩
theorem qA{j:Nat}{y:Str}{py spos:Pos}(hN0:X.N.Nodup)(O:CompOk X scope cap capN)(hc:X.calm=true)(hi:QI X tg iter wi)(hg:∀C s0 H0 ex,QG (aK X scope (own++capN) C s0 H0 ex) tg g)(gk:GK own.length g)(ht:∀C s0 H0 ex,QIf (aK X scope (own++capN) C s0 H0 ex) ifs tc)(he:∀C s0 H0 ex,QE (aK X scope (own++capN) C s0 H0 ex) elt te)(hj:X.N[j]?=some y:=by rfl)(hy:Loc X.env.scope y:=by first|exact Or.inl rfl|exact Or.inr rfl)(hsw:swapsWith (.ListComp elt [⟨tg,iter,ifs,0⟩] scope pos) (some (.Name y py)) spos.line X.env=pure true:=by rfl)(hs:∀x,foldedSetIterable iter X.env x=pure x:=by intro _;rfl)(hf:X.fn y=true\/X.env.scope.names.lookup y=some .local:=by first|exact .inl rfl|exact .inr rfl) :
  QS X (.Assign [.Name y py] (.ListComp elt [⟨tg,iter,ifs,0⟩] scope pos) spos) (jK (kz own.length cap wi g tc te) (bA j)) :=
 ⟨uf hN0 hj hy O hc hi.h (fun C s0 H0 ex=>(hg C s0 H0 ex).h) gk (fun C s0 H0 ex=>(ht C s0 H0 ex).h) (fun C s0 H0 ex=>(he C s0 H0 ex).h) hsw hs hf⟩
theorem xq(he:QE X e te)(hg:QG X tg g)(hs:swapsWithSole [tg] e pos.line X.env=pure false:=by rfl)(hw:swappedStores [tg] e X.env=pure none:=by rfl)(h1:(assignEach [tg] X.env).map (·.2)=[assign tg X.env]:=by rfl):QS X (.Assign [tg] e pos) (jK te g):=⟨vM he.h hg.h hs hw h1⟩
theorem iX{body:List Stmt}(hp:PassesOwn (model X.prog X.w) X.A X.env X.xe)(hc:X.calm=true)(hi:QI X tg iter wi)(hg:QG X tg g)(hb:QB X body t)(hs:∀x,foldedSetIterable iter X.env x=pure x:=by intro _;rfl):QS X (.For tg iter body [] pos) (wo wi g t):=⟨vN hp hc hi.h hg.h hb.h hs⟩
end
theorem Fun.okQ{P:Program}{w:World}{K:PySem.W.Frag}{mg:Str->Option Value}{base:Heap}{x qual:Str}{st:Stmt}{f:Addr}{fd:FuncData}{N ps:List Str}{k:Nat}{sp:Sp}(F:Fun K x qual st f fd)(S:FnScope N ps (ak st))(len:∀ vs H Q E,sp vs H Q E->vs.length=ps.length)(hbody:∀ (cdv:Value) (A:Around) (outer:List Env) (s:Shared) (H:Hp) (vs:List V) (Q:VK) (E:XK),Room k (A.deeper (envOfC qual (ak st) s.heap.objs.size f cdv))->sp vs H Q E ->
   ∃ t,QB (cU CX0 P w K mg base N qual (ak st) f cdv A outer s H E).nox (bC st) t/\t { nx:=fun _ H'=>Q .non H',rt:=Q } (cR N vs) H):FnOk P w K mg base CX0 (k+1) f fd ps sp :=
 F.ok S len fun cdv A outer s H vs Q E hr hsp=>let⟨t,h,q⟩:=hbody cdv A outer s H vs Q E hr hsp;⟨t,h.h,q⟩
section
variable{X:Cx}
theorem bu:QOp X (binaryOp .Add) (rI0 fun i j=>.int (i+j)):=⟨vm⟩
theorem sM:QOp X (binaryOp .Sub) (rI0 fun i j=>.int (i-j)):=⟨vx⟩
theorem fD:QOp X (binaryOp .Mult) (rI CMul fun i j=>.int (i*j)):=⟨vq⟩
theorem bx:QOp X (binaryOp .FloorDiv) (rI uy fun i j=>.int (i / j)):=⟨tQ⟩
theorem aM:QOp X (binaryOp .Mod) (rI (fun _ j=>0<j) fun i j=>.int (i%j)):=⟨vp⟩
theorem kx:QOp X (binaryOp .Pow) (rI uA fun i j=>.int (i^j.toNat)):=⟨vw⟩
theorem sL:QOp X (binaryOp .Add) vU:=⟨vn⟩
theorem vd:QOp X (binaryOp .Add) (sQ X.K):=⟨mL⟩
theorem aD:QOp X (compareOp .Eq) rEq:=⟨wU⟩
theorem eG:QOp X (compareOp .NotEq) rNe:=⟨xa⟩
theorem fB:QOp X (compareOp .Lt) (rI0 fun i j=>.bl (decide (i<j))):=⟨wZ⟩
theorem eF:QOp X (compareOp .LtE) (rI0 fun i j=>.bl (decide (i<=j))):=⟨wY⟩
theorem rF:QOp X (compareOp .Gt) (rI0 fun i j=>.bl (decide (j<i))):=⟨wW⟩
theorem nZ:QOp X (compareOp .GtE) (rI0 fun i j=>.bl (decide (j<=i))):=⟨wV⟩
theorem eg:QOp X (compareOp .Is) (fun x y H Q=>y=.non/\Q (.bl (decide (x=.non))) H):=⟨vo⟩
theorem xw:QUn X (unaryOp .USub) (rU fun i=>.int (-i)):=⟨wC⟩
theorem bF:QIx X (rX X.K):=⟨tG⟩
theorem aJ:QIx X (rY X.K):=⟨uU⟩
theorem pX:QSl X (vY X.K):=⟨uq⟩
theorem xr:QSet X sS:=⟨sf⟩
theorem bf:QCall X (.builtin "len") (fun xs H Q=>∃p ys,xs=[.ref p]/\(SqL X.K H p ys\/SqT X.K H p ys)/\Q (.int ys.length) H):=⟨kM⟩
theorem de:QCall X (.builtin "isinstance") (fun xs H Q=>∃x T t b,xs=[x,.ty T]/\TyOf X.K H x t/\PySem.W.kitOne X.K t (.type T)=some b/\Q (.bl b) H):=⟨rg⟩
theorem gM(hc:X.calm=true):QCall X (.builtin "all") (fun xs H Q=>∃(p:Addr) (bs:List Bool),xs=[.ref p]/\SqL X.K H p (bs.map V.bl)/\Q (.bl (bs.all id)) H):=⟨rf hc⟩
theorem wI(hc:X.calm=true):QCall X (.builtin "max") (fun xs H Q=>∃i j,xs=[.int i,.int j]/\Q (.int (if j>i then j else i)) H):=⟨pF hc⟩
theorem wJ(hc:X.calm=true):QCall X (.builtin "min") (fun xs H Q=>∃i j,xs=[.int i,.int j]/\Q (.int (if j<i then j else i)) H):=⟨pG hc⟩
theorem iI:QCall X (.type "tuple") (fun xs H Q=>∃p ys,xs=[.ref p]/\((SqL X.K H p ys/\∀l,H l=none->Q (.ref l) (upd H l (.tup ys)))\/(SqT X.K H p ys/\Q (.ref p) H))):=⟨kg⟩
theorem nL:QCall X (.type "int") (fun xs H Q=>(∃i,xs=[.int i]/\Q (.int i) H)\/∃k,xs=[.bl k]/\Q (.int (if k then 1 else 0)) H):=⟨pE⟩
end
open PySem PySem.Spec PyProof.Rows
mutual
def Dt(H:Hp):PyData->V->Prop
 |.none,v=>v=.non
 |.bool b,v=>v=.bl b
 |.int i,v=>v=.int i
 |.str x,v=>v=.str x
 |.list ds,v=>∃a xs,v=.ref a/\Rd H a (.lst xs)/\DtAll H ds xs
 |.tuple ds,v=>∃a xs,v=.ref a/\Rd H a (.tup xs)/\DtAll H ds xs
 |.dict _,_=>False
def DtAll(H:Hp):List PyData->List V->Prop
 | [],xs=>xs=[]
 |d::ds,xs=>∃y ys,xs=y::ys/\Dt H d y/\DtAll H ds ys
end
section
variable{P:Program}{w:World}{H:Hp}{h:Heap}
mutual
theorem Dt.reads(ok:HOk P w H h):∀(d:PyData) (x:V) (v:Value),Dt H d x->RelV x v->∃as,Reads h v d as
 |.none,x,v,e,r=>by
  have e':x=.non:=by simpa only[Dt]using e
  subst e';cases r;exact⟨_,.none⟩
 |.bool b,x,v,e,r=>by
  have e':x=.bl b:=by simpa only[Dt]using e
  subst e';cases r;exact⟨_,.bool b⟩
 |.int i,x,v,e,r=>by
  have e':x=.int i:=by simpa only[Dt]using e
  subst e';obtain⟨t,rfl⟩:=r;exact⟨_,.int i t⟩
 |.str z,x,v,e,r=>by
  have e':x=.str z:=by simpa only[Dt]using e
  subst e';obtain⟨t,rfl⟩:=r;exact⟨_,.str z t⟩
 |.list ds,x,v,e,r=>by
  have e':∃a xs,x=.ref a/\Rd H a (.lst xs)/\DtAll H ds xs:=by simpa only[Dt]using e
  obtain⟨a,xs,rfl,hr,hd⟩:=e';cases r;obtain⟨_,its,n,rv,eo⟩:=hr.ok ok;obtain⟨as,q⟩:=DtAll.reads ok ds xs its hd rv;exact⟨_,.list eo rfl rfl (by simpa using q)⟩
 |.tuple ds,x,v,e,r=>by
  have e':∃a xs,x=.ref a/\Rd H a (.tup xs)/\DtAll H ds xs:=by simpa only[Dt]using e
  obtain⟨a,xs,rfl,hr,hd⟩:=e';cases r;obtain⟨_,its,rv,o,eo,hc,n,hs⟩:=hr.ok ok;obtain⟨as,q⟩:=DtAll.reads ok ds xs its hd rv;exact⟨_,.tuple eo hc hs (by simpa using q)⟩
 |.dict kvs,x,v,e,r=>by
  have e':False:=by simpa only[Dt]using e
  exact e'.elim
theorem DtAll.reads(ok:HOk P w H h):∀(ds:List PyData) (xs:List V) (vs:List Value),DtAll H ds xs->Vals xs vs->∃as,ReadsAll h vs ds as
 | [],xs,vs,e,r=>by
  have e':xs=[]:=by simpa only[DtAll]using e
  subst e';cases r;exact⟨_,.nil⟩
 |d::ds,xs,vs,e,r=>by
  have e':∃y ys,xs=y::ys/\Dt H d y/\DtAll H ds ys:=by simpa only[DtAll]using e
  obtain⟨y,ys,rfl,h1,h2⟩:=e';cases r with
  |cons r1 r2 =>obtain⟨as,q1⟩:=Dt.reads ok d y _ h1 r1;obtain⟨bs,q2⟩:=DtAll.reads ok ds ys _ h2 r2;exact⟨_,.cons q1 q2⟩
end
end
theorem mF{H:Hp}:∀(ns:List Int),DtAll H (ns.map PyData.int) (ns.map V.int)
 | []=>by simp only[List.map_nil,DtAll]
 |n::ns=>by simp only[zS,DtAll];exact⟨_,_,rfl,by simp only[Dt],mF ns⟩
section
variable{X:Cx}
def xH:R2:=fun x y H Q=>∃dx dy,Dt H dx x/\Dt H dy y/\SeqAt.shaped dx=true/\SeqAt.shaped dy=true/\Q (.bl (!PyData.eqv dx dy)) H
theorem vt(hu:X.A.units+64<cLine):OpR X (compareOp .NotEq) xH:=by intro pins s σ H x y v u Q I rx ry h;obtain⟨dx,dy,h1,h2,s1,s2,q⟩:=h;obtain⟨as,r1⟩:=Dt.reads I.hok dx x v h1 rx;obtain⟨bs,r2⟩:=Dt.reads I.hok dy y u h2 ry;exact ne_dataH r1 r2 s1 s2 hu ⟨.bl _,H,I,rfl,q⟩
end
section
variable{X:Cx}
variable{o e:Expr}{to te:TE}{apos cpos:Pos}
theorem sN(ho:QE X o to)(he:QE X e te)(hs:aI e=true:=by rfl)(hbase:attributeBase o "append" X.env (eval o X.env)=eval o X.env:=by rfl)(hline:(apos.endLine==cpos.line)=true:=by rfl) :
  QE X (.Call (.Attribute o "append" apos) [e] [] cpos) (tBM X.K "list" mP to (di te gL)):=by
 have h1:=aO (es:=[]) (env:=X.env) hs;have h2:starEach ([]:List Expr) X.env=[]:=rfl;refine⟨iV PySem.F.plainAttrs_list PySem.F.slot_list_append PySem.F.type_list_append qa ho.h (pa he.h eQ hs) hbase ?_ hline h1 (by rw[h2];rfl)⟩;rw[h1,h2];rfl
end
open PySem PySem.Spec PyProof.Rows
theorem ku{i j:Int}{A B:Prop}(h1:i≠j->A)(h2:i=j->B):if(!decide (V.int i=V.int j))=true then A else B:=by
 by_cases h:i=j
 ·rw[if_neg (by rw[decide_eq_true (by rw[h])];decide)];exact h2 h
 ·rw[if_pos (by rw[decide_eq_false (fun z=>h (by injection z))];rfl)];exact h1 h
theorem fN{H H':Hp}{p:Addr}{o:HO}(e:Same H H')(h:H p=none):Same H (upd H' p o):=fun b u q=>by rw[aw (aZ q h)];exact e _ _ q
theorem jA{H:Hp}{v:V}(h:isT H v=true):∃a xs,v=.ref a/\H a=some (.tup xs):=by
 cases v with
 |ref a =>
  have h':nS (H a)=true:=h;cases e:H a with
  |none=>rw[e]at h';cases h'
  |some o =>
   cases o with
   |tup xs=>exact⟨a,xs,rfl,e⟩
   |_=>rw[e]at h';cases h'
 |_=>cases h
theorem iH(f:V->Bool)(xs:List V):(((List.range xs.length).map fun i=>f ((xs[i]?).getD .non)).all id)=xs.all f:=by
 rw[List.all_map];have e:((List.range xs.length).all (id∘fun i=>f ((xs[i]?).getD .non)))=xs.all f:=by
  rw[Ze,zH,zH];constructor
  ·intro h x hx;obtain⟨i,hi,rfl⟩:=Zu hx;have:=h i (Zm.mpr hi);simpa[hi]using this
  ·intro h i hi;have hi':=Zm.mp hi;have:=h _ (List.getElem_mem hi');simpa[hi']using this
 exact e
def aF(ns:List Int)(k:Nat):Int:=(ns[k]?).getD 0
theorem br{ns:List Int}{k:Int}(h0:0<=k)(h1:k<ns.length):atI (ns.map V.int) k=some (.int (aF ns k.toNat)):=by
 have hk:k.toNat<ns.length:=by omega
 have ek:k=((k.toNat:Nat):Int):=by omega
 have q:atI (ns.map V.int) ((k.toNat:Nat):Int)=some (.int ns[k.toNat]):=bo (by rw[zE,zd hk]<;>rfl);rw[<-ek]at q;rw[q];unfold aF;rw[zd hk];rfl
theorem rh{ns:List Int}{k:Int}(h0:0<=k)(h1:¬k<ns.length):aF ns k.toNat=0:=by unfold aF;rw[List.getElem?_eq_none (by omega)];rfl
def Asked(K:PySem.W.Frag)(H:Hp)(v:V):Prop :=
 (∃n,TyOf K H v (.type n))/\∀a xs,v=.ref a->H a=some (.tup xs)->xs.length<=1000/\∀x∈xs,∃m,TyOf K H x (.type m)
theorem Asked.same{K:PySem.W.Frag}{H H':Hp}{v:V}(h:Asked K H v)(e:Same H H'):Asked K H' v:=by
 obtain⟨⟨n,ty⟩,h2⟩:=h;refine⟨⟨n,bI e ty⟩,fun a xs hv hx=>?_⟩;subst hv;have q:H a=some (.tup xs):=by
  cases ty with
  |lst q=>rw[e _ _ q]at hx;cases hx
  |frz q=>rw[e _ _ q]at hx;cases hx
  |tup q=>rw[e _ _ q]at hx;cases hx;exact q
  |dK q=>rw[e _ _ q]at hx;cases hx
  |dT q=>rw[e _ _ q]at hx;cases hx
 obtain⟨l,k⟩:=h2 a xs rfl q;exact⟨l,fun x hm=>let⟨m,t⟩:=k x hm;⟨m,bI e t⟩⟩
theorem jL{K:PySem.W.Frag}{H:Hp}{a:Addr}{xs:List V}(h:H a=some (.tup xs))(hl:xs.length<=1000)(hx:∀ x∈xs,∃ m,TyOf K H x (.type m)):Asked K H (.ref a):=⟨⟨_,.tup h⟩,fun b ys e z=>by
 cases e;rw[h]at z;cases z;exact⟨hl,hx⟩⟩
open PySem PySem.Spec PyProof.Rows
section
variable{prog:Program}{w:World}{A:Around}
theorem bM(calm:A.handled=none)(it t:Addr)(apart:t≠it)(xs:Array Value) :
  Draws prog w A it [it,t] xs.size (fun i v=>xs[i]?=some v) (fun i h=>h.IsTupleIter it t i/\h.IsTuple t xs) where
 live:=fun _ _ q=>let⟨o,eo,_⟩:=q.1;⟨o,eo⟩
 frame:=fun _ _ _ q kp=>⟨let⟨o,eo,r⟩:=q.1;⟨o,kp it (by simp) o eo,r⟩,let⟨o,eo,r⟩:=q.2;⟨o,kp t (by simp) o eo,r⟩⟩
 item:=fun i s Q E lt q cont=>by
  have ei:xs[i]?=some xs[i]:=by simp[lt]
  obtain⟨o,eo,ec,ed⟩:=id q.1;obtain⟨p,ep,_,np,edp⟩:=id q.2;have ty:=q.1.typeIs;unfold Builtin.SmallTypes.nextOf;refine za (zT (name:=Str.ofString "__next__") ty F.slot_tuple_iterator_next (Za F.slot_tuple_iterator_next ty F.entry_tuple_iterator_next ?_ (F.args_tuple_iterator_next_1 _)));show wpAny _ _ (field (.ref it) 0 >>= _) _ _ s;refine za (zR eo ed (x:=.ref t) rfl ?_);show wpAny _ _ (if(Value.ref t==Value.none)=true then _ else _) _ _ s;rw[if_neg (show¬((Value.ref t==Value.none)=true)from zo)];show wpAny _ _ (field (.ref it) 1 >>= _) _ _ s;refine za (zR eo ed (x:=.int i 0) rfl ?_);show wpAny _ _ (seqItems? (.ref t) >>= _) _ _ s;refine za (wpAny_seqItems ep edp ?_);simp only[Zt,ei];have sb:=Heap.SameBut.update s.heap it (fun ob=>ob.mapFields fun fs=>fs.setIfInBounds 1 (rawInt (i+1)));refine za (wpAny_setField eo ed (by simp) (zi ⟨xs[i],rfl,zi (cont _ _ s.toks ei ⟨?_,?_⟩ (Heap.SameBut.update ..))⟩))
  ·exact⟨_,Heap.get?_update_self _ eo (Obj.isFreed_of_fields (Obj.data_mapFields ed _)),(Obj.cls_mapFields ..).trans ec,by rw[Obj.data_mapFields ed];simp[rawInt]⟩
  ·exact q.2.extBut (Heap.SameBut.update ..).extBut apart
 done:=fun s Q E q cont=>by
  have ei:xs[xs.size]?=none:=by simp
  obtain⟨o,eo,ec,ed⟩:=id q.1;obtain⟨p,ep,_,np,edp⟩:=id q.2;have ty:=q.1.typeIs;unfold Builtin.SmallTypes.nextOf;refine za (zT (name:=Str.ofString "__next__") ty F.slot_tuple_iterator_next (Za F.slot_tuple_iterator_next ty F.entry_tuple_iterator_next ?_ (F.args_tuple_iterator_next_1 _)));show wpAny _ _ (field (.ref it) 0 >>= _) _ _ s;refine za (zR eo ed (x:=.ref t) rfl ?_);show wpAny _ _ (if(Value.ref t==Value.none)=true then _ else _) _ _ s;rw[if_neg (show¬((Value.ref t==Value.none)=true)from zo)];show wpAny _ _ (field (.ref it) 1 >>= _) _ _ s;refine za (zR eo ed (x:=.int xs.size 0) rfl ?_);show wpAny _ _ (seqItems? (.ref t) >>= _) _ _ s;refine za (wpAny_seqItems ep edp ?_);simp only[Zt,ei];refine za (wpAny_rule (za (wpAny_setField eo ed (by simp) ?_)));show wpAny _ _ (newExc (.type "StopIteration") [] >>= _) _ _ _;refine za ?_;simp only[newExc,newTuple];refine za (Zf ?_ (by size_fits));refine za (m:=firstArgMember _ _) (wpAny_of_eq (a:=Value.none) (by first|rfl|(simp only[firstArgMember];rfl)) (Zf ?_ (by size_fits)));simp only[raiseNew];refine za (wpAny_handled ?_)
  first|rw[show A.in1.handled=none from calm]|rw[calm]
  exact za (zi (wpAny_throw (cont _ _ (((Heap.SameBut.update ..).extBut.push _).push _) ⟨_,zn _ rfl,rfl⟩)))
end
structure ZAp(z u v i j:Addr)(f g:List Addr):Prop where
 uz:u≠z
 vz:v≠z
 uv:u≠v
 ui:u≠i
 uj:u≠j
 vi:v≠i
 vj:v≠j
 iz:i≠z
 jz:j≠z
 ij:i≠j
 zf:z∉f
 zg:z∉g
 vf:v∉f
 vg:v∉g
 jf:j∉f
 ig:i∉g
section
variable{prog:Program}{w:World}{A:Around}{E:Value->Shared->Prop}{s:Shared}{z u v i j:Addr}{f g:List Addr}{n m k:Nat}{P1 P2:Nat->Value->Prop}{S1 S2:Nat->Heap->Prop}{a b:Value}
def nH(z v i j:Addr)(h h':Heap):Prop:=∀c o,c≠z->c≠v->c≠i->c≠j->h.get? c=some o->h'.get? c=some o
theorem bU{c:Addr}{f:List Addr}{d:Addr}(hc:c∈f)(hd:d∉f):c≠d:=fun e=>hd (e▸hc)
theorem lY(d1:Draws prog w A i f n P1 S1)(d2:Draws prog w A j g m P2 S2)(ap:ZAp z u v i j f g)(hz:IsZip s.heap z u v .none)(hu:IsPair s.heap u (.ref i) (.ref j))(hv:IsPair s.heap v a b)(h1:S1 k s.heap)(h2:S2 k s.heap)(l1:k<n)(l2:k<m){Q:Value->Shared->Prop}(cont:∀h' tk x y,P1 k x->P2 k y->IsZip h' z u v (rawInt s.heap.objs.size)->IsPair h' v x y->S1 (k+1) h'->S2 (k+1) h'->IsPair h' s.heap.objs.size x y->nH z v i j s.heap h'->Q (.ref s.heap.objs.size) { s with heap:=h',toks:=tk }) :
  wpAny (model prog w) A (Builtin.«zip.__next__» ⟨[.ref z],[]⟩) (fun fin s'=>∃r,fin=.done (.ret r)/\Q r s') E s:=by
 show wpAny _ _ (field (.ref z) 2 >>= _) _ _ _;refine za (zR hz rfl (x:=.bool false) rfl ?_);show wpAny _ _ (field (.ref z) 3 >>= _) _ _ _;refine za (zR hz rfl (x:=.ref u) rfl (za (wpAny_seqItems hu rfl ?_)));show wpAny _ _ (Builtin.SmallTypes.ownedTupleIsFree (.ref z) >>= _) _ _ _;refine za ?_;unfold Builtin.SmallTypes.ownedTupleIsFree;refine za (zR hz rfl (x:=.none) rfl (zi ?_));simp only[if_true];refine za (wpAny_rule (za (zR hz rfl (x:=.ref v) rfl ?_)));refine za (wpAny_setField_rec hz (by simp) fun q1 z1 b1=>?_)
 replace z1:IsZip q1 z u v .ellipsis:=z1
 refine za ?_;simp only[List.zipIdx_cons,List.zipIdx_nil,List.forIn_cons,List.forIn_nil];refine za (za (wpAny_onRaise ?_));show wpAny _ _ (Builtin.SmallTypes.nextOf (.ref i) >>= _) _ _ _;refine za (d1.item k { s with heap:=q1 } _ _ l1 (d1.frame _ _ _ h1 fun c hc o e=>b1.extBut c o (bU hc ap.zf) e) fun x q2 t2 px s2 b2=>zi ?_);have v2:IsPair q2 v a b:=b2.extBut _ _ ap.vi (b1.extBut _ _ ap.vz hv);refine za (wpAny_seqItems v2 rfl (za (wpAny_updateSeq_pair v2 fun q3 w3 b3=>?_)))
 replace w3:IsPair q3 v x b:=w3
 refine za (wpAny_letGo (zi ?_));refine za (za (wpAny_onRaise ?_));show wpAny _ _ (Builtin.SmallTypes.nextOf (.ref j) >>= _) _ _ _;refine za (d2.item k { s with heap:=q3,toks:=t2 } _ _ l2 (d2.frame _ _ _ h2 fun c hc o e=>b3.extBut c o (bU hc ap.vg) (b2.extBut c o (bU hc ap.ig) (b1.extBut c o (bU hc ap.zg) e))) fun y q4 t4 py s4 b4=>zi ?_);have v4:IsPair q4 v x b:=b4.extBut _ _ ap.vj w3;refine za (wpAny_seqItems v4 rfl (za (wpAny_updateSeq_pair v4 fun q5 w5 b5=>?_)))
 replace w5:IsPair q5 v x y:=w5
 refine za (wpAny_letGo (zi (zi (za (wpAny_seqItems w5 rfl (za (wpAny_newTuple ?_)))))));have sz:q5.objs.size=s.heap.objs.size:=by rw[b5.1,b4.1,b3.1,b2.1,b1.1]
 have z5:IsZip q5 z u v .ellipsis:=b5.extBut _ _ ap.vz.symm (b4.extBut _ _ ap.jz.symm (b3.extBut _ _ ap.vz.symm (b2.extBut _ _ ap.iz.symm z1)));have k5:nH z v i j s.heap q5:=fun c o c1 c2 c3 c4 e=>b5.extBut _ _ c2 (b4.extBut _ _ c4 (b3.extBut _ _ c2 (b2.extBut _ _ c3 (b1.extBut _ _ c1 e))));have s5:S1 (k+1) q5:=d1.frame _ _ _ s2 fun c hc o e=>b5.extBut c o (bU hc ap.vf) (b4.extBut c o (bU hc ap.jf) (b3.extBut c o (bU hc ap.vf) e));have r5:S2 (k+1) q5:=d2.frame _ _ _ s4 fun c hc o e=>b5.extBut c o (bU hc ap.vg) e;have zlt:z<q5.objs.size:=zk z5;show wpAny _ _ (Builtin.SmallTypes.ownedTupleHandOut (.ref z) (.ref q5.objs.size) >>= _) _ _ _;refine za ?_;unfold Builtin.SmallTypes.ownedTupleHandOut;refine za (wpAny_setField_rec (show IsZip (q5.push { cls:=.type "tuple",data:=.seq #[x,y] }) z u v .ellipsis from zc _ z5) (by simp) fun q7 z7 b7=>?_)
 replace z7:IsZip q7 z u v (rawInt q5.objs.size):=z7
 refine wpAny_setField_rec z7 (by simp) fun q8 z8 b8=>?_
 replace z8:IsZip q8 z u v (rawInt q5.objs.size):=z8
 have up:∀c o,c≠z->q5.get? c=some o->q8.get? c=some o:=fun c o c1 e=>b8.extBut _ _ c1 (b7.extBut _ _ c1 (zc _ e));have p8:IsPair q8 q5.objs.size x y:=b8.extBut _ _ (Zq zlt) (b7.extBut _ _ (Zq zlt) (zn _ rfl));rw[sz]at z8 p8;refine zi ⟨_,rfl,?_⟩;show Q (.ref q5.objs.size) _;rw[sz];exact cont q8 _ x y px py z8 (up _ _ ap.vz w5) (d1.frame _ _ _ s5 fun c hc o e=>up c o (bU hc ap.zf) e) (d2.frame _ _ _ r5 fun c hc o e=>up c o (bU hc ap.zg) e) p8 fun c o c1 c2 c3 c4 e=>up c o c1 (k5 c o c1 c2 c3 c4 e)
theorem nA(d1:Draws prog w A i f n P1 S1)(d2:Draws prog w A j g m P2 S2)(ap:ZAp z u v i j f g)(hz:IsZip s.heap z u v .none)(hu:IsPair s.heap u (.ref i) (.ref j))(hv:IsPair s.heap v a b)(h1:S1 n s.heap){Q:Fin->Shared->Prop}(cont:∀h' e,nH z v i j s.heap h'->(∃o,h'.get? e=some o/\o.cls=.type "StopIteration")->E (.ref e) { s with heap:=h' }):wpAny (model prog w) A (Builtin.«zip.__next__» ⟨[.ref z],[]⟩) Q E s:=by
 show wpAny _ _ (field (.ref z) 2 >>= _) _ _ _;refine za (zR hz rfl (x:=.bool false) rfl ?_);show wpAny _ _ (field (.ref z) 3 >>= _) _ _ _;refine za (zR hz rfl (x:=.ref u) rfl (za (wpAny_seqItems hu rfl ?_)));show wpAny _ _ (Builtin.SmallTypes.ownedTupleIsFree (.ref z) >>= _) _ _ _;refine za ?_;unfold Builtin.SmallTypes.ownedTupleIsFree;refine za (zR hz rfl (x:=.none) rfl (zi ?_));simp only[if_true];refine za (wpAny_rule (za (zR hz rfl (x:=.ref v) rfl ?_)));refine za (wpAny_setField_rec hz (by simp) fun q1 z1 b1=>?_)
 replace z1:IsZip q1 z u v .ellipsis:=z1
 refine za ?_;simp only[List.zipIdx_cons,List.zipIdx_nil,List.forIn_cons,List.forIn_nil];refine za (za (wpAny_onRaise ?_));show wpAny _ _ (Builtin.SmallTypes.nextOf (.ref i) >>= _) _ _ _;refine za (d1.done { s with heap:=q1 } _ _ (d1.frame _ _ _ h1 fun c hc o e=>b1.extBut c o (bU hc ap.zf) e) fun q2 e b2 he=>?_);obtain⟨oe,hoe,hce⟩:=he;have z2:IsZip q2 z u v .ellipsis:=b2 _ _ ap.iz.symm z1;have ez:e≠z:=fun x=>by subst x;rw[z2]at hoe;cases hoe;simp at hce
 exact wpAny_setField_rec z2 (by simp) fun q3 _ b3=>cont q3 e (fun c o c1 _ c3 _ x=>b3.extBut _ _ c1 (b2 _ _ c3 (b1.extBut _ _ c1 x))) ⟨oe,b3.extBut _ _ ez hoe,hce⟩
end
section
variable{X:Cx}{pins:List (Addr×Obj)}{σ:St}{H:Hp}{s:Shared}{h':Heap}{ch:List Addr}{t':Nat}
theorem Inv.turnH{H':Hp}(I:Inv X pins σ H s)(hch:∀b∈ch,bB X pins H b)(kp:∀b o,b∉ch->s.heap.get? b=some o->h'.get? b=some o)(up:∀b u,H b=some u->H' b=some u)(dn:∀b o,s.heap.get? b=some o->H b=none->H' b=none)(hok:HOk X.prog X.w H' h') :
  Inv X pins σ H' { s with heap:=h',toks:=t' }:=by
 refine I.step (g':=s.gens) (d':=s.drawn) (ch:=ch) (fun b hb=>?_) (fun b o _ _ hc e _=>kp b o hc e) (fun b o _ _ hc e _=>⟨o.slots,kp b o hc e⟩) (fun b o _ e n=>dn b o e n) (fun b o hc e=>⟨o,kp b o hc e⟩) (fun b xs e=>up _ _ e) (fun b o u e=>up _ _ e) (fun b ps e=>⟨#[],by rw[up _ _ e];simp⟩) (fun m hm=>?_) hok I.bare
 ·obtain⟨f0,f1,f2,f3,f4,f5⟩:=hch b hb;exact⟨f3,f1,f4,f5⟩
 ·obtain⟨o,es,ep,ho,r⟩:=hm;exact⟨o,es,ep,kp _ o (fun z=>(hch _ z).2.1 rfl) ho,r⟩
theorem kZ(I:Inv X pins σ H s)(hch:∀b∈ch,bB X pins H b)(kp:∀b o,b∉ch->s.heap.get? b=some o->h'.get? b=some o):HOk X.prog X.w H h':=fun b u e=>by
 have nin:∀{c:Addr} {q:HO},H c=some q->c∉ch:=fun{c q} e z=>by rw[(hch c z).1]at e;cases e
 refine(I.hok b u e).stay (fun c v hc q=>kp c v ?_ q) (fun _ q=>q) fun _ _ q=>q;rcases hc with z|z
 ·rw[z];exact nin e
 ·exact nin z
theorem Inv.turnM(I:Inv X pins σ H s)(hch:∀b∈ch,bB X pins H b)(kp:∀b o,b∉ch->s.heap.get? b=some o->h'.get? b=some o):Inv X pins σ H { s with heap:=h',toks:=t' } :=
 I.turnH hch kp (fun _ _ e=>e) (fun _ _ _ n=>n) (kZ I hch kp)
theorem Inv.turnT{xs:List V}{its:List Value}(I:Inv X pins σ H s)(hch:∀b∈ch,bB X pins H b)(kp:∀b o,b∉ch->s.heap.get? b=some o->h'.get? b=some o)(hp:IsTup h' s.heap.objs.size its.toArray)(rv:Vals xs its)(hz:xs.length<=sizeLine) :
  Inv X pins σ (upd H s.heap.objs.size (.tup xs)) { s with heap:=h',toks:=t' }:=by
 have fr:=I.hok.fresh (ze s.heap.objs.size);have ne:∀{b:Addr} {u:HO},H b=some u->b≠s.heap.objs.size:=fun{b u} e=>aZ e fr;have hk:=kZ I hch kp;refine I.turnH hch kp (fun b u e=>by rw[aw (ne e)];exact e) (fun b o e n=>by rw[aw (zJ (zk e))];exact n) fun b u e=>?_;by_cases hb:b=s.heap.objs.size
 ·subst hb;rw[af]at e;cases e;exact⟨hz,its,rv,hp⟩
 ·rw[aw hb]at e;exact(hk b u e).stay (fun _ _ _ q=>q) (fun c q=>by rw[aw (ne q)];exact q) fun c ys q=>by rw[aw (ne q)];exact q
end
def Itz(K:PySem.W.Frag)(a b:Addr)(xs ys:List V):It :=
 ⟨fun i H=>i<xs.length/\SqT K H a xs/\SqT K H b ys,fun i H x H'=>∃T p q,H T=none/\xs[i]?=some p/\ys[i]?=some q/\x=.ref T/\H'=upd H T (.tup [p,q]),fun i H=>i=xs.length/\SqT K H a xs/\SqT K H b ys⟩
abbrev zTn(z u v i1 i2 a b:Addr):Nat->Heap->Prop:=fun i h=>IsZip h z u v .none/\IsPair h u (.ref i1) (.ref i2)/\(∃p q,IsPair h v p q)/\h.IsTupleIter i1 a i/\h.IsTupleIter i2 b i
theorem sA{P:Program}{w:World}{K:PySem.W.Frag}{elts:List Expr}{kt:Nat}{tp:Pos}{z u v i1 i2 a b:Addr}{xs ys:List V}(hl:xs.length=ys.length)(D:[z,u,v,i1,i2].Nodup)(ha:∀c∈[z,u,v,i1,i2],c≠a/\c≠b) :
  Turn P w K (.Tuple elts kt tp) (Itz K a b xs ys) [z,u,v,i1,i2] z (zTn z u v i1 i2 a b):=by
 have nd:(z≠u/\z≠v/\z≠i1/\z≠i2)/\(u≠v/\u≠i1/\u≠i2)/\(v≠i1/\v≠i2)/\i1≠i2:=by simpa using D
 obtain⟨⟨zu,zv,z1,z2⟩,⟨uv,u1,u2⟩,⟨v1,v2⟩,i12⟩:=nd;have az:=ha z (by simp);have av:=ha v (by simp);have a1:=ha i1 (by simp);have a2:=ha i2 (by simp);have ap:ZAp z u v i1 i2 [i1,a] [i2,b]:=⟨zu.symm,zv.symm,uv,u1,u2,v1,v2,z1.symm,z2.symm,i12,by simp[z1,az.1],by simp[z2,az.2],by simp[v1,av.1],by simp[v2,av.2],by simp[i12.symm,a2.1],by simp[i12,a1.2]⟩
 refine⟨by simp,fun i h st c hc=>?_,fun i h h' st k=>?_,?_,?_,fun A i s Q E st h=>wpAny_pyIter_zip st.1 h⟩
 ·obtain⟨e1,e2,⟨p,q,e3⟩,⟨o4,e4,_,d4⟩,⟨o5,e5,_,d5⟩⟩:=st;simp only[zw,zL,Zr]at hc;rcases hc with rfl|rfl|rfl|rfl|rfl
  ·exact⟨_,e1,fun v z=>nomatch z⟩
  ·exact⟨_,e2,fun v z=>nomatch z⟩
  ·exact⟨_,e3,fun v z=>nomatch z⟩
  ·exact⟨_,e4,fun v z=>by rw[d4]at z;cases z⟩
  ·exact⟨_,e5,fun v z=>by rw[d5]at z;cases z⟩
 ·obtain⟨e1,e2,⟨p,q,e3⟩,⟨o4,e4,r4⟩,⟨o5,e5,r5⟩⟩:=st;exact⟨k z (by simp) _ e1,k u (by simp) _ e2,⟨p,q,k v (by simp) _ e3⟩,⟨o4,k i1 (by simp) _ e4,r4⟩,⟨o5,k i2 (by simp) _ e5,r5⟩⟩
 ·intro X hP hw hK hc i pins s σ H E I hf st hg;subst hP hw hK;obtain⟨e1,e2,⟨p,q,e3⟩,e4,e5⟩:=st;obtain⟨hi,hx,hy⟩:=hg;obtain⟨its,rx,px,zx⟩:=I.tuple hx;obtain⟨jts,ry,py,zy⟩:=I.tuple hy;have lx:i<its.toArray.size:=by rw[zh,<-rx.length];exact hi
  have ly:i<jts.toArray.size:=by rw[zh,<-ry.length,<-hl];exact hi
  have hh:=I.ok.hd hc;have hT:s.TypeIs (.ref z) "zip":=⟨_,e1,rfl⟩
  unfold pyNext;refine za (wpAny_attempt (zT (name:=Str.ofString "__next__") hT Zs (Za Zs hT F.entry_zip_next
   (lY (bM (A:=X.A.in1) hh i1 a a1.1.symm its.toArray) (bM (A:=X.A.in1) hh i2 b a2.2.symm jts.toArray) ap e1 e2 e3 ⟨e4,px⟩ ⟨e5,py⟩ lx ly fun h' tk x y qx qy zz vv s1 s2 pp kp=>zi ?_) (F.args_zip_next_1 _))))
  refine⟨_,rfl,wpAny_letOwnedTupleGo_zip (s:={ s with heap:=h',toks:=tk }) zz fun h2 z2' sb=>?_⟩;obtain⟨xv,ex⟩:∃xv,xs[i]?=some xv:=⟨xs[i],by simp[hi]⟩
  obtain⟨yv,ey⟩:∃yv,ys[i]?=some yv:=⟨ys[i]'(by omega),by simp[show i<ys.length by omega]⟩
  obtain⟨x',gx,rxv⟩:=rx.get ex;obtain⟨y',gy,ryv⟩:=ry.get ey;have qx':its[i]?=some x:=by simpa using qx
  have qy':jts[i]?=some y:=by simpa using qy
  rw[gx]at qx';rw[gy]at qy';cases qx';cases qy';have ltz:z<s.heap.objs.size:=zk e1;have kp2:∀c o,c∉[z,u,v,i1,i2]->s.heap.get? c=some o->h2.get? c=some o:=fun c o hc e=>by simp only[zw,zL,Zr,not_or]at hc;exact sb.extBut c o hc.1 (kp c o hc.1 hc.2.2.1 hc.2.2.2.1 hc.2.2.2.2 e)
  have tT:IsTup h2 s.heap.objs.size [x,y].toArray:=⟨_,sb.extBut _ _ (Zq ltz) pp,rfl,_,rfl⟩
  refine⟨.ref s.heap.objs.size,upd H s.heap.objs.size (.tup [xv,yv]),I.turnT (t':=tk) hf kp2 tT (.cons rxv (.cons ryv .nil)) (sz rfl),rfl,⟨_,xv,yv,I.hok.fresh (ze _),ex,ey,rfl,rfl⟩,?_,fun c hc=>?_⟩
  ·exact⟨z2',sb.extBut _ _ zu.symm (kp _ _ zu.symm uv u1 u2 e2),⟨_,_,sb.extBut _ _ zv.symm vv⟩,s1.1.extBut sb.extBut z1.symm,s2.1.extBut sb.extBut z2.symm⟩
  ·rw[aw]
   ·exact(hf c hc).1
   ·obtain⟨o,eo,_⟩:∃o,s.heap.get? c=some o/\True:=by
     simp only[zw,zL,Zr]at hc;rcases hc with rfl|rfl|rfl|rfl|rfl
     ·exact⟨_,e1,trivial⟩
     ·exact⟨_,e2,trivial⟩
     ·exact⟨_,e3,trivial⟩
     ·obtain⟨o,eo,_⟩:=e4;exact⟨o,eo,trivial⟩
     ·obtain⟨o,eo,_⟩:=e5;exact⟨o,eo,trivial⟩
    exact zJ (zk eo)
 ·intro X hP hw hK hc i pins s σ H E I hf st hg;subst hP hw hK;obtain⟨e1,e2,⟨p,q,e3⟩,e4,e5⟩:=st;obtain⟨rfl,hx,hy⟩:=hg;obtain⟨its,rx,px,zx⟩:=I.tuple hx;obtain⟨jts,ry,py,zy⟩:=I.tuple hy;have lx:its.toArray.size=xs.length:=by rw[zh,<-rx.length]
  have hh:=I.ok.hd hc;have hT:s.TypeIs (.ref z) "zip":=⟨_,e1,rfl⟩
  unfold pyNext;refine za (wpAny_attempt (zT (name:=Str.ofString "__next__") hT Zs (Za Zs hT F.entry_zip_next
   (nA (bM (A:=X.A.in1) hh i1 a a1.1.symm its.toArray) (bM (A:=X.A.in1) hh i2 b a2.2.symm jts.toArray) ap e1 e2 e3 ⟨by rw[lx];exact e4,px⟩ fun h' e kp he=>?_) (F.args_zip_next_1 _))))
  obtain⟨o,ho,hco⟩:=he;refine za (wpAny_isInstance (T:="StopIteration") (b:=true) ⟨o,ho,hco⟩ isSubtype_stop (zi ⟨rfl,?_⟩));exact I.turnM (t':=s.toks) hf fun c ob hc e=>by simp only[zw,zL,Zr,not_or]at hc;exact kp c ob hc.1 hc.2.2.1 hc.2.2.2.1 hc.2.2.2.2 e
theorem nW(l1 l2:Addr)(xs ys:Array Value) :
  Meets (Builtin.«zip.__new__» ⟨[.type "zip",.ref l1,.ref l2],[]⟩) (fun _ R s=>s.heap.IsTuple l1 xs/\s.heap.IsTuple l2 ys /\
   R (.ok (.ret (.ref ((((s.heap.push { cls:=.type "tuple_iterator",data:=.fields #[.ref l1,.int 0 0] }).push { cls:=.type "tuple_iterator",data:=.fields #[.ref l2,.int 0 0] }).push { cls:=.type "tuple",data:=.seq #[.ref s.heap.objs.size,.ref (s.heap.push { cls:=.type "tuple_iterator",data:=.fields #[.ref l1,.int 0 0] }).objs.size] }).push { cls:=.type "tuple",data:=.seq #[.none,.none] }).objs.size)))
    { s with heap:=((((s.heap.push { cls:=.type "tuple_iterator",data:=.fields #[.ref l1,.int 0 0] }).push { cls:=.type "tuple_iterator",data:=.fields #[.ref l2,.int 0 0] }).push { cls:=.type "tuple",data:=.seq #[.ref s.heap.objs.size,.ref (s.heap.push { cls:=.type "tuple_iterator",data:=.fields #[.ref l1,.int 0 0] }).objs.size] }).push { cls:=.type "tuple",data:=.seq #[.none,.none] }).push { cls:=.type "zip",data:=.fields #[.none,.bool false,.bool false,.ref ((s.heap.push { cls:=.type "tuple_iterator",data:=.fields #[.ref l1,.int 0 0] }).push { cls:=.type "tuple_iterator",data:=.fields #[.ref l2,.int 0 0] }).objs.size,.ref (((s.heap.push { cls:=.type "tuple_iterator",data:=.fields #[.ref l1,.int 0 0] }).push { cls:=.type "tuple_iterator",data:=.fields #[.ref l2,.int 0 0] }).push { cls:=.type "tuple",data:=.seq #[.ref s.heap.objs.size,.ref (s.heap.push { cls:=.type "tuple_iterator",data:=.fields #[.ref l1,.int 0 0] }).objs.size] }).objs.size] } }) :=
 .of_wp fun prog w A R s h=>by
  obtain⟨hp,g,d,tk,os⟩:=s;obtain⟨t1,t2,h⟩:=h;have hsub:=sub_zip;have T1:Heap.IsTuple (Shared.heap ⟨hp,g,d,tk,os⟩) l1 xs:=t1;have T2:Heap.IsTuple (Shared.heap ⟨hp.push { cls:=.type "tuple_iterator",data:=.fields #[.ref l1,.int 0 0] },g,d,tk,os⟩) l2 ys:=Heap.IsTuple.push t2 _
  wp_walk using wpAny_pyIter_tuple T1,wpAny_pyIter_tuple T2
  exact⟨_,rfl,h⟩
theorem qe(n:Nat):[n+4,n+2,n+3,n,n+1].Nodup:=by simp
def uQ(K:PySem.W.Frag)(ta:TA):TI:=fun σ H R=>ta σ H fun vs H1=>∃a b xs ys,vs=[.ref a,.ref b]/\SqT K H1 a xs/\SqT K H1 b ys/\xs.length=ys.length/\R (Itz K a b xs ys) H1
section
variable{X:Cx}
theorem vL{e1 e2:Expr}{ta:TA}{p pos tp:Pos}{elts:List Expr}{kt:Nat}(hg:Gl X "zip")(hm:X.mg "zip" = none)(ha:PA X [e1,e2] ta)(n1:aI e1=true)(n2:aI e2=true):PI X (.Tuple elts kt tp) (.Call (.Name "zip" p) [e1,e2] [] pos) (uQ X.K ta):=by
 intro pins s σ H R I h;refine Call_ (dM I hg hm boot_zip (Zi (thn (ha pos pins s σ H _ I h) fun us s1 hz9=>?_) (aO n1) (bv (by simp[n2]))));obtain⟨vs,H1,I1,r1,q1⟩:=hz9;obtain⟨a,b,xs,ys,e,hx,hy,hl,q⟩:=q1;subst e;obtain⟨ua,ub,rfl,ra,rb⟩:=gZ r1;cases ra;cases rb;obtain⟨its,rx,px,zx⟩:=I1.tuple hx;obtain⟨jts,ry,py,zy⟩:=I1.tuple hy;refine callType_new F.called_zip (by decide) (F.typeCall_zip_2 _ _) (F.newCall_zip_2 _ _) (fun obj=>F.args_object_init_3 obj _ _) F.entry_zip_new (nW a b its.toArray jts.toArray) ⟨px,py,?_⟩;generalize ea:({ cls:=.type "tuple_iterator",data:=.fields #[.ref a,.int 0 0] }:Obj)=oa;generalize eb:({ cls:=.type "tuple_iterator",data:=.fields #[.ref b,.int 0 0] }:Obj)=ob;have z1:(s1.heap.push oa).objs.size=s1.heap.objs.size+1:=Zo ..;have z2:((s1.heap.push oa).push ob).objs.size=s1.heap.objs.size+2:=by rw[Zo,z1]
 rw[z2,z1];generalize eu:({ cls:=.type "tuple",data:=.seq #[.ref s1.heap.objs.size,.ref (s1.heap.objs.size+1)] }:Obj)=ou;have z3:(((s1.heap.push oa).push ob).push ou).objs.size=s1.heap.objs.size+3:=by rw[Zo,z2]
 generalize ev:({ cls:=.type "tuple",data:=.seq #[.none,.none] }:Obj)=ov;have z4:((((s1.heap.push oa).push ob).push ou).push ov).objs.size=s1.heap.objs.size+4:=by rw[Zo,z3]
 rw[z4,z3];generalize ez:({ cls:=.type "zip",data:=.fields #[.none,.bool false,.bool false,.ref (s1.heap.objs.size+2),.ref (s1.heap.objs.size+3)] }:Obj)=oz;have g5:(((((s1.heap.push oa).push ob).push ou).push ov).push oz).get? (s1.heap.objs.size+4)=some oz:=by rw[<-z4];exact zn _ (by rw[<-ez];rfl)
 have g4:(((((s1.heap.push oa).push ob).push ou).push ov).push oz).get? (s1.heap.objs.size+3)=some ov:=by rw[<-z3];exact zc _ (zn _ (by rw[<-ev];rfl))
 have g3:(((((s1.heap.push oa).push ob).push ou).push ov).push oz).get? (s1.heap.objs.size+2)=some ou:=by rw[<-z2];exact zc _ (zc _ (zn _ (by rw[<-eu];rfl)))
 have g2:(((((s1.heap.push oa).push ob).push ou).push ov).push oz).get? (s1.heap.objs.size+1)=some ob:=by rw[<-z1];exact zc _ (zc _ (zc _ (zn _ (by rw[<-eb];rfl))))
 have g1:(((((s1.heap.push oa).push ob).push ou).push ov).push oz).get? s1.heap.objs.size=some oa:=zc _ (zc _ (zc _ (zc _ (zn _ (by rw[<-ea];rfl)))));have kp:∀c o,s1.heap.get? c=some o->(((((s1.heap.push oa).push ob).push ou).push ov).push oz).get? c=some o:=fun c o e=>zc _ (zc _ (zc _ (zc _ (zc _ e))));generalize((((s1.heap.push oa).push ob).push ou).push ov).push oz=hN at g1 g2 g3 g4 g5 kp ⊢;have I2:Inv X pins σ H1 { s1 with heap:=hN }:=I1.kept (t':=s1.toks) kp;have la:a<s1.heap.objs.size:=px.lt;have lb:b<s1.heap.objs.size:=py.lt;subst ea eb eu ev ez;have base:∀c∈[s1.heap.objs.size+4,s1.heap.objs.size+2,s1.heap.objs.size+3,s1.heap.objs.size,s1.heap.objs.size+1],s1.heap.objs.size<=c:=fun c hc=>by simp only[zw,zL,Zr]at hc;omega
 refine⟨⟨_,g5,rfl⟩,?_⟩;show wpAny (model X.prog X.w) X.A (pyIter (.ref (s1.heap.objs.size+4))) (PIE X pins σ (.Tuple elts kt tp) R) X.xe { s1 with heap:=hN };refine wpAny_pyIter_zip g5 ?_;refine⟨s1.heap.objs.size+4,[s1.heap.objs.size+4,s1.heap.objs.size+2,s1.heap.objs.size+3,s1.heap.objs.size,s1.heap.objs.size+1],zTn (s1.heap.objs.size+4) (s1.heap.objs.size+2) (s1.heap.objs.size+3) s1.heap.objs.size (s1.heap.objs.size+1) a b,_,H1,rfl,I2,
  sA hl ?_ (fun c hc=>⟨Zq (zl la (base c hc)),Zq (zl lb (base c hc))⟩),⟨g5,g3,⟨_,_,g4⟩,⟨_,g1,rfl,rfl⟩,⟨_,g2,rfl,rfl⟩⟩,fun c hc=>?_,q⟩
 ·exact qe s1.heap.objs.size
 ·exact I1.fpOk (base c hc) (I1.hok.fresh (base c hc))
theorem sJ{e1 e2:Expr}{ta:TA}{p pos tp:Pos}{elts:List Expr}{kt:Nat}(hm:X.mg "zip" = none)(ha:QA X [e1,e2] ta)(hg:Gl X "zip":=by rfl)(n1:aI e1=true:=by rfl)(n2:aI e2=true:=by rfl):QI X (.Tuple elts kt tp) (.Call (.Name "zip" p) [e1,e2] [] pos) (uQ X.K ta):=⟨vL hg hm ha.h n1 n2⟩
end
open PySem PySem.Spec PyProof.Rows
theorem rj{J:It}{N n:Nat}{cap:List Nat}{g:TG}{tc:TT}{te:TE}{σ:St}{H0:Hp}{Q:VK}(keep:Nat->Bool)(f:Nat->V)(hz:N<=1000)(hgo:∀ i H,i<N->Same H0 H->J.go i H)(hst:∀ H,Same H0 H->J.stop N H)(ht:∀ i H x H',i<N->Same H0 H->J.yld i H x H'->∀ (A:VK) (B:Hp->Prop),(keep i=true->∀ H4,Same H H4->A (f i) H4)->(keep i=false->∀ H4,Same H H4->B H4) ->
   g x (bn n cap σ) H' fun σ2 H2=>tc σ2 H2 fun b H3=>if b=true then te σ2 H3 A else B H3)(hq:∀ p H,Same H0 H->H p=none->Q (.ref p) (upd H p (.lst (((List.range N).filter keep).map f)))):cq n cap g tc te σ J H0 Q:=by
 refine⟨fun i m ys H=>m=N-i/\i<=N/\Same H0 H/\ys=((List.range i).filter keep).map f,⟨N,by simp,Zv _,Same.refl _,rfl⟩,?_⟩;rintro i m ys H ⟨rfl,hi,sm,rfl⟩;by_cases hlt:i<N
 ·refine .inr ⟨hgo i H hlt sm,?_,fun x H' y=>?_⟩
  ·rw[zb];have:=List.length_filter_le keep (List.range i);rw[Zy]at this;exact cJ (by omega)
  ·refine ht i H x H' hlt sm y _ _ (fun k H4 s4=>⟨N-(i+1),by omega,rfl,hlt,sm.trans s4,?_⟩) (fun k H4 s4=>⟨N-(i+1),by omega,rfl,hlt,sm.trans s4,?_⟩)
   ·rw[List.range_succ,List.filter_append,Zj];simp[k]
   ·rw[List.range_succ,List.filter_append,Zj];simp[k]
 ·have e:i=N:=by omega
  subst e;exact .inl ⟨hst H sm,fun p hp=>hq p H sm hp⟩
theorem rk{K:PySem.W.Frag}{a b:Addr}{xs ys:List V}{n:Nat}{cap:List Nat}{te:TE}{σ:St}{H0:Hp}{Q:VK}(f:Nat->V)(hz:xs.length<=1000)(ha:SqT K H0 a xs)(hb:SqT K H0 b ys)(hl:xs.length=ys.length)(he:∀i x y H,xs[i]?=some x->ys[i]?=some y->Same H0 H->∀R:VK,(∀H',Same H H'->R (f i) H')->te (((bn n cap σ).set 0 (some x)).set 1 (some y)) H R)(hq:∀p H,Same H0 H->H p=none->Q (.ref p) (upd H p (.lst ((List.range xs.length).map f)))):cq n cap (jy K 2 (dY (bA 0) (dY (bA 1) jx))) cS te σ (Itz K a b xs ys) H0 Q:=by
 refine rj (N:=xs.length) (fun _=>true) f hz (fun i H hi sm=>⟨hi,cC sm ha,cC sm hb⟩) (fun H sm=>⟨rfl,cC sm ha,cC sm hb⟩) (fun i H x H' hi sm y A B kA kB=>?_) (fun p H sm hp=>?_)
 ·obtain⟨T,p,q,hT,hx,hy,rfl,rfl⟩:=y;have s1:=aj hT (.tup [p,q]);refine⟨T,[p,q],rfl,SqT.of af,rfl,p,[q],rfl,q,[],rfl,rfl,?_⟩;unfold cS;refine aB ?_;exact he i p q _ hx hy (sm.trans s1) _ fun H4 s4=>kA rfl H4 (s1.trans s4)
 ·have:=hq p H sm hp;rw[List.filter_eq_self.mpr (fun _ _=>rfl)];exact this
def sP:R2:=fun x y H Q=>∃a b xs ys,x=.ref a/\y=.ref b/\H a=some (.tup xs)/\H b=some (.tup ys)/\xs.length+ys.length<=sizeLine/\∀p H',Same H H'->H' p=some (.tup (xs++ys))->Q (.ref p) H'
section
variable{X:Cx}
theorem tP:OpR X (binaryOp .Add) sP:=by
 intro pins s σ H x y v u Q I rx ry h;obtain⟨a,b,xs,ys,rfl,rfl,ha,hb,hz,q⟩:=h;by_cases hx:xs=[]
 ·cases rx;cases ry;obtain⟨its,r1,p1,_⟩:=I.tuple (SqT.of (K:=X.K) ha);obtain⟨its2,r2,p2,_⟩:=I.tuple (SqT.of (K:=X.K) hb);obtain⟨⟨cls,dd,data,sl⟩,ho,hc,n,hd⟩:=id p1;obtain⟨⟨cls2,dd2,data2,sl2⟩,ho2,hc2,n2,hd2⟩:=id p2;simp only at hc hd hc2 hd2;subst hc hd hc2 hd2;have e:its=[]:=r1.nil_iff.mpr hx;subst e;refine PySem.concat_meets ⟨_,ho,rfl⟩ ⟨_,ho2,rfl⟩ noFill_tuple_add seq_tuple_add PySem.F.slot_tuple_add PySem.F.entry_tuple_add (PySem.F.args_tuple_add_2 _ _)
   (tuple_addW0 a b _ its2.toArray n n2 dd dd2 sl sl2 (by simp)) ⟨ho,ho2,⟨.ref b,H,I,rfl,q b H (Same.refl H) ?_⟩⟩
  rw[hx];exact hb
 ·exact mL pins s σ H _ _ v u Q I rx ry ⟨a,b,xs,ys,rfl,rfl,SqT.of ha,SqT.of hb,hx,hz,fun e=>q a H (Same.refl H) (by rw[e,List.append_nil];exact ha),fun _ p hp=>q p _ (aj hp _) af⟩
theorem qi:QOp X (binaryOp .Add) sP:=⟨tP⟩
theorem fz{ns:List Int}{i:Nat}{x:V}(h:(ns.map V.int)[i]?=some x):x=.int (aF ns i)/\i<ns.length:=by
 rw[zE]at h;unfold aF;cases e:ns[i]? with
 |none=>rw[e]at h;cases h
 |some z =>rw[e]at h;cases h;exact⟨rfl,(zj.mp e).1⟩
theorem fh{ns:List Int}{i:Nat}(h:i<ns.length):ns[i]=aF ns i:=by unfold aF;rw[zd h];rfl
theorem lh(f:Nat->Int)(n:Nat):((List.range n).map f).map V.int=(List.range n).map fun i=>V.int (f i):=by rw[List.map_map];rfl
theorem lE{n d:Nat}{h:Int}(h0:0<=h):HT.sIx n d (some h)=min h.toNat n:=by have e:=HT.sIx_nat n d h.toNat;rw[show((h.toNat:Nat):Int)=h by omega]at e;exact e
variable{K:PySem.W.Frag}(hK:X.K=K)
include hK
theorem nz:QIx X (rX K):=by subst hK;exact bF
theorem qR:QIx X (rY K):=by subst hK;exact aJ
theorem pQ{es:List Expr}{k n:Nat}{gs:TGs}{pos:Pos}(hc:X.calm=true)(h:QGs X es gs)(hn:(assignEach es X.env).length=n:=by rfl)(hst:(assignEach es X.env).findIdx? (·.1)=none:=by rfl):QG X (.Tuple es k pos) (jy K n gs):=by subst hK;exact nQ hc h hn hst
omit hK
end
open PySem PySem.Spec PyProof.Rows PySem.W
section
variable{X:Cx}
theorem gU{st:Stmt}:QS X st (fun _ _ _=>False):=⟨fun _ _ _ _ _ _ h=>h.elim⟩
variable{o e d:Expr}{to te td:TE}{apos cpos:Pos}
theorem fR{prog:Program}{w:World}{A:Around}{E:Value->Shared->Prop}{s:Shared}{t sl:Addr}{items:Array Value}{vl vu:Value}{lo hi:Option Int}{Q:Value->Shared->Prop}(ht:IsTup s.heap t items)(hs:s.heap.IsSliceOf sl vl vu .none)(pl:IsPart vl lo)(pu:IsPart vu hi)(hw:HT.sIx items.size 0 lo=0/\HT.sIx items.size items.size hi=items.size)(h:Q (.ref t) s):wpAny (model prog w) A (getItem (.ref t) (.ref sl)) Q E s:=by
 obtain⟨os,hos,hcs,hds⟩:=id hs;have hTs:s.TypeIs (.ref sl) "slice":=⟨os,hos,hcs⟩
 unfold getItem
 try with_reducible refine wpAny_holding ?_
 first|refine za (zi ?_)|skip
 refine za (wpAny_sequenceKey ht.typeIs (by decide) ?_);refine za (zT (name:=Str.ofString "__getitem__") ht.typeIs zX
  (Za zX ht.typeIs entry_tuple_getitem ?_ (args_tuple_getitem _ _)))
 show wpAny _ _ (Builtin.Tuple.tupleItemsOf (.ref t) >>= _) _ _ s;refine za (tupleItemsOf_ ht ?_);refine za (wpAny_typeOf hTs ?_);rw[if_pos (by decide)];refine za (HT.sliceApplied_gen hs pl pu ?_);show wpAny _ _ (if(((HT.sIx items.size 0 lo:Nat):Int)==0&&(1:Int)==1&&(HT.sIx items.size items.size hi-HT.sIx items.size 0 lo)==items.size)=true then _ else _) _ _ s;rw[if_pos (by rw[hw.1,hw.2];simp)];refine za (m:=Builtin.Tuple.tupleIsExact _) ?_;unfold Builtin.Tuple.tupleIsExact;refine za (wpAny_typeOf ht.typeIs (zi ?_));rw[if_pos (by decide)];exact za (wpAny_rule (zi ⟨_,rfl,zi h⟩))
def xI:V->Option Int->Option Int->Hp->VK->Prop:=fun x lo hi H Q=>∃a xs,x=.ref a/\H a=some (.tup xs)/\∀p H',Same H H'->H' p=some (.tup (bt xs lo hi))->Q (.ref p) H'
theorem pY:QSl X xI:=by
 refine⟨?_⟩;intro pins s σ H x v vl vu lo hi sl Q I rx hs pl pu h;obtain⟨a,xs,rfl,hx,q⟩:=h;by_cases hw:HT.sIx xs.length 0 lo=0/\HT.sIx xs.length xs.length hi=xs.length
 ·cases rx;obtain⟨its,r,ht,hz⟩:=I.tuple (SqT.of (K:=X.K) hx);have hlen:its.toArray.size=xs.length:=by rw[zh];exact r.length.symm
  refine⟨"tuple",_,zX.lookup,ht.typeIs,fR ht hs pl pu (by rw[hlen];exact hw) ⟨.ref a,H,I,rfl,q a H (Same.refl H) ?_⟩⟩;unfold bt;rw[hw.1,hw.2,List.drop_zero,Nat.sub_zero,List.take_length];exact hx
 ·exact wf pins s σ H _ v vl vu lo hi sl Q I rx hs pl pu ⟨a,xs,rfl,SqT.of hx,hw,fun p hp=>q p _ (aj hp _) af⟩
end
section
variable{X:Cx}{pins:List (Addr×Obj)}{σ:St}{H:Hp}{s:Shared}{h':Heap}
theorem fE{P:Program}{w:World}{H:Hp}{h:Heap}{a:Addr}{o:HO}(x:ObjOk P w H h a o):∃ob,h.get? a=some ob:=by
 cases o with
 |lst xs =>obtain⟨_,_,_,_,e⟩:=x;exact⟨_,e⟩
 |tup xs =>obtain⟨_,_,_,ob,e,_⟩:=x;exact⟨ob,e⟩
 |dK kvs =>obtain⟨_,_,_,_,ob,_,_,e,_⟩:=x;exact⟨ob,e⟩
 |dT kvs =>obtain⟨_,_,_,_,ob,_,_,e,_⟩:=x;exact⟨ob,e⟩
 |set S n =>obtain⟨ob,_,_,_,e,_⟩:=x;exact⟨ob,e⟩
 |ins C dx fs =>obtain⟨_,_,_,e,_⟩:=x;exact⟨_,e⟩
 |own y=>exact x
 |xd fs =>obtain⟨_,⟨ob,_,_,e,_⟩,_⟩:=x;exact⟨ob,e⟩
 |rng lo hi =>obtain⟨_,_,_,e⟩:=x;exact⟨_,e⟩
 |frz ob u=>exact⟨ob,x.1⟩
 |tbl ps=>exact⟨_,x⟩
 |met f y=>exact⟨_,x⟩
 |ext φ=>exact x.2.1
theorem dE(I:Inv X pins σ H s){a:Addr}(hg:s.heap.get? a=none):H a=none:=by
 cases q:H a with
 |none=>rfl
 |some u =>obtain⟨ob,e⟩:=fE (I.hok a u q);rw[hg]at e;cases e
theorem Inv.laidF{a:Addr}{o:HO}{t':Nat}(I:Inv X pins σ H s)(k:∀b u,b≠X.env.locals->s.heap.get? b=some u->h'.get? b=some u)(hn:∃m,s.heap.Ns X.env.locals m/\h'.Ns X.env.locals m)(hg:s.heap.get? a=none)(new:ObjOk X.prog X.w (upd H a o) h' a o):Inv X pins σ (upd H a o) { s with heap:=h',toks:=t' }:=by
 have fr:=dE I hg;have ne:∀{b:Addr} {u:HO},H b=some u->b≠a:=fun{b u} e=>aZ e fr;have lt:∀{b:Addr} {u:Obj},s.heap.get? b=some u->b≠a:=fun{b u} e z=>by rw[z,hg]at e;cases e
 have neL:∀{b:Addr} {u:HO},H b=some u->b≠X.env.locals:=fun{b u} e=>aZ e I.free;refine I.step (g':=s.gens) (d':=s.drawn) (ch:=[]) (fun b hb=>by simp at hb) (fun b o hL _ _ e _=>k b o hL e) (fun b o hL _ _ e _=>⟨o.slots,k b o hL e⟩) (fun b o _ e n=>by rw[aw (lt e)];exact n) (fun b o _ e=>?_)
  (fun b xs e=>by rw[aw (ne e)];exact e) (fun b o u e=>by rw[aw (ne e)];exact e) (fun b ps e=>⟨#[],by rw[aw (ne e),e];simp⟩) (fun m' hm'=>?_) (fun b u e=>?_) I.bare
 ·by_cases hL:b=X.env.locals
  ·obtain⟨m,_,o',_,_,e',_⟩:=hn;exact⟨o',by rw[hL];exact e'⟩
  ·exact⟨o,k b o hL e⟩
 ·obtain⟨m,h1,h2⟩:=hn;rw[hm'.eq_nsMap,<-h1.eq_nsMap];exact h2
 ·by_cases hb:b=a
  ·subst hb;rw[af]at e;cases e;exact new
  ·rw[aw hb]at e;refine(I.hok b u e).stay (fun c v hc q=>k c v ?_ q) (fun c q=>by rw[aw (ne q)];exact q) fun c ys q=>by rw[aw (ne q)];exact q
   rcases hc with z|z
   ·rw[z];exact neL e
   ·exact neL z
def qw(base h:Heap)(L:Addr):List (Addr×Obj):=(List.range h.objs.size).filterMap fun b=>if b=L\/(base.get? b).isSome=true then none else(h.get? b).map fun o=>(b,o)
theorem hW(base h:Heap)(L:Addr):News base L h (qw base h L):=fun p hp=>by
 obtain⟨b,_,e⟩:=List.mem_filterMap.mp hp;by_cases c:b=L\/(base.get? b).isSome=true
 ·rw[if_pos c]at e;cases e
 ·rw[if_neg c]at e;cases q:h.get? b with
  |none=>rw[q]at e;cases e
  |some o =>
   rw[q]at e;cases e;refine⟨q,fun z=>c (.inl z),?_⟩;cases z:base.get? b with
   |none=>rfl
   |some u=>exact absurd (.inr (by rw[z];rfl)) c
theorem iW{base h:Heap}{L b:Addr}{o:Obj}(e:h.get? b=some o)(hL:b≠L)(hb:base.get? b=none):(b,o)∈qw base h L:=by refine List.mem_filterMap.mpr ⟨b,Zm.mpr (zk e),?_⟩;rw[if_neg (by rintro(z|z);exact hL z;rw[hb]at z;cases z),e];rfl
end
theorem hX(ns:List Int):SeqAt.shaped (.tuple (ns.map .int))=true:=by
 unfold SeqAt.shaped;rw[zA];refine⟨?_,?_⟩
 ·simp only[PyData.canLay0];exact PyProof.Rows.canLayAll_ints ns
 ·refine decide_eq_true ?_;simp only[PyData.depth];rw[PyProof.Rows.depthAll_ints ns];decide
theorem hU:∀(ns ms:List Int),PyData.eqvAll (ns.map .int) (ms.map .int)=decide (ns=ms)
 | [],[]=>by simp[PyData.eqvAll]
 | [],_::_=>by simp[PyData.eqvAll]
 |_::_,[]=>by simp[PyData.eqvAll]
 |x::ns,y::ms=>by simp only[zS,PyData.eqvAll,PyData.eqv];rw[hU ns ms,Ze];simp
theorem rm(ns ms:List Int):PyData.eqv (.tuple (ns.map .int)) (.tuple (ms.map .int))=decide (ns=ms):=by simp only[PyData.eqv];exact hU ns ms
theorem pK{H:Hp}{a:Addr}{ns:List Int}(h:H a=some (.tup (ns.map V.int))):Dt H (.tuple (ns.map .int)) (.ref a):=by simp only[Dt];exact⟨a,_,rfl,Rd.of h,mF ns⟩
section
variable{X:Cx}
theorem ve(hu:X.A.units+64<cLine):QOp X (compareOp .NotEq) (fun x y H Q=>∃(a b:Addr) (ns ms:List Int),x=.ref a/\y=.ref b/\H a=some (.tup (ns.map V.int))/\H b=some (.tup (ms.map V.int))/\Q (.bl (!decide (ns=ms))) H):=by refine⟨?_⟩;intro pins s σ H x y v u Q I rx ry h;obtain⟨a,b,ns,ms,rfl,rfl,ha,hb,q⟩:=h;exact vt hu pins s σ H _ _ v u Q I rx ry ⟨_,_,pK ha,pK hb,hX ns,hX ms,by rw[rm];exact q⟩
end
theorem aV{x:V}{A B:Prop}(h:x≠.non)(hB:B):if decide (x=.non)=true then A else B:=by rw[decide_eq_false h];exact ar hB
theorem cb{c A B:Prop}[Decidable c](h:c)(hA:A):if decide c=true then A else B:=by rw[decide_eq_true h];exact aB hA
theorem bO{c A B:Prop}[Decidable c](h1:c->A)(h2:¬c->B):if decide c=true then A else B:=by
 by_cases h:c
 ·exact cb h (h1 h)
 ·rw[decide_eq_false h];exact ar (h2 h)
open PySem PySem.Spec PyProof.Rows
structure CompOk1(X:Cx)(scope:Scope)(cx:Str)(cap:List Nat)(capN:List Str):Prop where
 kind:scope.kind=.function
 names:∀x∈scope.names,x.2=.local->scope.names.lookup x.1=some .local
 onecell:∀y∈scope.names,y.2=.cell->y.1=cx
 own:scope.names.lookup cx=some .cell
 cf:∀(n:Nat) (acc:List (Str×Addr)),cellsFrom n scope.names acc=(cx,n)::acc
 pc:∀h:Heap,pushCells h scope.names=h.push { cls:=.type "cell",data:=.cell none }
 frees:(scope.names.all fun y=>!(y.2==NameKind.free) ||(X.env.kindOf y.1==some .cell ||X.env.kindOf y.1==some .free))=true
 cap:CapOk X scope cap capN
open PySem PySem.Spec PyProof.Rows PySem.W
def cK(h:Heap)(e:Addr)(dc:Option Addr):Prop:=∃o,h.get? e=some o/\o.dict=dc
theorem jw(f:Array Value->Array Value)(o:Obj):(Obj.mapFields f o).dict=o.dict:=by unfold Obj.mapFields;split<;>rfl
section
variable{M:Model}{A:Around}{E:Value->Shared->Prop}{s:Shared}{base:Heap}{env:Env}{outer l:List Env}{L e:Addr}
theorem hV{oe:Obj}{vs:Array Value}{hd0 a0:Value}{nx:Bool}{Q:Unit->Shared->Prop}(fr:A.frames=some (env::outer))(ff:s.heap.FunFrames base (env::outer))(ef:env.frame=some L)(he:s.heap.get? e=some oe)(kb:base.StaysIn s.heap)(en:base.get? e=none)(dt:oe.data=.fields vs)(sz:1<vs.size)(v0:vs[0]?=some a0)(k:∀h',Heap.NotedW base (env::outer) e oe.cls a0 (rawInt L) s.heap h'->cK h' e oe.dict->Q () { s with heap:=h' }) :
  wpAny M A (do let a ←frameOf env;let pl ←entryPlaceOf L nx;let b ←EntryCells.newEntry hd0 a .none (rawInt L) .none pl;setField (.ref e) 1 b) Q E s:=by
 have nf:e∉(env::outer).filterMap (·.frame):=fun hm=>by obtain⟨_,o,ho,hn⟩:=ff.mem hm;cases zp (he.symm.trans ho);exact hn vs dt
 refine za (wpAny_frameOf_fun fr ff ef fun h1 k1=>za (wpAny_entryPlaceOf fun pl hpl=>?_));unfold EntryCells.newEntry newFields;refine za (Zf ?_ (hpl.sizeOk5 _ _ _ _ _));have t3:([hd0,.ref L,.none,rawInt L,.none]++(if pl.isEmpty then List.replicate 6 Value.none else pl)).toArray[3]?=some (rawInt L):=by simp
 generalize([hd0,.ref L,.none,rawInt L,.none]++(if pl.isEmpty then List.replicate 6 Value.none else pl)).toArray=ts at t3 ⊢;have g1:h1.get? e=some oe:=(k1.2.1 e nf).trans he;have st1:base.StaysIn h1:=fun b o hb=>(k1.2.1 b fun hm=>nomatch(hb.symm.trans (ff.mem hm).1)).trans (kb b o hb);have gp:(h1.push { cls:=.type "traceback",data:=.fields ts }).get? e=some oe:=zc _ g1;have ne:h1.objs.size≠e:=Zq (zk g1);have dm:=Obj.data_mapFields dt (·.setIfInBounds 1 (Value.ref h1.objs.size));have self:=Heap.get?_update_self (Obj.mapFields (·.setIfInBounds 1 (Value.ref h1.objs.size))) gp (Obj.isFreed_of_fields dm);have atT:=(Zb (h1.push { cls:=.type "traceback",data:=.fields ts }) (Obj.mapFields (·.setIfInBounds 1 (Value.ref h1.objs.size))) (Zn ne)).trans (zn h1 rfl);have oth:∀b o,b≠e->h1.get? b=some o->((h1.push { cls:=.type "traceback",data:=.fields ts }).update e (Obj.mapFields (·.setIfInBounds 1 (Value.ref h1.objs.size)))).get? b=some o:=fun b o n q=>(Zb _ _ (Zn n)).trans (zc _ q);have nrec:∀b o,s.heap.get? b=some o->(∀ws,o.data≠.fields ws)->b≠e:=fun b o q hn z=>by subst z;cases zp (he.symm.trans q);exact hn vs dt
 refine wpAny_setField gp dt sz (k _ ⟨fun b o q=>oth b o (fun z=>nomatch((z▸q).symm.trans en)) (st1 b o q),ff.of_keeps fun b o q hn=>?_,?_,fun b o q hn=>?_⟩ ⟨_,self,jw _ _⟩)
 ·obtain⟨sl,hs⟩:=k1.2.2 b o q;exact⟨_,oth b _ (nrec b o q hn) hs,rfl⟩
 ·exact⟨_,_,h1.objs.size,_,ts,self,⟨Obj.cls_mapFields _ _,by rw[Array.getElem?_setIfInBounds_ne (by decide)];exact v0⟩,dm,by simp[sz],st1.fresh,ne,atT,rfl,t3⟩
 ·obtain⟨sl,hs⟩:=k1.2.2 b o q;exact⟨sl,oth b _ (nrec b o q hn) hs⟩
theorem fm{cls a0 fl:Value}{dc:Option Addr}{Q:Unit->Shared->Prop}(kb:base.StaysIn s.heap)(ff:s.heap.FunFrames base l)(tr:s.heap.TracedAtW base e cls a0 fl)(dd:cK s.heap e dc)(k:∀h',base.StaysIn h'->h'.FunFrames base l->h'.TracedW base e cls a0->s.heap.UpToSlots h'->cK h' e dc->Q () { s with heap:=h' }):wpAny M A (setFlight (.ref e) none) Q E s:=by
 obtain⟨oe,vs,T,oT,ts,he,hc,dt,v1,nT,ne,hT,dT,t3⟩:=tr;have z3:3<ts.size:=(Array.getElem?_eq_some_iff.mp t3).1;have oth:∀b,b≠T->(s.heap.update T (Obj.mapFields (·.setIfInBounds 3 ((none:Option Addr).elim Value.none fun f=>rawInt f)))).get? b=s.heap.get? b:=fun b n=>Zb _ _ (Zn n);have nrec:∀b o,s.heap.get? b=some o->(∀ws,o.data≠.fields ws)->b≠T:=fun b o q hn z=>by subst z;cases zp (hT.symm.trans q);exact hn ts dT
 unfold setFlight;refine za (zR he dt v1 ?_);rw[if_pos (by simp:(Value.ref T != Value.none)=true)];refine wpAny_setField hT dT z3 (k _ (fun b o q=>(oth b fun z=>nomatch((z▸q).symm.trans nT)).trans (kb b o q)) (ff.of_keeps fun b o q hn=>⟨o,(oth b (nrec b o q hn)).trans q,rfl⟩) ?_ (fun b o q hn=>⟨o.slots,(oth b (nrec b o q hn)).trans q⟩) ?_)
 ·exact⟨oe,vs,T,_,_,(oth e (Zn ne)).trans he,hc,dt,v1,nT,ne,Heap.get?_update_self _ hT (Obj.isFreed_of_fields (Obj.data_mapFields dT _)),Obj.data_mapFields dT _,by simp[z3]⟩
 ·obtain⟨o,q,d⟩:=dd;exact⟨o,(oth e (Zn ne)).trans q,d⟩
theorem iQ{cls a0:Value}{dc:Option Addr}{Q:Unit->Shared->Prop}(fr:A.frames=some (env::outer))(ef:env.frame=some L)(fl:Heap.FlyingW base (env::outer) e cls a0 s.heap)(dd:cK s.heap e dc)(k:∀h',Heap.HeldW base (env::outer) e cls a0 L h'->s.heap.UpToSlots h'->cK h' e dc->Q () { s with heap:=h' }):wpAny M A (noteFrame (.ref e) env) Q E s:=by
 obtain⟨f1,f2,f3,oe,vs,T,oT,ts,he,hc,dt,v1,nT,ne,hT,dT,t3⟩:=fl;obtain⟨o2,q2,d2⟩:=dd;cases zp (he.symm.trans q2);have z3:3<ts.size:=(Array.getElem?_eq_some_iff.mp t3).1;unfold noteFrame;simp only[ef];refine za (zR he dt v1 ?_);rw[if_pos (by simp:(Value.ref T != Value.none)=true)];refine za (zR hT dT t3 ?_);rw[if_neg (by simp[rawInt]:¬(Value.none==rawInt L)=true)];refine za (wpAny_setField hT dT z3 ?_);have oth:∀b,b≠T->(s.heap.update T (Obj.mapFields (·.setIfInBounds 3 Value.none))).get? b=s.heap.get? b:=fun b n=>Zb _ _ (Zn n);have nrec:∀b o,s.heap.get? b=some o->(∀ws,o.data≠.fields ws)->b≠T:=fun b o q hn z=>by subst z;cases zp (hT.symm.trans q);exact hn ts dT
 have sz:1<vs.size:=(Array.getElem?_eq_some_iff.mp v1).1;refine hV (s:={ s with heap:=s.heap.update T (Obj.mapFields (·.setIfInBounds 3 Value.none)) }) fr (f3.of_keeps fun b o q hn=>⟨o,(oth b (nrec b o q hn)).trans q,rfl⟩) ef ((oth e (Zn ne)).trans he) (fun b o q=>(oth b fun z=>nomatch((z▸q).symm.trans nT)).trans (f1 b o q)) f2 dt sz hc.2 fun h' nt dd=>?_;obtain⟨n1,n2,n3,n4⟩:=nt;rw[hc.1]at n3;rw[d2]at dd;exact k h' ⟨n1,f2,n2,n3⟩ (fun b o q hn=>n4 b o ((oth b (nrec b o q hn)).trans q) hn) dd
end
open PySem PySem.Spec PyProof.Rows PySem.W
def Its(x:Str):It:=⟨fun i _=>i<x.cps.size,fun i H v H'=>H'=H/\∃c,x.cps[i]?=some c/\v=.str ⟨#[c]⟩,fun i _=>x.cps.size<=i⟩
theorem sw{P:Program}{w:World}{K:PySem.W.Frag}{tg:Expr}(it:Addr)(x:Str)(t:Tok):Turn P w K tg (Its x) [it] it (fun i h=>h.IsStrIter it "str_ascii_iterator" x t i) where
 mem:=zC.mpr rfl
 obj:=fun i h st b hb=>by cases zC.mp hb;obtain⟨o,e,c,d⟩:=st;exact⟨o,e,fun v z=>nomatch d.symm.trans z⟩
 keep:=fun i h h' st k=>by obtain⟨o,ho,r⟩:=st;exact⟨o,k it (zC.mpr rfl) o ho,r⟩
 item:=by intro X eP ew eK hc i pins s σ H E I hf st hg;cases eP;cases ew;cases eK;have hi:i<x.cps.size:=hg;have fo:=hf it (zC.mpr rfl);refine(Walks.strAscii (prog:=X.prog) (w:=X.w) (I.ok.hd hc) it x t).item i s _ _ hi st fun v h' tk hv st' kk=>?_;obtain⟨c,u,hc',rfl⟩:=hv;have I1:Inv X pins σ H { s with heap:=h',toks:=tk }:=I.turned (fun b o hb e=>kk b o (fun z=>hb (zC.mp z)) e) fo.1 fo.2.1 fo.2.2.2.1 fo.2.2.2.2.1 fo.2.2.2.2.2;obtain⟨o,e,c1,d1⟩:=id st';exact⟨_,rfl,iM (s:={ s with heap:=h',toks:=tk }) e c1 d1 (by decide) ⟨.str ⟨#[c]⟩,H,I1,⟨u,rfl⟩,⟨rfl,c,hc',rfl⟩,st',fun b hb=>(hf b hb).1⟩⟩
 done:=by intro X eP ew eK hc i pins s σ H E I hf st hg;cases eP;cases ew;cases eK;have hi:x.cps.size<=i:=hg;have fo:=hf it (zC.mpr rfl);exact wpAny_pyNext_ascii_end (I.ok.hd hc) st (by simp;omega) fun h' eb=>⟨rfl,I.turned (t':=s.toks) (fun b o hb e=>eb b o hb e) fo.1 fo.2.1 fo.2.2.2.1 fo.2.2.2.2.1 fo.2.2.2.2.2⟩
 self:=fun _ _ _ _ _ st h=>wpAny_pyIter_striter_ascii st h
def xD(tl:TE):TI:=fun σ H R=>tl σ H fun v H1=>∃x,v=.str x/\x.cps.all (·<128)=true/\R (Its x) H1
section
variable{X:Cx}{tg l:Expr}{tl:TE}
theorem sI(hl:QE X l tl):QI X tg l (xD tl):=by refine⟨?_⟩;intro pins s σ H R I h;refine thn (hl.h pins s σ H _ I h) fun v s1 hz9=>?_;obtain⟨y,H1,I1,r1,q1⟩:=hz9;obtain⟨x,rfl,ha,q⟩:=q1;obtain⟨t,rfl⟩:=r1;refine wpAny_pyIter_ascii ha ⟨s1.heap.objs.size,[s1.heap.objs.size],_,_,H1,rfl,I1.kept (t':=s1.toks) (fun b o e=>zc _ e),sw _ x t,⟨_,zn _ rfl,rfl,rfl⟩,fun b hb=>?_,q⟩;cases zC.mp hb;exact I1.fpOk (ze _) (I1.hok.fresh (ze _))
end
theorem kP{x:Str}{n:Nat}{cap:List Nat}{te:TE}{σ:St}{H0:Hp}{Q:VK}(f:Nat->V)(hz:x.cps.size<=1000)(he:∀i c H,x.cps[i]?=some c->Same H0 H->∀R:VK,(∀H',Same H H'->R (f i) H')->te ((bn n cap σ).set 0 (some (.str ⟨#[c]⟩))) H R)(hq:∀p H,Same H0 H->H p=none->Q (.ref p) (upd H p (.lst ((List.range x.cps.size).map f)))):cq n cap (bA 0) cS te σ (Its x) H0 Q:=by
 refine dW (N:=x.cps.size) (fun i=>.str ⟨#[x.cps.getD i 0]⟩) f hz (fun i H hi sm=>hi) (fun H sm=>ze _) (fun i H v H' hi sm y=>?_) (fun i H hi sm R k=>?_) hq
 ·obtain⟨y1,c,hc,rfl⟩:=y;refine⟨y1,?_⟩;simp[zO,hc]
 ·have e:x.cps[i]?=some x.cps[i]:=by simp[hi]
  have:=he i _ H e sm R k;simpa[zO,e]using this
section
variable{X:Cx}
theorem sD:QCall X (.builtin "ord") (fun xs H Q=>∃c:Nat,xs=[.str ⟨#[c]⟩]/\Q (.int (c:Int)) H):=by refine⟨?_⟩;intro pins s σ H xs us Q I r h;obtain⟨c,rfl,q⟩:=h;obtain⟨u,rfl,rx⟩:=ce r;obtain⟨t,rfl⟩:=rx;exact PySem.P.ord_of_char ⟨.int c,H,I.tok _,⟨_,rfl⟩,q⟩
end
section
variable{X:Cx}
theorem eL:QCall X (.builtin "len") (fun xs H Q=>∃x:Str,xs=[.str x]/\x.length<=1000/\Q (.int (x.length:Int)) H):=by refine⟨?_⟩;intro pins s σ H xs us Q I r h;obtain⟨x,rfl,hz,q⟩:=h;obtain⟨u,rfl,rx⟩:=ce r;obtain⟨t,rfl⟩:=rx;exact PyProof.Rows.len_str (by omega) ⟨.int x.length,H,I.tok _,⟨_,rfl⟩,q⟩
end
theorem aL{v:V}{A B:Prop}(hA:A):if decide (v=v)=true then A else B:=by rw[decide_eq_true rfl];exact aB hA
theorem aa{v u:V}{A B:Prop}(h:v≠u)(hB:B):if decide (v=u)=true then A else B:=by rw[decide_eq_false h];exact ar hB
theorem fU{x:V}{xs:List V}:atI (x::xs) 0=some x:=bo (j:=0) rfl
theorem aX:bootBuiltins "str" = some (.type "str"):=by decide +kernel
theorem rp{P:Program}{w:World}{K:PySem.W.Frag}{mg:Str->Option Value}{base:Heap}{k:Nat}{f:Addr}{fd:FuncData}{ps:List Str}:FnOk P w K mg base CX0 k f fd ps (fun _ _ _ _=>False):=⟨fun _ _ _ _ h=>h.elim,fun _ _ _ _ _ _ _ _ _ _ _ _ _ h=>h.elim⟩
inductive TV where
 |flat (v:V)
 |tup (xs:List V)
def kE:V->Value->Bool
 |.non,.none=>true
 |.bl b,.bool c=>b==c
 |.int i,.int j _=>i==j
 |.str x,.str y _=>x==y
 |_,_=>false
theorem kc:∀{v:V} {u:Value},kE v u=true->RelV v u:=by
 intro v u h;unfold kE at h;split at h
 ·exact rfl
 ·obtain rfl:=beq_iff_eq.mp h;exact rfl
 ·obtain rfl:=beq_iff_eq.mp h;exact⟨_,rfl⟩
 ·obtain rfl:=beq_iff_eq.mp h;exact⟨_,rfl⟩
 ·cases h
def lW:List V->List Value->Bool
 | [],[]=>true
 |v::vs,u::us=>kE v u&&lW vs us
 |_,_=>false
theorem hZ:∀{vs:List V} {us:List Value},lW vs us=true->Vals vs us
 | [],[],_=>.nil
 |_::_,_::_,h=>by have h:=(zA _ _).mp h;exact .cons (kc h.1) (hZ h.2)
 | [],_::_,h=>nomatch h
 |_::_,[],h=>nomatch h
def jg(K:PySem.W.Frag):TV->Value->Bool
 |.flat v,u=>kE v u
 | .tup xs,.ref a=>(match K.lookup a with
  |some o=>o.cls == .type "tuple"&&(match o.data with|.seq its _=>decide (its.size<=1000)&&lW xs its.toList|_=>false)
  | none=>false)
 |_,_=>false
def uH(K:PySem.W.Frag):TV->Value->Prop
 |.flat v,u=>RelV v u
 |.tup xs,u=>∃a,u=.ref a/\∀H,SqT K H a xs
theorem xu{K:PySem.W.Frag}(d:TV)(u:Value)(h:jg K d u=true):uH K d u:=by
 unfold jg at h;split at h
 ·exact kc h
 ·rename_i xs a;split at h
  ·rename_i o ho;obtain⟨e1,e2⟩:=(zA _ _).mp h;split at e2
   ·rename_i its n hd;obtain⟨e3,e4⟩:=(zA _ _).mp e2;exact⟨a,rfl,fun H=>.inr ⟨o,its,n,ho,beq_iff_eq.mp e1,hd,bz (Zz e3),hZ e4⟩⟩
   ·cases e2
  ·cases h
 ·cases h
structure Tab(K:PySem.W.Frag)(a:Addr)(D:List (Str×TV)):Prop where
 look:KTD.tabLook (jg K) (fun b=>K.lookup b) a D=true
theorem Tab.at{K:PySem.W.Frag}{a:Addr}{D:List (Str×TV)}(T:Tab K a D){h:Heap}(X:K.In h):KTD.TabOf (uH K) h a D:=KTD.tab_of_look xu (fun b o e=>X b o e) T.look
section
variable{prog:Program}{w:World}{A:Around}{E:Value->Shared->Prop}{s:Shared}{d:Addr}{o:Obj}{es:Array DictEntry}{ep:Nat}{x:Str}{tx:Tok}
theorem nw{Q:Option Value->Shared->Prop}(ho:s.heap.get? d=some o)(hd:o.data=.dict es ep)(hall:(es.all fun e=>isExactStrKey e.key)=true)(h:Q ((es.toList.find? fun e=>e.key.isStr x).map (·.val)) { s with toks:=s.toks+1 }) :
  wpAny (model prog w) A (dictGet d (.str x tx)) Q E s:=by
 unfold dictGet;(try with_reducible (refine wpAny_holding ?_))
 refine za (wpAny_pyHash_str (za (KTD.kt_dictFind_strs (s:={ s with toks:=s.toks+1 }) ho hd hall ?_)));have hq:Q (findBy (fun y v=>v.isStr y) es x) { s with toks:=s.toks+1 }:=by
  have hf:findBy (fun y v=>v.isStr y) es x=(es.toList.find? fun e=>e.key.isStr x).map (·.val):=by obtain⟨l⟩:=es;simp[findBy]
  rw[hf];exact h
 rw[findBy_of_findIdx?]at hq;cases hi:es.findIdx? fun e=>e.key.isStr x<;>rw[hi]at hq
 ·exact zi hq
 ·exact za (wpAny_dictEntries (s:={ s with toks:=s.toks+1 }) ho hd (zi hq))
theorem wy{Q:Value->Shared->Prop}(sy:(d==sysModules)=false)(ex:o.ExactDict)(ho:s.heap.get? d=some o)(hd:o.data=.dict es ep)(hall:(es.all fun e=>isExactStrKey e.key)=true)(h:Q (.bool ((es.toList.find? fun e=>e.key.isStr x).map (·.val)).isSome) { s with toks:=s.toks+1 }):wpAny (model prog w) A (compareOp .In (.str x tx) (.ref d)) Q E s:=by
 have T:s.TypeIs (.ref d) "dict":=⟨o,ho,ex.1⟩
 show wpAny _ _ (do return .bool (←contains (.ref d) (.str x tx))) Q E s;refine za ?_;unfold contains;(try with_reducible (refine wpAny_holding ?_))
 refine za (wpAny_specialOf T slot_dict_contains.lookup ?_);show wpAny _ _ (if(some (Value.builtin "dict.__contains__")==some Value.none)=true then _ else _) _ _ _;rw[if_neg (by rw[beq_builtin_none];decide)];refine za (wpAny_callSpecialUnlessNone?_slot (name:=Str.ofString "__contains__") T slot_dict_contains (Za slot_dict_contains T entry_dict_contains ?_ (args_dict_contains _ _)));show wpAny _ _ (dictGet d (.str x tx) >>= _) _ _ _;refine za (nw ho hd hall ?_);cases hv:(es.toList.find? fun e=>e.key.isStr x).map (·.val)with
 |some v =>rw[hv]at h;show wpAny _ _ (ret (.bool true)) _ _ _;exact zi ⟨_,rfl,zW (zi h)⟩
 |none =>rw[hv]at h;show wpAny _ _ (Builtin.Dict.pendingKey? d (.str x tx) >>= _) _ _ _;exact za (wpAny_pendingKey_other sy (zi ⟨_,rfl,zW (zi h)⟩))
theorem su{Q:Value->Shared->Prop}{v:Value}(ex:o.ExactDict)(ho:s.heap.get? d=some o)(hd:o.data=.dict es ep)(hall:(es.all fun e=>isExactStrKey e.key)=true)(hv:(es.toList.find? fun e=>e.key.isStr x).map (·.val)=some v)(h:Q v { s with toks:=s.toks+1 }):wpAny (model prog w) A (getItem (.ref d) (.str x tx)) Q E s:=by
 have T:s.TypeIs (.ref d) "dict":=⟨o,ho,ex.1⟩
 unfold getItem;(try with_reducible (refine wpAny_holding ?_))
 refine za (wpAny_sequenceKey T (by decide) (za (zT (name:=Str.ofString "__getitem__") T slot_dict_getitem (Za slot_dict_getitem T entry_dict_getitem ?_ (args_dict_getitem _ _)))));show wpAny _ _ (dictGet d (.str x tx) >>= _) _ _ _;refine za (nw ho hd hall ?_);rw[hv];exact zi ⟨v,rfl,zi h⟩
end
section
variable{X:Cx}
def vV(K:PySem.W.Frag):R2:=fun x y H Q=>∃a k D,x=.str k/\y=.ref a/\Tab K a D/\Q (.bl (KTD.datumAt k D).isSome) H
theorem tJ:QOp X (compareOp .In) (vV X.K):=by
 refine⟨?_⟩;intro pins s σ H x y v u Q I rx ry h;obtain⟨a,k,D,rfl,rfl,T,q⟩:=h;obtain⟨t,rfl⟩:=rx;cases ry;obtain⟨sy,o,es,ep,ho,ex,hd,hr⟩:=T.at I.kIn;refine wy sy ex ho hd (by obtain⟨l⟩:=es;simpa using hr.exact) ⟨.bl (KTD.datumAt k D).isSome,H,I.tok _,?_,q⟩;cases e:KTD.datumAt k D with
 |none=>rw[hr.find_none e];rfl
 |some d=>obtain⟨v,hv,_⟩:=hr.find_some e;rw[hv];rfl
def vX(K:PySem.W.Frag):R2:=fun x y H Q=>∃a k D d,x=.ref a/\y=.str k/\Tab K a D/\KTD.datumAt k D=some d/\(match d with|.flat v=>Q v H|.tup xs=>∀t,(∀H',SqT K H' t xs)->Q (.ref t) H)
theorem xx:QIx X (vX X.K):=by
 refine⟨?_⟩;intro value slice pins s σ H x y v u Q I rx ry h hs;obtain⟨a,k,D,d,rfl,rfl,T,hk,q⟩:=h;obtain⟨t,rfl⟩:=ry;cases rx;obtain⟨sy,o,es,ep,ho,ex,hd,hr⟩:=T.at I.kIn;obtain⟨v,hv,ok⟩:=hr.find_some hk;have fin:EP X pins σ Q v { s with toks:=s.toks+1 }:=by
  cases d with
  |flat z=>exact⟨z,H,I.tok _,ok,q⟩
  |tup xs =>obtain⟨t,rfl,e⟩:=ok;exact⟨.ref t,H,I.tok _,rfl,q t e⟩
 exact subscriptTail_builtinR (x:=v) (⟨o,ho,ex.1⟩:s.TypeIs (.ref a) "dict") slot_dict_getitem.lookup (su (Q:=fun r s'=>r=v/\EP X pins σ Q r s') ex ho hd (by obtain⟨l⟩:=es;simpa using hr.exact) hv ⟨rfl,fin⟩) hs
theorem rV{x:Str}{a:Addr}{pos:Pos}(hm:X.mg x=some (.ref a))(hg:Gl X x:=by rfl)(hd:(x==("__debug__":Str))=false:=by decide):QE X (.Name x pos) (tC (.ref a)):=⟨jD hg hm rfl hd⟩
end
open PySem PySem.Spec PyProof.Rows PySem.W
def CXr(P:Program)(w:World):CXT:=fun outer H s E e s' =>
 ∃(ea t:Addr) (C:Value) (vs:List Value) (B:Heap) (H':Hp) (dc:Option Addr),e=.ref ea/\s'.os=s.os/\AllBare s'.gens/\Un (frs outer) [] H H' s.heap s'.heap/\HOk P w H' s'.heap /\
  Heap.FlyingW B outer ea C (.ref t) s'.heap/\s'.heap.TupAt t vs/\B.get? t=none/\(∀b o,b∉frs outer->((∃u,H' b=some u)\/∃o0,s.heap.get? b=some o0)->s'.heap.get? b=some o->B.get? b=some o)/\cK s'.heap ea dc/\E C dc H'
structure ExCls(K:PySem.W.Frag)(C:Addr):Prop where
 cls:∀h,K.In h->∃nm q N bs bm hdct sn sub ab col dd k0 k1 k2 k3 k5 mN,h.get? C=some (excClassObj nm q C N bs bm hdct sn sub ab col dd k0 k1 k2 k3 k5 "ValueError.__new__")/\h.Ns N mN/\mN "__init__" = none/\bm.contains (.type "BaseException")=true /\
  OwnTail h [.type "ValueError",.type "Exception",.type "BaseException",.type "object"] bm
def pA(X:Cx)(EC:Value->Hp->Prop):Prop:=∀(pins:List (Addr×Obj)) (σ:St) (H1:Hp) (s1:Shared) (h2:Heap) (e:Addr) (C:Value) (vs:List Value),Inv X pins σ H1 s1->Heap.MadeExcOf s1.heap h2 e C vs->EC C H1->X.xe (.ref e) { s1 with heap:=h2 }
section
variable{X:Cx}{EC:Value->Hp->Prop}{C:Addr}{x:Str}{np cpos pos:Pos}{e:Expr}{es:List Expr}{ta:TA}
theorem mR(hR:pA X EC)(hc:X.calm=true)(cl:ExCls X.K C)(hm:X.mg x=some (.ref C))(ha:QA X (e::es) ta)(hg:Gl X x:=by rfl)(hs:(e::es).all aI=true:=by rfl)(hdb:(x==("__debug__":Str))=false:=by decide) :
  QS X (.Raise (some (.Call (.Name x np) (e::es) [] cpos)) none pos) (fun _ σ H=>ta σ H fun vs H1=>vs.length<=sizeLine/\EC (.ref C) H1):=by
 refine⟨?_⟩;intro pins s σ H D I h;obtain⟨nm,q,N,bs,bm,hdct,sn,sub,ab,col,dd,k0,k1,k2,k3,k5,mN,hC,hN,hni,hb,T⟩:=cl.cls X.base I.ok.mod.kin;have hs1:aI e=true:=by have:=zH.mp hs e (by simp);exact this
 have he:=aO (es:=es) (env:=X.env) hs1;have hpl:(backTo cpos (starEach es X.env)).any (·.1)=false:=bv (by
  rw[zH];intro y hy;exact zH.mp hs y (zG _ hy))
 refine wpAny_Raise_call_subT (nm:=nm) (q:=q) (C:=C) (N:=N) (bs:=bs) (hdct:=hdct) (sn:=sn) (sub:=sub) (ab:=ab) (col:=col) (dd:=dd) (k0:=k0) (k1:=k1) (k2:=k2) (k3:=k3) (k5:=k5) PySem.F.excBase_ValueError hb (I.ok.hd hc) ?_ hni (eM I hg hm ⟨rfl,?_⟩ hdb)
 ·rw[he];show(false ||(backTo cpos (starEach es X.env)).any (·.1))=false;rw[hpl];rfl
 ·have hA:=ha.h cpos pins s σ H _ I h;rw[he]at hA ⊢;refine Calls.evalArgs_plain (thn hA fun us s1 ⟨vs,H1,I1,r1,hz,hE⟩=>⟨rfl,by rw[<-r1.length];exact hz,I1.bk _ _ hC,hN.keeps I1.bk,T.keeps I1.bk,fun h' ea hm=>hR pins σ H1 s1 h' ea _ _ I1 hm hE⟩)
end
open PySem PySem.Spec PyProof.Rows PySem.W
theorem Fun.okX{P:Program}{w:World}{K:PySem.W.Frag}{mg:Str->Option Value}{base:Heap}{x qual:Str}{st:Stmt}{f:Addr}{fd:FuncData}{N ps:List Str}{k:Nat}{sp:Sp}(F:Fun K x qual st f fd)(S:FnScope N ps (ak st))(len:∀ vs H Q E,sp vs H Q E->vs.length=ps.length)(hb:∀ (cdv:Value) (A:Around) (outer:List Env) (s:Shared) (H:Hp) (vs:List V) (Q:VK) (E:XK),Room k (A.deeper (envOfC qual (ak st) s.heap.objs.size f cdv))->sp vs H Q E ->
   ∃ t,QB (cU (CXr P w) P w K mg base N qual (ak st) f cdv A outer s H E) (bC st) t/\t { nx:=fun _ H'=>Q .non H',rt:=Q } (cR N vs) H):FnOk P w K mg base (CXr P w) (k+1) f fd ps sp:=by
 obtain⟨oc,od,kV,doc,pm,an,cdv,ct,osl,rfl,lk,hcd⟩:=F.ex;exact sE lk hcd S len fun A outer s H vs Q E hr hsp=>let⟨t,h,q⟩:=hb cdv A outer s H vs Q E hr hsp;⟨t,h.h,q⟩
structure FnX(P:Program)(w:World)(K:PySem.W.Frag)(mg:Str->Option Value)(base:Heap)(k:Nat)(x:Str)(ps:List Str)(sp:Sp):Prop where
 ex:∃f fd,FnOk P w K mg base (CXr P w) k f fd ps sp/\mg x=some (.ref f)/\PySem.W.keepIn K (.ref f)=true/\Binds K fd ps []
def XP(X:Cx)(pins:List (Addr×Obj))(σ:St)(E:XK)(e:Value)(s':Shared):Prop:=∃s0 H0,Inv X pins σ H0 s0/\CXr X.prog X.w X.stack H0 s0 E e s'
abbrev TX:=St->Hp->VK->XK->Prop
structure QX(X:Cx)(e:Expr)(t:TX):Prop where
 h:∀(pins:List (Addr×Obj)) (s:Shared) (σ:St) (H:Hp) (Q:VK) (E:XK),Inv X pins σ H s->t σ H Q E->wpAny (model X.prog X.w) X.A (eval e X.env) (EP X pins σ Q) (XP X pins σ E) s
def wn(sp:Sp)(t:TA):TX:=fun σ H Q E=>t σ H fun vs H1=>sp vs H1 Q E
section
variable{X:Cx}{k:Nat}{x:Str}{p pos:Pos}{e:Expr}{es:List Expr}{ps:List Str}{sp:Sp}{t:TA}
theorem wF(F:FnX X.prog X.w X.K X.mg X.base k x ps sp)(hr:Room k X.A)(ha:QA X.nox (e::es) t)(hg:Gl X x:=by rfl)(hdb:(x==("__debug__":Str))=false:=by decide)(he:starEach (e::es) X.env=(false,eval e X.env)::starEach es X.env:=by rfl)(hpl:(backTo pos (starEach es X.env)).any (·.1)=false:=by rfl) :
  QX X (.Call (.Name x p) (e::es) [] pos) (wn sp t):=by
 refine⟨?_⟩;intro pins s σ H Q E I h;obtain⟨f,fd,G,m,kp,b⟩:=F.ex;refine wpAny_Call_Name_kw (eM I hg m ?_ hdb);refine PySem.W.callWith_K (h₀:=X.base) I.ok.mod.kin kp (Zl (ha.h pos pins s σ H _ (I.wish _) h) (fun us s1 ⟨vs,H1,I1,r,q⟩=>⟨I1.kIn,?_⟩) (fun _ _ z=>False.elim z)) he hpl;have I2:=I1.unwish;have hb:=b s1 us I2.kIn (by rw[List.append_nil,<-r.length];exact G.len _ _ _ _ q);rw[List.append_nil]at hb;refine wpAny_call (codeAny_mono (G.run X.A X.stack s1 H1 ⟨us,[]⟩ us vs Q E hr I2.env0 hb r q) fun r s' hq=>?_);cases r with
 |error e=>exact⟨s1,H1,I2,hq⟩
 |ok fl =>
  cases fl with
  |ret u=>exact I2.after hq
  |next=>exact False.elim hq
  |brk=>exact False.elim hq
  |cont=>exact False.elim hq
end
abbrev TSX:=Ends->St->Hp->XK->Prop
structure QSX(X:Cx)(st:Stmt)(t:TSX):Prop where
 h:∀(pins:List (Addr×Obj)) (s:Shared) (σ:St) (H:Hp) (D:Ends) (E:XK),Inv X pins σ H s->t D σ H E->wpAny (model X.prog X.w) X.A (exec st X.env) (SP X pins D) (XP X pins σ E) s
section
variable{X:Cx}{e:Expr}{tx:TX}{pos pos':Pos}{x:Str}
theorem wj{i:Nat}(hN:X.N.Nodup)(he:QX X e tx)(hi:X.N[i]?=some x:=by rfl)(hx:Loc X.env.scope x:=by first|exact Or.inl rfl|exact Or.inr rfl)(hs:swapsWith e (some (.Name x pos')) pos.line X.env=pure false:=by rfl)(hf:X.fn x=true\/X.env.scope.names.lookup x=some .local:=by first|exact .inl rfl|exact .inr rfl):QSX X (.Assign [.Name x pos'] e pos) (fun D σ H E=>tx σ H (fun v H1=>D.nx (σ.set i (some v)) H1) E):=by refine⟨?_⟩;intro pins s σ H D E I h;exact wpAny_Assign_Name (thn (he.h pins s σ H _ E I h) fun v s1 ⟨y,H1,I1,r1,q1⟩=>fQ I1 hN hi hx r1 (fun s2 I2=>⟨_,H1,I2,q1⟩) hf) hs
end
structure Fl(X:Cx)(H0 H':Hp)(s0 s':Shared)(B:Heap):Prop where
 os:s'.os=s0.os
 bare:AllBare s'.gens
 un:Un (frs X.stack) [] H0 H' s0.heap s'.heap
 hok:HOk X.prog X.w H' s'.heap
 kb:∀b o,b∉frs X.stack->((∃u,H' b=some u)\/∃o0,s0.heap.get? b=some o0)->s'.heap.get? b=some o->B.get? b=some o
section
variable{X:Cx}{pins:List (Addr×Obj)}{σ:St}{H0 H':Hp}{s0 s':Shared}{B h':Heap}
theorem Fl.inv(F:Fl X H0 H' s0 s' B)(I:Inv X pins σ H0 s0):Inv X pins σ H' s':=I.call' F.os F.un F.hok F.bare fun _ z=>nomatch z
theorem Fl.nf(F:Fl X H0 H' s0 s' B)(I:Inv X pins σ H0 s0){b:Addr}{u:HO}(h:H' b=some u):b∉frs X.stack:=fun hm=>by have:=(F.inv I).stkFree b hm;rw[h]at this;cases this
theorem Fl.move{tk:Nat}(F:Fl X H0 H' s0 s' B)(I:Inv X pins σ H0 s0)(st:B.StaysIn h')(up:s'.heap.UpToSlots h'):Fl X H0 H' s0 { s' with heap:=h',toks:=tk } B:=by
 have kp:∀b o,b∉frs X.stack->((∃u,H' b=some u)\/∃o0,s0.heap.get? b=some o0)->s'.heap.get? b=some o->h'.get? b=some o:=fun b o h1 h2 h3=>st b o (F.kb b o h1 h2 h3);have sl:∀b o,b∈frs X.stack->s'.heap.get? b=some o->∃sl,h'.get? b=some { o with slots:=sl }:=fun b o hm q=>by obtain⟨_,o',ho',hd⟩:=(F.inv I).stack.mem hm;have e:s'.heap.get? b=some o':=ho';rw[q]at e;cases e;exact up b o q hd
 refine⟨F.os,F.bare,⟨fun b o q n hb hx=>kp b o hb (.inr ⟨o,q⟩) (F.un.keep b o q n hb hx),fun b o q n hb hx=>?_,F.un.free,fun b o q hx=>?_,F.un.tups,F.un.frzs,F.un.tbls⟩,fun b u q=>?_,fun b o hb ho q=>?_⟩
 ·obtain⟨s1,e1⟩:=F.un.slot b o q n hb hx;obtain⟨s2,e2⟩:=sl b _ hb e1;exact⟨s2,e2⟩
 ·obtain⟨o',e1⟩:=F.un.there b o q hx;by_cases hb:b∈frs X.stack
  ·obtain⟨s2,e2⟩:=sl b o' hb e1;exact⟨_,e2⟩
  ·exact⟨o',kp b o' hb (.inr ⟨o,q⟩) e1⟩
 ·refine(F.hok b u q).stay (fun c v hc z=>kp c v ?_ ?_ z) (fun _ z=>z) fun _ _ z=>z
  ·rcases hc with z'|z'
   ·rw[z'];exact F.nf I q
   ·exact F.nf I z'
  ·rcases hc with z'|z'
   ·rw[z'];exact .inl ⟨u,q⟩
   ·exact .inl ⟨_,z'⟩
 ·obtain⟨o1,q1⟩:∃o1,s'.heap.get? b=some o1:=by
   rcases ho with⟨u,z⟩|⟨o0,z⟩
   ·exact fE (F.hok b u z)
   ·exact F.un.there b o0 z (by simp)
  have q2:=kp b o1 hb ho q1;have q':h'.get? b=some o:=q;rw[q']at q2;cases q2;exact F.kb b o hb ho q1
end
structure ExC(K:PySem.W.Frag)(C:Addr)(bm:List Value):Prop where
 cls:∀h,K.In h->∃nm q N bs hdct sn sub ab col dd k0 k1 k2 k3 k5 ni,h.get? C=some (excClassObj nm q C N bs bm hdct sn sub ab col dd k0 k1 k2 k3 k5 ni)
 exc:bm.contains (.type "BaseException")=true
theorem md{M:Model}{A:Around}{E:Value->Shared->Prop}{s:Shared}{e C T:Addr}{oe:Obj}{bmC bmT:List Value}{K:PySem.W.Frag}{Q:Bool->Shared->Prop}(hC:ExC K C bmC)(hT:ExC K T bmT)(hk:K.In s.heap)(he:s.heap.get? e=some oe)(hcls:oe.cls=.ref C)(hq:Q ((Value.ref C::bmC).contains (.ref T)) s):wpAny M A (excMatches (.ref e) (.ref T)) Q E s:=by
 obtain⟨nm,q,N,bs,hdct,sn,sub,ab,col,dd,k0,k1,k2,k3,k5,ni,oC⟩:=hC.cls _ hk;obtain⟨nm',q',N',bs',hdct',sn',sub',ab',col',dd',k0',k1',k2',k3',k5',ni',oT⟩:=hT.cls _ hk;obtain⟨hp,g,d,tk,os⟩:=s;have hcB:(Value.ref T::bmT).contains (.type "BaseException")=true:=by rw[List.contains_cons,hT.exc,Bool.or_true]
 have f:=tc_notTuple;unfold excMatches;generalize hr:(Value.ref C::bmC).contains (Value.ref T)=r at hq
 repeat(first|(with_reducible refine wpAny_loadPart_at he ?_;rw[hcls])|with_reducible refine wpAny_loadPart_at oT ?_|(with_reducible refine wpAny_isSubtype_exc oT ?_;rw[hcB])|(with_reducible refine wpAny_isSubtype_exc oC ?_;rw[hr])|wp_step)
 cases r<;>(first|exact hq|(wp_walk;exact hq))
theorem dZ{X:Cx}{pins:List (Addr×Obj)}{σ:St}{H:Hp}{s:Shared}{M:Model}{A:Around}{E:Value->Shared->Prop}{i:Nat}{n:Str}{pos:Pos}{Q:Unit->Shared->Prop}(I:Inv X pins σ H s)(hN:X.N.Nodup)(hi:X.N[i]?=some n)(hl:X.env.kindOf n=some .local)(h:∀s',Inv X pins (σ.set i none) H s'->Q () s'):wpAny M A (do bindName X.env n .none;unbindBehindTheSuite X.env n pos) Q E s:=by
 obtain⟨m,hn,hv⟩:=id I.loc;refine wpAny_nameGoes_keeps hl hn (by rw[I.ok.kind];rfl) fun h' v hn' hs=>h _ ?_;obtain⟨oL,_,_,hoL,_⟩:=id hn;have cne:=I.cne;have lt:∀b o,X.s₀.heap.get? b=some o->b≠X.env.locals:=fun b o q=>zJ (zl (zk q) I.ok.above);refine⟨I.ok,I.os,I.bare,⟨fun b o e n hb hx=>(hs.2 b (lt b o e)).trans (I.base.keep b o e n hb hx),fun b o e n hb hx=>?_,I.base.free,fun b o e hx=>?_,I.base.tups,I.base.frzs,I.base.tbls⟩,⟨_,hn',fun j y v' e1 e2 e3=>?_⟩,fun y c e=>?_,I.free,I.freeC,fun p hp=>?_,fun b u q=>?_,by simpa using I.len⟩
 ·obtain⟨sl,e1⟩:=I.base.slot b o e n hb hx;exact⟨sl,(hs.2 b (lt b o e)).trans e1⟩
 ·obtain⟨o',e1⟩:=I.base.there b o e hx;exact⟨o',(hs.2 b (lt b o e)).trans e1⟩
 ·have hj:j≠i:=fun z=>by
   subst z;have hz:j<σ.length:=by have:=(zj.mp e2).1;simpa using this
   rw[List.getElem?_set_self hz]at e2;cases e2
  rw[List.getElem?_set_ne (Zn hj)]at e2;obtain⟨u',r',q⟩:=hv j y v' e1 e2 e3;refine⟨u',r',?_⟩;rcases q with⟨k,e⟩|⟨k,c,e,z⟩
  ·refine .inl ⟨k,?_⟩;have:y≠n:=fun e=>hj (iq hN e1 (e▸hi));simp[this,e]
  ·exact .inr ⟨k,c,e,z.sameBut hs (cne y c e)⟩
 ·obtain⟨w',z⟩:=I.cell y c e;exact⟨w',z.sameBut hs (cne y c e)⟩
 ·obtain⟨e,n,ne,nf,d⟩:=I.pin p hp;exact⟨(hs.2 p.1 ne).trans e,n,ne,nf,d⟩
 ·refine(I.hok b u q).stay (fun c w' hc z=>(hs.2 c ?_).trans z) (fun _ z=>z) fun _ _ z=>z;rintro rfl;rcases hc with z'|z'
  ·rw[<-z',I.free]at q;cases q
  ·rw[I.free]at z';cases z'
def Cx.exc(X:Cx)(e:Value):Cx:={ X with A:=X.A.mark (some e),calm:=false,xe:=fun _ _=>False }
section
variable{X:Cx}{pins:List (Addr×Obj)}{σ:St}{H:Hp}{s:Shared}{e:Value}
theorem Inv.exc(I:Inv X pins σ H s)(e:Value):Inv (X.exc e) pins σ H s :=
 ⟨⟨I.ok.mod,I.ok.kind,I.ok.glob,I.ok.blt,I.ok.above,I.ok.inj,I.ok.has,I.ok.cab,fun z=>(nomatch z),I.ok.frames,I.ok.stk,I.ok.exf,I.ok.bs,I.ok.bsz,I.ok.noex,I.ok.exfs,I.ok.funs,I.ok.frf⟩,I.os,I.bare,I.base,I.loc,I.cell,I.free,I.freeC,I.pin,I.hok,I.len⟩
theorem Inv.unexc(ok:X.Ok)(I:Inv (X.exc e) pins σ H s):Inv X pins σ H s:=⟨ok,I.os,I.bare,I.base,I.loc,I.cell,I.free,I.freeC,I.pin,I.hok,I.len⟩
end
abbrev TH:=Ends->St->Value->Option Addr->Hp->Prop
structure QH(X:Cx)(hs:List ExceptHandler)(th:TH):Prop where
 h:∀(pins:List (Addr×Obj)) (s0:Shared) (H0:Hp) (σ:St) (D:Ends) (ea t:Addr) (C:Value) (B:Heap) (H':Hp) (dc:Option Addr) (s':Shared),Inv X pins σ H0 s0->Fl X H0 H' s0 s' B->Heap.FlyingW B X.stack ea C (.ref t) s'.heap->cK s'.heap ea dc->th D σ C dc H' ->
  wpAny (model X.prog X.w) X.A (handleBy (.ref ea) X.env hs) (SP X pins D) X.xe s'
section
variable{X:Cx}
def xL(tb:TSX)(th:TH):TS:=fun D σ H=>tb D σ H fun C dc H1=>th D σ C dc H1
theorem wb{st:Stmt}{tb:TSX}{th:TH}{h0:ExceptHandler}{hs:List ExceptHandler}{pos:Pos}(hst:X.stack=X.env::X.outer)(hfr:X.env.frame=some X.env.locals)(hb:QSX X st tb)(hh:QH X (h0::hs) th) :
  QS X (.Try [st] (h0::hs) [] [] pos) (xL tb th):=by
 refine⟨?_⟩;intro pins s σ H D I h;refine wpAny_Try_except (wpAny_execs_cons (Zl (hb.h pins s σ H D _ I h) (fun f s1 q=>?_) (fun e s1 x=>?_)))
 ·cases f with
  |next=>exact wpAny_execs_nil (wpAny_execs_nil q)
  |brk=>exact q
  |cont=>exact q
  |ret v=>exact q
 ·obtain⟨s0,H0,I0,ea,t,C,vs,B,H',dc,rfl,os,bare,un,hok,fly,tup,hBt,kb,dd,q⟩:=x;have F:Fl X H0 H' s0 s1 B:=⟨os,bare,un,hok,kb⟩
  have fr:X.A.frames=some (X.env::X.outer):=by rw[<-hst];exact I.ok.frames
  rw[hst]at fly;refine iQ fr hfr fly dd fun h4 held up4 dd4=>?_;obtain⟨f1,f2,f3,f4⟩:=held;refine fm f1 f3 f4 dd4 fun h5 k1 k2 k3 up5 dd5=>?_;have F5:=(F.move (tk:=s1.toks) I0 k1 (up4.trans up5))
  rw[<-hst]at k2;exact hh.h pins s0 H0 σ D ea t C B H' dc _ I0 F5 ⟨k1,f2,k2,k3⟩ dd5 q
end
open PySem PySem.Spec PyProof.Rows PySem.W
abbrev VE:List Value:=[.type "ValueError",.type "Exception",.type "BaseException",.type "object"]
structure ExcAt(K:PySem.W.Frag)(C:Addr)(bm:List Value):Prop where
 isIn:excIn K C VE "ValueError.__new__" = true
 mro:∃c d cd sl,K.lookup C=some ⟨c,d,.cls cd,sl⟩/\cd.mro=Value.ref C::bm
 exc:bm.contains (.type "BaseException")=true
theorem jS{K:PySem.W.Frag}{C:Addr}{bm:List Value}(q:ExcAt K C bm){h:Heap}(X:K.In h) :
  ∃nm qn N bs hdct sn sub ab col dd k0 k1 k2 k3 k5 mN,h.get? C=some (excClassObj nm qn C N bs bm hdct sn sub ab col dd k0 k1 k2 k3 k5 "ValueError.__new__")/\h.Ns N mN/\mN "__init__" = none/\OwnTail h VE bm:=by
 have q1:=q.isIn;obtain⟨c9,d9,cd9,sl9,l9,m9⟩:=q.mro;unfold excIn at q1;split at q1
 ·rename_i dd cd sl ho;split at q1
  ·rename_i C' bm' k0 k1 k2 k3 n k5 hm hs;have q2:cd.mro=Value.ref C::bm:=by have z:=ho.symm.trans l9;cases z;exact m9
   rw[hm]at q2;injection q2 with z1 z2;injection z1 with z1;cases z1;cases z2;simp only[zA,beq_iff_eq,Bool.not_eq_true']at q1;obtain⟨⟨⟨⟨⟨_,rfl⟩,nd⟩,ht⟩,ok⟩,ni⟩:=q1;have es:sl=#[k0,k1,k2,k3,some (.builtin "ValueError.__new__"),k5]:=by obtain⟨l⟩:=sl;simp only at hs;rw[hs]
   cases es;obtain⟨nm,bs,mro,ns,qn,hd,sn,sub,ab,col,del⟩:=cd;dsimp only at hm nd ok ni;cases hm;cases nd;exact⟨nm,qn,ns,bs,hd,sn,sub,ab,col,dd,k0,k1,k2,k3,k5,_,X _ _ ho,.of_isNs (isNs_of_in X ok),nsMap_none_of_in X ok ni,tail_of_in X ht⟩
  ·cases q1
 ·cases q1
theorem pM{K:PySem.W.Frag}{C:Addr}{bm:List Value}(q:ExcAt K C bm):ExC K C bm where
 cls:=fun h X=>by obtain⟨nm,qn,N,bs,hdct,sn,sub,ab,col,dd,k0,k1,k2,k3,k5,mN,e,_⟩:=jS q X;exact⟨nm,qn,N,bs,hdct,sn,sub,ab,col,dd,k0,k1,k2,k3,k5,_,e⟩
 exc:=q.exc
theorem kX{K:PySem.W.Frag}{C:Addr}{bm:List Value}(q:ExcAt K C bm):ExCls K C where
 cls:=fun h X=>by obtain⟨nm,qn,N,bs,hdct,sn,sub,ab,col,dd,k0,k1,k2,k3,k5,mN,e,e2,e3,e4⟩:=jS q X;exact⟨nm,qn,N,bs,bm,hdct,sn,sub,ab,col,dd,k0,k1,k2,k3,k5,mN,e,e2,e3,(pM q).exc,e4⟩
structure ExK(K:PySem.W.Frag)(c:Addr):Prop where
 hc:(clsIn K c).isSome=true
 hga:findIn K (.ref c) "__getattribute__" = some (some (.builtin "BaseException.__getattribute__"))
 hgh:findIn K (.ref c) "__getattr__" = some none
 ha:findIn K (.ref c) "__class__" = some (some (.builtin "object.__class__"))
 hb:mroIn K c (.type "BaseException")=some true
 hm:mroIn K c (.type "object")=some true
open PySem PySem.Spec PyProof.Rows PySem.W
def ah(i:Int):Str:=Str.ofString (toString i)
theorem kQ:∀(f k n:Nat) (ds:List Char),n<10^(k+1)->(Nat.toDigitsCore 10 f n ds).length<=k+1+ds.length
 |0,k,n,ds,_=>by unfold Nat.toDigitsCore;omega
 |f+1,k,n,ds,h=>by
  unfold Nat.toDigitsCore;dsimp only;split
  ·rw[zm];omega
  ·rename_i hz;cases k with
   |zero =>have:n / 10=0:=Nat.div_eq_of_lt (by simpa using h);exact absurd this hz
   |succ k =>
    have h':n / 10<10^(k+1):=by rw[Nat.div_lt_iff_lt_mul (by decide)];rw[Nat.pow_succ]at h;exact h
    have:=kQ f k (n / 10) (Nat.digitChar (n%10)::ds) h';rw[zm]at this;omega
theorem rA{i:Int}{k:Nat}(h:i.natAbs<10^(k+1)):(ah i).length<=k+2:=by
 unfold ah;rw[ofString_len];have nat:∀n:Nat,n<10^(k+1)->(Nat.repr n).length<=k+1:=fun n hn=>by unfold Nat.repr;rw[String.length_ofList];have:=kQ (n+1) k n [] hn;exact this
 cases i with
 |ofNat n =>have:=nat n h;show(Nat.repr n).length<=_;omega
 |negSucc n =>have:=nat (n+1) h;show("-"++Nat.repr (n+1)).length<=_;rw[String.length_append];have:("-":String).length=1:=rfl;omega
section
variable{X:Cx}{K:PySem.W.Frag}
theorem bX(hK:X.K=K)(hc:X.calm=true)(dg:nsIn K cStatics "sys.int_max_str_digits" = some none):QCall X (.type "str") (fun xs H Q=>∃i:Int,xs=[.int i]/\i.natAbs<10^4300/\Q (.str (ah i)) H):=by refine⟨?_⟩;subst hK;intro pins s σ H xs us Q I r h;obtain⟨i,rfl,hi,q⟩:=h;obtain⟨u,rfl,rx⟩:=ce r;obtain⟨t,rfl⟩:=rx;obtain⟨mc,hn,_⟩:=I.nolimit;exact str_of_int_or (I.ok.hd hc) ⟨mc,hn,ns_none_of I.kIn hn dg⟩ (fun _=>⟨.str (ah i),H,I.tok _,⟨_,rfl⟩,q⟩) (fun z=>absurd hi (Nat.not_lt.mpr z))
def sR(K:PySem.W.Frag):V->List V->Hp->VK->Prop:=fun x xs H Q=>∃(sep:Str) (p:Addr) (ys:List Str),x=.str sep/\xs=[.ref p]/\SqL K H p (ys.map V.str)/\(ys.map (·.length)).sum+ys.length*sep.length<=16777216/\Q (.str (Txt.join sep ys)) H
theorem nk:∀{ys:List Str} {us:List Value},Vals (ys.map V.str) us->StrsAre us ys
 | [],_,h=>by cases h;exact .nil
 |y::ys,_,h=>by
  cases h with
  |cons r1 r2 =>obtain⟨t,rfl⟩:=r1;exact .cons _ _ (nk r2)
theorem tH:MtR X "str.join" (sR X.K):=by intro pins s σ H x xs v us Q I rx r h;obtain⟨sep,p,ys,rfl,rfl,hl,hz,q⟩:=h;obtain⟨t,rfl⟩:=rx;obtain⟨u,rfl,ru⟩:=ce r;cases ru;obtain⟨its,rv,pl,_⟩:=I.list hl;exact join_list pl.isList (by simpa using nk rv) hz fun t' k=>⟨.str _,H,I.tok _,⟨_,rfl⟩,q⟩
theorem gh{o e:Expr}{to te:TE}{apos cpos:Pos}(ho:QE X o to)(he:QE X e te)(hs:aI e=true:=by rfl)(hbase:attributeBase o "join" X.env (eval o X.env)=eval o X.env:=by rfl)(hline:(apos.endLine==cpos.line)=true:=by rfl) :
  QE X (.Call (.Attribute o "join" apos) [e] [] cpos) (tBM X.K "str" (sR X.K) to (di te gL)):=by
 have h1:=aO (es:=[]) (env:=X.env) hs;have h2:starEach ([]:List Expr) X.env=[]:=rfl;refine⟨iV PySem.F.plainAttrs_str PySem.F.slot_str_join PySem.F.type_str_join tH ho.h (dF he.h eQ (hs:=h1)) (hbase:=hbase) (hfew:=?_) (hline:=hline) (hs:=h1) (hplain:=by rw[h2];rfl)⟩;rw[h1,h2];rfl
theorem kF:QIx X vW:=⟨uT⟩
theorem gb:QOp X (binaryOp .Add) (fun x y H Q=>∃i j,x=.str i/\y=.str j/\i.length+j.length<=sizeLine/\Q (.str (i++j)) H):=⟨oy⟩
theorem wS:QOp X (compareOp .In) (fun x y H Q=>∃i j,x=.str i/\y=.str j/\Q (.bl (!(Builtin.Str.occurrences j i 0 j.length 1).isEmpty)) H):=by refine⟨?_⟩;intro pins s σ H x y v u Q I rx ry h;obtain⟨i,j,rfl,rfl,q⟩:=h;obtain⟨t,rfl⟩:=rx;obtain⟨t',rfl⟩:=ry;exact in_str ⟨.bl _,H,I,rfl,q⟩
end
theorem tE{K:PySem.W.Frag}{a b:Addr}{xs ys:List V}{i j:Nat}{tb:TS}{D:Ends}{σ:St}{H:Hp}(Pv:Nat->St->Hp->Prop)(h0:Pv 0 σ H)(ha:∀i σ H,i<=xs.length->Pv i σ H->SqT K H a xs)(hb:∀i σ H,i<=xs.length->Pv i σ H->SqT K H b ys)(hl:xs.length=ys.length)(hs:∀k x y σ H,xs[k]?=some x->ys[k]?=some y->Pv k σ H->∀T,H T=none->tb { D with nx:=Pv (k+1),ct:=Pv (k+1),bk:=D.nx } ((σ.set i (some x)).set j (some y)) (upd H T (.tup [x,y])))(hd:∀σ H,Pv xs.length σ H->D.nx σ H) :
  ∃W:Nat->Nat->St->Hp->Prop,(∃m,W 0 m σ H)/\∀k m σ H,W k m σ H ->
   ((Itz K a b xs ys).stop k H/\D.nx σ H)\/((Itz K a b xs ys).go k H/\∃N:St->Hp->Prop,(∀σ' H',N σ' H'->∃m',m'<m/\W (k+1) m' σ' H')/\∀x H',(Itz K a b xs ys).yld k H x H'->jy K 2 (dY (bA i) (dY (bA j) jx)) x σ H' fun σ2 H2=>tb { D with nx:=N,ct:=N,bk:=D.nx } σ2 H2):=by
 refine⟨fun k m σ H=>m=xs.length-k/\k<=xs.length/\Pv k σ H,⟨xs.length,by simp,Zv _,h0⟩,?_⟩;rintro k m σ H ⟨rfl,hk,pv⟩;by_cases hlt:k<xs.length
 ·refine .inr ⟨⟨hlt,ha k σ H hk pv,hb k σ H hk pv⟩,Pv (k+1),fun σ' H' z=>⟨xs.length-(k+1),by omega,rfl,hlt,z⟩,fun x H' y=>?_⟩;obtain⟨T,p,q,hT,hx,hy,rfl,rfl⟩:=y;exact⟨T,[p,q],rfl,SqT.of af,rfl,p,[q],rfl,q,[],rfl,rfl,hs k p q σ H hx hy pv T hT⟩
 ·have e:k=xs.length:=by omega
  subst e;exact .inl ⟨⟨rfl,ha _ σ H hk pv,hb _ σ H hk pv⟩,hd σ H pv⟩
theorem ie{J:It}{N n:Nat}{cap:List Nat}{g:TG}{te:TE}{σ:St}{H0:Hp}{Q:VK}(Pv:Nat->List V->Hp->Prop)(hz:N<=1000)(hn:∀i ys H,Pv i ys H->ys.length=i)(h0:Pv 0 [] H0)(hgo:∀i ys H,i<N->Pv i ys H->J.go i H)(hst:∀ys H,Pv N ys H->J.stop N H)(ht:∀i ys H x H',i<N->Pv i ys H->J.yld i H x H'->∀A:VK,(∀v H4,Pv (i+1) (ys++[v]) H4->A v H4)->g x (bn n cap σ) H' fun σ2 H2=>te σ2 H2 A)(hq:∀ys p H,Pv N ys H->H p=none->Q (.ref p) (upd H p (.lst ys))):cq n cap g cS te σ J H0 Q:=by
 refine⟨fun i m ys H=>m=N-i/\i<=N/\Pv i ys H,⟨N,by simp,Zv _,h0⟩,?_⟩;rintro i m ys H ⟨rfl,hi,pv⟩;by_cases hlt:i<N
 ·refine .inr ⟨hgo i ys H hlt pv,by rw[hn i ys H pv];exact cJ (by omega),fun x H' y=>?_⟩;have k:=ht i ys H x H' hlt pv y (fun v H4=>∃m',m'<N-i/\m'=N-(i+1)/\i+1<=N/\Pv (i+1) (ys++[v]) H4) (fun v H4 z=>⟨N-(i+1),by omega,rfl,hlt,z⟩);unfold cS;simpa using k
 ·have e:i=N:=by omega
  subst e;exact .inl ⟨hst ys H pv,fun p hp=>hq ys p H pv hp⟩
open PySem PySem.Spec PyProof.Rows PySem.W
def dI(z:Str)(lo hi:Option Int):Str:=if(Builtin.Str.strSliceIndices lo hi 1 z.length).length=z.length then z else⟨((Builtin.Str.strSliceIndices lo hi 1 z.length).filterMap (z.cps[·]?)).toArray⟩
theorem kR(z:Str)(lo hi:Option Int):(dI z lo hi).length<=z.length:=by
 unfold dI;split
 ·exact ze _
 ·show(List.filterMap _ _).toArray.size<=_;rw[zh];exact zq (List.length_filterMap_le _ _) (indices_len_le _ _ _)
section
variable{X:Cx}{K:PySem.W.Frag}
theorem va:QSl X (fun x lo hi H Q=>∃z:Str,x=.str z/\z.length<=1000/\Q (.str (dI z lo hi)) H):=by
 refine⟨?_⟩;intro pins s σ H x v vl vu lo hi sl Q I rx hs pl pu h;obtain⟨z,rfl,hz,q⟩:=h;obtain⟨t,rfl⟩:=rx;have pt:∀{v:Value} {o:Option Int},IsPart v o->∃p:Option (Int×Tok),v=partValue p/\p.map (·.1)=o:=fun{v o} p=>by
  cases p with
  |none=>exact⟨none,rfl,rfl⟩
  |int i t=>exact⟨some (i,t),rfl,rfl⟩
 obtain⟨l,rfl,hl⟩:=pt pl;obtain⟨u,rfl,hu⟩:=pt pu;have e:slicePicked z l u none=Builtin.Str.strSliceIndices lo hi 1 z.length:=by unfold slicePicked;rw[hl,hu];rfl
 refine⟨"str",_,F.slot_str_getitem.lookup,typeIs_str _ _ _,wpAny_getItem_str_slice (l:=l) (u:=u) (st:=none) hs rfl ?_⟩;have hy:=kR z lo hi;unfold sliceMade;unfold dI at q hy;rw[e];split
 ·rename_i hc;have hc':(Builtin.Str.strSliceIndices lo hi 1 z.length).length=z.length:=by simpa using hc
  rw[if_pos hc']at q;exact⟨.str z,H,I,⟨_,rfl⟩,q⟩
 ·rename_i hc;have hc':¬(Builtin.Str.strSliceIndices lo hi 1 z.length).length=z.length:=by simpa using hc
  rw[if_neg hc']at q hy;exact⟨bz (zq hy hz),.str _,H,I.tok _,⟨_,rfl⟩,q⟩
end
open PySem PySem.Spec PyProof.Rows PySem.W
open PySem PySem.Spec PyProof.Rows PySem.W
section
variable{X:Cx}
theorem wR{K:PySem.W.Frag}(hK:X.K=K):QOp X (compareOp .In) (rIn K false):=by subst hK;exact⟨qo⟩
end
open PySem PySem.Spec PyProof.Rows PySem.W
structure LtOk(lt:Nat->Nat->Bool):Prop where
 as:∀{a b},lt a b=true->lt b a=false
 tr:∀{a b c},lt b a=false->lt c b=false->lt c a=false
def gA(p:Array Nat)(k:Nat):Nat:=p.getD k 0
def Lx(lt:Nat->Nat->Bool)(a b:Nat):Prop:=lt b a=false/\(lt a b=true\/a<b)
section
variable{lt:Nat->Nat->Bool}(O:LtOk lt)
include O
end
structure Fx(N:Nat)(p:Array Nat)(m:Nat):Prop where
 sz:p.size=N
 hi:∀k,m<=k->k<N->gA p k=k
 lo:∀i,i<m->gA p i<m
section
variable{lt:Nat->Nat->Bool}(O:LtOk lt){N:Nat}
include O
structure Dn(lt:Nat->Nat->Bool)(p:Array Nat)(n q:Nat):Prop where
 hq:q+1<=n
 up:∀i j,i<j->j<n-(q+1)->Lx lt (gA p j) (gA p i)
 cr:∀i j,i<n-(q+1)->n-(q+1)<=j->j<n->lt (gA p j) (gA p i)=true
 eq:∀i j,n-(q+1)<=i->i<j->j<n->lt (gA p i) (gA p j)=false/\lt (gA p j) (gA p i)=false/\gA p i<gA p j
end
open PySem PySem.Spec PyProof.Rows PySem.W
open PySem PySem.Spec PyProof.Rows PySem.W
section
variable{X:Cx}{pins:List (Addr×Obj)}{σ:St}{H:Hp}{s:Shared}{h':Heap}
structure SK(X:Cx)(pins:List (Addr×Obj))(σ:St)(H1:Hp)(m:Str->Option Value)(kS D:Addr)(e1:Nat)(ks:List (List Int))(as:List Addr)(e:Nat)(H:Hp)(s:Shared):Prop where
 I:Inv X pins σ H s
 sm:Same H1 H
 fk:bB X pins H kS
 fd:bB X pins H D
 bk:X.base.get? kS=none
 bd:X.base.get? D=none
 hk:s.heap.get? kS=some (seqObj "list" (List.toArray (as.map Value.ref)) e)
 hd:s.heap.get? D=some (seqObj "list" #[] e1)
 ns:s.heap.Ns X.env.locals m
 keys:∀(i:Nat) (a:Addr) (k:List Int),as[i]?=some a->ks[i]?=some k->H a=some (.tup (k.map V.int))
end
open PySem PySem.Spec PyProof.Rows PySem.W
section
variable{X:Cx}{pins:List (Addr×Obj)}{σ:St}{H:Hp}{s:Shared}
structure ExOk(X:Cx)(b:Addr):Prop where
 old:b∈X.ex\/X.s₀.heap.get? b=none
 loc:b≠X.env.locals
 cel:∀x c,X.env.cells.lookup x=some c->c≠b
 bas:X.base.get? b=none
 fs:b∉X.fs
end
open PySem PySem.Spec PyProof.Rows PySem.W
open PySem PySem.Spec PyProof.Rows PySem.W
open PySem PySem.Spec PyProof.Rows PySem.W
open PySem PySem.Spec PyProof.Rows PySem.W
open PySem PySem.Spec PyProof.Rows PySem.W
section
variable{X:Cx}
structure QPs(X:Cx)(pos:Pos)(keys:List (Option Expr))(values:List Expr)(trs:List (TE×TE)):Prop where
 h:PPs X pos keys values trs
end
open PySem PySem.Spec PyProof.Rows PySem.W
open PySem PySem.Spec PyProof.Rows PySem.W
structure MFn(P:Program)(w:World)(K:PySem.W.Frag)(mg:Str->Option Value)(base:Heap)(k:Nat)(C:Addr)(m:Str)(ps:List Str)(sp:Sp):Prop where
 cl:Cls K C
 ex:∃f fd,FnOk P w K mg base CX0 k f fd ps sp/\Meth K C m f/\Binds K fd ps []
structure MkFn(P:Program)(w:World)(K:PySem.W.Frag)(mg:Str->Option Value)(base:Heap)(k:Nat)(C:Addr)(x:Str)(ps:List Str)(sp:Sp):Prop where
 cl:Cls K C
 mgC:mg x=some (.ref C)
 ex:∃f fd,FnOk P w K mg base CX0 k f fd ps sp/\Mk K C f/\Binds K fd ps []
def xt(t:TS):TS:=fun D σ H=>∃Pv:St->Hp->Prop,t { D with nx:=Pv } σ H/\∀σ' H',Pv σ' H'->D.nx σ' H'
theorem lF{X:Cx}{st:Stmt}{t:TS}(h:QS X st t):QS X st (xt t):=⟨fun pins s σ H D I ⟨Pv,h1,h2⟩=>thn (h.h pins s σ H _ I h1) fun fl s' q=>by
 cases fl with
 |next =>obtain⟨σ',H',I',q'⟩:=q;exact⟨σ',H',I',h2 _ _ q'⟩
 | _=>exact q⟩
open PySem PySem.Spec PyProof.Rows PySem.W
open PySem PySem.Spec PyProof.Rows PySem.W
open PySem PySem.Spec PyProof.Rows PySem.W PySem.Builtin PySem.Builtin.ObjectAttr
def qp:List Value->Bool
 |.ref _::r=>qp r
 |l=>l==VE
structure ExS(K:PySem.W.Frag)(c:Addr):Prop where
 sa:findIn K (.ref c) "__setattr__" = some (some (.builtin "object.__setattr__"))
 ov:((clsIn K c).any fun cd=>qp cd.mro&&cd.hasDict)=true
 ob:mroIn K c (.type "object")=some true
open PySem PySem.Spec PyProof.Rows PySem.W
open PySem PySem.Spec PyProof.Rows PySem.W
def uL(K:PySem.W.Frag)(C fI:Addr):Bool:=match K.lookup C with
 | some ⟨.type "type",_,.cls cd,sl⟩=>(match cd.mro,sl.toList with
  |.ref C'::bm,[_,_,_,_,some (.builtin n),_]=>C'==C&&n=="ValueError.__new__"&&!cd.hasDel&&tailIn K VE bm&&nsOkIn K cd.ns&&nsIn K cd.ns "__init__" == some (some (.ref fI))
  | _,_=>false)
 |_=>false
structure ExcAtI(K:PySem.W.Frag)(C fI:Addr)(bm:List Value):Prop where
 isIn:uL K C fI=true
 mro:∃c d cd sl,K.lookup C=some ⟨c,d,.cls cd,sl⟩/\cd.mro=Value.ref C::bm
 exc:bm.contains (.type "BaseException")=true
 fn:∃oI,K.lookup fI=some oI/\oI.cls=.type "function"
structure ExI(P:Program)(w:World)(K:PySem.W.Frag)(mg:Str->Option Value)(base:Heap)(k:Nat)(C:Addr)(bm:List Value)(ps:List Str)(sp:Sp):Prop where
 ex:∃fI fd,ExcAtI K C fI bm/\FnOk P w K mg base CX0 k fI fd ps sp/\Binds K fd ps []
open PySem PySem.Spec PyProof.Rows PySem.W
structure MFnX(P:Program)(w:World)(K:PySem.W.Frag)(mg:Str->Option Value)(base:Heap)(k:Nat)(C:Addr)(m:Str)(ps:List Str)(sp:Sp):Prop where
 cl:Cls K C
 ex:∃f fd,FnOk P w K mg base (CXr P w) k f fd ps sp/\Meth K C m f/\Binds K fd ps []
section
variable{X:Cx}{k:Nat}{C:Addr}{m x:Str}{p pos apos:Pos}{o e:Expr}{es:List Expr}{ps:List Str}{sp:Sp}{t:TA}{ta:TE}{E:XK}
theorem xp(F:FnX X.prog X.w X.K X.mg X.base k x ps sp)(hx:fS (CXr X.prog X.w) X E)(hr:Room k X.A)(ha:QA X (e::es) t)(hg:Gl X x:=by rfl)(hs:(e::es).all aI=true:=by rfl)(hdb:(x==("__debug__":Str))=false:=by decide) :
  QE X (.Call (.Name x p) (e::es) [] pos) (jd sp [] E t):=by
 obtain⟨f,fd,G,hm,kp,b⟩:=F.ex;rw[List.all_cons,zA]at hs;exact⟨mM G hr hg hm kp b .nil hx ha.h hdb (aO hs.1) (bv hs.2)⟩
end
def exD(ea c:Addr)(dc:Option Addr):HO:=.ext fun h=>∃oe,h.get? ea=some oe/\oe.cls=.ref c/\oe.dict=dc/\notCls oe=true
theorem Fl.trackD{X:Cx}{pins:List (Addr×Obj)}{σ:St}{H0 H':Hp}{s0 s':Shared}{B:Heap}{ea t c:Addr}{dc:Option Addr}(F:Fl X H0 H' s0 s' B)(I0:Inv X pins σ H0 s0)(fly:Heap.FlyingW B X.stack ea (.ref c) (.ref t) s'.heap)(hd:∃oe,s'.heap.get? ea=some oe/\oe.cls=.ref c/\oe.dict=dc/\notCls oe=true) :
  H' ea=none/\Inv X pins σ (upd H' ea (exD ea c dc)) s':=by
 have I:=F.inv I0;obtain⟨oe,vs,he,hc,hf,_⟩:=fly.first;have nfr:ea∉frs X.stack:=fun hm=>by obtain⟨_,o',ho',hd'⟩:=I.stack.mem hm;have e:s'.heap.get? ea=some o':=ho';rw[he]at e;cases e;exact hd' vs hf
 have hB:B.get? ea=none:=fly.2.1;have hn:H' ea=none:=by
  cases q:H' ea with
  |none=>rfl
  |some u =>have:=F.kb ea oe nfr (.inl ⟨u,q⟩) he;rw[hB]at this;cases this
 have h0:s0.heap.get? ea=none:=by
  cases q:s0.heap.get? ea with
  |none=>rfl
  |some o0 =>have:=F.kb ea oe nfr (.inr ⟨o0,q⟩) he;rw[hB]at this;cases this
 have ne0:∀b o,s0.heap.get? b=some o->b≠ea:=fun b o q z=>by rw[z,h0]at q;cases q
 have neH:∀b u,H' b=some u->b≠ea:=fun b u q z=>by rw[z,hn]at q;cases q
 refine⟨hn,⟨I.ok,I.os,I.bare,⟨I.base.keep,I.base.slot,fun b o q n hx=>?_,I.base.there,fun b xs q=>?_,fun b o u q=>?_,fun b ps q=>?_⟩,I.loc,I.cell,?_,fun x c' q=>?_,fun p hp=>?_,fun b u q=>?_,I.len⟩⟩
 ·obtain⟨o',q'⟩:=I0.base.there b o q hx;rw[aw (ne0 b o' q')];exact I.base.free b o q n hx
 ·have:=I.base.tups b xs q;rw[aw (neH _ _ this)];exact this
 ·have:=I.base.frzs b o u q;rw[aw (neH _ _ this)];exact this
 ·obtain⟨more,this⟩:=I.base.tbls b ps q;exact⟨more,by rw[aw (neH _ _ this)];exact this⟩
 ·obtain⟨m,⟨o,_,_,ho,_⟩,_⟩:=I0.loc;rw[aw (ne0 _ o ho)];exact I.free
 ·obtain⟨v,o,ho,_⟩:=I0.cell x c' q;rw[aw (ne0 _ o ho)];exact I.freeC x c' q
 ·obtain⟨e,n,ne,nf,d⟩:=I.pin p hp;refine⟨e,?_,ne,nf,d⟩;rw[aw (ne0 _ _ (I0.pin p hp).1)];exact n
 ·by_cases hb:b=ea
  ·subst hb;rw[af]at q;cases q;obtain⟨o1,a1,a2,a3,a4⟩:=hd;exact⟨⟨o1,a1,a2,a3,a4⟩,⟨o1,a1⟩,fun h1 h2 ⟨o2,b1,b2,b3,b4⟩ k=>⟨o2,k o2 b1,b2,b3,b4⟩⟩
  ·rw[aw hb]at q;refine(I.hok b u q).stay (fun _ _ _ z=>z) (fun d z=>?_) fun d xs z=>?_
   ·rw[aw (neH _ _ z)];exact z
   ·rw[aw (neH _ _ z)];exact z
def xK(K:PySem.W.Frag)(i:Nat)(Ch:Addr)(ts:TS):TH:=fun D σ C dc H'=>∃c bm,C=.ref c/\ExC K c bm/\(Value.ref c::bm).contains (.ref Ch)=true/\∀ea,H' ea=none ->
 ts { nx:=fun σ2 H2=>D.nx (σ2.set i none) H2,rt:=D.rt,bk:=fun σ2 H2=>D.bk (σ2.set i none) H2,ct:=fun σ2 H2=>D.ct (σ2.set i none) H2 } (σ.set i (some (.ref ea))) (upd H' ea (exD ea c dc))
section
variable{X:Cx}
theorem wN{i:Nat}{x n:Str}{Ch:Addr}{bmh:List Value}{b0:Stmt}{suite:List Stmt}{ts:TS}{np pos:Pos}{rest:List ExceptHandler}(hN:X.N.Nodup)(cl:ExC X.K Ch bmh)(hm:X.mg x=some (.ref Ch))(hs:∀e,QB (X.exc e) (b0::suite) ts)(hi:X.N[i]?=some n:=by rfl)(hl:X.env.kindOf n=some .local:=by rfl)(hg:Gl X x:=by rfl)(hdb:(x==("__debug__":Str))=false:=by decide) :
  QH X (.ExceptHandler (some (.Name x np)) (some n) (b0::suite) pos::rest) (xK X.K i Ch ts):=by
 refine⟨?_⟩;rintro pins s0 H0 σ D ea t C B H' dc s' I0 F fly hd ⟨c,bm,rfl,ec,hc,q⟩;have I:=F.inv I0;refine wpAny_handleBy_cons (codeAny_handlers_test ?_) (by intro z;cases z);refine eM (X:=X.exc (.ref ea)) (I.exc _) hg hm ?_ hdb;obtain⟨oe,he,hcl⟩:=fly.there;refine md ec cl I.kIn he hcl ?_;rw[hc];refine codeAny_handlers_suite_as ?_;obtain⟨f1,f2,f3,f4⟩:=fly;refine fm f1 f3 f4.at hd fun h6 k1 k2 k3 up6 hd6=>?_;have fly6:Heap.FlyingW B X.stack ea (.ref c) (.ref t) h6:=⟨k1,f2,k2,k3⟩
 have F6:=F.move (tk:=s'.toks) I0 fly6.1 up6;have hx6:∃oe,h6.get? ea=some oe/\oe.cls=.ref c/\oe.dict=dc/\notCls oe=true:=by obtain⟨oe,vs,z1,z2,z3,_⟩:=fly6.first;obtain⟨o2,y1,y2⟩:=hd6;cases zp (z1.symm.trans y1);exact⟨oe,z1,z2,y2,by unfold notCls;rw[z3]⟩
 obtain⟨hn,I6⟩:=F6.trackD I0 fly6 hx6;refine fQ I6 hN hi (.inl hl) (v:=.ref ea) (u:=.ref ea) rfl (fun s7 I7=>?_) (.inr hl);refine Zl ((hs (.ref ea)).h pins s7 _ _ _ (I7.exc _) (q ea hn)) (fun f s8 sp=>?_) (fun _ _ z=>False.elim z);cases f with
 |next =>obtain⟨σ2,H2,I8,q8⟩:=sp;exact dZ (I8.unexc I0.ok) hN hi hl fun s9 I9=>⟨_,H2,I9,q8⟩
 |brk =>obtain⟨σ2,H2,I8,q8⟩:=sp;exact dZ (I8.unexc I0.ok) hN hi hl fun s9 I9=>⟨_,H2,I9,q8⟩
 |cont =>obtain⟨σ2,H2,I8,q8⟩:=sp;exact dZ (I8.unexc I0.ok) hN hi hl fun s9 I9=>⟨_,H2,I9,q8⟩
 |ret u =>obtain⟨v,σ2,H2,I8,r8,q8⟩:=sp;exact dZ (I8.unexc I0.ok) hN hi hl fun s9 I9=>⟨v,_,H2,I9,r8,q8⟩
end
open PySem PySem.Spec PyProof.Rows PySem.W
section
variable{K:PySem.W.Frag}{prog:Program}{w:World}{A:Around}{E:Value->Shared->Prop}{h:Heap}{g:Array GenState}{d:Drawn}{t:Nat}{os:OsState}{x D:Addr}{ox:Obj}{od:Option Obj}
theorem iL{tk:Tok}{Q:PySem.Fin->Shared->Prop}(X:K.In h)(I:InstAt h x ox D od)(ha:findIn K (.ref D) "__class__" = some (some (.builtin "object.__class__")))(hm:mroIn K D (.type "object")=some true)(hq:Q (.done (.ret (.ref D))) ⟨h,g,d,t,os⟩):wpAny (model prog w) A (Builtin.«object.__getattribute__» ⟨[.ref x,.str "__class__" tk],[]⟩) Q E ⟨h,g,d,t,os⟩:=by
 have hT5:(⟨h,g,d,t,os⟩:Shared).TypeIs (.builtin "object.__class__") "getset_descriptor":=F.typeOf_object_class;have L0:=I.type (M:=model prog w);have L3:=looks_findIn (M:=model prog w) X ha;have f5:=F.typeOf_object_class;have f6:=F.slot_gs_get.lookup;have f7:=F.slot_gs_set.lookup
 repeat(any_goals(first|assumption|with_reducible refine L0.at ?_|with_reducible refine L3.at ?_|wp_step))
 refine class_get (s:=⟨h,g,d,t,os⟩) X I hm ?_
 repeat(any_goals(first|assumption|wp_step))
theorem nO{M:Model}{nv:Value}{Q:Unit->Shared->Prop}(X:K.In h)(I:InstAt h x ox D od)(hb:mroIn K D (.type "BaseException")=some true)(hq:Q () ⟨h,g,d,t,os⟩) :
  wpAny M A (checkBuiltinCall "BaseException.__getattribute__" ⟨[.ref x,nv],[]⟩) Q E ⟨h,g,d,t,os⟩:=by
 have hk:builtinKind "BaseException.__getattribute__" = some .slot:=by decide +kernel
 have hs:splitId "BaseException.__getattribute__" = some ("BaseException","__getattribute__"):=by decide +kernel
 have ao:=F.args_bexc_ga (.ref x) nv;have L0:=I.type (M:=M);have L1:=looks_mroIn (M:=M) X hb;simp only[checkBuiltinCall,hk,hs];refine za ?_;unfold isInstance
 repeat(first|with_reducible refine L0.at ?_|with_reducible refine L1.at ?_|wp_step)
 exact hq
theorem nP{Q:Option Value->Shared->Prop}(X:K.In h)(I:InstAt h x ox D od)(hga:findIn K (.ref D) "__getattribute__" = some (some (.builtin "BaseException.__getattribute__")))(hgh:findIn K (.ref D) "__getattr__" = some none)(ha:findIn K (.ref D) "__class__" = some (some (.builtin "object.__class__")))(hb:mroIn K D (.type "BaseException")=some true)(hm:mroIn K D (.type "object")=some true)(hq:Q (some (.ref D)) ⟨h,g,d,t+1,os⟩) :
  wpAny (model prog w) A (getAttr? (.ref x) "__class__") Q E ⟨h,g,d,t,os⟩:=by
 have L0:=I.type (M:=model prog w);have L1:=looks_findIn (M:=model prog w) X hga;have L2:=looks_findIn (M:=model prog w) X hgh;have f3:=F.excAttr_ValueError.ga.bind (.ref x);have ne:(Value.builtin "BaseException.__getattribute__" == Value.builtin "object.__getattribute__")=false:=by decide +kernel
 have ne1:(onTheHeap (Value.ref D)&&Value.builtin "BaseException.__getattribute__" == Value.builtin "object.__getattribute__")=false:=by rw[ne];rfl
 have ne2:(false&&onTheHeap (Value.builtin "BaseException.__getattribute__"))=false:=rfl;unfold getAttr? getAttrBy?
 repeat(any_goals(first|assumption|with_reducible refine L0.at ?_|with_reducible refine L1.at ?_|with_reducible refine L2.at ?_|wp_step))
 refine codeAny_call_builtin F.excAttr_ValueError.ga.plain F.entry_bexc_ga (nO X I hb (iL X I ha hm ?_))
 repeat(any_goals(first|assumption|wp_step))
end
theorem pW{K:PySem.W.Frag}{x c:Addr}{ox:Obj}{od:Option Obj}(k:ExK K c):KitX K (.ref x) (.ref c) (fun h=>InstAt h x ox c od) where
 ty:=fun _ _ _ I=>I.type
 it:=fun _ _ X _=>by
  obtain⟨cd,hc⟩:=Option.isSome_iff_exists.mp k.hc;unfold clsIn at hc;split at hc
  ·rename_i ho;intro A' Q' E' s' kp q;unfold isType loadHead;exact za (wpAny_loadPart (kp _ _ (X _ _ ho)) (zi q))
  ·cases hc
 ne:=fun h tp dd its n sl X htp=>by
  obtain⟨cd,hc⟩:=Option.isSome_iff_exists.mp k.hc;refine Zg.mpr fun q=>?_;have e:c=tp:=Value.ref.inj (beq_iff_eq.mp q);cases e;unfold clsIn at hc;split at hc
  ·rename_i ho;exact nomatch((X _ _ ho).symm.trans htp)
  ·cases hc
 ca:=fun{_ _ _ _ _ s} X I kq=>by obtain⟨hp,g,d,tt,os⟩:=s;exact nP X I k.hga k.hgh k.ha k.hb k.hm kq
def qS(H:Hp):Option Addr->Prop
 |none=>True
 |some d=>∃fs,H d=some (.xd fs)
section
variable{X:Cx}{pins:List (Addr×Obj)}{σ:St}{H:Hp}{s:Shared}
theorem pN{a c:Addr}{dc:Option Addr}(I:Inv X pins σ H s)(ha:H a=some (exD a c dc))(hd:qS H dc):∃oe od,InstAt s.heap a oe c od/\∀d,dc=some d->∃o,od=some o/\s.heap.get? d=some o:=by
 obtain⟨⟨oe,h1,h2,h3,h4⟩,_⟩:=(show ObjOk X.prog X.w H s.heap a (exD a c dc)from I.hok a _ ha)
 cases dc with
 |none=>exact⟨oe,none,⟨h1,h2,h4,by rw[h3];exact True.intro⟩,fun d z=>nomatch z⟩
 |some d =>obtain⟨fs,hf⟩:=hd;obtain⟨o,ho⟩:=fE (I.hok d _ hf);exact⟨oe,some o,⟨h1,h2,h4,by rw[h3];exact ho⟩,fun d' z=>by cases z;exact⟨o,rfl,ho⟩⟩
end
open PySem PySem.Spec PyProof.Rows PySem.W
def tu(X:Cx)(B:Heap)(ea:Addr)(C:Value)(t:Addr)(h:Heap):Prop :=
 (B.StaysIn h/\B.get? ea=none/\h.FunFrames B X.stack/\∃oe,h.get? ea=some oe/\oe.cls=C/\oe.data=.fields #[.ref t,.none,.none,.none,.bool false,.none]) \/
 Heap.FlyingW B X.stack ea C (.ref t) h\/Heap.HeldW B X.stack ea C (.ref t) X.env.locals h
def sB(X:Cx)(E:XK)(ea:Addr)(s':Shared):Prop:=∃(pins:List (Addr×Obj)) (σ:St) (H0 H':Hp) (s0:Shared) (B:Heap) (t:Addr) (C:Value) (vs:List Value) (dc:Option Addr),
 Inv X pins σ H0 s0/\Fl X H0 H' s0 s' B/\tu X B ea C t s'.heap/\s'.heap.TupAt t vs/\B.get? t=none/\cK s'.heap ea dc/\E C dc H'
section
variable{X:Cx}{E:XK}{ea:Addr}{s':Shared}{EE:Value->Shared->Prop}
theorem nK{Q:Unit->Shared->Prop}(hst:X.stack=X.env::X.outer)(hfr:X.env.frame=some X.env.locals)(x:sB X E ea s')(k:∀ h',(∃ (pins:List (Addr×Obj)) (σ:St) (H0 H':Hp) (s0:Shared) (B:Heap) (t:Addr) (C:Value) (vs:List Value) (dc:Option Addr),
   Inv X pins σ H0 s0/\Fl X H0 H' s0 { s' with heap:=h' } B/\Heap.HeldW B X.stack ea C (.ref t) X.env.locals h'/\h'.TupAt t vs/\B.get? t=none/\cK h' ea dc/\E C dc H')->Q () { s' with heap:=h' }) :
  wpAny (model X.prog X.w) X.A (noteFrame (.ref ea) X.env) Q EE s':=by
 obtain⟨pins,σ,H0,H',s0,B,t,C,vs,dc,I0,F,st,tup,hBt,dd,q⟩:=x;have fr:X.A.frames=some (X.env::X.outer):=by rw[<-hst];exact I0.ok.frames
 rcases st with⟨f1,f2,f3,oe,he,rfl,hd⟩|fly|held
 ·unfold noteFrame;simp only[hfr];refine za (zR he hd (show _=some Value.none from rfl) ?_);rw[if_neg (by decide)];rw[hst]at f3;refine hV (a0:=.ref t) fr f3 hfr he f1 f2 hd (by simp) rfl fun h1 nt dd1=>?_;obtain⟨n1,n2,n3,n4⟩:=nt;rw[<-hst]at n2;obtain⟨o9,q9,d9⟩:=dd;cases zp (he.symm.trans q9);rw[d9]at dd1;exact k h1 ⟨pins,σ,H0,H',s0,B,t,_,vs,dc,I0,F.move (tk:=s'.toks) I0 n1 n4,⟨n1,f2,n2,n3⟩,tup.of_slots n4,hBt,dd1,q⟩
 ·rw[hst]at fly;refine iQ fr hfr fly dd fun h1 held up dd1=>?_;rw[<-hst]at held;exact k h1 ⟨pins,σ,H0,H',s0,B,t,C,vs,dc,I0,F.move (tk:=s'.toks) I0 held.1 up,held,tup.of_slots up,hBt,dd1,q⟩
 ·exact wpAny_noteFrame_againW hfr held.2.2.2 (k s'.heap ⟨pins,σ,H0,H',s0,B,t,C,vs,dc,I0,F,held,tup,hBt,dd,q⟩)
end
def jn(X:Cx)(E:XK):Prop:=∀ea s',sB X E ea s'->X.xe (.ref ea) s'
section
variable{P:Program}{w:World}{K:PySem.W.Frag}{mg:Str->Option Value}{base:Heap}{N:List Str}{qual:Str}{scope:Scope}{f:Addr}{cd:Value}{A:Around}{outer:List Env}{s:Shared}{H:Hp}{E:XK}
theorem fG:jn (cU (CXr P w) P w K mg base N qual scope f cd A outer s H E) E:=by
 intro ea s' x;show wpAny (model P w) (A.deeper (envOfC qual scope s.heap.objs.size f cd)) (leaving (envOfC qual scope s.heap.objs.size f cd) (.ref ea)) _ _ _;unfold leaving;refine za (nK (X:=cU (CXr P w) P w K mg base N qual scope f cd A outer s H E) rfl rfl x ?_);rintro h1 ⟨pins,σ,H0,H',s0,B,t,C,vs,dc,I,F,held,tup,hBt,dd,q⟩;obtain⟨f1,f2,f3,f4⟩:=held;refine fm (s:={ s' with heap:=h1 }) f1 f3 f4 dd fun h2 k1 k2 k3 up dd2=>?_;have F2:=F.move (tk:=s'.toks) I k1 up;have I2:=F2.inv I;have hL:∀b o,s.heap.get? b=some o->b≠s.heap.objs.size:=fun b o q=>zJ (zk q);have nfr:∀b,b∉frs outer->b≠s.heap.objs.size->b∉frs (envOfC qual scope s.heap.objs.size f cd::outer):=fun b h1 h2 hm=>by
  rcases zw.mp (I.stkSub b hm)with z|z
  ·exact h2 z
  ·exact h1 z
 obtain⟨_,_,k2'⟩:=k2;refine⟨ea,t,C,vs,B,H',dc,rfl,I2.os,F2.bare,⟨fun b o q n hb _=>?_,fun b o q n hb _=>?_,fun b o q n _=>?_,fun b o q _=>?_,I2.base.tups,I2.base.frzs,I2.base.tbls⟩,F2.hok,⟨k1,f2,k2',k3⟩,tup.of_slots up,hBt,fun b o hb ho q=>?_,dd2,q⟩
 ·exact I2.base.keep b o q n hb (by intro z;cases z)
 ·exact I2.base.slot b o q n hb (by intro z;cases z)
 ·exact I2.base.free b o q n (by intro z;cases z)
 ·exact I2.base.there b o q (by intro z;cases z)
 ·refine F2.kb b o ?_ ?_ q
  ·rcases ho with⟨u,z⟩|⟨o0,z⟩
   ·exact F2.nf I z
   ·exact nfr b hb (hL b o0 z)
  ·rcases ho with⟨u,z⟩|⟨o0,z⟩
   ·exact .inl ⟨u,z⟩
   ·exact .inr (I.base.there b o0 z (by intro z;cases z))
end
section
variable{X:Cx}{E:XK}
theorem xc(hR:jn X E):fS (CXr X.prog X.w) X E:=fun pins σ H s e s' I x=>by obtain⟨ea,t,C,vs,B,H',dc,rfl,os,bare,un,hok,fly,tup,hBt,kb,dd,q⟩:=x;exact hR ea s' ⟨pins,σ,H,H',s,B,t,C,vs,dc,I,⟨os,bare,un,hok,kb⟩,.inr (.inl fly),tup,hBt,dd,q⟩
theorem gi(hR:jn X E):pA X (fun C H1=>E C none H1):=fun pins σ H1 s1 h2 e C vs I hx hE=>by
 obtain⟨t,he,tn,tt⟩:=hx.there;have fr0:∀b,b∈frs X.stack->∃o,s1.heap.get? b=some o:=fun b hm=>by obtain⟨_,o',ho',_⟩:=I.stack.mem hm;exact⟨o',ho'⟩
 have hid:∀b o,s1.heap.get? b=some o->b∉frs X.stack->(hideAll s1.heap (frs X.stack)).get? b=some o:=fun b o q hb=>hideAll_get _ q hb;have dE:∀b,s1.heap.get? b=none->(hideAll s1.heap (frs X.stack)).get? b=none:=fun b hb=>by
  cases q:(hideAll s1.heap (frs X.stack)).get? b with
  |none=>rfl
  |some o=>exact nomatch hb.symm.trans (of_hideAll _ q)
 have tr:∀b u,H1 b=some u->b∉frs X.stack:=fun b u q hm=>by have:=I.stkFree b hm;rw[q]at this;cases this
 have F:Fl X H1 H1 s1 { s1 with heap:=h2 } (hideAll s1.heap (frs X.stack)):=⟨rfl,I.bare,Un.kept hx.keeps,I.hok.kept hx.keeps,fun b o hb ho q=>by
  obtain⟨o1,q1⟩:∃o1,s1.heap.get? b=some o1:=by
   rcases ho with⟨u,z⟩|⟨o0,z⟩
   ·exact fE (I.hok b u z)
   ·exact⟨o0,z⟩
  have q2:=hx.keeps _ _ q1;have q':h2.get? b=some o:=q;rw[q']at q2;cases q2;exact hid b o q1 hb⟩
 have ff:h2.FunFrames (hideAll s1.heap (frs X.stack)) X.stack:=(funFrames_hide I.stack fun env he b hb=>List.mem_filterMap.mpr ⟨env,he,hb⟩).of_keeps fun b o q _=>⟨o,hx.keeps b o q,rfl⟩
 exact hR e _ ⟨pins,σ,H1,H1,s1,_,t,C,vs,none,I,F,.inl ⟨fun b o q=>hx.keeps b o (of_hideAll _ q),dE e hx.new,ff,_,he,rfl,rfl⟩,⟨_,_,tt,rfl,rfl⟩,dE t tn,⟨_,he,rfl⟩,hE⟩
end
open PySem PySem.Spec PyProof.Rows PySem.W
def Itg(lo c:Int)(n:Nat):It:=⟨fun i _=>i<n,fun i H x H'=>H'=H/\x=.int (lo+i*c),fun i _=>n<=i⟩
theorem qP{P:Program}{w:World}{K:PySem.W.Frag}{tg:Expr}(it:Addr)(lo c:Int)(n:Nat):Turn P w K tg (Itg lo c n) [it] it (fun i h=>IsRangeIter h it (lo+(i:Nat)*c) ((n:Int)-(i:Nat)) c) where
 mem:=zC.mpr rfl
 obj:=fun i h st b hb=>by
  obtain rfl:b=it:=zC.mp hb;exact⟨_,st,fun v z=>by
   have z':Data.fields _=Data.cell v:=z;cases z'⟩
 keep:=fun i h h' st k=>k it (zC.mpr rfl) _ st
 item:=by intro X hP hw hK hc i pins s σ H E I hf st hg;subst hP hw hK;obtain⟨f0,f1,f2,f3,f4,f5⟩:=hf it (zC.mpr rfl);have W:=Walks.range (prog:=X.prog) (w:=X.w) (I.ok.hd hc) it lo c n;refine W.item i s _ _ hg st fun v h' tk hv st' kk=>?_;obtain⟨t,rfl⟩:=hv;have I1:Inv X pins σ H { s with heap:=h',toks:=tk }:=I.turned (fun b o hb e=>kk b o (fun z=>hb (zC.mp z)) e) f0 f1 f3 f4 f5;exact⟨_,rfl,iM (s:={ s with heap:=h',toks:=tk }) (n:="range_iterator") st' rfl rfl (by decide) ⟨.int (lo+i*c),H,I1,⟨t,rfl⟩,⟨rfl,rfl⟩,st',fun b hb=>(hf b hb).1⟩⟩
 done:=by intro X hP hw hK hc i pins s σ H E I hf st hg;subst hP hw hK;obtain⟨f0,f1,f2,f3,f4,f5⟩:=hf it (zC.mpr rfl);exact wpAny_pyNext_range_end (I.ok.hd hc) st (by have:n<=i:=hg;omega) fun h' eb=>⟨rfl,I.turned (t':=s.toks) (fun b o hb e=>eb b o hb e) f0 f1 f3 f4 f5⟩
 self:=fun _ _ _ _ _ st h=>wpAny_pyIter_rangeiter st h
def dh(lo hi c:Int):Nat:=(Builtin.Range.rangeSize lo hi c).toNat
theorem sq(lo hi c:Int)(h:lo<=hi):dh lo hi c<=(hi-lo).toNat:=by have:=rangeSize_toNat_le lo hi c;unfold dh;omega
theorem oP{a b c:Int}(ha:-(2^60)<=a)(ha':a<2^60)(hb:-(2^60)<=b)(hb':b<2^60)(hc:0<c)(hc':c<2^60):Builtin.Range.small a b c=true:=by have h1:=rangeSize_toNat_le a b c;have h2:=rangeSize_toNat a b c;unfold Builtin.Range.small;generalize Builtin.Range.rangeSize a b c=n at h1 h2 ⊢;simp only[Builtin.Range.rangeFitsLong,zA,Bool.or_eq_true,decide_eq_true_eq,beq_iff_eq,hc,if_true,gt_iff_lt];omega
section
variable{X:Cx}{tg:Expr}
theorem ur{pins:List (Addr×Obj)}{σ:St}{H:Hp}{s:Shared}{R:It->Hp->Prop}{E:Value->Shared->Prop}{lo hi c:Int}{t u v:Tok}{tk:Nat}(I:Inv X pins σ H s)(hs:Builtin.Range.small lo hi c=true)(q:R (Itg lo c (dh lo hi c)) H):wpAny (model X.prog X.w) X.A (pyIter (.ref s.heap.objs.size)) (PIE X pins σ tg R) E { s with heap:=s.heap.push { cls:=.type "range",data:=.fields #[.int lo t,.int hi u,.int c v] },toks:=tk }:=by
 refine wpAny_pyIter_range (IsRange.new ..) hs ?_;have I1:Inv X pins σ H { s with heap:=s.heap.push { cls:=.type "range",data:=.fields #[.int lo t,.int hi u,.int c v] },toks:=tk }:=I.kept fun b o e=>zc _ e;refine⟨(s.heap.push { cls:=.type "range",data:=.fields #[.int lo t,.int hi u,.int c v] }).objs.size,[(s.heap.push { cls:=.type "range",data:=.fields #[.int lo t,.int hi u,.int c v] }).objs.size],_,_,H,rfl,
  I1.kept (t':=tk) fun b o e=>zc _ e,qP _ lo c (dh lo hi c),?_,fun b hb=>?_,q⟩
 ·have e1:lo+((0:Nat):Int)*c=lo:=by simp
  have e2:((dh lo hi c:Nat):Int)-((0:Nat):Int)=Builtin.Range.rangeSize lo hi c:=by unfold dh;rw[<-rangeSize_toNat];simp
  show IsRangeIter _ _ (lo+((0:Nat):Int)*c) (((dh lo hi c:Nat):Int)-((0:Nat):Int)) c;rw[e1,e2];exact zn _ rfl
 ·obtain rfl:=zC.mp hb;exact I1.fpOk (ze _) (I1.hok.fresh (ze _))
def wO(ta:TA):TI:=fun σ H R=>ta σ H fun vs H1=>∃i j c:Int,vs=[.int i,.int j,.int c]/\0<c/\c<2^30/\(-(2^60)<=i/\i<2^60/\-(2^60)<=j/\j<2^60)/\R (Itg i c (dh i j c)) H1
theorem uR{a b c:Expr}{ta:TA}{p pos:Pos}(hm:X.mg "range" = none)(ha:QA X [a,b,c] ta)(hg:Gl X "range":=by rfl)(n1:aI a=true:=by rfl)(n2:aI b=true:=by rfl)(n3:aI c=true:=by rfl):QI X tg (.Call (.Name "range" p) [a,b,c] [] pos) (wO ta):=by
 refine⟨?_⟩;intro pins s σ H R I h;refine Call_ (dM I hg hm boot_range (Zi (thn (ha.h pos pins s σ H _ I h) fun us s1 hz9=>?_) (aO n1) (bv (by simp[n2,n3]))));obtain⟨vs,H1,I1,r1,q1⟩:=hz9;obtain⟨i,j,c,e,c0,c1,⟨q1,q2,q3,q4⟩,q⟩:=q1;subst e;cases r1 with
 |cons r rr =>
  cases rr with
  |cons r' rr =>
   cases rr with
   |cons r2 rr =>
    cases rr;obtain⟨t,rfl⟩:=r;obtain⟨t',rfl⟩:=r';obtain⟨t2,rfl⟩:=r2;exact call_range_3 (by omega) (ur I1 (oP q1 q2 q3 q4 c0 (by omega)) q) (Or.inl (PyProof.noPylong_small (by
     have:c.natAbs<1073741824:=by omega
     omega)))
end
theorem uJ{X:Cx}:QCall X (.builtin "isinstance") (fun xs H Q=>∃ (x T:V) (u:Value) (b:Bool),xs=[x,T]/\(∀ v,RelV T v->v=u) /\
  ((∃ t,TyOf X.K H x t/\PySem.W.kitOne X.K t u=some b)\/∃ (a c:Addr) (dc:Option Addr),x=.ref a/\H a=some (exD a c dc)/\qS H dc/\ExK X.K c/\PySem.W.kitOne X.K (.ref c) u=some b)/\Q (.bl b) H):=by
 refine⟨?_⟩;intro pins s σ H xs us Q I r h;obtain⟨x,T,u,b,rfl,ht,hh,q⟩:=h;obtain⟨v,w',rfl,rx,ry⟩:=gZ r;cases ht w' ry;rcases hh with⟨t,ty,e⟩|⟨a,c,dc,rfl,ha,hd,k,e⟩
 ·exact jU I rx ty e fun tk=>⟨.bl b,H,I.tok tk,rfl,q⟩
 ·cases rx;obtain⟨oe,od,ia,_⟩:=pN I ha hd;exact zZ (pW k) I.kIn ia e (fun z=>nomatch z) fun tk=>⟨.bl b,H,I.tok tk,rfl,q⟩
open PySem PySem.Spec PyProof.Rows PySem.W
structure LamOk(P:Program)(w:World)(K:PySem.W.Frag)(mg:Str->Option Value)(base:Heap)(k:Nat)(qual:Str)(body:Expr)(scope:Scope)(x:Str)(sp:Sp):Prop where
 ex:∃N:List Str,FnScope N [x] scope/\(∀vs H Q E,sp vs H Q E->vs.length=1)/\∀(f c':Addr) (A:Around) (outer:List Env) (s:Shared) (H:Hp) (vs:List V) (Q:VK) (E:XK),Room k (A.deeper (envOfC qual scope s.heap.objs.size f (.ref c')))->sp vs H Q E ->
  ∃t,QE (cU CX0 P w K mg base N qual scope f (.ref c') A outer s H E) body t/\t (cR N vs) H Q
open PySem PySem.Spec PyProof.Rows PySem.W
open PySem PySem.Spec PyProof.Rows PySem.W
inductive SKey where
 |i (n:Int)|s (t:Str)|bi (b:Bool)(n:Int)
def SKey.at(H:Hp):SKey->V->Prop
 |.i n,v=>v=.int n
 |.s t,v=>v=.str t
 |.bi b n,v=>∃a,v=.ref a/\H a=some (.tup [.bl b,.int n])
section
variable{X:Cx}{pins:List (Addr×Obj)}{σ:St}{H:Hp}{s:Shared}{h':Heap}
structure SG(X:Cx)(pins:List (Addr×Obj))(σ:St)(H1:Hp)(m:Str->Option Value)(kS D:Addr)(e1:Nat)(ks:List SKey)(as:List V)(us:List Value)(e:Nat)(H:Hp)(s:Shared):Prop where
 I:Inv X pins σ H s
 sm:Same H1 H
 fk:bB X pins H kS
 fd:bB X pins H D
 bk:X.base.get? kS=none
 bd:X.base.get? D=none
 hk:s.heap.get? kS=some (seqObj "list" (List.toArray us) e)
 hd:s.heap.get? D=some (seqObj "list" #[] e1)
 ns:s.heap.Ns X.env.locals m
 vals:Vals as us
 keys:∀(i:Nat) (a:V) (k:SKey),as[i]?=some a->ks[i]?=some k->k.at H a
end
open PySem PySem.Spec PyProof.Rows PySem.W
structure LamScope(x y:Str)(sc:Scope):Prop where
 kind:sc.kind=.function
 co:sc.isCoroutine=false
 gen:sc.isGenerator=false
 lx:sc.names.lookup x=some .local
 ly:sc.names.lookup y=some .free
 nc:∀z∈sc.names,z.2≠.cell
 nf:∀z∈sc.names,z.2=.free->z.1=y
 ne:x≠y
def cxX(CX:CXT)(P:Program)(w:World)(K:PySem.W.Frag)(mg:Str->Option Value)(base:Heap)(N:List Str)(qual:Str)(scope:Scope)(f:Addr)(cd:Value)(cl:List (Str×Addr))(A:Around)(outer:List Env)(s:Shared)(H:Hp)(E:XK):Cx where
 prog:=P
 w:=w
 K:=K
 mg:=mg
 base:=base
 A:=A.deeper (envX qual scope s.heap.objs.size f cd cl)
 N:=N
 s₀:=s
 H₀:=H
 env:=envX qual scope s.heap.objs.size f cd cl
 outer:=outer
 stack:=envX qual scope s.heap.objs.size f cd cl::outer
 ex:=[]
 calm:=true
 fn:=fun _=>false
 pn:=[]
 xe:=fun e s'=>wpAny (model P w) (A.deeper (envX qual scope s.heap.objs.size f cd cl)) (leaving (envX qual scope s.heap.objs.size f cd cl) e) (fun _ s''=>CX outer H s E e s'') (fun e' s''=>CX outer H s E e' s'') s'
open PySem PySem.Spec PyProof.Rows PySem.W
section
variable{X:Cx}{c P:Addr}{params:Arguments}{body:Expr}{scope:Scope}{pos:Pos}{cl:List (Str×Addr)}
structure LamOkX(P:Program)(w:World)(K:PySem.W.Frag)(mg:Str->Option Value)(base:Heap)(k:Nat)(qual:Str)(body:Expr)(scope:Scope)(x y:Str)(sp:V->Sp):Prop where
 sc:LamScope x y scope
 ex:∀(f c' c:Addr) (kv:V) (A:Around) (outer:List Env) (s:Shared) (H:Hp) (v:V) (Q:VK),Room k (A.deeper (envX qual scope s.heap.objs.size f (.ref c') [(y,c)]))->sp kv [v] H Q E0 ->
  ∃t,QE (cxX CX0 P w K mg base [x,y] qual scope f (.ref c') [(y,c)] A outer s H E0) body t/\t [some v,some kv] H Q
end
open PySem PySem.Spec PyProof.Rows PySem.W
open PySem PyProof.Rows PySem.W
open PySem PyProof.Rows PySem.W
section
variable{prog:Program}{w:World}{A:Around}{E:Value->Shared->Prop}{s:Shared}{κ:SortKind}{it:Array Keyed}{lt:Nat->Nat->Bool}{N:Nat}{st:SortSt}
def Zc(prog:Program)(w:World)(A:Around)(s:Shared)(κ:SortKind)(it:Array Keyed)(lt:Nat->Nat->Bool)(N:Nat):Prop :=
 ∀i j (C:Bool->Shared->Prop),i<N->j<N->C (lt i j) s->kas_cmp prog w A κ it i j C s
end
open PySem PyProof.Rows PySem.W
section
variable{lt:Nat->Nat->Bool}
structure MF(lt:Nat->Nat->Bool)(N:Nat)(a b:Array Nat):Prop where
 sa:∀i j,i<j->j<a.size->Lx lt (gA a i) (gA a j)
 sb:∀i j,i<j->j<b.size->Lx lt (gA b i) (gA b j)
 cr:∀i j,i<a.size->j<b.size->lt (gA b j) (gA a i)=false->Lx lt (gA a i) (gA b j)
 na:∀i,i<a.size->gA a i<N
 nb:∀i,i<b.size->gA b i<N
 a0:0<a.size
 b0:0<b.size
 fst:lt (gA b 0) (gA a 0)=true
 lst:∀j,j<b.size->lt (gA b j) (gA a (a.size-1))=true
variable{N:Nat}{a b:Array Nat}{f:Nat->Keyed}
end
open PySem PyProof.Rows PySem.W
open PySem PyProof.Rows PySem.W
open PySem PyProof.Rows PySem.W
open PySem PyProof.Rows PySem.W
section
variable{prog:Program}{w:World}{A:Around}{E:Value->Shared->Prop}{s:Shared}{κ:SortKind}{it:Array Keyed}{lt:Nat->Nat->Bool}{N:Nat}{st:SortSt}{pre u:Array Nat}
structure Zp(prog:Program)(w:World)(A:Around)(s:Shared)(κ:SortKind)(it:Array Keyed)(lt:Nat->Nat->Bool)(N:Nat)(st:SortSt)(pre:Array Nat)(n:Nat):Prop where
 Z:Zc prog w A s κ it lt N
 hk:kindOf st=κ
 hN:pre.size+n=N
 n0:0<n
end
open PySem PyProof.Rows PySem.W
section
variable{lt:Nat->Nat->Bool}(O:LtOk lt){N:Nat}
include O
end
open PySem PyProof.Rows PySem.W
section
variable{lt:Nat->Nat->Bool}
def sC(lt:Nat->Nat->Bool):Nat->List (List Nat)->List (Nat×Nat×Nat)->Prop
 |_,[],[]=>True
 |b,r::rs,t::ts=>t.1=b/\t.2.1=r.length/\0<r.length/\r.Pairwise (Lx lt)/\r.Perm (List.range' b r.length)/\sC lt (b+r.length) rs ts
 |_,_,_=>False
variable{prog:Program}{w:World}{A:Around}{E:Value->Shared->Prop}{s:Shared}{κ:SortKind}{it:Array Keyed}{N:Nat}{st:SortSt}
structure RI(κ:SortKind)(it:Array Keyed)(lt:Nat->Nat->Bool)(N lo:Nat)(T:List Nat)(p:Array Nat)(rs:List (List Nat))(st:SortSt):Prop where
 hk:kindOf st=κ
 hf:failedOf st=none
 ha:arrOf st=p.map (kas_item it)
 hp:p.toList=rs.flatten++T
 pm:p.toList.Perm (List.range N)
 rl:sC lt 0 rs (pendingOf st).toList
 hl:rs.flatten.length=lo
end
open PySem PyProof.Rows PySem.W
open PySem PySem.Spec PyProof.Rows PySem.W
open PySem PySem.Spec PyProof.Rows PySem.W
inductive ZKey where
 |i (n:Int)|t (ns:List Int)
def ZKey.at(H:Hp):ZKey->V->Prop
 |.i n,v=>v=.int n
 |.t ns,v=>∃a,v=.ref a/\H a=some (.tup (ns.map V.int))
section
variable{X:Cx}{pins:List (Addr×Obj)}{σ:St}{H:Hp}{s:Shared}{h':Heap}
structure SGZ(X:Cx)(pins:List (Addr×Obj))(σ:St)(H1:Hp)(m:Str->Option Value)(kS D:Addr)(e1:Nat)(ks:List ZKey)(as:List V)(us:List Value)(e:Nat)(H:Hp)(s:Shared):Prop where
 I:Inv X pins σ H s
 sm:Same H1 H
 fk:bB X pins H kS
 fd:bB X pins H D
 bk:X.base.get? kS=none
 bd:X.base.get? D=none
 hk:s.heap.get? kS=some (seqObj "list" (List.toArray us) e)
 hd:s.heap.get? D=some (seqObj "list" #[] e1)
 ns:s.heap.Ns X.env.locals m
 vals:Vals as us
 keys:∀(i:Nat) (a:V) (k:ZKey),as[i]?=some a->ks[i]?=some k->k.at H a
end
open PySem PySem.Spec PyProof.Rows PySem.W
open PySem PySem.Spec PyProof.Rows PySem.W
open PySem PySem.Spec PyProof.Rows PySem.W
open PySem PySem.Spec PyProof.Rows PySem.W
end L2
set_option maxHeartbeats 4000000
namespace PySem
open Sem (wp)
section
variable{prog:Program}{w:World}{K:Type}[DecidableEq K]{knd:KeyKind prog w K}
structure PairAt(knd:KeyKind prog w K)(h:Heap)(p:Addr×List K×Addr×Value):Prop where
 tup:∃o n,h.get? p.1=some o/\o.cls=.type "tuple"/\o.data=.seq #[.ref p.2.2.1,p.2.2.2] n
 key:IsTupleKey knd h p.2.1 p.2.2.1
variable{A:Around}{R:Result->Shared->Prop}
end
end PySem
namespace L2
open PySem PySem.Spec PyProof.Rows PySem.W
open PySem PySem.Spec PyProof.Rows PySem.W
open PySem PySem.Spec PyProof.Rows PySem.W
open PySem PySem.Spec PyProof.Rows PySem.W
open PySem PySem.Spec PyProof.Rows PySem.W
open PySem PySem.Spec PyProof.Rows PySem.W
open PySem PySem.Spec PyProof.Rows PySem.W
open PySem PySem.Spec PyProof.Rows PySem.W
open PySem PySem.Spec PyProof.Rows PySem.W
section
variable{X:Cx}{K:PySem.W.Frag}
def qv:V->List V->Hp->VK->Prop:=fun x xs H Q=>∃(z y:Str),x=.str z/\xs=[.str y]/\y.length=1/\z.length<=100000/\∀D,H D=none->Q (.ref D) (upd H D (.lst ((Txt.split z y).map V.str)))
theorem gK:∀{l:List (Str×Tok)} {ys:List Str},l.map (·.1)=ys->Vals (ys.map V.str) (strValues l)
 | [],ys,e=>by subst e;exact .nil
 |p::l,ys,e=>by subst e;exact .cons ⟨p.2,rfl⟩ (gK (l:=l) rfl)
theorem qM(x y:Str):(Txt.split x y).length<=x.length+2:=by
 unfold Txt.split;split
 ·simp
 ·split
  ·simp
  ·rw[length_partsBetween];have:=StrLaws.occ_length_le x y 0 x.length (x.length+1);omega
theorem lV(x y:Str)(k:Int):(Txt.splitMax x y k).length<=x.length+2+k.toNat:=by
 unfold Txt.splitMax;split
 ·simp;omega
 ·split
  ·simp;omega
  ·rw[length_partsBetween];have h1:=StrLaws.occ_length_le x y 0 x.length (PySem.limitOf x k);have h2:PySem.limitOf x k<=x.length+1+k.toNat:=by unfold PySem.limitOf;split<;>omega
   omega
theorem rD:MtR X "str.split" qv:=by
 intro pins s σ H x xs v us Q I rx r h;obtain⟨z,y,rfl,rfl,hy,hz,q⟩:=h;obtain⟨t,rfl⟩:=rx;obtain⟨u,rfl,ru⟩:=ce r;obtain⟨t2,rfl⟩:=ru;obtain⟨m,F0⟩:=I.fr;refine splitN1A F0 (hW X.base s.heap X.env.locals) (by rw[hy];rfl) (fun l h' k e1 sa sh il F1 N1=>?_) (by rw[sizeLine_eq];omega);have hDs:s.heap.get? s.heap.objs.size=none:=Heap.get?_none_of_le (ze _);have lz:=qM z y;refine⟨.ref s.heap.objs.size,_,I.laidF (t':=k) (o:=.lst ((Txt.split z y).map V.str)) (fun b o hL g=>?_) ⟨m,F0.ns,F1.ns⟩ hDs ⟨by rw[zb,sizeLine_eq];omega,_,0,gK e1,(N1 (s.heap.objs.size,_) (.head _)).1⟩,rfl,q _ (dE I hDs)⟩;cases qb:X.base.get? b with
 |none=>exact(N1 (b,o) (.tail _ (iW g hL qb))).1
 |some o' =>have e':=I.bk b o' qb;rw[g]at e';cases e';exact F1.keep b o qb
theorem jF{o e:Expr}{to te:TE}{apos cpos:Pos}(ho:QE X o to)(he:QE X e te)(hs:aI e=true:=by rfl)(hbase:attributeBase o "split" X.env (eval o X.env)=eval o X.env:=by rfl)(hline:(apos.endLine==cpos.line)=true:=by rfl) :
  QE X (.Call (.Attribute o "split" apos) [e] [] cpos) (tBM X.K "str" qv to (di te gL)):=by
 have h1:=aO (es:=[]) (env:=X.env) hs;have h2:starEach ([]:List Expr) X.env=[]:=rfl;refine⟨iV PySem.F.plainAttrs_str PySem.F.slot_str_split PySem.F.type_str_split rD ho.h (dF he.h eQ (hs:=h1)) (hbase:=hbase) (hfew:=?_) (hline:=hline) (hs:=h1) (hplain:=by rw[h2];rfl)⟩;rw[h1,h2];rfl
def mQ:V->List V->Hp->VK->Prop:=fun x xs H Q=>∃(z y:Str) (k:Int),x=.str z/\xs=[.str y,.int k]/\y.length=1/\z.length<=100000/\0<=k/\k<=1000/\∀D,H D=none->Q (.ref D) (upd H D (.lst ((Txt.splitMax z y k).map V.str)))
theorem qc:MtR X "str.split" mQ:=by
 intro pins s σ H x xs v us Q I rx r h;obtain⟨z,y,n,rfl,rfl,hy,hz,n0,n1,q⟩:=h;obtain⟨t,rfl⟩:=rx;cases r with
 |cons ra r =>
  obtain⟨t2,rfl⟩:=ra;obtain⟨u,rfl,ru⟩:=ce r;obtain⟨t3,rfl⟩:=ru;obtain⟨m,F0⟩:=I.fr;refine splitN2A F0 (hW X.base s.heap X.env.locals) (by rw[hy];rfl) (by rw[decide_eq_false (by omega),decide_eq_false (by omega)];rfl) (fun l h' k e1 sa sh il F1 N1=>?_) (by rw[sizeLine_eq];omega);have hDs:s.heap.get? s.heap.objs.size=none:=Heap.get?_none_of_le (ze _);have lz:=lV z y n;refine⟨.ref s.heap.objs.size,_,I.laidF (t':=k) (o:=.lst ((Txt.splitMax z y n).map V.str)) (fun b o hL g=>?_) ⟨m,F0.ns,F1.ns⟩ hDs ⟨by rw[zb,sizeLine_eq];omega,_,0,gK e1,(N1 (s.heap.objs.size,_) (.head _)).1⟩,rfl,q _ (dE I hDs)⟩;cases qb:X.base.get? b with
  |none=>exact(N1 (b,o) (.tail _ (iW g hL qb))).1
  |some o' =>have e':=I.bk b o' qb;rw[g]at e';cases e';exact F1.keep b o qb
theorem rW{o e f:Expr}{to te tf:TE}{apos cpos:Pos}(ho:QE X o to)(he:QE X e te)(hf:QE X f tf)(hs:aI e=true:=by rfl)(hs':aI f=true:=by rfl)(hbase:attributeBase o "split" X.env (eval o X.env)=eval o X.env:=by rfl)(hline:(apos.endLine==cpos.line)=true:=by rfl) :
  QE X (.Call (.Attribute o "split" apos) [e,f] [] cpos) (tBM X.K "str" mQ to (di te (di tf gL))):=by
 have h0:=aO (es:=[f]) (env:=X.env) hs;have h1:=aO (es:=[]) (env:=X.env) hs';have h2:starEach ([]:List Expr) X.env=[]:=rfl;refine⟨iV PySem.F.plainAttrs_str PySem.F.slot_str_split PySem.F.type_str_split qc ho.h (dF he.h (dF hf.h eQ (hs:=h1)) (hs:=h0)) (hbase:=hbase) (hfew:=?_) (hline:=hline) (hs:=h0) (hplain:=by rw[h1,h2];rfl)⟩;rw[h0,h1,h2];rfl
def jG:V->List V->Hp->VK->Prop:=fun x xs H Q=>∃(z y:Str),x=.str z/\xs=[.str y]/\Q (.bl (Txt.startswith z y)) H
theorem qd:MtR X "str.startswith" jG:=by intro pins s σ H x xs v us Q I rx r h;obtain⟨z,y,rfl,rfl,q⟩:=h;obtain⟨t,rfl⟩:=rx;obtain⟨u,rfl,ru⟩:=ce r;obtain⟨t2,rfl⟩:=ru;exact SC.startswith ⟨.bl _,H,I,rfl,q⟩
theorem lD{o e:Expr}{to te:TE}{apos cpos:Pos}(ho:QE X o to)(he:QE X e te)(hs:aI e=true:=by rfl)(hbase:attributeBase o "startswith" X.env (eval o X.env)=eval o X.env:=by rfl)(hline:(apos.endLine==cpos.line)=true:=by rfl) :
  QE X (.Call (.Attribute o "startswith" apos) [e] [] cpos) (tBM X.K "str" jG to (di te gL)):=by
 have h1:=aO (es:=[]) (env:=X.env) hs;have h2:starEach ([]:List Expr) X.env=[]:=rfl;refine⟨iV PySem.F.plainAttrs_str PySem.F.slot_str_startswith PySem.F.type_str_startswith qd ho.h (dF he.h eQ (hs:=h1)) (hbase:=hbase) (hfew:=?_) (hline:=hline) (hs:=h1) (hplain:=by rw[h2];rfl)⟩;rw[h1,h2];rfl
theorem pD:QCall X (.type "int") (fun xs H Q=>∃(x:Str) (n:Int),xs=[.str x]/\PySem.intText? x=some n/\x.length<=640/\Q (.int n) H):=by refine⟨?_⟩;intro pins s σ H xs us Q I r h;obtain⟨x,n,rfl,hn,hl,q⟩:=h;obtain⟨u,rfl,rx⟩:=ce r;obtain⟨t,rfl⟩:=rx;exact KIN.call_text hn hl ⟨.int n,H,I.tok _,⟨_,rfl⟩,q⟩
end
open PySem PySem.Spec PyProof.Rows PySem.W
theorem fc{x y:Str}(h:x.cps.toList=y.cps.toList):x=y:=by cases x;cases y;congr 1;exact Array.toList_inj.mp h
theorem eZ(x y:Str):(x++y).cps.toList=x.cps.toList++y.cps.toList:=by show(x.cps++y.cps).toList=_;rw[Array.toList_append]
def ch1(c:Nat):Str:=⟨#[c]⟩
theorem wK(c:Nat):(ch1 c).cps.toList=[c]:=rfl
theorem kU{c:Nat}:∀{a b x y:List Nat},c∉a->c∉b->a++c::x=b++c::y->a=b/\x=y
 | [],[],x,y,_,_,h=>by injection h with _ h;exact⟨rfl,h⟩
 | [],d::b,x,y,_,hb,h=>by injection h with h _;exact absurd (by rw[h];exact zU) hb
 |d::a,[],x,y,ha,_,h=>by injection h with h _;exact absurd (by rw[<-h];exact zU) ha
 |d::a,e::b,x,y,ha,hb,h=>by injection h with h1 h2;rw[zw,not_or]at ha hb;obtain⟨e1,e2⟩:=kU ha.2 hb.2 h2;exact⟨by rw[h1,e1],e2⟩
theorem bG(c:Nat)(a b:Str)(r:List Str):(Str.join (ch1 c) (a::b::r)).cps.toList=a.cps.toList++c::(Str.join (ch1 c) (b::r)).cps.toList:=by have e:Str.join (ch1 c) (a::b::r)=a++ch1 c++Str.join (ch1 c) (b::r):=rfl;rw[e,eZ,eZ,wK];simp
theorem fY{c:Nat}:∀{l m:List Str},l≠[]->m≠[]->(∀p∈l,c∉p.cps.toList)->(∀p∈m,c∉p.cps.toList)->Str.join (ch1 c) l=Str.join (ch1 c) m->l=m
 | [],_,h,_,_,_,_=>absurd rfl h
 |_,[],_,h,_,_,_=>absurd rfl h
 | [a],[b],_,_,_,_,h=>by rw[show a=b from h]
 | [a],b::b2::r,_,_,ha,_,h=>by have:=Zd Str.cps h;have:=Zd Array.toList this;rw[bG]at this;exact absurd (show c∈a.cps.toList by rw[show a.cps.toList=_ from this];simp) (ha a (by simp))
 |a::a2::r,[b],_,_,_,hb,h=>by have:=Zd Str.cps h;have:=Zd Array.toList this;rw[bG]at this;exact absurd (show c∈b.cps.toList by rw[show b.cps.toList=_ from this.symm];simp) (hb b (by simp))
 |a::a2::r,b::b2::r2,_,_,ha,hb,h=>by have:=Zd Str.cps h;have:=Zd Array.toList this;rw[bG,bG]at this;obtain⟨e1,e2⟩:=kU (ha a (by simp)) (hb b (by simp)) this;have ih:=fY (l:=a2::r) (m:=b2::r2) (by simp) (by simp) (fun p hp=>ha p (zG _ hp)) (fun p hp=>hb p (zG _ hp)) (fc e2);rw[fc e1,ih]
theorem fP(x y:Str):Txt.split x y≠[]:=by
 unfold Txt.split;split
 ·simp
 ·split
  ·simp
  ·intro h;have:=Zd List.length h;rw[length_partsBetween]at this;simp at this
theorem fO{c:Nat}{l:List Str}(h:l≠[])(hf:∀p∈l,c∉p.cps.toList):Txt.split (Str.join (ch1 c) l) (ch1 c)=l :=
 fY (fP _ _) h (StrLaws.split_free _ c) hf (StrLaws.join_split _ _)
theorem dC{c:Nat}{a:Str}{r:List Str}(ha:c∉a.cps.toList)(hr:r≠[]):Txt.split (Str.join (ch1 c) (a::r)) (ch1 c)=a::Txt.split (Str.join (ch1 c) r) (ch1 c):=by
 refine fY (fP _ _) (by simp) (StrLaws.split_free _ c) (fun p hp=>?_) ?_
 ·rcases zw.mp hp with rfl|hp
  ·exact ha
  ·exact StrLaws.split_free _ c p hp
 ·rw[show Str.join (ch1 c) (Txt.split (Str.join (ch1 c) (a::r)) (ch1 c))=_ from StrLaws.join_split _ _];obtain⟨b,r2,rfl⟩:∃b r2,r=b::r2:=by
   cases r with
   |nil=>exact absurd rfl hr
   |cons b r2=>exact⟨b,r2,rfl⟩
  obtain⟨b',r2',e⟩:∃b' r2',Txt.split (Str.join (ch1 c) (b::r2)) (ch1 c)=b'::r2':=by
   cases e:Txt.split (Str.join (ch1 c) (b::r2)) (ch1 c)with
   |nil=>exact absurd e (fP _ _)
   |cons b' r2'=>exact⟨b',r2',rfl⟩
  refine fc ?_;rw[bG];have e3:Str.join (ch1 c) (Txt.split (Str.join (ch1 c) (b::r2)) (ch1 c))=Str.join (ch1 c) (b::r2):=StrLaws.join_split _ _;rw[e]at e3 ⊢;rw[bG,e3]
theorem eO(s sub:Str)(hi k L:Nat)(hk:k<=L):∀(l:List Nat) (st:Array Nat×Nat),st.1.size<=k ->
  (forIn l st (StrLaws.occBody s sub hi k)).run.1.toList=(forIn l st (StrLaws.occBody s sub hi L)).run.1.toList.take k/\∃r,(forIn l st (StrLaws.occBody s sub hi L)).run.1.toList=st.1.toList++r
 | [],st,h=>by refine⟨?_,[],by simp⟩;show st.1.toList=st.1.toList.take k;rw[zV (by rw[zB];exact h)]
 |i::l,st,h=>by
  rw[List.forIn_cons,List.forIn_cons];have big:∀st':Array Nat×Nat,st'.1.size<=L->∃r,(forIn l st' (StrLaws.occBody s sub hi L)).run.1.toList=st'.1.toList++r:=fun st' hs=>(eO s sub hi L L (ze _) l st' hs).2;by_cases c1:((st.1.size<L/\st.2<=i)/\i+sub.length<=hi)/\Builtin.Str.subAt s sub i=true
  ·by_cases c2:st.1.size<k
   ·have e1:StrLaws.occBody s sub hi k i st=pure (ForInStep.yield (st.1.push i,i+sub.length)):=by unfold StrLaws.occBody;rw[if_pos ⟨⟨⟨c2,c1.1.1.2⟩,c1.1.2⟩,c1.2⟩]
    have e2:StrLaws.occBody s sub hi L i st=pure (ForInStep.yield (st.1.push i,i+sub.length)):=by unfold StrLaws.occBody;rw[if_pos c1]
    rw[e1,e2];have ih:=eO s sub hi k L hk l (st.1.push i,i+sub.length) (by show(st.1.push i).size<=k;rw[Array.size_push];exact c2);refine⟨ih.1,?_⟩;obtain⟨r,hr⟩:=ih.2;refine⟨i::r,?_⟩;show(forIn l (st.1.push i,i+sub.length) (StrLaws.occBody s sub hi L)).run.1.toList=_;rw[hr];simp
   ·have e1:StrLaws.occBody s sub hi k i st=pure (ForInStep.yield (st.1,st.2)):=by unfold StrLaws.occBody;rw[if_neg fun z=>c2 z.1.1.1]
    have e2:StrLaws.occBody s sub hi L i st=pure (ForInStep.yield (st.1.push i,i+sub.length)):=by unfold StrLaws.occBody;rw[if_pos c1]
    rw[e1,e2];have ih:=eO s sub hi k L hk l (st.1,st.2) h;have es:st.1.toList.length=k:=by rw[zB];omega
    obtain⟨r0,hr0⟩:=ih.2;obtain⟨r,hr⟩:=big (st.1.push i,i+sub.length) (by show(st.1.push i).size<=L;rw[Array.size_push];exact c1.1.1.1);have hr':(forIn l (st.1.push i,i+sub.length) (StrLaws.occBody s sub hi L)).run.1.toList=st.1.toList++i::r:=by rw[hr];simp
    have i1:(forIn l (st.1,st.2) (StrLaws.occBody s sub hi k)).run.1.toList=st.1.toList:=by rw[ih.1,hr0,List.take_append_of_le_length (by omega),zV (by omega)]
    refine⟨?_,i::r,hr'⟩;show(forIn l (st.1,st.2) (StrLaws.occBody s sub hi k)).run.1.toList=(forIn l (st.1.push i,i+sub.length) (StrLaws.occBody s sub hi L)).run.1.toList.take k;rw[i1,hr',List.take_append_of_le_length (by omega),zV (by omega)]
  ·have e1:StrLaws.occBody s sub hi k i st=pure (ForInStep.yield (st.1,st.2)):=by unfold StrLaws.occBody;rw[if_neg fun z=>c1 ⟨⟨⟨zl z.1.1.1 hk,z.1.1.2⟩,z.1.2⟩,z.2⟩]
   have e2:StrLaws.occBody s sub hi L i st=pure (ForInStep.yield (st.1,st.2)):=by unfold StrLaws.occBody;rw[if_neg c1]
   rw[e1,e2];exact eO s sub hi k L hk l (st.1,st.2) h
theorem lq(x y:Str){k:Nat}(hk:k<=x.length+1):Builtin.Str.occurrences x y 0 x.length k=(Builtin.Str.occurrences x y 0 x.length (x.length+1)).take k:=by rw[StrLaws.occ_eq,StrLaws.occ_eq];exact(eO x y x.length k (x.length+1) hk _ _ (Zv _)).1
theorem mO(x y:Str):∀(cuts:List Nat) (a f:Nat),StrLaws.ChainTo x y x.length a cuts f->∀k,k<=cuts.length ->
  StrLaws.partsFrom x y.length a (cuts.take k)=(StrLaws.partsFrom x y.length a cuts).take k++[Str.join y ((StrLaws.partsFrom x y.length a cuts).drop k)]
 |cuts,a,f,h,0,_=>by rw[List.take_zero,List.take_zero,List.drop_zero,StrLaws.join_partsFrom x y cuts a f h];rfl
 |c::r,a,f,h,k+1,hk=>by have ih:=mO x y r (c+y.length) f h.2.2 k (Nat.le_of_succ_le_succ hk);rw[List.take_succ_cons];show StrLaws.partsFrom x y.length a (c::r.take k)=_;unfold StrLaws.partsFrom;rw[List.take_succ_cons,List.drop_succ_cons,ih];rfl
theorem qr(x:Str)(w:Nat):∀(cuts:List Nat) (a:Nat),(StrLaws.partsFrom x w a cuts).length=cuts.length+1
 | [],_=>rfl
 |c::r,a=>by unfold StrLaws.partsFrom;rw[zm,qr x w r,zm]
theorem mt(x y:Str){k:Nat}(hk:k<(Txt.split x y).length):Txt.splitMax x y (k:Int)=(Txt.split x y).take k++[Str.join y ((Txt.split x y).drop k)]:=by
 have hl:PySem.limitOf x (k:Int)=k:=by unfold PySem.limitOf;rw[if_neg (by omega)];omega
 have js:=StrLaws.join_split x y;unfold Txt.splitMax;unfold Txt.split at hk js ⊢;rw[hl];by_cases c1:(decide (x.length<y.length) ||decide (Builtin.Str.strKind x<Builtin.Str.strKind y))=true
 ·rw[if_pos c1]at hk ⊢;rw[if_pos c1];have:k=0:=by simpa using hk
  subst this;rfl
 ·rw[if_neg c1]at hk js ⊢;rw[if_neg c1];by_cases c2:(Builtin.Str.occurrences x y 0 x.length (x.length+1)).isEmpty=true
  ·rw[if_pos c2]at hk ⊢;have k0:k=0:=by simpa using hk
   subst k0;rw[lq x y (Zv _),List.take_zero];rfl
  ·rw[if_neg c2]at hk js ⊢;rw[StrLaws.partsBetween_eq]at hk js;rw[qr]at hk;have ol:=StrLaws.occ_length_le x y 0 x.length (x.length+1);rw[lq x y (by omega)];obtain⟨f,ch⟩:=StrLaws.occ_chain x y (x.length+1);have pt:=mO x y _ 0 f ch k (by omega);by_cases c3:((Builtin.Str.occurrences x y 0 x.length (x.length+1)).take k).isEmpty=true
   ·rw[if_pos c3];have k0:k=0:=by
     rw[List.isEmpty_iff]at c3 c2;cases k with
     |zero=>rfl
     |succ k =>
      cases e:Builtin.Str.occurrences x y 0 x.length (x.length+1)with
      |nil=>exact absurd e c2
      |cons a r=>rw[e]at c3;cases c3
    subst k0;rw[List.take_zero,List.drop_zero,StrLaws.partsBetween_eq,js];rfl
   ·rw[if_neg c3,StrLaws.partsBetween_eq,StrLaws.partsBetween_eq];exact pt
theorem kr{c:Nat}:∀{pre:List Str} {t:Str},(∀p∈pre,c∉p.cps.toList)->Txt.splitMax (Str.join (ch1 c) (pre++[t])) (ch1 c) (pre.length:Int)=pre++[t]:=fun{pre t} hp=>by
 have e:∀pre:List Str,(∀p∈pre,c∉p.cps.toList)->Txt.split (Str.join (ch1 c) (pre++[t])) (ch1 c)=pre++Txt.split t (ch1 c):=fun pre=>by
  induction pre with
  |nil=>intro _;rfl
  |cons a r ih =>intro h;rw[List.cons_append,dC (h a zU) (by simp),ih fun p hp=>h p (zG _ hp)];rfl
 have l1:0<(Txt.split t (ch1 c)).length:=List.length_pos_iff.mpr (fP _ _);rw[mt _ _ (by rw[e pre hp,zr];omega),e pre hp,List.take_left,List.drop_left,show Str.join (ch1 c) (Txt.split t (ch1 c))=t from StrLaws.join_split _ _]
open PySem PySem.Spec PyProof.Rows PySem.W
def uB(K:PySem.W.Frag)(a b:Addr)(xs ys:List V):It :=
 ⟨fun i H=>i<xs.length/\SqT K H a xs/\SqL K H b ys,fun i H x H'=>∃T p q,H T=none/\xs[i]?=some p/\ys[i]?=some q/\x=.ref T/\H'=upd H T (.tup [p,q]),fun i H=>i=xs.length/\SqT K H a xs/\SqL K H b ys⟩
abbrev wG(z u v i1 i2 a b:Addr):Nat->Heap->Prop:=fun i h=>IsZip h z u v .none/\IsPair h u (.ref i1) (.ref i2)/\(∃p q,IsPair h v p q)/\h.IsTupleIter i1 a i/\h.IsListIter i2 b i
theorem qQ{P:Program}{w:World}{K:PySem.W.Frag}{elts:List Expr}{kt:Nat}{tp:Pos}{z u v i1 i2 a b:Addr}{xs ys:List V}(hl:xs.length=ys.length)(D:[z,u,v,i1,i2].Nodup)(ha:∀c∈[z,u,v,i1,i2],c≠a/\c≠b) :
  Turn P w K (.Tuple elts kt tp) (uB K a b xs ys) [z,u,v,i1,i2] z (wG z u v i1 i2 a b):=by
 have nd:(z≠u/\z≠v/\z≠i1/\z≠i2)/\(u≠v/\u≠i1/\u≠i2)/\(v≠i1/\v≠i2)/\i1≠i2:=by simpa using D
 obtain⟨⟨zu,zv,z1,z2⟩,⟨uv,u1,u2⟩,⟨v1,v2⟩,i12⟩:=nd;have az:=ha z (by simp);have av:=ha v (by simp);have a1:=ha i1 (by simp);have a2:=ha i2 (by simp);have ap:ZAp z u v i1 i2 [i1,a] [i2,b]:=⟨zu.symm,zv.symm,uv,u1,u2,v1,v2,z1.symm,z2.symm,i12,by simp[z1,az.1],by simp[z2,az.2],by simp[v1,av.1],by simp[v2,av.2],by simp[i12.symm,a2.1],by simp[i12,a1.2]⟩
 refine⟨by simp,fun i h st c hc=>?_,fun i h h' st k=>?_,?_,?_,fun A i s Q E st h=>wpAny_pyIter_zip st.1 h⟩
 ·obtain⟨e1,e2,⟨p,q,e3⟩,⟨o4,e4,_,d4⟩,⟨o5,e5,_,d5⟩⟩:=st;simp only[zw,zL,Zr]at hc;rcases hc with rfl|rfl|rfl|rfl|rfl
  ·exact⟨_,e1,fun v z=>nomatch z⟩
  ·exact⟨_,e2,fun v z=>nomatch z⟩
  ·exact⟨_,e3,fun v z=>nomatch z⟩
  ·exact⟨_,e4,fun v z=>by rw[d4]at z;cases z⟩
  ·exact⟨_,e5,fun v z=>by rw[d5]at z;cases z⟩
 ·obtain⟨e1,e2,⟨p,q,e3⟩,⟨o4,e4,r4⟩,⟨o5,e5,r5⟩⟩:=st;exact⟨k z (by simp) _ e1,k u (by simp) _ e2,⟨p,q,k v (by simp) _ e3⟩,⟨o4,k i1 (by simp) _ e4,r4⟩,⟨o5,k i2 (by simp) _ e5,r5⟩⟩
 ·intro X hP hw hK hc i pins s σ H E I hf st hg;subst hP hw hK;obtain⟨e1,e2,⟨p,q,e3⟩,e4,e5⟩:=st;obtain⟨hi,hx,hy⟩:=hg;obtain⟨its,rx,px,zx⟩:=I.tuple hx;obtain⟨jts,ry,py,zy⟩:=I.list hy;have lx:i<its.toArray.size:=by rw[zh,<-rx.length];exact hi
  have ly:i<jts.toArray.size:=by rw[zh,<-ry.length,<-hl];exact hi
  have hh:=I.ok.hd hc;have hT:s.TypeIs (.ref z) "zip":=⟨_,e1,rfl⟩
  unfold pyNext;refine za (wpAny_attempt (zT (name:=Str.ofString "__next__") hT Zs (Za Zs hT F.entry_zip_next
   (lY (bM (A:=X.A.in1) hh i1 a a1.1.symm its.toArray) (Draws.list (A:=X.A.in1) hh i2 b a2.2.symm jts.toArray) ap e1 e2 e3 ⟨e4,px⟩ ⟨e5,py.isList⟩ lx ly fun h' tk x y qx qy zz vv s1 s2 pp kp=>zi ?_) (F.args_zip_next_1 _))))
  refine⟨_,rfl,wpAny_letOwnedTupleGo_zip (s:={ s with heap:=h',toks:=tk }) zz fun h2 z2' sb=>?_⟩;obtain⟨xv,ex⟩:∃xv,xs[i]?=some xv:=⟨xs[i],by simp[hi]⟩
  obtain⟨yv,ey⟩:∃yv,ys[i]?=some yv:=⟨ys[i]'(by omega),by simp[show i<ys.length by omega]⟩
  obtain⟨x',gx,rxv⟩:=rx.get ex;obtain⟨y',gy,ryv⟩:=ry.get ey;have qx':its[i]?=some x:=by simpa using qx
  have qy':jts[i]?=some y:=by simpa using qy
  rw[gx]at qx';rw[gy]at qy';cases qx';cases qy';have ltz:z<s.heap.objs.size:=zk e1;have kp2:∀c o,c∉[z,u,v,i1,i2]->s.heap.get? c=some o->h2.get? c=some o:=fun c o hc e=>by simp only[zw,zL,Zr,not_or]at hc;exact sb.extBut c o hc.1 (kp c o hc.1 hc.2.2.1 hc.2.2.2.1 hc.2.2.2.2 e)
  have tT:IsTup h2 s.heap.objs.size [x,y].toArray:=⟨_,sb.extBut _ _ (Zq ltz) pp,rfl,_,rfl⟩
  refine⟨.ref s.heap.objs.size,upd H s.heap.objs.size (.tup [xv,yv]),I.turnT (t':=tk) hf kp2 tT (.cons rxv (.cons ryv .nil)) (sz rfl),rfl,⟨_,xv,yv,I.hok.fresh (ze _),ex,ey,rfl,rfl⟩,?_,fun c hc=>?_⟩
  ·exact⟨z2',sb.extBut _ _ zu.symm (kp _ _ zu.symm uv u1 u2 e2),⟨_,_,sb.extBut _ _ zv.symm vv⟩,s1.1.extBut sb.extBut z1.symm,s2.1.extBut sb.extBut z2.symm⟩
  ·rw[aw]
   ·exact(hf c hc).1
   ·obtain⟨o,eo,_⟩:∃o,s.heap.get? c=some o/\True:=by
     simp only[zw,zL,Zr]at hc;rcases hc with rfl|rfl|rfl|rfl|rfl
     ·exact⟨_,e1,trivial⟩
     ·exact⟨_,e2,trivial⟩
     ·exact⟨_,e3,trivial⟩
     ·obtain⟨o,eo,_⟩:=e4;exact⟨o,eo,trivial⟩
     ·obtain⟨o,eo,_⟩:=e5;exact⟨o,eo,trivial⟩
    exact zJ (zk eo)
 ·intro X hP hw hK hc i pins s σ H E I hf st hg;subst hP hw hK;obtain⟨e1,e2,⟨p,q,e3⟩,e4,e5⟩:=st;obtain⟨rfl,hx,hy⟩:=hg;obtain⟨its,rx,px,zx⟩:=I.tuple hx;obtain⟨jts,ry,py,zy⟩:=I.list hy;have lx:its.toArray.size=xs.length:=by rw[zh,<-rx.length]
  have hh:=I.ok.hd hc;have hT:s.TypeIs (.ref z) "zip":=⟨_,e1,rfl⟩
  unfold pyNext;refine za (wpAny_attempt (zT (name:=Str.ofString "__next__") hT Zs (Za Zs hT F.entry_zip_next
   (nA (bM (A:=X.A.in1) hh i1 a a1.1.symm its.toArray) (Draws.list (A:=X.A.in1) hh i2 b a2.2.symm jts.toArray) ap e1 e2 e3 ⟨by rw[lx];exact e4,px⟩ fun h' e kp he=>?_) (F.args_zip_next_1 _))))
  obtain⟨o,ho,hco⟩:=he;refine za (wpAny_isInstance (T:="StopIteration") (b:=true) ⟨o,ho,hco⟩ isSubtype_stop (zi ⟨rfl,?_⟩));exact I.turnM (t':=s.toks) hf fun c ob hc e=>by simp only[zw,zL,Zr,not_or]at hc;exact kp c ob hc.1 hc.2.2.1 hc.2.2.2.1 hc.2.2.2.2 e
theorem nV(l1 l2:Addr)(xs ys:Array Value) :
  Meets (Builtin.«zip.__new__» ⟨[.type "zip",.ref l1,.ref l2],[]⟩) (fun _ R s=>s.heap.IsTuple l1 xs/\s.heap.IsList l2 ys /\
   R (.ok (.ret (.ref ((((s.heap.push { cls:=.type "tuple_iterator",data:=.fields #[.ref l1,.int 0 0] }).push { cls:=.type "list_iterator",data:=.fields #[.ref l2,.int 0 0] }).push { cls:=.type "tuple",data:=.seq #[.ref s.heap.objs.size,.ref (s.heap.push { cls:=.type "tuple_iterator",data:=.fields #[.ref l1,.int 0 0] }).objs.size] }).push { cls:=.type "tuple",data:=.seq #[.none,.none] }).objs.size)))
    { s with heap:=((((s.heap.push { cls:=.type "tuple_iterator",data:=.fields #[.ref l1,.int 0 0] }).push { cls:=.type "list_iterator",data:=.fields #[.ref l2,.int 0 0] }).push { cls:=.type "tuple",data:=.seq #[.ref s.heap.objs.size,.ref (s.heap.push { cls:=.type "tuple_iterator",data:=.fields #[.ref l1,.int 0 0] }).objs.size] }).push { cls:=.type "tuple",data:=.seq #[.none,.none] }).push { cls:=.type "zip",data:=.fields #[.none,.bool false,.bool false,.ref ((s.heap.push { cls:=.type "tuple_iterator",data:=.fields #[.ref l1,.int 0 0] }).push { cls:=.type "list_iterator",data:=.fields #[.ref l2,.int 0 0] }).objs.size,.ref (((s.heap.push { cls:=.type "tuple_iterator",data:=.fields #[.ref l1,.int 0 0] }).push { cls:=.type "list_iterator",data:=.fields #[.ref l2,.int 0 0] }).push { cls:=.type "tuple",data:=.seq #[.ref s.heap.objs.size,.ref (s.heap.push { cls:=.type "tuple_iterator",data:=.fields #[.ref l1,.int 0 0] }).objs.size] }).objs.size] } }) :=
 .of_wp fun prog w A R s h=>by
  obtain⟨hp,g,d,tk,os⟩:=s;obtain⟨t1,t2,h⟩:=h;have hsub:=sub_zip;have T1:Heap.IsTuple (Shared.heap ⟨hp,g,d,tk,os⟩) l1 xs:=t1;have T2:Heap.IsList (Shared.heap ⟨hp.push { cls:=.type "tuple_iterator",data:=.fields #[.ref l1,.int 0 0] },g,d,tk,os⟩) l2 ys:=Heap.IsList.push t2 _
  wp_walk using wpAny_pyIter_tuple T1,wpAny_pyIter_list T2
  exact⟨_,rfl,h⟩
def sH(K:PySem.W.Frag)(ta:TA):TI:=fun σ H R=>ta σ H fun vs H1=>∃a b xs ys,vs=[.ref a,.ref b]/\SqT K H1 a xs/\SqL K H1 b ys/\xs.length=ys.length/\R (uB K a b xs ys) H1
section
variable{X:Cx}
theorem tZ{e1 e2:Expr}{ta:TA}{p pos tp:Pos}{elts:List Expr}{kt:Nat}(hg:Gl X "zip")(hm:X.mg "zip" = none)(ha:PA X [e1,e2] ta)(n1:aI e1=true)(n2:aI e2=true):PI X (.Tuple elts kt tp) (.Call (.Name "zip" p) [e1,e2] [] pos) (sH X.K ta):=by
 intro pins s σ H R I h;refine Call_ (dM I hg hm boot_zip (Zi (thn (ha pos pins s σ H _ I h) fun us s1 hz9=>?_) (aO n1) (bv (by simp[n2]))));obtain⟨vs,H1,I1,r1,q1⟩:=hz9;obtain⟨a,b,xs,ys,e,hx,hy,hl,q⟩:=q1;subst e;obtain⟨ua,ub,rfl,ra,rb⟩:=gZ r1;cases ra;cases rb;obtain⟨its,rx,px,zx⟩:=I1.tuple hx;obtain⟨jts,ry,py,zy⟩:=I1.list hy;refine callType_new F.called_zip (by decide) (F.typeCall_zip_2 _ _) (F.newCall_zip_2 _ _) (fun obj=>F.args_object_init_3 obj _ _) F.entry_zip_new (nV a b its.toArray jts.toArray) ⟨px,py.isList,?_⟩;generalize ea:({ cls:=.type "tuple_iterator",data:=.fields #[.ref a,.int 0 0] }:Obj)=oa;generalize eb:({ cls:=.type "list_iterator",data:=.fields #[.ref b,.int 0 0] }:Obj)=ob;have z1:(s1.heap.push oa).objs.size=s1.heap.objs.size+1:=Zo ..;have z2:((s1.heap.push oa).push ob).objs.size=s1.heap.objs.size+2:=by rw[Zo,z1]
 rw[z2,z1];generalize eu:({ cls:=.type "tuple",data:=.seq #[.ref s1.heap.objs.size,.ref (s1.heap.objs.size+1)] }:Obj)=ou;have z3:(((s1.heap.push oa).push ob).push ou).objs.size=s1.heap.objs.size+3:=by rw[Zo,z2]
 generalize ev:({ cls:=.type "tuple",data:=.seq #[.none,.none] }:Obj)=ov;have z4:((((s1.heap.push oa).push ob).push ou).push ov).objs.size=s1.heap.objs.size+4:=by rw[Zo,z3]
 rw[z4,z3];generalize ez:({ cls:=.type "zip",data:=.fields #[.none,.bool false,.bool false,.ref (s1.heap.objs.size+2),.ref (s1.heap.objs.size+3)] }:Obj)=oz;have g5:(((((s1.heap.push oa).push ob).push ou).push ov).push oz).get? (s1.heap.objs.size+4)=some oz:=by rw[<-z4];exact zn _ (by rw[<-ez];rfl)
 have g4:(((((s1.heap.push oa).push ob).push ou).push ov).push oz).get? (s1.heap.objs.size+3)=some ov:=by rw[<-z3];exact zc _ (zn _ (by rw[<-ev];rfl))
 have g3:(((((s1.heap.push oa).push ob).push ou).push ov).push oz).get? (s1.heap.objs.size+2)=some ou:=by rw[<-z2];exact zc _ (zc _ (zn _ (by rw[<-eu];rfl)))
 have g2:(((((s1.heap.push oa).push ob).push ou).push ov).push oz).get? (s1.heap.objs.size+1)=some ob:=by rw[<-z1];exact zc _ (zc _ (zc _ (zn _ (by rw[<-eb];rfl))))
 have g1:(((((s1.heap.push oa).push ob).push ou).push ov).push oz).get? s1.heap.objs.size=some oa:=zc _ (zc _ (zc _ (zc _ (zn _ (by rw[<-ea];rfl)))));have kp:∀c o,s1.heap.get? c=some o->(((((s1.heap.push oa).push ob).push ou).push ov).push oz).get? c=some o:=fun c o e=>zc _ (zc _ (zc _ (zc _ (zc _ e))));generalize((((s1.heap.push oa).push ob).push ou).push ov).push oz=hN at g1 g2 g3 g4 g5 kp ⊢;have I2:Inv X pins σ H1 { s1 with heap:=hN }:=I1.kept (t':=s1.toks) kp;have la:a<s1.heap.objs.size:=px.lt;have lb:b<s1.heap.objs.size:=(let⟨_,ho,_⟩:=py.isList;zk ho)
 subst ea eb eu ev ez;have base:∀c∈[s1.heap.objs.size+4,s1.heap.objs.size+2,s1.heap.objs.size+3,s1.heap.objs.size,s1.heap.objs.size+1],s1.heap.objs.size<=c:=fun c hc=>by simp only[zw,zL,Zr]at hc;omega
 refine⟨⟨_,g5,rfl⟩,?_⟩;show wpAny (model X.prog X.w) X.A (pyIter (.ref (s1.heap.objs.size+4))) (PIE X pins σ (.Tuple elts kt tp) R) X.xe { s1 with heap:=hN };refine wpAny_pyIter_zip g5 ?_;refine⟨s1.heap.objs.size+4,[s1.heap.objs.size+4,s1.heap.objs.size+2,s1.heap.objs.size+3,s1.heap.objs.size,s1.heap.objs.size+1],wG (s1.heap.objs.size+4) (s1.heap.objs.size+2) (s1.heap.objs.size+3) s1.heap.objs.size (s1.heap.objs.size+1) a b,_,H1,rfl,I2,
  qQ hl ?_ (fun c hc=>⟨Zq (zl la (base c hc)),Zq (zl lb (base c hc))⟩),⟨g5,g3,⟨_,_,g4⟩,⟨_,g1,rfl,rfl⟩,⟨_,g2,rfl,rfl⟩⟩,fun c hc=>?_,q⟩
 ·exact qe s1.heap.objs.size
 ·exact I1.fpOk (base c hc) (I1.hok.fresh (base c hc))
theorem uS{e1 e2:Expr}{ta:TA}{p pos tp:Pos}{elts:List Expr}{kt:Nat}(hm:X.mg "zip" = none)(ha:QA X [e1,e2] ta)(hg:Gl X "zip":=by rfl)(n1:aI e1=true:=by rfl)(n2:aI e2=true:=by rfl):QI X (.Tuple elts kt tp) (.Call (.Name "zip" p) [e1,e2] [] pos) (sH X.K ta):=⟨tZ hg hm ha.h n1 n2⟩
end
section
variable{X:Cx}{x:Str}{pos:Pos}
theorem xF{s:Str}{tk:Tok}(hm:X.mg x=some (.str s tk))(hg:Gl X x:=by rfl)(hd:(x==("__debug__":Str))=false:=by decide):QE X (.Name x pos) (tC (.str s)):=⟨jD hg hm ⟨_,rfl⟩ hd⟩
end
open PySem PySem.Spec PyProof.Rows PySem.W
def dg(n:Nat):List Nat:=(Nat.toDigits 10 n).map Char.toNat
theorem dch{d:Nat}(h:d<10):(Nat.digitChar d).toNat=48+d:=by
 have:∀d:Nat,d<10->(Nat.digitChar d).toNat=48+d:=by decide
 exact this d h
theorem gN{n:Nat}(h:n<10):dg n=[48+n]:=by unfold dg;rw[Nat.toDigits_of_lt_base h,zS,dch h];rfl
theorem gO{n:Nat}(h:¬n<10):dg n=dg (n / 10)++[48+n%10]:=by have hm:n%10<10:=Nat.mod_lt n (by decide);have t:Nat.toDigits 10 (n / 10)++Nat.toDigits 10 (n%10)=Nat.toDigits 10 (10*(n / 10)+n%10):=Nat.toDigits_append_toDigits (by decide) (by omega) hm;rw[Nat.div_add_mod]at t;unfold dg;rw[<-t,Zj,Nat.toDigits_of_lt_base hm,zS,dch hm];rfl
theorem fW(n:Nat):∀c∈dg n,48<=c/\c<=57:=by
 induction n using Nat.strongRecOn with
 |_ n ih =>
  intro c hc;by_cases h:n<10
  ·rw[gN h]at hc;have:=zC.mp hc;omega
  ·rw[gO h]at hc;have hm:n%10<10:=Nat.mod_lt n (by decide);rcases Zh.mp hc with hc|hc
   ·exact ih (n / 10) (by omega) c hc
   ·have:=zC.mp hc;omega
theorem iK(n:Nat):dg n≠[]:=by
 by_cases h:n<10
 ·rw[gN h];simp
 ·rw[gO h];simp
theorem kW:∀(k:Nat) {n:Nat},n<10^(k+1)->(dg n).length<=k+1
 |0,n,h=>by rw[gN (by simpa using h)];simp
 |k+1,n,h=>by
  by_cases c:n<10
  ·rw[gN c];simp
  ·rw[gO c,zr];have:=kW k (n:=n / 10) (by rw[Nat.div_lt_iff_lt_mul (by decide)];rw[Nat.pow_succ]at h;exact h);simp;omega
theorem mE(n:Nat):n≠0->(dg n).head?≠some 48:=by
 induction n using Nat.strongRecOn with
 |_ n ih =>
  intro h0;by_cases h:n<10
  ·rw[gN h];intro z;have:48+n=48:=zp z;omega
  ·rw[gO h];have:=ih (n / 10) (by omega) (by omega);cases e:dg (n / 10)with
   |nil=>exact absurd e (iK _)
   |cons a r =>rw[e]at this;exact this
theorem fw{i:Int}(h:0<=i):(ah i).cps.toList=dg i.toNat:=by have:=KIN.signs_num i.toNat;rw[show((i.toNat:Nat):Int)=i by omega]at this;exact this
theorem ii{i:Int}(h:i<0):(ah i).cps.toList=45::dg i.natAbs:=by
 obtain⟨n,rfl⟩:∃n,i=Int.negSucc n:=⟨(-i-1).toNat,by omega⟩
 have e:toString (Int.negSucc n)="-"++Nat.repr (n+1):=rfl;unfold ah;rw[e,signs_ofString,String.toList_append,Zj];have e2:(Nat.repr (n+1)).toList=Nat.toDigits 10 (n+1):=by simp[Nat.repr]
 rw[e2];rfl
theorem iO{i:Int}(h:i.natAbs<10^60):PySem.intText? (ah i)=some i:=by
 have hl:=kW 59 h;by_cases c:0<=i
 ·have e:=fw c;have e2:i.toNat=i.natAbs:=by omega
  have ln:(ah i).length<=4300:=by show(ah i).cps.size<=_;rw[<-zB,e,e2];omega
  have:=intText_digits (x:=ah i) (by rw[e];exact fW _) (by rw[e];exact iK _) ln;rw[this,e];have v:=KIN.val_back i.toNat;show some ((NumText.digitsVal ((Nat.toDigits 10 i.toNat).map Char.toNat):Nat):Int)=_;rw[v];congr 1;omega
 ·have e:=ii (i:=i) (by omega);have ln:(ah i).length<=4300:=by show(ah i).cps.size<=_;rw[<-zB,e,zm];omega
  have:=intText_neg (x:=ah i) e (fW _) (iK _) ln;rw[this];have v:=KIN.val_back i.natAbs;show some (-((NumText.digitsVal ((Nat.toDigits 10 i.natAbs).map Char.toNat):Nat):Int))=_;rw[v];congr 1;omega
theorem bY(i:Int):∀c∈(ah i).cps.toList,c=45\/(48<=c/\c<=57):=fun c hc=>by
 by_cases h:0<=i
 ·rw[fw h]at hc;exact .inr (fW _ c hc)
 ·rw[ii (by omega)]at hc;rcases zw.mp hc with h|h
  ·exact .inl h
  ·exact .inr (fW _ c h)
theorem jZ{x:Str}{c:Nat}:Txt.startswith x (ch1 c)=decide (x.cps.toList.head?=some c):=by
 obtain⟨a⟩:=x;show(decide (0+1<=a.size)&&(a.extract 0 (0+1) == #[c]))=_;rw[Ze,zA,decide_eq_true_iff,decide_eq_true_iff,beq_iff_eq];constructor
 ·rintro⟨h1,h2⟩;have:=Zd Array.toList h2;rw[Array.toList_extract]at this;cases e:a.toList with
  |nil =>
   have:a.size=0:=by rw[<-zB,e];rfl
   omega
  |cons b r =>rw[e]at this;simp at this;rw[List.head?_cons,this]
 ·intro h;cases e:a.toList with
  |nil=>rw[e]at h;cases h
  |cons b r =>
   rw[e,List.head?_cons]at h;have hb:b=c:=zp h;have hs:a.size=r.length+1:=by rw[<-zB,e];rfl
   refine⟨by omega,?_⟩;apply Array.toList_inj.mp;rw[Array.toList_extract,e,hb];simp
theorem tK(x:Str)(c:Nat):(!(Builtin.Str.occurrences x (ch1 c) 0 x.length 1).isEmpty)=decide (c∈x.cps.toList):=by
 have h:=StrLaws.occ_head x (ch1 c) 1 (ze _);have at_:∀k,StrLaws.At x (ch1 c) x.length k↔x.cps.toList[k]?=some c:=fun k=>by
  show(k+1<=x.cps.size/\(x.cps.extract k (k+1) == #[c])=true)↔_;rw[beq_iff_eq];constructor
  ·rintro⟨h1,h2⟩;have:=Zd Array.toList h2;rw[Array.toList_extract]at this;have hk:k<x.cps.toList.length:=by rw[zB];omega
   rw[zd hk];have e:(x.cps.toList.extract k (k+1))=[x.cps.toList[k]]:=by rw[List.extract_eq_drop_take,List.drop_eq_getElem_cons hk];simp
   rw[e]at this;simpa using this
  ·intro h;have hk:=(zj.mp h).1;rw[zB]at hk;refine⟨by omega,?_⟩;apply Array.toList_inj.mp;rw[Array.toList_extract,List.extract_eq_drop_take,List.drop_eq_getElem_cons (by rw[zB];exact hk)];have:=(zj.mp h).2;rw[this];simp
 rcases h with⟨e,no⟩|⟨i,r,e,a,_⟩
 ·rw[e];refine(decide_eq_false fun hm=>?_).symm;obtain⟨k,hk⟩:=List.getElem?_of_mem hm;exact no k ((at_ k).mpr hk)
 ·rw[e];exact(decide_eq_true (z9 ((at_ i).mp a))).symm
open PySem PySem.Spec PyProof.Rows PySem.W
theorem bW{X:Cx}{K:PySem.W.Frag}(hK:X.K=K):QCall X (.builtin "isinstance") (fun xs H Q=>∃ (x T:V) (u:Value) (b:Bool),xs=[x,T]/\(∀ v,RelV T v->v=u) /\
  ((∃ t,TyOf K H x t/\PySem.W.kitOne K t u=some b)\/∃ (a c:Addr) (dc:Option Addr),x=.ref a/\H a=some (exD a c dc)/\qS H dc/\ExK K c/\PySem.W.kitOne K (.ref c) u=some b)/\Q (.bl b) H):=by
 subst hK;exact uJ
end L2
set_option maxRecDepth 100000
set_option maxHeartbeats 4000000
namespace K14
open PySem L2
open PyProof.Rows (envOfC)
def top(i:Nat):Stmt:=PySem.Challenge.pw_limb_k14_whole_deeds_and_texts.main.body.getD i (.Pass ⟨0,0,0,0⟩)
def tw(l:List Str):TV:=.tup (l.map V.str)
def DT:List (Str×TV):=[("put",tw ["up","place","text"]),("move",tw ["item","up","place"]),("write",tw ["item","text"]),("mark",tw ["item","truth"]),("due",tw ["item","whom"]),("fold",tw ["item","truth"]),("part",tw ["item","at","place"]),("join",tw ["item","item"]),("take",tw ["item"]),("back",tw ["item"]),("off",tw ["number"]),("on",tw ["number"]),("none",tw [])]
inductive Kd|u|p|t|i|b|w|a|n
deriving DecidableEq
def jv:Kd->Nat
 |.u=>117|.p=>112|.t=>116|.i=>105|.b=>98|.w=>119|.a=>97|.n=>110
def nm:Kd->Str
 |.u=>"up" |.p=>"place" |.t=>"text" |.i=>"item" |.b=>"truth" |.w=>"whom" |.a=>"at" |.n=>"number"
def sg(k:Kd):Str:=⟨#[jv k]⟩
def kst(l:List Kd):Str:=⟨(l.map jv).toArray⟩
def KDS:List (List Kd):=[[.u,.p,.t],[.i,.u,.p],[.i,.t],[.i,.b],[.i,.w],[.i,.b],[.i,.a,.p],[.i,.i],[.i],[.i],[.n],[.n],[]]
def WDS:List Str:=["put","move","write","mark","due","fold","part","join","take","back","off","on","none"]
theorem mI{m:Nat}{l:List Kd}(h:KDS[m]?=some l):l.length<=3:=by
 have k:∀l∈KDS,l.length<=3:=by decide
 exact k l (z9 h)
theorem ux{m:Nat}{l:List Kd}{x:Str}(h:KDS[m]?=some l)(hx:WDS[m]?=some x):PyProof.Rows.KTD.datumAt x DT=some (tw (l.map nm))/\x.length<=10:=by
 have hm:m<13:=(zj.mp h).1;rcases m with _|_|_|_|_|_|_|_|_|_|_|_|_|m
 all_goals first
  |(cases h;cases hx;exact⟨rfl,by decide +kernel⟩)
  |omega
def aR:V->Int->Bool
 |.int i,lo=>decide (lo<=i)
 |_,_=>false
def ltB:V->Int->Bool
 |.int i,h=>decide (i<h)
 |_,_=>false
def kw(h:Int):Option HO->Bool
 |some (.tup [x,y])=>aR x 0&&(ltB x h&&aR y 1)
 |_=>false
def gR(H:Hp)(h:Int):V->Bool
 |.ref a=>kw h (H a)
 |_=>false
def kO(h:Int):Option HO->Bool
 |some (.tup xs)=>decide ((xs.length:Int)=h)&&xs.all (fun x=>aR x 0)
 |_=>false
def fV(H:Hp)(h:Int):V->Bool
 |.ref a=>kO h (H a)
 |_=>false
theorem aS{H:Hp}{a:Addr}{o:HO}{h:Int}(e:H a=some o):gR H h (.ref a)=kw h (some o):=by show kw h (H a)=_;rw[e]
theorem cE{H:Hp}{a:Addr}{o:HO}{h:Int}(e:H a=some o):fV H h (.ref a)=kO h (some o):=by show kO h (H a)=_;rw[e]
theorem pV{K:PySem.W.Frag}{H:Hp}{v:V}{n:String}{h:Int}(ty:TyOf K H v (.type n))(hT:isT H v=false):gR H h v=false/\fV H h v=false:=by
 cases ty with
 |lst z=>exact⟨aS z,cE z⟩
 |frz z=>exact⟨aS z,cE z⟩
 |tup z=>rw[aY z (b:=true) rfl]at hT;cases hT
 |dK z=>exact⟨aS z,cE z⟩
 |dT z=>exact⟨aS z,cE z⟩
 |_=>exact⟨rfl,rfl⟩
def lv:Option HO->Bool
 |some (.tup xs)=>decide (1<=xs.length)&&decide (xs.length<=64)&&xs.all bZ
 |_=>false
def dO(H:Hp):V->Bool
 |.ref a=>lv (H a)
 |_=>false
theorem aQ{H:Hp}{a:Addr}{o:HO}(e:H a=some o):dO H (.ref a)=lv (some o):=by show lv (H a)=_;rw[e]
theorem ml{K:PySem.W.Frag}{H H':Hp}{v:V}{n:String}(h:TyOf K H v (.type n))(e:Same H H'):dO H' v=dO H v:=by
 cases h with
 |lst q=>rw[aQ (e _ _ q),aQ q]
 |frz q=>rw[aQ (e _ _ q),aQ q]
 |tup q=>rw[aQ (e _ _ q),aQ q]
 |dK q=>rw[aQ (e _ _ q),aQ q]
 |dT q=>rw[aQ (e _ _ q),aQ q]
 |_=>rfl
def isS:V->Bool
 |.str _=>true
 |_=>false
theorem cW{K:PySem.W.Frag}{H:Hp}{v:V}{n:String}(h:TyOf K H v (.type n)):PySem.W.kitOne K (.type n) (.type "str")=some (isS v):=by
 cases h with
 |str x=>exact aW (b:=true) (by decide +kernel) (fun z=>nomatch z)
 |non=>exact aA (b:=false) (by decide +kernel) (by decide +kernel) (by decide +kernel)
 |bl x=>exact aA (b:=false) (by decide +kernel) (by decide +kernel) (by decide +kernel)
 |int i=>exact aA (b:=false) (by decide +kernel) (by decide +kernel) (by decide +kernel)
 |flt x=>exact aA (b:=false) (by decide +kernel) (by decide +kernel) (by decide +kernel)
 |lst e=>exact aA (b:=false) (by decide +kernel) (by decide +kernel) (by decide +kernel)
 |frz e=>exact aA (b:=false) (by decide +kernel) (by decide +kernel) (by decide +kernel)
 |tup e=>exact aA (b:=false) (by decide +kernel) (by decide +kernel) (by decide +kernel)
 |dK e=>exact aA (b:=false) (by decide +kernel) (by decide +kernel) (by decide +kernel)
 |dT e=>exact aA (b:=false) (by decide +kernel) (by decide +kernel) (by decide +kernel)
theorem nX{K:PySem.W.Frag}{H H':Hp}{v:V}{n:String}{h:Int}(t:TyOf K H v (.type n))(e:Same H H'):gR H' h v=gR H h v:=by
 cases t with
 |lst q=>rw[aS (e _ _ q),aS q]
 |frz q=>rw[aS (e _ _ q),aS q]
 |tup q=>rw[aS (e _ _ q),aS q]
 |dK q=>rw[aS (e _ _ q),aS q]
 |dT q=>rw[aS (e _ _ q),aS q]
 |_=>rfl
theorem rB{K:PySem.W.Frag}{H H':Hp}{v:V}{n:String}(t:TyOf K H v (.type n))(e:Same H H'):isT H' v=isT H v:=by
 cases t with
 |lst q=>rw[aY (e _ _ q) rfl,aY q rfl]
 |frz q=>rw[aY (e _ _ q) rfl,aY q rfl]
 |tup q=>rw[aY (e _ _ q) rfl,aY q rfl]
 |dK q=>rw[aY (e _ _ q) rfl,aY q rfl]
 |dT q=>rw[aY (e _ _ q) rfl,aY q rfl]
 |_=>rfl
def cQ(c:Nat):Bool:=(decide ((32:Int)<=c)&&decide ((c:Int)<=126))&&!decide ((c:Int)=37)
def bJ(x:Str):Bool:=x.cps.toList.all cQ
def nmL(hd:Int)(ns:List Int):List Int:=[hd,aF ns hd.toNat]
def dL(hd:Int)(ns:List Int)(i j:Int):Bool:=(decide (0<=i)&&(decide (i<ns.length)&&decide (1<=j)))&&(decide (j<=aF ns i.toNat)&&!decide ([i,j]=nmL hd ns))
inductive ItemR(K:PySem.W.Frag)(H:Hp)(hd:Int)(ns:List Int):V->Bool->Prop
 |no {v:V} (a:Asked K H v) (e:gR H ns.length v=false):ItemR K H hd ns v false
 |is {a:Addr} {i j:Int} (e:H a=some (.tup [.int i,.int j])):ItemR K H hd ns (.ref a) (dL hd ns i j)
theorem ItemR.same{K:PySem.W.Frag}{H H':Hp}{hd:Int}{ns:List Int}{v:V}{b:Bool}(r:ItemR K H hd ns v b)(s:Same H H'):ItemR K H' hd ns v b:=by
 cases r with
 |no a e=>exact .no (a.same s) (by obtain⟨⟨n,t⟩,_⟩:=a;rw[nX t s];exact e)
 |is e=>exact .is (s _ _ e)
inductive PartR(K:PySem.W.Frag)(H:Hp)(hd:Int)(ns:List Int):Kd->V->Bool->Prop
 |it {v:V} {b:Bool} (r:ItemR K H hd ns v b):PartR K H hd ns .i v b
 |u0:PartR K H hd ns .u .non true
 |up {v:V} {b:Bool} (hv:v≠.non) (r:ItemR K H hd ns v b):PartR K H hd ns .u v b
 |pl {v:V} {b:Bool} (a:Asked K H v) (e:dO H v=b):PartR K H hd ns .p v b
 |tx {x:Str} {b:Bool} (hl:x.length<=1000) (ha:x.cps.all (·<128)=true) (e:(bJ x&&decide (x.length<=60))=b):PartR K H hd ns .t (.str x) b
 |tn {v:V} {n:String} (ty:TyOf K H v (.type n)) (hs:isS v=false):PartR K H hd ns .t v false
 |bl {v:V} {n:String} {b:Bool} (ty:TyOf K H v (.type n)) (e:isB v=b):PartR K H hd ns .b v b
 |w0:PartR K H hd ns .w .non true
 |wh {v:V} {n:String} {b:Bool} (hv:v≠.non) (ty:TyOf K H v (.type n)) (e:(aR v 0&&ltB v ns.length)=b):PartR K H hd ns .w v b
 |at{v:V} {n:String} {b:Bool} (ty:TyOf K H v (.type n)) (e:aR v 0=b):PartR K H hd ns .a v b
 |nu {v:V} {n:String} {b:Bool} (ty:TyOf K H v (.type n)) (e:(aR v 1&&ltB v (aF ns hd.toNat))=b):PartR K H hd ns .n v b
theorem PartR.same{K:PySem.W.Frag}{H H':Hp}{hd:Int}{ns:List Int}{k:Kd}{v:V}{b:Bool}(r:PartR K H hd ns k v b)(s:Same H H'):PartR K H' hd ns k v b:=by
 cases r with
 |it r=>exact .it (r.same s)
 |u0=>exact .u0
 |up hv r=>exact .up hv (r.same s)
 |pl a e=>exact .pl (a.same s) (by obtain⟨⟨n,t⟩,_⟩:=a;rw[ml t s];exact e)
 |tx hl ha e=>exact .tx hl ha e
 |tn ty hs=>exact .tn (bI s ty) hs
 |bl ty e=>exact .bl (bI s ty) e
 |w0=>exact .w0
 |wh hv ty e=>exact .wh hv (bI s ty) e
 | «at» ty e=>exact .at (bI s ty) e
 |nu ty e=>exact .nu (bI s ty) e
def PartsR(K:PySem.W.Frag)(H:Hp)(hd:Int)(ns:List Int)(ks:List Kd)(ps:List V)(bs:List Bool):Prop:=ks.length=ps.length/\bs.length=ps.length/\∀(i:Nat) (k:Kd) (v:V) (b:Bool),ks[i]?=some k->ps[i]?=some v->bs[i]?=some b->PartR K H hd ns k v b
theorem PartsR.same{K:PySem.W.Frag}{H H':Hp}{hd:Int}{ns:List Int}{ks:List Kd}{ps:List V}{bs:List Bool}(p:PartsR K H hd ns ks ps bs)(s:Same H H'):PartsR K H' hd ns ks ps bs:=⟨p.1,p.2.1,fun i k v x h1 h2 h3=>(p.2.2 i k v x h1 h2 h3).same s⟩
inductive WhatR(K:PySem.W.Frag)(H:Hp)(hd:Int)(ns:List Int):V->Bool->Prop
 |flat {v:V} {n:String} (ty:TyOf K H v (.type n)) (hT:isT H v=false):WhatR K H hd ns v false
 |emp {a:Addr} (e:H a=some (.tup [])):WhatR K H hd ns (.ref a) false
 |noStr {a:Addr} {x:V} {n:String} {ps:List V} (e:H a=some (.tup (x::ps))) (ty:TyOf K H x (.type n)) (hs:isS x=false):WhatR K H hd ns (.ref a) false
 |noWord {a:Addr} {k:Str} {ps:List V} (e:H a=some (.tup (.str k::ps))) (hk:PyProof.Rows.KTD.datumAt k DT=none):WhatR K H hd ns (.ref a) false
 |len {a:Addr} {k:Str} {ps:List V} {ks:List Kd} (e:H a=some (.tup (.str k::ps))) (hk:PyProof.Rows.KTD.datumAt k DT=some (tw (ks.map nm))) (hl:ps.length≠ks.length):WhatR K H hd ns (.ref a) false
 |is {a:Addr} {k:Str} {ps:List V} {ks:List Kd} {bs:List Bool} {b:Bool} (e:H a=some (.tup (.str k::ps))) (hk:PyProof.Rows.KTD.datumAt k DT=some (tw (ks.map nm))) (l3:ks.length<=3) (p:PartsR K H hd ns ks ps bs) (hb:bs.all id=b):WhatR K H hd ns (.ref a) b
theorem WhatR.same{K:PySem.W.Frag}{H H':Hp}{hd:Int}{ns:List Int}{v:V}{b:Bool}(r:WhatR K H hd ns v b)(s:Same H H'):WhatR K H' hd ns v b:=by
 cases r with
 |flat ty hT=>exact .flat (bI s ty) (by rw[rB ty s];exact hT)
 |emp e=>exact .emp (s _ _ e)
 |noStr e ty hs=>exact .noStr (s _ _ e) (bI s ty) hs
 |noWord e hk=>exact .noWord (s _ _ e) hk
 |len e hk hl=>exact .len (s _ _ e) hk hl
 |is e hk l3 p hb=>exact .is (s _ _ e) hk l3 (p.same s) hb
inductive DeedR(K:PySem.W.Frag)(H:Hp)(h:Int):V->Bool->Prop
 |flat {v:V} {n:String} (ty:TyOf K H v (.type n)) (hT:isT H v=false):DeedR K H h v false
 |len {a:Addr} {xs:List V} (e:H a=some (.tup xs)) (hl:xs.length≠3):DeedR K H h (.ref a) false
 |hand {a:Addr} {x y z:V} {n:String} (e:H a=some (.tup [x,y,z])) (ty:TyOf K H x (.type n)) (hx:(aR x 0&&ltB x h)=false):DeedR K H h (.ref a) false
 |clock {a:Addr} {i:Int} {y z:V} (e:H a=some (.tup [.int i,y,z])) (i0:0<=i) (i1:i<h) (ay:Asked K H y) (hc:fV H h y=false):DeedR K H h (.ref a) false
 |zero {a c:Addr} {i:Int} {ns:List Int} {z:V} (e:H a=some (.tup [.int i,.ref c,z])) (i0:0<=i) (i1:i<h) (ec:H c=some (.tup (ns.map V.int))) (hl:(ns.length:Int)=h) (hn:∀n∈ns,0<=n) (h8:h<=8) (h0:aF ns i.toNat<1):DeedR K H h (.ref a) false
 |is {a c:Addr} {i:Int} {ns:List Int} {z:V} {b:Bool} (e:H a=some (.tup [.int i,.ref c,z])) (i0:0<=i) (i1:i<h) (ec:H c=some (.tup (ns.map V.int))) (hl:(ns.length:Int)=h) (hn:∀n∈ns,0<=n) (h8:h<=8) (h1:1<=aF ns i.toNat) (w:WhatR K H i ns z b):DeedR K H h (.ref a) b
def jJ(K:PySem.W.Frag):Sp:=fun vs H Q _=>∃v n,vs=[v]/\TyOf K H v (.type n)/\Q (.bl (bZ v)) H
def eY(K:PySem.W.Frag):Sp:=fun vs H Q _=>∃v n lo,vs=[v,.int lo]/\TyOf K H v (.type n)/\Q (.bl (aR v lo)) H
def qF(K:PySem.W.Frag):Sp:=fun vs H Q _=>∃v h,vs=[v,.int h]/\Asked K H v/\Q (.bl (gR H h v)) H
def jW(K:PySem.W.Frag):Sp:=fun vs H Q _=>∃v h,vs=[v,.int h]/\Asked K H v/\∀H',Same H H'->Q (.bl (fV H h v)) H'
def mZ:Sp:=fun vs H Q _=>∃(a b:Addr) (xs:List V) (i j z:Int),vs=[.ref a,.ref b]/\H a=some (.tup xs)/\H b=some (.tup [.int i,.int j])/\atI xs i=some (.int z)/\Q (.bl (decide (j<=z))) H
def iD(K:PySem.W.Frag):Sp:=fun vs H Q _=>∃v n,vs=[v]/\TyOf K H v (.type n)/\(isS v=false->Q (.bl false) H)/\(∀k,v=.str k->Q (.bl (PyProof.Rows.KTD.datumAt k DT).isSome) H)
def eV(K:PySem.W.Frag):Sp:=fun vs H Q _=>∃(k:Str) (ws:List Str),vs=[.str k]/\PyProof.Rows.KTD.datumAt k DT=some (tw ws)/\∀t,(∀H',SqT K H' t (ws.map V.str))->Q (.ref t) H
def jX(K:PySem.W.Frag):Sp:=fun vs H Q _=>∃v,vs=[v]/\Asked K H v/\∀H',Same H H'->Q (.bl (dO H v)) H'
def qI:Sp:=fun vs H Q _=>∃c:Nat,vs=[.str ⟨#[c]⟩]/\Q (.bl (cQ c)) H
def lQ(K:PySem.W.Frag):Sp:=fun vs H Q _=>∃v,vs=[v]/\((∃n,TyOf K H v (.type n)/\isS v=false/\Q (.bl false) H)\/∃x:Str,v=.str x/\x.length<=1000/\x.cps.all (·<128)=true/\∀H',Same H H'->Q (.bl (bJ x)) H')
def lO(K:PySem.W.Frag):Sp:=fun vs H Q _=>∃v n h,vs=[v,.int h]/\TyOf K H v (.type n)/\Q (.bl (aR v 0&&ltB v h)) H
def mV(K:PySem.W.Frag):Sp:=fun vs H Q _=>∃(v:V) (b:Bool) (c:Addr) (hd:Int) (ns:List Int),vs=[v,.int hd,.ref c]/\H c=some (.tup (ns.map V.int))/\0<=hd/\hd<ns.length/\ItemR K H hd ns v b/\∀H',Same H H'->Q (.bl b) H'
def lP(K:PySem.W.Frag):Sp:=fun vs H Q _=>∃(k:Kd) (v:V) (b:Bool) (c:Addr) (hd:Int) (ns:List Int),vs=[.str (nm k),v,.int hd,.ref c]/\H c=some (.tup (ns.map V.int))/\0<=hd/\hd<ns.length/\PartR K H hd ns k v b/\∀H',Same H H'->Q (.bl b) H'
def lR(K:PySem.W.Frag):Sp:=fun vs H Q _=>∃(v:V) (b:Bool) (c:Addr) (hd:Int) (ns:List Int),vs=[v,.int hd,.ref c]/\H c=some (.tup (ns.map V.int))/\0<=hd/\hd<ns.length/\WhatR K H hd ns v b/\∀H',Same H H'->Q (.bl b) H'
def qE(K:PySem.W.Frag):Sp:=fun vs H Q _=>∃(v:V) (b:Bool) (h:Int),vs=[v,.int h]/\DeedR K H h v b/\∀H',Same H H'->Q (.bl b) H'
def Sm(i:Int):Prop:=i.natAbs<10^60
theorem Sm.big{i:Int}(h:Sm i):i.natAbs<10^4300:=zl h (Nat.pow_le_pow_right (by decide) (by decide))
theorem Sm.len{i:Int}(h:Sm i):(ah i).length<=62:=zq (rA (k:=59) h) (by decide)
theorem Sm.of{i:Int}{k:Nat}(h0:-(10^k)<=i)(h1:i<=10^k)(hk:k<=59):Sm i:=by
 have:i.natAbs<=10^k:=by
  have e:((10^k:Nat):Int)=10^k:=by norm_cast
  omega
 exact Nat.lt_of_le_of_lt this (Nat.pow_lt_pow_right (by decide) (by omega))
theorem dJ{sep:Str}{ys:List Str}(h:∀y∈ys,y.length<=8000)(hs:sep.length<=8)(hl:ys.length<=80):(ys.map (·.length)).sum+ys.length*sep.length<=16777216:=by
 have a:(ys.map (·.length)).sum<=ys.length*8000:=by
  clear hl;induction ys with
  |nil=>simp
  |cons y ys ih =>have:=ih fun z hz=>h z (zG _ hz);have:=h y zU;simp only[zS,List.sum_cons,zm];omega
 have b:ys.length*sep.length<=ys.length*8:=Nat.mul_le_mul_left _ hs;omega
theorem jT(g:Str):∀(l:List Str) (acc:Array Nat),(l.foldl (fun acc p=>acc++g.cps++p.cps) acc).size=acc.size+(l.map (·.length)).sum+l.length*g.length
 | [],acc=>by simp
 |y::l,acc=>by rw[List.foldl_cons,jT g l];simp only[Array.size_append,zS,List.sum_cons,zm,Nat.succ_mul];have e1:y.cps.size=y.length:=rfl;have e2:g.cps.size=g.length:=rfl;omega
theorem le(sep:Str)(ys:List Str):(Txt.join sep ys).length<=(ys.map (·.length)).sum+ys.length*sep.length:=by
 cases ys with
 |nil=>exact zq (Nat.le_of_eq (show(Txt.join sep []).length=0 from rfl)) (Zv _)
 |cons y ys =>have:(Txt.join sep (y::ys)).length=y.length+(ys.map (·.length)).sum+ys.length*sep.length:=jT sep ys y.cps;rw[this];simp only[zS,List.sum_cons,zm,Nat.succ_mul];omega
theorem bH{sep:Str}{ns:List Int}(h:∀n∈ns,Sm n)(hs:sep.length<=1)(hl:ns.length<=65):(Txt.join sep (ns.map ah)).length<=5000:=by
 refine zq (le _ _) ?_;have a:((ns.map ah).map (·.length)).sum<=ns.length*62:=by
  clear hl;induction ns with
  |nil=>simp
  |cons y ys ih =>have:=ih fun z hz=>h z (zG _ hz);have:=(h y zU).len;simp only[zS,List.sum_cons,zm];omega
 have b:(ns.map ah).length*sep.length<=(ns.map ah).length*1:=Nat.mul_le_mul_left _ hs;rw[zb]at b ⊢;omega
inductive PartV(H:Hp):Kd->V->Str->Prop
 |u0:PartV H .u .non "top"
 |ui {a:Addr} {i j:Int} (e:H a=some (.tup ([i,j].map V.int))) (h:∀n∈[i,j],Sm n):PartV H .u (.ref a) (Txt.join "." ([i,j].map ah))
 |it {a:Addr} {i j:Int} (e:H a=some (.tup ([i,j].map V.int))) (h:∀n∈[i,j],Sm n):PartV H .i (.ref a) (Txt.join "." ([i,j].map ah))
 |pl {a:Addr} {ns:List Int} (e:H a=some (.tup (ns.map V.int))) (h:∀n∈ns,Sm n) (hl:ns.length<=65):PartV H .p (.ref a) (Txt.join "/" (ns.map ah))
 |tx (x:Str) (hl:x.length<=200):PartV H .t (.str x) x
 |bl (b:Bool):PartV H .b (.bl b) (if b then"yes" else"no")
 |w0:PartV H .w .non "nobody"
 |wi (i:Int) (h:Sm i):PartV H .w (.int i) (ah i)
 |at(i:Int) (h:Sm i):PartV H .a (.int i) (ah i)
 |nu (i:Int) (h:Sm i):PartV H .n (.int i) (ah i)
theorem PartV.same{H H':Hp}{k:Kd}{v:V}{x:Str}(p:PartV H k v x)(s:Same H H'):PartV H' k v x:=by
 cases p with
 |u0=>exact .u0
 |ui e h=>exact .ui (s _ _ e) h
 |it e h=>exact .it (s _ _ e) h
 |pl e h hl=>exact .pl (s _ _ e) h hl
 |tx x hl=>exact .tx x hl
 |bl b=>exact .bl b
 |w0=>exact .w0
 |wi i h=>exact .wi i h
 | «at» i h=>exact .at i h
 |nu i h=>exact .nu i h
theorem PartV.len{H:Hp}{k:Kd}{v:V}{x:Str}(p:PartV H k v x):x.length<=5000:=by
 cases p with
 |u0=>decide +kernel
 |ui e h=>exact bH h (by decide +kernel) (by simp)
 |it e h=>exact bH h (by decide +kernel) (by simp)
 |pl e h hl=>exact bH h (by decide +kernel) hl
 |tx x hl=>omega
 |bl b=>cases b<;>decide +kernel
 |w0=>decide +kernel
 |wi i h=>have:=h.len;omega
 | «at» i h=>have:=h.len;omega
 |nu i h=>have:=h.len;omega
def uG(H:Hp)(ks:List Kd)(ps:List V)(xs:List Str):Prop:=ks.length=ps.length/\xs.length=ps.length/\∀(i:Nat) (k:Kd) (v:V) (x:Str),ks[i]?=some k->ps[i]?=some v->xs[i]?=some x->PartV H k v x
def lU:Sp:=fun vs H Q _=>∃(a:Addr) (ns:List Int) (sep:Str),vs=[.ref a,.str sep]/\H a=some (.tup (ns.map V.int))/\(∀n∈ns,Sm n)/\ns.length<=65/\sep.length<=1/\∀H',Same H H'->Q (.str (Txt.join sep (ns.map ah))) H'
def ng:Sp:=fun vs H Q _=>∃(k:Kd) (v:V) (x:Str),vs=[.str (nm k),v]/\PartV H k v x/\∀H',Same H H'->Q (.str x) H'
def jY:Sp:=fun vs H Q _=>∃(d c t:Addr) (h:Int) (ns:List Int) (w:Str) (ks:List Kd) (ps:List V) (xs:List Str),vs=[.ref d]/\H d=some (.tup [.int h,.ref c,.ref t])/\H c=some (.tup (ns.map V.int))/\H t=some (.tup (.str w::ps))/\Sm h/\(∀n∈ns,Sm n)/\ns.length<=65/\w.length<=10/\ks.length<=3 /\
 PyProof.Rows.KTD.datumAt w DT=some (tw (ks.map nm))/\uG H ks ps xs/\∀H',Same H H'->Q (.str (Txt.join " " (ah h::Txt.join "," (ns.map ah)::w::xs))) H'
section
variable{P:Program}{w:World}{K:PySem.W.Frag}{mg:Str->Option Value}{base:Heap}
abbrev eH:Stmt:=top 1
abbrev lZ:List Str:=["thing"]
theorem lK:FnScope lZ ["thing"] (ak eH):=⟨rfl,rfl,rfl,by decide +kernel,rfl,by decide +kernel,by decide +kernel⟩
theorem lr{f:Addr}{fd:FuncData}(F:Fun K "is_number" "is_number" eH f fd)(z_isinstance:mg "isinstance" = none)(z_int:mg "int" = none)(z_bool:mg "bool" = none) :
  FnOk P w K mg base CX0 1 f fd ["thing"] (jJ K):=by
 refine F.okQ lK (fun vs H Q E h=>?_) (fun cdv A outer s H vs Q E hr h=>?_)
 ·obtain⟨v,n,rfl,_⟩:=h;rfl
 obtain⟨v,n,rfl,ty,q⟩:=h;refine⟨_,(b_1 (ai (bj (q_B de z_isinstance au (q_a (q_v 0) (q_a (bP z_int cA) ae))) (bb (sO (q_B de z_isinstance au (q_a (q_v 0) (q_a (bP z_bool dU) ae)))))))),?_⟩;refine⟨v,rfl,v,"int",.type n,isI v,rfl,ty,jB ty,_,rfl,?_⟩;refine eE (fun c=>?_) (fun c=>?_)
 ·refine⟨v,rfl,v,"bool",.type n,isB v,rfl,ty,cV ty,_,rfl,?_⟩;have e:(!isB v)=bZ v:=by cases v<;>simp_all [isI,isB,bZ]
  show Q (.bl (!isB v)) H;rw[e];exact q
 ·have e:bZ v=false:=by cases v<;>simp_all [isI,bZ]
  rw[e]at q;exact q
abbrev fL:Stmt:=top 2
abbrev nF:List Str:=["thing","low"]
theorem mr:FnScope nF ["thing","low"] (ak fL):=⟨rfl,rfl,rfl,by decide +kernel,rfl,by decide +kernel,by decide +kernel⟩
theorem mi{f:Addr}{fd:FuncData}(F:Fun K "is_whole" "is_whole" fL f fd)(F_is_number:Fn P w K mg base 1 "is_number" ["thing"] (jJ K)):FnOk P w K mg base CX0 2 f fd ["thing","low"] (eY K):=by
 refine F.okQ mr (fun vs H Q E h=>?_) (fun cdv A outer s H vs Q E hr h=>?_)
 ·obtain⟨v,n,lo,rfl,_⟩:=h;rfl
 obtain⟨v,n,lo,rfl,ty,q⟩:=h;refine⟨_,(b_1 (ai (bj (aC F_is_number (hr.mono (by decide)) (q_a (q_v 0) ae)) (bb (aN nZ (q_v 0) (q_v 1)))))),?_⟩;refine⟨v,rfl,v,n,rfl,ty,_,rfl,?_⟩;refine eE (fun c=>?_) (fun c=>?_)
 ·cases v with
  |int i=>exact⟨_,rfl,_,rfl,i,lo,rfl,rfl,q⟩
  |_=>cases c
 ·have e:aR v lo=false:=by
   cases v with
   |int i=>exact absurd rfl c
   |_=>rfl
  rw[e]at q;exact q
abbrev gw:Stmt:=top 3
abbrev pf:List Str:=["thing","hands"]
theorem oJ:FnScope pf ["thing","hands"] (ak gw):=⟨rfl,rfl,rfl,by decide +kernel,rfl,by decide +kernel,by decide +kernel⟩
theorem oj{f:Addr}{fd:FuncData}(F:Fun K "is_name" "is_name" gw f fd)(F_is_whole:Fn P w K mg base 2 "is_whole" ["thing","low"] (eY K))(z_isinstance:mg "isinstance" = none)(z_tuple:mg "tuple" = none)(z_len:mg "len" = none) :
  FnOk P w K mg base CX0 3 f fd ["thing","hands"] (qF K):=by
 refine F.okQ oJ (fun vs H Q E h=>?_) (fun cdv A outer s H vs Q E hr h=>?_)
 ·obtain⟨v,h,rfl,_⟩:=h;rfl
 obtain⟨v,h,rfl,⟨⟨n,ty⟩,hx⟩,q⟩:=h;refine⟨_,(b_c (ax (t_w (bK (bq (bc (q_B de z_isinstance au (q_a (q_v 0) (q_a (bP z_tuple aU) ae))))) (bE (aq eG (q_B bf z_len zt (q_a (q_v 0) ae)) ad)))) (b_1 (ai cM)) b_0)
   (b_1 (ai (bj (aC F_is_whole (hr.mono (by decide)) (q_a (aE aJ (q_v 0) ad) (q_a ad ae))) (bj (aN fB (aE aJ (q_v 0) ad) (q_v 1)) (bb (aC F_is_whole (hr.mono (by decide)) (q_a (aE aJ (q_v 0) ad) (q_a ad ae))))))))),?_⟩
 refine⟨v,rfl,v,"tuple",.type n,isT H v,rfl,ty,cG ty,_,rfl,?_⟩;cases hT:isT H v with
 |false =>refine aB (aB ?_);rw[(pV (h:=h) ty hT).1]at q;exact q
 |true =>
  obtain⟨a,xs,rfl,hH⟩:=jA hT;obtain⟨hl,hk⟩:=hx a xs rfl hH;rw[aS hH]at q;refine ar ?_;refine⟨_,rfl,a,xs,rfl,.inr (SqT.of hH),rfl,_,rfl,?_⟩;refine ku (fun c=>?_) (fun c=>?_)
  ·have e:kw h (some (.tup xs))=false:=by
    match xs,c with
    | [],_=>rfl
    | [_],_=>rfl
    | [_,_],c=>exact absurd rfl c
    |_::_::_::_,_=>rfl
   rw[e]at q;exact q
  ·obtain⟨x,y,rfl⟩:∃x y,xs=[x,y]:=by
    match xs,c with
    | [x,y],_=>exact⟨x,y,rfl⟩
    | [],c=>simp at c
    | [_],c=>simp at c
    |_::_::_::r,c=>simp at c;omega
   obtain⟨mx,tx⟩:=hk x (by simp);obtain⟨my,ty'⟩:=hk y (by simp);have q':Q (.bl (aR x 0&&(ltB x h&&aR y 1))) H:=q;refine⟨_,rfl,a,_,_,x,rfl,rfl,SqT.of hH,rfl,x,mx,0,rfl,tx,_,rfl,?_⟩;refine eE (fun c1=>?_) (fun c1=>?_)
   ·cases x with
    |int i =>
     rw[c1,zM]at q';refine⟨_,rfl,a,_,_,.int i,rfl,rfl,SqT.of hH,rfl,_,rfl,_,_,rfl,rfl,_,rfl,?_⟩;refine eE (fun c2=>?_) (fun c2=>?_)
     ·have q2:Q (.bl (decide (i<h)&&aR y 1)) H:=q';rw[c2,zM]at q2;exact⟨_,rfl,a,_,_,y,rfl,rfl,SqT.of hH,rfl,y,my,1,rfl,ty',q2⟩
     ·have q2:Q (.bl (decide (i<h)&&aR y 1)) H:=q';rw[Zg.mpr c2,zP]at q2;exact q2
    |_=>cases c1
   ·rw[Zg.mpr c1,zP]at q';exact q'
abbrev fH:Stmt:=top 4
abbrev nB:List Str:=["thing","hands"]
theorem mn:FnScope nB ["thing","hands"] (ak fH):=⟨rfl,rfl,rfl,by decide +kernel,rfl,by decide +kernel,by decide +kernel⟩
theorem me{f:Addr}{fd:FuncData}(F:Fun K "is_clock" "is_clock" fH f fd)(F_is_whole:Fn P w K mg base 2 "is_whole" ["thing","low"] (eY K))(z_isinstance:mg "isinstance" = none)(z_tuple:mg "tuple" = none)(z_len:mg "len" = none)(z_all:mg "all" = none) :
  FnOk P w K mg base CX0 3 f fd ["thing","hands"] (jW K):=by
 refine F.okQ mn (fun vs H Q E h=>?_) (fun cdv A outer s H vs Q E hr h=>?_)
 ·obtain⟨v,h,rfl,_⟩:=h;rfl
 obtain⟨v,h,rfl,⟨⟨n,ty⟩,hx⟩,q⟩:=h;refine⟨_,(b_c (ax (t_w (bK (bq (bc (q_B de z_isinstance au (q_a (q_v 0) (q_a (bP z_tuple aU) ae))))) (bE (aq eG (q_B bf z_len zt (q_a (q_v 0) ae)) (q_v 1))))) (b_1 (ai cM)) b_0)
   (b_1 (ai (q_B (gM rfl) z_all cD (q_a (bD (own:=["number"]) (⟨rfl,by decide +kernel,by decide +kernel,rfl,trivial⟩:CompOk _ _ [] []) rfl (iN (q_v 0)) (fun _ _ _ _=>aP (i:=0) (show (["number"]:List Str).Nodup by decide +kernel)) (aT (by decide)) (fun _ _ _ _=>ck) (fun _ _ _ _=>(aC F_is_whole (hr.mono (by decide)) (q_a (q_v 0) (q_a ad ae))))) ae))))),?_⟩
 refine⟨v,rfl,v,"tuple",.type n,isT H v,rfl,ty,cG ty,_,rfl,?_⟩;cases hT:isT H v with
 |false =>refine aB (aB ?_);have q':=q H (Same.refl H);rw[(pV (h:=h) ty hT).2]at q';exact q'
 |true =>
  obtain⟨a,xs,rfl,hH⟩:=jA hT;obtain⟨hl,hk⟩:=hx a xs rfl hH;rw[cE hH]at q;have q:∀H',Same H H'->Q (.bl (decide ((xs.length:Int)=h)&&xs.all (fun x=>aR x 0))) H':=q;refine ar ?_;refine⟨_,rfl,a,xs,rfl,.inr (SqT.of hH),_,rfl,rfl,_,rfl,?_⟩;refine ku (fun c=>?_) (fun c=>?_)
  ·have q':=q H (Same.refl H);rw[decide_eq_false c,zP]at q';exact q'
  ·refine⟨_,rfl,a,rfl,⟨xs,SqT.of hH⟩,?_⟩;refine dH (xs:=xs) (fun i=>.bl (aR ((xs[i]?).getD .non) 0)) hl (SqT.of hH) (fun i x H1 hi sm R k=>?_) (fun p H1 sm hp=>?_)
   ·obtain⟨m,tx⟩:=hk x (z9 hi);have k':=k H1 (Same.refl H1);rw[hi]at k';exact⟨x,rfl,x,m,0,rfl,bI sm tx,k'⟩
   ·refine⟨p,(List.range xs.length).map (fun i=>aR ((xs[i]?).getD .non) 0),rfl,SqL.of ?_,?_⟩
    ·rw[af,List.map_map];rfl
    ·rw[iH (fun x=>aR x 0)];have q':=q (upd H1 p (.lst ((List.range xs.length).map (fun i=>V.bl (aR ((xs[i]?).getD .non) 0))))) (sm.trans (aj hp _));rw[decide_eq_true c,zM]at q';exact q'
abbrev fJ:Stmt:=top 15
abbrev nC:List Str:=["thing"]
theorem mo:FnScope nC ["thing"] (ak fJ):=⟨rfl,rfl,rfl,by decide +kernel,rfl,by decide +kernel,by decide +kernel⟩
theorem mf{f:Addr}{fd:FuncData}{tk:Tok}(F:Fun K "is_place" "is_place" fJ f fd)(F_is_number:Fn P w K mg base 1 "is_number" ["thing"] (jJ K))(z_isinstance:mg "isinstance" = none)(z_tuple:mg "tuple" = none)(z_len:mg "len" = none)(z_all:mg "all" = none)(g_MOST_NUMBERS:mg "MOST_NUMBERS" = some (.int 64 tk)) :
  FnOk P w K mg base CX0 2 f fd ["thing"] (jX K):=by
 refine F.okQ mo (fun vs H Q E h=>?_) (fun cdv A outer s H vs Q E hr h=>?_)
 ·obtain⟨v,rfl,_⟩:=h;rfl
 obtain⟨v,rfl,⟨⟨n,ty⟩,hx⟩,q⟩:=h;refine⟨_,(b_c (ax (t_w (bK (bq (bc (q_B de z_isinstance au (q_a (q_v 0) (q_a (bP z_tuple aU) ae))))) (bE (bq (nr eF eF ad (q_B bf z_len zt (q_a (q_v 0) ae)) (jE g_MOST_NUMBERS)))))) (b_1 (ai cM)) b_0)
   (b_1 (ai (q_B (gM rfl) z_all cD (q_a (bD (own:=["number"]) (⟨rfl,by decide +kernel,by decide +kernel,rfl,trivial⟩:CompOk _ _ [] []) rfl (iN (q_v 0)) (fun _ _ _ _=>aP (i:=0) (show (["number"]:List Str).Nodup by decide +kernel)) (aT (by decide)) (fun _ _ _ _=>ck) (fun _ _ _ _=>(aC F_is_number (hr.mono (by decide)) (q_a (q_v 0) ae)))) ae))))),?_⟩
 refine⟨v,rfl,v,"tuple",.type n,isT H v,rfl,ty,cG ty,_,rfl,?_⟩;cases hT:isT H v with
 |false =>
  refine aB (aB ?_);have e:dO H v=false:=by
   cases ty with
   |lst z=>exact aQ z
   |frz z=>exact aQ z
   |tup z=>rw[aY z (b:=true) rfl]at hT;cases hT
   |dK z=>exact aQ z
   |dT z=>exact aQ z
   |_=>rfl
  have q':=q H (Same.refl H);rw[e]at q';exact q'
 |true =>
  obtain⟨a,xs,rfl,hH⟩:=jA hT;obtain⟨hl,hk⟩:=hx a xs rfl hH;have eB:dO H (.ref a)=(decide (1<=xs.length)&&decide (xs.length<=64)&&xs.all bZ):=aQ hH;rw[eB]at q;refine ar ?_;refine⟨_,rfl,a,xs,rfl,.inr (SqT.of hH),_,_,rfl,rfl,_,rfl,?_⟩;refine eE (fun c=>?_) (fun c=>?_)
  ·have c1:1<=xs.length:=by have:=Zz c;omega
   refine⟨_,_,rfl,rfl,_,rfl,?_⟩;by_cases c2:xs.length<=64
   ·have e2:decide ((xs.length:Int)<=64)=true:=decide_eq_true (by omega);rw[e2];refine ar ?_;refine⟨_,rfl,a,rfl,⟨xs,SqT.of hH⟩,?_⟩;refine dH (xs:=xs) (fun i=>.bl (bZ ((xs[i]?).getD .non))) hl (SqT.of hH) (fun i x H1 hi sm R k=>?_) (fun p H1 sm hp=>?_)
    ·obtain⟨m,tx⟩:=hk x (z9 hi);refine⟨x,rfl,x,m,rfl,bI sm tx,?_⟩;have k':=k H1 (Same.refl H1);rw[hi]at k';exact k'
    ·refine⟨p,(List.range xs.length).map (fun i=>bZ ((xs[i]?).getD .non)),rfl,SqL.of ?_,?_⟩
     ·rw[af,List.map_map];rfl
     ·rw[iH bZ];have q':=q (upd H1 p (.lst ((List.range xs.length).map (fun i=>V.bl (bZ ((xs[i]?).getD .non)))))) (sm.trans (aj hp _));rw[decide_eq_true c1,decide_eq_true c2,zM,zM]at q';exact q'
   ·have e2:decide ((xs.length:Int)<=64)=false:=decide_eq_false (by omega);rw[e2];refine aB ?_;have q':=q H (Same.refl H);rw[decide_eq_false c2,Bool.and_false,zP]at q';exact q'
  ·have c1:¬1<=xs.length:=by have:=of_decide_eq_false (Zg.mpr c);omega
   refine⟨_,rfl,?_⟩;refine aB ?_;have q':=q H (Same.refl H);rw[decide_eq_false c1,zP,zP]at q';exact q'
abbrev jI:Stmt:=top 5
abbrev tq:List Str:=["clock","name"]
theorem se:FnScope tq ["clock","name"] (ak jI):=⟨rfl,rfl,rfl,by decide +kernel,rfl,by decide +kernel,by decide +kernel⟩
theorem rK{f:Addr}{fd:FuncData}(F:Fun K "tells" "tells" jI f fd):FnOk P w K mg base CX0 1 f fd ["clock","name"] mZ:=by
 refine F.okQ se (fun vs H Q E h=>?_) (fun cdv A outer s H vs Q E hr h=>?_)
 ·obtain⟨a,b,xs,i,j,z,rfl,_⟩:=h;rfl
 obtain⟨a,b,xs,i,j,z,rfl,hA,hB,hz,q⟩:=h;refine⟨_,(b_1 (ai (aN nZ (aE aJ (q_v 0) (aE aJ (q_v 1) ad)) (aE aJ (q_v 1) ad)))),?_⟩;exact⟨_,rfl,_,rfl,b,_,_,_,rfl,rfl,SqT.of hB,rfl,a,_,_,_,rfl,rfl,SqT.of hA,hz,_,rfl,b,_,_,_,rfl,rfl,SqT.of hB,rfl,_,_,rfl,rfl,q⟩
abbrev cX:Stmt:=top 8
abbrev jj:List Str:=["thing"]
theorem iY:FnScope jj ["thing"] (ak cX):=⟨rfl,rfl,rfl,by decide +kernel,rfl,by decide +kernel,by decide +kernel⟩
abbrev dP:Stmt:=top 9
abbrev kG:List Str:=["word"]
theorem kl:FnScope kG ["word"] (ak dP):=⟨rfl,rfl,rfl,by decide +kernel,rfl,by decide +kernel,by decide +kernel⟩
theorem iR{f:Addr}{fd:FuncData}(F:Fun K "is_deed_word" "is_deed_word" cX f fd){dd:Addr}(g_DEED_PARTS:mg "DEED_PARTS" = some (.ref dd))(T:Tab K dd DT)(z_isinstance:mg "isinstance" = none)(z_str:mg "str" = none):FnOk P w K mg base CX0 1 f fd ["thing"] (iD K):=by
 refine F.okQ iY (fun vs H Q E h=>?_) (fun cdv A outer s H vs Q E hr h=>?_)
 ·obtain⟨v,n,rfl,_⟩:=h;rfl
 obtain⟨v,n,rfl,ty,q0,q⟩:=h;refine⟨_,(b_1 (ai (bj (q_B de z_isinstance au (q_a (q_v 0) (q_a (bP z_str aX) ae))) (bb (aN tJ (q_v 0) (rV g_DEED_PARTS)))))),?_⟩;refine⟨_,rfl,v,"str",.type n,isS v,rfl,ty,cW ty,_,rfl,?_⟩;refine eE (fun c=>?_) (fun c=>?_)
 ·cases v with
  |str k=>exact⟨_,rfl,dd,k,DT,rfl,rfl,T,q k rfl⟩
  |_=>cases c
 ·exact q0 (Zg.mpr c)
theorem kh{f:Addr}{fd:FuncData}(F:Fun K "deed_parts" "deed_parts" dP f fd){dd:Addr}(g_DEED_PARTS:mg "DEED_PARTS" = some (.ref dd))(T:Tab K dd DT):FnOk P w K mg base CX0 1 f fd ["word"] (eV K):=by
 refine F.okQ kl (fun vs H Q E h=>?_) (fun cdv A outer s H vs Q E hr h=>?_)
 ·obtain⟨k,ws,rfl,_⟩:=h;rfl
 obtain⟨k,ws,rfl,hk,q⟩:=h;refine⟨_,(b_1 (ai (aE xx (rV g_DEED_PARTS) (q_v 0)))),?_⟩;exact⟨_,rfl,dd,k,DT,tw ws,rfl,rfl,T,hk,q⟩
abbrev gC:Stmt:=top 23
abbrev pj:List Str:=["sign"]
theorem oM:FnScope pj ["sign"] (ak gC):=⟨rfl,rfl,rfl,by decide +kernel,rfl,by decide +kernel,by decide +kernel⟩
theorem on{f:Addr}{fd:FuncData}{t1 t2 t3:Tok}(F:Fun K "is_sign" "is_sign" gC f fd)(z_ord:mg "ord" = none)(g_FIRST_SIGN:mg "FIRST_SIGN" = some (.int 32 t1))(g_LAST_SIGN:mg "LAST_SIGN" = some (.int 126 t2))(g_PERCENT_SIGN:mg "PERCENT_SIGN" = some (.int 37 t3)):FnOk P w K mg base CX0 1 f fd ["sign"] qI:=by
 refine F.okQ oM (fun vs H Q E h=>?_) (fun cdv A outer s H vs Q E hr h=>?_)
 ·obtain⟨c,rfl,_⟩:=h;rfl
 obtain⟨c,rfl,q⟩:=h;refine⟨_,(b_1 (ai (bj (um eF eF (jE g_FIRST_SIGN) (q_B sD z_ord PyProof.Rows.bootS_ord (q_a (q_v 0) ae)) (jE g_LAST_SIGN)) (bb (aN eG (q_B sD z_ord PyProof.Rows.bootS_ord (q_a (q_v 0) ae)) (jE g_PERCENT_SIGN)))))),?_⟩;refine⟨_,rfl,c,rfl,_,_,rfl,rfl,_,rfl,?_⟩;unfold cQ at q;by_cases c1:(32:Int)<=c
 ·rw[decide_eq_true c1]at q ⊢;refine aB ⟨_,_,rfl,rfl,_,rfl,?_⟩;by_cases c2:(c:Int)<=126
  ·rw[decide_eq_true c2]at q ⊢;refine aB ⟨_,rfl,c,rfl,rfl,?_⟩;have e:decide (V.int (c:Int)=V.int 37)=decide ((c:Int)=37):=by
    by_cases z:(c:Int)=37
    ·rw[z,decide_eq_true rfl,decide_eq_true rfl]
    ·rw[decide_eq_false z,decide_eq_false (fun y=>z (V.int.inj y))]
   rw[e];exact q
  ·rw[decide_eq_false c2]at q ⊢;exact ar q
 ·rw[decide_eq_false c1]at q ⊢;exact ar ⟨_,rfl,ar q⟩
abbrev gF:Stmt:=top 22
abbrev pk:List Str:=["thing"]
theorem oN:FnScope pk ["thing"] (ak gF):=⟨rfl,rfl,rfl,by decide +kernel,rfl,by decide +kernel,by decide +kernel⟩
theorem qD(x:Str):(((List.range x.cps.size).map fun i=>cQ (x.cps.getD i 0)).all id)=bJ x:=by
 unfold bJ;rw[List.all_map,Ze,zH,zH];constructor
 ·intro h c hc;obtain⟨i,hi,rfl⟩:=Zu hc;have hi':i<x.cps.size:=by simpa using hi
  have:=h i (Zm.mpr hi');simpa[zO,hi']using this
 ·intro h i hi;have hi':=Zm.mp hi;have:=h x.cps[i] (by simp);simpa[zO,hi']using this
theorem oo{f:Addr}{fd:FuncData}(F:Fun K "is_text" "is_text" gF f fd)(F_is_sign:Fn P w K mg base 1 "is_sign" ["sign"] qI)(z_isinstance:mg "isinstance" = none)(z_str:mg "str" = none)(z_all:mg "all" = none):FnOk P w K mg base CX0 2 f fd ["thing"] (lQ K):=by
 refine F.okQ oN (fun vs H Q E h=>?_) (fun cdv A outer s H vs Q E hr h=>?_)
 ·obtain⟨v,rfl,_⟩:=h;rfl
 obtain⟨v,rfl,h⟩:=h;refine⟨_,(b_1 (ai (bj (q_B de z_isinstance au (q_a (q_v 0) (q_a (bP z_str aX) ae))) (bb (q_B (gM rfl) z_all cD (q_a (bD (own:=["sign"]) (⟨rfl,by decide +kernel,by decide +kernel,rfl,trivial⟩:CompOk _ _ [] []) rfl (sI (q_v 0)) (fun _ _ _ _=>aP (i:=0) (show(["sign"]:List Str).Nodup by decide +kernel)) (aT (by decide)) (fun _ _ _ _=>ck) (fun _ _ _ _=>(aC F_is_sign (hr.mono (by decide)) (q_a (q_v 0) ae)))) ae)))))),?_⟩;rcases h with⟨n,ty,hs,q⟩|⟨x,rfl,hl,ha,q⟩
 ·refine⟨_,rfl,v,"str",.type n,isS v,rfl,ty,cW ty,_,rfl,?_⟩;rw[hs];exact ar q
 ·refine⟨_,rfl,.str x,"str",.type "str",true,rfl,.str _,aW (b:=true) (by decide +kernel) (fun z=>nomatch z),_,rfl,aB ⟨_,rfl,x,rfl,ha,?_⟩⟩;refine kP (x:=x) (fun i=>.bl (cQ (x.cps.getD i 0))) hl (fun i c H1 hi sm R k=>?_) (fun p H1 sm hp=>?_)
  ·have e:x.cps.getD i 0=c:=by rw[zO,hi];rfl
   rw[e]at k;exact⟨_,rfl,c,rfl,k H1 (Same.refl H1)⟩
  ·refine⟨p,(List.range x.cps.size).map (fun i=>cQ (x.cps.getD i 0)),rfl,SqL.of (by rw[af,List.map_map];rfl),?_⟩;rw[qD];exact q _ (sm.trans (aj hp _))
abbrev gv:Stmt:=top 32
abbrev pe:List Str:=["thing","hands"]
theorem oH:FnScope pe ["thing","hands"] (ak gv):=⟨rfl,rfl,rfl,by decide +kernel,rfl,by decide +kernel,by decide +kernel⟩
theorem oi{f:Addr}{fd:FuncData}(F:Fun K "is_hand" "is_hand" gv f fd)(F_is_whole:Fn P w K mg base 2 "is_whole" ["thing","low"] (eY K)):FnOk P w K mg base CX0 3 f fd ["thing","hands"] (lO K):=by
 refine F.okQ oH (fun vs H Q E h=>?_) (fun cdv A outer s H vs Q E hr h=>?_)
 ·obtain⟨v,n,h,rfl,_⟩:=h;rfl
 obtain⟨v,n,h,rfl,ty,q⟩:=h;refine⟨_,(b_1 (ai (bj (aC F_is_whole (hr.mono (by decide)) (q_a (q_v 0) (q_a ad ae))) (bb (aN fB (q_v 0) (q_v 1)))))),?_⟩;refine⟨_,rfl,v,n,0,rfl,ty,_,rfl,?_⟩;refine eE (fun c=>?_) (fun c=>?_)
 ·cases v with
  |int i =>rw[c,zM]at q;exact⟨_,rfl,_,rfl,i,h,rfl,rfl,q⟩
  |_=>cases c
 ·rw[Zg.mpr c,zP]at q;exact q
abbrev cN:Stmt:=top 35
abbrev iF:List Str:=["thing","hand","clock"]
theorem iB:FnScope iF ["thing","hand","clock"] (ak cN):=⟨rfl,rfl,rfl,by decide +kernel,rfl,by decide +kernel,by decide +kernel⟩
theorem iu{f:Addr}{fd:FuncData}(F:Fun K "is_known_item" "is_known_item" cN f fd)(F_is_name:Fn P w K mg base 3 "is_name" ["thing","hands"] (qF K))(F_tells:Fn P w K mg base 1 "tells" ["clock","name"] mZ)(z_len:mg "len" = none):FnOk P w K mg base CX0 4 f fd ["thing","hand","clock"] (mV K):=by
 refine F.okQ iB (fun vs H Q E h=>?_) (fun cdv A outer s H vs Q E hr h=>?_)
 ·obtain⟨v,b,c,hd,ns,rfl,_⟩:=h;rfl
 obtain⟨v,b,c,hd,ns,rfl,hC,d0,d1,r,q⟩:=h;refine⟨_,(b_1 (ai (bj (aC F_is_name (hr.mono (by decide)) (q_a (q_v 0) (q_a (q_B bf z_len zt (q_a (q_v 2) ae)) ae))) (bj (aC F_tells (hr.mono (by decide)) (q_a (q_v 2) (q_a (q_v 0) ae))) (bb (aN (ve hr.units) (q_v 0) (cy (q_a (q_v 1) (q_a (aE aJ (q_v 2) (q_v 1)) ae))))))))),?_⟩;cases r with
 |no a e =>refine⟨_,rfl,_,rfl,c,_,rfl,.inr (SqT.of hC),v,_,rfl,a,_,rfl,?_⟩;rw[zb,e];exact ar (q H (Same.refl H))
 |@is a i j e =>
  refine⟨_,rfl,_,rfl,c,_,rfl,.inr (SqT.of hC),.ref a,_,rfl,jL e (Nat.le_of_ble_eq_true rfl) (fun x hx=>?_),_,rfl,?_⟩
  ·simp only[zw,zL,Zr]at hx;rcases hx with rfl|rfl
   ·exact⟨_,.int _⟩
   ·exact⟨_,.int _⟩
  rw[zb,aS e];have e':H a=some (.tup ([i,j].map V.int)):=e;unfold dL at q;show if(decide (0<=i)&&(decide (i<(ns.length:Int))&&decide (1<=j)))=true then _ else _
  by_cases c1:(decide (0<=i)&&(decide (i<(ns.length:Int))&&decide (1<=j)))=true
  ·rw[c1]at q ⊢;simp only[zA,decide_eq_true_eq]at c1;obtain⟨i0,i1,j1⟩:=c1;refine aB ⟨_,rfl,_,rfl,c,a,_,i,j,_,rfl,hC,e,br i0 i1,_,rfl,?_⟩;by_cases c2:j<=aF ns i.toNat
   ·rw[decide_eq_true c2]at q ⊢;refine aB ⟨_,rfl,_,rfl,_,rfl,_,rfl,c,_,_,_,rfl,rfl,SqT.of hC,br d0 d1,sz rfl,fun p g=>?_⟩;have w1:=aj g (.tup [.int hd,.int (aF ns hd.toNat)]);exact⟨a,p,[i,j],nmL hd ns,rfl,rfl,w1 _ _ e',af,q _ w1⟩
   ·rw[decide_eq_false c2]at q ⊢;exact ar (q H (Same.refl H))
  ·rw[Bool.not_eq_true]at c1;rw[c1]at q ⊢;exact ar (q H (Same.refl H))
abbrev gB:Stmt:=top 34
abbrev ph:List Str:=["kind","part","hand","clock"]
theorem oK:FnScope ph ["kind","part","hand","clock"] (ak gB):=⟨rfl,rfl,rfl,by decide +kernel,rfl,by decide +kernel,by decide +kernel⟩
theorem om{f:Addr}{fd:FuncData}{tk:Tok}(F:Fun K "is_part" "is_part" gB f fd)(F_is_known_item:Fn P w K mg base 4 "is_known_item" ["thing","hand","clock"] (mV K))(F_is_place:Fn P w K mg base 2 "is_place" ["thing"] (jX K))(F_is_text:Fn P w K mg base 2 "is_text" ["thing"] (lQ K))(F_is_hand:Fn P w K mg base 3 "is_hand" ["thing","hands"] (lO K))(F_is_whole:Fn P w K mg base 2 "is_whole" ["thing","low"] (eY K))(z_isinstance:mg "isinstance" = none)(z_bool:mg "bool" = none)(z_len:mg "len" = none)(g_MOST_SIGNS:mg "MOST_SIGNS" = some (.int 60 tk)):FnOk P w K mg base CX0 5 f fd ["kind","part","hand","clock"] (lP K):=by
 refine F.okQ oK (fun vs H Q E h=>?_) (fun cdv A outer s H vs Q E hr h=>?_)
 ·obtain⟨k,v,b,c,hd,ns,rfl,_⟩:=h;rfl
 obtain⟨k,v,b,c,hd,ns,rfl,hC,d0,d1,hp,q⟩:=h;refine⟨_,(b_c (ax (aq aD (q_v 0) ag) (b_1 (ai (aC F_is_known_item (hr.mono (by decide)) (q_a (q_v 1) (q_a (q_v 2) (q_a (q_v 3) ae)))))) b_0)
   (b_c (ax (aq aD (q_v 0) ag) (b_1 (ai (oE (aN eg (q_v 1) bR) (bb (aC F_is_known_item (hr.mono (by decide)) (q_a (q_v 1) (q_a (q_v 2) (q_a (q_v 3) ae)))))))) b_0)
   (b_c (ax (aq aD (q_v 0) ag) (b_1 (ai (aC F_is_place (hr.mono (by decide)) (q_a (q_v 1) ae)))) b_0)
   (b_c (ax (aq aD (q_v 0) ag) (b_1 (ai (bj (aC F_is_text (hr.mono (by decide)) (q_a (q_v 1) ae)) (bb (aN eF (q_B eL z_len zt (q_a (q_v 1) ae)) (jE g_MOST_SIGNS)))))) b_0)
   (b_c (ax (aq aD (q_v 0) ag) (b_1 (ai (q_B de z_isinstance au (q_a (q_v 1) (q_a (bP z_bool dU) ae))))) b_0)
   (b_c (ax (aq aD (q_v 0) ag) (b_1 (ai (oE (aN eg (q_v 1) bR) (bb (aC F_is_hand (hr.mono (by decide)) (q_a (q_v 1) (q_a (q_B bf z_len zt (q_a (q_v 3) ae)) ae))))))) b_0)
   (b_c (ax (aq aD (q_v 0) ag) (b_1 (ai (aC F_is_whole (hr.mono (by decide)) (q_a (q_v 1) (q_a ad ae))))) b_0)
   (b_1 (ai (bj (aC F_is_whole (hr.mono (by decide)) (q_a (q_v 1) (q_a ad ae))) (bb (aN fB (q_v 1) (aE aJ (q_v 3) (q_v 2)))))))))))))),?_⟩
 have q0:=q H (Same.refl H);cases hp with
 |it r=>exact⟨_,rfl,rfl,_,rfl,aL ⟨_,rfl,_,rfl,_,rfl,v,b,c,hd,ns,rfl,hC,d0,d1,r,q⟩⟩
 |u0=>exact⟨_,rfl,rfl,_,rfl,aa (by decide +kernel) ⟨_,rfl,rfl,_,rfl,aL ⟨_,rfl,rfl,_,rfl,cb rfl q0⟩⟩⟩
 |up hv r=>exact⟨_,rfl,rfl,_,rfl,aa (by decide +kernel) ⟨_,rfl,rfl,_,rfl,aL ⟨_,rfl,rfl,_,rfl,aV hv ⟨_,rfl,_,rfl,_,rfl,v,b,c,hd,ns,rfl,hC,d0,d1,r,q⟩⟩⟩⟩
 |pl a e =>subst e;exact⟨_,rfl,rfl,_,rfl,aa (by decide +kernel) ⟨_,rfl,rfl,_,rfl,aa (by decide +kernel) ⟨_,rfl,rfl,_,rfl,aL ⟨_,rfl,v,rfl,a,q⟩⟩⟩⟩
 |@tx x _ hl ha e =>
  refine⟨_,rfl,rfl,_,rfl,aa (by decide +kernel) ⟨_,rfl,rfl,_,rfl,aa (by decide +kernel) ⟨_,rfl,rfl,_,rfl,aa (by decide +kernel) ⟨_,rfl,rfl,_,rfl,aL ⟨_,rfl,.str x,rfl,.inr ⟨x,rfl,hl,ha,fun H1 s1=>⟨_,rfl,?_⟩⟩⟩⟩⟩⟩⟩;have q1:=q H1 s1;rw[<-e]at q1;by_cases c1:bJ x=true
  ·rw[c1,zM]at q1;rw[c1];refine aB ⟨_,rfl,x,rfl,hl,_,_,rfl,rfl,?_⟩;have e2:decide ((x.length:Int)<=60)=decide (x.length<=60):=by
    by_cases z:x.length<=60
    ·rw[decide_eq_true z,decide_eq_true (by omega)]
    ·rw[decide_eq_false z,decide_eq_false (by omega)]
   rw[<-e2]at q1;exact q1
  ·rw[Bool.not_eq_true]at c1;rw[c1,zP]at q1;rw[c1];exact ar q1
 |@tn _ n ty hs=>exact⟨_,rfl,rfl,_,rfl,aa (by decide +kernel) ⟨_,rfl,rfl,_,rfl,aa (by decide +kernel) ⟨_,rfl,rfl,_,rfl,aa (by decide +kernel) ⟨_,rfl,rfl,_,rfl,aL ⟨_,rfl,v,rfl,.inl ⟨n,ty,hs,⟨_,rfl,ar q0⟩⟩⟩⟩⟩⟩⟩
 |@bl _ n _ ty e =>subst e;exact⟨_,rfl,rfl,_,rfl,aa (by decide +kernel) ⟨_,rfl,rfl,_,rfl,aa (by decide +kernel) ⟨_,rfl,rfl,_,rfl,aa (by decide +kernel) ⟨_,rfl,rfl,_,rfl,aa (by decide +kernel) ⟨_,rfl,rfl,_,rfl,aL ⟨_,rfl,v,"bool",.type n,isB v,rfl,ty,cV ty,q0⟩⟩⟩⟩⟩⟩
 |w0=>exact⟨_,rfl,rfl,_,rfl,aa (by decide +kernel) ⟨_,rfl,rfl,_,rfl,aa (by decide +kernel) ⟨_,rfl,rfl,_,rfl,aa (by decide +kernel) ⟨_,rfl,rfl,_,rfl,aa (by decide +kernel) ⟨_,rfl,rfl,_,rfl,aa (by decide +kernel) ⟨_,rfl,rfl,_,rfl,aL ⟨_,rfl,rfl,_,rfl,cb rfl q0⟩⟩⟩⟩⟩⟩⟩
 |@wh _ n _ hv ty e =>subst e;refine⟨_,rfl,rfl,_,rfl,aa (by decide +kernel) ⟨_,rfl,rfl,_,rfl,aa (by decide +kernel) ⟨_,rfl,rfl,_,rfl,aa (by decide +kernel) ⟨_,rfl,rfl,_,rfl,aa (by decide +kernel) ⟨_,rfl,rfl,_,rfl,aa (by decide +kernel) ⟨_,rfl,rfl,_,rfl,aL ⟨_,rfl,rfl,_,rfl,aV hv ⟨_,rfl,_,rfl,c,_,rfl,.inr (SqT.of hC),v,n,_,rfl,ty,?_⟩⟩⟩⟩⟩⟩⟩⟩;rw[zb];exact q0
 |@«at» _ n _ ty e =>subst e;exact⟨_,rfl,rfl,_,rfl,aa (by decide +kernel) ⟨_,rfl,rfl,_,rfl,aa (by decide +kernel) ⟨_,rfl,rfl,_,rfl,aa (by decide +kernel) ⟨_,rfl,rfl,_,rfl,aa (by decide +kernel) ⟨_,rfl,rfl,_,rfl,aa (by decide +kernel) ⟨_,rfl,rfl,_,rfl,aa (by decide +kernel) ⟨_,rfl,rfl,_,rfl,aL ⟨_,rfl,v,n,0,rfl,ty,q0⟩⟩⟩⟩⟩⟩⟩⟩
 |@nu _ n _ ty e =>
  subst e;refine⟨_,rfl,rfl,_,rfl,aa (by decide +kernel) ⟨_,rfl,rfl,_,rfl,aa (by decide +kernel) ⟨_,rfl,rfl,_,rfl,aa (by decide +kernel) ⟨_,rfl,rfl,_,rfl,aa (by decide +kernel) ⟨_,rfl,rfl,_,rfl,aa (by decide +kernel) ⟨_,rfl,rfl,_,rfl,aa (by decide +kernel) ⟨_,rfl,rfl,_,rfl,aa (by decide +kernel) ⟨_,rfl,v,n,1,rfl,ty,_,rfl,?_⟩⟩⟩⟩⟩⟩⟩⟩;refine eE (fun c1=>?_) (fun c1=>?_)
  ·cases v with
   |int i =>rw[c1,zM]at q0;exact⟨_,rfl,_,rfl,_,rfl,c,_,_,_,rfl,rfl,SqT.of hC,br d0 d1,_,_,rfl,rfl,q0⟩
   |_=>cases c1
  ·rw[Zg.mpr c1,zP]at q0;exact q0
abbrev gG:Stmt:=top 33
abbrev pr:List Str:=["thing","hand","clock","kinds"]
theorem iZ:FnScope pr ["thing","hand","clock"] (ak gG):=⟨rfl,rfl,rfl,by decide +kernel,rfl,by decide +kernel,by decide +kernel⟩
theorem oq{f:Addr}{fd:FuncData}(F:Fun K "is_what" "is_what" gG f fd)(F_is_deed_word:Fn P w K mg base 1 "is_deed_word" ["thing"] (iD K))(F_deed_parts:Fn P w K mg base 1 "deed_parts" ["word"] (eV K))(F_is_part:Fn P w K mg base 5 "is_part" ["kind","part","hand","clock"] (lP K))(z_isinstance:mg "isinstance" = none)(z_tuple:mg "tuple" = none)(z_len:mg "len" = none)(z_all:mg "all" = none)(z_zip:mg "zip" = none):FnOk P w K mg base CX0 6 f fd ["thing","hand","clock"] (lR K):=by
 refine F.okQ iZ (fun vs H Q E h=>?_) (fun cdv A outer s H vs Q E hr h=>?_)
 ·obtain⟨v,b,c,hd,ns,rfl,_⟩:=h;rfl
 obtain⟨v,b,c,hd,ns,rfl,hC,d0,d1,r,q⟩:=h;refine⟨_,(b_c (ax (t_w (bK (bq (bc (q_B de z_isinstance au (q_a (q_v 0) (q_a (bP z_tuple aU) ae))))) (bK (aq aD (q_B bf z_len zt (q_a (q_v 0) ae)) ad) (bE (bq (bc (aC F_is_deed_word (hr.mono (by decide)) (q_a (aE aJ (q_v 0) ad) ae)))))))) (b_1 (ai cM)) b_0)
   (b_c (aG (i:=3) iZ.nd (aC F_deed_parts (hr.mono (by decide)) (q_a (aE aJ (q_v 0) ad) ae)))
   (b_c (ax (aq eG (q_B bf z_len zt (q_a (q_v 0) ae)) (am bu (q_B bf z_len zt (q_a (q_v 3) ae)) ad)) (b_1 (ai cM)) b_0)
   (b_1 (ai (q_B (gM rfl) z_all cD (q_a (bD (own:=["kind","part"]) (⟨rfl,by decide +kernel,by decide +kernel,rfl,⟨rfl,rfl,⟨rfl,rfl,trivial⟩⟩⟩:CompOk _ _ [1,2] ["hand","clock"]) rfl (sJ z_zip (q_a (q_v 3) (q_a (lC pY (q_v 0) (lB ad) lA) ae))) (fun _ _ _ _=>pQ (K:=K) (n:=2) rfl rfl (fX (aP (i:=0) (show (["kind","part","hand","clock"]:List Str).Nodup by decide +kernel)) (fX (aP (i:=1) (show (["kind","part","hand","clock"]:List Str).Nodup by decide +kernel)) nR))) (pR (ft (aT (by decide)) dD (ft (aT (by decide)) dD mG gP) (kY dD gP))) (fun _ _ _ _=>ck) (fun _ _ _ _=>(aC F_is_part (hr.mono (by decide)) (q_a (q_v 0) (q_a (q_v 1) (q_a (q_v 2) (q_a (q_v 3) ae))))))) ae))))))),?_⟩
 have q0:=q H (Same.refl H);have isT1:∀{t:Addr} {xs:List V},H t=some (.tup xs)->TyOf K H (.ref t) (.type "tuple"):=fun e=>.tup e;cases r with
 |@flat _ n ty hT =>refine⟨_,rfl,v,"tuple",.type n,isT H v,rfl,ty,cG ty,_,rfl,?_⟩;rw[hT];exact aB (aB q0)
 |@emp t e =>refine⟨_,rfl,.ref t,"tuple",.type "tuple",true,rfl,.tup e,aW (b:=true) (by decide +kernel) (fun z=>nomatch z),_,rfl,ar ?_⟩;exact⟨_,rfl,t,_,rfl,.inr (SqT.of e),rfl,_,rfl,cb rfl q0⟩
 |@noStr t x n ps e ty hs =>refine⟨_,rfl,.ref t,"tuple",.type "tuple",true,rfl,.tup e,aW (b:=true) (by decide +kernel) (fun z=>nomatch z),_,rfl,ar ?_⟩;refine⟨_,rfl,t,_,rfl,.inr (SqT.of e),rfl,_,rfl,aa (fun z=>by injection z with z;rw[zm]at z;omega) ?_⟩;exact⟨_,rfl,t,_,_,_,rfl,rfl,SqT.of e,fU,x,n,rfl,ty,fun _=>⟨_,rfl,aB q0⟩,fun k hk=>by subst hk;cases hs⟩
 |@noWord t k ps e hk =>refine⟨_,rfl,.ref t,"tuple",.type "tuple",true,rfl,.tup e,aW (b:=true) (by decide +kernel) (fun z=>nomatch z),_,rfl,ar ?_⟩;refine⟨_,rfl,t,_,rfl,.inr (SqT.of e),rfl,_,rfl,aa (fun z=>by injection z with z;rw[zm]at z;omega) ?_⟩;refine⟨_,rfl,t,_,_,_,rfl,rfl,SqT.of e,fU,.str k,"str",rfl,.str k,(fun z=>nomatch z),fun k' hk'=>⟨_,rfl,?_⟩⟩;cases hk';rw[hk];exact aB q0
 |@len t k ps ks e hk hl =>refine⟨_,rfl,.ref t,"tuple",.type "tuple",true,rfl,.tup e,aW (b:=true) (by decide +kernel) (fun z=>nomatch z),_,rfl,ar ?_⟩;refine⟨_,rfl,t,_,rfl,.inr (SqT.of e),rfl,_,rfl,aa (fun z=>by injection z with z;rw[zm]at z;omega) ?_⟩;refine⟨_,rfl,t,_,_,_,rfl,rfl,SqT.of e,fU,.str k,"str",rfl,.str k,(fun z=>nomatch z),fun k' hk'=>⟨_,rfl,?_⟩⟩;cases hk';rw[hk];refine ar ?_;refine⟨_,rfl,t,_,_,_,rfl,rfl,SqT.of e,fU,k,ks.map nm,rfl,hk,fun y hy=>?_⟩;refine⟨_,rfl,t,_,rfl,.inr (SqT.of e),_,rfl,y,_,rfl,.inr (hy H),_,_,rfl,rfl,rfl,_,rfl,ku (fun _=>q0) (fun z=>?_)⟩;rw[zm,zb,zb]at z;exact absurd (by omega) hl
 |@is t k ps ks bs _ e hk l3 hp hb =>
  subst hb;obtain⟨lw,lb,hpp⟩:=id hp;refine⟨_,rfl,.ref t,"tuple",.type "tuple",true,rfl,.tup e,aW (b:=true) (by decide +kernel) (fun z=>nomatch z),_,rfl,ar ?_⟩;refine⟨_,rfl,t,_,rfl,.inr (SqT.of e),rfl,_,rfl,aa (fun z=>by injection z with z;rw[zm]at z;omega) ?_⟩;refine⟨_,rfl,t,_,_,_,rfl,rfl,SqT.of e,fU,.str k,"str",rfl,.str k,(fun z=>nomatch z),fun k' hk'=>⟨_,rfl,?_⟩⟩;cases hk';rw[hk];refine ar ?_;refine⟨_,rfl,t,_,_,_,rfl,rfl,SqT.of e,fU,k,ks.map nm,rfl,hk,fun y hy=>?_⟩;refine⟨_,rfl,t,_,rfl,.inr (SqT.of e),_,rfl,y,_,rfl,.inr (hy H),_,_,rfl,rfl,rfl,_,rfl,gQ (by rw[zm,zb,zb,lw];rfl) ?_⟩;have cv:bt (V.str k::ps) (some 1) none=ps:=by unfold bt;rw[HT.sIx_none,lE (by decide),zm,show((1:Int).toNat)=1 from rfl,Nat.min_eq_left (by omega),List.drop_succ_cons,List.drop_zero,zV (by omega)]
  refine⟨_,rfl,_,rfl,_,rfl,t,_,rfl,e,fun z H0 w1 ez=>?_⟩;rw[cv]at ez;refine⟨y,z,_,_,rfl,hy _,SqT.of ez,by rw[zb,zb,lw],?_⟩;refine rk (fun i=>.bl ((bs[i]?).getD true)) (by rw[zb,zb];omega) (hy _) (SqT.of ez) (by rw[zb,zb,lw]) (fun i x v H1 hx hv sm R kk=>?_) (fun p H1 sm hp1=>?_)
  ·obtain⟨kd,hkd,rfl⟩:∃kd,ks[i]?=some kd/\x=.str (nm kd):=by
    rw[zE,zE]at hx;cases e:ks[i]? with
    |none=>rw[e]at hx;cases hx
    |some kd=>rw[e]at hx;cases hx;exact⟨kd,rfl,rfl⟩
   have hi:i<bs.length:=by rw[lb];exact(zj.mp hv).1
   have hb:bs[i]?=some bs[i]:=zd hi;have pb:=(hpp i kd v bs[i] hkd hv hb).same (w1.trans sm);rw[hb]at kk;exact⟨_,rfl,_,rfl,_,rfl,_,rfl,kd,v,bs[i],c,hd,ns,rfl,sm _ _ (w1 _ _ hC),d0,d1,pb,fun H2 s2=>kk H2 s2⟩
  ·refine⟨p,(List.range ((ks.map nm).map V.str).length).map (fun i=>(bs[i]?).getD true),rfl,SqL.of (by rw[af];simp only[List.map_map];rfl),?_⟩;have e:((List.range ((ks.map nm).map V.str).length).map fun i=>(bs[i]?).getD true)=bs:=by rw[zb,zb,lw,<-lb];refine List.ext_getElem (by simp) fun i h1 h2=>?_;simp[h2]
   rw[e];exact q _ (w1.trans (sm.trans (aj hp1 _)))
abbrev gm:Stmt:=top 31
abbrev oZ:List Str:=["thing","hands"]
theorem oG:FnScope oZ ["thing","hands"] (ak gm):=⟨rfl,rfl,rfl,by decide +kernel,rfl,by decide +kernel,by decide +kernel⟩
theorem fA{H:Hp}{c:Addr}{ns:List Int}(e:H c=some (.tup (ns.map V.int)))(hl:ns.length<=1000):Asked K H (.ref c):=jL e (by rw[zb];exact hl) (fun x hx=>by
 obtain⟨n,_,rfl⟩:=List.mem_map.mp hx;exact⟨_,.int n⟩)
theorem jQ{H:Hp}{c:Addr}{ns:List Int}{h:Int}(e:H c=some (.tup (ns.map V.int)))(hl:(ns.length:Int)=h)(hn:∀n∈ns,0<=n):fV H h (.ref c)=true:=by rw[cE e];show(decide (((ns.map V.int).length:Int)=h)&&(ns.map V.int).all (fun x=>aR x 0))=true;rw[zb,decide_eq_true hl,zM,zH];intro x hx;obtain⟨n,hm,rfl⟩:=List.mem_map.mp hx;exact decide_eq_true (hn n hm)
theorem oh{f:Addr}{fd:FuncData}(F:Fun K "is_deed" "is_deed" gm f fd)(F_is_hand:Fn P w K mg base 3 "is_hand" ["thing","hands"] (lO K))(F_is_clock:Fn P w K mg base 3 "is_clock" ["thing","hands"] (jW K))(F_is_what:Fn P w K mg base 6 "is_what" ["thing","hand","clock"] (lR K))(z_isinstance:mg "isinstance" = none)(z_tuple:mg "tuple" = none)(z_len:mg "len" = none):FnOk P w K mg base CX0 7 f fd ["thing","hands"] (qE K):=by
 refine F.okQ oG (fun vs H Q E h=>?_) (fun cdv A outer s H vs Q E hr h=>?_)
 ·obtain⟨v,b,h,rfl,_⟩:=h;rfl
 obtain⟨v,b,h,rfl,r,q⟩:=h;refine⟨_,(b_c (ax (t_w (bK (bq (bc (q_B de z_isinstance au (q_a (q_v 0) (q_a (bP z_tuple aU) ae))))) (bE (aq eG (q_B bf z_len zt (q_a (q_v 0) ae)) ad)))) (b_1 (ai cM)) b_0)
   (b_c (ax (t_w (bK (bq (bc (aC F_is_hand (hr.mono (by decide)) (q_a (aE aJ (q_v 0) ad) (q_a (q_v 1) ae))))) (bE (bq (bc (aC F_is_clock (hr.mono (by decide)) (q_a (aE aJ (q_v 0) ad) (q_a (q_v 1) ae)))))))) (b_1 (ai cM)) b_0)
   (b_1 (ai (bj (aN nZ (aE aJ (aE aJ (q_v 0) ad) (aE aJ (q_v 0) ad)) ad) (bb (aC F_is_what (hr.mono (by decide)) (q_a (aE aJ (q_v 0) ad) (q_a (aE aJ (q_v 0) ad) (q_a (aE aJ (q_v 0) ad) ae)))))))))),?_⟩
 have q0:=q H (Same.refl H);cases r with
 |@flat _ n ty hT =>refine⟨_,rfl,v,"tuple",.type n,isT H v,rfl,ty,cG ty,_,rfl,?_⟩;rw[hT];exact aB (aB q0)
 |@len a xs e hl =>refine⟨_,rfl,.ref a,"tuple",.type "tuple",true,rfl,.tup e,aW (b:=true) (by decide +kernel) (fun z=>nomatch z),_,rfl,ar ?_⟩;refine⟨_,rfl,a,_,rfl,.inr (SqT.of e),rfl,_,rfl,ku (fun _=>q0) (fun z=>absurd (by omega) hl)⟩
 |@hand a x y z n e ty hx =>refine⟨_,rfl,.ref a,"tuple",.type "tuple",true,rfl,.tup e,aW (b:=true) (by decide +kernel) (fun z=>nomatch z),_,rfl,ar ?_⟩;refine⟨_,rfl,a,_,rfl,.inr (SqT.of e),rfl,_,rfl,gQ rfl ?_⟩;refine⟨_,rfl,a,_,_,_,rfl,rfl,SqT.of e,rfl,_,rfl,x,n,h,rfl,ty,_,rfl,?_⟩;rw[hx];exact aB (aB q0)
 |@clock a i y z e i0 i1 ay hc =>refine⟨_,rfl,.ref a,"tuple",.type "tuple",true,rfl,.tup e,aW (b:=true) (by decide +kernel) (fun z=>nomatch z),_,rfl,ar ?_⟩;refine⟨_,rfl,a,_,rfl,.inr (SqT.of e),rfl,_,rfl,gQ rfl ?_⟩;refine⟨_,rfl,a,_,_,_,rfl,rfl,SqT.of e,rfl,_,rfl,.int i,"int",h,rfl,.int i,_,rfl,?_⟩;rw[show(aR (.int i) 0&&ltB (.int i) h)=true by show(decide (0<=i)&&decide (i<h))=true;rw[decide_eq_true i0,decide_eq_true i1];rfl];refine ar ?_;refine⟨_,rfl,a,_,_,_,rfl,rfl,SqT.of e,rfl,_,rfl,y,h,rfl,ay,fun H1 s1=>⟨_,rfl,?_⟩⟩;rw[hc];exact aB (q H1 s1)
 |@zero a c i ns z e i0 i1 ec hl hn h8 h0 =>refine⟨_,rfl,.ref a,"tuple",.type "tuple",true,rfl,.tup e,aW (b:=true) (by decide +kernel) (fun z=>nomatch z),_,rfl,ar ?_⟩;refine⟨_,rfl,a,_,rfl,.inr (SqT.of e),rfl,_,rfl,gQ rfl ?_⟩;refine⟨_,rfl,a,_,_,_,rfl,rfl,SqT.of e,rfl,_,rfl,.int i,"int",h,rfl,.int i,_,rfl,?_⟩;rw[show(aR (.int i) 0&&ltB (.int i) h)=true by show(decide (0<=i)&&decide (i<h))=true;rw[decide_eq_true i0,decide_eq_true i1];rfl];refine ar ?_;refine⟨_,rfl,a,_,_,_,rfl,rfl,SqT.of e,rfl,_,rfl,.ref c,h,rfl,fA ec (by omega),fun H1 s1=>⟨_,rfl,?_⟩⟩;rw[jQ ec hl hn];refine ar ?_;have f1:=s1 _ _ e;refine⟨_,rfl,a,_,_,_,rfl,rfl,SqT.of f1,rfl,_,rfl,a,_,_,_,rfl,rfl,SqT.of f1,rfl,c,_,_,_,rfl,rfl,SqT.of (s1 _ _ ec),br i0 (by omega),_,_,rfl,rfl,_,rfl,?_⟩;rw[decide_eq_false (by omega)];exact ar (q H1 s1)
 |@is a c i ns z _ e i0 i1 ec hl hn h8 h1 wr =>refine⟨_,rfl,.ref a,"tuple",.type "tuple",true,rfl,.tup e,aW (b:=true) (by decide +kernel) (fun z=>nomatch z),_,rfl,ar ?_⟩;refine⟨_,rfl,a,_,rfl,.inr (SqT.of e),rfl,_,rfl,gQ rfl ?_⟩;refine⟨_,rfl,a,_,_,_,rfl,rfl,SqT.of e,rfl,_,rfl,.int i,"int",h,rfl,.int i,_,rfl,?_⟩;rw[show(aR (.int i) 0&&ltB (.int i) h)=true by show(decide (0<=i)&&decide (i<h))=true;rw[decide_eq_true i0,decide_eq_true i1];rfl];refine ar ?_;refine⟨_,rfl,a,_,_,_,rfl,rfl,SqT.of e,rfl,_,rfl,.ref c,h,rfl,fA ec (by omega),fun H1 s1=>⟨_,rfl,?_⟩⟩;rw[jQ ec hl hn];refine ar ?_;have f1:=s1 _ _ e;refine⟨_,rfl,a,_,_,_,rfl,rfl,SqT.of f1,rfl,_,rfl,a,_,_,_,rfl,rfl,SqT.of f1,rfl,c,_,_,_,rfl,rfl,SqT.of (s1 _ _ ec),br i0 (by omega),_,_,rfl,rfl,_,rfl,?_⟩;rw[decide_eq_true h1];refine aB ⟨_,rfl,a,_,_,_,rfl,rfl,SqT.of f1,rfl,_,rfl,a,_,_,_,rfl,rfl,SqT.of f1,rfl,_,rfl,a,_,_,_,rfl,rfl,SqT.of f1,rfl,?_⟩;exact⟨z,_,c,i,ns,rfl,s1 _ _ ec,i0,by omega,wr.same s1,fun H2 s2=>q H2 (s1.trans s2)⟩
theorem iE{f:Nat->Str}{n:Nat}:((List.range n).map fun i=>V.str (f i))=((List.range n).map f).map V.str:=by rw[List.map_map];rfl
theorem ik{ns:List Int}:((List.range (ns.map V.int).length).map fun i=>ah (aF ns i))=ns.map ah:=by rw[zb];refine List.ext_getElem (by simp) fun i h1 h2=>?_;rw[List.getElem_map,List.getElem_map,List.getElem_range,fh]
abbrev cn:Stmt:=top 28
abbrev hG:List Str:=["numbers","sign"]
theorem gJ:FnScope hG ["numbers","sign"] (ak cn):=⟨rfl,rfl,rfl,by decide +kernel,rfl,by decide +kernel,by decide +kernel⟩
theorem ge{f:Addr}{fd:FuncData}(F:Fun K "written_numbers" "written_numbers" cn f fd)(dg:PySem.W.nsIn K cStatics "sys.int_max_str_digits" = some none)(z_str:mg "str" = none):FnOk P w K mg base CX0 1 f fd ["numbers","sign"] lU:=by
 refine F.okQ gJ (fun vs H Q E h=>?_) (fun cdv A outer s H vs Q E hr h=>?_)
 ·obtain⟨a,ns,sep,rfl,_⟩:=h;rfl
 obtain⟨a,ns,sep,rfl,hA,hs,hl,h1,q⟩:=h;refine⟨_,(b_1 (ai (gh (q_v 1) (bD (own:=["number"]) (⟨rfl,by decide +kernel,by decide +kernel,rfl,trivial⟩:CompOk _ _ [] []) rfl (iN (q_v 0)) (fun _ _ _ _=>aP (i:=0) (show(["number"]:List Str).Nodup by decide +kernel)) (aT (by decide)) (fun _ _ _ _=>ck) (fun _ _ _ _=>(bL (bX (K:=K) rfl rfl dg) z_str aX (q_a (q_v 0) ae))))))),?_⟩;refine⟨_,rfl,rfl,_,rfl,a,rfl,⟨_,SqT.of hA⟩,?_⟩;refine dH (fun i=>.str (ah (aF ns i))) (by rw[zb];omega) (SqT.of hA) (fun i x H1 hi sm R k=>?_) (fun p H1 sm hp=>?_)
 ·obtain⟨rfl,hj⟩:=fz hi;exact⟨_,rfl,_,rfl,(hs _ (by rw[<-fh hj];exact List.getElem_mem hj)).big,k H1 (Same.refl H1)⟩
 ·rw[iE,ik];refine⟨sep,p,ns.map ah,rfl,rfl,SqL.of af,dJ (fun y hy=>?_) (by omega) (by rw[zb];omega),q _ (sm.trans (aj hp _))⟩;obtain⟨n,hn,rfl⟩:=List.mem_map.mp hy;have:=(hs n hn).len;omega
abbrev cZ:Stmt:=top 38
abbrev jm:List Str:=["kind","part"]
theorem jb:FnScope jm ["kind","part"] (ak cZ):=⟨rfl,rfl,rfl,by decide +kernel,rfl,by decide +kernel,by decide +kernel⟩
theorem iU{f:Addr}{fd:FuncData}(F:Fun K "written_part" "written_part" cZ f fd)(F_written_numbers:Fn P w K mg base 1 "written_numbers" ["numbers","sign"] lU)(dg:PySem.W.nsIn K cStatics "sys.int_max_str_digits" = some none)(z_str:mg "str" = none):FnOk P w K mg base CX0 2 f fd ["kind","part"] ng:=by
 refine F.okQ jb (fun vs H Q E h=>?_) (fun cdv A outer s H vs Q E hr h=>?_)
 ·obtain⟨k,v,x,rfl,_⟩:=h;rfl
 obtain⟨k,v,x,rfl,p,q⟩:=h;refine⟨_,(b_c (ax (aq aD (q_v 0) ag) (b_1 (ai (q_v 1))) b_0)
   (b_c (ax (aq aD (q_v 0) ag) (b_1 (ai (oB (bc (q_v 1)) ag ag))) b_0)
   (b_c (ax (aq eg (q_v 1) bR) (b_1 (ai (oB (aq aD (q_v 0) ag) ag ag))) b_0)
   (b_c (ax (aq aD (q_v 0) ag) (b_1 (ai (aC F_written_numbers (hr.mono (by decide)) (q_a (q_v 1) (q_a ag ae))))) b_0)
   (b_c (ax (t_w (bK (aq aD (q_v 0) ag) (bE (aq aD (q_v 0) ag)))) (b_1 (ai (aC F_written_numbers (hr.mono (by decide)) (q_a (q_v 1) (q_a ag ae))))) b_0)
   (b_1 (ai (bL (bX (K:=K) rfl rfl dg) z_str aX (q_a (q_v 1) ae))))))))),?_⟩
 have q0:=q H (Same.refl H);cases p with
 |tx x hl=>exact⟨_,rfl,rfl,_,rfl,aL ⟨_,rfl,q0⟩⟩
 |bl b =>
  refine⟨_,rfl,rfl,_,rfl,aa (by decide +kernel) ⟨_,rfl,rfl,_,rfl,aL ⟨_,rfl,_,rfl,?_⟩⟩⟩;cases b with
  |true=>exact aB q0
  |false=>exact ar q0
 |u0=>exact⟨_,rfl,rfl,_,rfl,aa (by decide +kernel) ⟨_,rfl,rfl,_,rfl,aa (by decide +kernel) ⟨_,rfl,rfl,_,rfl,cb rfl ⟨_,rfl,rfl,_,rfl,aL q0⟩⟩⟩⟩
 |w0=>exact⟨_,rfl,rfl,_,rfl,aa (by decide +kernel) ⟨_,rfl,rfl,_,rfl,aa (by decide +kernel) ⟨_,rfl,rfl,_,rfl,cb rfl ⟨_,rfl,rfl,_,rfl,aa (by decide +kernel) q0⟩⟩⟩⟩
 |@pl a ns e h hl=>exact⟨_,rfl,rfl,_,rfl,aa (by decide +kernel) ⟨_,rfl,rfl,_,rfl,aa (by decide +kernel) ⟨_,rfl,rfl,_,rfl,aV (by intro z;cases z) ⟨_,rfl,rfl,_,rfl,aL ⟨_,rfl,a,ns,"/",rfl,e,h,hl,by decide +kernel,q⟩⟩⟩⟩⟩
 |@it a i j e h=>exact⟨_,rfl,rfl,_,rfl,aa (by decide +kernel) ⟨_,rfl,rfl,_,rfl,aa (by decide +kernel) ⟨_,rfl,rfl,_,rfl,aV (by intro z;cases z) ⟨_,rfl,rfl,_,rfl,aa (by decide +kernel) ⟨_,rfl,rfl,_,rfl,aL ⟨_,rfl,a,[i,j],".",rfl,e,h,by simp,by decide +kernel,q⟩⟩⟩⟩⟩⟩
 |@ui a i j e h=>exact⟨_,rfl,rfl,_,rfl,aa (by decide +kernel) ⟨_,rfl,rfl,_,rfl,aa (by decide +kernel) ⟨_,rfl,rfl,_,rfl,aV (by intro z;cases z) ⟨_,rfl,rfl,_,rfl,aa (by decide +kernel) ⟨_,rfl,rfl,_,rfl,aa (by decide +kernel) ⟨_,rfl,rfl,_,rfl,aL ⟨_,rfl,a,[i,j],".",rfl,e,h,by simp,by decide +kernel,q⟩⟩⟩⟩⟩⟩⟩
 |wi i h=>exact⟨_,rfl,rfl,_,rfl,aa (by decide +kernel) ⟨_,rfl,rfl,_,rfl,aa (by decide +kernel) ⟨_,rfl,rfl,_,rfl,aV (by intro z;cases z) ⟨_,rfl,rfl,_,rfl,aa (by decide +kernel) ⟨_,rfl,rfl,_,rfl,aa (by decide +kernel) ⟨_,rfl,rfl,_,rfl,aa (by decide +kernel) ⟨_,rfl,i,rfl,h.big,q0⟩⟩⟩⟩⟩⟩⟩
 | «at» i h=>exact⟨_,rfl,rfl,_,rfl,aa (by decide +kernel) ⟨_,rfl,rfl,_,rfl,aa (by decide +kernel) ⟨_,rfl,rfl,_,rfl,aV (by intro z;cases z) ⟨_,rfl,rfl,_,rfl,aa (by decide +kernel) ⟨_,rfl,rfl,_,rfl,aa (by decide +kernel) ⟨_,rfl,rfl,_,rfl,aa (by decide +kernel) ⟨_,rfl,i,rfl,h.big,q0⟩⟩⟩⟩⟩⟩⟩
 |nu i h=>exact⟨_,rfl,rfl,_,rfl,aa (by decide +kernel) ⟨_,rfl,rfl,_,rfl,aa (by decide +kernel) ⟨_,rfl,rfl,_,rfl,aV (by intro z;cases z) ⟨_,rfl,rfl,_,rfl,aa (by decide +kernel) ⟨_,rfl,rfl,_,rfl,aa (by decide +kernel) ⟨_,rfl,rfl,_,rfl,aa (by decide +kernel) ⟨_,rfl,i,rfl,h.big,q0⟩⟩⟩⟩⟩⟩⟩
abbrev gH:Stmt:=top 37
abbrev pz:List Str:=["deed","what","words","kind","part"]
theorem cP:FnScope pz ["deed"] (ak gH):=⟨rfl,rfl,rfl,by decide +kernel,rfl,by decide +kernel,by decide +kernel⟩
theorem ot{f:Addr}{fd:FuncData}(F:Fun K "written" "written" gH f fd)(F_written_numbers:Fn P w K mg base 1 "written_numbers" ["numbers","sign"] lU)(F_deed_parts:Fn P w K mg base 1 "deed_parts" ["word"] (eV K))(F_written_part:Fn P w K mg base 2 "written_part" ["kind","part"] ng)(dg:PySem.W.nsIn K cStatics "sys.int_max_str_digits" = some none)(z_str:mg "str" = none)(z_zip:mg "zip" = none):FnOk P w K mg base CX0 3 f fd ["deed"] jY:=by
 refine F.okQ cP (fun vs H Q E h=>?_) (fun cdv A outer s H vs Q E hr h=>?_)
 ·obtain⟨d,c,t,h,ns,wd,ks,ps,xs,rfl,_⟩:=h;rfl
 obtain⟨d,c,t,h,ns,wd,ks,ps,xs,rfl,e1,e2,e3,sh,sn,ln,lw,lk,hk,hp,q⟩:=h;obtain⟨l1,l2,hpp⟩:=id hp;refine⟨_,(b_c (aG (i:=1) cP.nd (aE aJ (q_v 0) ad))
   (b_c (aG (i:=2) cP.nd (fF (q_a (bL (bX (K:=K) rfl rfl dg) z_str aX (q_a (aE aJ (q_v 0) ad) ae)) (q_a (aC F_written_numbers (hr.mono (by decide)) (q_a (aE aJ (q_v 0) ad) (q_a ag ae))) (q_a (aE aJ (q_v 1) ad) ae)))))
   (b_c (iX PassesOwn.never rfl (sJ z_zip (q_a (aC F_deed_parts (hr.mono (by decide)) (q_a (aE aJ (q_v 1) ad) ae)) (q_a (lC pY (q_v 1) (lB ad) lA) ae))) (nQ rfl (fX (aP (i:=3) cP.nd) (fX (aP (i:=4) cP.nd) nR))) (b_1 (qz (sN (q_v 2) (aC F_written_part (hr.mono (by decide)) (q_a (q_v 3) (q_a (q_v 4) ae)))))))
   (b_1 (ai (gh ag (q_v 2))))))),?_⟩
 refine⟨_,rfl,d,_,_,_,rfl,rfl,SqT.of e1,rfl,?_⟩;refine⟨_,rfl,d,_,_,_,rfl,rfl,SqT.of e1,rfl,h,rfl,sh.big,?_⟩;refine⟨_,rfl,d,_,_,_,rfl,rfl,SqT.of e1,rfl,c,ns,",",rfl,e2,sn,ln,by decide +kernel,fun H1 s1=>?_⟩;refine⟨_,rfl,t,_,_,_,rfl,rfl,SqT.of (s1 _ _ e3),fU,sz rfl,fun p g=>?_⟩;have w1:=aj g (.lst [.str (ah h),.str (Txt.join "," (ns.map ah)),.str wd]);have ep:upd H1 p (.lst [.str (ah h),.str (Txt.join "," (ns.map ah)),.str wd]) p=some (.lst (([ah h,Txt.join "," (ns.map ah),wd]++xs.take 0).map V.str)):=by rw[af];simp
 have S1:=s1.trans w1;have gp:=s1.free g;generalize upd H1 p (.lst [.str (ah h),.str (Txt.join "," (ns.map ah)),.str wd])=H2 at ep S1 ⊢;refine⟨_,rfl,t,_,_,_,rfl,rfl,SqT.of (S1 _ _ e3),fU,wd,ks.map nm,rfl,hk,fun y hy=>?_⟩;have cv:bt (V.str wd::ps) (some 1) none=ps:=by unfold bt;rw[HT.sIx_none,lE (by decide),zm,show((1:Int).toNat)=1 from rfl,Nat.min_eq_left (by omega),List.drop_succ_cons,List.drop_zero,zV (by omega)]
 refine⟨_,rfl,_,rfl,t,_,rfl,S1 _ _ e3,fun z H3 w2 ez=>?_⟩;rw[cv]at ez;have ep:=w2 _ _ ep;have S2:=S1.trans w2;refine⟨y,z,_,_,rfl,hy _,SqT.of ez,by rw[zb,zb,l1],?_⟩;refine tE (i:=3) (j:=4) (fun k σ H'=>Same H H'/\H' p=some (.lst (([ah h,Txt.join "," (ns.map ah),wd]++xs.take k).map V.str))/\H' z=some (.tup ps)/\∃o3 o4,σ=[some (.ref d),some (.ref t),some (.ref p),o3,o4]) ⟨S2,ep,ez,none,none,rfl⟩ (fun _ _ _ _ _=>hy _) (fun _ _ _ _ v=>SqT.of v.2.2.1) (by rw[zb,zb,l1]) ?_ ?_
 ·rintro k x v σ H' hx hv ⟨sm,ep',ez',o3,o4,rfl⟩ T gT;have wT:=aj gT (.tup [x,v]);obtain⟨kd,hkd,rfl⟩:∃kd,ks[k]?=some kd/\x=.str (nm kd):=by
   rw[zE,zE]at hx;cases e:ks[k]? with
   |none=>rw[e]at hx;cases hx
   |some kd=>rw[e]at hx;cases hx;exact⟨kd,rfl,rfl⟩
  have hk':k<xs.length:=by rw[l2];exact(zj.mp hv).1
  have hxs:xs[k]?=some xs[k]:=zd hk';have pv:=(hpp k kd v xs[k] hkd hv hxs).same (sm.trans wT);refine⟨_,rfl,.inl ⟨rfl,_,SqL.of (wT _ _ ep')⟩,_,rfl,_,rfl,kd,v,xs[k],rfl,pv,fun H4 s4=>?_⟩;have e4:=s4 _ _ (wT _ _ ep');have z4:=s4 _ _ (wT _ _ ez');refine⟨p,_,_,rfl,rfl,e4,cJ (by simp;omega),fN (sm.trans (wT.trans s4)) gp,?_,?_,_,_,rfl⟩
  ·rw[af,List.take_add_one,hxs,<-List.append_assoc,Zj (l₁:=[ah h,Txt.join "," (ns.map ah),wd]++xs.take k)];rfl
  ·rw[aw (wQ z4 e4 (by intro q;cases q))];exact z4
 ·rintro σ H' ⟨sm,ep',ez',o3,o4,rfl⟩;have lk':(List.map V.str (List.map nm ks)).length=xs.length:=by rw[zb,zb,l1,l2]
  rw[lk',zV (ze _)]at ep';refine⟨rfl,_,rfl," ",p,[ah h,Txt.join "," (ns.map ah),wd]++xs,rfl,rfl,SqL.of ep',dJ (fun y hy=>?_) (by decide +kernel) (by simp;omega),q H' sm⟩;rcases Zh.mp hy with a|a
  ·simp only[zw,zL,Zr]at a;rcases a with rfl|rfl|rfl
   ·have:=sh.len;omega
   ·have:=bH (sep:=",") sn (by decide +kernel) ln;omega
   ·omega
  ·obtain⟨i,hi,rfl⟩:=List.mem_iff_getElem.mp a;have hi2:i<ks.length:=by omega
   have hi3:i<ps.length:=by omega
   have:=(hpp i ks[i] ps[i] xs[i] (zd hi2) (zd hi3) (zd hi)).len;omega
theorem cxK{CX:CXT}{N:List Str}{qual:Str}{scope:Scope}{f:Addr}{cd:Value}{A:Around}{outer:List Env}{s:Shared}{H:Hp}{E:XK}:(cU CX P w K mg base N qual scope f cd A outer s H E).nox.K=K:=rfl
theorem pO{K:PySem.W.Frag}{a:Addr}{xs:List V}{g:TG}{tb:L2.TS}{D:Ends}{σ:St}{H:Hp}(Pv:Nat->St->Hp->Prop)(h0:Pv 0 σ H)(hl:∀i σ H,i<=xs.length->Pv i σ H->SqL K H a xs)(hs:∀i x σ H,xs[i]?=some x->Pv i σ H->∀D':Ends,(∀σ' H',Pv (i+1) σ' H'->D'.nx σ' H')->g x σ H fun σ2 H2=>tb D' σ2 H2)(hd:∀σ H,Pv xs.length σ H->D.nx σ H) :
  ∃W:Nat->Nat->St->Hp->Prop,(∃m,W 0 m σ H)/\∀i m σ H,W i m σ H ->
   ((Itl K a).stop i H/\D.nx σ H)\/((Itl K a).go i H/\∃N:St->Hp->Prop,(∀σ' H',N σ' H'->∃m',m'<m/\W (i+1) m' σ' H')/\∀x H',(Itl K a).yld i H x H'->g x σ H' fun σ2 H2=>tb { D with nx:=N,ct:=N,bk:=D.nx } σ2 H2) :=
 rq Pv h0 hl (fun i x σ H a b=>hs i x σ H a b _ fun _ _ z=>z) hd
theorem fq{lo:Int}{n:Nat}{g:TG}{tb:L2.TS}{D:Ends}{σ:St}{H:Hp}(Pv:Nat->St->Hp->Prop)(h0:Pv 0 σ H)(hs:∀i σ H,i<n->Pv i σ H->∀D':Ends,(∀σ' H',Pv (i+1) σ' H'->D'.nx σ' H')->g (.int (lo+i)) σ H fun σ2 H2=>tb D' σ2 H2)(hd:∀σ H,Pv n σ H->D.nx σ H) :
  ∃W:Nat->Nat->St->Hp->Prop,(∃m,W 0 m σ H)/\∀i m σ H,W i m σ H ->
   ((Itr lo n).stop i H/\D.nx σ H)\/((Itr lo n).go i H/\∃N:St->Hp->Prop,(∀σ' H',N σ' H'->∃m',m'<m/\W (i+1) m' σ' H')/\∀x H',(Itr lo n).yld i H x H'->g x σ H' fun σ2 H2=>tb { D with nx:=N,ct:=N,bk:=D.nx } σ2 H2) :=
 pP Pv h0 (fun i σ H a b=>hs i σ H a b _ fun _ _ z=>z) hd
theorem io{A:(St->Hp->Prop)->Prop}{B:St->Hp->Prop}(J:St->Hp->Prop)(h1:∀R:St->Hp->Prop,(∀σ H,J σ H->R σ H)->A R)(h2:∀σ H,J σ H->B σ H):∃R,A R/\∀σ H,R σ H->B σ H:=⟨J,h1 J fun _ _ z=>z,h2⟩
theorem cc{t u:L2.TS}{D:Ends}{σ:St}{H:Hp}(h:∀R:Ends,(∀σ' H',u D σ' H'->R.nx σ' H')->t R σ H):oS t u D σ H:=h { D with nx:=u D } fun _ _ z=>z
theorem at0{x:V}{r:List V}:atI (x::r) 0=some x:=bo (xs:=x::r) (j:=0) rfl
theorem at1{x y:V}{r:List V}:atI (x::y::r) 1=some y:=bo (xs:=x::y::r) (j:=1) rfl
theorem at2{x y z:V}{r:List V}:atI (x::y::z::r) 2=some z:=bo (xs:=x::y::z::r) (j:=2) rfl
theorem wP{c A B:Prop}[Decidable c](h:¬c)(hB:B):if decide c=true then A else B:=by rw[decide_eq_false h];exact ar hB
theorem mS{t u:L2.TS}{D:Ends}{σ:St}{H:Hp}(J:St->Hp->Prop)(h1:∀R:Ends,(∀σ' H',J σ' H'->R.nx σ' H')->t R σ H)(h2:∀σ' H',J σ' H'->u D σ' H'):oS t u D σ H:=h1 { D with nx:=u D } h2
inductive Pd|non|nm(i j:Int)|pl (ns:List Int)|tx (s:Str)|bl (b:Bool)|nu (i:Int)
def eC:Kd->Pd->Prop
 |.u,.non=>True
 |.u,.nm i j=>0<=i/\0<=j/\Sm i/\Sm j
 |.i,.nm i j=>0<=i/\0<=j/\Sm i/\Sm j
 |.p,.pl ns=>1<=ns.length/\ns.length<=65/\∀n∈ns,Sm n
 |.t,.tx s=>bJ s=true/\s.length<=200
 |.b,.bl _=>True
 |.w,.non=>True
 |.w,.nu i=>0<=i/\Sm i
 |.a,.nu i=>0<=i/\Sm i
 |.n,.nu i=>0<=i/\Sm i
 |_,_=>False
def PdAt(H:Hp)(v:V):Pd->Prop
 |.non=>v=.non
 |.nm i j=>∃a,v=.ref a/\H a=some (.tup ([i,j].map V.int))
 |.pl ns=>∃a,v=.ref a/\H a=some (.tup (ns.map V.int))
 |.tx s=>v=.str s
 |.bl b=>v=.bl b
 |.nu i=>v=.int i
def ba(sep:Str)(ns:List Int):Str:=Txt.join sep (ns.map ah)
def eJ:Kd->Pd->Str
 |.u,.non=>"top"
 |_,.non=>"nobody"
 |_,.nm i j=>ba "." [i,j]
 |_,.pl ns=>ba "/" ns
 |_,.tx s=>s
 |_,.bl b=>if b then"yes" else"no"
 |_,.nu i=>ah i
theorem PdAt.same{H H':Hp}{v:V}{d:Pd}(x:PdAt H v d)(s:Same H H'):PdAt H' v d:=by
 cases d with
 |nm=>obtain⟨a,h1,h2⟩:=x;exact⟨a,h1,s _ _ h2⟩
 |pl=>obtain⟨a,h1,h2⟩:=x;exact⟨a,h1,s _ _ h2⟩
 |_=>exact x
theorem fe{i j:Int}(h:Sm i/\Sm j):∀n∈[i,j],Sm n:=fun n hn=>by
 simp only[zw,zL,Zr]at hn;rcases hn with rfl|rfl
 ·exact h.1
 ·exact h.2
theorem PdAt.part{H:Hp}{k:Kd}{v:V}{d:Pd}(x:PdAt H v d)(f:eC k d):PartV H k v (eJ k d):=by
 cases k<;>cases d<;>first|exact f.elim|skip
 case u.non=>rw[show v=.non from x];exact .u0
 case u.nm=>obtain⟨a,rfl,e⟩:=x;exact .ui e (fe f.2.2)
 case i.nm=>obtain⟨a,rfl,e⟩:=x;exact .it e (fe f.2.2)
 case p.pl=>obtain⟨a,rfl,e⟩:=x;exact .pl e f.2.2 f.2.1
 case t.tx=>rw[show v=_ from x];exact .tx _ f.2
 case b.bl=>rw[show v=_ from x];exact .bl _
 case w.non=>rw[show v=_ from x];exact .w0
 case w.nu=>rw[show v=_ from x];exact .wi _ f.2
 case a.nu=>rw[show v=_ from x];exact .at _ f.2
 case n.nu=>rw[show v=_ from x];exact .nu _ f.2
def dk(c:Nat):Bool:=decide (48<=c)&&decide (c<=57)
def cg(l:List Nat):Bool:=(decide (1<=l.length)&&decide (l.length<=60))&&l.all dk&&(decide (l=[48]) ||!decide (l.head?=some 48))
def FIG:Str:="0123456789"
theorem uM(c:Nat):decide (c∈FIG.cps.toList)=dk c:=by
 have e:FIG.cps.toList=[48,49,50,51,52,53,54,55,56,57]:=by decide +kernel
 rw[e];unfold dk;rw[Ze,decide_eq_true_iff,zA,decide_eq_true_iff,decide_eq_true_iff];simp only[zw,zL,Zr];omega
def sU:Sp:=fun vs H Q _=>∃x:Str,vs=[.str x]/\x.length<=1000/\x.cps.all (·<128)=true/\∀H',Same H H'->Q (.bl (cg x.cps.toList)) H'
theorem rn(x:Str):(((List.range x.cps.size).map fun i=>dk (x.cps.getD i 0)).all id)=x.cps.toList.all dk:=by
 rw[List.all_map,Ze,zH,zH];constructor
 ·intro h c hc;obtain⟨i,hi,rfl⟩:=Zu hc;have hi':i<x.cps.size:=by simpa using hi
  have:=h i (Zm.mpr hi');simpa[zO,hi']using this
 ·intro h i hi;have hi':=Zm.mp hi;have:=h x.cps[i] (by simp);simpa[zO,hi']using this
theorem xC(x:Str):decide (V.str x=V.str "0")=decide (x.cps.toList=[48]):=by
 rw[decide_eq_decide];constructor
 ·intro h;injection h with h;rw[h];decide +kernel
 ·intro h;have:x="0":=fc (by rw[h];decide +kernel);rw[this]
abbrev dQ:Stmt:=top 24
abbrev kH:List Str:=["text"]
theorem km:FnScope kH ["text"] (ak dQ):=⟨rfl,rfl,rfl,by decide +kernel,rfl,by decide +kernel,by decide +kernel⟩
theorem ki{f:Addr}{fd:FuncData}{t1 t2:Tok}(F:Fun K "is_figures" "is_figures" dQ f fd)(z_len:mg "len" = none)(z_all:mg "all" = none)(g_MOST_FIGURES:mg "MOST_FIGURES" = some (.int 60 t1))(g_FIGURES:mg "FIGURES" = some (.str FIG t2)):FnOk P w K mg base CX0 1 f fd ["text"] sU:=by
 refine F.okQ km (fun vs H Q E h=>?_) (fun cdv A outer s H vs Q E hr h=>?_)
 ·obtain⟨x,rfl,_⟩:=h;rfl
 obtain⟨x,rfl,hl,ha,q⟩:=h;refine⟨_,(b_c (ax (t_w (bK (bq (nr eF eF ad (q_B eL z_len zt (q_a (q_v 0) ae)) (jE g_MOST_FIGURES))) (bE (bq (bc (q_B (gM rfl) z_all cD (q_a (bD (own:=["sign"]) (⟨rfl,by decide +kernel,by decide +kernel,rfl,trivial⟩:CompOk _ _ [] []) rfl (sI (q_v 0)) (fun _ _ _ _=>aP (i:=0) (show (["sign"]:List Str).Nodup by decide +kernel)) (aT (by decide)) (fun _ _ _ _=>ck) (fun _ _ _ _=>(aN wS (q_v 0) (xF g_FIGURES)))) ae))))))) (b_1 (ai cM)) b_0)
   (b_1 (ai (oE (aN aD (q_v 0) ag) (bb (sO (lD (q_v 0) ag))))))),?_⟩
 have lx:x.cps.toList.length=x.length:=zB;have fin:∀H',Same H H'->x.cps.toList.all dk=true->1<=x.length->x.length<=60->∀R:VK,(∀b,b=cg x.cps.toList->R (.bl b) H')->ss (tOp rEq (oU 0) (tC (.str "0"))) (oR (tBM K "str" jG (oU 0) (di (tC (.str "0")) gL))) [some (.str x)] H' R:=fun H' s' h1 h2 h3 R hR=>by
  have fb:cg x.cps.toList=(decide (x.cps.toList=[48]) ||!decide (x.cps.toList.head?=some 48)):=by unfold cg;rw[h1,lx,decide_eq_true h2,decide_eq_true h3];rfl
  refine⟨_,rfl,rfl,_,rfl,?_⟩;rw[xC];cases e:decide (x.cps.toList=[48])with
  |true=>exact aB (hR _ (by rw[fb,e];rfl))
  |false =>refine ar ⟨_,rfl,rfl,x,"0",rfl,rfl,_,rfl,?_⟩;have es:Txt.startswith x "0" = decide (x.cps.toList.head?=some 48):=jZ (c:=48);rw[es];exact hR _ (by rw[fb,e];rfl)
 refine⟨_,rfl,x,rfl,hl,_,_,rfl,rfl,_,rfl,?_⟩;refine eE (fun c=>?_) (fun c=>?_)
 ·have c1:1<=x.length:=by have:=Zz c;omega
  refine⟨_,_,rfl,rfl,_,rfl,?_⟩;by_cases c2:x.length<=60
  ·rw[decide_eq_true (show(x.length:Int)<=60 by omega)];refine ar ⟨_,rfl,x,rfl,ha,?_⟩;refine kP (x:=x) (fun i=>.bl (dk (x.cps.getD i 0))) hl (fun i c' H1 hi sm R k=>?_) (fun p H1 sm hp=>?_)
   ·have e:x.cps.getD i 0=c':=by rw[zO,hi];rfl
    rw[e]at k;have k':=k H1 (Same.refl H1);rw[<-uM,<-tK]at k';exact⟨_,rfl,⟨#[c']⟩,FIG,rfl,rfl,k'⟩
   ·refine⟨p,(List.range x.cps.size).map (fun i=>dk (x.cps.getD i 0)),rfl,SqL.of (by rw[af,List.map_map];rfl),_,rfl,?_⟩;rw[rn];have sp:=sm.trans (aj hp (.lst ((List.range x.cps.size).map fun i=>V.bl (dk (x.cps.getD i 0)))));cases e:x.cps.toList.all dk with
    |true=>exact ar (fin _ sp e c1 c2 _ fun b hb=>by rw[hb];exact q _ sp)
    |false =>refine aB ?_;have q':=q _ sp;rw[show cg x.cps.toList=false by unfold cg;rw[e];simp]at q';exact q'
  ·rw[decide_eq_false (show¬(x.length:Int)<=60 by omega)];refine aB (aB ?_);have q':=q H (Same.refl H);rw[show cg x.cps.toList=false by unfold cg;rw[lx,decide_eq_false c2];simp]at q';exact q'
 ·have c1:¬1<=x.length:=fun z=>c (decide_eq_true (by omega));refine⟨_,rfl,aB (aB ?_)⟩;have q':=q H (Same.refl H);rw[show cg x.cps.toList=false by unfold cg;rw[lx,decide_eq_false c1];simp]at q';exact q'
def ir(l:List Nat):Bool:=cg (if l.head?=some 45 then l.tail else l)&&!decide (l=[45,48])
theorem fT{x:Str}(h:∀c∈x.cps.toList,c=45\/(48<=c/\c<=57)):x.cps.all (·<128)=true:=by rw[<-Array.all_toList,zH];intro c hc;have:=h c hc;exact decide_eq_true (by omega)
theorem xB{x:Str}(h:1<=x.length):(dI x (some 1) none).cps.toList=x.cps.toList.tail:=by
 have e2:dI x (some ((1:Nat):Int)) none=dI x (some ((1:Nat):Int)) (some ((x.length:Nat):Int)):=by unfold dI;rw[StrLaws.sliceIdx_none_hi]
 show(dI x (some ((1:Nat):Int)) none).cps.toList=_;rw[e2];unfold dI;split
 ·rename_i z;rw[StrLaws.strSliceIndices_plain h (ze _),zb,Zy]at z;omega
 ·rw[StrLaws.sliced_plain x h (ze _)];show((x.cps.toList.drop 1).take (x.length-1))=_;rw[zV (by rw[List.length_drop];exact ze _)];exact List.drop_one
def lS:Sp:=fun vs H Q _=>∃x:Str,vs=[.str x]/\x.length<=1000/\x.cps.all (·<128)=true/\∀H',Same H H'->Q (.bl (ir x.cps.toList)) H'
theorem wL(x:Str):decide (V.str x=V.str "-0")=decide (x.cps.toList=[45,48]):=by
 rw[decide_eq_decide];constructor
 ·intro h;injection h with h;rw[h];decide +kernel
 ·intro h;have:x="-0":=fc (by rw[h];decide +kernel);rw[this]
abbrev cB:Stmt:=top 25
abbrev ib:List Str:=["word","figures"]
theorem dr:FnScope ib ["word"] (ak cB):=⟨rfl,rfl,rfl,by decide +kernel,rfl,by decide +kernel,by decide +kernel⟩
theorem hJ{f:Addr}{fd:FuncData}(F:Fun K "is_number_word" "is_number_word" cB f fd)(F_is_figures:Fn P w K mg base 1 "is_figures" ["text"] sU):FnOk P w K mg base CX0 2 f fd ["word"] lS:=by
 refine F.okQ dr (fun vs H Q E h=>?_) (fun cdv A outer s H vs Q E hr h=>?_)
 ·obtain⟨x,rfl,_⟩:=h;rfl
 obtain⟨x,rfl,hl,ha,q⟩:=h;refine⟨_,(b_c (aG (i:=1) dr.nd (oB (bc (lD (q_v 0) ag)) (lC va (q_v 0) (lB ad) lA) (q_v 0)))
   (b_1 (ai (bj (aC F_is_figures (hr.mono (by decide)) (q_a (q_v 1) ae)) (bb (aN eG (q_v 0) ag)))))),?_⟩
 have es:Txt.startswith x "-" = decide (x.cps.toList.head?=some 45):=jZ (c:=45);refine mS (fun σ' H'=>H'=H/\∃y:Str,y.length<=1000/\y.cps.all (·<128)=true/\y.cps.toList=(if x.cps.toList.head?=some 45 then x.cps.toList.tail else x.cps.toList)/\σ'=[some (.str x),some (.str y)]) (fun R hR=>?_) ?_
 rotate_left
 ·rintro σ' H' ⟨rfl,y,hy,hay,e,rfl⟩;refine⟨_,rfl,y,rfl,hy,hay,fun H1 s1=>?_⟩;have q':=q H1 s1;unfold ir at q';rw[<-e]at q';refine⟨_,rfl,?_⟩;cases eb:cg y.cps.toList with
  |true =>rw[eb,zM]at q';refine aB ⟨_,rfl,rfl,?_⟩;rw[wL];exact q'
  |false =>rw[eb]at q';exact ar q'
 refine⟨_,rfl,rfl,x,"-",rfl,rfl,_,rfl,?_⟩;rw[es];refine bO (fun c=>?_) (fun c=>?_)
 ·have l1:1<=x.length:=by
   show 1<=x.cps.size;rw[<-zB];cases e:x.cps.toList with
   |nil=>rw[e]at c;cases c
   |cons a r=>simp
  refine⟨_,rfl,_,rfl,x,rfl,hl,?_⟩;have e:=xB l1;refine hR _ _ ⟨rfl,dI x (some 1) none,zq (kR x (some 1) none) hl,?_,by rw[e,if_pos c],rfl⟩
  ·rw[<-Array.all_toList,zH]at ha ⊢;rw[e];intro d hd;exact ha d (List.mem_of_mem_tail hd)
 ·exact⟨_,rfl,hR _ _ ⟨rfl,x,hl,ha,by rw[if_neg c],rfl⟩⟩
theorem lp{i:Int}(h:Sm i):ir (ah i).cps.toList=true:=by
 have dl:=kW 59 h;have da:=fW i.natAbs;have dn:=iK i.natAbs;have al:(dg i.natAbs).all dk=true:=by rw[zH];intro c hc;have:=da c hc;unfold dk;rw[decide_eq_true this.1,decide_eq_true this.2];rfl
 have l1:1<=(dg i.natAbs).length:=List.length_pos_iff.mpr dn;have h0:(decide (dg i.natAbs=[48]) ||!decide ((dg i.natAbs).head?=some 48))=true:=by
  by_cases c:i.natAbs=0
  ·rw[c,show dg 0=[48]from gN (by decide)];rfl
  ·rw[decide_eq_false (mE _ c)];simp
 have fg:cg (dg i.natAbs)=true:=by unfold cg;rw[al,h0,decide_eq_true l1,decide_eq_true dl];rfl
 by_cases c:0<=i
 ·have e:(ah i).cps.toList=dg i.natAbs:=by rw[fw c,show i.toNat=i.natAbs by omega]
  have nh:(dg i.natAbs).head?≠some 45:=fun z=>by have:=da 45 (List.mem_of_mem_head? z);omega
  unfold ir;rw[e,if_neg nh,fg,decide_eq_false]
  ·rfl
  ·intro z;rw[z]at nh;exact nh rfl
 ·have e:=ii (i:=i) (by omega);unfold ir;rw[e,List.head?_cons,if_pos rfl,List.tail_cons,fg,decide_eq_false]
  ·rfl
  ·intro z;injection z with _ z;have:=mE i.natAbs (by omega);rw[z]at this;exact this rfl
theorem tI{i:Int}(h:0<=i):ir (48::(ah i).cps.toList)=false:=by
 unfold ir;rw[List.head?_cons,if_neg (by decide)];have:cg (48::(ah i).cps.toList)=false:=by
  have ne:¬(48::(ah i).cps.toList=[48]):=fun z=>by injection z with _ z;rw[fw h]at z;exact iK _ z
  unfold cg;rw[List.head?_cons,decide_eq_false ne,decide_eq_true (rfl:some 48=some 48)];simp
 rw[this];rfl
theorem eN{i:Int}(h:Sm i):(ah i).length<=62:=h.len
def so:Sp:=fun vs H Q _=>∃i:Int,vs=[.str (ah i)]/\Sm i/\∀H',Same H H'->Q (.int i) H'
def sV(cT:Addr):Sp:=fun vs H Q E=>∃x:Str,vs=[.str x]/\((∃i:Int,x=ah i/\Sm i/\∀H',Same H H'->Q (.int i) H')\/(∃i:Int,x="0"++ah i/\0<=i/\Sm i/\∀H',Same H H'->E (.ref cT) none H'))
abbrev cz:Stmt:=top 44
abbrev kf:List Str:=["word"]
theorem eU:FnScope kf ["word"] (ak cz):=⟨rfl,rfl,rfl,by decide +kernel,rfl,by decide +kernel,by decide +kernel⟩
theorem jC{f:Addr}{fd:FuncData}(F:Fun K "read_number" "read_number" cz f fd)(F_is_number_word:Fn P w K mg base 2 "is_number_word" ["word"] lS)(z_int:mg "int" = none):FnOk P w K mg base CX0 3 f fd ["word"] so:=by
 refine F.okQ eU (fun vs H Q E h=>?_) (fun cdv A outer s H vs Q E hr h=>?_)
 ·obtain⟨i,rfl,_⟩:=h;rfl
 obtain⟨i,rfl,hi,q⟩:=h;refine⟨_,(b_c (ax (bq (bc (aC F_is_number_word (hr.mono (by decide)) (q_a (q_v 0) ae)))) (b_1 gU) b_0)
   (b_1 (ai (bL pD z_int cA (q_a (q_v 0) ae))))),?_⟩
 refine⟨_,rfl,ah i,rfl,zq (eN hi) (by decide),fT (bY i),fun H1 s1=>⟨_,rfl,?_⟩⟩;rw[lp hi];exact ar ⟨_,rfl,ah i,i,rfl,iO hi,zq (eN hi) (by decide),q H1 s1⟩
theorem iS{f cT:Addr}{fd:FuncData}(F:Fun K "read_number" "read_number" cz f fd)(F_is_number_word:Fn P w K mg base 2 "is_number_word" ["word"] lS)(z_int:mg "int" = none)(x_NoText:ExCls K cT)(g_NoText:mg "NoText" = some (.ref cT)):FnOk P w K mg base (CXr P w) 3 f fd ["word"] (sV cT):=by
 refine F.okX eU (fun vs H Q E h=>?_) (fun cdv A outer s H vs Q E hr h=>?_)
 ·obtain⟨i,rfl,_⟩:=h;rfl
 obtain⟨x,rfl,h⟩:=h;refine⟨_,(b_c (ax (bq (bc (aC F_is_number_word (hr.mono (by decide)) (q_a (q_v 0) ae)))) (b_1 (mR (gi fG) rfl x_NoText g_NoText (q_a ag ae))) b_0)
   (b_1 (ai (bL pD z_int cA (q_a (q_v 0) ae))))),?_⟩
 rcases h with⟨i,rfl,hi,q⟩|⟨i,rfl,i0,hi,q⟩
 ·refine⟨_,rfl,ah i,rfl,zq (eN hi) (by decide),fT (bY i),fun H1 s1=>⟨_,rfl,?_⟩⟩;rw[lp hi];exact ar ⟨_,rfl,ah i,i,rfl,iO hi,zq (eN hi) (by decide),q H1 s1⟩
 ·have e:(("0":Str)++ah i).cps.toList=48::(ah i).cps.toList:=by rw[eZ];rfl
  have l0:(("0":Str)++ah i).length<=63:=by have:=eN hi;show(("0":Str)++ah i).cps.size<=63;rw[<-zB,e,zm,zB];exact Nat.succ_le_succ this
  refine⟨_,rfl,_,rfl,zq l0 (by decide),fT (fun c hc=>?_),fun H1 s1=>⟨_,rfl,?_⟩⟩
  ·rw[e]at hc;rcases zw.mp hc with rfl|hc
   ·exact .inr (by decide)
   ·exact bY i c hc
  ·rw[e,tI i0];exact aB ⟨sz rfl,q H1 s1⟩
def Sep(c:Nat):Prop:=c≠45/\(c<48\/57<c)
theorem ee(c:Nat)(ns:List Int):ba (ch1 c) ns=Str.join (ch1 c) (ns.map ah):=StrLaws.glued_eq_join _ _
theorem nY{c:Nat}{ns:List Int}(hc:Sep c)(h:ns≠[]):Txt.split (ba (ch1 c) ns) (ch1 c)=ns.map ah:=by rw[ee];refine fO (fun z=>h (List.map_eq_nil_iff.mp z)) fun p hp hm=>?_;obtain⟨i,_,rfl⟩:=List.mem_map.mp hp;have:=bY i c hm;unfold Sep at hc;omega
def oQ:Sp:=fun vs H Q _=>∃(c:Nat) (ns:List Int),vs=[.str (ba (ch1 c) ns),.str (ch1 c)]/\Sep c/\ns≠[]/\ns.length<=65/\(∀n∈ns,Sm n)/\∀(a:Addr) (H':Hp),Same H H'->H' a=some (.tup (ns.map V.int))->Q (.ref a) H'
abbrev cY:Stmt:=top 43
abbrev jk:List Str:=["word","sign"]
theorem ja:FnScope jk ["word","sign"] (ak cY):=⟨rfl,rfl,rfl,by decide +kernel,rfl,by decide +kernel,by decide +kernel⟩
theorem iT{f:Addr}{fd:FuncData}(F:Fun K "read_numbers" "read_numbers" cY f fd)(F_read_number:Fn P w K mg base 3 "read_number" ["word"] so)(z_tuple:mg "tuple" = none):FnOk P w K mg base CX0 4 f fd ["word","sign"] oQ:=by
 refine F.okQ ja (fun vs H Q E h=>?_) (fun cdv A outer s H vs Q E hr h=>?_)
 ·obtain⟨c,ns,rfl,_⟩:=h;rfl
 obtain⟨c,ns,rfl,hc,hne,hl,hs,q⟩:=h;refine⟨_,(b_1 (ai (bL iI z_tuple aU (q_a (bD (own:=["number"]) (⟨rfl,by decide +kernel,by decide +kernel,rfl,trivial⟩:CompOk _ _ [] []) rfl (pT (jF (q_v 0) (q_v 1))) (fun _ _ _ _=>aP (i:=0) (show(["number"]:List Str).Nodup by decide +kernel)) (aT (by decide)) (fun _ _ _ _=>ck) (fun _ _ _ _=>(aC F_read_number (hr.mono (by decide)) (q_a (q_v 0) ae)))) ae)))),?_⟩;have es:=nY hc hne;have ln:=bH (sep:=ch1 c) hs (ze 1) hl;refine⟨_,rfl,rfl,_,rfl,_,ch1 c,rfl,rfl,rfl,zq ln (by decide),fun D gD=>⟨D,rfl,⟨_,SqL.of af⟩,?_⟩⟩;rw[es];have wD:=aj gD (.lst ((ns.map ah).map V.str));have eD:upd H D (.lst ((ns.map ah).map V.str)) D=some (.lst ((ns.map ah).map V.str)):=af;generalize upd H D (.lst ((ns.map ah).map V.str))=H1 at wD eD ⊢;have lm:((ns.map ah).map V.str).length=ns.length:=by rw[zb,zb]
 refine pI (fun i=>.int (aF ns i)) (by rw[lm];omega) (SqL.of eD) (fun i v H2 hv s2 R k=>?_) (fun p H2 s2 g2=>?_)
 ·have hi:i<ns.length:=by have:=(zj.mp hv).1;omega
  have e:v=.str (ah (aF ns i)):=by rw[zE,zE,zd hi]at hv;rw[<-zp hv];unfold aF;rw[zd hi];rfl
  subst e;refine⟨_,rfl,aF ns i,rfl,hs _ ?_,fun H3 s3=>k H3 s3⟩;unfold aF;rw[zd hi];exact List.getElem_mem hi
 ·have em:((List.range ((ns.map ah).map V.str).length).map fun i=>V.int (aF ns i))=ns.map V.int:=by rw[lm];refine List.ext_getElem (by simp) fun i h1 h2=>?_;rw[zb]at h2;simp[aF,h2]
  rw[em];have wp:=aj g2 (.lst (ns.map V.int));refine⟨p,_,rfl,.inl ⟨SqL.of af,fun t gt=>q t _ (wD.trans (s2.trans (wp.trans (aj gt _)))) af⟩⟩
def qK:Sp:=fun vs H Q _=>∃b:Bool,vs=[.str (if b then"yes" else"no")]/\∀H',Same H H'->Q (.bl true) H'
abbrev cO:Stmt:=top 26
abbrev iG:List Str:=["word"]
theorem iC:FnScope iG ["word"] (ak cO):=⟨rfl,rfl,rfl,by decide +kernel,rfl,by decide +kernel,by decide +kernel⟩
theorem iw{f:Addr}{fd:FuncData}(F:Fun K "is_truth_word" "is_truth_word" cO f fd):FnOk P w K mg base CX0 1 f fd ["word"] qK:=by
 refine F.okQ iC (fun vs H Q E h=>?_) (fun cdv A outer s H vs Q E hr h=>?_)
 ·obtain⟨b,rfl,_⟩:=h;rfl
 obtain⟨b,rfl,q⟩:=h;refine⟨_,(b_1 (ai (aN (wR (K:=K) rfl) (q_v 0) (cy (q_a ag (q_a ag ae)))))),?_⟩;refine⟨_,rfl,sz rfl,fun u gu=>?_⟩;refine⟨u,_,rfl,.inr (SqT.of af),by cases b<;>rfl,rfl,?_⟩;have e:inV (.str (if b then"yes" else"no")) [.str "yes",.str "no"]=true:=by cases b<;>decide +kernel
 show Q (.bl (if false=true then !inV (.str (if b then"yes" else"no")) [.str "yes",.str "no"]else inV (.str (if b then"yes" else"no")) [.str "yes",.str "no"])) _;rw[e];exact q _ (aj gu _)
def wg:Sp:=fun vs H Q _=>∃b:Bool,vs=[.str (if b then"yes" else"no")]/\∀H',Same H H'->Q (.bl b) H'
abbrev dR:Stmt:=top 42
abbrev kI:List Str:=["word"]
theorem kn:FnScope kI ["word"] (ak dR):=⟨rfl,rfl,rfl,by decide +kernel,rfl,by decide +kernel,by decide +kernel⟩
theorem kj{f:Addr}{fd:FuncData}(F:Fun K "read_truth" "read_truth" dR f fd)(F_is_truth_word:Fn P w K mg base 1 "is_truth_word" ["word"] qK):FnOk P w K mg base CX0 2 f fd ["word"] wg:=by
 refine F.okQ kn (fun vs H Q E h=>?_) (fun cdv A outer s H vs Q E hr h=>?_)
 ·obtain⟨b,rfl,_⟩:=h;rfl
 obtain⟨b,rfl,q⟩:=h;refine⟨_,(b_c (ax (bq (bc (aC F_is_truth_word (hr.mono (by decide)) (q_a (q_v 0) ae)))) (b_1 gU) b_0)
   (b_1 (ai (aN aD (q_v 0) ag)))),?_⟩
 refine⟨_,rfl,b,rfl,fun H1 s1=>⟨_,rfl,ar ⟨_,rfl,by cases b<;>rfl,?_⟩⟩⟩;have e:decide (V.str (if b then"yes" else"no")=V.str "yes")=b:=by cases b<;>decide +kernel
 rw[e];exact q H1 s1
theorem wA{i j:Int}:V.str (ba "." [i,j])≠V.str "top":=fun z=>by
 injection z with z;have h:(46:Nat)∈(ba "." [i,j]).cps.toList:=by rw[show ba "." [i,j]=Str.join (ch1 46) [ah i,ah j]from ee 46 [i,j],bG];simp
 rw[z]at h;revert h;decide +kernel
theorem vc{i:Int}:V.str (ah i)≠V.str "nobody":=fun z=>by injection z with z;have h:=bY i 110;rw[z]at h;exact absurd (h (by decide +kernel)) (by decide)
def mX:Sp:=fun vs H Q _=>∃(k:Kd) (d:Pd),vs=[.str (nm k),.str (eJ k d)]/\eC k d/\∀(v:V) (H':Hp),Same H H'->PdAt H' v d->Q v H'
abbrev eI:Stmt:=top 41
abbrev ma:List Str:=["kind","word"]
theorem lL:FnScope ma ["kind","word"] (ak eI):=⟨rfl,rfl,rfl,by decide +kernel,rfl,by decide +kernel,by decide +kernel⟩
theorem lu{f:Addr}{fd:FuncData}(F:Fun K "read_part" "read_part" eI f fd)(F_read_truth:Fn P w K mg base 2 "read_truth" ["word"] wg)(F_read_numbers:Fn P w K mg base 4 "read_numbers" ["word","sign"] oQ)(F_read_number:Fn P w K mg base 3 "read_number" ["word"] so):FnOk P w K mg base CX0 5 f fd ["kind","word"] mX:=by
 refine F.okQ lL (fun vs H Q E h=>?_) (fun cdv A outer s H vs Q E hr h=>?_)
 ·obtain⟨k,d,rfl,_⟩:=h;rfl
 obtain⟨k,d,rfl,fi,q⟩:=h;refine⟨_,(b_c (ax (aq aD (q_v 0) ag) (b_1 (ai (q_v 1))) b_0)
   (b_c (ax (aq aD (q_v 0) ag) (b_1 (ai (aC F_read_truth (hr.mono (by decide)) (q_a (q_v 1) ae)))) b_0)
   (b_c (ax (aq aD (q_v 0) ag) (b_1 (ai (aC F_read_numbers (hr.mono (by decide)) (q_a (q_v 1) (q_a ag ae))))) b_0)
   (b_c (ax (aq aD (q_v 0) ag) (b_1 (ai (aC F_read_numbers (hr.mono (by decide)) (q_a (q_v 1) (q_a ag ae))))) b_0)
   (b_c (ax (aq aD (q_v 0) ag) (b_1 (ai (oB (aq aD (q_v 1) ag) bR (aC F_read_numbers (hr.mono (by decide)) (q_a (q_v 1) (q_a ag ae)))))) b_0)
   (b_c (ax (t_w (oX (aq aD (q_v 0) ag) (lX (aq aD (q_v 1) ag)))) (b_1 (ai bR)) b_0)
   (b_1 (ai (aC F_read_number (hr.mono (by decide)) (q_a (q_v 1) ae)))))))))),?_⟩
 cases k with
 |t =>
  cases d with
  |tx s=>exact⟨_,rfl,rfl,_,rfl,aL ⟨_,rfl,q _ _ (Same.refl _) rfl⟩⟩
  |_=>exact fi.elim
 |b =>
  cases d with
  |bl b =>refine⟨_,rfl,rfl,_,rfl,aa (by decide +kernel) ?_⟩;exact⟨_,rfl,rfl,_,rfl,aL ⟨_,rfl,b,rfl,fun H1 s1=>q _ _ s1 rfl⟩⟩
  |_=>exact fi.elim
 |p =>
  cases d with
  |pl ns =>refine⟨_,rfl,rfl,_,rfl,aa (by decide +kernel) ?_⟩;refine⟨_,rfl,rfl,_,rfl,aa (by decide +kernel) ?_⟩;exact⟨_,rfl,rfl,_,rfl,aL ⟨_,rfl,47,ns,rfl,by unfold Sep;decide,fun z=>by rw[z]at fi;exact absurd fi.1 (by decide),fi.2.1,fi.2.2,fun a H1 s1 e1=>q _ _ s1 ⟨a,rfl,e1⟩⟩⟩
  |_=>exact fi.elim
 |i =>
  cases d with
  |nm i j =>refine⟨_,rfl,rfl,_,rfl,aa (by decide +kernel) ?_⟩;refine⟨_,rfl,rfl,_,rfl,aa (by decide +kernel) ?_⟩;refine⟨_,rfl,rfl,_,rfl,aa (by decide +kernel) ?_⟩;exact⟨_,rfl,rfl,_,rfl,aL ⟨_,rfl,46,[i,j],rfl,by unfold Sep;decide,by simp,by simp,fe fi.2.2,fun a H1 s1 e1=>q _ _ s1 ⟨a,rfl,e1⟩⟩⟩
  |_=>exact fi.elim
 |u =>
  refine⟨_,rfl,rfl,_,rfl,aa (by decide +kernel) ?_⟩;refine⟨_,rfl,rfl,_,rfl,aa (by decide +kernel) ?_⟩;refine⟨_,rfl,rfl,_,rfl,aa (by decide +kernel) ?_⟩;refine⟨_,rfl,rfl,_,rfl,aa (by decide +kernel) ?_⟩;refine⟨_,rfl,rfl,_,rfl,aL ?_⟩;cases d with
  |non=>exact⟨_,rfl,rfl,_,rfl,aL (q _ _ (Same.refl _) rfl)⟩
  |nm i j =>refine⟨_,rfl,rfl,_,rfl,aa wA ?_⟩;exact⟨_,rfl,46,[i,j],rfl,by unfold Sep;decide,by simp,by simp,fe fi.2.2,fun a H1 s1 e1=>q _ _ s1 ⟨a,rfl,e1⟩⟩
  |_=>exact fi.elim
 |w =>
  refine⟨_,rfl,rfl,_,rfl,aa (by decide +kernel) ?_⟩;refine⟨_,rfl,rfl,_,rfl,aa (by decide +kernel) ?_⟩;refine⟨_,rfl,rfl,_,rfl,aa (by decide +kernel) ?_⟩;refine⟨_,rfl,rfl,_,rfl,aa (by decide +kernel) ?_⟩;refine⟨_,rfl,rfl,_,rfl,aa (by decide +kernel) ?_⟩;refine⟨_,rfl,rfl,_,rfl,aL ?_⟩;cases d with
  |non=>exact⟨_,rfl,rfl,_,rfl,aL (q _ _ (Same.refl _) rfl)⟩
  |nu i =>refine⟨_,rfl,rfl,_,rfl,aa vc ?_⟩;exact⟨_,rfl,i,rfl,fi.2,fun H1 s1=>q _ _ s1 rfl⟩
  |_=>exact fi.elim
 |a =>
  cases d with
  |nu i =>refine⟨_,rfl,rfl,_,rfl,aa (by decide +kernel) ?_⟩;refine⟨_,rfl,rfl,_,rfl,aa (by decide +kernel) ?_⟩;refine⟨_,rfl,rfl,_,rfl,aa (by decide +kernel) ?_⟩;refine⟨_,rfl,rfl,_,rfl,aa (by decide +kernel) ?_⟩;refine⟨_,rfl,rfl,_,rfl,aa (by decide +kernel) ?_⟩;refine⟨_,rfl,rfl,_,rfl,aa (by decide +kernel) (ar ?_)⟩;exact⟨_,rfl,i,rfl,fi.2,fun H1 s1=>q _ _ s1 rfl⟩
  |_=>exact fi.elim
 |n =>
  cases d with
  |nu i =>refine⟨_,rfl,rfl,_,rfl,aa (by decide +kernel) ?_⟩;refine⟨_,rfl,rfl,_,rfl,aa (by decide +kernel) ?_⟩;refine⟨_,rfl,rfl,_,rfl,aa (by decide +kernel) ?_⟩;refine⟨_,rfl,rfl,_,rfl,aa (by decide +kernel) ?_⟩;refine⟨_,rfl,rfl,_,rfl,aa (by decide +kernel) ?_⟩;refine⟨_,rfl,rfl,_,rfl,aa (by decide +kernel) (ar ?_)⟩;exact⟨_,rfl,i,rfl,fi.2,fun H1 s1=>q _ _ s1 rfl⟩
  |_=>exact fi.elim
def HCW:List Str:=["hand","clock","word"]
theorem blk:(" ":Str)=ch1 32:=by decide +kernel
def NoB(x:Str):Prop:=(32:Nat)∉x.cps.toList
def xz(ws:List Str):Prop:=∀(i:Nat) (x:Str),ws[i]?=some x->i+1<ws.length->NoB x
def lT:Sp:=fun vs H Q _=>∃(kt:Addr) (ws ks:List Str),vs=[.str (Txt.join " " ws),.ref kt]/\H kt=some (.tup (ks.map V.str))/\ws.length=ks.length/\1<=ks.length/\ks.length<=10/\(Txt.join " " ws).length<=100000/\xz ws/\(ks.getLast?≠some "text"->∀x,ws.getLast?=some x->NoB x)/\∀D,H D=none->Q (.ref D) (upd H D (.lst (ws.map V.str)))
theorem tz{xs:List V}{v:V}(h:xs.getLast?=some v):atI xs (-1)=some v:=by obtain⟨ys,rfl⟩:=List.getLast?_eq_some_iff.mp h;exact qZ ys v
abbrev iA:Stmt:=top 27
abbrev qU:List Str:=["text","kinds"]
theorem qB:FnScope qU ["text","kinds"] (ak iA):=⟨rfl,rfl,rfl,by decide +kernel,rfl,by decide +kernel,by decide +kernel⟩
theorem qm{f:Addr}{fd:FuncData}(F:Fun K "parted" "parted" iA f fd)(z_len:mg "len" = none):FnOk P w K mg base CX0 1 f fd ["text","kinds"] lT:=by
 refine F.okQ qB (fun vs H Q E h=>?_) (fun cdv A outer s H vs Q E hr h=>?_)
 ·obtain⟨kt,ws,ks,rfl,_⟩:=h;rfl
 obtain⟨kt,ws,ks,rfl,hk,hl,k1,k10,hz,wok,hlast,q⟩:=h;refine⟨_,(b_c (ax (aq aD (aE aJ (q_v 1) (xG xw ad)) ag) (b_1 (ai (rW (q_v 0) ag (am sM (q_B bf z_len zt (q_a (q_v 1) ae)) ad)))) b_0)
   (b_1 (ai (jF (q_v 0) ag)))),?_⟩
 obtain⟨y,hy⟩:∃y,ks.getLast?=some y:=by
  cases e:ks.getLast? with
  |none=>rw[List.getLast?_eq_none_iff]at e;rw[e]at k1;exact absurd k1 (by decide)
  |some y=>exact⟨y,rfl⟩
 have hy':(ks.map V.str).getLast?=some (.str y):=by rw[List.getLast?_map,hy];rfl
 have ej:Txt.join " " ws=Str.join (ch1 32) ws:=by rw[blk];exact StrLaws.glued_eq_join _ _
 refine⟨_,rfl,_,rfl,kt,_,_,_,rfl,rfl,SqT.of hk,tz hy',rfl,_,rfl,bO (fun c=>?_) (fun c=>?_)⟩
 ·refine⟨_,rfl,rfl,_,rfl,kt,_,rfl,.inr (SqT.of hk),_,_,rfl,rfl,_," ",((ks.map V.str).length:Int)-1,rfl,rfl,by decide +kernel,hz,by rw[zb];omega,by rw[zb];omega,fun D gD=>?_⟩;obtain⟨pre,t,e⟩:∃pre t,ws=pre++[t]:=⟨ws.dropLast,ws.getLast (fun z=>by rw[z]at hl;simp at hl;omega),(List.dropLast_concat_getLast _).symm⟩
  have ep:((ks.map V.str).length:Int)-1=(pre.length:Int):=by rw[zb,<-hl,e,zr,Zw];omega
  have es:Txt.splitMax (Txt.join " " ws) " " (((ks.map V.str).length:Int)-1)=ws:=by
   rw[ej,ep,blk,e];refine kr fun p hp=>?_;obtain⟨i,hi,rfl⟩:=Zu hp;refine wok i _ ?_ ?_
   ·rw[e,z0 hi,zd hi]
   ·rw[e,zr,Zw];omega
  rw[es];exact q D gD
 ·refine⟨_,rfl,rfl,_," ",rfl,rfl,by decide +kernel,hz,fun D gD=>?_⟩;have es:Txt.split (Txt.join " " ws) " " = ws:=by
   rw[ej,blk];refine fO (fun z=>by rw[z]at hl;simp at hl;omega) fun p hp=>?_;obtain⟨i,hi,rfl⟩:=Zu hp;by_cases ci:i+1<ws.length
   ·exact wok i _ (zd hi) ci
   ·refine hlast (fun z=>c ?_) _ ?_
    ·rw[hy]at z;rw[zp z]
    ·rw[List.getLast?_eq_getElem?,show ws.length-1=i by omega,zd hi]
  rw[es];exact q D gD
structure LineOk(w0 w1 wd:Str)(ks:List Kd)(xs:List Str):Prop where
 b0:NoB w0
 b1:NoB w1
 b2:NoB wd
 dat:PyProof.Rows.KTD.datumAt wd DT=some (tw (ks.map nm))
 len:xs.length=ks.length
 l3:ks.length<=3
 bl:∀(i:Nat) (k:Kd) (x:Str),ks[i]?=some k->xs[i]?=some x->k≠.t->NoB x
 tl:∀i:Nat,ks[i]?=some .t->i+1=ks.length
 sz:(Txt.join " " (w0::w1::wd::xs)).length<=100000
def nj:Sp:=fun vs H Q _=>∃(w0 w1 wd:Str) (ks:List Kd) (xs:List Str),vs=[.str (Txt.join " " (w0::w1::wd::xs))]/\LineOk w0 w1 wd ks xs/\∀(D:Addr) (H':Hp),Same H H'->H' D=some (.lst ((w0::w1::wd::xs).map V.str))->Q (.ref D) H'
abbrev fM:Stmt:=top 40
abbrev nG:List Str:=["text","words","kinds"]
theorem df:FnScope nG ["text"] (ak fM):=⟨rfl,rfl,rfl,by decide +kernel,rfl,by decide +kernel,by decide +kernel⟩
theorem mj{f:Addr}{fd:FuncData}(F:Fun K "words_in" "words_in" fM f fd)(F_is_deed_word:Fn P w K mg base 1 "is_deed_word" ["thing"] (iD K))(F_deed_parts:Fn P w K mg base 1 "deed_parts" ["word"] (eV K))(F_parted:Fn P w K mg base 1 "parted" ["text","kinds"] lT)(z_len:mg "len" = none):FnOk P w K mg base CX0 2 f fd ["text"] nj:=by
 refine F.okQ df (fun vs H Q E h=>?_) (fun cdv A outer s H vs Q E hr h=>?_)
 ·obtain⟨w0,w1,wd,ks,xs,rfl,_⟩:=h;rfl
 obtain⟨w0,w1,wd,ks,xs,rfl,L,q⟩:=h;refine⟨_,(b_c (aG (i:=1) df.nd (jF (q_v 0) ag))
   (b_c (ax (t_w (bK (aq fB (q_B bf z_len zt (q_a (q_v 1) ae)) ad) (bE (bq (bc (aC F_is_deed_word (hr.mono (by decide)) (q_a (aE bF (q_v 1) ad) ae))))))) (b_1 gU) b_0)
   (b_c (aG (i:=2) df.nd (am vd (cy (q_a ag (q_a ag (q_a ag ae)))) (aC F_deed_parts (hr.mono (by decide)) (q_a (aE bF (q_v 1) ad) ae))))
   (b_c (aG (i:=1) df.nd (aC F_parted (hr.mono (by decide)) (q_a (q_v 0) (q_a (q_v 2) ae))))
   (b_c (ax (aq eG (q_B bf z_len zt (q_a (q_v 1) ae)) (q_B bf z_len zt (q_a (q_v 2) ae))) (b_1 gU) b_0)
   (b_1 (ai (q_v 1)))))))),?_⟩
 have ej:Txt.join " " (w0::w1::wd::xs)=Str.join (ch1 32) (w0::w1::wd::xs):=by rw[blk];exact StrLaws.glued_eq_join _ _
 obtain⟨r,er⟩:∃r,Txt.split (Txt.join " " (w0::w1::wd::xs)) " " = w0::w1::wd::r:=by
  rw[ej,blk,dC L.b0 (by simp),dC L.b1 (by simp)];cases xs with
  |nil=>exact⟨[],by rw[fO (by simp) (fun p hp=>by rw[zC.mp hp];exact L.b2)]⟩
  |cons x xs=>exact⟨_,by rw[dC L.b2 (by simp)]⟩
 refine cc fun R0 hR0=>?_;refine⟨_,rfl,rfl,_," ",rfl,rfl,by decide +kernel,L.sz,fun D gD=>?_⟩;rw[er];have wD:=aj gD (.lst ((w0::w1::wd::r).map V.str));have eD:upd H D (.lst ((w0::w1::wd::r).map V.str)) D=some (.lst ((w0::w1::wd::r).map V.str)):=af;generalize upd H D (.lst ((w0::w1::wd::r).map V.str))=H1 at wD eD ⊢;refine hR0 _ _ ?_;clear hR0 R0;have ix:atI ((w0::w1::wd::r).map V.str) 2=some (.str wd):=at2;refine cc fun R0 hR0=>?_;refine⟨_,rfl,D,_,rfl,.inl (SqL.of eD),_,_,rfl,rfl,_,rfl,wP (by simp only[zb,zm];omega) ?_⟩;refine⟨_,rfl,D,_,_,_,rfl,rfl,SqL.of eD,ix,.str wd,"str",rfl,.str _,(fun z=>by cases z),fun k ek=>⟨_,rfl,?_⟩⟩;cases ek;rw[L.dat];refine ar (hR0 _ _ ?_);clear hR0 R0;refine cc fun R0 hR0=>?_;refine⟨sz rfl,fun u gu=>?_⟩;have wu:=aj gu (.tup [.str "hand",.str "clock",.str "word"]);have eu:upd H1 u (.tup [.str "hand",.str "clock",.str "word"]) u=some (.tup [.str "hand",.str "clock",.str "word"]):=af;generalize upd H1 u (.tup [.str "hand",.str "clock",.str "word"])=H2 at wu eu ⊢;refine⟨_,rfl,D,_,_,_,rfl,rfl,SqL.of (wu _ _ eD),ix,wd,ks.map nm,rfl,L.dat,fun t ht=>?_⟩;have lk:=L.l3;have h3:HCW.length=3:=rfl;have go:∀(kt:Addr) (H3:Hp),Same H2 H3->H3 kt=some (.tup ((HCW++ks.map nm).map V.str))->R0.nx [some (.str (Txt.join " " (w0::w1::wd::xs))),some (.ref D),some (.ref kt)] H3:=fun kt H3 s3 ek=>by
  refine hR0 _ _ ?_;have lw:(w0::w1::wd::xs).length=(HCW++ks.map nm).length:=by rw[zr,zb,zm,zm,zm,L.len,h3];omega
  have l10:(HCW++ks.map nm).length<=10:=by rw[zr,zb,h3];omega
  refine cc fun R1 hR1=>?_;refine⟨_,rfl,_,rfl,kt,w0::w1::wd::xs,HCW++ks.map nm,rfl,ek,lw,by rw[zr,h3];omega,l10,L.sz,?_,?_,fun E2 gE=>?_⟩
  ·intro i x hx hi
   match i,hx with
   |0,hx=>cases hx;exact L.b0
   |1,hx=>cases hx;exact L.b1
   |2,hx=>cases hx;exact L.b2
   |i+3,hx =>
    have hx':xs[i]?=some x:=hx;have hi':i<ks.length:=by rw[<-L.len];exact(zj.mp hx').1
    refine L.bl i ks[i] x (zd hi') hx' fun z=>?_;have:=L.tl i (by rw[zd hi',z]);have hl:=L.len;simp only[zm]at hi;omega
  ·intro hn x hx;cases e:ks.length with
   |zero =>have:xs=[]:=List.length_eq_zero_iff.mp (by rw[L.len,e]);subst this;cases hx;exact L.b2
   |succ m =>
    have hm:m<ks.length:=by omega
    have hxm:xs[m]?=some x:=by
     have hl:=L.len;rw[List.getLast?_eq_getElem?]at hx;have:(w0::w1::wd::xs).length-1=m+3:=by simp only[zm];omega
     rw[this]at hx;exact hx
    refine L.bl m ks[m] x (zd hm) hxm fun z=>hn ?_;rw[List.getLast?_append,List.getLast?_map,List.getLast?_eq_getElem?,show ks.length-1=m by omega,zd hm,z];rfl
  have wE:=aj gE (.lst ((w0::w1::wd::xs).map V.str));refine hR1 _ _ ?_;refine⟨_,rfl,E2,_,rfl,.inl (SqL.of af),_,rfl,kt,_,rfl,.inr (SqT.of (wE _ _ ek)),rfl,_,rfl,gQ ?_ ⟨_,rfl,q E2 _ (wD.trans (wu.trans (s3.trans wE))) af⟩⟩;rw[zb,zb,lw]
 refine⟨u,t,_,_,rfl,rfl,SqT.of eu,ht _,by simp,bz (by rw[zb,zb];simp;omega),fun e0=>?_,fun _ p gp=>?_⟩
 ·have:ks=[]:=List.map_eq_nil_iff.mp (List.map_eq_nil_iff.mp e0);subst this;exact go u H2 (Same.refl _) eu
 ·exact go p _ (aj gp _) (by rw[af,Zj];rfl)
def okD(hd:Int)(ns:List Int):Kd->Pd->Bool
 |_,.non=>true
 |_,.nm i j=>dL hd ns i j
 |_,.pl ms=>decide (ms.length<=64)
 |_,.tx s=>decide (s.length<=60)
 |_,.bl _=>true
 |.w,.nu i=>decide (i<(ns.length:Int))
 |.a,.nu _=>true
 |_,.nu i=>decide (1<=i)&&decide (i<aF ns hd.toNat)
theorem qY{x:Str}(h:bJ x=true):x.cps.all (·<128)=true:=by unfold bJ at h;rw[zH]at h;rw[Array.all_eq_true];intro i hi;have:=h x.cps[i] (by simp);unfold cQ at this;simp only[zA,decide_eq_true_eq]at this;exact decide_eq_true (by omega)
theorem PdAt.okR{H:Hp}{hd:Int}{ns:List Int}{k:Kd}{v:V}{d:Pd}(x:PdAt H v d)(f:eC k d):PartR K H hd ns k v (okD hd ns k d):=by
 cases k<;>cases d<;>first|exact f.elim|skip
 case u.non=>rw[show v=.non from x];exact .u0
 case u.nm i j=>obtain⟨a,rfl,e⟩:=x;exact .up (fun z=>nomatch z) (.is e)
 case i.nm i j=>obtain⟨a,rfl,e⟩:=x;exact .it (.is e)
 case p.pl ms =>
  obtain⟨a,rfl,e⟩:=x;refine .pl (fA e (by have:=f.2.1;omega)) ?_;rw[aQ e];show(decide (1<=(ms.map V.int).length)&&decide ((ms.map V.int).length<=64)&&(ms.map V.int).all bZ)=decide (ms.length<=64);have:(ms.map V.int).all bZ=true:=by rw[zH];intro x hx;obtain⟨n,_,rfl⟩:=List.mem_map.mp hx;rfl
  rw[zb,decide_eq_true f.1,this,zM,Bool.and_true]
 case t.tx s =>rw[show v=_ from x];refine .tx (zq f.2 (by decide)) (qY f.1) ?_;rw[f.1,zM];rfl
 case b.bl b=>rw[show v=_ from x];exact .bl (.bl b) rfl
 case w.non=>rw[show v=_ from x];exact .w0
 case w.nu i =>rw[show v=_ from x];refine .wh (fun z=>nomatch z) (.int i) ?_;show(decide (0<=i)&&decide (i<(ns.length:Int)))=_;rw[decide_eq_true f.1];rfl
 case a.nu i=>rw[show v=_ from x];exact .at (.int i) (decide_eq_true f.1)
 case n.nu i=>rw[show v=_ from x];exact .nu (.int i) rfl
structure Dt14 where
 h:Int
 ns:List Int
 wd:Str
 ks:List Kd
 ds:List Pd
def Dt14.bs(D:Dt14):List Bool:=List.zipWith (okD D.h D.ns) D.ks D.ds
def Dt14.xs(D:Dt14):List Str:=List.zipWith eJ D.ks D.ds
def cw(hands:Int)(D:Dt14):Bool:=(decide (D.h<hands)&&decide (1<=aF D.ns D.h.toNat))&&D.bs.all id
structure Dt14.Fit(D:Dt14)(hands:Int):Prop where
 h0:0<=D.h
 hs:Sm D.h
 n8:hands<=8
 n1:1<=hands
 nl:(D.ns.length:Int)=hands
 nn:∀n∈D.ns,0<=n/\Sm n
 dat:PyProof.Rows.KTD.datumAt D.wd DT=some (tw (D.ks.map nm))
 wl:D.wd.length<=10
 b2:NoB D.wd
 l3:D.ks.length<=3
 len:D.ds.length=D.ks.length
 tl:∀i:Nat,D.ks[i]?=some .t->i+1=D.ks.length
 fit:∀(i:Nat) (k:Kd) (d:Pd),D.ks[i]?=some k->D.ds[i]?=some d->eC k d
def DeedAt(H:Hp)(v:V)(D:Dt14):Prop:=∃(d c t:Addr) (ps:List V),v=.ref d/\H d=some (.tup [.int D.h,.ref c,.ref t])/\H c=some (.tup (D.ns.map V.int))/\H t=some (.tup (.str D.wd::ps))/\ps.length=D.ds.length/\∀(i:Nat) (p:V) (x:Pd),ps[i]?=some p->D.ds[i]?=some x->PdAt H p x
theorem DeedAt.same{H H':Hp}{v:V}{D:Dt14}(x:DeedAt H v D)(s:Same H H'):DeedAt H' v D:=by obtain⟨d,c,t,ps,h1,h2,h3,h4,h5,h6⟩:=x;exact⟨d,c,t,ps,h1,s _ _ h2,s _ _ h3,s _ _ h4,h5,fun i p x a b=>(h6 i p x a b).same s⟩
theorem DeedAt.deedR{H:Hp}{v:V}{D:Dt14}{hands:Int}(x:DeedAt H v D)(F:D.Fit hands):DeedR K H hands v (cw hands D):=by
 obtain⟨d,c,t,ps,rfl,h2,h3,h4,h5,h6⟩:=x;unfold cw;by_cases c1:D.h<hands
 ·rw[decide_eq_true c1,zM];by_cases c2:1<=aF D.ns D.h.toNat
  ·rw[decide_eq_true c2,zM];refine .is h2 F.h0 c1 h3 F.nl (fun n hn=>(F.nn n hn).1) F.n8 c2 (.is h4 F.dat F.l3 (bs:=D.bs) ⟨by rw[h5,F.len],?_,fun i k p b e1 e2 e3=>?_⟩ rfl)
   ·unfold Dt14.bs;rw[List.length_zipWith,F.len,h5,F.len,Nat.min_self]
   ·have hi:i<D.ds.length:=by rw[<-h5];exact(zj.mp e2).1
    have e4:=zd hi;have eb:b=okD D.h D.ns k D.ds[i]:=by unfold Dt14.bs at e3;rw[List.getElem?_zipWith,e1,e4]at e3;exact(zp e3).symm
    rw[eb];exact(h6 i p _ e2 e4).okR (F.fit i k _ e1 e4)
  ·rw[decide_eq_false c2,zP];exact .zero h2 F.h0 c1 h3 F.nl (fun n hn=>(F.nn n hn).1) F.n8 (by omega)
 ·rw[decide_eq_false c1,zP,zP];refine .hand h2 (.int _) ?_;show(decide (0<=D.h)&&decide (D.h<hands))=false;rw[decide_eq_false c1,Bool.and_false]
def bQ(w0:Str)(D:Dt14):Str:=Txt.join " " (w0::ba "," D.ns::D.wd::D.xs)
theorem cI(i:Int):NoB (ah i):=fun h=>by have:=bY i 32 h;omega
theorem dN(c:Nat)(hc:c≠32):∀ns:List Int,ns≠[]->NoB (ba (ch1 c) ns)
 | [],h=>absurd rfl h
 | [i],_=>cI i
 |i::j::ns,_=>fun h=>by
  rw[ee,zS,zS,bG]at h;rcases Zh.mp h with h|h
  ·exact cI i h
  ·rcases zw.mp h with h|h
   ·exact hc h.symm
   ·refine dN c hc (j::ns) (by simp) ?_;rw[ee];exact h
theorem jh{D:Dt14}{i:Nat}{k:Kd}{x:Str}(hk:D.ks[i]?=some k)(hx:D.xs[i]?=some x):∃d,D.ds[i]?=some d/\x=eJ k d:=by
 unfold Dt14.xs at hx;rw[List.getElem?_zipWith,hk]at hx;cases e:D.ds[i]? with
 |none=>rw[e]at hx;cases hx
 |some d =>rw[e]at hx;exact⟨d,rfl,(zp hx).symm⟩
theorem ji{D:Dt14}{hands:Int}(F:D.Fit hands):D.xs.length=D.ks.length:=by unfold Dt14.xs;rw[List.length_zipWith,F.len,Nat.min_self]
theorem ut{k:Kd}{d:Pd}(f:eC k d)(h:k≠.t):NoB (eJ k d):=by
 cases k<;>cases d<;>first|exact f.elim|exact absurd rfl h|skip
 case u.non=>unfold NoB;decide +kernel
 case u.nm i j=>exact dN 46 (by decide) [i,j] (by simp)
 case i.nm i j=>exact dN 46 (by decide) [i,j] (by simp)
 case p.pl ns=>exact dN 47 (by decide) ns fun z=>by rw[z]at f;exact absurd f.1 (by decide)
 case b.bl b=>cases b<;>(unfold NoB;decide +kernel)
 case w.non=>unfold NoB;decide +kernel
 case w.nu i=>exact cI i
 case a.nu i=>exact cI i
 case n.nu i=>exact cI i
theorem ny{k:Kd}{d:Pd}(f:eC k d):(eJ k d).length<=5000:=by
 cases k<;>cases d<;>first|exact f.elim|skip
 case u.non=>decide +kernel
 case u.nm i j=>exact bH (fe f.2.2) (by decide +kernel) (by simp)
 case i.nm i j=>exact bH (fe f.2.2) (by decide +kernel) (by simp)
 case p.pl ns=>exact bH f.2.2 (by decide +kernel) f.2.1
 case t.tx s=>exact zq f.2 (by decide)
 case b.bl b=>cases b<;>decide +kernel
 case w.non=>decide +kernel
 case w.nu i=>exact zq f.2.len (by decide)
 case a.nu i=>exact zq f.2.len (by decide)
 case n.nu i=>exact zq f.2.len (by decide)
theorem mJ{D:Dt14}{hands:Int}{w0:Str}(F:D.Fit hands)(b0:NoB w0)(l0:w0.length<=100):LineOk w0 (ba "," D.ns) D.wd D.ks D.xs:=by
 have hl:=ji F;have l3:=F.l3;have nl:=F.nl;have n1:=F.n1;have n8:=F.n8;have nne:D.ns≠[]:=fun z=>by rw[z]at nl;simp at nl;omega
 refine⟨b0,dN 44 (by decide) D.ns nne,F.b2,F.dat,hl,l3,fun i k x hk hx ht=>?_,F.tl,?_⟩
 ·obtain⟨d,hd,rfl⟩:=jh hk hx;exact ut (F.fit i k d hk hd) ht
 ·have jl:=le " " (w0::ba "," D.ns::D.wd::D.xs);have n5:(ba "," D.ns).length<=5000:=bH (fun n hn=>(F.nn n hn).2) (by decide +kernel) (by omega);have wl:=F.wl;have e1:(" ":Str).length=1:=by decide +kernel
  have sx:(D.xs.map (·.length)).sum<=D.xs.length*5000:=by
   have:∀l:List Str,(∀x∈l,x.length<=5000)->(l.map (·.length)).sum<=l.length*5000:=fun l=>by
    induction l with
    |nil=>intro _;simp
    |cons a l ih =>intro h;have:=ih fun x hx=>h x (zG _ hx);have:=h a zU;simp only[zS,List.sum_cons,zm];omega
   refine this _ fun x hx=>?_;obtain⟨i,hi,rfl⟩:=Zu hx;have hk:i<D.ks.length:=by omega
   obtain⟨d,hd,e⟩:=jh (zd hk) (zd hi);rw[e];exact ny (F.fit i _ d (zd hk) hd)
  simp only[zS,List.sum_cons,zm,e1]at jl;omega
def qH(cT:Addr):Sp:=fun vs H Q E=>∃(D:Dt14) (hands:Int) (w0:Str),vs=[.str (bQ w0 D),.int hands]/\D.Fit hands /\
 ((w0=ah D.h/\(cw hands D=true->∀ (v:V) (H':Hp),Same H H'->DeedAt H' v D->Q v H')/\(cw hands D=false->∀ H',Same H H'->E (.ref cT) none H')) \/
  (w0 = "0"++ah D.h/\∀ H',Same H H'->E (.ref cT) none H'))
abbrev lH:Stmt:=top 39
abbrev uD:List Str:=["text","hands","words","hand","clock","parts","deed"]
theorem dG:FnScope uD ["text","hands"] (ak lH):=⟨rfl,rfl,rfl,by decide +kernel,rfl,by decide +kernel,by decide +kernel⟩
theorem rJ{f cT:Addr}{fd:FuncData}(F:Fun K "read" "read" lH f fd)(F_words_in:Fn P w K mg base 2 "words_in" ["text"] nj)(FX_read_number:FnX P w K mg base 3 "read_number" ["word"] (sV cT))(F_read_numbers:Fn P w K mg base 4 "read_numbers" ["word","sign"] oQ)(F_deed_parts:Fn P w K mg base 1 "deed_parts" ["word"] (eV K))(F_read_part:Fn P w K mg base 5 "read_part" ["kind","word"] mX)(F_is_deed:Fn P w K mg base 7 "is_deed" ["thing","hands"] (qE K))(z_zip:mg "zip" = none)(z_tuple:mg "tuple" = none)(x_NoText:ExCls K cT)(g_NoText:mg "NoText" = some (.ref cT)):FnOk P w K mg base (CXr P w) 8 f fd ["text","hands"] (qH cT):=by
 refine F.okX dG (fun vs H Q E h=>?_) (fun cdv A outer s H vs Q E hr h=>?_)
 ·obtain⟨D,hands,w0,rfl,_⟩:=h;rfl
 obtain⟨D,hands,w0,rfl,Fi,h⟩:=h;refine⟨_,(b_c (aG (i:=2) dG.nd (aC F_words_in (hr.mono (by decide)) (q_a (q_v 0) ae)))
   (b_c (aG (i:=3) dG.nd (xp FX_read_number (xc fG) (hr.mono (by decide)) (q_a (aE bF (q_v 2) ad) ae)))
   (b_c (aG (i:=4) dG.nd (aC F_read_numbers (hr.mono (by decide)) (q_a (aE bF (q_v 2) ad) (q_a ag ae))))
   (b_c (qA (j:=5) dG.nd (own:=["kind","word"]) (⟨rfl,by decide +kernel,by decide +kernel,rfl,trivial⟩:CompOk _ _ [] []) rfl (uS z_zip (q_a (aC F_deed_parts (hr.mono (by decide)) (q_a (aE bF (q_v 2) ad) ae)) (q_a (lC pX (q_v 2) (lB ad) lA) ae))) (fun _ _ _ _=>pQ (K:=K) (n:=2) rfl rfl (fX (aP (i:=0) (show (["kind","word"]:List Str).Nodup by decide +kernel)) (fX (aP (i:=1) (show (["kind","word"]:List Str).Nodup by decide +kernel)) nR))) (pR (ft (aT (by decide)) dD (ft (aT (by decide)) dD mG gP) (kY dD gP))) (fun _ _ _ _=>ck) (fun _ _ _ _=>(aC F_read_part (hr.mono (by decide)) (q_a (q_v 0) (q_a (q_v 1) ae)))))
   (b_c (aG (i:=6) dG.nd (cy (q_a (q_v 3) (q_a (q_v 4) (q_a (am qi (cy (q_a (aE bF (q_v 2) ad) ae)) (bL iI z_tuple aU (q_a (q_v 5) ae))) ae)))))
   (b_c (ax (bq (bc (aC F_is_deed (hr.mono (by decide)) (q_a (q_v 6) (q_a (q_v 1) ae))))) (b_1 (mR (gi fG) rfl x_NoText g_NoText (q_a ag ae))) b_0)
   (b_1 (ai (q_v 6))))))))),?_⟩
 have bl0:NoB w0/\w0.length<=100:=by
  rcases h with⟨rfl,_⟩|⟨rfl,_⟩
  ·exact⟨cI _,zq Fi.hs.len (by decide)⟩
  ·have e:(("0":Str)++ah D.h).cps.toList=48::(ah D.h).cps.toList:=by rw[eZ];rfl
   refine⟨fun hm=>?_,?_⟩
   ·rw[e]at hm;rcases zw.mp hm with hm|hm
    ·exact absurd hm (by decide)
    ·exact cI _ hm
   ·show(("0":Str)++ah D.h).cps.size<=100;rw[<-zB,e,zm,zB];have:=Fi.hs.len;exact zq (Nat.succ_le_succ this) (by decide)
 have L:=mJ Fi bl0.1 bl0.2;have nl:=Fi.nl;have n1:=Fi.n1;have n8:=Fi.n8;have l3:=Fi.l3;have xl:=ji Fi;have nne:D.ns≠[]:=fun z=>by rw[z]at nl;simp at nl;omega
 refine cc fun R0 hR0=>?_;refine⟨_,rfl,w0,ba "," D.ns,D.wd,D.ks,D.xs,rfl,L,fun W H1 s1 eW=>hR0 _ _ ?_⟩;clear hR0 R0;have a0:atI ((w0::ba "," D.ns::D.wd::D.xs).map V.str) 0=some (.str w0):=at0;have a1:atI ((w0::ba "," D.ns::D.wd::D.xs).map V.str) 1=some (.str (ba "," D.ns)):=at1;have a2:atI ((w0::ba "," D.ns::D.wd::D.xs).map V.str) 2=some (.str D.wd):=at2;refine cc fun R0 hR0=>?_;refine⟨_,rfl,W,_,_,_,rfl,rfl,SqL.of eW,a0,w0,rfl,?_⟩;rcases h with⟨rfl,qt,qf⟩|⟨rfl,qf⟩
 rotate_left
 ·exact .inr ⟨D.h,rfl,Fi.h0,Fi.hs,fun H2 s2=>qf H2 (s1.trans s2)⟩
 refine .inl ⟨D.h,rfl,Fi.hs,fun H2 s2=>hR0 _ _ ?_⟩;clear hR0 R0;have eW2:=s2 _ _ eW;refine cc fun R0 hR0=>?_;refine⟨_,rfl,W,_,_,_,rfl,rfl,SqL.of eW2,a1,44,D.ns,rfl,by unfold Sep;decide,nne,by omega,fun n hn=>(Fi.nn n hn).2,fun c H3 s3 ec=>hR0 _ _ ?_⟩;clear hR0 R0;have eW3:=s3 _ _ eW2;have S3:=s1.trans (s2.trans s3);refine cc fun R0 hR0=>?_;refine⟨_,rfl,W,_,_,_,rfl,rfl,SqL.of eW3,a2,D.wd,D.ks.map nm,rfl,Fi.dat,fun t ht=>?_⟩;refine⟨_,rfl,_,rfl,W,_,rfl,SqL.of eW3,fun X gX=>?_⟩;have cv:bt ((ah D.h::ba "," D.ns::D.wd::D.xs).map V.str) (some 3) none=D.xs.map V.str:=by unfold bt;rw[HT.sIx_none,lE (by decide),show((3:Int).toNat)=3 from rfl];simp only[zS,zm,zb];rw[Nat.min_eq_left (by omega)];simp only[List.drop_succ_cons,List.drop_zero];rw[zV (by rw[zb];omega)]
 rw[cv];have wX:=aj gX (.lst (D.xs.map V.str));have eX:upd H3 X (.lst (D.xs.map V.str)) X=some (.lst (D.xs.map V.str)):=af;generalize upd H3 X (.lst (D.xs.map V.str))=H4 at wX eX ⊢;have lz:((D.ks.map nm).map V.str).length=(D.xs.map V.str).length:=by rw[zb,zb,zb,xl]
 refine⟨t,X,_,_,rfl,ht _,SqL.of eX,lz,?_⟩;refine ie (N:=D.ks.length) (fun i ys H'=>Same H4 H'/\ys.length=i/\∀(j:Nat) (p:V) (x:Pd),ys[j]?=some p->D.ds[j]?=some x->PdAt H' p x) (by omega) (fun _ _ _ z=>z.2.1) ⟨Same.refl _,rfl,fun j p x hj=>by simp at hj⟩ (fun i ys H' hi z=>⟨by rw[zb,zb];exact hi,ht _,SqL.of (z.1 _ _ eX)⟩) (fun ys H' z=>⟨by rw[zb,zb],ht _,SqL.of (z.1 _ _ eX)⟩) ?_ ?_
 ·rintro i ys H' v Hv hi ⟨sm,ly,hp⟩ ⟨T,kv,xv,gT,hk,hx,rfl,rfl⟩ Y hY;have wT:=aj gT (.tup [kv,xv]);have hk':D.ks[i]?=some D.ks[i]:=zd hi;have hxi:i<D.xs.length:=by omega
  obtain⟨d,hd,e⟩:=jh hk' (zd hxi);obtain rfl:kv=.str (nm D.ks[i]):=by rw[zE,zE,hk']at hk;exact(zp hk).symm
  obtain rfl:xv=.str (eJ D.ks[i] d):=by rw[zE,zd hxi,e]at hx;exact(zp hx).symm
  refine⟨T,_,rfl,SqT.of af,rfl,_,_,rfl,_,_,rfl,rfl,?_⟩;refine⟨_,rfl,_,rfl,D.ks[i],d,rfl,Fi.fit i _ d hk' hd,fun v H5 s5 pv=>hY _ _ ⟨sm.trans (wT.trans s5),by rw[zr,ly];rfl,fun j p x hj hxj=>?_⟩⟩;by_cases cj:j<ys.length
  ·rw[z0 cj]at hj;exact(hp j p x hj hxj).same (wT.trans s5)
  ·have ej:j=i:=by have:=(zj.mp hj).1;rw[zr,Zw]at this;omega
   subst ej;rw[zY (by omega),ly,Nat.sub_self]at hj;cases hj;rw[hd]at hxj;cases hxj;exact pv
 rintro ys p5 H5 ⟨s5,ly,hp⟩ g5;have w5:=aj g5 (.lst ys);have e5:upd H5 p5 (.lst ys) p5=some (.lst ys):=af;have hp6:∀(j:Nat) (p:V) (x:Pd),ys[j]?=some p->D.ds[j]?=some x->PdAt (upd H5 p5 (.lst ys)) p x:=fun j p x a b=>(hp j p x a b).same w5;have S6:=S3.trans (wX.trans (s5.trans w5));have ec6:=w5 _ _ (s5 _ _ (wX _ _ ec));have eW6:=w5 _ _ (s5 _ _ (wX _ _ eW3));generalize upd H5 p5 (.lst ys)=H6 at e5 hp6 S6 ec6 eW6 ⊢;refine hR0 _ _ ?_;clear hR0 R0 hp w5 g5 s5 eX wX gX lz cv ht;refine cc fun R0 hR0=>?_;refine⟨_,rfl,_,rfl,_,rfl,W,_,_,_,rfl,rfl,SqL.of eW6,a2,sz rfl,fun u gu=>?_⟩;have wu:=aj gu (.tup [.str D.wd]);have eu:upd H6 u (.tup [.str D.wd]) u=some (.tup [.str D.wd]):=af;generalize upd H6 u (.tup [.str D.wd])=H7 at wu eu ⊢;refine⟨_,rfl,p5,ys,rfl,.inl ⟨SqL.of (wu _ _ e5),fun z gz=>?_⟩⟩;have wz:=aj gz (.tup ys);have ez:upd H7 z (.tup ys) z=some (.tup ys):=af;generalize upd H7 z (.tup ys)=H8 at wz ez ⊢;refine⟨u,z,_,_,rfl,rfl,wz _ _ eu,ez,bz (by simp only[zm,List.length_nil];omega),fun tt H9 s9 e9=>⟨sz rfl,fun dd gd=>?_⟩⟩;have wd':=aj gd (.tup [.int D.h,.ref c,.ref tt]);have s69:Same H6 H9:=wu.trans (wz.trans s9);have DA:DeedAt (upd H9 dd (.tup [.int D.h,.ref c,.ref tt])) (.ref dd) D:=⟨dd,c,tt,ys,rfl,af,wd' _ _ (s69 _ _ ec6),wd' _ _ e9,by rw[ly,Fi.len],fun i p x a b=>((hp6 i p x a b).same s69).same wd'⟩
 have S10:=S6.trans (s69.trans wd');generalize upd H9 dd (.tup [.int D.h,.ref c,.ref tt])=H10 at DA S10 ⊢;refine hR0 _ _ ?_;clear hR0 R0;refine⟨_,rfl,_,rfl,.ref dd,cw hands D,hands,rfl,DA.deedR Fi,fun H11 s11=>⟨_,rfl,?_⟩⟩;cases eb:cw hands D with
 |true=>exact ar ⟨_,rfl,qt eb _ _ (S10.trans s11) (DA.same s11)⟩
 |false=>exact aB ⟨sz rfl,qf eb _ (S10.trans s11)⟩
def lN(K:PySem.W.Frag):Sp:=fun vs H Q _=>∃(a:Addr) (ns:List Int) (k:Int),vs=[.ref a,.int k]/\SqL K H a (ns.map V.int)/\0<=k/\Q (.int (aF ns k.toNat)) H
def ky(K:PySem.W.Frag):Sp:=fun vs H Q _=>∃(a:Addr) (ns:List Int),vs=[.ref a]/\SqL K H a (ns.map V.int)/\ns.length<=63/\∀H',Q (.bl true) H'
def qL:Sp:=fun vs H Q _=>∃(k:Kd) (v:V) (x:Str),vs=[.str (sg k),v]/\PartV H k v x/\∀H',Same H H'->Q (.str x) H'
abbrev gl:Stmt:=top 46
abbrev oY:List Str:=["_law_script","_law_k"]
theorem oF:FnScope oY ["_law_script","_law_k"] (ak gl):=⟨rfl,rfl,rfl,by decide +kernel,rfl,by decide +kernel,by decide +kernel⟩
theorem og{f:Addr}{fd:FuncData}(F:Fun K "_law_cell_at" "_law_cell_at" gl f fd)(z_len:mg "len" = none):FnOk P w K mg base CX0 1 f fd ["_law_script","_law_k"] (lN K):=by
 refine F.okQ oF (fun vs H Q E h=>?_) (fun cdv A outer s H vs Q E hr h=>?_)
 ·obtain⟨a,ns,k,rfl,_⟩:=h;rfl
 obtain⟨a,ns,k,rfl,hS,h0,q⟩:=h;refine⟨_,(b_c (ax (aq fB (q_v 1) (q_B bf z_len zt (q_a (q_v 0) ae))) (b_1 (ai (aE bF (q_v 0) (q_v 1)))) b_0)
   (b_1 (ai ad))),?_⟩
 refine⟨_,rfl,_,rfl,a,_,rfl,.inl hS,_,_,rfl,rfl,_,rfl,?_⟩;refine eE (fun c=>?_) (fun c=>?_)
 ·have c':k<((ns.map V.int).length:Int):=Zz c;rw[zb]at c';exact⟨_,rfl,_,rfl,a,_,_,_,rfl,rfl,hS,br h0 c',q⟩
 ·have c':¬k<((ns.map V.int).length:Int):=of_decide_eq_false (Zg.mpr c);rw[zb]at c';rw[rh h0 c']at q;exact q
def et:Str:=(" !\"#$&'()*+,-./0123456789:;<=>?@ABCDEFGHIJKLMNOPQRSTUVWXYZ[\\]^_`":Str)++("abcdefghijklmnopqrstuvwxyz{|}~":Str)
theorem kL:et.length=94/\et.cps.toList.length=94:=by decide +kernel
theorem pC:et.cps.toList.all cQ=true:=by decide +kernel
theorem oO{x:Str}{c:Nat}(h:bJ x=true)(hc:cQ c=true):bJ (x++⟨#[c]⟩)=true:=by unfold bJ at h ⊢;show(x.cps++#[c]).toList.all cQ=true;rw[Array.toList_append,List.all_append,h];show(true&&(cQ c&&true))=true;rw[hc];rfl
theorem lg{ks:List Kd}{j:Nat}{k:Kd}(h:ks[j]?=some k):atI (kst ks).cps.toList (j:Int)=some (jv k):=by refine bo ?_;show(ks.map jv)[j]?=some (jv k);rw[zE,h];rfl
theorem bw(ks:List Kd):(kst ks).length=ks.length:=by show(ks.map jv).toArray.size=_;rw[zh,zb]
abbrev lJ:Stmt:=top 51
abbrev uF:List Str:=["_law_kind","_law_part_here"]
theorem uo:FnScope uF ["_law_kind","_law_part_here"] (ak lJ):=⟨rfl,rfl,rfl,by decide +kernel,rfl,by decide +kernel,by decide +kernel⟩
theorem tO{f:Addr}{fd:FuncData}(F:Fun K "_law_word" "_law_word" lJ f fd)(dg:PySem.W.nsIn K cStatics "sys.int_max_str_digits" = some none)(z_str:mg "str" = none)(z_int:mg "int" = none):FnOk P w K mg base CX0 1 f fd ["_law_kind","_law_part_here"] qL:=by
 refine F.okQ uo (fun vs H Q E h=>?_) (fun cdv A outer s H vs Q E hr h=>?_)
 ·obtain⟨k,v,x,rfl,_⟩:=h;rfl
 obtain⟨k,v,x,rfl,p,q⟩:=h;refine⟨_,(b_c (ax (aq aD (q_v 0) ag) (b_1 (ai (q_v 1))) b_0)
   (b_c (ax (aq aD (q_v 0) ag) (b_1 (ai (gh ag (bD (own:=["_law_number"]) (⟨rfl,by decide +kernel,by decide +kernel,rfl,trivial⟩:CompOk _ _ [] []) rfl (iN (q_v 1)) (fun _ _ _ _=>aP (i:=0) (show (["_law_number"]:List Str).Nodup by decide +kernel)) (aT (by decide)) (fun _ _ _ _=>ck) (fun _ _ _ _=>(bL (bX (K:=K) rfl rfl dg) z_str aX (q_a (q_v 0) ae))))))) b_0)
   (b_c (ax (aq aD (q_v 0) ag) (b_1 (ai (aE bF (fF (q_a ag (q_a ag ae))) (bL nL z_int cA (q_a (q_v 1) ae))))) b_0)
   (b_c (ax (aq eg (q_v 1) bR) (b_1 (ai (aE bF (fF (q_a ag (q_a ag ae))) (bL nL z_int cA (q_a (aN aD (q_v 0) ag) ae))))) b_0)
   (b_c (ax (t_w (bK (aq aD (q_v 0) ag) (bE (aq aD (q_v 0) ag)))) (b_1 (ai (am gb (am gb (bL (bX (K:=K) rfl rfl dg) z_str aX (q_a (aE aJ (q_v 1) ad) ae)) ag) (bL (bX (K:=K) rfl rfl dg) z_str aX (q_a (aE aJ (q_v 1) ad) ae))))) b_0)
   (b_1 (ai (bL (bX (K:=K) rfl rfl dg) z_str aX (q_a (q_v 1) ae))))))))),?_⟩
 have q0:=q H (Same.refl H);have item:∀{a:Addr} {i j:Int},H a=some (.tup ([i,j].map V.int))->(∀n∈[i,j],Sm n)->Q (.str (Txt.join "." ([i,j].map ah))) H ->
   ∃v,[some (V.str (sg k)),some (V.ref a)][1]?=some (some v)/\v=.ref a:=fun _ _ _=>⟨_,rfl,rfl⟩
 cases p with
 |tx x hl=>exact⟨_,rfl,rfl,_,rfl,aL ⟨_,rfl,q0⟩⟩
 |@pl a ns e h hl =>
  refine⟨_,rfl,rfl,_,rfl,aa (by decide +kernel) ⟨_,rfl,rfl,_,rfl,aL ⟨rfl,_,rfl,a,rfl,⟨_,SqT.of e⟩,?_⟩⟩⟩;refine dH (fun i=>.str (ah (aF ns i))) (by rw[zb];omega) (SqT.of e) (fun i x H1 hi sm R k=>?_) (fun p H1 sm hp=>?_)
  ·obtain⟨rfl,hj⟩:=fz hi;exact⟨_,rfl,_,rfl,(h _ (by rw[<-fh hj];exact List.getElem_mem hj)).big,k H1 (Same.refl H1)⟩
  ·rw[iE,ik];refine⟨"/",p,ns.map ah,rfl,rfl,SqL.of af,dJ (fun y hy=>?_) (by decide +kernel) (by rw[zb];omega),q _ (sm.trans (aj hp _))⟩;obtain⟨n,hn,rfl⟩:=List.mem_map.mp hy;have:=(h n hn).len;omega
 |bl b =>refine⟨_,rfl,rfl,_,rfl,aa (by decide +kernel) ⟨_,rfl,rfl,_,rfl,aa (by decide +kernel) ⟨_,rfl,rfl,_,rfl,aL ?_⟩⟩⟩;refine⟨sz rfl,fun p g=>?_⟩;have w1:=aj g (.lst [.str "no",.str "yes"]);refine⟨_,rfl,.inr ⟨b,rfl,p,_,_,_,rfl,rfl,SqL.of af,?_,q _ w1⟩⟩;cases b<;>rfl
 |u0 =>refine⟨_,rfl,rfl,_,rfl,aa (by decide +kernel) ⟨_,rfl,rfl,_,rfl,aa (by decide +kernel) ⟨_,rfl,rfl,_,rfl,aa (by decide +kernel) ⟨_,rfl,rfl,_,rfl,cb rfl ?_⟩⟩⟩⟩;refine⟨sz rfl,fun p g=>?_⟩;have w1:=aj g (.lst [.str "top",.str "nobody"]);refine⟨_,rfl,rfl,.inr ⟨_,rfl,p,_,_,_,rfl,rfl,SqL.of af,?_,q _ w1⟩⟩;decide +kernel
 |w0 =>refine⟨_,rfl,rfl,_,rfl,aa (by decide +kernel) ⟨_,rfl,rfl,_,rfl,aa (by decide +kernel) ⟨_,rfl,rfl,_,rfl,aa (by decide +kernel) ⟨_,rfl,rfl,_,rfl,cb rfl ?_⟩⟩⟩⟩;refine⟨sz rfl,fun p g=>?_⟩;have w1:=aj g (.lst [.str "top",.str "nobody"]);refine⟨_,rfl,rfl,.inr ⟨_,rfl,p,_,_,_,rfl,rfl,SqL.of af,?_,q _ w1⟩⟩;decide +kernel
 |@it a i j e h =>have si:=h i (by simp);have sj:=h j (by simp);have li:=si.len;have lj:=sj.len;refine⟨_,rfl,rfl,_,rfl,aa (by decide +kernel) ⟨_,rfl,rfl,_,rfl,aa (by decide +kernel) ⟨_,rfl,rfl,_,rfl,aa (by decide +kernel) ⟨_,rfl,rfl,_,rfl,aV (by intro z;cases z) ⟨_,rfl,rfl,_,rfl,aL ?_⟩⟩⟩⟩⟩;exact⟨_,rfl,a,_,_,_,rfl,rfl,SqT.of e,rfl,i,rfl,si.big,_,_,rfl,rfl,bz (by show _+1<=1000;omega),_,rfl,a,_,_,_,rfl,rfl,SqT.of e,rfl,j,rfl,sj.big,_,_,rfl,rfl,bz (by rw[Str.length_append];show _+1+_<=1000;omega),q0⟩
 |@ui a i j e h =>have si:=h i (by simp);have sj:=h j (by simp);have li:=si.len;have lj:=sj.len;refine⟨_,rfl,rfl,_,rfl,aa (by decide +kernel) ⟨_,rfl,rfl,_,rfl,aa (by decide +kernel) ⟨_,rfl,rfl,_,rfl,aa (by decide +kernel) ⟨_,rfl,rfl,_,rfl,aV (by intro z;cases z) ⟨_,rfl,rfl,_,rfl,aa (by decide +kernel) ⟨_,rfl,rfl,_,rfl,aL ?_⟩⟩⟩⟩⟩⟩;exact⟨_,rfl,a,_,_,_,rfl,rfl,SqT.of e,rfl,i,rfl,si.big,_,_,rfl,rfl,bz (by show _+1<=1000;omega),_,rfl,a,_,_,_,rfl,rfl,SqT.of e,rfl,j,rfl,sj.big,_,_,rfl,rfl,bz (by rw[Str.length_append];show _+1+_<=1000;omega),q0⟩
 |wi i h=>exact⟨_,rfl,rfl,_,rfl,aa (by decide +kernel) ⟨_,rfl,rfl,_,rfl,aa (by decide +kernel) ⟨_,rfl,rfl,_,rfl,aa (by decide +kernel) ⟨_,rfl,rfl,_,rfl,aV (by intro z;cases z) ⟨_,rfl,rfl,_,rfl,aa (by decide +kernel) ⟨_,rfl,rfl,_,rfl,aa (by decide +kernel) ⟨_,rfl,i,rfl,h.big,q0⟩⟩⟩⟩⟩⟩⟩
 | «at» i h=>exact⟨_,rfl,rfl,_,rfl,aa (by decide +kernel) ⟨_,rfl,rfl,_,rfl,aa (by decide +kernel) ⟨_,rfl,rfl,_,rfl,aa (by decide +kernel) ⟨_,rfl,rfl,_,rfl,aV (by intro z;cases z) ⟨_,rfl,rfl,_,rfl,aa (by decide +kernel) ⟨_,rfl,rfl,_,rfl,aa (by decide +kernel) ⟨_,rfl,i,rfl,h.big,q0⟩⟩⟩⟩⟩⟩⟩
 |nu i h=>exact⟨_,rfl,rfl,_,rfl,aa (by decide +kernel) ⟨_,rfl,rfl,_,rfl,aa (by decide +kernel) ⟨_,rfl,rfl,_,rfl,aa (by decide +kernel) ⟨_,rfl,rfl,_,rfl,aV (by intro z;cases z) ⟨_,rfl,rfl,_,rfl,aa (by decide +kernel) ⟨_,rfl,rfl,_,rfl,aa (by decide +kernel) ⟨_,rfl,i,rfl,h.big,q0⟩⟩⟩⟩⟩⟩⟩
def qJ:Sp:=fun vs H Q _=>∃n:Int,vs=[.int n]/\∀t:Str,bJ t=true->t.length<=62->Q (.str t) H
abbrev lI:Stmt:=top 47
abbrev uE:List Str:=["_law_cell","_law_some","_law_many","_law_number","_law_found","_law_k"]
theorem bN:FnScope uE ["_law_cell"] (ak lI):=⟨rfl,rfl,rfl,by decide +kernel,rfl,by decide +kernel,by decide +kernel⟩
theorem tN{f:Addr}{fd:FuncData}(F:Fun K "_law_text" "_law_text" lI f fd)(z_range:mg "range" = none):FnOk P w K mg base CX0 1 f fd ["_law_cell"] qJ:=by
 refine F.okQ bN (fun vs H Q E h=>?_) (fun cdv A outer s H vs Q E hr h=>?_)
 ·obtain⟨n,rfl,_⟩:=h;rfl
 obtain⟨c,rfl,q⟩:=h;refine⟨_,(b_c (aG (i:=1) bN.nd ag)
   (b_c (aG (i:=1) bN.nd (am gb (q_v 1) ag))
   (b_c (aG (i:=2) bN.nd (am aM (q_v 0) ad))
   (b_c (lF (ax (aq aD (am aM (am bx (q_v 0) ad) ad) ad) (b_1 (aG (i:=2) bN.nd (am bu ad (q_v 2)))) b_0))
   (b_c (aG (i:=3) bN.nd (am aM (am bx (q_v 0) ad) ad))
   (b_c (aG (i:=4) bN.nd ag)
   (b_c (iX PassesOwn.never rfl (dj z_range (q_a (q_v 2) ae)) (aP (i:=5) bN.nd) (b_c (aG (i:=4) bN.nd (am gb (q_v 4) (aE kF (q_v 1) (am aM (am bu (q_v 3) (am fD (am fD (q_v 5) (q_v 5)) (am aM (q_v 0) ad))) ad))))
   (b_1 (aG (i:=3) bN.nd (am aM (am fD (q_v 3) ad) ad)))))
   (b_1 (ai (q_v 4)))))))))),?_⟩
 try rw[cxK]
 have c0:=zI c (show(5:Int)≠0 by decide);have c1:=zD c (show(0:Int)<5 by decide);have v0:=zI c (show(7:Int)≠0 by decide);have v1:=zD c (show(0:Int)<7 by decide);have d0:=zI (c / 40) (show(1000003:Int)≠0 by decide);have d1:=zD (c / 40) (show(0:Int)<1000003 by decide);refine⟨_,rfl,_,_,rfl,rfl,by decide +kernel,?_⟩;refine⟨_,rfl,_,_,rfl,rfl,(by show(0:Int)<5;decide),?_⟩;refine io (fun σ H'=>H'=H/\∃m:Int,0<=m/\m<=62/\σ=[some (.int c),some (.str et),some (.int m),none,none,none]) (fun R hR=>?_) ?_
 ·refine⟨_,rfl,_,_,rfl,rfl,⟨by decide,by decide⟩,_,_,rfl,rfl,(by show(0:Int)<8;decide),rfl,_,rfl,bO (fun _=>?_) (fun _=>?_)⟩
  ·exact⟨_,rfl,_,_,rfl,rfl,hR _ _ ⟨rfl,58+c%5,by omega,by omega,rfl⟩⟩
  ·exact hR _ _ ⟨rfl,c%5,by omega,by omega,rfl⟩
 rintro σ H' ⟨rfl,m,m0,m1,rfl⟩;refine⟨_,rfl,_,_,rfl,rfl,⟨by decide,by decide⟩,_,_,rfl,rfl,(by show(0:Int)<1000003;decide),?_⟩;refine⟨_,rfl,_,rfl,by omega,by omega,?_⟩;refine fq (lo:=0) (fun i σ H2=>H2=H'/\∃(n:Int) (x:Str) (o5:Option V),0<=n/\n<2147483647/\x.length=i/\bJ x=true/\σ=[some (.int c),some (.str et),some (.int m),some (.int n),some (.str x),o5]) ⟨rfl,c / 40%1000003,"",none,by omega,by omega,by decide +kernel,by decide +kernel,rfl⟩ ?_ ?_
 ·rintro i σ H2 hi ⟨rfl,n,x,o5,n0,n1,lx,okx,rfl⟩ DL hDL;have hi62:i<62:=by omega
  have ii0:0<=(0+(i:Int))*(0+(i:Int)):=Int.mul_nonneg (by omega) (by omega);have ii1:(0+(i:Int))*(0+(i:Int))<=62*62:=Int.mul_le_mul (by omega) (by omega) (by omega) (by omega);obtain⟨ch,hch,hm⟩:∃ch,atI et.cps.toList ((n+(0+(i:Int))*(0+(i:Int))*(c%7))%94)=some ch/\ch∈et.cps.toList:=by
   have k0:=zI (n+(0+(i:Int))*(0+(i:Int))*(c%7)) (show(94:Int)≠0 by decide);have k1:=zD (n+(0+(i:Int))*(0+(i:Int))*(c%7)) (show(0:Int)<94 by decide);generalize(n+(0+(i:Int))*(0+(i:Int))*(c%7))%94=r at k0 k1;have hz:r.toNat<et.cps.toList.length:=by rw[kL.2];omega
   have:=bo (xs:=et.cps.toList) (zd hz);rw[show((r.toNat:Nat):Int)=r by omega]at this;exact⟨_,this,List.getElem_mem hz⟩
  refine⟨_,rfl,_,rfl,_,rfl,_,rfl,_,rfl,_,_,rfl,rfl,.inl ⟨by omega,by omega⟩,_,rfl,_,_,rfl,rfl,(by show(0:Int)<7;decide),_,_,rfl,rfl,.inl ⟨by omega,by omega⟩,_,_,rfl,rfl,_,_,rfl,rfl,(by show(0:Int)<94;decide),et,_,ch,rfl,rfl,bz (by rw[kL.1];decide),hch,_,_,rfl,rfl,bz (by show x.length+1<=1000;omega),?_⟩;refine⟨_,rfl,_,_,rfl,rfl,.inl ⟨by omega,by omega⟩,_,_,rfl,rfl,(by show(0:Int)<2147483647;decide),?_⟩;refine hDL _ _ ⟨rfl,_,_,_,zI _ (by decide),zD _ (by decide),?_,oO okx ?_,rfl⟩
  ·rw[Str.length_append,lx];rfl
  ·exact zH.mp pC ch hm
 ·rintro σ H2 ⟨rfl,n,x,o5,n0,n1,lx,okx,rfl⟩;exact⟨_,rfl,q x okx (by omega)⟩
theorem Sm.small{i:Int}(h0:0<=i)(h1:i<10^59):Sm i:=Sm.of (k:=59) (by omega) (by omega) (ze _)
def mT:Sp:=fun vs H Q _=>∃c h:Int,vs=[.int c,.int h]/\1<=h/\h<=8/\∀(a:Addr) (ns:List Int) (H':Hp),Same H H'->H' a=some (.tup (ns.map V.int))->(ns.length:Int)=h->(∀n∈ns,0<=n/\Sm n)->Q (.ref a) H'
abbrev jH:Stmt:=top 48
abbrev tm:List Str:=["_law_cell","_law_hands","_law_number","_law_clock_here","_law_k"]
theorem dS:FnScope tm ["_law_cell","_law_hands"] (ak jH):=⟨rfl,rfl,rfl,by decide +kernel,rfl,by decide +kernel,by decide +kernel⟩
theorem rG{f:Addr}{fd:FuncData}(F:Fun K "_law_clock" "_law_clock" jH f fd)(z_range:mg "range" = none)(z_tuple:mg "tuple" = none):FnOk P w K mg base CX0 1 f fd ["_law_cell","_law_hands"] mT:=by
 refine F.okQ dS (fun vs H Q E h=>?_) (fun cdv A outer s H vs Q E hr h=>?_)
 ·obtain⟨c,h,rfl,_⟩:=h;rfl
 obtain⟨c,h,rfl,h1,h8,q⟩:=h;refine⟨_,(b_c (aG (i:=2) dS.nd (am aM (am bx (q_v 0) ad) ad))
   (b_c (aG (i:=3) dS.nd (fF ae))
   (b_c (iX PassesOwn.never rfl (dj z_range (q_a (q_v 1) ae)) (aP (i:=4) dS.nd) (b_c (aG (i:=2) dS.nd (am aM (am bu (am fD (q_v 2) ad) ad) ad))
   (b_1 (qz (sN (q_v 3) (am aM (q_v 2) ad))))))
   (b_c (lF (ax (aq aD (am aM (q_v 0) ad) ad) (b_1 (xq (am aM (q_v 0) (am kx ad ad)) (wM (q_v 3) (am aM (q_v 2) (q_v 1)) xr))) b_0))
   (b_1 (ai (bL iI z_tuple aU (q_a (q_v 3) ae)))))))),?_⟩
 try rw[cxK]
 have d0:=zI (c / 4) (show(1000003:Int)≠0 by decide);have d1:=zD (c / 4) (show(0:Int)<1000003 by decide);refine⟨_,rfl,_,_,rfl,rfl,⟨by decide,by decide⟩,_,_,rfl,rfl,(by show(0:Int)<1000003;decide),?_⟩;refine⟨sz rfl,fun p g=>?_⟩;have w1:=aj g (.lst []);have e1:upd H p (.lst []) p=some (.lst (([]:List Int).map V.int)):=af;generalize upd H p (.lst [])=H1 at w1 e1 ⊢;have sm5:∀n:Int,0<=n%5/\Sm (n%5):=fun n=>by have a0:=zI n (show(5:Int)≠0 by decide);have a1:=zD n (show(0:Int)<5 by decide);exact⟨a0,Sm.small a0 (by omega)⟩
 refine⟨_,rfl,_,rfl,by omega,by omega,?_⟩;refine fq (lo:=0) (fun i σ H2=>Same H H2/\∃(n:Int) (ns:List Int) (o4:Option V),0<=n/\n<2147483647/\H2 p=some (.lst (ns.map V.int))/\ns.length=i/\(∀n∈ns,0<=n/\Sm n)/\σ=[some (.int c),some (.int h),some (.int n),some (.ref p),o4]) ⟨w1,c / 4%1000003,[],none,by omega,by omega,e1,rfl,(fun n hn=>by simp at hn),rfl⟩ ?_ ?_
 ·rintro i σ H2 hi ⟨sm,n,ns,o4,n0,n1,ep,ln,hn,rfl⟩ DL hDL;refine⟨_,rfl,_,_,rfl,rfl,.inl ⟨by omega,by omega⟩,_,_,rfl,rfl,_,_,rfl,rfl,(by show(0:Int)<2147483647;decide),?_⟩;have k0:=zI (n*48271+5) (show(2147483647:Int)≠0 by decide);have k1:=zD (n*48271+5) (show(0:Int)<2147483647 by decide);refine⟨_,rfl,.inl ⟨rfl,_,SqL.of ep⟩,_,rfl,_,_,rfl,rfl,(by show(0:Int)<5;decide),p,_,_,rfl,rfl,ep,cJ (by rw[zb];omega),?_⟩;refine hDL _ _ ⟨fN sm g,(n*48271+5)%2147483647,ns++[(n*48271+5)%2147483647%5],_,k0,k1,by rw[af,Zj];rfl,by rw[zr,ln];rfl,fun m hm=>?_,rfl⟩;rcases Zh.mp hm with hm|hm
  ·exact hn m hm
  ·rw[zC.mp hm];exact sm5 _
 rintro σ H2 ⟨sm,n,ns,o4,n0,n1,ep,ln,hn,rfl⟩;refine io (fun σ' H'=>Same H H'/\∃ns:List Int,H' p=some (.lst (ns.map V.int))/\(ns.length:Int)=h/\(∀n∈ns,0<=n/\Sm n)/\σ'=[some (.int c),some (.int h),some (.int n),some (.ref p),o4]) (fun R hR=>?_) ?_
 ·skip
  refine⟨_,rfl,_,_,rfl,rfl,(by show(0:Int)<4;decide),rfl,_,rfl,bO (fun _=>?_) (fun _=>?_)⟩
  ·have b0:=zI c (show(10^59:Int)≠0 by decide);have b1:=zD c (show(0:Int)<10^59 by decide);have j0:=zI n (show h≠0 by omega);have j1:=zD n (show 0<h by omega);have ixn:ixN (ns.map V.int).length (n%h)=some (n%h).toNat:=by unfold ixN;rw[if_pos j0,if_pos (by rw[zb];omega)]
   refine⟨_,rfl,_,_,rfl,rfl,⟨by decide,by decide,by decide⟩,_,_,rfl,rfl,(by show(0:Int)<10^59;decide),_,rfl,_,rfl,_,rfl,_,_,rfl,rfl,(by omega),p,_,_,_,rfl,rfl,ep,ixn,?_⟩;refine hR _ _ ⟨fN sm g,ns.set (n%h).toNat (c%10^(59:Int).toNat),by rw[af,List.map_set],by rw[List.length_set];omega,fun m hm=>?_,rfl⟩;rcases List.mem_or_eq_of_mem_set hm with hm|hm
   ·exact hn m hm
   ·rw[hm];exact⟨b0,Sm.small b0 b1⟩
  ·exact hR _ _ ⟨sm,ns,ep,by omega,hn,rfl⟩
 rintro σ' H' ⟨s3,ms,e3,l3,hm,rfl⟩;exact⟨_,rfl,p,_,rfl,.inl ⟨SqL.of e3,fun t gt=>q t ms _ (s3.trans (aj gt _)) af l3 hm⟩⟩
def qG:Sp:=fun vs H Q _=>∃(k:Kd) (c h:Int),vs=[.str (sg k),.int c,.int h]/\1<=h/\h<=8/\∀(v:V) (d:Pd) (H':Hp),Same H H'->PdAt H' v d->eC k d->Q v H'
theorem bg{c m:Int}(h0:0<m)(h1:m<=10^59):0<=c%m/\Sm (c%m):=by have a0:=zI c (show m≠0 by omega);have a1:=zD c h0;exact⟨a0,Sm.small a0 (by omega)⟩
theorem xm(a b:Int)(i:Nat)(hi:i<65):Sm ((a%10^20+(0+(i:Int)))*(1-2*(b%2))):=by
 have a0:=zI a (show(10^20:Int)≠0 by decide);have a1:=zD a (show(0:Int)<10^20 by decide);rcases(show b%2=0\/b%2=1 by omega)with e|e
 ·rw[e];exact Sm.of (k:=21) (by omega) (by omega) (by decide)
 ·rw[e];exact Sm.of (k:=21) (by omega) (by omega) (by decide)
abbrev lG:Stmt:=top 49
abbrev uC:List Str:=["_law_kind","_law_cell","_law_hands","_law_many","_law_some"]
theorem gW:FnScope uC ["_law_kind","_law_cell","_law_hands"] (ak lG):=⟨rfl,rfl,rfl,by decide +kernel,rfl,by decide +kernel,by decide +kernel⟩
theorem tM{f:Addr}{fd:FuncData}(F:Fun K "_law_part" "_law_part" lG f fd)(F_text:Fn P w K mg base 1 "_law_text" ["_law_cell"] qJ)(z_range:mg "range" = none)(z_tuple:mg "tuple" = none):FnOk P w K mg base CX0 2 f fd ["_law_kind","_law_cell","_law_hands"] qG:=by
 refine F.okQ gW (fun vs H Q E h=>?_) (fun cdv A outer s H vs Q E hr h=>?_)
 ·obtain⟨k,c,h,rfl,_⟩:=h;rfl
 obtain⟨k,c,h,rfl,h1,h8,q⟩:=h;refine⟨_,(b_c (ax (t_w (bK (t_w (oX (aq aD (q_v 0) ag) (lX (aq aD (am aM (q_v 1) ad) ad)))) (bE (t_w (oX (aq aD (q_v 0) ag) (lX (aq aD (am aM (q_v 1) ad) ad))))))) (b_1 (ai bR)) b_0)
   (b_c (ax (t_w (bK (aq aD (q_v 0) ag) (bE (aq aD (q_v 0) ag)))) (b_c (ax (aq aD (am aM (am bx (q_v 1) ad) ad) ad) (b_1 (ai (cy (q_a (am aM (am bx (q_v 1) ad) (q_v 2)) (q_a (am aM (am bx (q_v 1) ad) (am kx ad ad)) ae))))) b_0)
   (b_1 (ai (cy (q_a (am aM (am bx (q_v 1) ad) (am bu (q_v 2) ad)) (q_a (am aM (am bx (q_v 1) ad) ad) ae)))))) b_0)
   (b_c (ax (aq aD (q_v 0) ag) (b_c (aG (i:=3) gW.nd (am bu ad (am aM (q_v 1) ad)))
   (b_c (lF (ax (aq aD (am aM (am bx (q_v 1) ad) ad) ad) (b_1 (aG (i:=3) gW.nd (am bu ad (am aM (am bx (q_v 1) ad) ad)))) b_0))
   (b_c (aG (i:=4) gW.nd (bD (own:=["_law_k"]) (⟨rfl,by decide +kernel,by decide +kernel,rfl,⟨rfl,rfl,trivial⟩⟩:CompOk _ _ [1] ["_law_cell"]) rfl (dj z_range (q_a (q_v 3) ae)) (fun _ _ _ _=>aP (i:=0) (show (["_law_k","_law_cell"]:List Str).Nodup by decide +kernel)) (aT (by decide)) (fun _ _ _ _=>ck) (fun _ _ _ _=>(am bu (am aM (am bx (q_v 1) (am bu ad (q_v 0))) (am kx ad ad)) (q_v 0)))))
   (b_1 (ai (bL iI z_tuple aU (q_a (bD (own:=["_law_k"]) (⟨rfl,by decide +kernel,by decide +kernel,rfl,⟨rfl,rfl,⟨rfl,rfl,trivial⟩⟩⟩:CompOk _ _ [4,1] ["_law_some","_law_cell"]) rfl (dj z_range (q_a (q_v 3) ae)) (fun _ _ _ _=>aP (i:=0) (show (["_law_k","_law_some","_law_cell"]:List Str).Nodup by decide +kernel)) (aT (by decide)) (fun _ _ _ _=>ck) (fun _ _ _ _=>(am fD (aE (nz (K:=K) rfl) (q_v 1) (q_v 0)) (am sM ad (am fD ad (am aM (am bx (q_v 2) (am bu ad (am fD ad (q_v 0)))) ad)))))) ae))))))) b_0)
   (b_c (ax (aq aD (q_v 0) ag) (b_1 (ai (aC F_text (hr.mono (by decide)) (q_a (q_v 1) ae)))) b_0)
   (b_c (ax (aq aD (q_v 0) ag) (b_1 (ai (aN aD (am aM (q_v 1) ad) ad))) b_0)
   (b_c (ax (aq aD (q_v 0) ag) (b_1 (ai (am aM (am bx (q_v 1) ad) (am bu (q_v 2) ad)))) b_0)
   (b_c (ax (aq aD (am aM (q_v 1) ad) ad) (b_1 (ai (am aM (am bx (q_v 1) ad) (am kx ad ad)))) b_0)
   (b_1 (ai (am aM (am bx (q_v 1) ad) ad)))))))))),?_⟩
 try rw[cxK]
 have c0:=zI c (show(3:Int)≠0 by decide);have c1:=zD c (show(0:Int)<3 by decide);cases k with
 |i =>
  refine⟨_,rfl,rfl,_,rfl,aa (by decide +kernel) (ar ⟨_,rfl,rfl,_,rfl,aa (by decide +kernel) (ar ?_)⟩)⟩;refine⟨_,rfl,rfl,_,rfl,aL (aB ?_)⟩;refine⟨_,rfl,_,_,rfl,rfl,⟨by decide,by decide⟩,_,_,rfl,rfl,(by show(0:Int)<8;decide),rfl,_,rfl,bO (fun _=>?_) (fun _=>?_)⟩
  ·refine⟨_,rfl,_,_,rfl,rfl,⟨by decide,by decide⟩,_,rfl,_,_,rfl,rfl,(by omega),_,rfl,_,_,rfl,rfl,⟨by decide,by decide⟩,_,_,rfl,rfl,⟨by decide,by decide,by decide⟩,_,_,rfl,rfl,(by show(0:Int)<10^59;decide),sz rfl,fun t g=>?_⟩;exact q _ (.nm (c / 40%h) (c / 40%10^(59:Int).toNat)) _ (aj g _) ⟨t,rfl,af⟩ ⟨(bg (by omega) (by omega)).1,(bg (by decide) (by decide)).1,(bg (by omega) (by omega)).2,(bg (by decide) (by decide)).2⟩
  ·refine⟨_,rfl,_,_,rfl,rfl,⟨by decide,by decide⟩,_,rfl,_,_,rfl,rfl,_,_,rfl,rfl,(by omega),_,rfl,_,_,rfl,rfl,⟨by decide,by decide⟩,_,_,rfl,rfl,(by show(0:Int)<6;decide),sz rfl,fun t g=>?_⟩;exact q _ (.nm (c / 5%(h+1)) (c / 45%6)) _ (aj g _) ⟨t,rfl,af⟩ ⟨(bg (by omega) (by omega)).1,(bg (by decide) (by decide)).1,(bg (by omega) (by omega)).2,(bg (by decide) (by decide)).2⟩
 |u =>
  refine⟨_,rfl,rfl,_,rfl,aL ⟨_,rfl,_,_,rfl,rfl,(by show(0:Int)<5;decide),rfl,_,rfl,bO (fun _=>aB (q _ .non _ (Same.refl _) rfl trivial)) (fun _=>⟨_,rfl,rfl,_,rfl,aa (by decide +kernel) (ar ?_)⟩)⟩⟩;refine⟨_,rfl,rfl,_,rfl,aa (by decide +kernel) ⟨_,rfl,rfl,_,rfl,aL ?_⟩⟩;refine⟨_,rfl,_,_,rfl,rfl,⟨by decide,by decide⟩,_,_,rfl,rfl,(by show(0:Int)<8;decide),rfl,_,rfl,bO (fun _=>?_) (fun _=>?_)⟩
  ·refine⟨_,rfl,_,_,rfl,rfl,⟨by decide,by decide⟩,_,rfl,_,_,rfl,rfl,(by omega),_,rfl,_,_,rfl,rfl,⟨by decide,by decide⟩,_,_,rfl,rfl,⟨by decide,by decide,by decide⟩,_,_,rfl,rfl,(by show(0:Int)<10^59;decide),sz rfl,fun t g=>?_⟩;exact q _ (.nm (c / 40%h) (c / 40%10^(59:Int).toNat)) _ (aj g _) ⟨t,rfl,af⟩ ⟨(bg (by omega) (by omega)).1,(bg (by decide) (by decide)).1,(bg (by omega) (by omega)).2,(bg (by decide) (by decide)).2⟩
  ·refine⟨_,rfl,_,_,rfl,rfl,⟨by decide,by decide⟩,_,rfl,_,_,rfl,rfl,_,_,rfl,rfl,(by omega),_,rfl,_,_,rfl,rfl,⟨by decide,by decide⟩,_,_,rfl,rfl,(by show(0:Int)<6;decide),sz rfl,fun t g=>?_⟩;exact q _ (.nm (c / 5%(h+1)) (c / 45%6)) _ (aj g _) ⟨t,rfl,af⟩ ⟨(bg (by omega) (by omega)).1,(bg (by decide) (by decide)).1,(bg (by omega) (by omega)).2,(bg (by decide) (by decide)).2⟩
 |p =>
  refine⟨_,rfl,rfl,_,rfl,aa (by decide +kernel) (ar ⟨_,rfl,rfl,_,rfl,aa (by decide +kernel) (ar ?_)⟩)⟩;refine⟨_,rfl,rfl,_,rfl,aa (by decide +kernel) ⟨_,rfl,rfl,_,rfl,aa (by decide +kernel) ?_⟩⟩;refine⟨_,rfl,rfl,_,rfl,aL ?_⟩;refine⟨_,rfl,_,_,rfl,rfl,(by show(0:Int)<3;decide),_,_,rfl,rfl,?_⟩;refine io (fun σ H'=>H'=H/\∃m:Int,1<=m/\m<=65/\σ=[some (.str (sg .p)),some (.int c),some (.int h),some (.int m),none]) (fun R hR=>?_) ?_
  ·refine⟨_,rfl,_,_,rfl,rfl,⟨by decide,by decide⟩,_,_,rfl,rfl,(by show(0:Int)<8;decide),rfl,_,rfl,bO (fun _=>?_) (fun _=>?_)⟩
   ·have b0:=zI (c / 24) (show(2:Int)≠0 by decide);have b1:=zD (c / 24) (show(0:Int)<2 by decide);exact⟨_,rfl,_,_,rfl,rfl,⟨by decide,by decide⟩,_,_,rfl,rfl,(by show(0:Int)<2;decide),_,_,rfl,rfl,hR _ _ ⟨rfl,64+c / 24%2,by omega,by omega,rfl⟩⟩
   ·exact hR _ _ ⟨rfl,1+c%3,by omega,by omega,rfl⟩
  rintro σ H' ⟨rfl,m,m0,m1,rfl⟩;refine⟨_,rfl,_,rfl,by omega,by omega,?_⟩;refine dz (N:=m.toNat) (lo:=0) (fun i=>.int (c / (24+(0+(i:Int)))%10^(20:Int).toNat+(0+(i:Int)))) (by omega) (fun i H1 hi sm R k=>⟨_,rfl,_,rfl,_,_,rfl,rfl,_,_,rfl,rfl,⟨by omega,by omega⟩,_,_,rfl,rfl,⟨by decide,by decide,by decide⟩,_,_,rfl,rfl,(by show(0:Int)<10^20;decide),_,rfl,_,_,rfl,rfl,k H1 (Same.refl H1)⟩) (fun p1 H1 s1 g1=>?_);rw[<-lh];have gs:∀i:Nat,i<m.toNat->((List.range m.toNat).map fun(i:Nat)=>c / (24+(0+(i:Int)))%10^(20:Int).toNat+(0+(i:Int)))[i]?=some (c / (24+(0+(i:Int)))%10^(20:Int).toNat+(0+(i:Int))):=fun i hi=>by rw[zE,List.getElem?_range hi];rfl
  have ls:((List.range m.toNat).map fun(i:Nat)=>c / (24+(0+(i:Int)))%10^(20:Int).toNat+(0+(i:Int))).length=m.toNat:=by rw[zb,Zy]
  generalize((List.range m.toNat).map fun(i:Nat)=>c / (24+(0+(i:Int)))%10^(20:Int).toNat+(0+(i:Int)))=cs at gs ls ⊢;have w1:=s1.trans (aj g1 (.lst (cs.map V.int)));have e1:upd H1 p1 (.lst (cs.map V.int)) p1=some (.lst (cs.map V.int)):=af;generalize upd H1 p1 (.lst (cs.map V.int))=H2 at w1 e1 ⊢;refine⟨_,rfl,_,rfl,by omega,by omega,?_⟩;refine dz (N:=m.toNat) (lo:=0) (fun i=>.int ((c / (24+(0+(i:Int)))%10^(20:Int).toNat+(0+(i:Int)))*(1-2*(c / (24+7*(0+(i:Int)))%2)))) (by omega) (fun i H3 hi sm R k=>?_) (fun p3 H3 s3 g3=>?_)
  ·have b0:=zI (c / (24+7*(0+(i:Int)))) (show(2:Int)≠0 by decide);have b1:=zD (c / (24+7*(0+(i:Int)))) (show(0:Int)<2 by decide);have ia:atI (cs.map V.int) (0+(i:Int))=some (.int (c / (24+(0+(i:Int)))%10^(20:Int).toNat+(0+(i:Int)))):=by have e:=gs i hi;have:=bo (xs:=cs.map V.int) (j:=i) (v:=.int (c / (24+(0+(i:Int)))%10^(20:Int).toNat+(0+(i:Int)))) (by rw[zE,e];rfl);rw[Int.zero_add]at this ⊢;exact this
   exact⟨_,rfl,_,rfl,p1,_,_,_,rfl,rfl,SqL.of (sm _ _ e1),ia,_,rfl,_,rfl,_,_,rfl,rfl,.inl ⟨by decide,by decide⟩,_,_,rfl,rfl,_,_,rfl,rfl,⟨by omega,by omega⟩,_,_,rfl,rfl,(by show(0:Int)<2;decide),_,_,rfl,rfl,.inl ⟨by decide,by decide⟩,_,_,rfl,rfl,_,_,rfl,rfl,.inr ⟨by omega,by omega⟩,k H3 (Same.refl H3)⟩
  ·rw[<-lh];refine⟨p3,_,rfl,.inl ⟨SqL.of af,fun p4 g4=>?_⟩⟩;refine q _ (.pl _) _ (w1.trans (s3.trans ((aj g3 _).trans (aj g4 _)))) ⟨p4,rfl,af⟩ ⟨by rw[zb,Zy];omega,by rw[zb,Zy];omega,fun n hn=>?_⟩;obtain⟨i,hi,rfl⟩:=List.mem_map.mp hn;have:=Zm.mp hi;exact xm _ _ i (by omega)
 |t =>refine⟨_,rfl,rfl,_,rfl,aa (by decide +kernel) (ar ⟨_,rfl,rfl,_,rfl,aa (by decide +kernel) (ar ?_)⟩)⟩;refine⟨_,rfl,rfl,_,rfl,aa (by decide +kernel) ⟨_,rfl,rfl,_,rfl,aa (by decide +kernel) ?_⟩⟩;refine⟨_,rfl,rfl,_,rfl,aa (by decide +kernel) ?_⟩;exact⟨_,rfl,rfl,_,rfl,aL ⟨_,rfl,c,rfl,fun t ht hl=>q _ (.tx t) _ (Same.refl _) rfl ⟨ht,by omega⟩⟩⟩
 |b =>refine⟨_,rfl,rfl,_,rfl,aa (by decide +kernel) (ar ⟨_,rfl,rfl,_,rfl,aa (by decide +kernel) (ar ?_)⟩)⟩;refine⟨_,rfl,rfl,_,rfl,aa (by decide +kernel) ⟨_,rfl,rfl,_,rfl,aa (by decide +kernel) ?_⟩⟩;refine⟨_,rfl,rfl,_,rfl,aa (by decide +kernel) ?_⟩;refine⟨_,rfl,rfl,_,rfl,aa (by decide +kernel) ?_⟩;exact⟨_,rfl,rfl,_,rfl,aL ⟨_,rfl,_,_,rfl,rfl,(by show(0:Int)<2;decide),rfl,q _ (.bl _) _ (Same.refl _) rfl trivial⟩⟩
 |w =>refine⟨_,rfl,rfl,_,rfl,aa (by decide +kernel) (ar ⟨_,rfl,rfl,_,rfl,aL ⟨_,rfl,_,_,rfl,rfl,(by show(0:Int)<3;decide),rfl,_,rfl,bO (fun _=>q _ .non _ (Same.refl _) rfl trivial) (fun _=>?_)⟩⟩)⟩;refine⟨_,rfl,rfl,_,rfl,aa (by decide +kernel) ⟨_,rfl,rfl,_,rfl,aa (by decide +kernel) ?_⟩⟩;refine⟨_,rfl,rfl,_,rfl,aa (by decide +kernel) ?_⟩;refine⟨_,rfl,rfl,_,rfl,aa (by decide +kernel) ?_⟩;refine⟨_,rfl,rfl,_,rfl,aa (by decide +kernel) ?_⟩;exact⟨_,rfl,rfl,_,rfl,aL ⟨_,rfl,_,_,rfl,rfl,⟨by decide,by decide⟩,_,rfl,_,_,rfl,rfl,_,_,rfl,rfl,(by omega),q _ (.nu (c / 3%(h+1))) _ (Same.refl _) rfl (bg (by omega) (by omega))⟩⟩
 |a =>
  refine⟨_,rfl,rfl,_,rfl,aa (by decide +kernel) (ar ⟨_,rfl,rfl,_,rfl,aa (by decide +kernel) (ar ?_)⟩)⟩;refine⟨_,rfl,rfl,_,rfl,aa (by decide +kernel) ⟨_,rfl,rfl,_,rfl,aa (by decide +kernel) ?_⟩⟩;refine⟨_,rfl,rfl,_,rfl,aa (by decide +kernel) ?_⟩;refine⟨_,rfl,rfl,_,rfl,aa (by decide +kernel) ?_⟩;refine⟨_,rfl,rfl,_,rfl,aa (by decide +kernel) ?_⟩;refine⟨_,rfl,rfl,_,rfl,aa (by decide +kernel) ?_⟩;refine⟨_,rfl,_,_,rfl,rfl,(by show(0:Int)<8;decide),rfl,_,rfl,bO (fun _=>?_) (fun _=>?_)⟩
  ·exact⟨_,rfl,_,_,rfl,rfl,⟨by decide,by decide⟩,_,_,rfl,rfl,⟨by decide,by decide,by decide⟩,_,_,rfl,rfl,(by show(0:Int)<10^59;decide),q _ (.nu (c / 8%10^(59:Int).toNat)) _ (Same.refl _) rfl (bg (by decide) (by decide))⟩
  ·exact⟨_,rfl,_,_,rfl,rfl,⟨by decide,by decide⟩,_,_,rfl,rfl,(by show(0:Int)<6;decide),q _ (.nu (c / 8%6)) _ (Same.refl _) rfl (bg (by decide) (by decide))⟩
 |n =>
  refine⟨_,rfl,rfl,_,rfl,aa (by decide +kernel) (ar ⟨_,rfl,rfl,_,rfl,aa (by decide +kernel) (ar ?_)⟩)⟩;refine⟨_,rfl,rfl,_,rfl,aa (by decide +kernel) ⟨_,rfl,rfl,_,rfl,aa (by decide +kernel) ?_⟩⟩;refine⟨_,rfl,rfl,_,rfl,aa (by decide +kernel) ?_⟩;refine⟨_,rfl,rfl,_,rfl,aa (by decide +kernel) ?_⟩;refine⟨_,rfl,rfl,_,rfl,aa (by decide +kernel) ?_⟩;refine⟨_,rfl,rfl,_,rfl,aa (by decide +kernel) ?_⟩;refine⟨_,rfl,_,_,rfl,rfl,(by show(0:Int)<8;decide),rfl,_,rfl,bO (fun _=>?_) (fun _=>?_)⟩
  ·exact⟨_,rfl,_,_,rfl,rfl,⟨by decide,by decide⟩,_,_,rfl,rfl,⟨by decide,by decide,by decide⟩,_,_,rfl,rfl,(by show(0:Int)<10^59;decide),q _ (.nu (c / 8%10^(59:Int).toNat)) _ (Same.refl _) rfl (bg (by decide) (by decide))⟩
  ·exact⟨_,rfl,_,_,rfl,rfl,⟨by decide,by decide⟩,_,_,rfl,rfl,(by show(0:Int)<6;decide),q _ (.nu (c / 8%6)) _ (Same.refl _) rfl (bg (by decide) (by decide))⟩
def mY:Sp:=fun vs H Q _=>∃(k:Kd) (v:V) (d:Pd) (ca:Addr) (hd:Int) (ns:List Int),vs=[.str (sg k),v,.ref ca,.int hd]/\PdAt H v d/\eC k d/\H ca=some (.tup (ns.map V.int))/\0<=hd/\hd<ns.length/\Q (.bl (okD hd ns k d)) H
theorem lf{hd i j:Int}{ns:List Int}(i0:0<=i)(h1:i<ns.length)(h2:1<=j)(h3:j<=aF ns i.toNat):dL hd ns i j=!decide ([i,j]=nmL hd ns):=by unfold dL;rw[decide_eq_true i0,decide_eq_true h1,decide_eq_true h2,decide_eq_true h3];rfl
theorem cH{hd i j:Int}{ns:List Int}(h:¬i<ns.length\/¬1<=j\/¬j<=aF ns i.toNat):dL hd ns i j=false:=by
 unfold dL;rcases h with h|h|h
 ·rw[decide_eq_false h];simp
 ·rw[decide_eq_false h];simp
 ·rw[decide_eq_false h];simp
abbrev fK:Stmt:=top 50
abbrev nE:List Str:=["_law_kind","_law_part_here","_law_clock_here","_law_hand"]
theorem mq:FnScope nE ["_law_kind","_law_part_here","_law_clock_here","_law_hand"] (ak fK):=⟨rfl,rfl,rfl,by decide +kernel,rfl,by decide +kernel,by decide +kernel⟩
theorem mh{f:Addr}{fd:FuncData}(F:Fun K "_law_is_right" "_law_is_right" fK f fd)(z_len:mg "len" = none):FnOk P w K mg base CX0 1 f fd ["_law_kind","_law_part_here","_law_clock_here","_law_hand"] mY:=by
 refine F.okQ mq (fun vs H Q E h=>?_) (fun cdv A outer s H vs Q E hr h=>?_)
 ·obtain⟨k,v,d,ca,hd,ns,rfl,_⟩:=h;rfl
 obtain⟨k,v,d,ca,hd,ns,rfl,pd,fi,hc,d0,d1,q⟩:=h;refine⟨_,(b_c (ax (t_w (bK (aq eg (q_v 1) bR) (bK (aq aD (q_v 0) ag) (bE (aq aD (q_v 0) ag))))) (b_1 (ai cM)) b_0)
   (b_c (ax (t_w (bK (aq aD (q_v 0) ag) (bE (aq aD (q_v 0) ag)))) (b_c (ax (t_w (bK (aq nZ (aE aJ (q_v 1) ad) (q_B bf z_len zt (q_a (q_v 2) ae))) (bK (aq fB (aE aJ (q_v 1) ad) ad) (bE (aq rF (aE aJ (q_v 1) ad) (aE aJ (q_v 2) (aE aJ (q_v 1) ad))))))) (b_1 (ai cM)) b_0)
   (b_1 (ai (oE (aN eG (aE aJ (q_v 1) ad) (q_v 3)) (bb (aN eG (aE aJ (q_v 1) ad) (aE aJ (q_v 2) (q_v 3)))))))) b_0)
   (b_c (ax (aq aD (q_v 0) ag) (b_1 (ai (aN eF (q_B bf z_len zt (q_a (q_v 1) ae)) ad))) b_0)
   (b_c (ax (aq aD (q_v 0) ag) (b_1 (ai (aN eF (q_B eL z_len zt (q_a (q_v 1) ae)) ad))) b_0)
   (b_c (ax (aq aD (q_v 0) ag) (b_1 (ai (aN fB (q_v 1) (q_B bf z_len zt (q_a (q_v 2) ae))))) b_0)
   (b_1 (ai (bj (aN eF ad (q_v 1)) (bb (aN fB (q_v 1) (aE aJ (q_v 2) (q_v 3)))))))))))),?_⟩
 try rw[cxK]
 have lc:((ns.map V.int).length:Int)=(ns.length:Int):=by rw[zb]
 cases k<;>cases d<;>first|exact fi.elim|skip
 case u.non =>rw[show v=.non from pd];exact⟨_,rfl,rfl,_,rfl,cb rfl (aB q)⟩
 case w.non =>rw[show v=.non from pd];exact⟨_,rfl,rfl,_,rfl,cb rfl (aB q)⟩
 case b.bl b =>rw[show v=_ from pd];exact⟨_,rfl,rfl,_,rfl,aV (by intro z;cases z) ⟨_,rfl,rfl,_,rfl,aL (aB q)⟩⟩
 case a.nu i =>rw[show v=_ from pd];exact⟨_,rfl,rfl,_,rfl,aV (by intro z;cases z) ⟨_,rfl,rfl,_,rfl,aa (by decide +kernel) ⟨_,rfl,rfl,_,rfl,aL q⟩⟩⟩
 case i.nm i j =>
  obtain⟨a,rfl,e⟩:=pd;refine⟨_,rfl,rfl,_,rfl,aV (by intro z;cases z) ⟨_,rfl,rfl,_,rfl,aa (by decide +kernel) ⟨_,rfl,rfl,_,rfl,aa (by decide +kernel) ?_⟩⟩⟩;refine⟨_,rfl,rfl,_,rfl,aL (aB ?_)⟩;have e0:=SqT.of (K:=K) e;refine⟨_,rfl,a,_,_,_,rfl,rfl,e0,at0,_,rfl,ca,_,rfl,.inr (SqT.of hc),_,_,rfl,rfl,_,rfl,bO (fun x=>aB ?_) (fun x=>?_)⟩
  ·rw[show okD hd ns .i (.nm i j)=false from cH (.inl (by omega))]at q;exact q
  have x':i<(ns.length:Int):=by omega
  refine⟨_,rfl,a,_,_,_,rfl,rfl,e0,at1,_,_,rfl,rfl,_,rfl,bO (fun y=>aB ?_) (fun y=>?_)⟩
  ·rw[show okD hd ns .i (.nm i j)=false from cH (.inr (.inl (by omega)))]at q;exact q
  refine⟨_,rfl,a,_,_,_,rfl,rfl,e0,at1,_,rfl,_,rfl,a,_,_,_,rfl,rfl,e0,at0,ca,_,_,_,rfl,rfl,SqT.of hc,br fi.1 x',_,_,rfl,rfl,_,rfl,bO (fun z=>?_) (fun z=>?_)⟩
  ·rw[show okD hd ns .i (.nm i j)=false from cH (.inr (.inr (by omega)))]at q;exact q
  rw[show okD hd ns .i (.nm i j)=!decide ([i,j]=nmL hd ns)from lf fi.1 x' (by omega) (by omega)]at q;unfold nmL at q;refine⟨_,rfl,a,_,_,_,rfl,rfl,e0,at0,_,rfl,rfl,_,rfl,?_⟩;by_cases c1:i=hd
  ·rw[decide_eq_true (show V.int i=V.int hd by rw[c1])];refine ar ⟨_,rfl,a,_,_,_,rfl,rfl,e0,at1,_,rfl,_,rfl,ca,_,_,_,rfl,rfl,SqT.of hc,br d0 d1,rfl,?_⟩;have:decide (V.int j=V.int (aF ns hd.toNat))=decide ([i,j]=[hd,aF ns hd.toNat]):=by
    rw[decide_eq_decide,c1];constructor
    ·intro z;injection z with z;rw[z]
    ·intro z;injection z with _ z;injection z with z _;rw[z]
   rw[this];exact q
  ·rw[decide_eq_false (show¬V.int i=V.int hd from fun z=>c1 (by injection z))];refine aB ?_;rw[decide_eq_false (show¬[i,j]=[hd,aF ns hd.toNat]from fun z=>c1 (by injection z))]at q;exact q
 case u.nm i j =>
  obtain⟨a,rfl,e⟩:=pd;refine⟨_,rfl,rfl,_,rfl,aV (by intro z;cases z) ⟨_,rfl,rfl,_,rfl,aa (by decide +kernel) ⟨_,rfl,rfl,_,rfl,aa (by decide +kernel) ?_⟩⟩⟩;refine⟨_,rfl,rfl,_,rfl,aa (by decide +kernel) ⟨_,rfl,rfl,_,rfl,aL ?_⟩⟩;have e0:=SqT.of (K:=K) e;refine⟨_,rfl,a,_,_,_,rfl,rfl,e0,at0,_,rfl,ca,_,rfl,.inr (SqT.of hc),_,_,rfl,rfl,_,rfl,bO (fun x=>aB ?_) (fun x=>?_)⟩
  ·rw[show okD hd ns .u (.nm i j)=false from cH (.inl (by omega))]at q;exact q
  have x':i<(ns.length:Int):=by omega
  refine⟨_,rfl,a,_,_,_,rfl,rfl,e0,at1,_,_,rfl,rfl,_,rfl,bO (fun y=>aB ?_) (fun y=>?_)⟩
  ·rw[show okD hd ns .u (.nm i j)=false from cH (.inr (.inl (by omega)))]at q;exact q
  refine⟨_,rfl,a,_,_,_,rfl,rfl,e0,at1,_,rfl,_,rfl,a,_,_,_,rfl,rfl,e0,at0,ca,_,_,_,rfl,rfl,SqT.of hc,br fi.1 x',_,_,rfl,rfl,_,rfl,bO (fun z=>?_) (fun z=>?_)⟩
  ·rw[show okD hd ns .u (.nm i j)=false from cH (.inr (.inr (by omega)))]at q;exact q
  rw[show okD hd ns .u (.nm i j)=!decide ([i,j]=nmL hd ns)from lf fi.1 x' (by omega) (by omega)]at q;unfold nmL at q;refine⟨_,rfl,a,_,_,_,rfl,rfl,e0,at0,_,rfl,rfl,_,rfl,?_⟩;by_cases c1:i=hd
  ·rw[decide_eq_true (show V.int i=V.int hd by rw[c1])];refine ar ⟨_,rfl,a,_,_,_,rfl,rfl,e0,at1,_,rfl,_,rfl,ca,_,_,_,rfl,rfl,SqT.of hc,br d0 d1,rfl,?_⟩;have:decide (V.int j=V.int (aF ns hd.toNat))=decide ([i,j]=[hd,aF ns hd.toNat]):=by
    rw[decide_eq_decide,c1];constructor
    ·intro z;injection z with z;rw[z]
    ·intro z;injection z with _ z;injection z with z _;rw[z]
   rw[this];exact q
  ·rw[decide_eq_false (show¬V.int i=V.int hd from fun z=>c1 (by injection z))];refine aB ?_;rw[decide_eq_false (show¬[i,j]=[hd,aF ns hd.toNat]from fun z=>c1 (by injection z))]at q;exact q
 case p.pl ms =>
  obtain⟨a,rfl,e⟩:=pd;refine⟨_,rfl,rfl,_,rfl,aV (by intro z;cases z) ⟨_,rfl,rfl,_,rfl,aa (by decide +kernel) ⟨_,rfl,rfl,_,rfl,aa (by decide +kernel) ?_⟩⟩⟩;refine⟨_,rfl,rfl,_,rfl,aa (by decide +kernel) ⟨_,rfl,rfl,_,rfl,aa (by decide +kernel) ?_⟩⟩;refine⟨_,rfl,rfl,_,rfl,aL ⟨_,rfl,a,_,rfl,.inr (SqT.of e),_,_,rfl,rfl,?_⟩⟩;have:decide (((ms.map V.int).length:Int)<=64)=decide (ms.length<=64):=by rw[decide_eq_decide,zb];omega
  show Q (.bl (decide (((ms.map V.int).length:Int)<=64))) H;rw[this];exact q
 case t.tx s =>
  rw[show v=_ from pd];refine⟨_,rfl,rfl,_,rfl,aV (by intro z;cases z) ⟨_,rfl,rfl,_,rfl,aa (by decide +kernel) ⟨_,rfl,rfl,_,rfl,aa (by decide +kernel) ?_⟩⟩⟩;refine⟨_,rfl,rfl,_,rfl,aa (by decide +kernel) ⟨_,rfl,rfl,_,rfl,aa (by decide +kernel) ?_⟩⟩;refine⟨_,rfl,rfl,_,rfl,aa (by decide +kernel) ?_⟩;refine⟨_,rfl,rfl,_,rfl,aL ⟨_,rfl,s,rfl,zq fi.2 (by decide),_,_,rfl,rfl,?_⟩⟩;have:decide ((s.length:Int)<=60)=decide (s.length<=60):=by rw[decide_eq_decide];omega
  show Q (.bl (decide ((s.length:Int)<=60))) H;rw[this];exact q
 case w.nu i =>rw[show v=_ from pd];refine⟨_,rfl,rfl,_,rfl,aV (by intro z;cases z) ⟨_,rfl,rfl,_,rfl,aa (by decide +kernel) ⟨_,rfl,rfl,_,rfl,aa (by decide +kernel) ?_⟩⟩⟩;refine⟨_,rfl,rfl,_,rfl,aa (by decide +kernel) ⟨_,rfl,rfl,_,rfl,aa (by decide +kernel) ?_⟩⟩;refine⟨_,rfl,rfl,_,rfl,aa (by decide +kernel) ?_⟩;refine⟨_,rfl,rfl,_,rfl,aa (by decide +kernel) ?_⟩;refine⟨_,rfl,rfl,_,rfl,aL ⟨_,rfl,_,rfl,ca,_,rfl,.inr (SqT.of hc),_,_,rfl,rfl,?_⟩⟩;rw[lc];exact q
 case n.nu i =>
  rw[show v=_ from pd];refine⟨_,rfl,rfl,_,rfl,aV (by intro z;cases z) ⟨_,rfl,rfl,_,rfl,aa (by decide +kernel) ⟨_,rfl,rfl,_,rfl,aa (by decide +kernel) ?_⟩⟩⟩;refine⟨_,rfl,rfl,_,rfl,aa (by decide +kernel) ⟨_,rfl,rfl,_,rfl,aa (by decide +kernel) ?_⟩⟩;refine⟨_,rfl,rfl,_,rfl,aa (by decide +kernel) ?_⟩;refine⟨_,rfl,rfl,_,rfl,aa (by decide +kernel) ?_⟩;refine⟨_,rfl,rfl,_,rfl,aa (by decide +kernel) ?_⟩;refine⟨_,rfl,_,_,rfl,rfl,_,rfl,?_⟩;have q':Q (.bl (decide (1<=i)&&decide (i<aF ns hd.toNat))) H:=q;cases c1:decide (1<=i)with
  |true =>rw[c1,zM]at q';exact aB ⟨_,rfl,_,rfl,_,rfl,ca,_,_,_,rfl,rfl,SqT.of hc,br d0 d1,_,_,rfl,rfl,q'⟩
  |false =>rw[c1,zP]at q';exact ar q'
def AlkF(x y:V):Prop:=x=y/\(x=.non\/(∃s,x=.str s)\/(∃i,x=.int i)\/∃b,x=.bl b)
def Alk:Nat->Hp->V->V->Prop
 |0,_,x,y=>AlkF x y
 |n+1,H,x,y=>AlkF x y\/∃(a b:Addr) (xs ys:List V),x=.ref a/\y=.ref b/\H a=some (.tup xs)/\H b=some (.tup ys)/\xs.length=ys.length/\xs.length<=100/\∀(i:Nat) (u v:V),xs[i]?=some u->ys[i]?=some v->Alk n H u v
theorem Alk.same:∀{n:Nat} {H H':Hp} {x y:V},Alk n H x y->Same H H'->Alk n H' x y
 |0,_,_,_,_,h,_=>h
 |n+1,_,_,_,_,h,s=>by
  rcases h with h|⟨a,b,xs,ys,h1,h2,h3,h4,h5,h6,h7⟩
  ·exact .inl h
  ·exact .inr ⟨a,b,xs,ys,h1,h2,s _ _ h3,s _ _ h4,h5,h6,fun i u v e1 e2=>(h7 i u v e1 e2).same s⟩
theorem Alk.up{n:Nat}{H:Hp}{x y:V}(h:Alk n H x y):Alk (n+1) H x y:=by
 induction n generalizing x y with
 |zero=>exact .inl h
 |succ n ih =>
  rcases h with h|⟨a,b,xs,ys,h1,h2,h3,h4,h5,h6,h7⟩
  ·exact .inl h
  ·exact .inr ⟨a,b,xs,ys,h1,h2,h3,h4,h5,h6,fun i u v e1 e2=>ih (h7 i u v e1 e2)⟩
def gY(n:Nat):Sp:=fun vs H Q _=>∃x y:V,vs=[x,y]/\Alk n H x y/\∀H',Same H H'->Q (.bl true) H'
theorem bS{T:String}:∀v,RelV (.ty T) v->v=.type T:=fun v h=>h
abbrev eS:Stmt:=top 53
abbrev tj:List Str:=["_law_found","_law_due"]
theorem sd:FnScope tj ["_law_found","_law_due"] (ak eS):=⟨rfl,rfl,rfl,by decide +kernel,rfl,by decide +kernel,by decide +kernel⟩
def mW:Sp:=fun _ _ _ _=>False
theorem AlkF.ty{K:PySem.W.Frag}{H:Hp}{x y:V}(h:AlkF x y):∃n,TyOf K H x (.type n)/\isT H x=false:=by
 rcases h.2 with e|⟨s,e⟩|⟨i,e⟩|⟨b,e⟩<;>subst e
 ·exact⟨_,.non,rfl⟩
 ·exact⟨_,.str s,rfl⟩
 ·exact⟨_,.int i,rfl⟩
 ·exact⟨_,.bl b,rfl⟩
theorem jV{k n:Nat}{sp:Sp}{f:Addr}{fd:FuncData}(hsp:∀m,n=m+1->sp=gY m)(F:Fun K "_law_alike" "_law_alike" eS f fd)(F_alike:Fn P w K mg base k "_law_alike" ["_law_found","_law_due"] sp)(z_isinstance:mg "isinstance" = none)(z_tuple:mg "tuple" = none)(z_str:mg "str" = none)(z_int:mg "int" = none)(z_bool:mg "bool" = none)(z_len:mg "len" = none)(z_all:mg "all" = none)(z_range:mg "range" = none):FnOk P w K mg base CX0 (k+1) f fd ["_law_found","_law_due"] (gY n):=by
 refine F.okQ sd (fun vs H Q E h=>?_) (fun cdv A outer s H vs Q E hr h=>?_)
 ·obtain⟨x,y,rfl,_⟩:=h;rfl
 obtain⟨x,y,rfl,al,q⟩:=h;refine⟨_,(b_c (ax (bc (q_B (bW (K:=K) rfl) z_isinstance au (q_a (q_v 1) (q_a (bP z_tuple aU) ae)))) (b_c (ax (t_w (bK (bq (bc (q_B (bW (K:=K) rfl) z_isinstance au (q_a (q_v 0) (q_a (bP z_tuple aU) ae))))) (bE (aq eG (q_B bf z_len zt (q_a (q_v 0) ae)) (q_B bf z_len zt (q_a (q_v 1) ae)))))) (b_1 (ai cM)) b_0)
   (b_1 (ai (q_B (gM rfl) z_all cD (q_a (bD (own:=["_law_k"]) (⟨rfl,by decide +kernel,by decide +kernel,rfl,⟨rfl,rfl,⟨rfl,rfl,trivial⟩⟩⟩:CompOk _ _ [0,1] ["_law_found","_law_due"]) rfl (dj z_range (q_a (q_B bf z_len zt (q_a (q_v 1) ae)) ae)) (fun _ _ _ _=>aP (i:=0) (show (["_law_k","_law_found","_law_due"]:List Str).Nodup by decide +kernel)) (aT (by decide)) (fun _ _ _ _=>ck) (fun _ _ _ _=>(aC F_alike (hr.mono (by omega)) (q_a (aE (qR (K:=K) rfl) (q_v 1) (q_v 0)) (q_a (aE (qR (K:=K) rfl) (q_v 2) (q_v 0)) ae))))) ae))))) b_0)
   (b_c (ax (aq eg (q_v 1) bR) (b_1 (ai (aN eg (q_v 0) bR))) b_0)
   (b_c (ax (bc (q_B (bW (K:=K) rfl) z_isinstance au (q_a (q_v 1) (q_a (bP z_str aX) ae)))) (b_1 (ai (bj (q_B (bW (K:=K) rfl) z_isinstance au (q_a (q_v 0) (q_a (bP z_str aX) ae))) (bb (aN aD (q_v 0) (q_v 1)))))) b_0)
   (b_1 (ai (bj (q_B (bW (K:=K) rfl) z_isinstance au (q_a (q_v 0) (q_a (bP z_int cA) ae))) (bj (aN aD (q_B (bW (K:=K) rfl) z_isinstance au (q_a (q_v 0) (q_a (bP z_bool dU) ae))) (q_B (bW (K:=K) rfl) z_isinstance au (q_a (q_v 1) (q_a (bP z_bool dU) ae)))) (bb (aN aD (q_v 0) (q_v 1)))))))))),?_⟩
 try rw[cxK]
 have tip:AlkF x y\/∃m,n=m+1/\∃(a b:Addr) (xs ys:List V),x=.ref a/\y=.ref b/\H a=some (.tup xs)/\H b=some (.tup ys)/\xs.length=ys.length/\xs.length<=100/\∀(i:Nat) (u v:V),xs[i]?=some u->ys[i]?=some v->Alk m H u v:=by
  cases n with
  |zero=>exact .inl al
  |succ m =>
   rcases al with h|h
   ·exact .inl h
   ·exact .inr ⟨m,rfl,h⟩
 rcases tip with h|⟨m,rfl,a,b,xs,ys,rfl,rfl,ea,eb,el,l1,hi⟩
 ·obtain⟨t,ty,nt⟩:=h.ty (K:=K) (H:=H);obtain⟨rfl,h⟩:=h;refine⟨_,rfl,x,.ty "tuple",.type "tuple",isT H x,rfl,bS,.inl ⟨_,ty,cG ty⟩,_,rfl,?_⟩;rw[nt];refine ar ?_;rcases h with e|⟨s,e⟩|⟨i,e⟩|⟨b,e⟩<;>subst e
  ·exact⟨_,rfl,rfl,_,rfl,cb rfl ⟨_,rfl,rfl,q _ (Same.refl _)⟩⟩
  ·refine⟨_,rfl,rfl,_,rfl,aV (by intro z;cases z) ?_⟩;refine⟨_,rfl,.str s,.ty "str",.type "str",true,rfl,bS,.inl ⟨_,.str s,cW (H:=H) (.str s)⟩,_,rfl,aB ?_⟩;refine⟨_,rfl,.str s,.ty "str",.type "str",true,rfl,bS,.inl ⟨_,.str s,cW (H:=H) (.str s)⟩,_,rfl,aB ?_⟩;refine⟨_,rfl,_,rfl,rfl,?_⟩;rw[decide_eq_true (rfl:V.str s=V.str s)];exact q _ (Same.refl _)
  ·refine⟨_,rfl,rfl,_,rfl,aV (by intro z;cases z) ?_⟩;refine⟨_,rfl,.int i,.ty "str",.type "str",false,rfl,bS,.inl ⟨_,.int i,cW (H:=H) (.int i)⟩,_,rfl,ar ?_⟩;refine⟨_,rfl,.int i,.ty "int",.type "int",true,rfl,bS,.inl ⟨_,.int i,jB (H:=H) (.int i)⟩,_,rfl,aB ?_⟩;refine⟨_,rfl,.int i,.ty "bool",.type "bool",false,rfl,bS,.inl ⟨_,.int i,cV (H:=H) (.int i)⟩,?_⟩;refine⟨_,rfl,.int i,.ty "bool",.type "bool",false,rfl,bS,.inl ⟨_,.int i,cV (H:=H) (.int i)⟩,?_⟩;refine⟨rfl,_,rfl,aB ?_⟩;refine⟨_,rfl,_,rfl,rfl,?_⟩;rw[decide_eq_true (rfl:V.int i=V.int i)];exact q _ (Same.refl _)
  ·refine⟨_,rfl,rfl,_,rfl,aV (by intro z;cases z) ?_⟩;refine⟨_,rfl,.bl b,.ty "str",.type "str",false,rfl,bS,.inl ⟨_,.bl b,cW (H:=H) (.bl b)⟩,_,rfl,ar ?_⟩;refine⟨_,rfl,.bl b,.ty "int",.type "int",true,rfl,bS,.inl ⟨_,.bl b,jB (H:=H) (.bl b)⟩,_,rfl,aB ?_⟩;refine⟨_,rfl,.bl b,.ty "bool",.type "bool",true,rfl,bS,.inl ⟨_,.bl b,cV (H:=H) (.bl b)⟩,?_⟩;refine⟨_,rfl,.bl b,.ty "bool",.type "bool",true,rfl,bS,.inl ⟨_,.bl b,cV (H:=H) (.bl b)⟩,?_⟩;refine⟨rfl,_,rfl,aB ?_⟩;refine⟨_,rfl,_,rfl,rfl,?_⟩;rw[decide_eq_true (rfl:V.bl b=V.bl b)];exact q _ (Same.refl _)
 ·have hm:=hsp m rfl;subst hm;refine⟨_,rfl,.ref b,.ty "tuple",.type "tuple",true,rfl,bS,.inl ⟨_,.tup eb,(cG (.tup eb)).trans (by rw[aY eb (b:=true) rfl])⟩,_,rfl,aB ?_⟩;refine⟨_,rfl,.ref a,.ty "tuple",.type "tuple",true,rfl,bS,.inl ⟨_,.tup ea,(cG (.tup ea)).trans (by rw[aY ea (b:=true) rfl])⟩,_,rfl,ar ?_⟩;refine⟨_,rfl,a,xs,rfl,.inr (SqT.of ea),_,rfl,b,ys,rfl,.inr (SqT.of eb),rfl,_,rfl,?_⟩;have e:decide (V.int (xs.length:Int)=V.int (ys.length:Int))=true:=decide_eq_true (by rw[el]);rw[e];refine ar ?_;refine⟨_,rfl,b,ys,rfl,.inr (SqT.of eb),_,rfl,by omega,by omega,?_⟩;rw[show(ys.length:Int).toNat=ys.length from Zt _];refine dz (N:=ys.length) (lo:=0) (fun _=>.bl true) (by omega) (fun i H1 hi1 s1 R k=>?_) (fun p H1 s1 g1=>?_)
  ·have hx:i<xs.length:=by omega
   refine⟨_,rfl,_,rfl,a,_,_,_,rfl,rfl,SqT.of (s1 _ _ ea),(by rw[Int.zero_add];exact bo (zd hx)),?_⟩;refine⟨_,rfl,_,rfl,b,_,_,_,rfl,rfl,SqT.of (s1 _ _ eb),(by rw[Int.zero_add];exact bo (zd hi1)),?_⟩;exact⟨_,_,rfl,(hi i _ _ (zd hx) (zd hi1)).same s1,fun H2 s2=>k H2 s2⟩
  ·refine⟨p,List.replicate ys.length true,rfl,SqL.of ?_,?_⟩
   ·rw[af];refine Zd (fun l=>some (HO.lst l)) (List.ext_getElem (by simp) fun i h1 h2=>by simp)
   ·rw[show(List.replicate ys.length true).all id=true by simp];exact q _ (s1.trans (aj g1 _))
theorem qk{f:Addr}{fd:FuncData}(F:Fun K "_law_alike" "_law_alike" eS f fd)(F_alike:Fn P w K mg base 1 "_law_alike" ["_law_found","_law_due"] mW)(z_isinstance:mg "isinstance" = none)(z_tuple:mg "tuple" = none)(z_str:mg "str" = none)(z_int:mg "int" = none)(z_bool:mg "bool" = none)(z_len:mg "len" = none)(z_all:mg "all" = none)(z_range:mg "range" = none):FnOk P w K mg base CX0 2 f fd ["_law_found","_law_due"] (gY 0) :=
 jV (fun _ z=>by cases z) F F_alike z_isinstance z_tuple z_str z_int z_bool z_len z_all z_range
theorem gc{k n:Nat}{f:Addr}{fd:FuncData}(F:Fun K "_law_alike" "_law_alike" eS f fd)(F_alike:Fn P w K mg base k "_law_alike" ["_law_found","_law_due"] (gY n))(z_isinstance:mg "isinstance" = none)(z_tuple:mg "tuple" = none)(z_str:mg "str" = none)(z_int:mg "int" = none)(z_bool:mg "bool" = none)(z_len:mg "len" = none)(z_all:mg "all" = none)(z_range:mg "range" = none):FnOk P w K mg base CX0 (k+1) f fd ["_law_found","_law_due"] (gY (n+1)) :=
 jV (fun m z=>by rw[show n=m by omega]) F F_alike z_isinstance z_tuple z_str z_int z_bool z_len z_all z_range
theorem im{H:Hp}{a b:Addr}{ns:List Int}(ea:H a=some (.tup (ns.map V.int)))(eb:H b=some (.tup (ns.map V.int)))(l:ns.length<=100):Alk 1 H (.ref a) (.ref b) :=
 .inr ⟨a,b,_,_,rfl,rfl,ea,eb,rfl,by rw[zb];exact l,fun i u v e1 e2=>by
  rw[e1]at e2;cases e2;obtain⟨rfl,_⟩:=fz e1;exact⟨rfl,.inr (.inr (.inl ⟨_,rfl⟩))⟩⟩
theorem PdAt.alk{H:Hp}{u v:V}{k:Kd}{d:Pd}(x:PdAt H u d)(y:PdAt H v d)(f:eC k d):Alk 1 H u v:=by
 cases d with
 |non=>rw[show u=.non from x,show v=.non from y];exact .inl ⟨rfl,.inl rfl⟩
 |bl b=>rw[show u=.bl b from x,show v=.bl b from y];exact .inl ⟨rfl,.inr (.inr (.inr ⟨b,rfl⟩))⟩
 |nu i=>rw[show u=.int i from x,show v=.int i from y];exact .inl ⟨rfl,.inr (.inr (.inl ⟨i,rfl⟩))⟩
 |tx s=>rw[show u=.str s from x,show v=.str s from y];exact .inl ⟨rfl,.inr (.inl ⟨s,rfl⟩)⟩
 |nm i j =>obtain⟨a,rfl,e⟩:=x;obtain⟨b,rfl,e'⟩:=y;exact im e e' (by show 2<=100;decide)
 |pl ms =>
  obtain⟨a,rfl,e⟩:=x;obtain⟨b,rfl,e'⟩:=y;refine im e e' ?_;cases k<;>first|exact f.elim|skip
  exact zq f.2.1 (by decide)
theorem DeedAt.alk{H:Hp}{u v:V}{D:Dt14}{hands:Int}(x:DeedAt H u D)(y:DeedAt H v D)(Fi:D.Fit hands):Alk 3 H u v:=by
 obtain⟨d,c,t,ps,rfl,h1,h2,h3,h4,h5⟩:=x;obtain⟨d',c',t',ps',rfl,g1,g2,g3,g4,g5⟩:=y;have nl:=Fi.nl;have n8:=Fi.n8;have l3:=Fi.l3;have hl:=Fi.len;have ac:Alk 1 H (.ref c) (.ref c'):=im h2 g2 (by omega);have at':Alk 2 H (.ref t) (.ref t'):=by
  refine .inr ⟨t,t',_,_,rfl,rfl,h3,g3,by simp[h4,g4],by simp;omega,fun i u v e1 e2=>?_⟩;cases i with
  |zero =>cases e1;cases e2;exact .inl ⟨rfl,.inr (.inl ⟨_,rfl⟩)⟩
  |succ i =>
   have e1:ps[i]?=some u:=e1;have e2:ps'[i]?=some v:=e2;have hi:i<D.ds.length:=by rw[<-h4];exact(zj.mp e1).1
   have ed:=zd hi;have ek:=zd (l:=D.ks) (i:=i) (by omega);exact(h5 i u _ e1 ed).alk (g5 i v _ e2 ed) (Fi.fit i _ _ ek ed)
 refine .inr ⟨d,d',_,_,rfl,rfl,h1,g1,rfl,by simp,fun i u v e1 e2=>?_⟩
 match i,e1,e2 with
 |0,e1,e2 =>cases e1;cases e2;exact .inl ⟨rfl,.inr (.inr (.inl ⟨_,rfl⟩))⟩
 |1,e1,e2 =>cases e1;cases e2;exact ac.up
 |2,e1,e2 =>cases e1;cases e2;exact at'
 |n+3,e1,e2=>cases e1
structure Er14(K:PySem.W.Frag)(cL cT:Addr):Prop where
 kT:ExK K cT
 tl:PySem.W.kitOne K (.ref cT) (.ref cL)=some true
def sT:Sp:=fun vs H Q _=>∃(D:Dt14) (hands:Int) (w0:Str) (v:V),vs=[.str (bQ w0 D),v,.int hands]/\D.Fit hands /\
 ((w0=ah D.h/\cw hands D=true/\DeedAt H v D)\/(v=.non/\(w0="0"++ah D.h\/(w0=ah D.h/\cw hands D=false))))/\∀H',Same H H'->Q (.bl true) H'
abbrev iy:Stmt:=top 54
abbrev qT:List Str:=["_law_line","_law_due","_law_hands","_law_found","_law_refused","e","_law_told"]
theorem bV:FnScope qT ["_law_line","_law_due","_law_hands"] (ak iy):=⟨rfl,rfl,rfl,by decide +kernel,rfl,by decide +kernel,by decide +kernel⟩
theorem ql{f cL cT:Addr}{fd:FuncData}{bT:List Value}(F:Fun K "_law_as_due" "_law_as_due" iy f fd)(FX_read:FnX P w K mg base 8 "read" ["text","hands"] (qH cT))(F_alike:Fn P w K mg base 5 "_law_alike" ["_law_found","_law_due"] (gY 3))(F_written:Fn P w K mg base 3 "written" ["deed"] jY)(er:Er14 K cL cT)(xc_NoText:ExC K cT bT)(g_NoText:mg "NoText" = some (.ref cT))(g_LimbError:mg "LimbError" = some (.ref cL))(z_isinstance:mg "isinstance" = none)(z_str:mg "str" = none)(z_int:mg "int" = none):FnOk P w K mg base CX0 9 f fd ["_law_line","_law_due","_law_hands"] sT:=by
 refine F.okQ bV (fun vs H Q E h=>?_) (fun cdv A outer s H vs Q E hr h=>?_)
 ·obtain⟨D,hands,w0,v,rfl,_⟩:=h;rfl
 obtain⟨D,hands,w0,v,rfl,Fi,h,q⟩:=h;refine⟨_,(b_c (aG (i:=3) bV.nd bR)
   (b_c (aG (i:=4) bV.nd ad)
   (b_c (wb rfl rfl (wj (i:=3) bV.nd (wF FX_read (hr.mono (by decide)) (q_a (q_v 0) (q_a (q_v 2) ae)))) (wN (i:=5) bV.nd xc_NoText g_NoText (fun _=>(b_1 (aG (i:=4) bV.nd (am bu ad (bL nL z_int cA (q_a (q_B (bW (K:=K) rfl) z_isinstance au (q_a (q_v 5) (q_a (rV g_LimbError) ae))) ae))))))))
   (b_c (ax (aq eg (q_v 1) bR) (b_1 (ai (aN aD (q_v 4) ad))) b_0)
   (b_c (ax (t_w (bK (aq rF (q_v 4) ad) (bE (bq (bc (aC F_alike (hr.mono (by decide)) (q_a (q_v 3) (q_a (q_v 1) ae)))))))) (b_1 (ai cM)) b_0)
   (b_c (aG (i:=6) bV.nd (aC F_written (hr.mono (by decide)) (q_a (q_v 3) ae)))
   (b_1 (ai (bj (q_B (bW (K:=K) rfl) z_isinstance au (q_a (q_v 6) (q_a (bP z_str aX) ae))) (bb (aN aD (q_v 6) (q_v 0)))))))))))),?_⟩
 try rw[cxK]
 rcases h with⟨rfl,db,da⟩|⟨rfl,hw⟩
 ·refine⟨_,rfl,_,rfl,D,hands,_,rfl,Fi,.inl ⟨rfl,fun _ u H1 s1 du=>?_,fun z=>(by rw[db]at z;cases z)⟩⟩;have dv:=da.same s1;obtain⟨d0,c0,t0,ps0,rfl,_⟩:=id da;refine⟨_,rfl,rfl,_,rfl,aV (by intro z;cases z) ?_⟩;refine⟨_,rfl,_,_,rfl,rfl,_,rfl,ar ?_⟩;refine⟨_,rfl,_,rfl,u,.ref d0,rfl,du.alk dv Fi,fun H2 s2=>⟨_,rfl,ar ?_⟩⟩;have dw:=du.same s2;obtain⟨d1,c1,t1,ps1,rfl,k1,k2,k3,k4,k5⟩:=dw;have nl:=Fi.nl;have n8:=Fi.n8;refine⟨_,rfl,d1,c1,t1,D.h,D.ns,D.wd,D.ks,ps1,D.xs,rfl,k1,k2,k3,Fi.hs,fun n hn=>(Fi.nn n hn).2,by omega,Fi.wl,Fi.l3,Fi.dat,⟨by rw[k4,Fi.len],by rw[ji Fi,k4,Fi.len],fun i k v x e1 e2 e3=>?_⟩,fun H3 s3=>?_⟩
  ·obtain⟨d,ed,rfl⟩:=jh e1 e3;exact(k5 i v d e2 ed).part (Fi.fit i k d e1 ed)
  refine⟨_,rfl,.str _,.ty "str",.type "str",true,rfl,bS,.inl ⟨_,.str _,cW (H:=H3) (.str "")⟩,_,rfl,aB ?_⟩;refine⟨_,rfl,_,rfl,rfl,?_⟩;rw[decide_eq_true (show V.str (Txt.join " " (ah D.h::Txt.join "," (D.ns.map ah)::D.wd::D.xs))=V.str (bQ (ah D.h) D)from rfl)];exact q _ (s1.trans (s2.trans s3))
 ·rcases hw with rfl|⟨rfl,db⟩
  ·refine⟨_,rfl,_,rfl,D,hands,_,rfl,Fi,.inr ⟨rfl,fun H1 s1=>?_⟩⟩;refine⟨cT,bT,rfl,xc_NoText,by simp,fun ea he=>?_⟩;have we:=aj he (exD ea cT none);refine⟨_,rfl,_,_,_,_,rfl,fun v hv=>hv,.inr ⟨ea,cT,none,rfl,af,trivial,er.kT,er.tl⟩,.inr ⟨_,rfl,?_⟩⟩;refine⟨_,_,rfl,rfl,?_⟩;exact⟨_,rfl,rfl,_,rfl,cb rfl ⟨_,rfl,rfl,q _ (s1.trans we)⟩⟩
  ·refine⟨_,rfl,_,rfl,D,hands,_,rfl,Fi,.inl ⟨rfl,fun z=>(by rw[db]at z;cases z),fun _ H1 s1=>?_⟩⟩;refine⟨cT,bT,rfl,xc_NoText,by simp,fun ea he=>?_⟩;have we:=aj he (exD ea cT none);refine⟨_,rfl,_,_,_,_,rfl,fun v hv=>hv,.inr ⟨ea,cT,none,rfl,af,trivial,er.kT,er.tl⟩,.inr ⟨_,rfl,?_⟩⟩;refine⟨_,_,rfl,rfl,?_⟩;exact⟨_,rfl,rfl,_,rfl,cb rfl ⟨_,rfl,rfl,q _ (s1.trans we)⟩⟩
theorem vb(D:Dt14)(x:Str):("0":Str)++bQ x D=bQ ("0"++x) D:=by unfold bQ;rw[show Txt.join (" ":Str) (x::ba "," D.ns::D.wd::D.xs)=Str.join (ch1 32) (x::ba "," D.ns::D.wd::D.xs) by rw[blk];exact StrLaws.glued_eq_join _ _];rw[show Txt.join (" ":Str) (("0"++x)::ba "," D.ns::D.wd::D.xs)=Str.join (ch1 32) (("0"++x)::ba "," D.ns::D.wd::D.xs) by rw[blk];exact StrLaws.glued_eq_join _ _];refine fc ?_;rw[eZ,bG 32 x,bG 32 ("0"++x),eZ,List.append_assoc]
theorem uw{m:Nat}{x:Str}(h:WDS[m]?=some x):NoB x:=by
 have k:∀x∈WDS,(x.cps.toList.contains 32)=false:=by decide +kernel
 intro hm;have:=k x (z9 h);rw[List.contains_iff_mem.mpr hm]at this;cases this
theorem uV{m:Nat}{l:List Kd}(h:KDS[m]?=some l):∀i:Nat,l[i]?=some .t->i+1=l.length:=fun i hi=>by
 have k:∀l∈KDS,∀i:Fin 3,l[i.val]?=some .t->i.val+1=l.length:=by decide
 have lk:=mI h;have hl:=(zj.mp hi).1;exact k l (z9 h) ⟨i,by omega⟩ hi
theorem sk{α β:Type}{ys:List α}{ds:List β}{v:α}{d:β}(h:ys.length=ds.length){j:Nat}{p:α}{x:β}(h1:(ys++[v])[j]?=some p)(h2:(ds++[d])[j]?=some x):(ys[j]?=some p/\ds[j]?=some x)\/(j=ds.length/\p=v/\x=d):=by
 by_cases hj:j<ys.length
 ·rw[z0 hj]at h1;rw[z0 (by omega)]at h2;exact .inl ⟨h1,h2⟩
 ·have hl:=(zj.mp h1).1;rw[zr]at hl;have e:j=ys.length:=by simp at hl;omega
  subst e;rw[zY (ze _),Nat.sub_self]at h1;rw[h,zY (ze _),Nat.sub_self]at h2;cases h1;cases h2;exact .inr ⟨h,rfl,rfl⟩
theorem sv{l:List Bool}{i:Nat}(h:i<l.length):(l.take (i+1)).all id=((l.take i).all id&&l[i]):=by rw[List.take_succ_eq_append_getElem h,List.all_append];simp
def DueC(H:Hp)(D:Dt14)(hands:Int)(w0:Str)(v:V):Prop:=(w0=ah D.h/\cw hands D=true/\DeedAt H v D)\/(v=.non/\(w0="0"++ah D.h\/(w0=ah D.h/\cw hands D=false)))
def mU(K:PySem.W.Frag):Sp:=fun vs H Q _=>∃(a:Addr) (sc:List Int) (at' hands:Int),vs=[.ref a,.int at',.int hands]/\SqL K H a (sc.map V.int)/\0<=at'/\1<=hands/\hands<=8 /\
 ∀(r:Addr) (D:Dt14) (w0:Str) (v:V) (H':Hp),Same H H'->H' r=some (.tup [.str (bQ w0 D),v])->D.Fit hands->DueC H' D hands w0 v->Q (.ref r) H'
theorem sr{xs:List Str}{n:Nat}(h:xs.length=n):((List.range n).map fun i=>V.str (xs.getD i ""))=xs.map V.str:=by
 refine List.ext_getElem (by simp[h]) fun i h1 h2=>?_;have:i<xs.length:=by rw[zb]at h2;exact h2
 rw[List.getElem_map,List.getElem_map,List.getElem_range];simp[this]
abbrev eT:Stmt:=top 52
abbrev mv:List Str:=["_law_script","_law_at","_law_hands","_law_cell","_law_hand","_law_clock_here","_law_way","_law_words","_law_kinds","_law_parts","_law_line","_law_due","_law_j"]
theorem be:FnScope mv ["_law_script","_law_at","_law_hands"] (ak eT):=⟨rfl,rfl,rfl,by decide +kernel,rfl,by decide +kernel,by decide +kernel⟩
theorem rH{f:Addr}{fd:FuncData}(F:Fun K "_law_drawn" "_law_drawn" eT f fd)(F_cell_at:Fn P w K mg base 1 "_law_cell_at" ["_law_script","_law_k"] (lN K))(F_clock:Fn P w K mg base 1 "_law_clock" ["_law_cell","_law_hands"] mT)(F_part:Fn P w K mg base 2 "_law_part" ["_law_kind","_law_cell","_law_hands"] qG)(F_word:Fn P w K mg base 1 "_law_word" ["_law_kind","_law_part_here"] qL)(F_is_right:Fn P w K mg base 1 "_law_is_right" ["_law_kind","_law_part_here","_law_clock_here","_law_hand"] mY)(dg:PySem.W.nsIn K cStatics "sys.int_max_str_digits" = some none)(z_str:mg "str" = none)(z_tuple:mg "tuple" = none)(z_range:mg "range" = none)(z_len:mg "len" = none):FnOk P w K mg base CX0 3 f fd ["_law_script","_law_at","_law_hands"] (mU K):=by
 refine F.okQ be (fun vs H Q E h=>?_) (fun cdv A outer s H vs Q E hr h=>?_)
 ·obtain⟨a,sc,at',hands,rfl,_⟩:=h;rfl
 obtain⟨a,sc,at',hands,rfl,hS,a0,h1,h8,q⟩:=h;have hb:∃t,QB (cU CX0 P w K mg base mv "_law_drawn" (ak eT) f cdv A outer s H E).nox ((bC eT).drop 6) t/\∀(cell hd:Int) (c:Addr) (ns:List Int) (m:Nat) (ks:List Kd) (wd:Str) (wl:Addr) (H1:Hp) (o9 o10 o11 o12:Option V),0<=hd->hd<hands+1->KDS[m]?=some ks->WDS[m]?=some wd->Same H H1->H1 wl=some (.lst (WDS.map V.str))->H1 c=some (.tup (ns.map V.int))->(ns.length:Int)=hands->(∀n∈ns,0<=n/\Sm n)->t { nx:=fun _ H'=>Q .non H',rt:=Q } [some (.ref a),some (.int at'),some (.int hands),some (.int cell),some (.int hd),some (.ref c),some (.int m),some (.ref wl),some (.str (kst ks)),o9,o10,o11,o12] H1:=by
  refine⟨_,(b_c (aG (i:=9) be.nd (bD (own:=["_law_j"]) (⟨rfl,by decide +kernel,by decide +kernel,rfl,⟨rfl,rfl,⟨rfl,rfl,⟨rfl,rfl,⟨rfl,rfl,trivial⟩⟩⟩⟩⟩:CompOk _ _ [8,0,1,2] ["_law_kinds","_law_script","_law_at","_law_hands"]) rfl (dj z_range (q_a (q_B eL z_len zt (q_a (q_v 8) ae)) ae)) (fun _ _ _ _=>aP (i:=0) (show (["_law_j","_law_kinds","_law_script","_law_at","_law_hands"]:List Str).Nodup by decide +kernel)) (aT (by decide)) (fun _ _ _ _=>ck) (fun _ _ _ _=>(aC F_part (hr.mono (by decide)) (q_a (aE kF (q_v 1) (q_v 0)) (q_a (aC F_cell_at (hr.mono (by decide)) (q_a (q_v 2) (q_a (am bu (am bu (q_v 3) ad) (q_v 0)) ae))) (q_a (q_v 4) ae)))))))
   (b_c (aG (i:=10) be.nd (fF (q_a (bL (bX (K:=K) rfl rfl dg) z_str aX (q_a (q_v 4) ae)) (q_a (gh ag (bD (own:=["_law_number"]) (⟨rfl,by decide +kernel,by decide +kernel,rfl,trivial⟩:CompOk _ _ [] []) rfl (iN (q_v 5)) (fun _ _ _ _=>aP (i:=0) (show (["_law_number"]:List Str).Nodup by decide +kernel)) (aT (by decide)) (fun _ _ _ _=>ck) (fun _ _ _ _=>(bL (bX (K:=K) rfl rfl dg) z_str aX (q_a (q_v 0) ae))))) (q_a (aE bF (q_v 7) (q_v 6)) ae)))))
   (b_c (aG (i:=10) be.nd (gh ag (am sL (q_v 10) (bD (own:=["_law_j"]) (⟨rfl,by decide +kernel,by decide +kernel,rfl,⟨rfl,rfl,⟨rfl,rfl,trivial⟩⟩⟩:CompOk _ _ [8,9] ["_law_kinds","_law_parts"]) rfl (dj z_range (q_a (q_B eL z_len zt (q_a (q_v 8) ae)) ae)) (fun _ _ _ _=>aP (i:=0) (show (["_law_j","_law_kinds","_law_parts"]:List Str).Nodup by decide +kernel)) (aT (by decide)) (fun _ _ _ _=>ck) (fun _ _ _ _=>(aC F_word (hr.mono (by decide)) (q_a (aE kF (q_v 1) (q_v 0)) (q_a (aE (nz (K:=K) rfl) (q_v 2) (q_v 0)) ae))))))))
   (b_c (aG (i:=11) be.nd (bj (aN fB (q_v 4) (q_v 2)) (bb (aN rF (aE aJ (q_v 5) (am aM (q_v 4) (q_v 2))) ad))))
   (b_c (iX PassesOwn.never rfl (dj z_range (q_a (q_B eL z_len zt (q_a (q_v 8) ae)) ae)) (aP (i:=12) be.nd) (b_1 (aG (i:=11) be.nd (bj (q_v 11) (bb (aC F_is_right (hr.mono (by decide)) (q_a (aE kF (q_v 8) (q_v 12)) (q_a (aE bF (q_v 9) (q_v 12)) (q_a (q_v 5) (q_a (q_v 4) ae))))))))))
   (b_c (ax (aq aD (am aM (aC F_cell_at (hr.mono (by decide)) (q_a (q_v 0) (q_a (am bu (q_v 1) ad) ae))) ad) ad) (b_1 (ai (cy (q_a (am gb ag (q_v 10)) (q_a bR ae))))) b_0)
   (b_c (ax (bq (bc (q_v 11))) (b_1 (ai (cy (q_a (q_v 10) (q_a bR ae))))) b_0)
   (b_1 (ai (cy (q_a (q_v 10) (q_a (cy (q_a (q_v 4) (q_a (q_v 5) (q_a (am qi (cy (q_a (aE bF (q_v 7) (q_v 6)) ae)) (bL iI z_tuple aU (q_a (q_v 9) ae))) ae)))) ae)))))))))))),?_⟩
  intro cell hd c ns m ks wd wl H1 o9 o10 o11 o12 d0 d1 hks hwd s0 ew ec nl hns;obtain⟨hdat,lwd⟩:=ux hks hwd;have lk:=mI hks;have szk:(kst ks).length<=sizeLine:=bz (by rw[bw];omega);refine⟨_,rfl,_,rfl,by rw[bw];omega,_,rfl,by rw[bw];omega,by rw[bw];omega,?_⟩;rw[bw,Zt];refine ie (N:=ks.length) (fun i ys H'=>Same H1 H'/\ys.length=i/\∃ds:List Pd,ds.length=i/\(∀(j:Nat) (p:V) (x:Pd),ys[j]?=some p->ds[j]?=some x->PdAt H' p x)/\∀(j:Nat) (k:Kd) (d:Pd),ks[j]?=some k->ds[j]?=some d->eC k d) (by omega) (fun _ _ _ p=>p.2.1) ⟨Same.refl _,rfl,[],rfl,fun j p x h=>by simp at h,fun j k d _ h=>by simp at h⟩ (fun i ys H' hi _=>hi) (fun ys H' _=>ze _) ?_ ?_
  ·rintro i ys H' x H2 hi ⟨sm,ly,ds,ld,pd,fi⟩ ⟨rfl,rfl⟩ R k;have hki:ks[i]?=some ks[i]:=zd hi;have hat:=lg hki;generalize ks[i]=kd at hki hat;rw[show(0:Int)+(i:Int)=(i:Int) by omega];refine⟨_,rfl,_,rfl,kst ks,_,_,rfl,rfl,szk,hat,?_⟩;refine⟨_,rfl,_,rfl,_,_,rfl,rfl,_,rfl,_,_,rfl,rfl,?_⟩;refine⟨a,sc,_,rfl,(s0.trans sm).seq hS,(by show(0:Int)<=at'+3+(i:Int);omega),?_⟩;refine⟨_,rfl,kd,_,hands,rfl,h1,h8,fun v d H3 s3 pv fv=>k v H3 ⟨sm.trans s3,by rw[zr,ly];rfl,ds++[d],by rw[zr,ld];rfl,fun j p x e1 e2=>?_,fun j k' d' e1 e2=>?_⟩⟩
   ·rcases sk (by omega) e1 e2 with⟨g1,g2⟩|⟨_,rfl,rfl⟩
    ·exact(pd j p x g1 g2).same s3
    ·exact pv
   ·by_cases hj:j<ds.length
    ·rw[z0 hj]at e2;exact fi j k' d' e1 e2
    ·have hl:=(zj.mp e2).1;rw[zr]at hl;have e:j=ds.length:=by simp at hl;omega
     subst e;rw[zY (ze _),Nat.sub_self]at e2;cases e2;rw[ld,hki]at e1;cases e1;exact fv
  rintro ys pp H2 ⟨s2,ly,ds,ld,pd,fi⟩ gpp;have w2:=aj gpp (.lst ys);have ep:upd H2 pp (.lst ys) pp=some (.lst ys):=af;have pd:∀(j:Nat) (p:V) (x:Pd),ys[j]?=some p->ds[j]?=some x->PdAt (upd H2 pp (.lst ys)) p x:=fun j p x e1 e2=>(pd j p x e1 e2).same w2;have S2:=s2.trans w2;generalize upd H2 pp (.lst ys)=H3 at ep pd S2 ⊢;have ec:=S2 _ _ ec;have ew:=S2 _ _ ew;have S3:=s0.trans S2;have shd:Sm hd:=Sm.of (k:=59) (by omega) (by omega) (by decide);obtain⟨D,hD⟩:∃D:Dt14,D=⟨hd,ns,wd,ks,ds⟩:=⟨_,rfl⟩
  have Fi:D.Fit hands:=by rw[hD];exact⟨d0,shd,h8,h1,nl,hns,hdat,lwd,uw hwd,lk,ld,uV hks,fi⟩
  have xl:=ji Fi;have hsm:∀n∈ns,Sm n:=fun n hn=>(hns n hn).2;have lns:ns.length<=64:=by omega
  refine⟨_,rfl,hd,rfl,shd.big,rfl,_,rfl,c,rfl,⟨_,SqT.of ec⟩,?_⟩;refine dH (fun i=>.str (ah (aF ns i))) (by rw[zb];omega) (SqT.of ec) (fun i x H1 hi sm R k=>?_) (fun p H4 sm hp=>?_)
  ·obtain⟨rfl,hj⟩:=fz hi;exact⟨_,rfl,_,rfl,(hsm _ (by rw[<-fh hj];exact List.getElem_mem hj)).big,k H1 (Same.refl H1)⟩
  rw[iE,ik];have w4:=sm.trans (aj hp (.lst ((ns.map ah).map V.str)));have e4:upd H4 p (.lst ((ns.map ah).map V.str)) p=some (.lst ((ns.map ah).map V.str)):=af;generalize upd H4 p (.lst ((ns.map ah).map V.str))=H5 at w4 e4 ⊢;have hwd':atI (WDS.map V.str) (m:Int)=some (.str wd):=by refine bo ?_;rw[zE,hwd];rfl
  refine⟨",",p,ns.map ah,rfl,rfl,SqL.of e4,dJ (fun y hy=>?_) (by decide +kernel) (by rw[zb];omega),?_⟩
  ·obtain⟨n,hn,rfl⟩:=List.mem_map.mp hy;have:=(hsm n hn).len;omega
  refine⟨_,rfl,_,rfl,wl,_,_,_,rfl,rfl,SqL.of (w4 _ _ ew),hwd',sz rfl,fun pd' gd=>?_⟩;have w5:=aj gd (.lst [.str (ah hd),.str (Txt.join "," (ns.map ah)),.str wd]);have ed:upd H5 pd' (.lst [.str (ah hd),.str (Txt.join "," (ns.map ah)),.str wd]) pd'=some (.lst ([ah hd,Txt.join "," (ns.map ah),wd].map V.str)):=af;have S5:=w4.trans w5;generalize upd H5 pd' (.lst [.str (ah hd),.str (Txt.join "," (ns.map ah)),.str wd])=H6 at ed S5 ⊢;have ec:=S5 _ _ ec;have ew:=S5 _ _ ew;have ep:=S5 _ _ ep;have pd:∀(j:Nat) (p:V) (x:Pd),ys[j]?=some p->ds[j]?=some x->PdAt H6 p x:=fun j p x e1 e2=>(pd j p x e1 e2).same S5;have S6:=S3.trans S5;have xd:D.xs=List.zipWith eJ ks ds:=by rw[hD];rfl
  have xl':D.xs.length=ks.length:=by rw[xl,hD]
  refine⟨rfl,_,rfl,_,rfl,_,rfl,by rw[bw];omega,_,rfl,by rw[bw];omega,by rw[bw];omega,?_⟩;rw[bw,Zt];refine dz (N:=ks.length) (lo:=0) (fun i=>.str (D.xs.getD i "")) (by omega) (fun i H7 hi s7 R k=>?_) (fun pw H7 s7 g7=>?_)
  ·rw[show(0:Int)+(i:Int)=(i:Int) by omega];have hki:ks[i]?=some ks[i]:=zd hi;have hyi:ys[i]?=some ys[i]:=zd (by omega);have hdi:ds[i]?=some ds[i]:=zd (by omega);have pw:=((pd i _ _ hyi hdi).part (fi i _ _ hki hdi)).same s7;have hat:=lg hki;have e:D.xs.getD i "" = eJ ks[i] ds[i]:=by rw[List.getD_eq_getElem?_getD,xd,List.getElem?_zipWith,hki,hdi];rfl
   rw[e]at k;generalize ks[i]=kd at hki hat pw k;exact⟨_,rfl,_,rfl,kst ks,_,_,rfl,rfl,szk,hat,_,rfl,_,rfl,pp,_,_,_,rfl,rfl,SqL.of (s7 _ _ ep),bo hyi,kd,_,_,rfl,pw,fun H8 s8=>k H8 s8⟩
  rw[sr (by omega)];have w7:=s7.trans (aj g7 (.lst (D.xs.map V.str)));have e7:upd H7 pw (.lst (D.xs.map V.str)) pw=some (.lst (D.xs.map V.str)):=af;generalize upd H7 pw (.lst (D.xs.map V.str))=H8 at w7 e7 ⊢;refine⟨pd',pw,_,_,rfl,rfl,w7 _ _ ed,e7,bz (by simp;omega),fun pq gq=>?_⟩;rw[<-Zj];have w9:=w7.trans (aj gq (.lst (([ah hd,Txt.join "," (ns.map ah),wd]++D.xs).map V.str)));have eq:upd H8 pq (.lst (([ah hd,Txt.join "," (ns.map ah),wd]++D.xs).map V.str)) pq=some (.lst (([ah hd,Txt.join "," (ns.map ah),wd]++D.xs).map V.str)):=af;generalize upd H8 pq (.lst (([ah hd,Txt.join "," (ns.map ah),wd]++D.xs).map V.str))=H9 at w9 eq ⊢;have ec:=w9 _ _ ec;have ew:=w9 _ _ ew;have ep:=w9 _ _ ep;have pd:∀(j:Nat) (p:V) (x:Pd),ys[j]?=some p->ds[j]?=some x->PdAt H9 p x:=fun j p x e1 e2=>(pd j p x e1 e2).same w9;have S9:=S6.trans w9;have lnD:Txt.join " " ([ah hd,Txt.join "," (ns.map ah),wd]++D.xs)=bQ (ah D.h) D:=by rw[hD];rfl
  refine⟨" ",pq,_,rfl,rfl,SqL.of eq,dJ (fun y hy=>?_) (by decide +kernel) (by simp;omega),?_⟩
  ·rcases Zh.mp hy with a|a
   ·simp only[zw,zL,Zr]at a;rcases a with rfl|rfl|rfl
    ·have:=shd.len;omega
    ·have:=bH (sep:=",") hsm (by decide +kernel) (show ns.length<=65 by omega);omega
    ·omega
   ·obtain⟨i,hi,rfl⟩:=List.mem_iff_getElem.mp a;have hki:=zd (l:=ks) (i:=i) (by omega);have hdi:=zd (l:=ds) (i:=i) (by omega);have:=ny (fi i _ _ hki hdi);have e:D.xs[i]=eJ ks[i] ds[i]:=by simp[xd]
    rw[e];omega
  rw[lnD];have bl':D.bs.length=ks.length:=by rw[hD];show(List.zipWith (okD hd ns) ks ds).length=_;rw[List.length_zipWith,ld,Nat.min_self]
  have bsi:∀(i:Nat) (h:i<D.bs.length) (k:Kd) (d:Pd),ks[i]?=some k->ds[i]?=some d->D.bs[i]=okD hd ns k d:=fun i h k d e1 e2=>by
   have:D.bs[i]?=some (okD hd ns k d):=by rw[hD];show(List.zipWith (okD hd ns) ks ds)[i]?=_;rw[List.getElem?_zipWith,e1,e2]
   rw[zd h]at this;exact zp this
  obtain⟨b0,hb0⟩:∃b0,b0=(decide (hd<hands)&&decide (1<=aF ns hd.toNat)):=⟨_,rfl⟩
  have dB:cw hands D=(b0&&D.bs.all id):=by rw[hb0,hD];rfl
  dsimp only[bA];refine mS (fun σ' H'=>σ'=[some (.ref a),some (.int at'),some (.int hands),some (.int cell),some (.int hd),some (.ref c),some (.int m),some (.ref wl),some (.str (kst ks)),some (.ref pp),some (.str (bQ (ah D.h) D)),some (.bl b0),o12]/\H'=H9) (fun R hR=>?_) ?_
  ·refine⟨_,rfl,_,rfl,_,_,rfl,rfl,_,rfl,?_⟩;cases c1:decide (hd<hands)with
   |false =>rw[c1,zP]at hb0;exact ar (hR _ _ ⟨by rw[hb0];rfl,rfl⟩)
   |true =>have c2:hd<hands:=Zz c1;rw[c1,zM]at hb0;have e:hd%hands=hd:=Int.emod_eq_of_lt d0 c2;refine aB ⟨_,rfl,_,rfl,_,rfl,_,_,rfl,rfl,(by show(0:Int)<hands;omega),?_⟩;refine⟨c,_,_,_,rfl,rfl,SqT.of ec,(show atI (ns.map V.int) (hd%hands)=some (.int (aF ns hd.toNat)) by rw[e];exact br d0 (by omega)),_,_,rfl,rfl,hR _ _ ⟨?_,rfl⟩⟩;rw[hb0];rfl
  rintro σ' H' ⟨rfl,hH'⟩;subst hH';refine⟨_,rfl,_,rfl,by rw[bw];omega,_,rfl,by rw[bw];omega,by rw[bw];omega,?_⟩;rw[bw,Zt];refine fq (lo:=0) (fun i σ H''=>H''=H'/\∃o12:Option V,σ=[some (.ref a),some (.int at'),some (.int hands),some (.int cell),some (.int hd),some (.ref c),some (.int m),some (.ref wl),some (.str (kst ks)),some (.ref pp),some (.str (bQ (ah D.h) D)),some (.bl (b0&&(D.bs.take i).all id)),o12]) ⟨rfl,o12,by simp⟩ (fun i σ H'' hi hP D' kD=>?_) (fun σ H'' hP=>?_)
  ·obtain⟨hH,o,rfl⟩:=hP;subst hH;rw[show(0:Int)+(i:Int)=(i:Int) by omega];have hb:i<D.bs.length:=by omega
   have ta:=sv hb;refine⟨_,rfl,_,rfl,?_⟩;cases hv:(b0&&(D.bs.take i).all id)with
   |false =>refine ar (kD _ _ ⟨rfl,some (.int (i:Int)),?_⟩);rw[ta,<-Bool.and_assoc,hv];rfl
   |true =>
    have h0:b0=true:=by rw[zA]at hv;exact hv.1
    have c2:hd<hands:=by rw[h0]at hb0;have:=hb0.symm;rw[zA]at this;exact Zz this.1
    have hki:ks[i]?=some ks[i]:=zd hi;have hyi:ys[i]?=some ys[i]:=zd (by omega);have hdi:ds[i]?=some ds[i]:=zd (by omega);have pi:=pd i _ _ hyi hdi;have fii:=fi i _ _ hki hdi;have ei:=bsi i hb _ _ hki hdi;have hat:=lg hki;refine aB ⟨_,rfl,_,rfl,kst ks,_,_,rfl,rfl,szk,hat,_,rfl,_,rfl,pp,_,_,_,rfl,rfl,SqL.of ep,bo hyi,_,rfl,_,rfl,ks[i],ys[i],ds[i],c,hd,ns,rfl,pi,fii,ec,d0,by omega,kD _ _ ⟨rfl,some (.int (i:Int)),?_⟩⟩;rw[ta,<-Bool.and_assoc,hv,zM,ei];rfl
  obtain⟨hH,o,rfl⟩:=hP;subst hH;rw[zV (by omega),<-dB];refine⟨_,rfl,_,rfl,_,_,rfl,rfl,a,sc,_,rfl,S9.seq hS,(by show(0:Int)<=at'+6;omega),_,_,rfl,rfl,(by show(0:Int)<6;decide),rfl,_,rfl,?_⟩;have ll:(bQ (ah D.h) D).length<=100000:=by exact(mJ Fi (cI D.h) (zq Fi.hs.len (by decide))).sz
  refine bO (fun _=>?_) (fun _=>?_)
  ·refine⟨_,rfl,_,_,rfl,rfl,zq (show 1+(bQ (ah D.h) D).length<=100001 by omega) (by decide +kernel),sz rfl,fun r gr=>?_⟩;exact q r D ("0"++ah D.h) .non _ (S9.trans (aj gr _)) (by rw[<-vb];exact af) Fi (.inr ⟨rfl,.inl rfl⟩)
  refine⟨_,rfl,_,rfl,?_⟩;cases hv:cw hands D with
  |false =>refine aB ⟨_,rfl,sz rfl,fun r gr=>?_⟩;exact q r D (ah D.h) .non _ (S9.trans (aj gr _)) af Fi (.inr ⟨rfl,.inr ⟨rfl,hv⟩⟩)
  |true =>
   refine ar ⟨_,rfl,_,rfl,_,rfl,_,rfl,_,rfl,wl,_,_,_,rfl,rfl,SqL.of ew,hwd',sz rfl,fun t1 g1=>?_⟩;have v1:=aj g1 (.tup [.str wd]);refine⟨_,rfl,pp,_,rfl,.inl ⟨SqL.of (v1 _ _ ep),fun t2 g2=>?_⟩⟩;have v2:=aj g2 (.tup ys);refine⟨t1,t2,_,_,rfl,rfl,v2 _ _ af,af,bz (by simp;omega),fun t3 H10 v3 e3=>?_⟩;refine⟨sz rfl,fun t4 g4=>?_⟩;have v4:=aj g4 (.tup [.int hd,.ref c,.ref t3]);refine⟨sz rfl,fun r gr=>?_⟩;have v5:=aj gr (.tup [.str (bQ (ah D.h) D),.ref t4]);have vv:=v1.trans (v2.trans (v3.trans (v4.trans v5)));refine q r D (ah D.h) (.ref t4) _ (S9.trans vv) af Fi (.inl ⟨rfl,hv,t4,c,t3,ys,rfl,?_,?_,?_,?_,?_⟩)
   ·rw[show D.h=hd by rw[hD]]at v5 ⊢;exact v5 _ _ af
   ·rw[show D.ns=ns by rw[hD]];exact vv _ _ ec
   ·rw[show D.wd=wd by rw[hD]];exact v5 _ _ (v4 _ _ e3)
   ·rw[show D.ds=ds by rw[hD],ly,ld]
   ·rw[show D.ds=ds by rw[hD]];exact fun j p x e1 e2=>(pd j p x e1 e2).same vv
 obtain⟨tb,htb,hb⟩:=hb;refine⟨_,(b_c (aG (i:=3) be.nd (aC F_cell_at (hr.mono (by decide)) (q_a (q_v 0) (q_a (q_v 1) ae))))
   (b_c (aG (i:=4) be.nd (am aM (q_v 3) (am bu (q_v 2) ad)))
   (b_c (aG (i:=5) be.nd (aC F_clock (hr.mono (by decide)) (q_a (aC F_cell_at (hr.mono (by decide)) (q_a (q_v 0) (q_a (am bu (q_v 1) ad) ae))) (q_a (q_v 2) ae))))
   (b_c (aG (i:=6) be.nd (am aM (aC F_cell_at (hr.mono (by decide)) (q_a (q_v 0) (q_a (am bu (q_v 1) ad) ae))) ad))
   (b_c (aG (i:=7) be.nd (fF (q_a ag (q_a ag (q_a ag (q_a ag (q_a ag (q_a ag (q_a ag (q_a ag (q_a ag (q_a ag (q_a ag (q_a ag (q_a ag ae)))))))))))))))
   (b_c (aG (i:=8) be.nd (aE bF (fF (q_a ag (q_a ag (q_a ag (q_a ag (q_a ag (q_a ag (q_a ag (q_a ag (q_a ag (q_a ag (q_a ag (q_a ag (q_a ag ae)))))))))))))) (q_v 6)))
   htb)))))),?_⟩
 refine⟨_,rfl,_,rfl,a,sc,at',rfl,hS,a0,?_⟩;dsimp only;generalize aF sc at'.toNat=cell;refine⟨_,rfl,_,rfl,_,_,rfl,rfl,_,_,rfl,rfl,(by show(0:Int)<hands+1;omega),?_⟩;have d0:=zI cell (show hands+1≠0 by omega);have d1:=zD cell (show(0:Int)<hands+1 by omega);dsimp only;generalize cell%(hands+1)=hd at d0 d1 ⊢;refine⟨_,rfl,_,rfl,_,_,rfl,rfl,a,sc,_,rfl,hS,(by show(0:Int)<=at'+1;omega),?_⟩;refine⟨_,rfl,_,hands,rfl,h1,h8,fun c ns H1 s1 ec nl hns=>?_⟩;refine⟨_,rfl,_,rfl,_,_,rfl,rfl,a,sc,_,rfl,s1.seq hS,(by show(0:Int)<=at'+2;omega),_,_,rfl,rfl,(by show(0:Int)<13;decide),?_⟩;dsimp only;generalize aF sc (at'+2).toNat=c2;have m0:=zI c2 (show(13:Int)≠0 by decide);have m1:=zD c2 (show(0:Int)<13 by decide);generalize c2%13=mm at m0 m1 ⊢;obtain⟨m,rfl⟩:=Int.eq_ofNat_of_zero_le m0;have hm:m<13:=by omega
 obtain⟨ks,hks⟩:∃ks,KDS[m]?=some ks:=⟨_,zd (show m<KDS.length from hm)⟩
 obtain⟨wd,hwd⟩:∃wd,WDS[m]?=some wd:=⟨_,zd (show m<WDS.length from hm)⟩
 have hat:atI (KDS.map fun k=>V.str (kst k)) (m:Int)=some (.str (kst ks)):=by refine bo ?_;rw[zE,hks];rfl
 refine⟨sz rfl,fun p1 g1=>?_⟩;have w1:=aj g1 (.lst (WDS.map V.str));refine⟨sz rfl,fun p2 g2=>?_⟩;have w2:=aj g2 (.lst (KDS.map fun k=>V.str (kst k)));have e1:upd H1 p1 (.lst (WDS.map V.str)) p1=some (.lst (WDS.map V.str)):=af;refine⟨_,rfl,p2,_,_,_,rfl,rfl,SqL.of af,hat,?_⟩;exact hb cell hd c ns m ks wd p1 _ none none none none d0 d1 hks hwd (s1.trans (w1.trans w2)) (w2 _ _ e1) (w2 _ _ (w1 _ _ ec)) nl hns
def RowAt(H:Hp)(hands:Int)(v:V):Prop:=∃(r:Addr) (D:Dt14) (w0:Str) (u:V),v=.ref r/\H r=some (.tup [.str (bQ w0 D),u])/\D.Fit hands/\DueC H D hands w0 u
theorem DueC.same{H H':Hp}{D:Dt14}{hands:Int}{w0:Str}{v:V}(h:DueC H D hands w0 v)(s:Same H H'):DueC H' D hands w0 v:=by
 rcases h with⟨h1,h2,h3⟩|h
 ·exact .inl ⟨h1,h2,h3.same s⟩
 ·exact .inr h
theorem RowAt.same{H H':Hp}{hands:Int}{v:V}(h:RowAt H hands v)(s:Same H H'):RowAt H' hands v:=by obtain⟨r,D,w0,u,h1,h2,h3,h4⟩:=h;exact⟨r,D,w0,u,h1,s _ _ h2,h3,h4.same s⟩
abbrev gS:Stmt:=top 55
abbrev wH:List Str:=["_law_script","_law_hands","_law_rows","_law_line","_law_due"]
theorem gI:FnScope wH ["_law_script"] (ak gS):=⟨rfl,rfl,rfl,by decide +kernel,rfl,by decide +kernel,by decide +kernel⟩
theorem vh{f:Addr}{fd:FuncData}(F:Fun K "law" "law" gS f fd)(F_cell_at:Fn P w K mg base 1 "_law_cell_at" ["_law_script","_law_k"] (lN K))(F_drawn:Fn P w K mg base 3 "_law_drawn" ["_law_script","_law_at","_law_hands"] (mU K))(F_as_due:Fn P w K mg base 9 "_law_as_due" ["_law_line","_law_due","_law_hands"] sT)(z_range:mg "range" = none)(z_min:mg "min" = none)(z_max:mg "max" = none)(z_len:mg "len" = none):FnOk P w K mg base CX0 10 f fd ["_law_script"] (ky K):=by
 refine F.okQ gI (fun vs H Q E h=>?_) (fun cdv A outer s H vs Q E hr h=>?_)
 ·obtain⟨a,sc,rfl,_⟩:=h;rfl
 obtain⟨a,sc,rfl,hS,hl,q⟩:=h;refine⟨_,(b_c (aG (i:=1) gI.nd (am bu ad (am aM (aC F_cell_at (hr.mono (by decide)) (q_a (q_v 0) (q_a ad ae))) ad)))
   (b_c (qA (j:=2) gI.nd (own:=["_law_at"]) (⟨rfl,by decide +kernel,by decide +kernel,rfl,⟨rfl,rfl,⟨rfl,rfl,trivial⟩⟩⟩:CompOk _ _ [0,1] ["_law_script","_law_hands"]) rfl (uR z_range (q_a ad (q_a (q_B (wJ rfl) z_min re (q_a (q_B (wI rfl) z_max rd (q_a (q_B bf z_len zt (q_a (q_v 0) ae)) (q_a ad ae))) (q_a ad ae))) (q_a ad ae)))) (fun _ _ _ _=>aP (i:=0) (show (["_law_at","_law_script","_law_hands"]:List Str).Nodup by decide +kernel)) (aT (by decide)) (fun _ _ _ _=>ck) (fun _ _ _ _=>(aC F_drawn (hr.mono (by decide)) (q_a (q_v 1) (q_a (q_v 0) (q_a (q_v 2) ae))))))
   (b_c (iX PassesOwn.never rfl (pT (am sL (q_v 2) (lC pX (q_v 2) lA (lB ad)))) (nQ rfl (fX (aP (i:=3) gI.nd) (fX (aP (i:=4) gI.nd) nR))) (b_1 (ax (bq (bc (aC F_as_due (hr.mono (by decide)) (q_a (q_v 3) (q_a (q_v 4) (q_a (q_v 1) ae)))))) (b_1 (ai cM)) b_0)))
   (b_1 (ai cM))))),?_⟩
 refine⟨_,rfl,a,sc,0,rfl,hS,by decide,_,_,rfl,rfl,(by show(0:Int)<4;decide),_,_,rfl,rfl,?_⟩;have h0:=zI (aF sc (0:Int).toNat) (show(4:Int)≠0 by decide);have h1:=zD (aF sc (0:Int).toNat) (show(0:Int)<4 by decide);dsimp only;generalize aF sc (0:Int).toNat%4=h' at h0 h1 ⊢;obtain⟨hands,eh⟩:∃hands,hands=1+h':=⟨_,rfl⟩
 rw[<-eh];obtain⟨hi,ehi⟩:∃hi:Int,hi=(let y:=(if(2:Int)>((sc.map V.int).length:Int)then(2:Int)else((sc.map V.int).length:Int));if(127:Int)<y then 127 else y):=⟨_,rfl⟩
 have z1:1<=hi/\hi<=127:=by rw[ehi,zb];dsimp only;split<;>split<;>omega
 refine⟨_,rfl,a,_,rfl,.inl hS,_,_,rfl,_,_,rfl,1,hi,7,by rw[ehi],by decide,by decide,by omega,?_⟩;have n120:dh 1 hi 7<=126:=by have:=sq 1 hi 7 z1.1;omega
 generalize dh 1 hi 7=N at n120;refine ie (N:=N) (fun i ys H'=>Same H H'/\ys.length=i/\∀v∈ys,RowAt H' hands v) (by omega) (fun _ _ _ p=>p.2.1) ⟨Same.refl _,rfl,fun v h=>by simp at h⟩ (fun i ys H' hi _=>hi) (fun ys H' _=>ze _) ?_ ?_
 ·rintro i ys H' x H2 hi ⟨sm,ly,rw'⟩ ⟨rfl,rfl⟩ R k;refine⟨_,rfl,_,rfl,_,rfl,a,sc,_,hands,rfl,sm.seq hS,by omega,by omega,by omega,fun r D w0 v H3 s3 e3 Fi dc=>k _ H3 ⟨sm.trans s3,by rw[zr,ly];rfl,fun u hu=>?_⟩⟩;rcases Zh.mp hu with hu|hu
  ·exact(rw' u hu).same s3
  ·rw[zC]at hu;subst hu;exact⟨r,D,w0,v,rfl,e3,Fi,dc⟩
 rintro ys pp H2 ⟨s2,ly,rw'⟩ gpp;have w2:=aj gpp (.lst ys);have ep:upd H2 pp (.lst ys) pp=some (.lst ys):=af;have rows:∀v∈ys,RowAt (upd H2 pp (.lst ys)) hands v:=fun v hv=>(rw' v hv).same w2;generalize upd H2 pp (.lst ys)=H3 at ep rows w2 ⊢;have s03:Same H H3:=s2.trans w2;refine⟨_,rfl,_,rfl,_,rfl,pp,ys,rfl,SqL.of ep,fun p4 g4=>?_⟩;have w4:=aj g4 (.lst (bt ys none (some 3)));have lc:=eA ys none (some 3);have cm:∀v∈bt ys none (some 3),v∈ys:=fun v hv=>List.mem_of_mem_drop (List.mem_of_mem_take hv);refine⟨pp,p4,_,_,rfl,rfl,w4 _ _ ep,af,bz (by omega),fun p5 g5=>?_⟩;have w5:=aj g5 (.lst (ys++bt ys none (some 3)));have w35:=w4.trans w5;have e5:upd (upd H3 p4 (.lst (bt ys none (some 3)))) p5 (.lst (ys++bt ys none (some 3))) p5=some (.lst (ys++bt ys none (some 3))):=af;generalize upd (upd H3 p4 (.lst (bt ys none (some 3)))) p5 (.lst (ys++bt ys none (some 3)))=H5 at w35 e5 ⊢;have rows5:∀v∈ys++bt ys none (some 3),RowAt H5 hands v:=fun v hv=>by
  rcases Zh.mp hv with h|h
  ·exact(rows v h).same w35
  ·exact(rows v (cm v h)).same w35
 generalize ys++bt ys none (some 3)=zs at e5 rows5;refine⟨p5,rfl,⟨zs,SqL.of e5⟩,?_⟩;refine pO (xs:=zs) (fun i σ H'=>Same H5 H'/\∃o3 o4:Option V,σ=[some (.ref a),some (.int hands),some (.ref pp),o3,o4]) ⟨Same.refl _,none,none,rfl⟩ (fun i σ H' _ hP=>SqL.of (hP.1 _ _ e5)) (fun i x σ H' hx hP D' kD=>?_) (fun σ H' hP=>?_)
 ·obtain⟨s5,o3,o4,rfl⟩:=hP;obtain⟨r,D,w0,u,rfl,e,Fi,dc⟩:=(rows5 x (z9 hx)).same s5;refine⟨r,_,rfl,SqT.of e,rfl,_,_,rfl,_,_,rfl,rfl,?_⟩;refine⟨_,rfl,_,rfl,_,rfl,D,hands,w0,u,rfl,Fi,dc,fun H6 s6=>⟨_,rfl,ar (kD _ _ ⟨s5.trans s6,_,_,rfl⟩)⟩⟩
 ·obtain⟨s5,o3,o4,rfl⟩:=hP;exact q _
end
def nJ:Nat->(List Value->Prop)->Prop
 |0,p=>p []
 |n+1,p=>∀a,nJ n fun us=>p (a::us)
theorem jo:∀{n:Nat} {p:List Value->Prop},nJ n p->∀us:List Value,us.length=n->p us
 |0,_,h,[],_=>h
 |_+1,_,h,a::us,e=>jo (h a) us (Nat.succ.inj e)
section
variable{P:Program}{w:World}{K:PySem.W.Frag}{mg:Str->Option Value}{base h:Heap}{n m x q:Str}{st:Stmt}{C f:Addr}{k:Nat}{ps:List Str}{sp:Sp}{bm:List Value}
structure Bx(P:Program)(w:World)(K:PySem.W.Frag)(mg:Str->Option Value)(base h:Heap):Prop where
 X:K.In h
 G:h.Ns mainGlobals mg
def A1(K:PySem.W.Frag)(n:Str)(st:Stmt)(f:Addr):Prop:=PySem.W.nsIn K mainGlobals n=some (some (.ref f))/\∃fd,Fun K n n st f fd
def AF(K:PySem.W.Frag):List (Str×Stmt×Addr)->Prop
 | []=>True
 |(n,st,f)::l=>A1 K n st f/\AF K l
def AN(p:Str->Prop):List Str->Prop
 | []=>True
 |n::l=>p n/\AN p l
theorem anI{p p':Str->Prop}(i:∀{n},p n->p' n):∀{l:List Str},AN p l->AN p' l
 | [],_=>True.intro
 |_::_,h=>⟨i h.1,anI i h.2⟩
theorem gf{l:List (Str×Stmt×Addr)}{oc kV dc pm cd ct:Value}{od an:Option Addr}{sl:Array (Option Value)}(a:PySem.W.nsIn K mainGlobals n=some (some (.ref f)))(b:K.lookup f=some ⟨oc,od,.func (PySem.W.fnOf n n (cF st) (bC st) (ak st) .none kV dc pm an cd ct),sl⟩)(c:PySem.W.codeIn K cd n=true)(d:PySem.W.keepIn K (.ref f)=true)(r:AF K l):AF K ((n,st,f)::l):=⟨⟨a,_,uN b c d⟩,r⟩
theorem gn{l:List Str}(a:PySem.W.nsIn K mainGlobals n=some none)(r:AN (fun n=>PySem.W.nsIn K mainGlobals n=some none) l):AN (fun n=>PySem.W.nsIn K mainGlobals n=some none) (n::l):=⟨a,r⟩
theorem mkF(B:Bx P w K mg base h)(A:A1 K n st f)(ok:∀{fd},Fun K n n st f fd->FnOk P w K mg base CX0 k f fd ps sp)(hb:∀(kV doc pm:Value) (an:Option Addr) (cdv ct:Value),nJ ps.length fun us=>bindArgs (PySem.W.fnOf n n (cF st) (bC st) (ak st) .none kV doc pm an cdv ct) ⟨us,[]⟩=pure (ps.zip us):=by(repeat intro _);rfl):Fn P w K mg base k n ps sp:=by obtain⟨a,fd,F⟩:=A;exact⟨f,fd,ok F,z6 B.X B.G a,F.kp,F.binds fun a b c d e g=>jo (hb a b c d e g)⟩
theorem mkR(B:Bx P w K mg base h)(A:A1 K n st f)(ok:∀{fd},Fun K n n st f fd->FnOk P w K mg base (CXr P w) k f fd ps sp)(hb:∀(kV doc pm:Value) (an:Option Addr) (cdv ct:Value),nJ ps.length fun us=>bindArgs (PySem.W.fnOf n n (cF st) (bC st) (ak st) .none kV doc pm an cdv ct) ⟨us,[]⟩=pure (ps.zip us):=by(repeat intro _);rfl):FnX P w K mg base k n ps sp:=by obtain⟨a,fd,F⟩:=A;exact⟨f,fd,ok F,z6 B.X B.G a,F.kp,F.binds fun a b c d e g=>jo (hb a b c d e g)⟩
end
theorem uI{l:PySem.W.OpenLaw}{w:World}{K:PySem.W.Frag}{h:Heap}{mg:Str->Option Value}{fa f1 f2 f3 f4 f5 f6 f7 f8 f9 f10 f11 f12 f13 f14 f15 f16 f17 f18 f19 f20 f21 f22 f23 f24 f25 f26 f27 f28 f29 f30 f31 f32 f33 f34 f35 f36 f37 f38:Addr}(X:K.In h)(G:h.Ns mainGlobals mg)(hfa:mg "law" = some (.ref fa)){tk_MOST_NUMBERS:Tok}{tk_MOST_SIGNS:Tok}{tk_FIRST_SIGN:Tok}{tk_LAST_SIGN:Tok}{tk_PERCENT_SIGN:Tok}{tk_MOST_FIGURES:Tok}{tk_FIGURES:Tok}{ad_DEED_PARTS:Addr}{c_NoText c_LimbError:Addr}(hc_NoText:PySem.W.nsIn K mainGlobals "NoText" = some (some (.ref c_NoText)))(hc_LimbError:PySem.W.nsIn K mainGlobals "LimbError" = some (some (.ref c_LimbError)))(zF:AF K (("is_number",eH,f1)::("is_whole",fL,f2)::("is_name",gw,f3)::("is_clock",fH,f4)::("tells",jI,f5)::("is_deed_word",cX,f6)::("deed_parts",dP,f7)::("is_place",fJ,f8)::("is_sign",gC,f9)::("is_text",gF,f10)::("is_hand",gv,f11)::("is_known_item",cN,f12)::("is_part",gB,f13)::("is_what",gG,f14)::("is_deed",gm,f15)::("written_numbers",cn,f16)::("written_part",cZ,f17)::("written",gH,f18)::("is_figures",dQ,f19)::("is_number_word",cB,f20)::("is_truth_word",cO,f21)::("parted",iA,f22)::("read_number",cz,f23)::("read_numbers",cY,f24)::("read_truth",dR,f25)::("read_part",eI,f26)::("words_in",fM,f27)::("read",lH,f28)::("_law_cell_at",gl,f29)::("_law_text",lI,f30)::("_law_clock",jH,f31)::("_law_part",lG,f32)::("_law_is_right",fK,f33)::("_law_word",lJ,f34)::("_law_drawn",eT,f35)::("_law_alike",eS,f36)::("_law_as_due",iy,f37)::("law",gS,f38)::[]))(zN:AN (fun n=>PySem.W.nsIn K mainGlobals n=some none) ("isinstance"::"int"::"bool"::"str"::"tuple"::"len"::"all"::"zip"::"min"::"max"::"range"::"ord"::[]))(h_MOST_NUMBERS:PySem.W.nsIn K mainGlobals "MOST_NUMBERS" = some (some (.int 64 tk_MOST_NUMBERS)))(h_MOST_SIGNS:PySem.W.nsIn K mainGlobals "MOST_SIGNS" = some (some (.int 60 tk_MOST_SIGNS)))(h_FIRST_SIGN:PySem.W.nsIn K mainGlobals "FIRST_SIGN" = some (some (.int 32 tk_FIRST_SIGN)))(h_LAST_SIGN:PySem.W.nsIn K mainGlobals "LAST_SIGN" = some (some (.int 126 tk_LAST_SIGN)))(h_PERCENT_SIGN:PySem.W.nsIn K mainGlobals "PERCENT_SIGN" = some (some (.int 37 tk_PERCENT_SIGN)))(h_MOST_FIGURES:PySem.W.nsIn K mainGlobals "MOST_FIGURES" = some (some (.int 60 tk_MOST_FIGURES)))(h_FIGURES:PySem.W.nsIn K mainGlobals "FIGURES" = some (some (.str FIG tk_FIGURES)))(h_DEED_PARTS:PySem.W.nsIn K mainGlobals "DEED_PARTS" = some (some (.ref ad_DEED_PARTS)))(t_DEED_PARTS:PyProof.Rows.KTD.tabLook (jg K) (fun b=>K.lookup b) ad_DEED_PARTS DT=true)(dg:PySem.W.nsIn K cStatics "sys.int_max_str_digits" = some none)(xx_LimbError:PySem.W.excIn K c_LimbError [.type "ValueError",.type "Exception",.type "BaseException",.type "object"] "ValueError.__new__" = true)(xm_LimbError:∃c d cd sl,K.lookup c_LimbError=some ⟨c,d,.cls cd,sl⟩/\cd.mro=Value.ref c_LimbError::VE)(xx_NoText:PySem.W.excIn K c_NoText [.type "ValueError",.type "Exception",.type "BaseException",.type "object"] "ValueError.__new__" = true)(xm_NoText:∃c d cd sl,K.lookup c_NoText=some ⟨c,d,.cls cd,sl⟩/\cd.mro=Value.ref c_NoText::(Value.ref c_LimbError::VE))(e1NoText:(PySem.W.clsIn K c_NoText).isSome=true)(e2NoText:PySem.W.findIn K (.ref c_NoText) "__getattribute__" = some (some (.builtin "BaseException.__getattribute__")))(e3NoText:PySem.W.findIn K (.ref c_NoText) "__getattr__" = some none)(e4NoText:PySem.W.findIn K (.ref c_NoText) "__class__" = some (some (.builtin "object.__class__")))(e5NoText:PySem.W.mroIn K c_NoText (.type "BaseException")=some true)(e6NoText:PySem.W.mroIn K c_NoText (.type "object")=some true)(tl:PySem.W.kitOne K (.ref c_NoText) (.ref c_LimbError)=some true)
  :∃fd:FuncData,(∀(s:Shared) (v:Value),BindsTo s fd ⟨[v],[]⟩ [("_law_script",v)])/\∀base:Heap,K.In base->base.Ns mainGlobals mg->FnOk l.prog w K mg base CX0 10 fa fd ["_law_script"] (ky K):=by
 obtain⟨Af1,Af2,Af3,Af4,Af5,Af6,Af7,Af8,Af9,Af10,Af11,Af12,Af13,Af14,Af15,Af16,Af17,Af18,Af19,Af20,Af21,Af22,Af23,Af24,Af25,Af26,Af27,Af28,Af29,Af30,Af31,Af32,Af33,Af34,Af35,Af36,Af37,⟨a0,_,F0⟩,_⟩:=zF;obtain⟨z_isinstance,z_int,z_bool,z_str,z_tuple,z_len,z_all,z_zip,z_min,z_max,z_range,z_ord,_⟩:=anI (p':=fun n=>mg n=none) (fun z=>PySem.W.mg_none_of X G z) zN;have e:=hfa.symm.trans (z6 X G a0);cases e;obtain⟨oc,od,kV,dc,pm,an,cd,ct,sl,rfl,l0,c0⟩:=id F0.ex;have g_MOST_NUMBERS:=z6 X G h_MOST_NUMBERS;have g_MOST_SIGNS:=z6 X G h_MOST_SIGNS;have g_FIRST_SIGN:=z6 X G h_FIRST_SIGN;have g_LAST_SIGN:=z6 X G h_LAST_SIGN;have g_PERCENT_SIGN:=z6 X G h_PERCENT_SIGN;have g_MOST_FIGURES:=z6 X G h_MOST_FIGURES;have g_FIGURES:=z6 X G h_FIGURES;have g_DEED_PARTS:=z6 X G h_DEED_PARTS;have T_DEED_PARTS:Tab K ad_DEED_PARTS DT:=⟨t_DEED_PARTS⟩
 have g_NoText:=z6 X G hc_NoText;have g_LimbError:=z6 X G hc_LimbError;have xo_NoText:ExcAt K c_NoText (Value.ref c_LimbError::VE):=⟨xx_NoText,xm_NoText,by rw[List.contains_cons];rfl⟩
 have er:Er14 K c_LimbError c_NoText:=⟨⟨e1NoText,e2NoText,e3NoText,e4NoText,e5NoText,e6NoText⟩,tl⟩
 refine⟨PySem.W.fnOf "law" "law" (cF gS) (bC gS) (ak gS) .none kV dc pm an cd ct,fun s v=>.of_eq rfl,fun base _ _=>?_⟩;have B:Bx l.prog w K mg base h:=⟨X,G⟩
 have F_is_number:=mkF B Af1 fun F=>lr F z_isinstance z_int z_bool;have F_is_whole:=mkF B Af2 fun F=>mi F F_is_number;have F_is_name:=mkF B Af3 fun F=>oj F F_is_whole z_isinstance z_tuple z_len;have F_is_clock:=mkF B Af4 fun F=>me F F_is_whole z_isinstance z_tuple z_len z_all;have F_tells:=mkF B Af5 fun F=>rK F;have F_is_deed_word:=mkF B Af6 fun F=>iR F g_DEED_PARTS T_DEED_PARTS z_isinstance z_str;have F_deed_parts:=mkF B Af7 fun F=>kh F g_DEED_PARTS T_DEED_PARTS;have F_is_place:=mkF B Af8 fun F=>mf F F_is_number z_isinstance z_tuple z_len z_all g_MOST_NUMBERS;have F_is_sign:=mkF B Af9 fun F=>on F z_ord g_FIRST_SIGN g_LAST_SIGN g_PERCENT_SIGN;have F_is_text:=mkF B Af10 fun F=>oo F F_is_sign z_isinstance z_str z_all;have F_is_hand:=mkF B Af11 fun F=>oi F F_is_whole;have F_is_known_item:=mkF B Af12 fun F=>iu F F_is_name F_tells z_len;have F_is_part:=mkF B Af13 fun F=>om F F_is_known_item F_is_place F_is_text F_is_hand F_is_whole z_isinstance z_bool z_len g_MOST_SIGNS;have F_is_what:=mkF B Af14 fun F=>oq F F_is_deed_word F_deed_parts F_is_part z_isinstance z_tuple z_len z_all z_zip;have F_is_deed:=mkF B Af15 fun F=>oh F F_is_hand F_is_clock F_is_what z_isinstance z_tuple z_len;have F_written_numbers:=mkF B Af16 fun F=>ge F dg z_str;have F_written_part:=mkF B Af17 fun F=>iU F F_written_numbers dg z_str;have F_written:=mkF B Af18 fun F=>ot F F_written_numbers F_deed_parts F_written_part dg z_str z_zip;have F_is_figures:=mkF B Af19 fun F=>ki F z_len z_all g_MOST_FIGURES g_FIGURES;have F_is_number_word:=mkF B Af20 fun F=>hJ F F_is_figures;have F_is_truth_word:=mkF B Af21 fun F=>iw F;have F_parted:=mkF B Af22 fun F=>qm F z_len;have FX_read_number:=mkR B Af23 fun F=>iS F F_is_number_word z_int (kX xo_NoText) g_NoText;have F_read_number:=mkF B Af23 fun F=>jC F F_is_number_word z_int;have F_read_numbers:=mkF B Af24 fun F=>iT F F_read_number z_tuple;have F_read_truth:=mkF B Af25 fun F=>kj F F_is_truth_word;have F_read_part:=mkF B Af26 fun F=>lu F F_read_truth F_read_numbers F_read_number;have F_words_in:=mkF B Af27 fun F=>mj F F_is_deed_word F_deed_parts F_parted z_len;have FX_read:=mkR B Af28 fun F=>rJ F F_words_in FX_read_number F_read_numbers F_deed_parts F_read_part F_is_deed z_zip z_tuple (kX xo_NoText) g_NoText;have F_cell_at:=mkF B Af29 fun F=>og F z_len;have F_text:=mkF B Af30 fun F=>tN F z_range;have F_clock:=mkF B Af31 fun F=>rG F z_range z_tuple;have F_part:=mkF B Af32 fun F=>tM F F_text z_range z_tuple;have F_is_right:=mkF B Af33 fun F=>mh F z_len;have F_word:=mkF B Af34 fun F=>tO F dg z_str z_int;have F_drawn:=mkF B Af35 fun F=>rH F F_cell_at F_clock F_part F_word F_is_right dg z_str z_tuple z_range z_len;have F_alike_n:=mkF (k:=1) (ps:=["_law_found","_law_due"]) (sp:=mW) B Af36 fun _=>rp;have F_alike_0:=mkF B Af36 fun F=>qk F F_alike_n z_isinstance z_tuple z_str z_int z_bool z_len z_all z_range;have F_alike_1:=mkF B Af36 fun F=>gc F F_alike_0 z_isinstance z_tuple z_str z_int z_bool z_len z_all z_range;have F_alike_2:=mkF B Af36 fun F=>gc F F_alike_1 z_isinstance z_tuple z_str z_int z_bool z_len z_all z_range;have F_alike:=mkF B Af36 fun F=>gc F F_alike_2 z_isinstance z_tuple z_str z_int z_bool z_len z_all z_range;have F_as_due:=mkF B Af37 fun F=>ql F FX_read F_alike F_written er (pM xo_NoText) g_NoText g_LimbError z_isinstance z_str z_int;exact vh F0 F_cell_at F_drawn F_as_due z_range z_min z_max z_len
theorem xM{l:PySem.W.OpenLaw}{q:Program}{loose:List Str}{XP:(Str->Option Value)->Heap->Prop}{YP:World->Heap->Prop}{d:DefRec}{K:Params->PySem.W.Frag}(hn:l.most=some 63)(hdf:d.params.defaults=[])(hY:∀ (w:World) (h:Heap),YP w h->(K w.params).In h)(F:∀ (w:World) (mg:Str->Option Value) (fa:Addr) (h:Heap),(K w.params).In h->h.Ns mainGlobals mg->mg d.name=some (.ref fa) ->
   ∃ fd:FuncData,(∀ (s:Shared) (u:Value),BindsTo s fd ⟨[u],[]⟩ [("_law_script",u)])/\∀ base:Heap,(K w.params).In base->base.Ns mainGlobals mg->FnOk l.prog w (K w.params) mg base CX0 10 fa fd ["_law_script"] (ky (K w.params))) :
  PySem.W.WalkO q loose XP YP l.row.toRowW d [] (fun f vs=>PySem.call f vs) :=
 L2.uu (n:=63) (k:=10) (x:="_law_script") (CX:=fun _=>CX0) (sp:=fun w=>ky (K w.params)) hn (by decide) hdf ⟨rfl,by decide,by decide⟩ hY F (fun _ _ a ns hl _ hS=>⟨a,ns,rfl,hS,hl,fun _=>rfl⟩) fun _ _ _ _ _ z=>z
end K14
namespace PySem.W.Fast
def tw4019637171994192083:=()
def tw9836685045205301979:=()
def tw15976458756738138670:=()
def tw4845802371866801925:=()
def tw11641379584594264079:=()
def tw9443117370611865793:=()
def tw15839084911979987371:=()
def tw5063619229792042764:=()
def tw3667564138602436733:=()
def tw4386969826591326763:=()
def tw6929854216563970737:=()
def tw6499826065729309328:=()
def tw13396872248286312400:=()
def tw8780712654780229278:=()
def tw16732448415433652322:=()
def tw15766243346570299604:=()
def tw17552970049571356740:=()
def tw12139433159379237139:=()
def tw6961580575507213772:=()
def tw7741047597634411271:=()
def tw6474097206446673559:=()
def tw16275435559586153582:=()
def tw7046167476220256927:=()
def tw13147263602813601253:=()
def tw10138219337368809962:=()
def tw3953619283062187031:=()
def tw12454107792003348339:=()
def tw15537880406357069600:=()
def tw2757467506734946253:=()
def tw9357121396004624207:=()
def tw573320284962152769:=()
def tw829037610473011612:=()
def tw6558322148635728725:=()
def tw10143279173710964363:=()
def tw13649209435118023191:=()
def tw8868766220016253598:=()
def tw2139547992809114195:=()
def tw10587832825456488469:=()
def tw12201887295570921623:=()
def tw2819200823960867221:=()
def tw1814862022170176830:=()
def tw5340699618099629176:=()
def tw14117001034547560541:=()
def tw6240741412328177558:=()
def tw16111813403777844375:=()
def tw11366124828905272478:=()
def tw6138567710657229903:=()
def tw17358366859838350316:=()
def tw5442383770892505787:=()
end PySem.W.Fast
open PySem PySem.W PyProof.Rows
set_option maxRecDepth 100000 in
set_option maxHeartbeats 0 in
theorem PySem.Challenge.cw_limb_k14_whole_deeds_and_texts_holds : PySem.Challenge.rw_limb_k14_whole_deeds_and_texts.Holds := by
  w_on; o_law; k_head; (case hw => w_witness2)
  k_fill
  refine K14.xM (l := PySem.Challenge.rw_limb_k14_whole_deeds_and_texts) rfl rfl (fun w h Y => PySem.W.kIn_of Y) ?F
  case F =>
    intro w mg fa h KX G hmg
    refine' K14.uI KX G hmg ?hc_NoText ?hc_LimbError ?zF ?zN ?h_MOST_NUMBERS ?h_MOST_SIGNS ?h_FIRST_SIGN ?h_LAST_SIGN ?h_PERCENT_SIGN ?h_MOST_FIGURES ?h_FIGURES ?h_DEED_PARTS ?t_DEED_PARTS ?dg ?xx_LimbError ?xm_LimbError ?xx_NoText ?xm_NoText ?e1NoText ?e2NoText ?e3NoText ?e4NoText ?e5NoText ?e6NoText ?tl
    (case hc_NoText => k_is)
    (case hc_LimbError => k_is)
    (case zF => (repeat refine K14.gf (by k_is) (by k_is) (by k_is) (by k_is) ?_); exact True.intro)
    (case zN => (repeat refine K14.gn (by k_is) ?_); exact True.intro)
    (case h_MOST_NUMBERS => k_is)
    (case h_MOST_SIGNS => k_is)
    (case h_FIRST_SIGN => k_is)
    (case h_LAST_SIGN => k_is)
    (case h_PERCENT_SIGN => k_is)
    (case h_MOST_FIGURES => k_is)
    (case h_FIGURES => k_is)
    (case h_DEED_PARTS => k_is)
    (case t_DEED_PARTS => rfl)
    (case dg => k_is)
    (case xx_LimbError => k_exc)
    (case xm_LimbError => exact ⟨_, _, _, _, rfl, rfl⟩)
    (case xx_NoText => k_exc)
    (case xm_NoText => exact ⟨_, _, _, _, rfl, rfl⟩)
    (case e1NoText => rfl)
    (case e2NoText => k_is)
    (case e3NoText => k_is)
    (case e4NoText => k_is)
    (case e5NoText => k_is)
    (case e6NoText => k_is)
    (case tl => rfl)
