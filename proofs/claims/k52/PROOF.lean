import PyProof.Rows.All
import Wide.All
import OpenK.AllK
import Wide.FinOn
import PyProof.EqAt
import PyProof.EqKinds
import PyProof.TupleCall
import Lean
import PySem.Challenge.RW_limb_k52_questions_written_and_read
def o7:=@if_pos
def o6:=@if_neg
def za:=@Nat.le_refl
def zb:=@Bool.false_ne_true
def zc:=@List.length_append
def zd:=@List.length_map
def ze:=@List.getElem?_eq_getElem
def zh:=@Nat.le_trans
def zi:=@PySem.Heap.get?_push_of_some
def zj:=@PySem.Heap.lt_size
def zk:=@Nat.lt_of_lt_of_le
def zl:=@List.mem_cons_of_mem
def zm:=@List.size_toArray
def zn:=@List.length_cons
def zo:=@List.mem_cons
def zp:=@List.getElem?_eq_some_iff
def zq:=@List.mem_cons_self
def zr:=@List.append_assoc
def zt:=@PySem.wpAny_bind
def zu:=@List.mem_singleton
def zv:=@List.map_cons
def zw:=@PySem.wpAny_pure
def zx:=@List.lookup_cons
def zy:=@PySem.strLen_append
def zz:=@PySem.Heap.get?_push_size
def zA:=@Bool.and_eq_true
def zB:=@PySem.boot_len
def zC:=@Nat.ne_of_lt
def zD:=@Option.some.inj
def zE:=@List.mem_append_right
def zG:=@List.getElem?_append_right
def zH:=@List.mem_append
def zI:=@Array.length_toList
def zJ:=@congrArg
def zK:=@PySem.W.kia_one
def zL:=@List.not_mem_nil
def zO:=@PySem.wpAny_truthy_bool
def zP:=@List.getElem?_map
def zQ:=@List.mem_of_getElem?
def zR:=@Array.getD_eq_getD_getElem?
def zS:=@PySem.mem_of_lookup
def zT:=@beq_iff_eq
def zU:=@List.getD_eq_getElem?_getD
def zV:=@List.length_take
def zW:=@List.length_drop
def zX:=@Nat.zero_le
def zY:=@Bool.eq_iff_iff
def zZ:=@Nat.lt_irrefl
def z3:=@List.all_cons
def z4:=@List.sum_cons
def z5:=@PySem.W.mg_of
set_option Elab.async false
set_option linter.all false
set_option maxRecDepth 100000
set_option maxHeartbeats 2000000
local macro_rules | `(tactic| omega) => `(tactic| first | with_reducible first | assumption | exact Nat.le_of_lt (by assumption) | exact Nat.le_refl _ | exact Nat.lt_add_one _ | exact Nat.le_trans (by assumption) (by decide) | exact Nat.lt_of_lt_of_le (by assumption) (by decide) | exact Nat.sub_lt_sub_left (by assumption) (Nat.lt_add_one _) | exact Nat.le_antisymm (by assumption) (Nat.le_of_not_lt (by assumption)) | lia)
namespace L2
open PySem PySem.Spec PyProof.Rows
abbrev Key:=Sum Int Str
def oF:Key->Value->Bool
 |.inl k,v=>Value.isInt k v
 |.inr x,v=>Value.isStrOf x v
def ti(w:World):Key->Int
 |.inl k=>hashInt k
 |.inr x=>hashStr w x
theorem aR:∀{k:Key} {v:Value},oF k v=true->(∃i t,k=Sum.inl i/\v=Value.int i t)\/(∃x t,k=Sum.inr x/\v=Value.str x t)
 |.inl i,v,h=>by obtain⟨t,e⟩:=Value.isInt_shape (k:=i) (v:=v) h;exact .inl ⟨i,t,rfl,e⟩
 |.inr x,v,h=>by obtain⟨t,e⟩:=Value.isStrOf_shape (x:=x) (v:=v) h;exact .inr ⟨x,t,rfl,e⟩
theorem qB(a b:Int):decide ((Sum.inl a:Key)=Sum.inl b)=(a==b):=by
 by_cases e:a=b
 ·subst e;simp
 ·have h:¬(Sum.inl a:Key)=Sum.inl b:=fun q=>e (Sum.inl.inj q);rw[decide_eq_false h];exact(beq_eq_false_iff_ne.mpr e).symm
theorem qE(a b:Str):decide ((Sum.inr a:Key)=Sum.inr b)=decide (a=b):=by
 by_cases e:a=b
 ·subst e;simp
 ·have h:¬(Sum.inr a:Key)=Sum.inr b:=fun q=>e (Sum.inr.inj q);rw[decide_eq_false h,decide_eq_false e]
theorem qC(a:Int)(b:Str):decide ((Sum.inl a:Key)=Sum.inr b)=false:=decide_eq_false (fun q=>nomatch q)
theorem qD(a:Str)(b:Int):decide ((Sum.inr a:Key)=Sum.inl b)=false:=decide_eq_false (fun q=>nomatch q)
def eT(prog:Program)(w:World):PySem.KeyKind prog w Key where
 is:=oF
 hash:=ti w
 inj:=fun v a b ha hb=>by
  rcases aR ha with⟨i,t,rfl,rfl⟩|⟨x,t,rfl,rfl⟩
  ·rcases aR hb with⟨j,u,rfl,e⟩|⟨y,u,rfl,e⟩
   ·injection e with e1 _;rw[e1]
   ·exact nomatch e
  ·rcases aR hb with⟨j,u,rfl,e⟩|⟨y,u,rfl,e⟩
   ·exact nomatch e
   ·injection e with e1 _;rw[e1]
 byValue:=fun k v h=>by rcases aR h with⟨i,t,rfl,rfl⟩|⟨x,t,rfl,rfl⟩<;>rfl
 pyHash:=fun hv h=>by
  rcases aR hv with⟨i,t,rfl,rfl⟩|⟨x,t,rfl,rfl⟩
  ·exact wpAny_pyHash_int h
  ·exact wpAny_pyHash_str h
 eqBool:=fun hu hv h=>by
  rcases aR hu with⟨i,t,rfl,rfl⟩|⟨x,t,rfl,rfl⟩
  ·rcases aR hv with⟨j,u,rfl,rfl⟩|⟨y,u,rfl,rfl⟩
   ·rw[qB]at h;exact wpAny_eqBool_int h
   ·rw[qC]at h;exact SeqAt.EqAt.int_str i t y u _ _ _ _ h
  ·rcases aR hv with⟨j,u,rfl,rfl⟩|⟨y,u,rfl,rfl⟩
   ·rw[qD]at h;exact SeqAt.EqAt.str_int x t j u _ _ _ _ h
   ·rw[qE]at h;exact wpAny_eqBool_str h
 «strs»:=fun k x t v h=>by
  rcases aR h with⟨i,u,rfl,e⟩|⟨y,u,rfl,e⟩
  ·exact nomatch e
  ·injection e with e1 _;subst e1;cases v<;>rfl
open PySem PySem.Spec PyProof.Rows
inductive V where
 |non|bl (b:Bool)|int (i:Int)|str (x:Str)|byt (b:Array UInt8)|flt (b:UInt64)|ref (a:Addr)|ty (n:String)
 deriving DecidableEq
def RelV:V->Value->Prop
 |.non,u=>u=Value.none
 |.bl b,u=>u=Value.bool b
 |.int i,u=>∃t,u=Value.int i t
 |.str x,u=>∃t,u=Value.str x t
 |.byt b,u=>∃t,u=Value.bytes b t
 |.flt b,u=>∃t,u=Value.float b t
 |.ref a,u=>u=Value.ref a
 |.ty n,u=>u=Value.type n
abbrev Vals:List V->List Value->Prop:=Paired RelV
theorem Vals.length{xs:List V}{us:List Value}(r:Vals xs us):xs.length=us.length:=Paired.length r
theorem Vals.get:∀{xs:List V} {us:List Value} {i:Nat} {x:V},Vals xs us->xs[i]?=some x->∃u,us[i]?=some u/\RelV x u
 |_,_,_,_,.nil,e=>by simp at e
 |_,_,0,_,.cons r _,e=>by simp at e;subst e;exact⟨_,rfl,r⟩
 |_,_,i+1,x,.cons _ t,e=>by obtain⟨u,h1,h2⟩:=Vals.get (i:=i) (x:=x) t (by simpa using e);exact⟨u,by simpa using h1,h2⟩
theorem Vals.append:∀{xs ys:List V} {us ws:List Value},Vals xs us->Vals ys ws->Vals (xs++ys) (us++ws)
 |_,_,_,_,.nil,s=>s
 |_,_,_,_,.cons r t,s=>.cons r (Vals.append t s)
theorem Vals.take:∀{xs:List V} {us:List Value} (n:Nat),Vals xs us->Vals (xs.take n) (us.take n)
 |_,_,0,_=>.nil
 |_,_,_+1,.nil=>.nil
 |_,_,n+1,.cons r t=>.cons r (Vals.take n t)
theorem Vals.drop:∀{xs:List V} {us:List Value} (n:Nat),Vals xs us->Vals (xs.drop n) (us.drop n)
 |_,_,0,r=>r
 |_,_,_+1,.nil=>.nil
 |_,_,n+1,.cons _ t=>Vals.drop n t
def RelO:Option V->Option Value->Prop
 |some v,some u=>RelV v u
 |none,none=>True
 |_,_=>False
def KV{κ:Type}:List (κ×V)->List (κ×Value)->Prop:=Paired fun(p:κ×V) (q:κ×Value)=>p.1=q.1/\RelV p.2 q.2
def kV:Key->V
 |.inl i=>.int i
 |.inr x=>.str x
inductive HO where
 |lst (xs:List V)
 |tup (xs:List V)
 |dK (kvs:List (Key×V))|dT (kvs:List (List Key×V))
 |set (S:Int->Bool)(n:Nat)
 |ins (C dx:Addr)(fs:List (Str×V))
 |own (x:Addr)
 |xd (fs:List (Str×V))
 |met (f x:Addr)
 |rng (lo hi:Int)
 |frz (o:Obj)(u:HO)
 |tbl (ps:Array Value)
 |ext (φ:Heap->Prop)
abbrev Hp:=Addr->Option HO
def upd(H:Hp)(a:Addr)(o:HO):Hp:=fun b=>if b=a then some o else H b
theorem ac{H:Hp}{a:Addr}{o:HO}:upd H a o a=some o:=by unfold upd;rw[o7 rfl]
theorem ai{H:Hp}{a b:Addr}{o:HO}(h:b≠a):upd H a o b=H b:=by unfold upd;rw[o6 h]
theorem aW{H:Hp}{a b:Addr}{o:HO}(h:H a=some o)(h':H b=none):a≠b:=by intro e;subst e;rw[h]at h';cases h'
section
variable(P:Program)(w:World)
def ObjOk(H:Hp)(h:Heap)(a:Addr):HO->Prop
 |.lst xs=>xs.length<=sizeLine/\∃(its:List Value) (n:Nat),Vals xs its/\h.get? a=some { cls:=.type "list",data:=.seq its.toArray n }
 |.tup xs=>xs.length<=sizeLine/\∃its:List Value,Vals xs its/\IsTup h a its.toArray
 |.dK kvs=>kvs.length<=sizeLine/\(a==sysModules)=false/\∃vs,KV kvs vs/\h.DictOf (eT P w) a vs
 |.dT kvs=>kvs.length<=sizeLine/\(a==sysModules)=false/\∃xs:List (List Key×Addr×Value),
   Paired (fun(p:List Key×V) (q:List Key×Addr×Value)=>p.1=q.1/\H q.2.1=some (.tup (p.1.map kV))/\RelV p.2 q.2.2) kvs xs /\
   ∃o es ep,h.get? a=some o/\o.ExactDict/\o.data=.dict es ep/\es.toList=xs.map (entryOfKey (tupleKind (eT P w)))/\(xs.map (·.1)).Nodup
 |.set S n=>h.SetOf (intKind P w) a S n
 |.ins C dx fs=>H dx=some (.own a)/\fs.length<=1000/\dx≠a/\h.get? a=some (PySem.W.instObj C dx) /\
   ∃mA,h.Ns1 dx mA/\(∀f,RelO (fs.lookup f) (mA f))/\PySem.Within mA (fs.map (·.1))
 |.own _=>∃o,h.get? a=some o
 |.xd fs=>∃mA,h.Ns1 a mA/\∀f,RelO (fs.lookup f) (mA f)
 |.rng lo hi=>∃t u v,h.get? a=some { cls:=.type "range",data:=.fields #[.int lo t,.int hi u,.int 1 v] }
 |.frz o u=>h.get? a=some o/\ObjOk H h a u
 |.tbl ps=>h.get? a=some { cls:=.none,data:=.fields ps }
 |.met f x=>h.get? a=some (PySem.W.methodObj (.ref f) (.ref x))
 |.ext φ=>φ h/\(∃o,h.get? a=some o)/\∀h1 h2:Heap,φ h1->(∀o,h1.get? a=some o->h2.get? a=some o)->φ h2
def HOk(H:Hp)(h:Heap):Prop:=∀a o,H a=some o->ObjOk P w H h a o
end
section
variable{P:Program}{w:World}{H H':Hp}{h h':Heap}{a:Addr}{o:HO}
theorem ObjOk.lt(x:ObjOk P w H h a o):a<h.objs.size:=by
 cases o with
 |lst xs=>obtain⟨_,_,_,_,e⟩:=x;exact zj e
 |tup xs=>obtain⟨_,_,_,p⟩:=x;exact p.lt
 |dK kvs=>obtain⟨_,_,_,_,o,_,_,e,_⟩:=x;exact zj e
 |dT kvs=>obtain⟨_,_,_,_,o,_,_,e,_⟩:=x;exact zj e
 |set S n=>obtain⟨o,_,_,_,e,_⟩:=x;exact zj e
 |ins C dx fs=>obtain⟨_,_,_,e,_⟩:=x;exact zj e
 |own y=>obtain⟨_,e⟩:=x;exact zj e
 |xd fs=>obtain⟨_,⟨_,_,_,e,_⟩,_⟩:=x;exact zj e
 |rng lo hi=>obtain⟨_,_,_,e⟩:=x;exact zj e
 |frz ob u=>obtain⟨e,_⟩:=x;exact zj e
 |tbl ps=>exact zj (show h.get? a=some _ from x)
 |met f y=>exact zj (show h.get? a=some _ from x)
 |ext φ=>obtain⟨_,⟨_,e⟩,_⟩:=x;exact zj e
theorem Paired.mapP{α β:Type}{F G:α->β->Prop}:∀{l₁:List α} {l₂:List β},Paired F l₁ l₂->(∀a b,F a b->G a b)->Paired G l₁ l₂
 |_,_,.nil,_=>.nil
 |_,_,.cons r t,f=>.cons (f _ _ r) (Paired.mapP t f)
theorem ObjOk.stay(x:ObjOk P w H h a o)(k:∀b u,(b=a\/H b=some (.own a))->h.get? b=some u->h'.get? b=some u)(ho:∀b,H b=some (.own a)->H' b=some (.own a))(ht:∀b xs,H b=some (.tup xs)->H' b=some (.tup xs)):ObjOk P w H' h' a o:=by
 induction o with
 |lst xs=>obtain⟨z,its,n,r,e⟩:=x;exact⟨z,its,n,r,k _ _ (.inl rfl) e⟩
 |tup xs=>obtain⟨z,its,r,ob,e,c⟩:=x;exact⟨z,its,r,ob,k _ _ (.inl rfl) e,c⟩
 |dK kvs=>obtain⟨z,y,vs,r,ob,es,ep,e,c⟩:=x;exact⟨z,y,vs,r,ob,es,ep,k _ _ (.inl rfl) e,c⟩
 |dT kvs =>obtain⟨z,y,xs,r,ob,es,ep,e,c⟩:=x;exact⟨z,y,xs,Paired.mapP r fun p q z=>⟨z.1,ht _ _ z.2.1,z.2.2⟩,ob,es,ep,k _ _ (.inl rfl) e,c⟩
 |set S n=>obtain⟨ob,es,ep,t,e,c⟩:=x;exact⟨ob,es,ep,t,k _ _ (.inl rfl) e,c⟩
 |ins C dx fs =>obtain⟨d,z,ne,e,mA,⟨od,es,ep,e2,c⟩,r⟩:=x;exact⟨ho _ d,z,ne,k _ _ (.inl rfl) e,mA,⟨od,es,ep,k _ _ (.inr d) e2,c⟩,r⟩
 |own y=>obtain⟨ob,e⟩:=x;exact⟨ob,k _ _ (.inl rfl) e⟩
 |xd fs=>obtain⟨mA,⟨od,es,ep,e,c⟩,r⟩:=x;exact⟨mA,⟨od,es,ep,k _ _ (.inl rfl) e,c⟩,r⟩
 |rng lo hi=>obtain⟨t,u,v,e⟩:=x;exact⟨t,u,v,k _ _ (.inl rfl) e⟩
 |frz ob u ih=>obtain⟨e,q⟩:=x;exact⟨k _ _ (.inl rfl) e,ih q⟩
 |tbl ps =>have e:h.get? a=some { cls:=.none,data:=.fields ps }:=x;show h'.get? a=some { cls:=.none,data:=.fields ps };exact k a _ (.inl rfl) e
 |met f y =>have e:h.get? a=some (PySem.W.methodObj (.ref f) (.ref y)):=x;show h'.get? a=some (PySem.W.methodObj (.ref f) (.ref y));exact k a _ (.inl rfl) e
 |ext φ=>obtain⟨p,⟨o,e⟩,st⟩:=x;exact⟨st _ _ p fun o q=>k _ _ (.inl rfl) q,⟨o,k _ _ (.inl rfl) e⟩,st⟩
theorem HOk.lt(x:HOk P w H h)(e:H a=some o):a<h.objs.size:=(x a o e).lt
theorem HOk.fresh(x:HOk P w H h)(e:h.objs.size<=a):H a=none:=by
 cases q:H a with
 |none=>rfl
 |some u=>exact absurd (zk (x.lt q) e) (zZ _)
theorem HOk.kept(x:HOk P w H h)(k:∀b u,h.get? b=some u->h'.get? b=some u):HOk P w H h':=fun a o e =>
 (x a o e).stay (fun b u _ q=>k b u q) (fun _ q=>q) fun _ _ q=>q
theorem HOk.laid(x:HOk P w H h)(k:∀b u,h.get? b=some u->h'.get? b=some u)(hp:h.objs.size<=a)(new:ObjOk P w (upd H a o) h' a o):HOk P w (upd H a o) h':=fun b u e=>by
 have hn:=x.fresh hp;by_cases hb:b=a
 ·subst hb;rw[ac]at e;cases e;exact new
 ·rw[ai hb]at e;exact(x b u e).stay (fun c v _ q=>k c v q) (fun c q=>by rw[ai (aW q hn)];exact q) fun c xs q=>by rw[ai (aW q hn)];exact q
end
def Rd(H:Hp)(a:Addr)(u:HO):Prop:=H a=some u\/∃o,H a=some (.frz o u)
theorem Rd.ok{P:Program}{w:World}{H:Hp}{h:Heap}{a:Addr}{u:HO}(r:Rd H a u)(x:HOk P w H h):ObjOk P w H h a u:=by
 rcases r with r|⟨o,r⟩
 ·exact x a u r
 ·obtain⟨_,q⟩:=x a _ r;exact q
def Mut:Option HO->Prop
 |some (.lst _)=>True
 |some (.dK _)=>True
 |some (.dT _)=>True
 |some (.set _ _)=>True
 |some (.ins _ _ _)=>True
 |some (.ext _)=>True
 |_=>False
section
variable{P:Program}{w:World}{H:Hp}{h h':Heap}{x e:Addr}{o':HO}
theorem HOk.write(ok:HOk P w H h)(mu:Mut (H x))(he:e=x\/H e=some (.own x))(k:∀b u,b≠e->h.get? b=some u->h'.get? b=some u)(heo:∃u,h'.get? e=some u)(new:ObjOk P w (upd H x o') h' x o'):HOk P w (upd H x o') h':=fun b u q=>by
 have nown:∀c y,H c=some (.own y)->c≠x:=fun c y r z=>by subst z;rw[r]at mu;exact mu
 have ntup:∀c xs,H c=some (.tup xs)->c≠x:=fun c xs r z=>by subst z;rw[r]at mu;exact mu
 by_cases hb:b=x
 ·subst hb;rw[ac]at q;cases q;exact new
 ·rw[ai hb]at q;by_cases hbe:b=e
  ·have q':H b=some (.own x):=by
    rcases he with z|z
    ·exact absurd (hbe.trans z) hb
    ·rw[hbe];exact z
   rw[q]at q';cases q';obtain⟨v,hv⟩:=heo;exact⟨v,by rw[hbe];exact hv⟩
  ·refine(ok b u q).stay (fun c v hc r=>k c v ?_ r) (fun c r=>by rw[ai (nown c b r)];exact r) fun c xs r=>by rw[ai (ntup c xs r)];exact r
   rcases hc with rfl|hc
   ·exact hbe
   ·rintro rfl;rcases he with z|z
    ·exact nown c b hc z
    ·rw[hc]at z;cases z;exact hb rfl
end
structure Un(fs ex:List Addr)(H H':Hp)(h h':Heap):Prop where
 keep:∀b o,h.get? b=some o->H b=none->b∉fs->b∉ex->h'.get? b=some o
 slot:∀b o,h.get? b=some o->H b=none->b∈fs->b∉ex->∃sl,h'.get? b=some { o with slots:=sl }
 free:∀b o,h.get? b=some o->H b=none->b∉ex->H' b=none
 there:∀b o,h.get? b=some o->b∉ex->∃o',h'.get? b=some o'
 tups:∀b xs,H b=some (.tup xs)->H' b=some (.tup xs)
 frzs:∀b o u,H b=some (.frz o u)->H' b=some (.frz o u)
 tbls:∀b ps,H b=some (.tbl ps)->∃more,H' b=some (.tbl (ps++more))
section
variable{fs fs' ex ex':List Addr}{H H1 H2:Hp}{h h1 h2 h':Heap}{a x e:Addr}{o:HO}
theorem Un.any(u:Un fs ex H H1 h h1){b:Addr}{ob:Obj}(q:h.get? b=some ob)(n:H b=none)(hx:b∉ex):∃sl,h1.get? b=some { ob with slots:=sl }:=by
 by_cases hb:b∈fs
 ·exact u.slot b ob q n hb hx
 ·exact⟨ob.slots,u.keep b ob q n hb hx⟩
theorem Un.kept(k:∀b u,h.get? b=some u->h'.get? b=some u):Un fs ex H H h h' :=
 ⟨fun b ob q _ _ _=>k b ob q,fun b ob q _ _ _=>⟨ob.slots,k b ob q⟩,fun _ _ _ n _=>n,fun b ob q _=>⟨ob,k b ob q⟩,fun _ _ q=>q,fun _ _ _ q=>q,fun _ ps q=>⟨#[],by rw[q];simp⟩⟩
theorem Un.refl:Un fs ex H H h h:=Un.kept fun _ _ q=>q
theorem Un.laid(k:∀b u,h.get? b=some u->h'.get? b=some u)(hp:h.objs.size<=a)(hn:H a=none):Un fs ex H (upd H a o) h h' where
 keep:=fun b u q _ _ _=>k b u q
 slot:=fun b u q _ _ _=>⟨u.slots,k b u q⟩
 free:=fun b u q n _=>by rw[ai (zC (zk (zj q) hp))];exact n
 there:=fun b u q _=>⟨u,k b u q⟩
 tups:=fun b xs q=>by rw[ai (aW q hn)];exact q
 frzs:=fun b u xs q=>by rw[ai (aW q hn)];exact q
 tbls:=fun b ps q=>⟨#[],by rw[ai (aW q hn),q];simp⟩
theorem Un.write(mu:Mut (H x))(he:e=x\/H e=some (.own x))(k:∀b u,b≠e->h.get? b=some u->h'.get? b=some u)(heo:∃u,h'.get? e=some u):Un fs ex H (upd H x o) h h':=by
 have hx:∀b,H b=none->b≠x:=fun b n z=>by subst z;rw[n]at mu;exact mu
 have hb:∀b,H b=none->b≠e:=fun b n z=>by
  subst z;rcases he with r|r
  ·exact hx b n r
  ·rw[n]at r;cases r
 have hm:∀b u,H b=some u->¬Mut (some u)->b≠x:=fun b u q nm z=>by subst z;rw[q]at mu;exact nm mu
 refine⟨fun b u q n _ _=>k b u (hb b n) q,fun b u q n _ _=>⟨u.slots,k b u (hb b n) q⟩,fun b u q n _=>by rw[ai (hx b n)];exact n,fun b u q _=>?_,
  fun b xs q=>by rw[ai (hm b _ q fun z=>z)];exact q,fun b u xs q=>by rw[ai (hm b _ q fun z=>z)];exact q,fun b ps q=>⟨#[],by rw[ai (hm b _ q fun z=>z),q];simp⟩⟩
 by_cases hbe:b=e
 ·subst hbe;exact heo
 ·exact⟨u,k b u hbe q⟩
end
def trk(h:Heap)(H:Hp):List Addr:=(List.range h.objs.size).filter fun a=>(H a).isSome
def dC(h:Heap)(H:Hp):Heap:=PySem.W.hideAll h (trk h H)
theorem lM(h:Heap)(H:Hp):(dC h H).objs.size=h.objs.size:=PySem.W.hideAll_size _ _
theorem nk{h:Heap}{H:Hp}{b:Addr}{o:Obj}(e:h.get? b=some o)(n:H b=none):(dC h H).get? b=some o :=
 PySem.W.hideAll_get _ e fun hm=>by have q:(H b).isSome=true:=(List.mem_filter.mp hm).2;rw[n]at q;simp at q
theorem pq{h:Heap}{H:Hp}{b:Addr}{o:Obj}(e:(dC h H).get? b=some o):h.get? b=some o/\H b=none:=by
 have e':h.get? b=some o:=PySem.W.of_hideAll (trk h H) e;refine⟨e',?_⟩;cases q:H b with
 |none=>rfl
 |some x =>have hm:b∈trk h H:=List.mem_filter.mpr ⟨List.mem_range.mpr (zj e'),by simp[q]⟩;have z:(dC h H).get? b=none:=PySem.W.hideAll_none (trk h H) hm;rw[z]at e;cases e
open PySem PySem.Spec PyProof.Rows
structure Mod(K:PySem.W.Frag)(mg:Str->Option Value)(base:Heap):Prop where
 kin:K.In base
 glob:base.Ns mainGlobals mg
 blt:∃mb,base.Ns builtinsNs mb/\∀x:Str,x≠"__name__"->mb x=bootBuiltins x
 nolimit:base.NoLimit
structure Cx where
 prog:Program
 w:World
 K:PySem.W.Frag
 mg:Str->Option Value
 base:Heap
 A:Around
 N:List Str
 s₀:Shared
 H₀:Hp
 env:Env
 outer:List Env
 stack:List Env
 ex:List Addr
 fn:Str->Bool
 calm:Bool
 pn:List (Addr×Obj)
 xe:Value->Shared->Prop
def frs(l:List Env):List Addr:=l.filterMap (·.frame)
abbrev Cx.fs(X:Cx):List Addr:=frs X.outer
def Vis(sc:Scope)(x:Str):Prop:=sc.names.lookup x=some .local\/sc.names.lookup x=some .cell\/sc.names.lookup x=some .free
def Loc(sc:Scope)(x:Str):Prop:=sc.names.lookup x=some .local\/sc.names.lookup x=some .cell
def sU(env:Env)(h:Heap)(m:Str->Option Value)(x:Str)(u:Value):Prop :=
 (env.kindOf x=some .local/\m x=some u)\/((env.kindOf x=some .cell\/env.kindOf x=some .free)/\∃c,env.cells.lookup x=some c/\h.IsCell c (some u))
structure Cx.Ok(X:Cx):Prop where
 mod:Mod X.K X.mg X.base
 kind:X.env.scope.kind=.function
 glob:X.env.globals=mainGlobals
 blt:X.env.builtins=builtinsNs
 above:X.s₀.heap.objs.size<=X.env.locals
 inj:∀x y c,X.env.cells.lookup x=some c->X.env.cells.lookup y=some c->x=y
 has:∀x,(X.env.kindOf x=some .cell\/X.env.kindOf x=some .free)->∃c,X.env.cells.lookup x=some c
 cab:∀x c,X.fn x=true->X.env.cells.lookup x=some c->X.s₀.heap.objs.size<=c
 hd:X.calm=true->X.A.handled=none
 frames:X.A.frames=some X.stack
 stk:X.stack=X.outer\/(X.stack=X.env::X.outer/\X.env.frame=some X.env.locals)
 exf:∀b∈X.ex,b≠X.env.locals/\∀x c,X.env.cells.lookup x=some c->c≠b
 bs:∀b o,X.base.get? b=some o->X.s₀.heap.get? b=some o/\X.H₀ b=none
 bsz:X.base.objs.size<=X.s₀.heap.objs.size
 noex:∀b o,X.base.get? b=some o->b∉X.ex
 exfs:∀b∈X.ex,b∉X.fs
 funs:X.s₀.heap.FunFrames X.base X.outer
 frf:∀b∈X.fs,X.H₀ b=none
structure Inv(X:Cx)(pins:List (Addr×Obj))(σ:List (Option V))(H:Hp)(s:Shared):Prop where
 ok:X.Ok
 os:s.os=X.s₀.os
 bare:AllBare s.gens
 base:Un X.fs X.ex X.H₀ H X.s₀.heap s.heap
 loc:∃m,s.heap.Ns X.env.locals m/\∀(i:Nat) (x:Str) (v:V),X.N[i]?=some x->σ[i]?=some (some v)->Vis X.env.scope x->∃u,RelV v u/\sU X.env s.heap m x u
 cell:∀x c,X.env.cells.lookup x=some c->∃v,s.heap.IsCell c v
 free:H X.env.locals=none
 freeC:∀x c,X.env.cells.lookup x=some c->H c=none
 pin:∀p∈X.pn++pins,s.heap.get? p.1=some p.2/\H p.1=none/\p.1≠X.env.locals/\p.1∉X.fs/\∀v,p.2.data≠.cell v
 hok:HOk X.prog X.w H s.heap
 len:σ.length=X.N.length
section
variable{X:Cx}{pins:List (Addr×Obj)}{σ:List (Option V)}{H H':Hp}{s:Shared}{h':Heap}
theorem Cx.Ok.nofr(ok:X.Ok){b:Addr}{o:Obj}(e:X.base.get? b=some o):b∉X.fs:=fun hb=>by have:=(ok.funs.mem hb).1;rw[e]at this;cases this
theorem Inv.bs(I:Inv X pins σ H s):∀b o,X.base.get? b=some o->s.heap.get? b=some o/\H b=none:=fun b o e =>
 ⟨I.base.keep b o (I.ok.bs b o e).1 (I.ok.bs b o e).2 (I.ok.nofr e) (I.ok.noex b o e),I.base.free b o (I.ok.bs b o e).1 (I.ok.bs b o e).2 (I.ok.noex b o e)⟩
theorem Inv.bk(I:Inv X pins σ H s):∀b o,X.base.get? b=some o->s.heap.get? b=some o:=fun b o e=>(I.bs b o e).1
theorem Inv.mod(I:Inv X pins σ H s):Mod X.K X.mg X.base:=I.ok.mod
theorem Inv.kIn(I:Inv X pins σ H s):X.K.In s.heap:=I.ok.mod.kin.keeps I.bk
theorem Inv.nolimit(I:Inv X pins σ H s):s.heap.NoLimit:=I.ok.mod.nolimit.keeps I.bk
theorem Inv.fr(I:Inv X pins σ H s):∃m,Fr X.base X.env.locals s.heap m :=
 let⟨m,hn,_⟩:=I.loc
 ⟨m,hn,I.bk,zh I.ok.bsz I.ok.above⟩
theorem Inv.lt(I:Inv X pins σ H s):X.env.locals<s.heap.objs.size:=let⟨_,hn,_⟩:=I.loc;hn.lt
theorem Inv.sz(I:Inv X pins σ H s):X.s₀.heap.objs.size<=s.heap.objs.size:=zh I.ok.above (Nat.le_of_lt I.lt)
theorem Inv.nofs(I:Inv X pins σ H s){a:Addr}(h:s.heap.objs.size<=a):a∉X.fs:=fun hb=>by obtain⟨_,o,ho,_⟩:=I.ok.funs.mem hb;exact absurd (zk (zj ho) (zh I.sz h)) (zZ _)
theorem Inv.cne(I:Inv X pins σ H s):∀x c,X.env.cells.lookup x=some c->c≠X.env.locals:=fun x c e z=>by obtain⟨v,o,ho,hd⟩:=I.cell x c e;obtain⟨m,⟨o',es,ep,ho',hd',_⟩,_⟩:=I.loc;rw[z,ho']at ho;cases ho;rw[hd']at hd;cases hd
theorem Inv.funs(I:Inv X pins σ H s):s.heap.FunFrames X.base X.outer:=by
 have all:∀(l:List Env),(∀b∈frs l,b∈X.fs)->X.s₀.heap.FunFrames X.base l->s.heap.FunFrames X.base l:=by
  intro l;induction l with
  |nil=>intro _ _;trivial
  |cons env r ih =>intro hs hl;obtain⟨hk,⟨L,o,hf,hn,ho,hd⟩,hr⟩:=hl;have hL:L∈X.fs:=hs L (by unfold frs;rw[List.filterMap_cons,hf];exact zq);obtain⟨sl,e⟩:=I.base.slot L o ho (I.ok.frf L hL) hL fun z=>I.ok.exfs L z hL;exact⟨hk,⟨L,_,hf,hn,e,hd⟩,ih (fun b hb=>hs b (by unfold frs;rw[List.filterMap_cons,hf];exact zl _ hb)) hr⟩
 exact all X.outer (fun _ hb=>hb) I.ok.funs
theorem Inv.stack(I:Inv X pins σ H s):s.heap.FunFrames X.base X.stack:=by
 rcases I.ok.stk with e|⟨e,hf⟩
 ·rw[e];exact I.funs
 ·rw[e];obtain⟨m,hn,_⟩:=I.loc;refine .cons (by rw[I.ok.kind];decide) hf hn ?_ I.funs;exact Heap.get?_none_of_le (zh I.ok.bsz I.ok.above)
theorem Inv.stkSub(I:Inv X pins σ H s):∀b∈frs X.stack,b∈X.env.locals::X.fs:=fun b hb=>by
 rcases I.ok.stk with e|⟨e,hf⟩
 ·rw[e]at hb;exact zl _ hb
 ·rw[e]at hb;unfold frs at hb;rw[List.filterMap_cons,hf]at hb;exact hb
theorem Inv.stkFree(I:Inv X pins σ H s):∀b∈frs X.stack,H b=none:=fun b hb=>by
 rcases zo.mp (I.stkSub b hb)with e|hb
 ·rw[e];exact I.free
 ·obtain⟨_,o,ho,_⟩:=I.ok.funs.mem hb;exact I.base.free b o ho (I.ok.frf b hb) fun z=>I.ok.exfs b z hb
theorem Inv.step{g':Array GenState}{t':Nat}{d':Drawn}{ch:List Addr}(I:Inv X pins σ H s)(hch:∀b∈ch,(b∈X.ex\/X.s₀.heap.objs.size<=b)/\b≠X.env.locals/\(∀x c,X.env.cells.lookup x=some c->c≠b)/\∀p∈X.pn++pins,p.1≠b)(keep:∀b o,b≠X.env.locals->b∉X.fs->b∉ch->s.heap.get? b=some o->H b=none->h'.get? b=some o)(slot:∀b o,b≠X.env.locals->b∈X.fs->b∉ch->s.heap.get? b=some o->H b=none->∃sl,h'.get? b=some { o with slots:=sl })(free:∀b o,b∉ch->s.heap.get? b=some o->H b=none->H' b=none)(there:∀b o,b∉ch->s.heap.get? b=some o->∃o',h'.get? b=some o')(tups:∀b xs,H b=some (.tup xs)->H' b=some (.tup xs))(frzs:∀b o u,H b=some (.frz o u)->H' b=some (.frz o u))(tbls:∀b ps,H b=some (.tbl ps)->∃more,H' b=some (.tbl (ps++more)))(ns:∀m,s.heap.Ns X.env.locals m->h'.Ns X.env.locals m)(hok:HOk X.prog X.w H' h')(hg:AllBare g') :
  Inv X pins σ H' { s with heap:=h',gens:=g',drawn:=d',toks:=t' }:=by
 have neL:∀b o,X.s₀.heap.get? b=some o->b≠X.env.locals:=fun b o e=>zC (zk (zj e) I.ok.above);have neC:∀b o,X.s₀.heap.get? b=some o->b∉X.ex->b∉ch:=fun b o e hx hb=>by
  rcases(hch b hb).1 with z|z
  ·exact hx z
  ·exact absurd (zk (zj e) z) (zZ _)
 have cellK:∀x c,X.env.cells.lookup x=some c->∀v,s.heap.IsCell c v->h'.IsCell c v:=fun x c e v ⟨o,ho,hd⟩=>by
  have nch:c∉ch:=fun z=>(hch c z).2.2.1 x c e rfl;by_cases hc:c∈X.fs
  ·obtain⟨sl,q⟩:=slot c o (I.cne x c e) hc nch ho (I.freeC x c e);exact⟨_,q,hd⟩
  ·exact⟨o,keep c o (I.cne x c e) hc nch ho (I.freeC x c e),hd⟩
 refine⟨I.ok,I.os,hg,⟨fun b o e n hb hx=>?_,fun b o e n hb hx=>?_,fun b o e n hx=>?_,fun b o e hx=>?_,fun b xs e=>tups b xs (I.base.tups b xs e),fun b o xs e=>frzs b o xs (I.base.frzs b o xs e),fun b ps e=>?_⟩,?_,fun x c e=>?_,?_,fun x c e=>?_,fun p hp=>?_,hok,I.len⟩
 ·exact keep b o (neL b o e) hb (neC b o e hx) (I.base.keep b o e n hb hx) (I.base.free b o e n hx)
 ·obtain⟨sl,e1⟩:=I.base.slot b o e n hb hx;obtain⟨sl',e2⟩:=slot b _ (neL b o e) hb (neC b o e hx) e1 (I.base.free b o e n hx);exact⟨sl',e2⟩
 ·obtain⟨o',e1⟩:=I.base.there b o e hx;exact free b o' (neC b o e hx) e1 (I.base.free b o e n hx)
 ·obtain⟨o',e1⟩:=I.base.there b o e hx;exact there b o' (neC b o e hx) e1
 ·obtain⟨m1,e1⟩:=I.base.tbls b ps e;obtain⟨m2,e2⟩:=tbls b _ e1;exact⟨m1++m2,by rw[e2,Array.append_assoc]⟩
 ·obtain⟨m,hn,hl⟩:=I.loc;refine⟨m,ns m hn,fun i x v e1 e2 e3=>?_⟩;obtain⟨u,r,l⟩:=hl i x v e1 e2 e3;refine⟨u,r,?_⟩;rcases l with l|⟨k,c,e,z⟩
  ·exact .inl l
  ·exact .inr ⟨k,c,e,cellK x c e _ z⟩
 ·obtain⟨v,z⟩:=I.cell x c e;exact⟨v,cellK x c e v z⟩
 ·obtain⟨m,⟨o,_,_,ho,_⟩,_⟩:=I.loc;exact free _ o (fun z=>(hch _ z).2.1 rfl) ho I.free
 ·obtain⟨v,o,ho,hd⟩:=I.cell x c e;exact free c o (fun z=>(hch c z).2.2.1 x c e rfl) ho (I.freeC x c e)
 ·obtain⟨e,n,ne,nf,d⟩:=I.pin p hp;have nch:p.1∉ch:=fun z=>(hch p.1 z).2.2.2 p hp rfl;exact⟨keep p.1 p.2 ne nf nch e n,free p.1 p.2 nch e n,ne,nf,d⟩
theorem Inv.un{t':Nat}(I:Inv X pins σ H s)(u:Un X.fs [] H H' s.heap h')(hok:HOk X.prog X.w H' h'):Inv X pins σ H' { s with heap:=h',toks:=t' }:=by
 obtain⟨m,⟨o,es,ep,ho,r⟩,_⟩:=id I.loc;obtain⟨sl,hL⟩:=u.any ho I.free (by simp);exact I.step (g':=s.gens) (d':=s.drawn) (ch:=[]) (fun _ z=>nomatch z) (fun b o _ hb _ e n=>u.keep b o e n hb (by simp)) (fun b o _ hb _ e n=>u.slot b o e n hb (by simp)) (fun b o _ e n=>u.free b o e n (by simp)) (fun b o _ e=>u.there b o e (by simp)) u.tups u.frzs u.tbls (fun m' hm=>by
  obtain⟨o',es',ep',ho',r'⟩:=hm;rw[ho]at ho';cases ho';exact⟨_,es',ep',hL,r'⟩) hok I.bare
theorem Inv.call{g':Array GenState}{t':Nat}{d':Drawn}{ch:List Addr}(I:Inv X pins σ H s)(u:Un (frs X.stack) ch H H' s.heap h')(hok:HOk X.prog X.w H' h')(hg:AllBare g')(hch:∀b∈ch,(b∈X.ex\/X.s₀.heap.objs.size<=b)/\b≠X.env.locals/\(∀x c,X.env.cells.lookup x=some c->c≠b)/\∀p∈X.pn++pins,p.1≠b) :
  Inv X pins σ H' { s with heap:=h',gens:=g',drawn:=d',toks:=t' }:=by
 obtain⟨m,⟨o,es,ep,ho,r⟩,_⟩:=id I.loc;obtain⟨sl,hL⟩:=u.any ho I.free fun z=>(hch _ z).2.1 rfl;exact I.step (ch:=ch) hch (fun b o hL hb hc e n=>u.keep b o e n (fun z=>(zo.mp (I.stkSub b z)).elim hL hb) hc) (fun b o _ _ hc e n=>u.any e n hc) (fun b o hc e n=>u.free b o e n hc) (fun b o hc e=>u.there b o e hc) u.tups u.frzs u.tbls (fun m' hm=>by
  obtain⟨o',es',ep',ho',r'⟩:=hm;rw[ho]at ho';cases ho';exact⟨_,es',ep',hL,r'⟩) hok hg
theorem Inv.turned{t':Nat}{it:Addr}(I:Inv X pins σ H s)(k:∀b o,b≠it->s.heap.get? b=some o->h'.get? b=some o)(hn:H it=none)(hL:it≠X.env.locals)(h1:it∈X.ex\/X.s₀.heap.objs.size<=it)(h2:∀x c,X.env.cells.lookup x=some c->c≠it)(h3:∀p∈X.pn++pins,p.1≠it):Inv X pins σ H { s with heap:=h',toks:=t' }:=by
 have nit:∀b u,H b=some u->b≠it:=fun b u e z=>by rw[z,hn]at e;cases e
 refine I.step (g':=s.gens) (d':=s.drawn) (ch:=[it]) (fun b hb=>?_) (fun b o _ _ hc e _=>k b o (fun z=>hc (by simp[z])) e) (fun b o _ _ hc e _=>⟨o.slots,k b o (fun z=>hc (by simp[z])) e⟩) (fun _ _ _ _ n=>n)
  (fun b o hc e=>⟨o,k b o (fun z=>hc (by simp[z])) e⟩) (fun _ _ e=>e) (fun _ _ _ e=>e) (fun b ps e=>⟨#[],by rw[e];simp⟩) (fun m hm=>?_) (fun b u e=>?_) I.bare
 ·have e:b=it:=by simpa using hb
  subst e;exact⟨h1,hL,h2,h3⟩
 ·obtain⟨o,es,ep,ho,r⟩:=hm;exact⟨o,es,ep,k _ o (Ne.symm hL) ho,r⟩
 ·refine(I.hok b u e).stay (fun c v hc q=>k c v ?_ q) (fun _ q=>q) fun _ _ q=>q;rcases hc with z|z
  ·rw[z];exact nit b u e
  ·exact nit c _ z
theorem Inv.tok(I:Inv X pins σ H s)(t:Nat):Inv X pins σ H { s with toks:=t }:=I.un (h':=s.heap) (t':=t) Un.refl I.hok
theorem Inv.kept{t':Nat}(I:Inv X pins σ H s)(k:∀b u,s.heap.get? b=some u->h'.get? b=some u):Inv X pins σ H { s with heap:=h',toks:=t' }:=I.un (Un.kept k) (I.hok.kept k)
theorem Inv.laid{a:Addr}{o:HO}{t':Nat}(I:Inv X pins σ H s)(k:∀b u,s.heap.get? b=some u->h'.get? b=some u)(hp:s.heap.objs.size<=a)(new:ObjOk X.prog X.w (upd H a o) h' a o) :
  Inv X pins σ (upd H a o) { s with heap:=h',toks:=t' }:=I.un (Un.laid k hp (I.hok.fresh hp)) (I.hok.laid k hp new)
theorem Inv.write{x e:Addr}{o:HO}{t':Nat}(I:Inv X pins σ H s)(mu:Mut (H x))(he:e=x\/H e=some (.own x))(k:∀b u,b≠e->s.heap.get? b=some u->h'.get? b=some u)(heo:∃u,h'.get? e=some u)(new:ObjOk X.prog X.w (upd H x o) h' x o):Inv X pins σ (upd H x o) { s with heap:=h',toks:=t' }:=I.un (Un.write mu he k heo) (I.hok.write mu he k heo new)
theorem Inv.weak{σ':List (Option V)}(I:Inv X pins σ H s)(hl:σ'.length=σ.length)(w:∀(i:Nat) v,σ'[i]?=some (some v)->σ[i]?=some (some v)):Inv X pins σ' H s :=
 ⟨I.ok,I.os,I.bare,I.base,let⟨m,hn,hl'⟩:=I.loc;⟨m,hn,fun i x v e1 e2 e3=>hl' i x v e1 (w i v e2) e3⟩,I.cell,I.free,I.freeC,I.pin,I.hok,hl.trans I.len⟩
theorem Inv.pins_of{pins':List (Addr×Obj)}(I:Inv X pins σ H s)(h:∀p∈pins',s.heap.get? p.1=some p.2/\H p.1=none/\p.1≠X.env.locals/\p.1∉X.fs/\∀v,p.2.data≠.cell v):Inv X pins' σ H s :=
 ⟨I.ok,I.os,I.bare,I.base,I.loc,I.cell,I.free,I.freeC,fun p hp=>(zH.mp hp).elim (fun z=>I.pin p (List.mem_append_left _ z)) (h p),I.hok,I.len⟩
theorem ji{N:List Str}(hN:N.Nodup){i j:Nat}{x:Str}(a:N[i]?=some x)(b:N[j]?=some x):i=j:=by obtain⟨h1,e1⟩:=zp.mp a;obtain⟨h2,e2⟩:=zp.mp b;exact(List.getElem_inj hN).mp (e1.trans e2.symm)
theorem ic{M:Model}{A:Around}{E:Value->Shared->Prop}{i:Nat}{x:Str}{v:V}{u:Value}{Q:Unit->Shared->Prop}(I:Inv X pins σ H s)(hN:X.N.Nodup)(hi:X.N[i]?=some x)(hx:Loc X.env.scope x)(r:RelV v u)(h:∀s',Inv X pins (σ.set i (some v)) H s'->(∃a,Heap.SameBut a s.heap s'.heap/\(a=X.env.locals\/X.env.cells.lookup x=some a))->Q () s')(hf:X.fn x=true\/X.env.scope.names.lookup x=some .local:=by first|exact .inl rfl|exact .inr rfl|assumption):wpAny M A (storeName X.env x u) Q E s:=by
 obtain⟨m,hn,hl⟩:=id I.loc;have hcls:(X.env.scope.kind == .class ||(X.env.scope.kind == .module&&X.env.locals != X.env.globals))=false:=by rw[I.ok.kind];rfl
 have hiσ:i<σ.length:=by rw[I.len];exact(zp.mp hi).1
 have cne:=I.cne;have tracked:∀{a:Addr} {h':Heap},(∃o,s.heap.get? a=some o/\H a=none)->Heap.SameBut a s.heap h'->HOk X.prog X.w H h':=fun{a h'} ha hs b ob e=>by
  obtain⟨_,_,hfree⟩:=ha;refine(I.hok b ob e).stay (fun c w' hc q=>(hs.2 c ?_).trans q) (fun _ q=>q) fun _ _ q=>q;rintro rfl;rcases hc with rfl|hc
  ·rw[hfree]at e;cases e
  ·rw[hfree]at hc;cases hc
 rcases hx with hk|hk
 ·refine wpAny_storeName_local hk hn (fun h' hn' hs=>?_) hcls;obtain⟨oL,_,_,hoL,_⟩:=id hn;refine h _ ⟨I.ok,I.os,I.bare,⟨fun b o e n hb hx=>?_,fun b o e n hb hx=>?_,I.base.free,fun b o e hx=>?_,I.base.tups,I.base.frzs,I.base.tbls⟩,⟨_,hn',fun j y v' e1 e2 e3=>?_⟩,fun y c e=>?_,I.free,I.freeC,fun p hp=>?_,tracked ⟨oL,hoL,I.free⟩ hs,by simpa using I.len⟩ ⟨_,hs,.inl rfl⟩
  ·exact(hs.2 b (zC (zk (zj e) I.ok.above))).trans (I.base.keep b o e n hb hx)
  ·obtain⟨sl,e1⟩:=I.base.slot b o e n hb hx;exact⟨sl,(hs.2 b (zC (zk (zj e) I.ok.above))).trans e1⟩
  ·obtain⟨o',e1⟩:=I.base.there b o e hx;exact⟨o',(hs.2 b (zC (zk (zj e) I.ok.above))).trans e1⟩
  ·by_cases hj:j=i
   ·subst hj;rw[hi]at e1;cases e1;rw[List.getElem?_set_self hiσ]at e2;cases e2;exact⟨u,r,.inl ⟨hk,by simp⟩⟩
   ·rw[List.getElem?_set_ne (Ne.symm hj)]at e2;obtain⟨u',r',q⟩:=hl j y v' e1 e2 e3;refine⟨u',r',?_⟩;rcases q with⟨k,e⟩|⟨k,c,e,z⟩
    ·refine .inl ⟨k,?_⟩;have:y≠x:=fun e=>hj (ji hN e1 (e▸hi));simp[this,e]
    ·exact .inr ⟨k,c,e,z.sameBut hs (cne y c e)⟩
  ·obtain⟨w',z⟩:=I.cell y c e;exact⟨w',z.sameBut hs (cne y c e)⟩
  ·obtain⟨e,n,ne,nf,d⟩:=I.pin p hp;exact⟨(hs.2 p.1 ne).trans e,n,ne,nf,d⟩
 ·have hfn:X.fn x=true:=by
   rcases hf with z|z
   ·exact z
   ·rw[z]at hk;cases hk
  obtain⟨c,hc⟩:=I.ok.has x (.inl hk);obtain⟨w',z⟩:=I.cell x c hc;refine wpAny_storeName_cell I.ok.kind hk hc z (fun h' hc' hs=>?_);obtain⟨oc,hoc,hocd⟩:=id z;refine h { s with heap:=h' } ⟨I.ok,I.os,I.bare,⟨fun b o e n hb hx=>?_,fun b o e n hb hx=>?_,I.base.free,fun b o e hx=>?_,I.base.tups,I.base.frzs,I.base.tbls⟩,⟨m,hn.sameBut hs (Ne.symm (cne x c hc)),fun j y v' e1 e2 e3=>?_⟩,fun y c' e=>?_,I.free,I.freeC,fun p hp=>?_,tracked ⟨oc,hoc,I.freeC x c hc⟩ hs,by simpa using I.len⟩ ⟨c,hs,.inr hc⟩
  ·exact(hs.2 b (zC (zk (zj e) (I.ok.cab x c hfn hc)))).trans (I.base.keep b o e n hb hx)
  ·obtain⟨sl,e1⟩:=I.base.slot b o e n hb hx;exact⟨sl,(hs.2 b (zC (zk (zj e) (I.ok.cab x c hfn hc)))).trans e1⟩
  ·obtain⟨o',e1⟩:=I.base.there b o e hx;exact⟨o',(hs.2 b (zC (zk (zj e) (I.ok.cab x c hfn hc)))).trans e1⟩
  ·by_cases hj:j=i
   ·subst hj;rw[hi]at e1;cases e1;rw[List.getElem?_set_self hiσ]at e2;cases e2;exact⟨u,r,.inr ⟨.inl hk,c,hc,hc'⟩⟩
   ·rw[List.getElem?_set_ne (Ne.symm hj)]at e2;obtain⟨u',r',q⟩:=hl j y v' e1 e2 e3;refine⟨u',r',?_⟩;rcases q with q|⟨k,c',e,z'⟩
    ·exact .inl q
    ·refine .inr ⟨k,c',e,z'.sameBut hs ?_⟩;rintro rfl;exact hj (ji hN e1 (I.ok.inj _ _ _ e hc▸hi))
  ·by_cases hcc:c'=c
   ·subst hcc;exact⟨_,hc'⟩
   ·obtain⟨w2,z2⟩:=I.cell y c' e;exact⟨w2,z2.sameBut hs hcc⟩
  ·obtain⟨e,n,ne,nf,d⟩:=I.pin p hp;refine⟨(hs.2 p.1 ?_).trans e,n,ne,nf,d⟩;intro q;rw[q,hoc]at e;have q':oc=p.2:=zD e;exact d w' (by rw[<-q'];exact hocd)
theorem jy{M:Model}{A:Around}{E:Value->Shared->Prop}{i:Nat}{x:Str}{v:V}{u:Value}{Q:Unit->Shared->Prop}(I:Inv X pins σ H s)(hN:X.N.Nodup)(hi:X.N[i]?=some x)(hx:Loc X.env.scope x)(r:RelV v u)(h:∀s',Inv X pins (σ.set i (some v)) H s'->Q () s')(hf:X.fn x=true\/X.env.scope.names.lookup x=some .local:=by first|exact .inl rfl|exact .inr rfl|assumption):wpAny M A (storeName X.env x u) Q E s :=
 ic I hN hi hx r (fun s' I' _=>h s' I') hf
theorem Inv.call'{s':Shared}{ch:List Addr}(I:Inv X pins σ H s)(ho:s'.os=s.os)(u:Un (frs X.stack) ch H H' s.heap s'.heap)(hok:HOk X.prog X.w H' s'.heap)(hg:AllBare s'.gens)(hch:∀b∈ch,(b∈X.ex\/X.s₀.heap.objs.size<=b)/\b≠X.env.locals/\(∀x c,X.env.cells.lookup x=some c->c≠b)/\∀p∈X.pn++pins,p.1≠b):Inv X pins σ H' s':=by obtain⟨h',g',d',t',o'⟩:=s';have e:o'=s.os:=ho;subst e;exact I.call (g':=g') (t':=t') (d':=d') u hok hg hch
end
abbrev XK:=Value->Option Addr->Hp->Prop
abbrev St:=List (Option V)
abbrev VK:=V->Hp->Prop
abbrev TE:=St->Hp->VK->Prop
abbrev TT:=St->Hp->(Bool->Hp->Prop)->Prop
abbrev TA:=St->Hp->(List V->Hp->Prop)->Prop
structure Ends where
 nx:St->Hp->Prop
 rt:VK
 bk:St->Hp->Prop:=fun _ _=>False
 ct:St->Hp->Prop:=fun _ _=>False
abbrev TS:=Ends->St->Hp->Prop
def EP(X:Cx)(pins:List (Addr×Obj))(σ:St)(Q:VK)(u:Value)(s':Shared):Prop:=∃v H',Inv X pins σ H' s'/\RelV v u/\Q v H'
def TP(X:Cx)(pins:List (Addr×Obj))(σ:St)(Q:Bool->Hp->Prop)(b:Bool)(s':Shared):Prop:=∃H',Inv X pins σ H' s'/\Q b H'
def AP(X:Cx)(pins:List (Addr×Obj))(σ:St)(Q:List V->Hp->Prop)(us:List Value)(s':Shared):Prop:=∃vs H',Inv X pins σ H' s'/\Vals vs us/\Q vs H'
def SP(X:Cx)(pins:List (Addr×Obj))(D:Ends)(f:Flow)(s':Shared):Prop :=
 match f with
 |.next=>∃σ' H',Inv X pins σ' H' s'/\D.nx σ' H'
 |.brk=>∃σ' H',Inv X pins σ' H' s'/\D.bk σ' H'
 |.cont=>∃σ' H',Inv X pins σ' H' s'/\D.ct σ' H'
 |.ret u=>∃v σ' H',Inv X pins σ' H' s'/\RelV v u/\D.rt v H'
def PE(X:Cx)(e:Expr)(t:TE):Prop :=
 ∀(pins:List (Addr×Obj)) (s:Shared) (σ:St) (H:Hp) (Q:VK),Inv X pins σ H s->t σ H Q->wpAny (model X.prog X.w) X.A (eval e X.env) (EP X pins σ Q) X.xe s
def PT(X:Cx)(e:Expr)(t:TT):Prop :=
 ∀(pins:List (Addr×Obj)) (s:Shared) (σ:St) (H:Hp) (Q:Bool->Hp->Prop),Inv X pins σ H s->t σ H Q->wpAny (model X.prog X.w) X.A (isTrue e X.env (eval e X.env)) (TP X pins σ Q) X.xe s
def PW(X:Cx)(e:Expr)(t:TT):Prop :=
 ∀(whole:Sem Value) (pins:List (Addr×Obj)) (s:Shared) (σ:St) (H:Hp) (Q:Bool->Hp->Prop),Inv X pins σ H s->t σ H Q->wpAny (model X.prog X.w) X.A (isTrue e X.env whole) (TP X pins σ Q) X.xe s
theorem PW.pt{X:Cx}{e:Expr}{t:TT}(h:PW X e t):PT X e t:=h _
def PA(X:Cx)(es:List Expr)(t:TA):Prop :=
 ∀(pos:Pos) (pins:List (Addr×Obj)) (s:Shared) (σ:St) (H:Hp) (Q:List V->Hp->Prop),Inv X pins σ H s->t σ H Q->wpAny (model X.prog X.w) X.A (spliced (backTo pos (starEach es X.env))) (AP X pins σ Q) X.xe s
def PS(X:Cx)(st:Stmt)(t:TS):Prop :=
 ∀(pins:List (Addr×Obj)) (s:Shared) (σ:St) (H:Hp) (D:Ends),Inv X pins σ H s->t D σ H->wpAny (model X.prog X.w) X.A (exec st X.env) (SP X pins D) X.xe s
def PSs(X:Cx)(st:List Stmt)(t:TS):Prop :=
 ∀(pins:List (Addr×Obj)) (s:Shared) (σ:St) (H:Hp) (D:Ends),Inv X pins σ H s->t D σ H->wpAny (model X.prog X.w) X.A (execs st X.env) (SP X pins D) X.xe s
theorem thn{α:Type}{t:Sem α}{Q Q':α->Shared->Prop}{M:Model}{A:Around}{E:Value->Shared->Prop}{s:Shared}(h:wpAny M A t Q E s)(hQ:∀a s,Q a s->Q' a s):wpAny M A t Q' E s:=wpAny_mono h hQ fun _ _ x=>x
open PySem PySem.Spec PyProof.Rows
section
variable{X:Cx}
inductive tVar(i:Nat)(σ:St)(H:Hp)(Q:VK):Prop
 |mk (v:V) (h:σ[i]?=some (some v)) (q:Q v H):tVar i σ H Q
def tC(v:V):TE:=fun _ H Q=>Q v H
theorem qX{i:Nat}{x:Str}{pos:Pos}(hN:X.N[i]?=some x)(hv:Vis X.env.scope x)(hd:(x==("__debug__":Str))=false:=by decide)(hcd:(x==("__classdict__":Str))=false:=by decide):PE X (.Name x pos) (tVar i):=by
 intro pins s σ H Q I h;obtain⟨v,e,h⟩:=h;obtain⟨m,hn,hl⟩:=I.loc;obtain⟨u,r,l⟩:=hl i x v hN e hv;have fin:EP X pins σ Q u s:=⟨v,H,I,r,h⟩
 rcases l with⟨hk,hm⟩|⟨hk,c,hc,hcell⟩
 ·exact wpAny_Name (wpAny_loadName_local I.ok.kind hk hn hm fin) hd
 ·rcases hk with hk|hk
  ·exact wpAny_Name (wpAny_loadName_cell I.ok.kind hk hc hcell fin) hd
  ·exact wpAny_Name (wpAny_loadName_free I.ok.kind hk hc hcell fin hcd) hd
theorem qR{i j pos}:PE X (.Constant (.int i) j pos) (tC (.int i)):=fun _ _ _ H _ I h=>wpAny_Constant_int ⟨.int i,H,I.tok _,⟨_,rfl⟩,h⟩
theorem sF{b j pos}:PE X (.Constant (.bool b) j pos) (tC (.bl b)):=fun _ _ _ H _ I h=>Constant_bool ⟨.bl b,H,I,rfl,h⟩
theorem qV{x j pos}:PE X (.Constant (.str x) j pos) (tC (.str x)):=fun _ _ _ H _ I h=>Calls.Constant_str ⟨.str x,H,I.tok _,⟨_,rfl⟩,h⟩
def Gl(X:Cx)(x:Str):Prop:=X.env.kindOf x=some .globalImplicit
theorem gF{E:Value->Shared->Prop}{pins:List (Addr×Obj)}{s:Shared}{σ:St}{H:Hp}{x:Str}{u:Value}{pos:Pos}{Q:Value->Shared->Prop}(I:Inv X pins σ H s)(hg:Gl X x)(hm:X.mg x=some u)(h:Q u s)(hd:(x==("__debug__":Str))=false:=by decide):wpAny (model X.prog X.w) X.A (eval (.Name x pos) X.env) Q E s :=
 Calls.Name_function_global I.ok.kind hg (Calls.loadGlobal_global (by rw[I.ok.glob];exact I.mod.glob.keeps I.bk) hm h) hd
theorem fV{E:Value->Shared->Prop}{pins:List (Addr×Obj)}{s:Shared}{σ:St}{H:Hp}{x:Str}{u:Value}{pos:Pos}{Q:Value->Shared->Prop}(I:Inv X pins σ H s)(hg:Gl X x)(hm:X.mg x=none)(hv:bootBuiltins x=some u)(h:Q u s)(hn:x≠"__name__":=by decide)(hd:(x==("__debug__":Str))=false:=by decide):wpAny (model X.prog X.w) X.A (eval (.Name x pos) X.env) Q E s:=by obtain⟨mb,h1,h2⟩:=I.mod.blt;exact Calls.Name_function_global I.ok.kind hg (Calls.loadGlobal_builtin (by rw[I.ok.glob];exact I.mod.glob.keeps I.bk) hm (by rw[I.ok.blt];exact h1.keeps I.bk) ((h2 x hn).trans hv) h) hd
theorem gJ{x:Str}{v:V}{u:Value}{pos:Pos}(hg:Gl X x)(hm:X.mg x=some u)(r:RelV v u)(hd:(x==("__debug__":Str))=false:=by decide):PE X (.Name x pos) (tC v) :=
 fun _ _ _ H _ I h=>gF I hg hm ⟨v,H,I,r,h⟩ hd
theorem pD{x:Str}{v:V}{u:Value}{pos:Pos}(hg:Gl X x)(hm:X.mg x=none)(hv:bootBuiltins x=some u)(r:RelV v u)(hn:x≠"__name__":=by decide)(hd:(x==("__debug__":Str))=false:=by decide):PE X (.Name x pos) (tC v) :=
 fun _ _ _ H _ I h=>fV I hg hm hv ⟨v,H,I,r,h⟩ hn hd
variable{a b:Expr}{ta tb:TE}{pos:Pos}
inductive IsB(x:V)(H:Hp)(Q:Bool->Hp->Prop):Prop
 |mk (c:Bool) (h:x=.bl c) (q:Q c H):IsB x H Q
def tB(t:TE):TT:=fun σ H Q=>t σ H fun x H1=>IsB x H1 Q
theorem rh{e:Expr}{t:TE}(h:PE X e t)(he:∀whole,isTrue e X.env whole=(do let v ←whole;standAt e.pos;holding [v] (truthy v)):=by intro _;rfl):PT X e (tB t):=by intro pins s σ H Q I hw;refine isTrue_plain (thn (h pins s σ H _ I hw) fun v s1 hz9=>?_) (he _);obtain⟨x,H1,I1,r1,q1⟩:=hz9;obtain⟨d,rfl,q⟩:=q1;cases r1;exact zO ⟨H1,I1,q⟩
variable{tA tB':TT}{rest:List Expr}
def rE(t u:TT):TT:=fun σ H Q=>t σ H fun c H1=>if c=true then u σ H1 Q else Q false H1
def tOr(t u:TT):TT:=fun σ H Q=>t σ H fun c H1=>if c=true then Q true H1 else u σ H1 Q
def rK(t:TT):TT:=fun σ H Q=>t σ H fun c H1=>Q (!c) H1
theorem pU(ha:PT X a tA):PW X (.BoolOp .And [a] pos) tA:=by
 intro wh pins s σ H Q I h;refine isTrue_and (thn (ha pins s σ H Q I h) fun c s1 e=>?_);cases c with
 |true=>exact isTrue_and_nil e
 |false=>exact e
theorem rk(ha:PT X a tA):PW X (.BoolOp .Or [a] pos) tA:=by
 intro wh pins s σ H Q I h;refine isTrue_or (thn (ha pins s σ H Q I h) fun c s1 e=>?_);cases c with
 |false=>exact isTrue_or_nil e
 |true=>exact e
theorem rj(ha:PT X a tA)(hb:PW X (.BoolOp .And (b::rest) pos) tB'):PW X (.BoolOp .And (a::b::rest) pos) (rE tA tB'):=by
 intro wh pins s σ H Q I h;refine isTrue_and (thn (ha pins s σ H _ I h) fun c s1 ⟨H1,I1,q1⟩=>?_);cases c with
 |true=>exact hb wh pins s1 σ H1 Q I1 q1
 |false=>exact⟨H1,I1,q1⟩
theorem sM(ha:PT X a tA)(hb:PW X (.BoolOp .Or (b::rest) pos) tB'):PW X (.BoolOp .Or (a::b::rest) pos) (tOr tA tB'):=by
 intro wh pins s σ H Q I h;refine isTrue_or (thn (ha pins s σ H _ I h) fun c s1 ⟨H1,I1,q1⟩=>?_);cases c with
 |true=>exact⟨H1,I1,q1⟩
 |false=>exact hb wh pins s1 σ H1 Q I1 q1
theorem rg(ha:PT X a tA):PT X (.UnaryOp .Not a pos) (rK tA):=by intro pins s σ H Q I h;exact isTrue_not (ha pins s σ H (fun c H1=>Q (!c) H1) I h)
def oM(ta tb:TE):TE:=fun σ H Q=>ta σ H fun x H1=>∃c,x=.bl c/\if c=true then tb σ H1 Q else Q (.bl false) H1
def om(ta tb:TE):TE:=fun σ H Q=>ta σ H fun x H1=>∃c,x=.bl c/\if c=true then Q (.bl true) H1 else tb σ H1 Q
def kW(ta:TE):TE:=fun σ H Q=>ta σ H fun x H1=>∃c,x=.bl c/\Q (.bl (!c)) H1
theorem qU{op}{t:TE}(h:PE X a t):PE X (.BoolOp op [a] pos) t:=fun pins s σ H Q I hw=>BoolOp_one (h pins s σ H Q I hw)
theorem qP(ha:PE X a ta)(hb:PE X (.BoolOp .And (b::rest) pos) tb):PE X (.BoolOp .And (a::b::rest) pos) (oM ta tb):=by
 intro pins s σ H Q I h;refine BoolOp_and (thn (ha pins s σ H _ I h) fun v s1 hz9=>?_);obtain⟨x,H1,I1,r1,q1⟩:=hz9;obtain⟨c,rfl,q1⟩:=q1;cases r1;refine zO ?_;cases c with
 |true=>exact hb pins s1 σ H1 Q I1 q1
 |false=>exact⟨.bl false,H1,I1,rfl,q1⟩
theorem sJ(ha:PE X a ta)(hb:PE X (.BoolOp .Or (b::rest) pos) tb):PE X (.BoolOp .Or (a::b::rest) pos) (om ta tb):=by
 intro pins s σ H Q I h;refine BoolOp_or (thn (ha pins s σ H _ I h) fun v s1 hz9=>?_);obtain⟨x,H1,I1,r1,q1⟩:=hz9;obtain⟨c,rfl,q1⟩:=q1;cases r1;refine zO ?_;cases c with
 |false=>exact hb pins s1 σ H1 Q I1 q1
 |true=>exact⟨.bl true,H1,I1,rfl,q1⟩
theorem qT(ha:PE X a ta):PE X (.UnaryOp .Not a pos) (kW ta):=by intro pins s σ H Q I h;refine UnaryOp_ (thn (ha pins s σ H _ I h) fun v s1 hz9=>?_);obtain⟨x,H1,I1,r1,q1⟩:=hz9;obtain⟨c,rfl,q1⟩:=q1;cases r1;exact not_of (zO ⟨.bl (!c),H1,I1,rfl,q1⟩)
def tIf(t:TT)(ta tb:TE):TE:=fun σ H Q=>t σ H fun c H1=>if c=true then ta σ H1 Q else tb σ H1 Q
theorem nI{c:Expr}(hc:PT X c tA)(ha:PE X a ta)(hb:PE X b tb):PE X (.IfExp c a b pos) (tIf tA ta tb):=by
 intro pins s σ H Q I h;refine wpAny_IfExp (thn (hc pins s σ H _ I h) fun d s1 ⟨H1,I1,q1⟩=>?_);cases d with
 |true=>exact ha pins s1 σ H1 Q I1 q1
 |false=>exact hb pins s1 σ H1 Q I1 q1
end
open PySem PySem.Spec PyProof.Rows
def SqL(K:PySem.W.Frag)(H:Hp)(a:Addr)(xs:List V):Prop :=
 Rd H a (.lst xs) \/
  ∃(o:Obj) (its:Array Value) (n:Nat),K.lookup a=some o/\o.cls=.type "list"/\o.dict=none/\o.data=.seq its n/\its.size<=sizeLine/\Vals xs its.toList
def SqT(K:PySem.W.Frag)(H:Hp)(a:Addr)(xs:List V):Prop :=
 Rd H a (.tup xs) \/
  ∃(o:Obj) (its:Array Value) (n:Nat),K.lookup a=some o/\o.cls=.type "tuple"/\o.data=.seq its n/\its.size<=sizeLine/\Vals xs its.toList
def sW:Value->Option V
 |.none=>some .non
 |.bool b=>some (.bl b)
 |.int i _=>some (.int i)
 |.str x _=>some (.str x)
 |.bytes b _=>some (.byt b)
 |.float b _=>some (.flt b)
 |.ref a=>some (.ref a)
 |.type n=>some (.ty n)
 |_=>none
theorem RelV.abs{x:V}{u:Value}(r:RelV x u):sW u=some x:=by
 cases x with
 |non=>cases r;rfl
 |bl _=>cases r;rfl
 |int _=>obtain⟨t,rfl⟩:=r;rfl
 |str _=>obtain⟨t,rfl⟩:=r;rfl
 |byt _=>obtain⟨t,rfl⟩:=r;rfl
 |flt _=>obtain⟨t,rfl⟩:=r;rfl
 |ref _=>cases r;rfl
 |ty _=>cases r;rfl
theorem RelV.inj{x y:V}{u:Value}(r:RelV x u)(q:RelV y u):x=y:=zD (r.abs.symm.trans q.abs)
theorem Vals.inj:∀{xs ys:List V} {us:List Value},Vals xs us->Vals ys us->xs=ys
 |_,_,_,.nil,.nil=>rfl
 |_,_,_,.cons r t,.cons r' t'=>by rw[r.inj r',Vals.inj t t']
section
variable{X:Cx}{pins:List (Addr×Obj)}{σ:St}{H:Hp}{s:Shared}{a:Addr}{xs ys:List V}
theorem SqL.of{K:PySem.W.Frag}(h:H a=some (.lst xs)):SqL K H a xs:=.inl (.inl h)
theorem SqT.of{K:PySem.W.Frag}(h:H a=some (.tup xs)):SqT K H a xs:=.inl (.inl h)
theorem Inv.list(I:Inv X pins σ H s)(h:SqL X.K H a xs):∃its:List Value,Vals xs its/\PlainL s.heap a its.toArray/\xs.length<=sizeLine:=by
 rcases h with h|⟨o,its,n,hk,hc,hd,hs,hz,r⟩
 ·obtain⟨z,its,n,r,e⟩:=h.ok I.hok;exact⟨its,r,⟨_,n,e,rfl,rfl,rfl⟩,z⟩
 ·refine⟨its.toList,r,⟨o,n,I.kIn a o hk,hc,hd,by simpa using hs⟩,?_⟩;have e:=r.length;simp only[zI]at e;omega
theorem Inv.tuple(I:Inv X pins σ H s)(h:SqT X.K H a xs):∃its:List Value,Vals xs its/\IsTup s.heap a its.toArray/\xs.length<=sizeLine:=by
 rcases h with h|⟨o,its,n,hk,hc,hs,hz,r⟩
 ·obtain⟨z,its,r,p⟩:=h.ok I.hok;exact⟨its,r,p,z⟩
 ·refine⟨its.toList,r,⟨o,I.kIn a o hk,hc,n,by simpa using hs⟩,?_⟩;have e:=r.length;simp only[zI]at e;omega
theorem Inv.list_inj(I:Inv X pins σ H s)(h:SqL X.K H a xs)(h':SqL X.K H a ys):xs=ys:=by
 obtain⟨its,r,⟨o,n,e,_,_,d⟩,_⟩:=I.list h;obtain⟨its',r',⟨o',n',e',_,_,d'⟩,_⟩:=I.list h';rw[e]at e';cases e';rw[d]at d';injection d' with d1 _;have:its=its':=by simpa using zJ Array.toList d1
 subst this;exact r.inj r'
theorem Inv.tuple_inj(I:Inv X pins σ H s)(h:SqT X.K H a xs)(h':SqT X.K H a ys):xs=ys:=by
 obtain⟨its,r,⟨o,e,_,n,d⟩,_⟩:=I.tuple h;obtain⟨its',r',⟨o',e',_,n',d'⟩,_⟩:=I.tuple h';rw[e]at e';cases e';rw[d]at d';injection d' with d1 _;have:its=its':=by simpa using zJ Array.toList d1
 subst this;exact r.inj r'
end
abbrev Cx.wish(X:Cx)(E:Value->Shared->Prop):Cx:={ X with xe:=E }
abbrev Cx.nox(X:Cx):Cx:=X.wish fun _ _=>False
theorem Cx.Ok.wish{X:Cx}(ok:X.Ok)(E:Value->Shared->Prop):(X.wish E).Ok :=
 ⟨ok.mod,ok.kind,ok.glob,ok.blt,ok.above,ok.inj,ok.has,ok.cab,ok.hd,ok.frames,ok.stk,ok.exf,ok.bs,ok.bsz,ok.noex,ok.exfs,ok.funs,ok.frf⟩
theorem Cx.Ok.unwish{X:Cx}{E:Value->Shared->Prop}(ok:(X.wish E).Ok):X.Ok :=
 ⟨ok.mod,ok.kind,ok.glob,ok.blt,ok.above,ok.inj,ok.has,ok.cab,ok.hd,ok.frames,ok.stk,ok.exf,ok.bs,ok.bsz,ok.noex,ok.exfs,ok.funs,ok.frf⟩
section
variable{X:Cx}{pins:List (Addr×Obj)}{σ:St}{H:Hp}{s:Shared}{E:Value->Shared->Prop}
theorem Inv.wish(I:Inv X pins σ H s)(E:Value->Shared->Prop):Inv (X.wish E) pins σ H s:=⟨I.ok.wish E,I.os,I.bare,I.base,I.loc,I.cell,I.free,I.freeC,I.pin,I.hok,I.len⟩
theorem Inv.unwish(I:Inv (X.wish E) pins σ H s):Inv X pins σ H s:=⟨I.ok.unwish,I.os,I.bare,I.base,I.loc,I.cell,I.free,I.freeC,I.pin,I.hok,I.len⟩
theorem SP.unwish{D:Ends}{f:Flow}{s':Shared}(h:SP (X.wish E) pins D f s'):SP X pins D f s':=by
 cases f with
 |next=>obtain⟨σ',H',I,q⟩:=h;exact⟨σ',H',I.unwish,q⟩
 |brk=>obtain⟨σ',H',I,q⟩:=h;exact⟨σ',H',I.unwish,q⟩
 |cont=>obtain⟨σ',H',I,q⟩:=h;exact⟨σ',H',I.unwish,q⟩
 |ret u=>obtain⟨v,σ',H',I,r,q⟩:=h;exact⟨v,σ',H',I.unwish,r,q⟩
theorem PSs.nox{st:List Stmt}{t:TS}(h:PSs X.nox st t):PSs X st t:=fun pins s σ H D I hw =>
 wpAny_mono (h pins s σ H D (I.wish _) hw) (fun _ _ q=>q.unwish) fun _ _ z=>False.elim z
end
section
variable{X:Cx}{st:Stmt}{rest:List Stmt}{t u:TS}{e:Expr}{te:TE}{pos:Pos}
def oP:TS:=fun D σ H=>D.nx σ H
def kX(t u:TS):TS:=fun D σ H=>t { D with nx:=u D } σ H
theorem pR:PSs X [] oP:=fun _ _ σ H _ I h=>wpAny_execs_nil ⟨σ,H,I,h⟩
theorem nP(h1:PS X st t)(h2:PSs X rest u):PSs X (st::rest) (kX t u):=by
 intro pins s σ H D I h;refine wpAny_execs_cons (thn (h1 pins s σ H { D with nx:=u D } I h) fun f s1 q=>?_);cases f with
 |next =>obtain⟨σ',H',I',q⟩:=q;exact h2 pins s1 σ' H' D I' q
 |ret v=>exact q
 |brk=>exact q
 |cont=>exact q
theorem pS(h1:PS X st t):PSs X [st] t:=by
 intro pins s σ H D I h;refine wpAny_execs_cons (thn (h1 pins s σ H D I h) fun f s1 q=>?_);cases f with
 |next=>exact wpAny_execs_nil q
 |ret v=>exact q
 |brk=>exact q
 |cont=>exact q
theorem Inv.quiet{pins:List (Addr×Obj)}{σ:St}{H:Hp}{s:Shared}(I:Inv X pins σ H s):interactive X.env=false:=by simp[interactive,I.ok.kind]
def oN(te:TE):TS:=fun D σ H=>te σ H fun _ H1=>D.nx σ H1
theorem pO(he:PE X e te)(hs:swapsWith e none pos.line X.env=pure false:=by rfl):PS X (.Expr e pos) (oN te):=by intro pins s σ H D I h;exact wpAny_Expr_any (thn (he pins s σ H _ I h) fun v s1 ⟨x,H1,I1,r1,q1⟩=>⟨σ,H1,I1,q1⟩) I.quiet hs
def rL(te:TE):TS:=fun D σ H=>te σ H D.rt
theorem re(he:PE X e te):PS X (.Return (some e) pos) (rL te):=by intro pins s σ H D I h;exact wpAny_Return_some (thn (he pins s σ H _ I h) fun v s1 ⟨x,H1,I1,r1,q1⟩=>⟨x,σ,H1,I1,r1,q1⟩)
def rH(c:TT)(t u:TS):TS:=fun D σ H=>c σ H fun b H1=>if b=true then t D σ H1 else u D σ H1
theorem sL{c:Expr}{a b:List Stmt}{tc:TT}(hc:PT X c tc)(ha:PSs X a t)(hb:PSs X b u):PS X (.If c a b pos) (rH tc t u):=by
 intro pins s σ H D I h;refine wpAny_If (thn (hc pins s σ H _ I h) fun d s1 ⟨H1,I1,q1⟩=>?_);cases d with
 |true=>exact ha pins s1 σ H1 D I1 q1
 |false=>exact hb pins s1 σ H1 D I1 q1
end
abbrev TG:=V->St->Hp->(St->Hp->Prop)->Prop
abbrev TGs:=List V->St->Hp->(St->Hp->Prop)->Prop
def PG(X:Cx)(target:Expr)(t:TG):Prop :=
 ∀(pins:List (Addr×Obj)) (s:Shared) (σ:St) (H:Hp) (v:V) (u:Value) (Q:St->Hp->Prop),Inv X pins σ H s->RelV v u->t v σ H Q ->
  wpAny (model X.prog X.w) X.A (assign target X.env u) (fun _ s'=>∃σ' H',Inv X pins σ' H' s'/\Q σ' H') X.xe s
def PGs(X:Cx)(ts:List Expr)(t:TGs):Prop :=
 ∀(pins:List (Addr×Obj)) (s:Shared) (σ:St) (H:Hp) (vs:List V) (us:List Value) (Q:St->Hp->Prop),Inv X pins σ H s->Vals vs us->t vs σ H Q ->
  wpAny (model X.prog X.w) X.A (assignInOrder ((assignEach ts X.env).map (·.2)) us) (fun _ s'=>∃σ' H',Inv X pins σ' H' s'/\Q σ' H') X.xe s
abbrev qj:=V->V->V->Hp->(Hp->Prop)->Prop
def sV(X:Cx)(t:qj):Prop :=
 ∀(pins:List (Addr×Obj)) (s:Shared) (σ:St) (H:Hp) (o i v:V) (ov iv u:Value) (Q:Hp->Prop),Inv X pins σ H s->RelV o ov->RelV i iv->RelV v u->t o i v H Q ->
  wpAny (model X.prog X.w) X.A (setItem ov iv u) (fun _ s'=>∃H',Inv X pins σ H' s'/\Q H') X.xe s
abbrev TIp:=V->V->Hp->VK->Prop
def PIp(X:Cx)(op:Operator)(t:TIp):Prop :=
 ∀(pins:List (Addr×Obj)) (s:Shared) (σ:St) (H:Hp) (x y:V) (v u:Value) (Q:VK),Inv X pins σ H s->RelV x v->RelV y u->t x y H Q ->
  wpAny (model X.prog X.w) X.A (inplaceOp op v u) (EP X pins σ Q) X.xe s
section
variable{X:Cx}{pos:Pos}
def bb(i:Nat):TG:=fun v σ H Q=>Q (σ.set i (some v)) H
theorem pJ{i:Nat}{x:Str}(hN:X.N.Nodup)(hi:X.N[i]?=some x)(hx:Loc X.env.scope x)(hf:X.fn x=true\/X.env.scope.names.lookup x=some .local:=by first|exact .inl rfl|exact .inr rfl|assumption):PG X (.Name x pos) (bb i):=by intro pins s σ H v u Q I r h;exact wpAny_assign_Name (jy I hN hi hx r (fun s' I'=>⟨_,H,I',h⟩) hf)
def kB:TGs:=fun vs σ H Q=>vs=[]/\Q σ H
def iC(t:TG)(u:TGs):TGs:=fun vs σ H Q=>∃v r,vs=v::r/\t v σ H fun σ' H'=>u r σ' H' Q
theorem pK:PGs X [] kB:=by intro pins s σ H vs us Q I r h;obtain⟨e,h⟩:=h;subst e;cases r;exact assignInOrder_nil ⟨σ,H,I,h⟩
theorem nL{e:Expr}{es:List Expr}{t:TG}{u:TGs}(h1:PG X e t)(h2:PGs X es u)(hs:(assignEach (e::es) X.env).map (·.2)=assign e X.env::(assignEach es X.env).map (·.2):=by rfl):PGs X (e::es) (iC t u):=by
 intro pins s σ H vs us Q I r h;obtain⟨v,vr,e1,h⟩:=h;subst e1;cases r with
 |cons r rr =>rw[hs];refine assignInOrder_cons (thn (h1 pins s σ H _ _ _ I r h) fun _ s1 ⟨σ1,H1,I1,q1⟩=>?_);exact h2 pins s1 σ1 H1 _ _ Q I1 rr q1
def kC(K:PySem.W.Frag)(n:Nat)(t:TGs):TG:=fun v σ H Q=>∃a xs,v=.ref a/\SqT K H a xs/\xs.length=n/\t xs σ H Q
theorem qY{es:List Expr}{k:Nat}{t:TGs}{n:Nat}(hc:X.calm=true)(h:PGs X es t)(hn:(assignEach es X.env).length=n:=by rfl)(hst:(assignEach es X.env).findIdx? (·.1)=none:=by rfl):PG X (.Tuple es k pos) (kC X.K n t):=by intro pins s σ H v u Q I r hw;obtain⟨a,xs,e1,hq,hl,hw⟩:=hw;subst e1;cases r;obtain⟨its,rv,ht,hz⟩:=I.tuple hq;refine assign_Tuple_tuple (I.ok.hd hc) ht (by simp[hn,<-hl,rv.length]) hst fun h' hx=>?_;have I1:Inv X pins σ H { s with heap:=h' }:=I.kept (t':=s.toks) fun b o e=>hx b o (zC (zj e)) e;exact h pins _ σ H xs _ Q I1 (by simpa using rv) hw
def fH(te:TE)(g:TG):TS:=fun D σ H=>te σ H fun x H1=>g x σ H1 D.nx
theorem ra{tg e:Expr}{te:TE}{g:TG}(he:PE X e te)(hg:PG X tg g)(hs:swapsWithSole [tg] e pos.line X.env=pure false:=by rfl)(hw:swappedStores [tg] e X.env=pure none:=by rfl)(h1:(assignEach [tg] X.env).map (·.2)=[assign tg X.env]:=by rfl):PS X (.Assign [tg] e pos) (fH te g):=by intro pins s σ H D I h;refine wpAny_Assign_stores (thn (he pins s σ H _ I h) fun v s1 hz9=>?_) hs hw;obtain⟨x,H1,I1,r1,q1⟩:=hz9;rw[h1];exact thn (hg pins s1 σ H1 x v _ I1 r1 q1) fun _ s2 q=>q
theorem rf{i:Nat}{x:Str}{e:Expr}{te:TE}{pos':Pos}(hN:X.N.Nodup)(hi:X.N[i]?=some x)(hx:Loc X.env.scope x)(he:PE X e te)(hs:swapsWith e (some (.Name x pos')) pos.line X.env=pure false:=by rfl)(hf:X.fn x=true\/X.env.scope.names.lookup x=some .local:=by first|exact .inl rfl|exact .inr rfl|assumption) :
  PS X (.Assign [.Name x pos'] e pos) (fH te (bb i)):=by
 intro pins s σ H D I h;refine wpAny_Assign_Name (thn (he pins s σ H _ I h) fun v s1 hz9=>?_) hs;obtain⟨y,H1,I1,r1,q1⟩:=hz9;exact jy I1 hN hi hx r1 (fun s2 I2=>⟨_,H1,I2,q1⟩) hf
end
section
variable{X:Cx}{pos:Pos}
def mB(c:TT)(tb:TS):TS:=fun D σ H=>∃W:Nat->St->Hp->Prop,(∃m,W m σ H)/\∀m σ H,W m σ H ->
 c σ H fun b H1=>if b=true then∃N:St->Hp->Prop,(∀σ' H',N σ' H'->∃m',m'<m/\W m' σ' H')/\tb { D with nx:=N,ct:=N,bk:=D.nx } σ H1 else D.nx σ H1
theorem nO{c:Expr}{body:List Stmt}{tc:TT}{tb:TS}(hp:PassesOwn (model X.prog X.w) X.A X.env X.xe)(hc:PT X c tc)(hb:PSs X body tb):PS X (.While c body [] pos) (mB tc tb):=by
 intro pins s σ H D I h;obtain⟨W,⟨m0,w0⟩,turn⟩:=h;refine wpAny_While (codeAny_whileLoop (fun n s'=>∃σ' H',Inv X pins σ' H' s'/\W n σ' H') ?_ m0 ⟨σ,H,I,w0⟩);rintro n s1 ⟨σ1,H1,I1,w1⟩;refine wpAny_passesOwn hp (thn (hc pins s1 σ1 H1 _ I1 (turn n σ1 H1 w1)) fun b s2 ⟨H2,I2,q2⟩=>?_);cases b with
 |true =>
  obtain⟨N,hN,q2⟩:=q2;rw[o7 rfl];refine wpAny_passesOwn hp (thn (hb pins s2 σ1 H2 _ I2 q2) fun f s3 q3=>?_);cases f with
  |next =>obtain⟨σ3,H3,I3,n3⟩:=q3;obtain⟨m',hm,w3⟩:=hN σ3 H3 n3;exact⟨m',hm,σ3,H3,I3,w3⟩
  |cont =>obtain⟨σ3,H3,I3,n3⟩:=q3;obtain⟨m',hm,w3⟩:=hN σ3 H3 n3;exact⟨m',hm,σ3,H3,I3,w3⟩
  |brk=>exact q3
  |ret v=>exact q3
 |false =>rw[o6 zb];exact wpAny_execs_nil ⟨σ1,H2,I2,q2⟩
end
structure It where
 go:Nat->Hp->Prop
 yld:Nat->Hp->V->Hp->Prop
 stop:Nat->Hp->Prop
def bu(X:Cx)(pins:List (Addr×Obj))(H:Hp)(b:Addr):Prop :=
 H b=none/\b≠X.env.locals/\b∉X.fs/\(b∈X.ex\/X.s₀.heap.objs.size<=b)/\(∀x c,X.env.cells.lookup x=some c->c≠b)/\∀p∈X.pn++pins,p.1≠b
theorem Inv.fpOk{X:Cx}{pins:List (Addr×Obj)}{σ:St}{H H':Hp}{s:Shared}{b:Addr}(I:Inv X pins σ H s)(hb:s.heap.objs.size<=b)(hn:H' b=none):bu X pins H' b:=by
 refine⟨hn,Nat.ne_of_gt (zk I.lt hb),I.nofs hb,.inr (zh I.sz hb),fun x c e z=>?_,fun p hp z=>?_⟩
 ·obtain⟨v,q⟩:=I.cell x c e;exact absurd (zk q.lt (by rw[z];exact hb)) (zZ _)
 ·exact absurd (zk (zj (I.pin p hp).1) (by rw[z];exact hb)) (zZ _)
structure Turn(P:Program)(w:World)(K:PySem.W.Frag)(tg:Expr)(J:It)(fp:List Addr)(it:Addr)(tn:Nat->Heap->Prop):Prop where
 mem:it∈fp
 obj:∀i h,tn i h->∀b∈fp,∃o,h.get? b=some o/\∀v,o.data≠.cell v
 keep:∀i h h',tn i h->(∀b∈fp,∀o,h.get? b=some o->h'.get? b=some o)->tn i h'
 item:∀(X:Cx),X.prog=P->X.w=w->X.K=K->X.calm=true->∀(i:Nat) (pins:List (Addr×Obj)) (s:Shared) (σ:St) (H:Hp) (E:Value->Shared->Prop),Inv X pins σ H s->(∀b∈fp,bu X pins H b)->tn i s.heap->J.go i H ->
  wpAny (model P w) X.A (pyNext (.ref it)) (fun r s1=>∃ u,r=some u /\
   wpAny (model P w) X.A (letOwnedTupleGo tg (.ref it) u) (fun _ s2=>∃ x H',Inv X pins σ H' s2/\RelV x u/\J.yld i H x H'/\tn (i+1) s2.heap/\∀ b∈fp,H' b=none) E s1) E s
 done:∀(X:Cx),X.prog=P->X.w=w->X.K=K->X.calm=true->∀(i:Nat) (pins:List (Addr×Obj)) (s:Shared) (σ:St) (H:Hp) (E:Value->Shared->Prop),Inv X pins σ H s->(∀b∈fp,bu X pins H b)->tn i s.heap->J.stop i H ->
  wpAny (model P w) X.A (pyNext (.ref it)) (fun r s1=>r=none/\Inv X pins σ H s1) E s
 self:∀(A:Around) (i:Nat) (s:Shared) (Q:Value->Shared->Prop) (E:Value->Shared->Prop),tn i s.heap->Q (.ref it) s->wpAny (model P w) A (pyIter (.ref it)) Q E s
abbrev TI:=St->Hp->(It->Hp->Prop)->Prop
def PIE(X:Cx)(pins:List (Addr×Obj))(σ:St)(tg:Expr)(R:It->Hp->Prop)(itv:Value)(s2:Shared):Prop :=
 ∃(it:Addr) (fp:List Addr) (tn:Nat->Heap->Prop) (J:It) (H':Hp),itv=.ref it/\Inv X pins σ H' s2/\Turn X.prog X.w X.K tg J fp it tn/\tn 0 s2.heap/\(∀b∈fp,bu X pins H' b)/\R J H'
def PI(X:Cx)(tg iter:Expr)(wi:TI):Prop :=
 ∀(pins:List (Addr×Obj)) (s:Shared) (σ:St) (H:Hp) (R:It->Hp->Prop),Inv X pins σ H s->wi σ H R ->
  wpAny (model X.prog X.w) X.A (eval iter X.env) (fun v s1=>wpAny (model X.prog X.w) X.A (pyIter v) (PIE X pins σ tg R) X.xe s1) X.xe s
theorem iD{M:Model}{A:Around}{E:Value->Shared->Prop}{s:Shared}{tg:Expr}{it:Addr}{u:Value}{o:Obj}{n:String}{vs:Array Value}{Q:Unit->Shared->Prop}(ho:s.heap.get? it=some o)(hc:o.cls=.type n)(hd:o.data=.fields vs)(hn:["enumerate","zip","dict_itemiterator","dict_reverseitemiterator","odict_iterator","itertools.zip_longest","itertools.pairwise"].contains n=false)(hQ:Q () s):wpAny M A (letOwnedTupleGo tg (.ref it) u) Q E s:=by
 unfold letOwnedTupleGo;cases tg<;>first
  |exact zw hQ
  | (cases u<;>first
    |exact zw hQ
    | (refine zt (wpAny_load ho ?_)
       rw[hc,hd];show wpAny M A (if(["enumerate","zip","dict_itemiterator","dict_reverseitemiterator","odict_iterator","itertools.zip_longest","itertools.pairwise"].contains n&&vs[0]?==some (rawInt _))=true then _ else _) Q E s;rw[o6 (by intro h;rw[hn,Bool.false_and]at h;cases h)];exact zw hQ))
def Itl(K:PySem.W.Frag)(a:Addr):It :=
 ⟨fun i H=>∃xs x,SqL K H a xs/\xs[i]?=some x,fun i H x H'=>H'=H/\∀xs,SqL K H a xs->xs[i]?=some x,fun i H=>∃xs,SqL K H a xs/\xs.length<=i⟩
def Itt(K:PySem.W.Frag)(a:Addr):It :=
 ⟨fun i H=>∃xs x,SqT K H a xs/\xs[i]?=some x,fun i H x H'=>H'=H/\∀xs,SqT K H a xs->xs[i]?=some x,fun i H=>∃xs,SqT K H a xs/\xs.length<=i⟩
def Itr(lo:Int)(n:Nat):It:=⟨fun i _=>i<n,fun i H x H'=>H'=H/\x=.int (lo+i),fun i _=>n<=i⟩
theorem mD{P:Program}{w:World}{K:PySem.W.Frag}{tg:Expr}(a it:Addr):Turn P w K tg (Itl K a) [it] it (fun i h=>h.IsListIter it a i) where
 mem:=by simp
 obj:=fun i h st b hb=>by
  have e:b=it:=by simpa using hb
  subst e;obtain⟨o,e,c,d⟩:=st;exact⟨o,e,fun v z=>by rw[d]at z;cases z⟩
 keep:=fun i h h' st k=>st.at fun o e=>k it (by simp) o e
 item:=by intro X hP hw hK hc i pins s σ H E I hf st hg;subst hP hw hK;obtain⟨xs,x,hq,hx⟩:=hg;obtain⟨its,rv,p,hz⟩:=I.list hq;obtain⟨u,hu,ru⟩:=rv.get hx;obtain⟨f0,f1,f2,f3,f4,f5⟩:=hf it (by simp);refine wpAny_pyNext_list_item st p.isList (x:=u) (by simpa using hu) fun h' st' sb=>?_;have I1:Inv X pins σ H { s with heap:=h' }:=I.turned (t':=s.toks) (fun b o hb e=>(sb.2 b hb).trans e) f0 f1 f3 f4 f5;obtain⟨o,e,c,d⟩:=id st';exact⟨u,rfl,iD (s:={ s with heap:=h' }) e c d (by decide) ⟨x,H,I1,ru,⟨rfl,fun ys hy=>by rw[I.list_inj hy hq];exact hx⟩,st',fun b hb=>(hf b hb).1⟩⟩
 done:=by intro X hP hw hK hc i pins s σ H E I hf st hg;subst hP hw hK;obtain⟨xs,hq,hx⟩:=hg;obtain⟨its,rv,p,hz⟩:=I.list hq;obtain⟨f0,f1,f2,f3,f4,f5⟩:=hf it (by simp);have hl:=rv.length;exact wpAny_pyNext_list_end (I.ok.hd hc) st p.isList (by simp;omega) fun h' eb=>⟨rfl,I.turned (t':=s.toks) (fun b o hb e=>eb b o hb e) f0 f1 f3 f4 f5⟩
 self:=fun _ _ _ _ _ st h=>wpAny_pyIter_listiter st h
theorem kZ{P:Program}{w:World}{K:PySem.W.Frag}{tg:Expr}(a it:Addr):Turn P w K tg (Itt K a) [it] it (fun i h=>h.IsTupleIter it a i) where
 mem:=by simp
 obj:=fun i h st b hb=>by
  have e:b=it:=by simpa using hb
  subst e;obtain⟨o,e,c,d⟩:=st;exact⟨o,e,fun v z=>by rw[d]at z;cases z⟩
 keep:=fun i h h' st k=>st.at fun o e=>k it (by simp) o e
 item:=by intro X hP hw hK hc i pins s σ H E I hf st hg;subst hP hw hK;obtain⟨xs,x,hq,hx⟩:=hg;obtain⟨its,rv,p,hz⟩:=I.tuple hq;obtain⟨u,hu,ru⟩:=rv.get hx;obtain⟨f0,f1,f2,f3,f4,f5⟩:=hf it (by simp);refine wpAny_pyNext_tuple_item st (show s.heap.IsTuple a its.toArray from p) (x:=u) (by simpa using hu) fun h' st' sb=>?_;have I1:Inv X pins σ H { s with heap:=h' }:=I.turned (t':=s.toks) (fun b o hb e=>(sb.2 b hb).trans e) f0 f1 f3 f4 f5;obtain⟨o,e,c,d⟩:=id st';exact⟨u,rfl,iD (s:={ s with heap:=h' }) e c d (by decide) ⟨x,H,I1,ru,⟨rfl,fun ys hy=>by rw[I.tuple_inj hy hq];exact hx⟩,st',fun b hb=>(hf b hb).1⟩⟩
 done:=by intro X hP hw hK hc i pins s σ H E I hf st hg;subst hP hw hK;obtain⟨xs,hq,hx⟩:=hg;obtain⟨its,rv,p,hz⟩:=I.tuple hq;obtain⟨f0,f1,f2,f3,f4,f5⟩:=hf it (by simp);have hl:=rv.length;exact wpAny_pyNext_tuple_end (I.ok.hd hc) st (show s.heap.IsTuple a its.toArray from p) (by simp;omega) fun h' eb=>⟨rfl,I.turned (t':=s.toks) (fun b o hb e=>eb b o hb e) f0 f1 f3 f4 f5⟩
 self:=fun _ _ _ _ _ st h=>wpAny_pyIter_tupleiter st h
theorem kY{P:Program}{w:World}{K:PySem.W.Frag}{tg:Expr}(it:Addr)(lo:Int)(n:Nat):Turn P w K tg (Itr lo n) [it] it (fun i h=>IsRangeIter h it (lo+(i:Nat)*1) ((n:Int)-(i:Nat)) 1) where
 mem:=by simp
 obj:=fun i h st b hb=>by
  have e:b=it:=by simpa using hb
  subst e;exact⟨_,st,fun v z=>by
   have z':Data.fields _=Data.cell v:=z;cases z'⟩
 keep:=fun i h h' st k=>k it (by simp) _ st
 item:=by intro X hP hw hK hc i pins s σ H E I hf st hg;subst hP hw hK;obtain⟨f0,f1,f2,f3,f4,f5⟩:=hf it (by simp);have W:=Walks.range (prog:=X.prog) (w:=X.w) (I.ok.hd hc) it lo 1 n;refine W.item i s _ _ hg st fun v h' tk hv st' kk=>?_;obtain⟨t,rfl⟩:=hv;have I1:Inv X pins σ H { s with heap:=h',toks:=tk }:=I.turned (fun b o hb e=>kk b o (by simpa using hb) e) f0 f1 f3 f4 f5;refine⟨_,rfl,iD (s:={ s with heap:=h',toks:=tk }) (n:="range_iterator") st' rfl rfl (by decide) ⟨.int (lo+i),H,I1,⟨t,?_⟩,⟨rfl,rfl⟩,st',fun b hb=>(hf b hb).1⟩⟩;rw[Int.mul_one]
 done:=by intro X hP hw hK hc i pins s σ H E I hf st hg;subst hP hw hK;obtain⟨f0,f1,f2,f3,f4,f5⟩:=hf it (by simp);exact wpAny_pyNext_range_end (I.ok.hd hc) st (by have:n<=i:=hg;omega) fun h' eb=>⟨rfl,I.turned (t':=s.toks) (fun b o hb e=>eb b o hb e) f0 f1 f3 f4 f5⟩
 self:=fun _ _ _ _ _ st h=>wpAny_pyIter_rangeiter st h
open PySem PySem.Spec PyProof.Rows
section
variable{X:Cx}{tg:Expr}
def oB(K:PySem.W.Frag)(tl:TE):TI:=fun σ H R=>tl σ H fun x H1=>∃a,x=.ref a/\(∃xs,SqL K H1 a xs)/\R (Itl K a) H1
def qw(K:PySem.W.Frag)(tl:TE):TI:=fun σ H R=>tl σ H fun x H1=>∃a,x=.ref a/\(∃xs,SqT K H1 a xs)/\R (Itt K a) H1
theorem pL{l:Expr}{tl:TE}(hl:PE X l tl):PI X tg l (oB X.K tl):=by
 intro pins s σ H R I h;refine thn (hl pins s σ H _ I h) fun v s1 hz9=>?_;obtain⟨x,H1,I1,r1,q1⟩:=hz9;obtain⟨a,e,⟨xs,hq⟩,q⟩:=q1;subst e;cases r1;obtain⟨its,rv,p,hz⟩:=I1.list hq;refine wpAny_pyIter_list p.isList ?_;refine⟨s1.heap.objs.size,[s1.heap.objs.size],_,_,H1,rfl,I1.kept (t':=s1.toks) fun b o e=>zi _ e,mD a _,⟨_,zz _ rfl,rfl,rfl⟩,fun b hb=>?_,q⟩;have e:b=s1.heap.objs.size:=by simpa using hb
 subst e;exact I1.fpOk (za _) (I1.hok.fresh (za _))
theorem qZ{l:Expr}{tl:TE}(hl:PE X l tl):PI X tg l (qw X.K tl):=by
 intro pins s σ H R I h;refine thn (hl pins s σ H _ I h) fun v s1 hz9=>?_;obtain⟨x,H1,I1,r1,q1⟩:=hz9;obtain⟨a,e,⟨xs,hq⟩,q⟩:=q1;subst e;cases r1;obtain⟨its,rv,p,hz⟩:=I1.tuple hq;refine wpAny_pyIter_tuple (show s1.heap.IsTuple a its.toArray from p) ?_;refine⟨s1.heap.objs.size,[s1.heap.objs.size],_,_,H1,rfl,I1.kept (t':=s1.toks) fun b o e=>zi _ e,kZ a _,⟨_,zz _ rfl,rfl,rfl⟩,fun b hb=>?_,q⟩;have e:b=s1.heap.objs.size:=by simpa using hb
 subst e;exact I1.fpOk (za _) (I1.hok.fresh (za _))
theorem nY{pins:List (Addr×Obj)}{σ:St}{H:Hp}{s:Shared}{R:It->Hp->Prop}{E:Value->Shared->Prop}{lo hi:Int}{t u v:Tok}{tk:Nat}(I:Inv X pins σ H s)(h1:-(2^62)<=lo)(h2:lo<2^62)(h3:-(2^62)<=hi)(h4:hi<2^62)(q:R (Itr lo (hi-lo).toNat) H):wpAny (model X.prog X.w) X.A (pyIter (.ref s.heap.objs.size)) (PIE X pins σ tg R) E { s with heap:=s.heap.push { cls:=.type "range",data:=.fields #[.int lo t,.int hi u,.int 1 v] },toks:=tk }:=by
 refine wpAny_pyIter_range (IsRange.new ..) (small_one h1 h2 h3 h4) ?_;have I1:Inv X pins σ H { s with heap:=s.heap.push { cls:=.type "range",data:=.fields #[.int lo t,.int hi u,.int 1 v] },toks:=tk }:=I.kept fun b o e=>zi _ e;refine⟨(s.heap.push { cls:=.type "range",data:=.fields #[.int lo t,.int hi u,.int 1 v] }).objs.size,[(s.heap.push { cls:=.type "range",data:=.fields #[.int lo t,.int hi u,.int 1 v] }).objs.size],_,_,H,rfl,
  I1.kept (t':=tk) fun b o e=>zi _ e,kY _ lo (hi - lo).toNat,?_,fun b hb=>?_,q⟩
 ·have e1:lo+((0:Nat):Int)*1=lo:=by simp
  have e2:(((hi-lo).toNat:Nat):Int)-((0:Nat):Int)=Builtin.Range.rangeSize lo hi 1:=by rw[rangeSize_one];split<;>omega
  show IsRangeIter _ _ (lo+((0:Nat):Int)*1) ((((hi-lo).toNat:Nat):Int)-((0:Nat):Int)) 1;rw[e1,e2];exact zz _ rfl
 ·have e:b=(s.heap.push { cls:=.type "range",data:=.fields #[.int lo t,.int hi u,.int 1 v] }).objs.size:=by simpa using hb
  subst e;exact I1.fpOk (za _) (I1.hok.fresh (za _))
def oC(ta:TA):TI:=fun σ H R=>ta σ H fun vs H1=>∃j:Int,vs=[.int j]/\-(2^62)<=j/\j<2^62/\R (Itr 0 j.toNat) H1
theorem mh{a:Expr}{ta:TA}{p pos:Pos}(hg:Gl X "range")(hm:X.mg "range" = none)(ha:PA X [a] ta)(hs:starEach [a] X.env=[(false,eval a X.env)]:=by rfl):PI X tg (.Call (.Name "range" p) [a] [] pos) (oC ta):=by
 intro pins s σ H R I h;refine Call_ (fV I hg hm boot_range (PyProof.Rows.callWith_type1 (thn (ha pos pins s σ H _ I h) fun us s1 hz9=>?_) hs rfl));obtain⟨vs,H1,I1,r1,q1⟩:=hz9;obtain⟨j,e,q1,q2,q⟩:=q1;subst e;cases r1 with
 |cons r rr =>cases rr;obtain⟨t,rfl⟩:=r;exact call_range_1 (nY I1 (by omega) (by omega) q1 q2 (by simpa using q))
def rG(wi:TI)(g:TG)(tb:TS):TS:=fun D σ H=>wi σ H fun J H1=>∃W:Nat->Nat->St->Hp->Prop,(∃m,W 0 m σ H1)/\∀i m σ H,W i m σ H ->
 (J.stop i H/\D.nx σ H)\/(J.go i H/\∃N:St->Hp->Prop,(∀σ' H',N σ' H'->∃m',m'<m/\W (i+1) m' σ' H')/\∀x H',J.yld i H x H'->g x σ H' fun σ2 H2=>tb { D with nx:=N,ct:=N,bk:=D.nx } σ2 H2)
def er(fp:List Addr)(h:Heap):List (Addr×Obj):=fp.filterMap fun b=>(h.get? b).map fun o=>(b,o)
theorem cJ{fp:List Addr}{h:Heap}{b:Addr}{o:Obj}(hb:b∈fp)(e:h.get? b=some o):(b,o)∈er fp h:=List.mem_filterMap.mpr ⟨b,hb,by rw[e];rfl⟩
theorem lY{fp:List Addr}{h:Heap}{p:Addr×Obj}(hp:p∈er fp h):p.1∈fp/\h.get? p.1=some p.2:=by
 obtain⟨b,hb,e⟩:=List.mem_filterMap.mp hp;cases q:h.get? b with
 |none=>rw[q]at e;cases e
 |some o =>rw[q]at e;have e':(b,o)=p:=zD e;subst e';exact⟨hb,q⟩
theorem Inv.pinned{pins:List (Addr×Obj)}{σ:St}{H:Hp}{s:Shared}{fp:List Addr}(I:Inv X pins σ H s)(hf:∀b∈fp,bu X pins H b)(ho:∀b∈fp,∃o,s.heap.get? b=some o/\∀v,o.data≠.cell v):Inv X (pins++er fp s.heap) σ H s :=
 I.pins_of fun p hp=>(zH.mp hp).elim (fun z=>I.pin p (zE _ z)) fun z=>by obtain⟨hb,e⟩:=lY z;obtain⟨f0,f1,f2,_⟩:=hf p.1 hb;obtain⟨o,e',d⟩:=ho p.1 hb;rw[e]at e';cases e';exact⟨e,f0,f1,f2,d⟩
theorem Inv.unpinned{pins pl:List (Addr×Obj)}{σ:St}{H:Hp}{s:Shared}(I:Inv X (pins++pl) σ H s):Inv X pins σ H s:=I.pins_of fun p hp=>I.pin p (zE _ (List.mem_append_left _ hp))
theorem rc{iter:Expr}{body:List Stmt}{wi:TI}{g:TG}{tb:TS}{pos:Pos}(hp:PassesOwn (model X.prog X.w) X.A X.env X.xe)(hc:X.calm=true)(hi:PI X tg iter wi)(hg:PG X tg g)(hb:PSs X body tb)(hs:∀x,foldedSetIterable iter X.env x=pure x:=by intro _;rfl):PS X (.For tg iter body [] pos) (rG wi g tb):=by
 intro pins s σ H D I h;refine wpAny_For (thn (hi pins s σ H _ I h) fun v s1 h1=>thn h1 fun itv s2 h2=>?_) hs;obtain⟨it,fp,tn,J,H2,e,I2,T,st2,f2,W,⟨m0,w0⟩,turn⟩:=h2;subst e;have stat:∀{H':Hp},(∀b∈fp,H' b=none)->∀b∈fp,bu X pins H' b:=fun hn b hb=>⟨hn b hb,(f2 b hb).2⟩
 refine codeAny_forLoop_any (fun n s'=>∃i σ' H',Inv X pins σ' H' s'/\tn i s'.heap/\(∀b∈fp,H' b=none)/\W i n σ' H') ?_ m0 ⟨0,σ,H2,I2,st2,fun b hb=>(f2 b hb).1,w0⟩;rintro n s3 ⟨i,σ3,H3,I3,st3,fr3,w3⟩;rcases turn i n σ3 H3 w3 with⟨stop,qn⟩|⟨go,N,hN,step⟩
 ·refine wpAny_passesOwn hp (thn (T.done X rfl rfl rfl hc i pins s3 σ3 H3 X.xe I3 (stat fr3) st3 stop) fun r s4 ⟨hr,I4⟩=>?_);subst hr;exact wpAny_execs_nil ⟨σ3,H3,I4,qn⟩
 ·refine wpAny_passesOwn hp (thn (T.item X rfl rfl rfl hc i pins s3 σ3 H3 X.xe I3 (stat fr3) st3 go) fun r s4 ⟨u,hr,h4⟩=>?_);subst hr;refine wpAny_passesOwn hp (thn h4 fun _ s5 hz9=>?_);obtain⟨x,H5,I5,r5,y5,st5,fr5⟩:=hz9;have I5':=I5.pinned (stat fr5) (T.obj _ _ st5);refine wpAny_passesOwn hp (thn (hg _ s5 σ3 H5 x u _ I5' r5 (step x H5 y5)) fun _ s6 ⟨σ6,H6,I6,q6⟩=>?_);refine wpAny_passesOwn hp (thn (hb _ s6 σ6 H6 _ I6 q6) fun f s7 q7=>?_);have again:∀{σ7:St} {H7:Hp},Inv X (pins++er fp s5.heap) σ7 H7 s7->N σ7 H7->∃m,m<n/\∃i σ' H',Inv X pins σ' H' s7/\tn i s7.heap/\(∀b∈fp,H' b=none)/\W i m σ' H':=fun{σ7 H7} I7 n7=>by obtain⟨m',hm,w7⟩:=hN σ7 H7 n7;refine⟨m',hm,i+1,σ7,H7,I7.unpinned,T.keep _ _ _ st5 fun b hb o e=>(I7.pin (b,o) (zE _ (zE _ (cJ hb e)))).1,fun b hb=>?_,w7⟩;obtain⟨o,e,d⟩:=T.obj _ _ st5 b hb;exact(I7.pin (b,o) (zE _ (zE _ (cJ hb e)))).2.1
  cases f with
  |next=>obtain⟨σ7,H7,I7,n7⟩:=q7;exact again I7 n7
  |cont=>obtain⟨σ7,H7,I7,n7⟩:=q7;exact again I7 n7
  |brk=>obtain⟨σ7,H7,I7,q7⟩:=q7;exact⟨σ7,H7,I7.unpinned,q7⟩
  |ret v=>obtain⟨x7,σ7,H7,I7,r7,q7⟩:=q7;exact⟨x7,σ7,H7,I7.unpinned,r7,q7⟩
end
theorem mZ{K:PySem.W.Frag}{a:Addr}{xs:List V}{g:TG}{tb:TS}{D:Ends}{σ:St}{H:Hp}(Pv:Nat->St->Hp->Prop)(h0:Pv 0 σ H)(hl:∀i σ H,i<=xs.length->Pv i σ H->SqL K H a xs)(hs:∀i x σ H,xs[i]?=some x->Pv i σ H->g x σ H fun σ2 H2=>tb { D with nx:=Pv (i+1),ct:=Pv (i+1),bk:=D.nx } σ2 H2)(hd:∀σ H,Pv xs.length σ H->D.nx σ H) :
  ∃W:Nat->Nat->St->Hp->Prop,(∃m,W 0 m σ H)/\∀i m σ H,W i m σ H ->
   ((Itl K a).stop i H/\D.nx σ H)\/((Itl K a).go i H/\∃N:St->Hp->Prop,(∀σ' H',N σ' H'->∃m',m'<m/\W (i+1) m' σ' H')/\∀x H',(Itl K a).yld i H x H'->g x σ H' fun σ2 H2=>tb { D with nx:=N,ct:=N,bk:=D.nx } σ2 H2):=by
 refine⟨fun i m σ H=>m=xs.length-i/\i<=xs.length/\Pv i σ H,⟨xs.length,by simp,zX _,h0⟩,?_⟩;rintro i m σ H ⟨rfl,hi,p⟩;have q:=hl i σ H hi p;by_cases hlt:i<xs.length
 ·refine .inr ⟨⟨xs,xs[i],q,by simp[hlt]⟩,Pv (i+1),fun σ' H' p'=>⟨xs.length-(i+1),by omega,rfl,hlt,p'⟩,fun x H' y=>?_⟩;obtain⟨e,y⟩:=y;subst e;exact hs i x σ _ (y xs q) p
 ·have e:i=xs.length:=by omega
  subst e;exact .inl ⟨⟨xs,q,za _⟩,hd σ H p⟩
open PySem PySem.Spec PyProof.Rows
abbrev R2:=V->V->Hp->VK->Prop
def OpR(X:Cx)(f:Value->Value->Sem Value)(r:R2):Prop :=
 ∀(pins:List (Addr×Obj)) (s:Shared) (σ:St) (H:Hp) (x y:V) (v u:Value) (Q:VK),Inv X pins σ H s->RelV x v->RelV y u->r x y H Q ->
  wpAny (model X.prog X.w) X.A (f v u) (EP X pins σ Q) X.xe s
def UnR(X:Cx)(f:Value->Sem Value)(r:V->Hp->VK->Prop):Prop :=
 ∀(pins:List (Addr×Obj)) (s:Shared) (σ:St) (H:Hp) (x:V) (v:Value) (Q:VK),Inv X pins σ H s->RelV x v->r x H Q ->
  wpAny (model X.prog X.w) X.A (f v) (EP X pins σ Q) X.xe s
def cu(X:Cx)(f:Value)(r:List V->Hp->VK->Prop):Prop :=
 ∀(pins:List (Addr×Obj)) (s:Shared) (σ:St) (H:Hp) (xs:List V) (us:List Value) (Q:VK),Inv X pins σ H s->Vals xs us->r xs H Q ->
  wpAny (model X.prog X.w) X.A (call f us) (EP X pins σ Q) X.xe s
def tOp(r:R2)(ta tb:TE):TE:=fun σ H Q=>ta σ H fun x H1=>tb σ H1 fun y H2=>r x y H2 Q
def tUn(r:V->Hp->VK->Prop)(ta:TE):TE:=fun σ H Q=>ta σ H fun x H1=>r x H1 Q
inductive rI(C:Int->Int->Prop)(g:Int->Int->V)(x:V)(y:V)(H:Hp)(Q:VK):Prop
 |mk (i j:_) (h0:x=.int i) (h1:y=.int j) (h2:C i j) (h3:Q (g i j) H):rI C g x y H Q
inductive rI0(g:Int->Int->V)(x:V)(y:V)(H:Hp)(Q:VK):Prop
 |mk (i j:_) (h0:x=.int i) (h1:y=.int j) (h2:Q (g i j) H):rI0 g x y H Q
def rU(g:Int->V):V->Hp->VK->Prop:=fun x H Q=>∃i,x=.int i/\Q (g i) H
section
variable{X:Cx}{a b c:Expr}{ta tb tc:TE}{pos:Pos}
theorem mL(ha:PE X a ta)(hb:PE X b tb){pins:List (Addr×Obj)}{s:Shared}{σ:St}{H:Hp}{R:V->V->Hp->Prop}(I:Inv X pins σ H s)(h:ta σ H fun x H1=>tb σ H1 fun y H2=>R x y H2){Q:Value->Shared->Prop}{f:Value->Value->Sem Value}(hf:∀v u s2 x y H2,Inv X pins σ H2 s2->RelV x v->RelV y u->R x y H2->wpAny (model X.prog X.w) X.A (f v u) Q X.xe s2) :
  wpAny (model X.prog X.w) X.A (eval a X.env) (fun v s₁=>wpAny (model X.prog X.w) X.A (eval b X.env) (fun u s₂=>wpAny (model X.prog X.w) X.A (f v u) Q X.xe s₂) X.xe s₁) X.xe s:=by
 refine thn (ha pins s σ H _ I h) fun v s1 hz9=>?_;obtain⟨x,H1,I1,r1,q1⟩:=hz9;refine thn (hb pins s1 σ H1 _ I1 q1) fun u s2 hz9=>?_;obtain⟨y,H2,I2,r2,q2⟩:=hz9;exact hf v u s2 x y H2 I2 r1 r2 q2
theorem sI{op:Operator}{r:R2}(ho:OpR X (binaryOp op) r)(ha:PE X a ta)(hb:PE X b tb):PE X (.BinOp a op b pos) (tOp r ta tb):=by intro pins s σ H Q I h;exact wpAny_BinOp (mL ha hb I h fun v u s2 x y H2 I2 rx ry q=>ho pins s2 σ H2 x y v u Q I2 rx ry q)
theorem sK{op:UnaryOp}{r:V->Hp->VK->Prop}(ho:UnR X (unaryOp op) r)(ha:PE X a ta):PE X (.UnaryOp op a pos) (tUn r ta):=by intro pins s σ H Q I h;exact UnaryOp_ (thn (ha pins s σ H _ I h) fun v s1 ⟨x,H1,I1,r1,q1⟩=>ho pins s1 σ H1 x v Q I1 r1 q1)
theorem opI{f:Value->Value->Sem Value}{C:Int->Int->Prop}{g:Int->Int->Int}(rule:∀(i j:Int) (t u:Tok) (s:Shared) (Q:Value->Shared->Prop) (E:Value->Shared->Prop),C i j->Q (.int (g i j) s.toks) { s with toks:=s.toks+1 }->wpAny (model X.prog X.w) X.A (f (.int i t) (.int j u)) Q E s) :
  OpR X f (rI C fun i j=>.int (g i j)):=by
 intro pins s σ H x y v u Q I rx ry h;obtain⟨i,j,rfl,rfl,hc,q⟩:=h;obtain⟨t,rfl⟩:=rx;obtain⟨t',rfl⟩:=ry;exact rule i j t t' s _ _ hc ⟨.int (g i j),H,I.tok _,⟨_,rfl⟩,q⟩
theorem qH{f:Value->Value->Sem Value}{g:Int->Int->Int}(rule:∀(i j:Int) (t u:Tok) (s:Shared) (Q:Value->Shared->Prop) (E:Value->Shared->Prop),Q (.int (g i j) s.toks) { s with toks:=s.toks+1 }->wpAny (model X.prog X.w) X.A (f (.int i t) (.int j u)) Q E s) :
  OpR X f (rI0 fun i j=>.int (g i j)):=by
 intro pins s σ H x y v u Q I rx ry h;obtain⟨i,j,rfl,rfl,q⟩:=h;obtain⟨t,rfl⟩:=rx;obtain⟨t',rfl⟩:=ry;exact rule i j t t' s _ _ ⟨.int (g i j),H,I.tok _,⟨_,rfl⟩,q⟩
theorem nF{f:Value->Value->Sem Value}{g:Int->Int->Bool}(rule:∀(i j:Int) (t u:Tok) (s:Shared) (Q:Value->Shared->Prop) (E:Value->Shared->Prop),Q (.bool (g i j)) s->wpAny (model X.prog X.w) X.A (f (.int i t) (.int j u)) Q E s) :
  OpR X f (rI0 fun i j=>.bl (g i j)):=by
 intro pins s σ H x y v u Q I rx ry h;obtain⟨i,j,rfl,rfl,q⟩:=h;obtain⟨t,rfl⟩:=rx;obtain⟨t',rfl⟩:=ry;exact rule i j t t' s _ _ ⟨.bl (g i j),H,I,rfl,q⟩
def qd(i j:Int):Prop:=0<j/\j<1073741824
def qe(i j:Int):Prop:=0<=j/\j<=1000000/\i.natAbs<2^64
def CMul(i j:Int):Prop:=(-(2^64)<i/\i<2^64)\/(-(2^64)<j/\j<2^64)
theorem CMul.ok{i j:Int}(h:CMul i j):IntMulOk i j:=by
 rcases h with⟨h1,h2⟩|⟨h1,h2⟩
 ·exact .of_left (intBits_le_64 h1 h2)
 ·exact .of_right (intBits_le_64 h1 h2)
theorem qI:OpR X (binaryOp .Add) (rI0 fun i j=>.int (i+j)):=qH fun _ _ _ _ _ _ _ q=>add_int q
theorem qO:OpR X (binaryOp .Sub) (rI0 fun i j=>.int (i-j)):=qH fun _ _ _ _ _ _ _ q=>sub_int q
theorem qL:OpR X (binaryOp .Mult) (rI CMul fun i j=>.int (i*j)):=opI fun _ _ _ _ _ _ _ hc q=>mul_int q hc.ok
theorem pz:OpR X (binaryOp .FloorDiv) (rI qd fun i j=>.int (i / j)):=opI fun i j _ _ _ _ _ hc q=>by have h1:(0:Int)<j:=hc.1;have h2:j<1073741824:=hc.2;exact floordiv_int (by omega) (by rw[Int.fdiv_eq_ediv_of_nonneg i (by omega)];exact q) (.inl (PyProof.noPylong_small (by omega)))
theorem qK:OpR X (binaryOp .Mod) (rI (fun _ j=>0<j) fun i j=>.int (i%j)):=opI fun i j _ _ _ _ _ hc q=>by have h1:(0:Int)<j:=hc;exact mod_int' (by omega) (by rw[Int.fmod_eq_emod_of_nonneg i (by omega)];exact q)
theorem qN:OpR X (binaryOp .Pow) (rI qe fun i j=>.int (i^j.toNat)):=opI fun _ _ _ _ _ _ _ hc q=>pow_int_small hc.1 hc.2.1 hc.2.2 q
theorem unI{f:Value->Sem Value}{g:Int->Int}(rule:∀(i:Int) (t:Tok) (s:Shared) (Q:Value->Shared->Prop) (E:Value->Shared->Prop),Q (.int (g i) s.toks) { s with toks:=s.toks+1 }->wpAny (model X.prog X.w) X.A (f (.int i t)) Q E s) :
  UnR X f (rU fun i=>.int (g i)):=by
 intro pins s σ H x v Q I rx h;obtain⟨i,rfl,q⟩:=h;obtain⟨t,rfl⟩:=rx;exact rule i t s _ _ ⟨.int (g i),H,I.tok _,⟨_,rfl⟩,q⟩
theorem rP:UnR X (unaryOp .USub) (rU fun i=>.int (-i)):=unI fun _ _ _ _ _ q=>neg_int q
end
def rC:V->V->Bool
 |.non,.non=>true|.non,.int _=>true|.int _,.non=>true|.non,.bl _=>true|.bl _,.non=>true|.non,.str _=>true|.str _,.non=>true
 |.int _,.int _=>true|.bl _,.bl _=>true|.str _,.str _=>true|.byt _,.byt _=>true
 |.int _,.str _=>true|.str _,.int _=>true|.bl _,.str _=>true|.str _,.bl _=>true
 |_,_=>false
def rEq:R2:=fun x y H Q=>rC x y=true/\Q (.bl (decide (x=y))) H
def rNe:R2:=fun x y H Q=>rC x y=true/\Q (.bl (!decide (x=y))) H
theorem jQ{i j:Int}:decide (V.int i=V.int j)=(i==j):=by rw[zY];simp
theorem lC{i j:Bool}:decide (V.bl i=V.bl j)=(i==j):=by rw[zY];simp
theorem jR{i j:Str}:decide (V.str i=V.str j)=(i==j):=by rw[zY];simp
theorem jP{i j:Array UInt8}:decide (V.byt i=V.byt j)=(i.toList==j.toList):=by rw[zY];cases i;cases j;simp
section
variable{X:Cx}{a b c:Expr}{ta tb tc:TE}{pos:Pos}
theorem aA{pins:List (Addr×Obj)}{σ:St}{H:Hp}{s:Shared}{Q:VK}{k k':Bool}(I:Inv X pins σ H s)(q:Q (.bl k) H)(e:k=k'):EP X pins σ Q (.bool k') s:=by subst e;exact⟨.bl k,H,I,rfl,q⟩
theorem ss:OpR X (compareOp .Eq) rEq:=by
 intro pins s σ H x y v u Q I rx ry h;obtain⟨hs,q⟩:=h;cases x with
 |non =>
  cases rx;cases y with
  |non=>cases ry;exact PySem.EqNone.eq_none_none (aA I q (by simp))
  |bl j=>cases ry;exact PySem.EqNone.eq_none_bool (aA I q (by simp))
  |int j=>obtain⟨t',rfl⟩:=ry;exact PySem.EqNone.eq_none_int (aA I q (by simp))
  |str j=>obtain⟨t',rfl⟩:=ry;exact PySem.EqNone.eq_none_str (aA I q (by simp))
  |_=>exact absurd (show false=true from hs) zb
 |bl i =>
  cases rx;cases y with
  |non=>cases ry;exact PySem.EqNone.eq_bool_none (aA I q (by simp))
  |bl j=>cases ry;exact eq_bool (aA I q lC)
  |str j=>obtain⟨t',rfl⟩:=ry;exact PySem.EqMixed.eq_bool_str (aA I q (by simp))
  |_=>exact absurd (show false=true from hs) zb
 |int i =>
  obtain⟨t,rfl⟩:=rx;cases y with
  |non=>cases ry;exact PySem.EqNone.eq_int_none (aA I q (by simp))
  |int j=>obtain⟨t',rfl⟩:=ry;exact eq_int (aA I q jQ)
  |str j=>obtain⟨t',rfl⟩:=ry;exact PySem.EqMixed.eq_int_str (aA I q (by simp))
  |_=>exact absurd (show false=true from hs) zb
 |str i =>
  obtain⟨t,rfl⟩:=rx;cases y with
  |non=>cases ry;exact PySem.EqNone.eq_str_none (aA I q (by simp))
  |bl j=>cases ry;exact PySem.EqMixed.eq_str_bool (aA I q (by simp))
  |int j=>obtain⟨t',rfl⟩:=ry;exact PySem.EqMixed.eq_str_int (aA I q (by simp))
  |str j=>obtain⟨t',rfl⟩:=ry;exact eq_str (aA I q jR)
  |_=>exact absurd (show false=true from hs) zb
 |byt i =>
  obtain⟨t,rfl⟩:=rx;cases y with
  |byt j=>obtain⟨t',rfl⟩:=ry;exact PySem.W.eq_bytes (aA I q jP)
  |_=>exact absurd (show false=true from hs) zb
 |_=>cases y<;>exact absurd (show false=true from hs) zb
theorem sE:OpR X (compareOp .NotEq) rNe:=by
 intro pins s σ H x y v u Q I rx ry h;obtain⟨hs,q⟩:=h;cases x with
 |non =>
  cases rx;cases y with
  |non=>cases ry;exact PySem.EqNone.ne_none_none (aA I q (by simp))
  |bl j=>cases ry;exact PySem.EqNone.ne_none_bool (aA I q (by simp))
  |int j=>obtain⟨t',rfl⟩:=ry;exact PySem.EqNone.ne_none_int (aA I q (by simp))
  |str j=>obtain⟨t',rfl⟩:=ry;exact PySem.EqNone.ne_none_str (aA I q (by simp))
  |_=>exact absurd (show false=true from hs) zb
 |bl i =>
  cases rx;cases y with
  |non=>cases ry;exact PySem.EqNone.ne_bool_none (aA I q (by simp))
  |bl j=>cases ry;exact ne_bool (aA I q (zJ not lC))
  |str j=>obtain⟨t',rfl⟩:=ry;exact PySem.EqMixed.ne_bool_str (aA I q (by simp))
  |_=>exact absurd (show false=true from hs) zb
 |int i =>
  obtain⟨t,rfl⟩:=rx;cases y with
  |non=>cases ry;exact PySem.EqNone.ne_int_none (aA I q (by simp))
  |int j=>obtain⟨t',rfl⟩:=ry;exact ne_int (aA I q (zJ not jQ))
  |str j=>obtain⟨t',rfl⟩:=ry;exact PySem.EqMixed.ne_int_str (aA I q (by simp))
  |_=>exact absurd (show false=true from hs) zb
 |str i =>
  obtain⟨t,rfl⟩:=rx;cases y with
  |non=>cases ry;exact PySem.EqNone.ne_str_none (aA I q (by simp))
  |bl j=>cases ry;exact PySem.EqMixed.ne_str_bool (aA I q (by simp))
  |int j=>obtain⟨t',rfl⟩:=ry;exact PySem.EqMixed.ne_str_int (aA I q (by simp))
  |str j=>obtain⟨t',rfl⟩:=ry;exact ne_str (aA I q (zJ not jR))
  |_=>exact absurd (show false=true from hs) zb
 |byt i =>
  obtain⟨t,rfl⟩:=rx;cases y with
  |byt j=>obtain⟨t',rfl⟩:=ry;exact PySem.W.ne_bytes (aA I q (zJ not jP))
  |_=>exact absurd (show false=true from hs) zb
 |_=>cases y<;>exact absurd (show false=true from hs) zb
theorem sw:OpR X (compareOp .Lt) (rI0 fun i j=>.bl (decide (i<j))):=nF fun _ _ _ _ _ _ _ q=>lt_int q
theorem sv:OpR X (compareOp .LtE) (rI0 fun i j=>.bl (decide (i<=j))):=nF fun _ _ _ _ _ _ _ q=>le_int q
theorem su:OpR X (compareOp .Gt) (rI0 fun i j=>.bl (decide (j<i))):=nF fun _ _ _ _ _ _ _ q=>gt_int q
theorem lW(b:Expr){op:CmpOp}(h:op≠.In:=by decide)(h2:op≠.NotIn:=by decide):behindInMarks op b=false:=by
 have e1:(op==CmpOp.In)=false:=by cases op<;>first|rfl|exact absurd rfl h
 have e2:(op==CmpOp.NotIn)=false:=by cases op<;>first|rfl|exact absurd rfl h2
 cases b<;>simp[behindInMarks,e1,e2]
theorem pF{op:CmpOp}{r:R2}(ho:OpR X (compareOp op) r)(ha:PE X a ta)(hb:PE X b tb)(hm:behindInMarks op b=false):PE X (.Compare a [op] [b] pos) (tOp r ta tb):=by intro pins s σ H Q I h;exact wpAny_Compare1 (mL ha hb I h fun v u s2 x y H2 I2 rx ry q=>ho pins s2 σ H2 x y v u Q I2 rx ry q) hm
def iM(t:TE):TT:=fun σ H Q=>t σ H fun x H1=>IsB x H1 Q
theorem pT{op:CmpOp}{r:R2}(ho:OpR X (compareOp op) r)(ha:PE X a ta)(hb:PE X b tb)(hm:behindInMarks op b=false):PT X (.Compare a [op] [b] pos) (iM (tOp r ta tb)):=by
 intro pins s σ H Q I h;refine wpAny_isTrue_Compare1 (thn (ha pins s σ H _ I h) fun v s1 ⟨x,H1,I1,r1,q1⟩=>thn (hb pins s1 σ H1 _ I1 q1) fun u s2 ⟨y,H2,I2,r2,q2⟩ =>
  thn (ho pins s2 σ H2 x y v u _ I2 r1 r2 q2) fun c s3 ⟨z,H3,I3,r3,k,e,q3⟩=>?_) hm
 subst e;cases r3;exact zO ⟨H3,I3,q3⟩
def my(r r':R2)(ta tb tc:TE):TE:=fun σ H Q=>ta σ H fun x H1=>tb σ H1 fun y H2=>r x y H2 fun z H3=>∃k,z=.bl k /\
 (if k=true then tc σ H3 fun w' H4=>r' y w' H4 Q else Q (.bl false) H3)
theorem nQ{op op':CmpOp}{r r':R2}(ho:OpR X (compareOp op) r)(ho':OpR X (compareOp op') r')(ha:PE X a ta)(hb:PE X b tb)(hc:PE X c tc)(hm:lastMarks [op,op'] [b,c]=false:=by with_unfolding_all rfl):PT X (.Compare a [op,op'] [b,c] pos) (iM (my r r' ta tb tc)):=by
 intro pins s σ H Q I h;refine isTrue_chain (thn (ha pins s σ H _ I h) fun v s1 ⟨x,H1,I1,r1,q1⟩=>test_link (thn (hb pins s1 σ H1 _ I1 q1) fun u s2 ⟨y,H2,I2,r2,q2⟩ =>
  thn (ho pins s2 σ H2 x y v u _ I2 r1 r2 q2) fun d s3 ⟨z,H3,I3,r3,k,e,q3⟩=>?_)) hm
 subst e;cases r3;refine zO ?_;cases k with
 |false =>obtain⟨k',e',q'⟩:=q3;cases e';exact ite_ff ⟨H3,I3,q'⟩
 |true =>refine ite_tt (test_last (thn (hc pins s3 σ H3 _ I3 q3) fun w' s4 ⟨z',H4,I4,r4,q4⟩=>thn (ho' pins s4 σ H4 y z' u w' _ I4 r2 r4 q4) fun d' s5 hz9=>?_));obtain⟨z2,H5,I5,r5,k2,e2,q5⟩:=hz9;subst e2;cases r5;exact zO ⟨H5,I5,q5⟩
theorem jg:(sizeLine:Nat)<2^63:=by rw[sizeLine_eq];decide
theorem kM:OpR X (binaryOp .Add) (fun x y H Q=>∃i j,x=.str i/\y=.str j/\i.length+j.length<=sizeLine/\Q (.str (i++j)) H):=by intro pins s σ H x y v u Q I rx ry h;obtain⟨i,j,rfl,rfl,hz,q⟩:=h;obtain⟨t,rfl⟩:=rx;obtain⟨t',rfl⟩:=ry;exact add_str (fun t' tk=>⟨.str (i++j),H,I.tok _,⟨_,rfl⟩,q⟩) hz
theorem bF{x:V}{us:List Value}(r:Vals [x] us):∃u,us=[u]/\RelV x u:=by
 cases r with
 |cons r1 r2=>cases r2;exact⟨_,rfl,r1⟩
theorem oR{x y:V}{us:List Value}(r:Vals [x,y] us):∃u w',us=[u,w']/\RelV x u/\RelV y w':=by
 cases r with
 |cons r1 r2 =>
  cases r2 with
  |cons r3 r4=>cases r4;exact⟨_,_,rfl,r1,r3⟩
theorem lu:cu X (.type "int") (fun xs H Q=>(∃i,xs=[.int i]/\Q (.int i) H)\/∃k,xs=[.bl k]/\Q (.int (if k then 1 else 0)) H):=by
 intro pins s σ H xs us Q I r h;rcases h with⟨i,rfl,q⟩|⟨k,rfl,q⟩
 ·obtain⟨u,rfl,t,rfl⟩:=bF r;exact call_int_int ⟨.int i,H,I,⟨_,rfl⟩,q⟩
 ·obtain⟨u,rfl,r1⟩:=bF r;cases r1;exact call_int_bool ⟨.int (if k then 1 else 0),H,I.tok _,⟨_,rfl⟩,q⟩
end
open PySem PySem.Spec PyProof.Rows
structure ObjM(h:Heap)(x dx C:Addr)(mA:Str->Option Value):Prop where
 obj:h.get? x=some (PySem.W.instObj C dx)
 ns:h.Ns1 dx mA
 ne:dx≠x
theorem lR{h:Heap}{dx:Addr}{mA:Str->Option Value}(n:h.Ns1 dx mA):∃od,h.get? dx=some od/\∀name,PySem.W.lookIn name od=some (mA name):=by
 obtain⟨o,es,ep,ho,hd,hk,_,hm⟩:=n;refine⟨o,ho,fun name=>?_⟩;have e:=hm name;unfold nsFind findBy at e;rw[<-Array.find?_toList]at e;unfold PySem.W.lookIn;rw[hd];dsimp only;split
 ·rename_i y q;rw[q]at e;exact zJ some e
 ·rename_i q;rw[q]at e;have a:es.toList.any (·.refKey)=false:=by rw[List.any_eq_false];intro y hy;obtain⟨z,t,hkey⟩:=hk y (Array.mem_toList_iff.mp hy);simp[DictEntry.refKey,hkey]
  have a':¬es.toList.any (·.refKey)=true:=by rw[a];exact zb
  rw[o6 a'];exact zJ some e
theorem ObjM.look{h:Heap}{x dx C:Addr}{mA:Str->Option Value}(I:ObjM h x dx C mA):∃od,PySem.W.InstAt h x (PySem.W.instObj C dx) C (some od)/\∀name,PySem.W.lookIn name od=some (mA name) :=
 let⟨od,ho,hl⟩:=lR I.ns
 ⟨od,⟨I.obj,rfl,rfl,ho⟩,hl⟩
section
variable{prog:Program}{w:World}{A:Around}{E:Value->Shared->Prop}{s:Shared}{K:PySem.W.Frag}{x dx C f:Addr}{mA:Str->Option Value}{name:Str}{v:Value}
theorem oZ{expr:Bool}{Q:Value->Shared->Prop}(X:K.In s.heap)(I:ObjM s.heap x dx C mA)(hg:PySem.W.plainGet K C name=true)(hh:PySem.W.hasDictIn K C=true)(ha:PySem.W.findIn K (.ref C) name=some none)(hv:mA name=some v)(hv':PySem.W.handedIn v=true)(h:Q v { s with toks:=s.toks+1 }) :
  wpAny (model prog w) A (getAttr (.ref x) name expr) Q E s:=by
 obtain⟨od,J,hl⟩:=I.look;exact PySem.W.get_value X J (PySem.W.plainGet_of hg).1 (PySem.W.findObj_own hh ha rfl (by rw[hl,hv])) hv' h
theorem ng{pl:Sem Bool}{Q:Value×List Value->Shared->Prop}(X:K.In s.heap)(I:ObjM s.heap x dx C mA)(hg:PySem.W.plainGet K C name=true)(hf:PySem.W.findIn K (.ref C) name=some (some (.ref f)))(ht:PySem.W.isFn K (.ref f)=true)(hv:mA name=none)(h:Q (.ref f,[.ref x]) s) :
  wpAny (model prog w) A (getMethod (.ref x) name pl) Q E s:=by
 obtain⟨od,J,hl⟩:=I.look;exact PySem.W.method_fn X J (PySem.W.plainGet_of hg).1 (PySem.W.plainGet_of hg).2 hf (zT.mp ht) (by show(PySem.W.lookIn name od).map (·.isSome)=some false;rw[hl,hv];rfl) h
theorem pY{ns:List Str}{Q:Unit->Shared->Prop}(X:K.In s.heap)(I:ObjM s.heap x dx C mA)(hs:PySem.W.findIn K (.ref C) "__setattr__" = some (some (.builtin "object.__setattr__")))(hp:PySem.W.plainOver K C=true)(ht:PySem.W.takerIn K C name=some none)(hh:PySem.W.hasDictIn K C=true)(hw:PySem.Within mA ns)(hsz:ns.length<=sizeLine)(h:∀h',ObjM h' x dx C (fun y=>if y=name then some v else mA y)->Heap.SameBut dx s.heap h'->Q () { s with heap:=h',toks:=s.toks+2 }) :
  wpAny (model prog w) A (setAttr (.ref x) name v) Q E s:=by
 obtain⟨od,J,hl⟩:=I.look;refine PySem.W.set_plain X J hs (PySem.W.osa_open (s:={ s with toks:=s.toks+1 }) (r:=none) X J hp ht fun b=>?_);obtain⟨cd,hc,hd'⟩:=PySem.W.any_some hh;have hx:s.heap.get? x=some ⟨.ref C,some dx,.plain,#[]⟩:=I.obj;refine zt (zw (zt (zt (wpAny_loadPart hx (zt (PySem.W.Looks.here (s:={ s with toks:=s.toks+1 }) (PySem.W.looks_clsIn X hc) ?_))))));rw[hd'];refine zw (a:=some dx) (zt (zw (zt ?_)));refine wpAny_nsSet1 (s:={ s with toks:=s.toks+1 }) I.ns fun h' hn2 hs2=>?_;obtain⟨oD,esD,epD,hoD,hdD,hcD⟩:=hn2.count (PySem.Within.cons name v hw);refine zt (wpAny_lookBehind hoD (by rw[hdD];exact pastItsLine_dict (zh hcD (by rw[zn];omega))) ?_);exact zw (h _ ⟨(hs2.2 _ (Ne.symm I.ne)).trans I.obj,hn2,I.ne⟩ hs2)
theorem ny{R:Result->Shared->Prop}{vs:List Value}{kw:List (Str×Value)}(X:K.In s.heap)(hm:PySem.W.makesIn K C=true)(hi:PySem.W.findIn K (.ref C) "__init__" = some (some (.ref f)))(hf:PySem.W.typeIn K (.ref f)=some (.type "function"))(h:codeAny (model prog w) (A.under (.builtin "type.__call__" ⟨.ref C::vs,kw⟩)) (.call (.ref f) ⟨.ref (s.heap.objs.size+1)::vs,kw⟩) (PySem.W.InitBack (s.heap.objs.size+1) R)
   { s with heap:=(s.heap.push PySem.W.emptyDict).push (PySem.W.instObj C s.heap.objs.size) }) :
  codeAny (model prog w) A (.call (.ref C) ⟨vs,kw⟩) R s:=by
 obtain⟨hh,g,d,t,os⟩:=s;exact PySem.W.make_core (PySem.W.makes_of X hm) (PySem.W.looks_findIn X hi) (fun self=>PySem.W.bind_fn X self hf) (.inl rfl) h
end
def bp(f:Str)(v:V):List (Str×V)->List (Str×V)
 | []=>[(f,v)]
 |(g,x)::r=>if g=f then(g,v)::r else(g,x)::bp f v r
theorem bc(f g:Str)(v:V):∀fs:List (Str×V),(bp f v fs).lookup g=if g=f then some v else fs.lookup g
 | []=>by
  show List.lookup g [(f,v)]=_;by_cases h:g=f
  ·have hb:(g==f)=true:=zT.mpr h;simp only[List.lookup,hb,o7 h]
  ·have hb:(g==f)=false:=beq_eq_false_iff_ne.mpr h;simp only[List.lookup,hb,o6 h]
 |(k,x)::r=>by
  have ih:=bc f g v r;rw[show bp f v ((k,x)::r)=(if k=f then(k,v)::r else(k,x)::bp f v r)from rfl];by_cases hk:k=f
  ·rw[o7 hk];by_cases h:g=k
   ·have hb:(g==k)=true:=zT.mpr h;simp only[List.lookup,hb,o7 (h.trans hk)]
   ·have hb:(g==k)=false:=beq_eq_false_iff_ne.mpr h;simp only[List.lookup,hb,o6 (fun e:g=f=>h (e.trans hk.symm))]
  ·rw[o6 hk];by_cases h:g=k
   ·have hb:(g==k)=true:=zT.mpr h;simp only[List.lookup,hb,o6 (fun e:g=f=>hk (h.symm.trans e))]
   ·have hb:(g==k)=false:=beq_eq_false_iff_ne.mpr h;simp only[List.lookup,hb];exact ih
theorem ee(f:Str)(v:V):∀fs:List (Str×V),f∈(bp f v fs).map (·.1)/\∀g,g∈fs.map (·.1)->g∈(bp f v fs).map (·.1)
 | []=>⟨by simp[bp],fun g h=>by simp at h⟩
 |(k,x)::r=>by
  obtain⟨i1,i2⟩:=ee f v r;rw[show bp f v ((k,x)::r)=(if k=f then(k,v)::r else(k,x)::bp f v r)from rfl];by_cases hk:k=f
  ·rw[o7 hk];subst hk;exact⟨by simp,fun g h=>by simpa using h⟩
  ·rw[o6 hk];refine⟨?_,fun g h=>?_⟩
   ·rw[zv];exact zl _ i1
   ·rw[zv]at h ⊢;rcases zo.mp h with e|e
    ·exact zo.mpr (.inl e)
    ·exact zl _ (i2 g e)
theorem fi(f:Str)(v:V):∀fs:List (Str×V),(bp f v fs).length<=fs.length+1
 | []=>by simp[bp]
 |(k,x)::r=>by
  have ih:=fi f v r;rw[show bp f v ((k,x)::r)=(if k=f then(k,v)::r else(k,x)::bp f v r)from rfl];by_cases hk:k=f
  ·rw[o7 hk,zn,zn];omega
  ·rw[o6 hk,zn,zn];omega
theorem RelO.some_of{v:V}{o:Option Value}(r:RelO (some v) o):∃u,o=some u/\RelV v u:=by
 cases o with
 |none=>exact(show False from r).elim
 |some u=>exact⟨u,rfl,r⟩
theorem RelO.none_of{o:Option Value}(r:RelO none o):o=none:=by
 cases o with
 |none=>rfl
 |some u=>exact(show False from r).elim
theorem lK{v:V}{u:Value}(r:RelV v u):PySem.W.handedIn u=true:=by
 cases v with
 |non=>cases(show u=Value.none from r);rfl
 |bl b=>cases(show u=Value.bool b from r);rfl
 |int i=>obtain⟨t,e⟩:=(show∃t,u=Value.int i t from r);cases e;rfl
 |str x=>obtain⟨t,e⟩:=(show∃t,u=Value.str x t from r);cases e;rfl
 |byt b=>obtain⟨t,e⟩:=(show∃t,u=Value.bytes b t from r);cases e;rfl
 |flt b=>obtain⟨t,e⟩:=(show∃t,u=Value.float b t from r);cases e;rfl
 |ref a=>cases(show u=Value.ref a from r);rfl
 |ty n=>cases(show u=Value.type n from r);rfl
section
variable{P:Program}{w:World}{H H':Hp}{h h':Heap}{a C dx:Addr}{fs fs':List (Str×V)}
theorem eS(hok:HOk P w H h)(e:H a=some (.ins C dx fs)):∃mA,ObjM h a dx C mA/\(∀f,RelO (fs.lookup f) (mA f))/\PySem.Within mA (fs.map (·.1))/\fs.length<=1000/\H dx=some (.own a):=by
 obtain⟨d,z,ne,ob,mA,n,r,q⟩:=(show ObjOk P w H h a (.ins C dx fs)from hok a _ e)
 exact⟨mA,⟨ob,n,ne⟩,r,q,z,d⟩
end
structure Cls(K:PySem.W.Frag)(C:Addr):Prop where
 pg:PySem.W.plainGet K C Str.empty=true
 hd:PySem.W.hasDictIn K C=true
 po:PySem.W.plainOver K C=true
 sa:PySem.W.findIn K (.ref C) "__setattr__" = some (some (.builtin "object.__setattr__"))
theorem Cls.get{K:PySem.W.Frag}{C:Addr}(c:Cls K C)(f:Str):PySem.W.plainGet K C f=true:=c.pg
def NoAttr(K:PySem.W.Frag)(C:Addr)(f:Str):Prop:=PySem.W.findIn K (.ref C) f=some none
theorem NoAttr.taker{K:PySem.W.Frag}{C:Addr}{f:Str}(n:NoAttr K C f):PySem.W.takerIn K C f=some none:=by unfold PySem.W.takerIn;rw[show PySem.W.findIn K (.ref C) f=some none from n];rfl
structure Con(K:PySem.W.Frag)(C:Addr)(f:Str)(v:V)(u:Value):Prop where
 at_:PySem.W.findIn K (.ref C) f=some (some u)
 rel:RelV v u
 get:PySem.W.specialIn K u "__get__" = some none
 cp:PySem.W.copiedNames.contains f=false
structure Meth(K:PySem.W.Frag)(C:Addr)(m:Str)(f:Addr):Prop where
 at_:PySem.W.findIn K (.ref C) m=some (some (.ref f))
 fn:PySem.W.isFn K (.ref f)=true
 kp:PySem.W.keepIn K (.ref f)=true
section
variable{X:Cx}{pins:List (Addr×Obj)}{σ:St}{H:Hp}{s:Shared}{a C dx:Addr}{fs:List (Str×V)}{f:Str}{v:V}{A:Around}{E:Value->Shared->Prop}
theorem fP{b:Bool}{Q:Value->Shared->Prop}(I:Inv X pins σ H s)(e:H a=some (.ins C dx fs))(c:Cls X.K C)(n:NoAttr X.K C f)(l:fs.lookup f=some v)(h:∀u s',Inv X pins σ H s'->RelV v u->Q u s'):wpAny (model X.prog X.w) A (getAttr (.ref a) f b) Q E s:=by obtain⟨mA,O,r,_,_,_⟩:=eS I.hok e;obtain⟨u,hu,ru⟩:=RelO.some_of (v:=v) (o:=mA f) (by rw[<-l];exact r f);exact oZ I.kIn O (c.get f) c.hd n hu (lK ru) (h u _ (I.tok _) ru)
theorem fQ{m:Str}{g:Addr}{pl:Sem Bool}{Q:Value×List Value->Shared->Prop}(I:Inv X pins σ H s)(e:H a=some (.ins C dx fs))(c:Cls X.K C)(k:Meth X.K C m g)(l:fs.lookup m=none)(h:Q (.ref g,[.ref a]) s):wpAny (model X.prog X.w) A (getMethod (.ref a) m pl) Q E s:=by obtain⟨mA,O,r,_,_,_⟩:=eS I.hok e;have hn:mA m=none:=RelO.none_of (by rw[<-l];exact r m);exact ng I.kIn O (c.get m) k.at_ k.fn hn h
theorem gg{y:V}{u:Value}{Q:Unit->Shared->Prop}(I:Inv X pins σ H s)(e:H a=some (.ins C dx fs))(c:Cls X.K C)(n:NoAttr X.K C f)(hl:fs.length<1000)(ry:RelV y u)(h:∀s',Inv X pins σ (upd H a (.ins C dx (bp f y fs))) s'->Q () s'):wpAny (model X.prog X.w) A (setAttr (.ref a) f u) Q E s:=by
 obtain⟨mA,O,r,wi,_,ho⟩:=eS I.hok e;have hz:(fs.map (·.1)).length<=sizeLine:=by rw[zd,sizeLine_eq];omega
 refine pY I.kIn O c.sa c.po n.taker c.hd wi hz fun h' O' sb=>h _ ?_;have hd:∃o,h'.get? dx=some o:=let⟨o,_,_,e',_⟩:=O'.ns;⟨o,e'⟩
 refine I.write (x:=a) (e:=dx) (by rw[e];exact True.intro) (.inr ho) (fun b q hb z=>(sb.2 b hb).trans z) hd ?_;refine⟨by rw[ai O.ne];exact ho,?_,O.ne,O'.obj,_,O'.ns,fun g=>?_,fun g hg=>?_⟩
 ·have:=fi f y fs;omega
 ·show RelO ((bp f y fs).lookup g) (if g=f then some u else mA g);rw[bc];by_cases q:g=f
  ·rw[o7 q,o7 q];exact ry
  ·rw[o6 q,o6 q];exact r g
 ·by_cases q:g=f
  ·rw[q];exact(ee f y fs).1
  ·refine(ee f y fs).2 g (wi g fun z=>hg ?_);show(if g=f then some u else mA g)=none;rw[o6 q];exact z
theorem Inv.made(I:Inv X pins σ H s):Inv X pins σ (upd (upd H s.heap.objs.size (.own (s.heap.objs.size+1))) (s.heap.objs.size+1) (.ins C s.heap.objs.size []))
  { s with heap:=(s.heap.push PySem.W.emptyDict).push (PySem.W.instObj C s.heap.objs.size) }:=by
 have e1:(s.heap.push PySem.W.emptyDict).get? s.heap.objs.size=some PySem.W.emptyDict:=zz s.heap rfl;have e2:((s.heap.push PySem.W.emptyDict).push (PySem.W.instObj C s.heap.objs.size)).get? (s.heap.objs.size+1)=some (PySem.W.instObj C s.heap.objs.size):=by
  have:=zz (s.heap.push PySem.W.emptyDict) (o:=PySem.W.instObj C s.heap.objs.size) rfl
  rwa [Heap.size_push]at this
 have e3:(s.heap.push PySem.W.emptyDict).Ns s.heap.objs.size (fun _=>none):=⟨PySem.W.emptyDict,#[],_,e1,rfl,(fun e he=>absurd he (by simp)),fun _=>rfl⟩
 have I1:=I.laid (a:=s.heap.objs.size) (o:=.own (s.heap.objs.size+1)) (h':=s.heap.push PySem.W.emptyDict) (t':=s.toks) (fun b u q=>zi _ q) (za _) ⟨_,e1⟩;refine I1.laid (a:=s.heap.objs.size+1) (o:=.ins C s.heap.objs.size []) (t':=s.toks) (fun b u q=>zi _ q) (Nat.le_of_eq (Heap.size_push _ _)) ?_;have ne:s.heap.objs.size≠s.heap.objs.size+1:=zC (Nat.lt_succ_self _);refine⟨by rw[ai ne,ac],zX _,ne,e2,fun _=>none,(Heap.Ns1.of_empty e3).at fun o q=>zi _ q,fun _=>True.intro,fun y hy=>absurd rfl hy⟩
theorem oW{prog:Program}{w:World}{env:Env}{e:Expr}{f:Str}{pos:Pos}{s:Shared}{Q:Value->Shared->Prop}(hb:attributeBase e f env (eval e env)=eval e env)(h:wpAny (model prog w) A (eval e env) (fun o s₁=>wpAny (model prog w) A (getAttr o f true) Q E s₁) E s):wpAny (model prog w) A (eval (.Attribute e f pos) env) Q E s :=
 Attribute_any_ h (by rw[arm_eval_Attribute,hb])
end
def rF(K:PySem.W.Frag)(ta:TE)(f:Str):TE:=fun σ H Q=>ta σ H fun x H1=>∃a C dx fs v,x=.ref a/\H1 a=some (.ins C dx fs)/\Cls K C/\NoAttr K C f/\fs.lookup f=some v/\Q v H1
def rA(K:PySem.W.Frag)(ta tv:TE)(f:Str):TS:=fun D σ H=>tv σ H fun y H1=>ta σ H1 fun x H2=>∃a C dx fs,x=.ref a/\H2 a=some (.ins C dx fs)/\Cls K C/\NoAttr K C f/\fs.length<1000 /\
 D.nx σ (upd H2 a (.ins C dx (bp f y fs)))
def mH(X:Cx)(op:Operator)(rd:V->V->Hp->VK->Prop):Prop :=
 ∀(pins:List (Addr×Obj)) (s:Shared) (σ:St) (H:Hp) (x y:V) (u v:Value) (Q:VK),Inv X pins σ H s->RelV x u->RelV y v->rd x y H Q->wpAny (model X.prog X.w) X.A (inplaceOp op u v) (EP X pins σ Q) X.xe s
def jY(K:PySem.W.Frag)(ta tv:TE)(rd:V->V->Hp->VK->Prop)(f:Str):TS:=fun D σ H=>ta σ H fun x H1=>∃a C dx fs v,x=.ref a/\H1 a=some (.ins C dx fs)/\Cls K C/\NoAttr K C f/\fs.lookup f=some v /\
 tv σ H1 fun y H2=>rd v y H2 fun z H3=>∃dx' fs',H3 a=some (.ins C dx' fs')/\fs'.length<1000/\D.nx σ (upd H3 a (.ins C dx' (bp f z fs')))
section
variable{X:Cx}{o e value:Expr}{f:Str}{pos pos' tpos:Pos}{ta tv:TE}
theorem qQ(he:PE X e ta)(hb:attributeBase e f X.env (eval e X.env)=eval e X.env):PE X (.Attribute e f pos) (rF X.K ta f):=by intro pins s σ H Q I h;refine oW hb (thn (he pins s σ H _ I h) fun u s1 hz9=>?_);obtain⟨x,H1,I1,rx,a,C,dx,fs,v,ex,ea,c,n,l,q⟩:=hz9;subst ex;obtain rfl:u=Value.ref a:=rx;exact fP I1 ea c n l fun u' s2 I2 ru=>⟨v,H1,I2,ru,q⟩
theorem rb(ha:PE X o ta)(hv:PE X value tv)(hs:swapsWith value (some (.Attribute o f pos')) pos.line X.env=pure false):PS X (.Assign [.Attribute o f pos'] value pos) (rA X.K ta tv f):=by intro pins s σ H D I h;refine plainObj_wpAny_Assign_Attribute (thn (hv pins s σ H _ I h) fun u s1 ⟨y,H1,I1,ry,q⟩=>thn (ha pins s1 σ H1 _ I1 q) fun ov s2 hz9=>?_) hs;obtain⟨x,H2,I2,rx,a,C,dx,fs,ex,ea,c,n,l,q2⟩:=hz9;subst ex;obtain rfl:ov=Value.ref a:=rx;exact gg I2 ea c n l ry fun s3 I3=>⟨σ,_,I3,q2⟩
theorem mj{op:Operator}{rd:V->V->Hp->VK->Prop}(ha:PE X o ta)(hv:PE X value tv)(hop:mH X op rd):PS X (.AugAssign (.Attribute o f tpos) op value pos) (jY X.K ta tv rd f):=by intro pins s σ H D I h;refine wpAny_AugAssign_AttributeAny (thn (ha pins s σ H _ I h) fun ov s1 hz9=>?_);obtain⟨x,H1,I1,rx,a,C,dx,fs,v,ex,ea,c,n,l,q⟩:=hz9;subst ex;obtain rfl:ov=Value.ref a:=rx;refine fP I1 ea c n l fun u s2 I2 ru=>thn (hv pins s2 σ H1 _ I2 q) fun w3 s3 ⟨y,H2,I3,ry,q3⟩=>thn (hop pins s3 σ H2 v y u w3 _ I3 ru ry q3) fun w4 s4 hz9=>?_;obtain⟨z,H3,I4,rz,dx',fs',ea',l',q4⟩:=hz9;exact gg I4 ea' c n l' rz fun s5 I5=>⟨σ,_,I5,q4⟩
def tz:V->V->Hp->VK->Prop:=fun x y H Q=>∃i j,x=.int i/\y=.int j/\Q (.int (i+j)) H
theorem qy:mH X .Add tz:=by
 rintro pins s σ H x y u v Q I rx ry ⟨i,j,rfl,rfl,q⟩;obtain⟨t,rfl⟩:=(show∃t,u=Value.int i t from rx)
 obtain⟨t',rfl⟩:=(show∃t',v=Value.int j t' from ry)
 exact PyProof.Rows.iadd_int ⟨.int (i+j),H,I.tok _,⟨_,rfl⟩,q⟩
end
section
variable{X:Cx}{pins:List (Addr×Obj)}{σ:St}{H:Hp}{s:Shared}{A:Around}{E:Value->Shared->Prop}{Q:Value->Shared->Prop}{c:Value}{b:Bool}
inductive TyOf(K:PySem.W.Frag)(H:Hp):V->Value->Prop where
 |non:TyOf K H .non (.type "NoneType")
 |bl (x:Bool):TyOf K H (.bl x) (.type "bool")
 |int (i:Int):TyOf K H (.int i) (.type "int")
 |str (x:Str):TyOf K H (.str x) (.type "str")
 |flt (x:UInt64):TyOf K H (.flt x) (.type "float")
 |lst {a:Addr} {xs:List V} (e:H a=some (.lst xs)):TyOf K H (.ref a) (.type "list")
 |frz {a:Addr} {o:Obj} {xs:List V} (e:H a=some (.frz o (.lst xs))):TyOf K H (.ref a) (.type "list")
 |tup {a:Addr} {xs:List V} (e:H a=some (.tup xs)):TyOf K H (.ref a) (.type "tuple")
 |dK {a:Addr} {kvs:List (Key×V)} (e:H a=some (.dK kvs)):TyOf K H (.ref a) (.type "dict")
 |dT {a:Addr} {kvs:List (List Key×V)} (e:H a=some (.dT kvs)):TyOf K H (.ref a) (.type "dict")
 |ins {a C dx:Addr} {fs:List (Str×V)} (e:H a=some (.ins C dx fs)) (cl:Cls K C) (ha:PySem.W.findIn K (.ref C) "__class__" = some (some (.builtin "object.__class__")))
   (hn:PySem.W.specialIn K (.builtin "object.__class__") "__get__" = some (some (.builtin "getset_descriptor.__get__"))) (htk:PySem.W.takesIn K (.builtin "object.__class__")=some true)
   (hm:PySem.W.mroIn K C (.type "object")=some true):TyOf K H (.ref a) (.ref C)
theorem hX{x:V}{u t:Value}(I:Inv X pins σ H s)(rx:RelV x u)(ty:TyOf X.K H x t)(e:PySem.W.kitOne X.K t c=some b)(h:∀tk,Q (.bool b) { s with toks:=tk }) :
  wpAny (model X.prog X.w) A (call (.builtin "isinstance") [u,c]) Q E s:=by
 cases ty with
 |non=>cases(show u=Value.none from rx);exact zK PySem.W.kitx_none I.kIn True.intro e (fun z=>nomatch z) h
 |bl y=>cases(show u=Value.bool y from rx);exact zK PySem.W.kitx_bool I.kIn True.intro e (fun z=>nomatch z) h
 |int i=>obtain⟨t,q⟩:=(show∃t,u=Value.int i t from rx);cases q;exact zK PySem.W.kitx_int I.kIn True.intro e (fun z=>nomatch z) h
 |str y=>obtain⟨t,q⟩:=(show∃t,u=Value.str y t from rx);cases q;exact zK PySem.W.kitx_str I.kIn True.intro e (fun z=>nomatch z) h
 |flt y=>obtain⟨t,q⟩:=(show∃t,u=Value.float y t from rx);cases q;exact zK PySem.W.kitx_float I.kIn True.intro e (fun z=>nomatch z) h
 |@lst a xs ea =>
  cases(show u=Value.ref a from rx);obtain⟨_,_,n,_,h1⟩:=(show ObjOk X.prog X.w H s.heap a (.lst xs)from I.hok a _ ea)
  exact zK PySem.W.kitx_list I.kIn ⟨_,h1,rfl⟩ e (fun z=>nomatch z) h
 |@frz a ob xs ea =>
  cases(show u=Value.ref a from rx);obtain⟨_,_,_,n,_,h1⟩:=(show ObjOk X.prog X.w H s.heap a (.frz ob (.lst xs))from I.hok a _ ea)
  exact zK PySem.W.kitx_list I.kIn ⟨_,h1,rfl⟩ e (fun z=>nomatch z) h
 |@tup a xs ea =>
  cases(show u=Value.ref a from rx);obtain⟨_,_,_,p⟩:=(show ObjOk X.prog X.w H s.heap a (.tup xs)from I.hok a _ ea)
  obtain⟨o,h1,h2,_⟩:=p;exact zK PySem.W.kitx_tuple I.kIn ⟨o,h1,h2⟩ e (fun z=>nomatch z) h
 |@dK a kvs ea =>
  cases(show u=Value.ref a from rx);obtain⟨_,_,vs,_,p⟩:=(show ObjOk X.prog X.w H s.heap a (.dK kvs)from I.hok a _ ea)
  obtain⟨o,es,ep,h1,h2,_⟩:=p;exact zK PySem.W.kitx_dict I.kIn ⟨o,h1,h2.1⟩ e (fun z=>nomatch z) h
 |@dT a kvs ea =>
  cases(show u=Value.ref a from rx);obtain⟨_,_,xs,_,o,es,ep,h1,h2,_⟩:=(show ObjOk X.prog X.w H s.heap a (.dT kvs)from I.hok a _ ea)
  exact zK PySem.W.kitx_dict I.kIn ⟨o,h1,h2.1⟩ e (fun z=>nomatch z) h
 |@ins a C dx fs ea cl ha hn htk hm =>cases(show u=Value.ref a from rx);obtain⟨mA,O,_⟩:=eS I.hok ea;obtain⟨od,J,_⟩:=O.look;exact zK (PySem.W.kitx_own (cl.get _) cl.hd ha hn htk hm) I.kIn J e (fun z=>nomatch z) h
end
open PySem PySem.Spec PyProof.Rows
structure Room(k:Nat)(A:Around):Prop where
 hd:A.handled=none
 dp:A.depth+3*k+5<recursionLimit
 un:A.units+16*k+200<cLine
theorem Room.mono{j k:Nat}{A:Around}(r:Room k A)(h:j<=k):Room j A:=⟨r.hd,by have:=r.dp;omega,by have:=r.un;omega⟩
theorem Room.deeper{k:Nat}{A:Around}(r:Room (k+1) A)(env:Env):Room k (A.deeper env) :=
 ⟨r.hd,by have:=r.dp;show A.depth+1+3*k+5<_;omega,by have:=r.un;show A.units+3+16*k+200<_;omega⟩
theorem kE{A:Around}{C:Addr}{us:List Value}{kw:List (Str×Value)}:(A.under (.builtin "type.__call__" ⟨.ref C::us,kw⟩)).depth=A.depth+1:=by
 first|rfl|simp[Around.under,Code.weight,Code.isCreation,Code.isGuard,Code.isCaller,Code.frames,Code.isFrame,guardIds]
theorem kF{A:Around}{C:Addr}{us:List Value}{kw:List (Str×Value)}:(A.under (.builtin "type.__call__" ⟨.ref C::us,kw⟩)).units=A.units+1:=by
 first|rfl|simp[Around.under,Code.cUnits,Code.frames,Code.isFrame]
theorem Room.make{k:Nat}{A:Around}(r:Room (k+1) A)(C:Addr)(us:List Value)(kw:List (Str×Value)):Room k (A.under (.builtin "type.__call__" ⟨.ref C::us,kw⟩)) :=
 ⟨r.hd,by have:=r.dp;rw[kE];omega,by have:=r.un;rw[kF];omega⟩
theorem Room.depth{k:Nat}{A:Around}(r:Room k A):A.depth<recursionLimit:=by have:=r.dp;omega
theorem Room.units{k:Nat}{A:Around}(r:Room k A):A.units+64<cLine:=by have:=r.un;omega
def cW:TA:=fun _ H Q=>Q [] H
def cw(ta:TE)(tr:TA):TA:=fun σ H Q=>ta σ H fun x H1=>tr σ H1 fun xs H2=>Q (x::xs) H2
section
variable{X:Cx}{e:Expr}{es:List Expr}{te:TE}{t:TA}{pos:Pos}
theorem dq:PA X [] cW:=fun _ _ _ _ H Q I h=>Calls.spliced_nil ⟨[],H,I,.nil,h⟩
theorem eV(ha:PE X e te)(hr:PA X es t)(hs:starEach (e::es) X.env=(false,eval e X.env)::starEach es X.env:=by rfl):PA X (e::es) (cw te t):=by intro pos pins s σ H Q I h;rw[hs];show wpAny _ _ (spliced ((false,eval e X.env)::backTo pos (starEach es X.env))) _ _ s;refine Calls.spliced_cons (thn (ha pins s σ H _ I h) fun u s1 hz9=>?_);obtain⟨x,H1,I1,r1,q1⟩:=hz9;exact thn (hr pos pins s1 σ H1 _ I1 q1) fun us s2 ⟨xs,H2,I2,r2,q2⟩=>⟨x::xs,H2,I2,.cons r1 r2,q2⟩
def rM(t:TA):TE:=fun σ H Q=>t σ H fun xs H1=>xs.length<=sizeLine/\∀p,H1 p=none->Q (.ref p) (upd H1 p (.tup xs))
def rJ(t:TA):TE:=fun σ H Q=>t σ H fun xs H1=>xs.length<=sizeLine/\∀p,H1 p=none->Q (.ref p) (upd H1 p (.lst xs))
theorem qW{x1}(h:PA X es t):PE X (.Tuple es x1 pos) (rM t):=by intro pins s σ H Q I hq;refine wpAny_Tuple_spliced (thn (h pos pins s σ H _ I hq) fun us s1 ⟨xs,H1,I1,r,z,q⟩=>⟨by rw[<-r.length];exact z,?_⟩);have hf:H1 s1.heap.objs.size=none:=I1.hok.fresh (za _);refine⟨.ref s1.heap.objs.size,upd H1 s1.heap.objs.size (.tup xs),I1.laid (t':=s1.toks) (fun b u e=>zi _ e) (za _) ?_,rfl,q _ hf⟩;exact⟨z,us,r,⟨_,zz _ rfl,rfl,_,rfl⟩⟩
theorem qS(h:PA X es t):PE X (.List es pos) (rJ t):=by intro pins s σ H Q I hq;refine wpAny_List_spliced (thn (h pos pins s σ H _ I hq) fun us s1 ⟨xs,H1,I1,r,z,q⟩=>⟨by rw[<-r.length];exact z,?_⟩);have hf:H1 s1.heap.objs.size=none:=I1.hok.fresh (za _);refine⟨.ref s1.heap.objs.size,upd H1 s1.heap.objs.size (.lst xs),I1.laid (t':=s1.toks) (fun b u e=>zi _ e) (za _) ?_,rfl,q _ hf⟩;exact⟨z,us,0,r,zz _ rfl⟩
end
abbrev Sp:=List V->Hp->VK->XK->Prop
abbrev CXT:=List Env->Hp->Shared->XK->Value->Shared->Prop
structure Env0(P:Program)(w:World)(K:PySem.W.Frag)(mg:Str->Option Value)(base:Heap)(A:Around)(outer:List Env)(s:Shared)(H:Hp):Prop where
 frames:A.frames=some outer
 mod:Mod K mg base
 bs:∀b o,base.get? b=some o->s.heap.get? b=some o/\H b=none
 bsz:base.objs.size<=s.heap.objs.size
 funs:s.heap.FunFrames base outer
 frf:∀b∈frs outer,H b=none
 hok:HOk P w H s.heap
 bare:AllBare s.gens
def CE(outer:List Env)(P:Program)(w:World)(H:Hp)(s:Shared)(Q:VK)(u:Value)(s':Shared):Prop :=
 ∃v H',s'.os=s.os/\AllBare s'.gens/\Un (frs outer) [] H H' s.heap s'.heap/\HOk P w H' s'.heap/\RelV v u/\Q v H'
def CR(CX:CXT)(outer:List Env)(P:Program)(w:World)(H:Hp)(s:Shared)(Q:VK)(E:XK)(r:Result)(s':Shared):Prop :=
 match r with
 |.ok (.ret u)=>CE outer P w H s Q u s'
 |.ok _=>False
 |.error e=>CX outer H s E e s'
structure FnOk(P:Program)(w:World)(K:PySem.W.Frag)(mg:Str->Option Value)(base:Heap)(CX:CXT)(k:Nat)(f:Addr)(fd:FuncData)(ps:List Str)(sp:Sp):Prop where
 len:∀vs H Q E,sp vs H Q E->vs.length=ps.length
 run:∀(A:Around) (outer:List Env) (s:Shared) (H:Hp) (args:Args) (us:List Value) (vs:List V) (Q:VK) (E:XK),Room k A->Env0 P w K mg base A outer s H->BindsTo s fd args (ps.zip us)->Vals vs us->sp vs H Q E ->
  codeAny (model P w) A (.call (.ref f) args) (CR CX outer P w H s Q E) s
theorem Env0.make{P:Program}{w:World}{K:PySem.W.Frag}{mg:Str->Option Value}{base:Heap}{A:Around}{outer:List Env}{s:Shared}{H:Hp}(e:Env0 P w K mg base A outer s H)(C:Addr)(us:List Value)(kw:List (Str×Value)) :
  Env0 P w K mg base (A.under (.builtin "type.__call__" ⟨.ref C::us,kw⟩)) outer s H:=⟨by first|exact e.frames|(simpa[Around.under,Code.envs,Code.isFrame,pushEnvs]using e.frames),e.mod,e.bs,e.bsz,e.funs,e.frf,e.hok,e.bare⟩
section
variable{X:Cx}{pins:List (Addr×Obj)}{σ:St}{H:Hp}{s s':Shared}
theorem Inv.env0(I:Inv X pins σ H s):Env0 X.prog X.w X.K X.mg X.base X.A X.stack s H :=
 ⟨I.ok.frames,I.ok.mod,I.bs,zh I.ok.bsz I.sz,I.stack,I.stkFree,I.hok,I.bare⟩
theorem Inv.after{Q:VK}{u:Value}(I:Inv X pins σ H s)(h:CE X.stack X.prog X.w H s Q u s'):EP X pins σ Q u s':=by obtain⟨v,H',os,bare,un,hok,r,q⟩:=h;obtain⟨hh,g,d,t,os'⟩:=s';obtain rfl:os'=s.os:=os;exact⟨v,H',I.call (h':=hh) (g':=g) (d':=d) (t':=t) (ch:=[]) un hok bare (fun b z=>absurd z (by simp)),r,q⟩
end
def iJ(sp:Sp)(dvs:List V)(E:XK)(t:TA):TE:=fun σ H Q=>t σ H fun vs H1=>sp (vs++dvs) H1 Q E
inductive IsM(C:Addr)(m:Str)(x:V)(H:Hp)(R:Prop):Prop
 |mk (a dx:Addr) (fs:List (Str×V)) (h0:x=.ref a) (h1:H a=some (.ins C dx fs)) (h2:fs.lookup m=none) (q:R):IsM C m x H R
def iL(C:Addr)(m:Str)(sp:Sp)(dvs:List V)(E:XK)(ta:TE)(t:TA):TE:=fun σ H Q=>ta σ H fun x H1=>IsM C m x H1 (t σ H1 fun vs H2=>sp (x::(vs++dvs)) H2 Q E)
def oO(C:Addr)(sp:Sp)(dvs:List V)(E:XK)(t:TA):TE:=fun σ H Q=>t σ H fun vs H1=>∀x dx,H1 x=none->H1 dx=none->dx≠x ->
 sp (.ref x::(vs++dvs)) (upd (upd H1 dx (.own x)) x (.ins C dx [])) (fun v H2=>v=.non/\Q (.ref x) H2) E
def Binds(K:PySem.W.Frag)(fd:FuncData)(ps:List Str)(ds:List Value):Prop :=
 ∀(s:Shared) (us:List Value),K.In s.heap->(us++ds).length=ps.length->BindsTo s fd ⟨us,[]⟩ (ps.zip (us++ds))
theorem Binds.all{K:PySem.W.Frag}{fd:FuncData}{ps:List Str}(h:∀us:List Value,us.length=ps.length->bindArgs fd ⟨us,[]⟩=pure (ps.zip us)):Binds K fd ps []:=fun s us _ hl=>by rw[List.append_nil]at hl ⊢;exact .of_eq (h us hl)
def cO(CX:CXT)(X:Cx)(E:XK):Prop:=∀(pins:List (Addr×Obj)) (σ:St) (H:Hp) (s:Shared) (e:Value) (s':Shared),Inv X pins σ H s->CX X.stack H s E e s'->X.xe e s'
section
variable{X:Cx}{CX:CXT}{k:Nat}{f C:Addr}{fd:FuncData}{ps:List Str}{sp:Sp}{dvs:List V}{ds:List Value}{E:XK}{x m:Str}{p pos apos:Pos}{e o:Expr}{es:List Expr}{ta:TE}{t:TA}
theorem jp{pins:List (Addr×Obj)}{σ:St}{H:Hp}{s:Shared}{Q:VK}{us:List Value}{vs:List V}(F:FnOk X.prog X.w X.K X.mg X.base CX k f fd ps sp)(hr:Room k X.A)(hb:Binds X.K fd ps ds)(hd:Vals dvs ds)(hx:cO CX X E)(I:Inv X pins σ H s)(r:Vals vs us)(h:sp (vs++dvs) H Q E):wpAny (model X.prog X.w) X.A (call (.ref f) us) (EP X pins σ Q) X.xe s:=by
 have r2:Vals (vs++dvs) (us++ds):=r.append hd;have hl:(us++ds).length=ps.length:=by rw[<-r2.length];exact F.len _ _ _ _ h
 refine wpAny_call (codeAny_mono (F.run X.A X.stack s H ⟨us,[]⟩ (us++ds) (vs++dvs) Q E hr I.env0 (hb s us I.kIn hl) r2 h) fun r s' hq=>?_);cases r with
 |error e=>exact hx pins σ H s e s' I hq
 |ok fl =>
  cases fl with
  |ret u=>exact I.after hq
  |next=>exact False.elim hq
  |brk=>exact False.elim hq
  |cont=>exact False.elim hq
theorem pE(F:FnOk X.prog X.w X.K X.mg X.base CX k f fd ps sp)(hr:Room k X.A)(hg:Gl X x)(hm:X.mg x=some (.ref f))(hk:PySem.W.keepIn X.K (.ref f)=true)(hb:Binds X.K fd ps ds)(hd:Vals dvs ds)(hx:cO CX X E)(ha:PA X (e::es) t)(hdb:(x==("__debug__":Str))=false:=by decide)(he:starEach (e::es) X.env=(false,eval e X.env)::starEach es X.env:=by rfl)(hpl:(backTo pos (starEach es X.env)).any (·.1)=false:=by rfl) :
  PE X (.Call (.Name x p) (e::es) [] pos) (iJ sp dvs E t):=by
 intro pins s σ H Q I h;refine wpAny_Call_Name_kw (gF I hg hm ?_ hdb);refine PySem.W.callWith_K (h₀:=X.base) I.ok.mod.kin hk (thn (ha pos pins s σ H _ I h) fun us s1 ⟨vs,H1,I1,r,q⟩=>⟨I1.kIn,?_⟩) he hpl;exact jp F hr hb hd hx I1 r q
theorem pI{pl:Sem Bool}(he:PE X o ta)(c:Cls X.K C)(hm:Meth X.K C m f)(F:FnOk X.prog X.w X.K X.mg X.base CX k f fd ps sp)(hr:Room k X.A)(hb:Binds X.K fd ps ds)(hd:Vals dvs ds)(hx:cO CX X E)(ha:PA X (e::es) t)(hst:starEach (e::es) X.env=(false,eval e X.env)::starEach es X.env:=by rfl)(hpl:(backTo pos (starEach es X.env)).any (·.1)=false:=by rfl)(ht:eval (.Call (.Attribute o m apos) (e::es) [] pos) X.env=(do
   let ov ←eval o X.env
   standAt apos.atName
   let(f,first) ←holding [ov] (getMethod ov m pl)
   callWith pos f first (backTo pos (starEach (e::es) X.env)) (backToKw pos (keywordEach [] X.env))):=by rfl) :
  PE X (.Call (.Attribute o m apos) (e::es) [] pos) (iL C m sp dvs E ta t):=by
 intro pins s σ H Q I h;refine PySem.W.methodCall_KW (pl:=pl) (thn (he pins s σ H _ I h) fun u s1 hz9=>?_) ht;obtain⟨x,H1,I1,rx,a,dx,fs,ex,ea,l,q⟩:=hz9;subst ex;obtain rfl:u=Value.ref a:=rx;refine fQ I1 ea c hm l ?_;refine PySem.W.callWith_K (first:=[.ref a]) (h₀:=X.base) I.ok.mod.kin hm.kp (thn (ha pos pins s1 σ H1 _ I1 q) fun us s2 ⟨vs,H2,I2,r,q2⟩=>⟨I2.kIn,?_⟩) hst hpl;exact jp (us:=.ref a::us) (vs:=.ref a::vs) F hr hb hd hx I2 (.cons rfl r) q2
theorem nJ{pl:Sem Bool}(he:PE X o ta)(c:Cls X.K C)(hm:Meth X.K C m f)(F:FnOk X.prog X.w X.K X.mg X.base CX k f fd ps sp)(hr:Room k X.A)(hb:Binds X.K fd ps ds)(hd:Vals dvs ds)(hx:cO CX X E)(ht:eval (.Call (.Attribute o m apos) [] [] pos) X.env=(do
   let ov ←eval o X.env
   standAt apos.atName
   let(f,first) ←holding [ov] (getMethod ov m pl)
   callWith pos f first (backTo pos (starEach [] X.env)) (backToKw pos (keywordEach [] X.env))):=by rfl) :
  PE X (.Call (.Attribute o m apos) [] [] pos) (iL C m sp dvs E ta cW):=by
 intro pins s σ H Q I h;refine PySem.W.methodCall_KW (pl:=pl) (thn (he pins s σ H _ I h) fun u s1 hz9=>?_) ht;obtain⟨x,H1,I1,rx,a,dx,fs,ex,ea,l,q⟩:=hz9;subst ex;obtain rfl:u=Value.ref a:=rx;refine fQ I1 ea c hm l ?_;exact PySem.W.callWith_K0 (first:=[.ref a]) I1.kIn hm.kp (jp (us:=[.ref a]) (vs:=[.ref a]) F hr hb hd hx I1 (.cons rfl .nil) q)
structure Mk(K:PySem.W.Frag)(C f:Addr):Prop where
 makes:PySem.W.makesIn K C=true
 init:PySem.W.findIn K (.ref C) "__init__" = some (some (.ref f))
 fn:PySem.W.isFn K (.ref f)=true
 kp:PySem.W.keepIn K (.ref C)=true
theorem nZ{pins:List (Addr×Obj)}{σ:St}{H:Hp}{s:Shared}{Q:VK}{us:List Value}{vs:List V}(M:Mk X.K C f)(F:FnOk X.prog X.w X.K X.mg X.base CX k f fd ps sp)(hr:Room (k+1) X.A)(hb:Binds X.K fd ps ds)(hd:Vals dvs ds)(hx:cO CX X E)(I:Inv X pins σ H s)(r:Vals vs us)(h:∀x dx,H x=none->H dx=none->dx≠x->sp (.ref x::(vs++dvs)) (upd (upd H dx (.own x)) x (.ins C dx [])) (fun v H2=>v=.non/\Q (.ref x) H2) E) :
  wpAny (model X.prog X.w) X.A (call (.ref C) us) (EP X pins σ Q) X.xe s:=by
 have hq:=h (s.heap.objs.size+1) s.heap.objs.size (I.hok.fresh (Nat.le_succ _)) (I.hok.fresh (za _)) (zC (Nat.lt_succ_self _));have I2:=Inv.made (C:=C) I;have r2:Vals (V.ref (s.heap.objs.size+1)::(vs++dvs)) (Value.ref (s.heap.objs.size+1)::(us++ds)):=.cons rfl (r.append hd);have hl:(Value.ref (s.heap.objs.size+1)::us++ds).length=ps.length:=by have e:=r2.length;rw[F.len _ _ _ _ hq]at e;exact e.symm
 refine wpAny_call (ny (f:=f) I.kIn M.makes M.init (zT.mp M.fn) (codeAny_mono (F.run _ X.stack _ _ ⟨Value.ref (s.heap.objs.size+1)::us,[]⟩ (Value.ref (s.heap.objs.size+1)::(us++ds)) _ _ E (hr.make C us [])
  (I2.env0.make C us []) (hb _ (Value.ref (s.heap.objs.size+1)::us) I2.kIn hl) r2 hq) fun r s' hq'=>?_))
 cases r with
 |error e=>exact hx pins σ _ _ e s' I2 hq'
 |ok fl =>
  cases fl with
  |ret u =>obtain⟨v,H',I3,rv,ev,q3⟩:=I2.after hq';subst ev;exact⟨rv,⟨V.ref (s.heap.objs.size+1),H',I3,rfl,q3⟩⟩
  |next=>exact False.elim hq'
  |brk=>exact False.elim hq'
  |cont=>exact False.elim hq'
theorem pH(M:Mk X.K C f)(F:FnOk X.prog X.w X.K X.mg X.base CX k f fd ps sp)(hr:Room (k+1) X.A)(hg:Gl X x)(hm:X.mg x=some (.ref C))(hb:Binds X.K fd ps ds)(hd:Vals dvs ds)(hx:cO CX X E)(ha:PA X (e::es) t)(hdb:(x==("__debug__":Str))=false:=by decide)(he:starEach (e::es) X.env=(false,eval e X.env)::starEach es X.env:=by rfl)(hpl:(backTo pos (starEach es X.env)).any (·.1)=false:=by rfl) :
  PE X (.Call (.Name x p) (e::es) [] pos) (oO C sp dvs E t):=by
 intro pins s σ H Q I h;refine wpAny_Call_Name_kw (gF I hg hm ?_ hdb);refine PySem.W.callWith_K (h₀:=X.base) I.ok.mod.kin M.kp (thn (ha pos pins s σ H _ I h) fun us s1 ⟨vs,H1,I1,r,q⟩=>⟨I1.kIn,?_⟩) he hpl;exact nZ M F hr hb hd hx I1 r q
end
section
variable{X:Cx}{CX:CXT}{k:Nat}{f C:Addr}{fd:FuncData}{ps ks:List Str}{sp:Sp}{E:XK}{x m:Str}{p pos apos kpos:Pos}{e o:Expr}{es:List Expr}{kws:List Keyword}{te ta:TE}{t tk:TA}{nm:Option Str}
structure KBinds(K:PySem.W.Frag)(fd:FuncData)(ps ks:List Str)(g:List Value->List Value->List Value)(gV:List V->List V->List V):Prop where
 to:∀(s:Shared) (us ws:List Value),K.In s.heap->(g us ws).length=ps.length->BindsTo s fd ⟨us,ks.zip ws⟩ (ps.zip (g us ws))
 rel:∀{vs:List V} {us:List Value} {zs:List V} {ws:List Value},Vals vs us->Vals zs ws->Vals (gV vs zs) (g us ws)
variable{g:List Value->List Value->List Value}{gV:List V->List V->List V}
end
structure FnScope(N P:List Str)(sc:Scope):Prop where
 kind:sc.kind=.function
 co:sc.isCoroutine=false
 gen:sc.isGenerator=false
 nd:N.Nodup
 pre:N.take P.length=P
 par:∀x∈P,sc.names.lookup x=some .local\/sc.names.lookup x=some .cell
 nofree:∀y∈sc.names,y.2≠.free
theorem hJ{kindOf:Str->Option NameKind}{x:Str}:∀{binds:List (Str×Value)} {m:Str->Option Value},(∀v,(x,v)∉binds)->bindL kindOf binds m x=m x
 | [],_,_=>rfl
 |(n,v)::r,m,h=>by
  unfold bindL;rw[hJ fun w hw=>h w (zl _ hw)];split
  ·have:x≠n:=by rintro rfl;exact h v zq
   simp[this]
  ·rfl
theorem gZ{kindOf:Str->Option NameKind}{x:Str}:∀{binds:List (Str×Value)} {m:Str->Option Value},(∀v,(x,v)∉binds)->bindC kindOf binds m x=m x
 | [],_,_=>rfl
 |(n,v)::r,m,h=>by
  unfold bindC;rw[gZ fun w hw=>h w (zl _ hw)];split
  ·rfl
  ·have:x≠n:=by rintro rfl;exact h v zq
   simp[this]
theorem hG{kindOf:Str->Option NameKind}{x:Str}{v:Value}:∀{P:List Str} {vs:List Value} {i:Nat} {m:Str->Option Value},P.Nodup->P[i]?=some x->vs[i]?=some v->kindOf x=some .local ->
  bindL kindOf (P.zip vs) m x=some v
 | [],_,_,_,_,h,_,_=>by simp at h
 |_::_,[],_,_,_,_,h,_=>by simp at h
 |p::P,w::vs,0,m,nd,h1,h2,hk=>by simp at h1 h2;subst h1;subst h2;show bindL kindOf ((p,w)::P.zip vs) m p=_;unfold bindL;rw[hJ fun v hv=>(List.nodup_cons.mp nd).1 (List.of_mem_zip hv).1,o7 hk];simp
 |p::P,w::vs,i+1,m,nd,h1,h2,hk=>by show bindL kindOf ((p,w)::P.zip vs) m x=_;unfold bindL;exact hG (i:=i) (List.nodup_cons.mp nd).2 (by simpa using h1) (by simpa using h2) hk
theorem gY{kindOf:Str->Option NameKind}{x:Str}{v:Value}:∀{P:List Str} {vs:List Value} {i:Nat} {m:Str->Option Value},P.Nodup->P[i]?=some x->vs[i]?=some v->kindOf x≠some .local ->
  bindC kindOf (P.zip vs) m x=some v
 | [],_,_,_,_,h,_,_=>by simp at h
 |_::_,[],_,_,_,_,h,_=>by simp at h
 |p::P,w::vs,0,m,nd,h1,h2,hk=>by simp at h1 h2;subst h1;subst h2;show bindC kindOf ((p,w)::P.zip vs) m p=_;unfold bindC;rw[gZ fun v hv=>(List.nodup_cons.mp nd).1 (List.of_mem_zip hv).1,o6 hk];simp
 |p::P,w::vs,i+1,m,nd,h1,h2,hk=>by show bindC kindOf ((p,w)::P.zip vs) m x=_;unfold bindC;exact gY (i:=i) (List.nodup_cons.mp nd).2 (by simpa using h1) (by simpa using h2) hk
def bW(N:List Str)(vs:List V):St:=vs.map some++List.replicate (N.length-vs.length) none
def dz(CX:CXT)(P:Program)(w:World)(K:PySem.W.Frag)(mg:Str->Option Value)(base:Heap)(N:List Str)(qual:Str)(scope:Scope)(f:Addr)(cd:Value)(A:Around)(outer:List Env)(s:Shared)(H:Hp)(E:XK):Cx where
 prog:=P
 w:=w
 K:=K
 mg:=mg
 base:=base
 A:=A.deeper (envOfC qual scope s.heap.objs.size f cd)
 N:=N
 s₀:=s
 H₀:=H
 env:=envOfC qual scope s.heap.objs.size f cd
 outer:=outer
 stack:=envOfC qual scope s.heap.objs.size f cd::outer
 ex:=[]
 calm:=true
 fn:=fun _=>true
 pn:=[]
 xe:=fun e s'=>wpAny (model P w) (A.deeper (envOfC qual scope s.heap.objs.size f cd)) (leaving (envOfC qual scope s.heap.objs.size f cd) e) (fun _ s''=>CX outer H s E e s'') (fun e' s''=>CX outer H s E e' s'') s'
theorem iX{sc:Scope}{n:Nat}{x:Str}(h:sc.names.lookup x=some .cell):∃c,(cellsFrom n sc.names []).lookup x=some c:=by have q:=PySem.W.cellsFrom_some sc.names n [] (.inl h);exact Option.isSome_iff_exists.mp q
theorem lN{CX:CXT}{P:Program}{w:World}{K:PySem.W.Frag}{mg:Str->Option Value}{base:Heap}{N ps:List Str}{qual:Str}{scope:Scope}{f:Addr}{cd:Value}{A:Around}{outer:List Env}{s s1:Shared}{H:Hp}{E:XK}{us:List Value}{vs:List V}(S:FnScope N ps scope)(hd:A.handled=none)(e0:Env0 P w K mg base A outer s H)(hl:vs.length=ps.length)(r:Vals vs us)(x:InCallC s s.heap.objs.size (bindL (envOfC qual scope s.heap.objs.size f cd).kindOf (ps.zip us) fun _=>none) (cellsFrom (s.heap.objs.size+1) scope.names []) (bindC (envOfC qual scope s.heap.objs.size f cd).kindOf (ps.zip us) fun _=>none) s1) :
  Inv (dz CX P w K mg base N qual scope f cd A outer s H E) [] (bW N vs) H s1:=by
 have hpl:ps.length<=N.length:=by have:=zJ List.length S.pre;rw[zV]at this;omega
 obtain⟨h1,tk,rfl,hk⟩:=x.done;have noA:∀b:Addr,b∉(dz CX P w K mg base N qual scope f cd A outer s H E).ex:=fun b z=>absurd (show b∈([]:List Addr)from z) (by simp);refine⟨⟨e0.mod,S.kind,rfl,rfl,za _,fun y z c h1 h2=>?_,fun y hy=>?_,fun y c _ h=>?_,fun _=>hd,Around.frames_deeper e0.frames,.inr ⟨rfl,rfl⟩,fun b z=>absurd z (noA b),e0.bs,e0.bsz,fun b _ _=>noA b,fun b z=>absurd z (noA b),e0.funs,e0.frf⟩,
  rfl,e0.bare,Un.kept hk,⟨_,x.toInCall.ns,fun i y v h1 h2 h3=>?_⟩,fun y c h=>⟨_,x.cell y c h⟩,e0.hok.fresh (za _),fun y c h=>?_,fun p hp=>absurd (show p∈([]:List (Addr×Obj)) from hp) (by simp),e0.hok.kept hk,?_⟩
 ·exact name_of_addr x.apart (zS h1) (zS h2)
 ·have hy:scope.names.lookup y=some .cell\/scope.names.lookup y=some .free:=hy;rcases hy with hy|hy
  ·exact iX hy
  ·exact absurd rfl (S.nofree _ (zS hy))
 ·exact Nat.le_of_lt (x.above y c (zS h))
 ·have hi:i<vs.length:=by
   unfold bW at h2;by_cases hi:i<vs.length
   ·exact hi
   ·rw[zG (by simpa using hi)]at h2;rw[List.getElem?_replicate]at h2;split at h2<;>cases h2
  have ha:vs[i]?=some v:=by
   unfold bW at h2;rw[List.getElem?_append_left (by simpa using hi),zP]at h2;cases e:vs[i]? with
   |none=>rw[e]at h2;cases h2
   |some a=>rw[e]at h2;cases h2;rfl
  obtain⟨u,hu,rv⟩:=r.get ha;have hp:ps[i]?=some y:=by rw[<-S.pre,List.getElem?_take_of_lt (by omega)];exact h1
  have ndP:ps.Nodup:=by rw[<-S.pre];exact S.nd.sublist (List.take_sublist _ _)
  refine⟨u,rv,?_⟩;rcases S.par y (zQ hp)with k|k
  ·exact .inl ⟨k,hG ndP hp hu k⟩
  ·obtain⟨c,e⟩:=iX (n:=s.heap.objs.size+1) k;refine .inr ⟨.inl k,c,e,?_⟩;have q:=x.cell y c e;rw[gY ndP hp hu (by show scope.names.lookup y≠_;rw[k];decide)]at q;exact q
 ·exact e0.hok.fresh (Nat.le_of_lt (x.above y c (zS h)))
 ·unfold bW;show _=N.length;rw[zc,zd,List.length_replicate];omega
theorem rW{CX:CXT}{P:Program}{w:World}{K:PySem.W.Frag}{mg:Str->Option Value}{base:Heap}{k:Nat}{f:Addr}{name qual:Str}{params:Arguments}{body:List Stmt}{scope:Scope}{dV kV doc pm cdv ct oc:Value}{an od:Option Addr}{osl:Array (Option Value)}{N ps:List Str}{sp:Sp}(lk:K.lookup f=some ⟨oc,od,.func (PySem.W.fnOf name qual params body scope dV kV doc pm an cdv ct),osl⟩)(hcd:PySem.W.codeIn K cdv qual=true)(S:FnScope N ps scope)(len:∀ vs H Q E,sp vs H Q E->vs.length=ps.length)(hbody:∀ (A:Around) (outer:List Env) (s:Shared) (H:Hp) (vs:List V) (Q:VK) (E:XK),Room k (A.deeper (envOfC qual scope s.heap.objs.size f cdv))->sp vs H Q E ->
   ∃ t,PSs (dz CX P w K mg base N qual scope f cdv A outer s H E) body t/\t { nx:=fun _ H'=>Q .non H',rt:=Q } (bW N vs) H) :
  FnOk P w K mg base CX (k+1) f (PySem.W.fnOf name qual params body scope dV kV doc pm an cdv ct) ps sp:=by
 refine⟨len,fun A outer s H args us vs Q E hr e0 hb r hsp=>?_⟩;have hl:=len _ _ _ _ hsp;have KX:K.In s.heap:=e0.mod.kin.keeps fun b o e=>(e0.bs b o e).1;have lim:s.heap.NoLimit:=e0.mod.nolimit.keeps fun b o e=>(e0.bs b o e).1;have hkind:∀y∈ps.zip us,scope.names.lookup y.1=some .local\/(scope.names.lookup y.1=some .cell/\((cellsFrom (s.heap.objs.size+1) scope.names []).lookup y.1).isSome=true):=fun⟨n,v⟩ hy=>by
  rcases S.par n (List.of_mem_zip hy).1 with q|q
  ·exact .inl q
  ·exact .inr ⟨q,PySem.W.cellsFrom_some _ _ _ (.inl q)⟩
 refine codeAny_call_function hr.depth (KX _ _ lk) rfl S.co S.gen rfl (PySem.W.codeRec_of KX hcd) (hb _ _ _ _ ?_);refine wpAny_newFunctionEnv_cells S.kind hkind fun env he s1 x=>?_;subst he;refine⟨lim.keeps x.toInCall.keep,codeAny_func ?_⟩;obtain⟨t,ht,hq⟩:=hbody A outer s H vs Q E (hr.deeper _) hsp;have I:Inv (dz CX P w K mg base N qual scope f cdv A outer s H E) [] (bW N vs) H s1:=lN S hr.hd e0 hl r x;refine wpAny_mono (ht [] s1 (bW N vs) H _ I hq) (fun fl s' hs=>?_) fun e s' hs=>hs;have fin:∀{σ':St} {H':Hp} {v:V} {u:Value},Inv (dz CX P w K mg base N qual scope f cdv A outer s H E) [] σ' H' s'->RelV v u->Q v H'->CE outer P w H s Q u s' :=
  fun{σ' H' v u} J rv q=>⟨v,H',J.os,J.bare,J.base,J.hok,rv,q⟩
 cases fl with
 |ret u =>obtain⟨v,σ',H',J,rv,q⟩:=hs;exact fin J rv q
 |next =>obtain⟨σ',H',J,q⟩:=hs;exact fin (v:=V.non) (u:=Value.none) J rfl q
 |brk =>obtain⟨_,_,_,q⟩:=hs;exact False.elim q
 |cont =>obtain⟨_,_,_,q⟩:=hs;exact False.elim q
open PySem PySem.Spec PyProof.Rows
section
variable{X:Cx}{x:Str}{p pos:Pos}{e:Expr}{es:List Expr}{t:TA}{id T:String}{r:List V->Hp->VK->Prop}
def tCB(r:List V->Hp->VK->Prop)(t:TA):TE:=fun σ H Q=>t σ H fun vs H1=>r vs H1 Q
theorem nG(hc:cu X (.builtin id) r)(hg:Gl X x)(hm:X.mg x=none)(hv:bootBuiltins x=some (.builtin id))(ha:PA X (e::es) t)(hn:x≠"__name__":=by decide)(hdb:(x==("__debug__":Str))=false:=by decide)(he:starEach (e::es) X.env=(false,eval e X.env)::starEach es X.env:=by rfl)(hpl:(backTo pos (starEach es X.env)).any (·.1)=false:=by rfl):PE X (.Call (.Name x p) (e::es) [] pos) (tCB r t):=by intro pins s σ H Q I h;refine wpAny_Call_Name_kw (fV I hg hm hv ?_ hn hdb);exact PyProof.Rows.callWith_builtin1 (thn (ha pos pins s σ H _ I h) fun us s1 ⟨vs,H1,I1,r1,q1⟩=>hc pins s1 σ H1 vs us Q I1 r1 q1) he hpl
theorem mf(hc:cu X (.type T) r)(hg:Gl X x)(hm:X.mg x=none)(hv:bootBuiltins x=some (.type T))(ha:PA X (e::es) t)(hn:x≠"__name__":=by decide)(hdb:(x==("__debug__":Str))=false:=by decide)(he:starEach (e::es) X.env=(false,eval e X.env)::starEach es X.env:=by rfl)(hpl:(backTo pos (starEach es X.env)).any (·.1)=false:=by rfl):PE X (.Call (.Name x p) (e::es) [] pos) (tCB r t):=by intro pins s σ H Q I h;refine wpAny_Call_Name_kw (fV I hg hm hv ?_ hn hdb);exact PyProof.Rows.callWith_type1 (thn (ha pos pins s σ H _ I h) fun us s1 ⟨vs,H1,I1,r1,q1⟩=>hc pins s1 σ H1 vs us Q I1 r1 q1) he hpl
end
end L2
namespace HT
open PySem PyProof.Rows
section
variable{prog:Program}{w:World}{A:Around}{E:Value->Shared->Prop}{s:Shared}
def sIx(n d:Nat):Option Int->Nat
 |none=>d
 |some v=>if v<0 then(v+(n:Int)).toNat else min v.toNat n
theorem sIx_none(n d:Nat):sIx n d none=d:=rfl
theorem sIx_nat(n d k:Nat):sIx n d (some (k:Int))=min k n:=by show(if(k:Int)<0 then((k:Int)+(n:Int)).toNat else min (k:Int).toNat n)=min k n;rw[o6 (by omega),Int.toNat_natCast]
end
end HT
namespace L2
open PySem PySem.Spec PyProof.Rows
abbrev TO:=St->Hp->(Option Int->Hp->Prop)->Prop
def PO(X:Cx)(e:Option Expr)(t:TO):Prop :=
 ∀(pins:List (Addr×Obj)) (s:Shared) (σ:St) (H:Hp) (Q:Option Int->Hp->Prop),Inv X pins σ H s->t σ H Q ->
  wpAny (model X.prog X.w) X.A (evalPart e X.env) (fun u s'=>∃o H',Inv X pins σ H' s'/\IsPart u o/\Q o H') X.xe s
def kh:TO:=fun _ H Q=>Q none H
inductive IsI(x:V)(R:Int->Prop):Prop
 |mk (i:Int) (h:x=.int i) (q:R i):IsI x R
def oQ(t:TE):TO:=fun σ H Q=>t σ H fun x H1=>IsI x fun i=>Q (some i) H1
theorem dE{ns:List Int}:∀{us:List Value},Vals (ns.map V.int) us->IntsAre us ns:=by
 induction ns with
 |nil=>intro us r;rw[List.map_nil]at r;cases r;exact .nil
 |cons n ns ih =>
  intro us r;rw[zv]at r;cases r with
  |cons r1 r2 =>obtain⟨t,e⟩:=r1;subst e;exact .cons n t (ih r2)
section
variable{X:Cx}{e:Expr}{te:TE}{lo hi:Option Expr}{tl th:TO}{pos p2:Pos}
theorem pM:PO X none kh:=by intro pins s σ H Q I h;rw[evalPart_none];exact zw ⟨none,H,I,.none,h⟩
theorem pN(h:PE X e te):PO X (some e) (oQ te):=by intro pins s σ H Q I hw;rw[evalPart_some];refine thn (h pins s σ H _ I hw) fun u s1 hz9=>?_;obtain⟨x,H1,I1,r1,q1⟩:=hz9;obtain⟨i,rfl,q⟩:=q1;obtain⟨t,rfl⟩:=r1;exact⟨some i,H1,I1,.int i t,q⟩
def SlR(X:Cx)(r:V->Option Int->Option Int->Hp->VK->Prop):Prop :=
 ∀(pins:List (Addr×Obj)) (s:Shared) (σ:St) (H:Hp) (x:V) (v vl vu:Value) (lo hi:Option Int) (sl:Addr) (Q:VK),Inv X pins σ H s->RelV x v->s.heap.IsSliceOf sl vl vu .none->IsPart vl lo->IsPart vu hi->r x lo hi H Q ->
  ∃T id,typeLookup (.type T) "__getitem__" = pure (some (.builtin id))/\s.TypeIs v T/\wpAny (model X.prog X.w) X.A (getItem v (.ref sl)) (EP X pins σ Q) X.xe s
def tSl(r:V->Option Int->Option Int->Hp->VK->Prop)(te:TE)(tl th:TO):TE:=fun σ H Q=>te σ H fun x H1=>tl σ H1 fun l H2=>th σ H2 fun u H3=>r x l u H3 Q
theorem nK{r:V->Option Int->Option Int->Hp->VK->Prop}(hr:SlR X r)(he:PE X e te)(hl:PO X lo tl)(hu:PO X hi th):PE X (.Subscript e (.Slice lo hi none p2) pos) (tSl r te tl th):=by intro pins s σ H Q I h;refine Subscript_ (thn (he pins s σ H _ I h) fun v s1 hz9=>?_);obtain⟨x,H1,I1,r1,q1⟩:=hz9;refine wpAny_Slice (thn (hl pins s1 σ H1 _ I1 q1) fun vl s2 ⟨l,H2,I2,pl,q2⟩=>thn (hu pins s2 σ H2 _ I2 q2) fun vu s3 hz9=>?_);obtain⟨u,H3,I3,pu,q3⟩:=hz9;rw[evalPart_none];refine zw ?_;have I4:Inv X pins σ H3 { s3 with heap:=s3.heap.push { cls:=.type "slice",data:=.fields #[vl,vu,.none] } }:=I3.kept (t':=s3.toks) fun b ob q=>zi _ q;obtain⟨T,id,hT,ht,hg⟩:=hr pins { s3 with heap:=s3.heap.push { cls:=.type "slice",data:=.fields #[vl,vu,.none] } } σ H3 x v vl vu l u s3.heap.objs.size Q I4 r1 (Heap.IsSliceOf.new ..) pl pu q3;show wpAny (model X.prog X.w) X.A (subscriptTail e (.Slice lo hi none p2) v (.ref s3.heap.objs.size)) (EP X pins σ Q) X.xe { s3 with heap:=s3.heap.push { cls:=.type "slice",data:=.fields #[vl,vu,.none] } };exact tail_any (ops:=[.ref s3.heap.objs.size,v]) ht hT hg (by with_unfolding_all rfl)
def bo(xs:List V)(lo hi:Option Int):List V:=(xs.drop (HT.sIx xs.length 0 lo)).take (HT.sIx xs.length xs.length hi-HT.sIx xs.length 0 lo)
theorem jG(xs:List V)(lo hi:Option Int):(bo xs lo hi).length<=xs.length:=by unfold bo;rw[zV,zW];omega
inductive rSlT(K:PySem.W.Frag)(x:V)(lo:Option Int)(hi:Option Int)(H:Hp)(Q:VK):Prop
 |mk (a xs:_) (h0:x=.ref a) (h1:SqT K H a xs) (h2:¬(HT.sIx xs.length 0 lo=0/\HT.sIx xs.length xs.length hi=xs.length)) (h3:∀p,H p=none->Q (.ref p) (upd H p (.tup (bo xs lo hi)))):rSlT K x lo hi H Q
end
open PySem PySem.Spec PyProof.Rows
def ixN(n:Nat)(i:Int):Option Nat:=if 0<=i then(if i<n then some i.toNat else none)else if -(n:Int)<=i then some (i+n).toNat else none
def atI{α:Type}(xs:List α)(i:Int):Option α:=(ixN xs.length i).bind fun j=>xs[j]?
theorem pe{n:Nat}{i:Int}{j:Nat}(h:ixN n i=some j):seqIndex? i n=some j/\j<n/\-(n:Int)<=i/\i<n:=by
 unfold ixN at h;by_cases h0:0<=i
 ·rw[o7 h0]at h;by_cases h1:i<n
  ·rw[o7 h1]at h;have e:i.toNat=j:=zD h;exact⟨by rw[seqIndex_of h0 h1,e],by omega,by omega,h1⟩
  ·rw[o6 h1]at h;cases h
 ·rw[o6 h0]at h;by_cases h1:-(n:Int)<=i
  ·rw[o7 h1]at h;have e:(i+n).toNat=j:=zD h;exact⟨by rw[seqIndex_neg (by omega) h1,e],by omega,h1,by omega⟩
  ·rw[o6 h1]at h;cases h
theorem jM{α:Type}{xs:List α}{i:Int}{v:α}(h:atI xs i=some v):∃j,seqIndex? i xs.length=some j/\xs[j]?=some v/\j<xs.length/\-(xs.length:Int)<=i/\i<xs.length:=by
 unfold atI at h;cases e:ixN xs.length i with
 |none=>rw[e]at h;cases h
 |some j =>rw[e]at h;obtain⟨h1,h2,h3,h4⟩:=pe e;exact⟨j,h1,h,h2,h3,h4⟩
theorem bY{α:Type}{xs:List α}{j:Nat}{v:α}(h:xs[j]?=some v):atI xs (j:Int)=some v:=by
 have hj:j<xs.length:=(zp.mp h).1;have e:ixN xs.length (j:Int)=some j:=by unfold ixN;rw[o7 (by omega),o7 (by omega)];simp
 unfold atI;rw[e];exact h
def jL(b:Expr):Prop:=∀o i,subscripted b false o i=operate [o,i] (getItem o i)
def IxR(X:Cx)(r:R2):Prop :=
 ∀(value slice:Expr) (pins:List (Addr×Obj)) (s:Shared) (σ:St) (H:Hp) (x y:V) (v u:Value) (Q:VK),Inv X pins σ H s->RelV x v->RelV y u->r x y H Q ->
  subscripted slice false v u=operate [v,u] (getItem v u)->wpAny (model X.prog X.w) X.A (subscriptTail value slice v u) (EP X pins σ Q) X.xe s
def MtR(X:Cx)(id:String)(r:V->List V->Hp->VK->Prop):Prop :=
 ∀(pins:List (Addr×Obj)) (s:Shared) (σ:St) (H:Hp) (x:V) (xs:List V) (v:Value) (us:List Value) (Q:VK),Inv X pins σ H s->RelV x v->Vals xs us->r x xs H Q ->
  wpAny (model X.prog X.w) X.A (call (.builtin id) (v::us)) (EP X pins σ Q) X.xe s
section
variable{X:Cx}{a b:Expr}{ta tb:TE}{pos:Pos}
theorem sH{r:R2}(hr:IxR X r)(ha:PE X a ta)(hb:PE X b tb)(hs:jL b):PE X (.Subscript a b pos) (tOp r ta tb):=by intro pins s σ H Q I h;exact Subscript_ (mL ha hb I h fun v u s2 x y H2 I2 rx ry q=>hr a b pins s2 σ H2 x y v u Q I2 rx ry q (hs _ _))
inductive rIxL(K:PySem.W.Frag)(x:V)(y:V)(H:Hp)(Q:VK):Prop
 |mk (p xs i v:_) (h0:x=.ref p) (h1:y=.int i) (h2:SqL K H p xs) (h3:atI xs i=some v) (h4:Q v H):rIxL K x y H Q
inductive rIxT(K:PySem.W.Frag)(x:V)(y:V)(H:Hp)(Q:VK):Prop
 |mk (p xs i v:_) (h0:x=.ref p) (h1:y=.int i) (h2:SqT K H p xs) (h3:atI xs i=some v) (h4:Q v H):rIxT K x y H Q
theorem pf:IxR X (rIxL X.K):=by
 intro value slice pins s σ H x y v u Q I rx ry h hs;obtain⟨p,xs,i,z,rfl,rfl,hq,he,q⟩:=h;cases rx;obtain⟨t,rfl⟩:=ry;obtain⟨its,r,pl,hz⟩:=I.list hq;obtain⟨j,h1,h2,h3,h4,h5⟩:=jM he;obtain⟨w,ew,rw'⟩:=r.get h2;have hl:=r.length;have hn:=jg;have fin:EP X pins σ Q w s:=⟨z,H,I,rw',q⟩
 by_cases h0:0<=i
 ·have hj:i.toNat=j:=by rw[seqIndex_of h0 h5]at h1;exact zD h1
  exact item_listR pl.isList h0 (by omega) (by rw[hj];simpa using ew) fin hs
 ·have hj:(i+(its.toArray.size:Int)).toNat=j:=by rw[seqIndex_neg (by omega) h4]at h1;rw[zm,<-hl];exact zD h1
  exact subscriptTail_builtinR (x:=w) pl.isList.typeIs slot_list_getitem.lookup
   (wpAny_getItem_list_neg (Q:=fun r s'=>r=w/\EP X pins σ Q r s') pl.isList (by omega) (by rw[zm]<;>omega) (by omega) (by rw[hj];simpa using ew) ⟨rfl,fin⟩) hs
theorem qA:IxR X (rIxT X.K):=by
 intro value slice pins s σ H x y v u Q I rx ry h hs;obtain⟨p,xs,i,z,rfl,rfl,hq,he,q⟩:=h;cases rx;obtain⟨t,rfl⟩:=ry;obtain⟨its,r,pl,hz⟩:=I.tuple hq;obtain⟨j,h1,h2,h3,h4,h5⟩:=jM he;obtain⟨w,ew,rw'⟩:=r.get h2;have hl:=r.length;have hn:=jg;have fin:EP X pins σ Q w s:=⟨z,H,I,rw',q⟩
 exact subscriptTail_builtinR (x:=w) pl.typeIs slot_tuple_getitem.lookup
  (getItem_tuple (j:=j) (Q:=fun r s'=>r=w/\EP X pins σ Q r s') pl (by omega) (by omega) (by rw[zm,<-hl];exact h1) (by simpa using ew) ⟨rfl,fin⟩) hs
theorem jx(lo hi:Option Int)(n:Nat):(sliceBounds lo hi none n).1=((HT.sIx n 0 lo:Nat):Int)/\(sliceBounds lo hi none n).2.1=((HT.sIx n n hi:Nat):Int)/\(sliceBounds lo hi none n).2.2=1:=by
 refine⟨?_,?_,rfl⟩
 ·cases lo with
  |none=>simp[sliceBounds,HT.sIx]
  |some i =>
   simp only[sliceBounds,HT.sIx,Option.getD_none,show(1:Int)>0 by decide,if_true];by_cases h:i<0
   ·simp only[h,if_true]<;>omega
   ·simp only[h,if_false]<;>omega
 ·cases hi with
  |none=>simp[sliceBounds,HT.sIx]
  |some i =>
   simp only[sliceBounds,HT.sIx,Option.getD_none,show(1:Int)>0 by decide,if_true];by_cases h:i<0
   ·simp only[h,if_true]<;>omega
   ·simp only[h,if_false]<;>omega
theorem iA(its:List Value)(lo hi:Option Int):slicePick its.toArray lo hi none=((its.drop (HT.sIx its.length 0 lo)).take (HT.sIx its.length its.length hi-HT.sIx its.length 0 lo)).toArray:=by obtain⟨h1,h2,h3⟩:=jx lo hi its.toArray.size;unfold slicePick;rw[h1,h2,h3];simp only[sliceRange_one,pick_run,zm]<;>rfl
inductive rSlL(K:PySem.W.Frag)(x:V)(lo:Option Int)(hi:Option Int)(H:Hp)(Q:VK):Prop
 |mk (a xs:_) (h0:x=.ref a) (h1:SqL K H a xs) (h2:∀p,H p=none->Q (.ref p) (upd H p (.lst (bo xs lo hi)))):rSlL K x lo hi H Q
theorem pZ:SlR X (rSlL X.K):=by intro pins s σ H x v vl vu lo hi sl Q I rx hs pl pu h;obtain⟨a,xs,rfl,hx,q⟩:=h;cases rx;obtain⟨its,r,ht,hz⟩:=I.list hx;have hlen:=r.length;refine⟨"list",_,slot_list_getitem.lookup,ht.isList.typeIs,?_⟩;refine wpAny_getItem_list_slice ht.isList hs pl pu .none (by simp) ?_ (by rw[zm]<;>omega);rw[iA,<-hlen];refine⟨.ref s.heap.objs.size,_,I.laid (t':=s.toks) (o:=.lst (bo xs lo hi)) (fun b ob q=>zi _ q) (za _) ?_,rfl,q _ (I.hok.fresh (za _))⟩;exact⟨zh (jG xs lo hi) hz,_,0,(r.drop (HT.sIx xs.length 0 lo)).take (HT.sIx xs.length xs.length hi-HT.sIx xs.length 0 lo),zz _ rfl⟩
def cZ:V->Bool
 |.non=>true
 |.bl _=>true
 |.int _=>true
 |.str _=>true
 |_=>false
def eqV:V->V->Bool
 |.non,.non=>true
 |.bl a,.bl b=>a==b
 |.bl a,.int b=>(if a then 1 else 0)==b
 |.int a,.bl b=>a==(if b then 1 else 0)
 |.int a,.int b=>a==b
 |.str a,.str b=>a==b
 |_,_=>false
theorem qt{A:Around}{s:Shared}{y x:V}{u v:Value}(ry:RelV y u)(rx:RelV x v)(fy:cZ y=true)(fx:cZ x=true):SeqAt.EqAt A s u v (eqV y x):=by
 cases y with
 |non =>
  cases ry;cases x with
  |non=>cases rx;exact SeqAt.EqAt.same _
  |bl b=>cases rx;exact SeqAt.EqAt.none_bool b
  |int b=>obtain⟨t,rfl⟩:=rx;exact SeqAt.EqAt.none_int b t
  |str b=>obtain⟨t,rfl⟩:=rx;exact SeqAt.EqAt.none_str b t
  |_=>exact absurd (show false=true from fx) zb
 |bl a =>
  cases ry;cases x with
  |non=>cases rx;exact SeqAt.EqAt.bool_none a
  |bl b=>cases rx;exact SeqAt.EqAt.bool_bool a b
  |int b=>obtain⟨t,rfl⟩:=rx;exact SeqAt.EqAt.bool_int a b t
  |str b=>obtain⟨t,rfl⟩:=rx;exact SeqAt.EqAt.bool_str a b t
  |_=>exact absurd (show false=true from fx) zb
 |int a =>
  obtain⟨t',rfl⟩:=ry;cases x with
  |non=>cases rx;exact SeqAt.EqAt.int_none a t'
  |bl b=>cases rx;exact SeqAt.EqAt.int_bool a t' b
  |int b=>obtain⟨t,rfl⟩:=rx;exact SeqAt.EqAt.int_int a t' b t
  |str b=>obtain⟨t,rfl⟩:=rx;exact SeqAt.EqAt.int_str a t' b t
  |_=>exact absurd (show false=true from fx) zb
 |str a =>
  obtain⟨t',rfl⟩:=ry;cases x with
  |non=>cases rx;exact SeqAt.EqAt.str_none a t'
  |bl b=>cases rx;exact SeqAt.EqAt.str_bool a t' b
  |int b=>obtain⟨t,rfl⟩:=rx;exact SeqAt.EqAt.str_int a t' b t
  |str b=>obtain⟨t,rfl⟩:=rx;exact SeqAt.EqAt.str_str a t' b t
  |_=>exact absurd (show false=true from fx) zb
 |_=>exact absurd (show false=true from fy) zb
def eqU(x:V)(u:Value):Bool:=match u with
 |.none=>eqV .non x
 |.bool b=>eqV (.bl b) x
 |.int i _=>eqV (.int i) x
 |.str z _=>eqV (.str z) x
 |_=>false
theorem lD{x y:V}{u:Value}(r:RelV y u)(f:cZ y=true):eqU x u=eqV y x:=by
 cases y with
 |non=>cases r;rfl
 |bl b=>cases r;rfl
 |int i=>obtain⟨t,rfl⟩:=r;rfl
 |str z=>obtain⟨t,rfl⟩:=r;rfl
 |_=>exact absurd (show false=true from f) zb
theorem gr{x:V}:∀{xs:List V} {us:List Value},Vals xs us->xs.all cZ=true->us.any (eqU x)=xs.any fun y=>eqV y x
 |_,_,.nil,_=>rfl
 |y::xs,u::us,.cons r t,f=>by rw[z3,zA]at f;rw[List.any_cons,List.any_cons,lD r f.1,gr t f.2]
theorem fD{A:Around}{s:Shared}{x:V}{v:Value}(rx:RelV x v)(fx:cZ x=true):∀{xs:List V} {us:List Value},Vals xs us->xs.all cZ=true->∀u∈us,SeqAt.EqAt A s u v (eqU x u)
 |_,_,.nil,_=>fun u hu=>by cases hu
 |y::xs,u::us,.cons r t,f=>fun u' hu=>by
  rw[z3,zA]at f;rcases zo.mp hu with rfl|hu
  ·rw[lD r f.1];exact qt r rx f.1 fx
  ·exact fD rx fx t f.2 u' hu
def inV(x:V)(xs:List V):Bool:=xs.any fun y=>eqV y x
def rIn(K:PySem.W.Frag)(neg:Bool):R2:=fun x y H Q=>∃p xs,y=.ref p/\(SqL K H p xs\/SqT K H p xs)/\cZ x=true/\xs.all cZ=true/\Q (.bl (if neg then !inV x xs else inV x xs)) H
theorem md:OpR X (compareOp .In) (rIn X.K false):=by
 intro pins s σ H x y v u Q I rx ry h;obtain⟨p,xs,rfl,hq,fx,fs,q⟩:=h;cases ry;rcases hq with hq|hq
 ·obtain⟨its,r,pl,hz⟩:=I.list hq;refine SeqAt.in_listAt (eqU x) pl.isList (fun w hw=>fD rx fx r fs w (by simpa using hw)) ⟨.bl _,H,I,rfl,?_⟩;rw[show its.toArray.any (eqU x)=its.any (eqU x) by simp,gr r fs];exact q
 ·obtain⟨its,r,pl,hz⟩:=I.tuple hq;refine SeqAt.in_tupleAt (eqU x) pl (fun w hw=>fD rx fx r fs w (by simpa using hw)) ⟨.bl _,H,I,rfl,?_⟩;rw[show its.toArray.any (eqU x)=its.any (eqU x) by simp,gr r fs];exact q
theorem iV:cu X (.builtin "len") (fun xs H Q=>∃p ys,xs=[.ref p]/\(SqL X.K H p ys\/SqT X.K H p ys)/\Q (.int ys.length) H):=by
 intro pins s σ H xs us Q I r h;obtain⟨p,ys,rfl,hq,q⟩:=h;obtain⟨u,rfl,rx⟩:=bF r;cases rx;have hn:=jg;rcases hq with hq|hq
 ·obtain⟨its,r',pl,hz⟩:=I.list hq;have hlen:=r'.length;exact Calls.call_len_list pl.isList (by simp only[zm]<;>omega) ⟨.int ys.length,H,I.tok _,⟨s.toks+1,by rw[zm,hlen]⟩,q⟩
 ·obtain⟨its,r',pl,hz⟩:=I.tuple hq;have hlen:=r'.length;exact len_tuple pl (by simp only[zm]<;>omega) ⟨.int ys.length,H,I.tok _,⟨s.toks+1,by rw[zm,hlen]⟩,q⟩
theorem iq:cu X (.type "tuple") (fun xs H Q=>∃p ys,xs=[.ref p]/\((SqL X.K H p ys/\∀l,H l=none->Q (.ref l) (upd H l (.tup ys)))\/(SqT X.K H p ys/\Q (.ref p) H))):=by
 intro pins s σ H xs us Q I r h;obtain⟨p,ys,rfl,h⟩:=h;obtain⟨u,rfl,rx⟩:=bF r;cases rx;rcases h with⟨hq,q⟩|⟨hq,q⟩
 ·obtain⟨its,r',pl,hz⟩:=I.list hq;have hlen:=r'.length;refine call_tuple_list pl.isList (fun h' kp=>?_) (by simp only[zm]<;>omega);have I1:Inv X pins σ H { s with heap:=h' }:=I.kept (t':=s.toks) kp;have I2:Inv X pins σ (upd H h'.objs.size (.tup ys)) { s with heap:=h'.push { cls:=.type "tuple",data:=.seq its.toArray } } :=
   I1.laid (t':=s.toks) (fun b o e=>zi _ e) (za _) (show ObjOk X.prog X.w _ _ _ (.tup ys)from⟨hz,its,r',IsTup.new _ _⟩)
  exact⟨.ref h'.objs.size,_,I2,rfl,q _ (I1.hok.fresh (za _))⟩
 ·obtain⟨its,r',pl,hz⟩:=I.tuple hq;exact call_tuple_same pl ⟨.ref p,H,I,rfl,q⟩
def tyV(K:PySem.W.Frag)(T:String)(x:V)(H:Hp):Prop:=match x with
 |.str _=>T="str"
 |.int _=>T="int"
 |.ref p=>(T="list"/\∃xs,SqL K H p xs)\/(T="tuple"/\∃o,K.lookup p=some o/\o.cls=.type "tuple"/\o.dict=none) \/
   (T="dict"/\((∃kvs,H p=some (.dK kvs))\/∃kvs,H p=some (.dT kvs)))\/(T="set"/\∃S n,H p=some (.set S n))
 |_=>False
theorem rO{pins:List (Addr×Obj)}{σ:St}{H:Hp}{s:Shared}{T:String}{x:V}{v:Value}(I:Inv X pins σ H s)(r:RelV x v)(ty:tyV X.K T x H) :
  s.TypeIs v T/\∀a,v=.ref a->∃ob,s.heap.get? a=some ob/\ob.dict=none:=by
 cases x with
 |str z =>obtain⟨t,rfl⟩:=r;cases(show T="str" from ty);exact⟨typeIs_str s z t,fun _ e=>nomatch e⟩
 |int i =>obtain⟨t,rfl⟩:=r;cases(show T="int" from ty);exact⟨typeIs_int s i t,fun _ e=>nomatch e⟩
 |ref p =>
  cases r;rcases ty with⟨rfl,xs,hq⟩|⟨rfl,o,hk,hc,hd⟩|⟨rfl,hk⟩|⟨rfl,S,n,hk⟩
  ·obtain⟨its,_,pl,_⟩:=I.list hq;refine⟨pl.isList.typeIs,fun a e=>?_⟩;cases e;obtain⟨o,n,e,c,hd,_⟩:=pl;exact⟨o,e,hd⟩
  ·refine⟨⟨o,I.kIn p o hk,hc⟩,fun a e=>?_⟩;cases e;exact⟨o,I.kIn _ o hk,hd⟩
  ·have z:∃o,s.heap.get? p=some o/\o.ExactDict:=by
    rcases hk with⟨kvs,hk⟩|⟨kvs,hk⟩
    ·obtain⟨_,_,_,_,o,_,_,e,ex,_⟩:=I.hok p _ hk;exact⟨o,e,ex⟩
    ·obtain⟨_,_,_,_,o,_,_,e,ex,_⟩:=I.hok p _ hk;exact⟨o,e,ex⟩
   obtain⟨o,e,ex⟩:=z;refine⟨⟨o,e,ex.1⟩,fun a e2=>?_⟩;cases e2;exact⟨o,e,ex.2.1⟩
  ·obtain⟨o,_,_,_,e,ex,_⟩:=I.hok p _ hk;refine⟨⟨o,e,ex.1⟩,fun a e2=>?_⟩;cases e2;exact⟨o,e,ex.2.1⟩
 |_=>exact False.elim ty
def tBM(K:PySem.W.Frag)(T:String)(r:V->List V->Hp->VK->Prop)(to:TE)(t:TA):TE:=fun σ H Q=>to σ H fun x H1=>tyV K T x H1/\t σ H1 fun xs H2=>r x xs H2 Q
variable{o e:Expr}{es:List Expr}{to:TE}{t:TA}{name:Str}{apos cpos:Pos}{T id:String}{r:V->List V->Hp->VK->Prop}
theorem fY(pa:PlainAttrs T)(slot:Slot T name id)(hty:typeOf (.builtin id)=pure (.type "method_descriptor"))(hm:MtR X id r)(ho:PE X o to)(ha:PA X (e::es) t)(hbase:attributeBase o name X.env (eval o X.env)=eval o X.env:=by rfl)(hfew:((backTo cpos (starEach (e::es) X.env)).all (fun x=>!x.1)&&(backToKw cpos (keywordEach [] X.env)).all (fun x=>x.1.isSome)
  &&decide ((e::es).length+([]:List Keyword).length+(if ([]:List Keyword).isEmpty then 0 else 1)<30))=true:=by rfl)(hline:(apos.endLine == cpos.line)=true:=by rfl)(hs:starEach (e::es) X.env=(false,eval e X.env)::starEach es X.env:=by rfl)(hplain:(backTo cpos (starEach es X.env)).any (·.1)=false:=by rfl) :
  PE X (.Call (.Attribute o name apos) (e::es) [] cpos) (tBM X.K T r to t):=by
 intro pins s σ H Q I h;refine wpAny_Call_method_late hbase hfew hline rfl (thn (ho pins s σ H _ I h) fun v s1 hz9=>?_);obtain⟨x,H1,I1,r1,ty,q1⟩:=hz9;obtain⟨h1,h2⟩:=rO I1 r1 ty;refine⟨T,id,pa,slot,hty,h1,h2,?_⟩;have hA:=ha cpos pins s1 σ H1 _ I1 q1;rw[hs]at hA ⊢;refine Calls.callWith_builtin (by show(false ||(backTo cpos (starEach es X.env)).any (·.1))=false;rw[hplain]<;>rfl) (Calls.evalArgs_plain ?_);exact thn hA fun us s2 ⟨vs,H2,I2,r2,q2⟩=>hm pins s2 σ H2 x vs v us Q I2 r1 r2 q2
end
open PySem PySem.Spec PyProof.Rows
def MtM(X:Cx)(id:String)(r:V->List V->Hp->VK->Prop):Prop :=
 ∀(pins:List (Addr×Obj)) (s:Shared) (σ:St) (H:Hp) (x:V) (xs:List V) (v:Value) (us:List Value) (Q:VK),Inv X pins σ H s->RelV x v->Vals xs us->r x xs H Q ->
  wpAny (model X.prog X.w) X.A (call (.builtin id) (v::us)) (EP X pins σ Q) X.xe s
theorem Vals.one:∀{x:V} {us:List Value},Vals [x] us->∃u,us=[u]/\RelV x u
 |_,_,.cons r .nil=>⟨_,rfl,r⟩
section
variable{X:Cx}{pins:List (Addr×Obj)}{σ:St}{H:Hp}{s:Shared}{l b:Addr}{xs ys zs:List V}
theorem Inv.lset{its its':List Value}{n:Nat}{f:Array Value->Array Value}{t':Nat}(I:Inv X pins σ H s)(hH:H l=some (.lst xs))(e:s.heap.get? l=some { cls:=.type "list",data:=.seq its.toArray n })(hf:f its.toArray=its'.toArray)(hv:Vals ys its')(hz:ys.length<=sizeLine) :
  Inv X pins σ (upd H l (.lst ys)) { s with heap:=s.heap.update l (Obj.mapSeq f),toks:=t' }:=by
 have q:=PySem.IsL.update e f;rw[hf]at q;refine I.write (x:=l) (e:=l) (by rw[hH];exact trivial) (.inl rfl) (fun b' u hb hu=>(Heap.get?_update_other s.heap (Obj.mapSeq f) (Ne.symm hb)).trans hu) ⟨_,q⟩ ?_;exact⟨hz,its',_,hv,q⟩
theorem Inv.lnew{its:List Value}{t':Nat}(I:Inv X pins σ H s)(hv:Vals ys its)(hz:ys.length<=sizeLine) :
  Inv X pins σ (upd H s.heap.objs.size (.lst ys)) { s with heap:=s.heap.push { cls:=.type "list",data:=.seq its.toArray },toks:=t' } :=
 I.laid (fun _ _ q=>zi _ q) (za _) ⟨hz,its,0,hv,zz _ rfl⟩
theorem Inv.fresh(I:Inv X pins σ H s):H s.heap.objs.size=none:=I.hok.fresh (za _)
theorem Inv.lstM(I:Inv X pins σ H s)(hH:H l=some (.lst xs)):xs.length<=sizeLine/\∃(its:List Value) (n:Nat),Vals xs its/\xs.length=its.length/\s.heap.get? l=some { cls:=.type "list",data:=.seq its.toArray n }:=by obtain⟨z,its,n,r,e⟩:=I.hok l _ hH;exact⟨z,its,n,r,r.length,e⟩
theorem nA{n:Nat}(h:n<=sizeLine):Builtin.List.listTooLong n=false:=by unfold Builtin.List.listTooLong;exact decide_eq_false (by omega)
end
section
variable{X:Cx}
inductive rAppend  (x:V)(vs:List V)(H:Hp)(Q:VK):Prop
 |mk (l xs y:_) (h0:x=.ref l) (h1:vs=[y]) (h2:H l=some (.lst xs)) (h3:xs.length<sizeLine) (h4:Q .non (upd H l (.lst (xs++[y])))):rAppend  x vs H Q
theorem lS:MtM X "list.append" rAppend:=by intro pins s σ H x vs v us Q I rx rv h;obtain⟨l,xs,y,rfl,rfl,hH,hz,q⟩:=h;cases rx;obtain⟨u,rfl,ru⟩:=rv.one;obtain⟨z,its,n,r,hl,e⟩:=I.lstM hH;refine call_meets F.slot_list_append ⟨_,e,rfl⟩ F.entry_list_append (F.args_list_append_2 _ _) (PySem.list_append l its.toArray n u (by rw[zm];omega)) ⟨e,?_⟩;refine⟨.non,_,I.lset (its':=its++[u]) hH e (by simp) (r.append (.cons ru .nil)) ?_,rfl,q⟩;rw[zc,List.length_singleton];omega
def jX:V->List V->Hp->VK->Prop:=fun x vs H Q=>∃l b xs zs,x=.ref l/\vs=[.ref b]/\H l=some (.lst xs)/\H b=some (.lst zs)/\xs.length+zs.length<=sizeLine/\Q .non (upd H l (.lst (xs++zs)))
theorem lT:MtM X "list.extend" jX:=by
 intro pins s σ H x vs v us Q I rx rv h;obtain⟨l,b,xs,zs,rfl,rfl,hH,hB,hz,q⟩:=h;cases rx;obtain⟨u,rfl,ru⟩:=rv.one;cases ru;obtain⟨z,its,n,r,hl,e⟩:=I.lstM hH;obtain⟨z2,its2,n2,r2,hl2,e2⟩:=I.lstM hB;have hsz:its.toArray.size+its2.toArray.size<=sizeLine:=by rw[zm,zm];omega
 have hlong:¬(!its.toArray.isEmpty&&Builtin.List.listTooLong (its.toArray.size+its2.toArray.size))=true:=by rw[nA hsz,Bool.and_false];exact zb
 refine call_meets F.slot_list_extend ⟨_,e,rfl⟩ F.entry_list_extend (F.args_list_extend_2 _ _)
  (AutoSeq1.list_extend_list_list_0 l its.toArray n b its2.toArray n2 hlong (by rw[zm];omega) (by omega)) ⟨e,e2,?_⟩
 refine⟨.non,_,I.lset (its':=its++its2) hH e (by simp) (r.append r2) ?_,rfl,q⟩;rw[zc];omega
inductive rCat  (x:V)(y:V)(H:Hp)(Q:VK):Prop
 |mk (l b xs zs:_) (h0:x=.ref l) (h1:y=.ref b) (h2:H l=some (.lst xs)) (h3:H b=some (.lst zs)) (h4:xs.length+zs.length<=sizeLine) (h5:∀p,H p=none->Q (.ref p) (upd H p (.lst (xs++zs)))):rCat  x y H Q
theorem qJ:OpR X (binaryOp .Add) rCat:=by
 intro pins s σ H x y v u Q I rx ry h;obtain⟨l,b,xs,zs,rfl,rfl,hH,hB,hz,q⟩:=h;cases rx;cases ry;obtain⟨z,its,n,r,hl,e⟩:=I.lstM hH;obtain⟨z2,its2,n2,r2,hl2,e2⟩:=I.lstM hB;refine PySem.P.add_list e e2 ?_ (by rw[zm,zm];omega);have ea:its.toArray++its2.toArray=(its++its2).toArray:=by simp
 rw[ea];exact⟨.ref _,_,I.lnew (t':=s.toks) (r.append r2) (by rw[zc];omega),rfl,q _ I.fresh⟩
end
open PySem PySem.Spec PyProof.Rows
section
variable{κ:Type}[DecidableEq κ]
def ri(kvs:List (κ×V))(k:κ)(v:V):List (κ×V) :=
 if(kvs.any fun kv=>decide (kv.1=k))=true then kvs.map (fun kv=>if kv.1=k then(kv.1,v)else kv)else kvs++[(k,v)]
end
def sT(H:Hp)(a:Addr)(y v:V)(H':Hp):Prop :=
 (∃kvs k,H a=some (.dK kvs)/\y=kV k/\kvs.length<sizeLine/\H'=upd H a (.dK (ri kvs k v))) \/
 ∃kvs k b,H a=some (.dT kvs)/\y=.ref b/\H b=some (.tup (k.map kV))/\kvs.length<sizeLine/\H'=upd H a (.dT (ri kvs k v))
inductive IsP(x y v:V)(H:Hp)(R:Hp->Prop):Prop
 |mk (a:Addr) (H':Hp) (h0:x=.ref a) (h1:sT H a y v H') (q:R H'):IsP x y v H R
def mz:List (TE×TE)->St->Hp->(List (V×V)->Hp->Prop)->Prop
 | [],_,H,Q=>Q [] H
 |(tk,tv)::r,σ,H,Q=>tk σ H fun x H1=>tv σ H1 fun y H2=>mz r σ H2 fun ps H3=>Q ((x,y)::ps) H3
abbrev VV:List (V×V)->List (Value×Value)->Prop:=Paired fun p q=>RelV p.1 q.1/\RelV p.2 q.2
def PPs(X:Cx)(pos:Pos)(keys:List (Option Expr))(values:List Expr)(trs:List (TE×TE)):Prop :=
 ∀(pins:List (Addr×Obj)) (s:Shared) (σ:St) (H:Hp) (Q:List (V×V)->Hp->Prop),Inv X pins σ H s->mz trs σ H Q ->
  wpAny (model X.prog X.w) X.A (evalPairs (pairTrees keys values X.env pos)) (fun vs s'=>∃ps H',Inv X pins σ H' s'/\VV ps vs/\Q ps H') X.xe s
structure M1(X:Cx)(o:Expr)(m:Str)(apos:Pos)(e:Expr)(cpos:Pos):Prop where
 base:attributeBase o m X.env (eval o X.env)=eval o X.env
 few:((backTo cpos (starEach [e] X.env)).all (fun x=>!x.1)&&(backToKw cpos (keywordEach [] X.env)).all (fun x=>x.1.isSome)
 &&decide (([e]:List Expr).length+([]:List Keyword).length+(if ([]:List Keyword).isEmpty then 0 else 1)<30))=true
 line:(apos.endLine==cpos.line)=true
 trees:backTo cpos (starEach [e] X.env)=[(false,eval e X.env)]
structure M2(X:Cx)(o:Expr)(m:Str)(apos:Pos)(e f:Expr)(cpos:Pos):Prop where
 base:attributeBase o m X.env (eval o X.env)=eval o X.env
 few:((backTo cpos (starEach [e,f] X.env)).all (fun x=>!x.1)&&(backToKw cpos (keywordEach [] X.env)).all (fun x=>x.1.isSome)
 &&decide (([e,f]:List Expr).length+([]:List Keyword).length+(if ([]:List Keyword).isEmpty then 0 else 1)<30))=true
 line:(apos.endLine==cpos.line)=true
 trees:backTo cpos (starEach [e,f] X.env)=[(false,eval e X.env),(false,eval f X.env)]
end L2
namespace Att
open PySem PySem.W PySem.Calls PyProof.Rows
theorem fT{P:Params}{h:Heap}:∀(ns:List Int) (vs:List Value),WellAll P h vs (ns.map WData.int)->IntsAre vs ns:=by
 intro ns;induction ns with
 |nil =>intro vs w;rw[List.map_nil]at w;cases w;exact .nil
 |cons n ns ih =>
  intro vs w;rw[zv]at w;cases w with
  |cons a b =>cases a;exact .cons _ _ (ih _ b)
theorem mr{l:OpenLaw}{n:Nat}(hn:l.most=some n){P:Params}{h:Heap}{args:List WData}{vals:List Value}(hpre:l.row.toRowW.claim.pre args=true)(hwl:WellAll P h vals args) :
  ∃a vs ns,vals=[Value.ref a]/\args=[WData.list (ns.map WData.int)]/\h.get? a=some { cls:=.type "list",data:=.seq vs.toArray }/\IntsAre vs ns/\ns.length<=n:=by
 have hsh:WShape.hasAll [] args [.list .int]=true:=(pre_splitW hpre).1;have hc:l.pre.holds [] { args:=args }=true:=(pre_splitW hpre).2;obtain⟨d,r,rfl,h1,h2⟩:=hasAllW_cons hsh;obtain rfl:=hasAllW_nil h2;obtain⟨xs,rfl,h3⟩:=hasW_list h1;obtain⟨ns,rfl⟩:=items_int h3;have hlen:ns.length<=n:=by
  unfold OpenLaw.pre at hc;have h4:(WTm.not (.lt (.lit (.int (n:Int))) (.len (.arg 0)))).holds [] { args:=[.list (ns.map .int)] }=true:=by have h4:=(holds_andW hc).1;rw[hn]at h4;exact h4
  have h5:=condW_of h4 (w_not (w_lt w_lit (w_len_list (w_arg rfl))));rw[zd]at h5;refine Nat.le_of_not_lt fun q=>?_;have q':(n:Int)<((ns.length:Nat):Int):=by omega
  first
   |(rw[decide_eq_true q']at h5;exact absurd h5 (by decide))
   |(simp at h5;omega)
 cases hwl with
 |cons w1 w2 =>
  cases w2;cases w1 with
  |list ho hall=>exact⟨_,_,ns,rfl,rfl,ho,fT ns _ hall,hlen⟩
theorem mi(l:OpenLaw)(args:List WData):l.row.toRowW.claim.post args (.bool true) args=true :=
 postW_of (r:=l.row.toRowW) (X:=(true==true))
  (show WShape.has [] (.bool true) .bool=true by first|rfl|decide|simp[WShape.has,WShape.arms,WShape.armsAll])
  (show(WTm.eq .res (.lit (.bool true))).value [] { args:=args,res:=some (.bool true),after:=args }=some (.bool (true==true))from w_eq_bool (w_res rfl) w_lit) rfl
theorem attach_call{l:OpenLaw}{n:Nat}{q:Program}{loose:List Str}{XP:(Str->Option Value)->Heap->Prop}{YP:World->Heap->Prop}{d:DefRec}(hn:l.most=some n)(hdf:d.params.defaults=[])(call:∀ (w:World) (s₀ s₁:Shared) (mg mb:Str->Option Value) (fa:Addr) (o:Obj) (pm cd doc:Value) (a:Addr) (vs:List Value) (ns:List Int),
   Ground q loose [] XP w s₀ mg mb s₁.heap->YP w s₁.heap ->
   s₁.heap.get? fa=some o->o.data=.func (docDef d.name d.params d.body d.scope pm cd doc)->s₁.heap.CodeRec cd d.name->mg d.name=some (.ref fa) ->
   s₁.heap.get? a=some { cls:=.type "list",data:=.seq vs.toArray }->IntsAre vs ns->ns.length<=n->s₁.gens=#[] ->
   codeAny (model l.prog w) callerA (.call (.ref fa) ⟨[.ref a],[]⟩) (fun r s'=>r=.ok (.ret (.bool true))/\OldK s₁.heap s'.heap/\s'.os=s₁.os/\AllBare s'.gens) s₁) :
  WalkO q loose XP YP l.row.toRowW d [] (fun f vs=>PySem.call f vs):=by
 intro w s₀ s₁ mg mb G Y fa o pm cd doc dV kV ho hd hcd hD hmg hg args vals as hpre hlay hrd hwl hlo;obtain rfl:dV=.none:=Dflts.none hD hdf;obtain rfl:kV=.none:=Dflts.noKw hD;obtain⟨a,vs,ns,rfl,rfl,hobj,hints,hlen⟩:=mr hn hpre hwl;refine enter_call (codeAny_mono (call w s₀ s₁ mg mb fa o pm cd doc a vs ns G Y ho (fd_plain hd) hcd hmg hobj hints hlen hg) fun r s' hq=>?_);obtain⟨rfl,h2,h3,h4⟩:=hq;exact⟨.inl ⟨.bool true,.bool true,[],rfl,fun _=>rfl,.bool true,mi l _,fun _=>⟨List.Pairwise.nil,fun _ hm=>(nomatch hm)⟩⟩,h2,h3,h4⟩
end Att
namespace L2
open PySem PySem.Spec PyProof.Rows
theorem ik:∀{vs:List Value} {ns:List Int},IntsAre vs ns->Vals (ns.map V.int) vs
 |_,_,.nil=>.nil
 |_,_,.cons n t h=>.cons ⟨t,rfl⟩ (ik h)
def mJ(H:Hp):Prop:=∀b,H b=none\/∃o xs,H b=some (.frz o (.lst xs))
theorem nw{P:Program}{w:World}{K:PySem.W.Frag}{mg mb:Str->Option Value}{CX:CXT}{k:Nat}{fa a:Addr}{fd:FuncData}{x:Str}{sp:Sp}{s₁:Shared}{vs:List Value}{ns:List Int}(KX:K.In s₁.heap)(hns:s₁.heap.Ns mainGlobals mg)(hb:s₁.heap.Ns builtinsNs mb)(hbb:∀x:Str,x≠"__name__"->mb x=bootBuiltins x)(hlim:s₁.heap.NoLimit)(hg:s₁.gens=#[])(ha:s₁.heap.get? a=some { cls:=.type "list",data:=.seq vs.toArray })(hi:IntsAre vs ns)(hl:ns.length<=sizeLine)(hr:Room k callerA)(F:∀base:Heap,K.In base->base.Ns mainGlobals mg->FnOk P w K mg base CX k fa fd [x] sp)(hbind:∀(s:Shared) (u:Value),BindsTo s fd ⟨[u],[]⟩ [(x,u)])(hsp:∀H:Hp,mJ H->SqL K H a (ns.map V.int)->sp [.ref a] H (fun v _=>v=.bl true) fun _ _ _=>False)(hCX:∀H e s',CX [] H s₁ (fun _ _ _=>False) e s'->False) :
  codeAny (model P w) callerA (.call (.ref fa) ⟨[.ref a],[]⟩) (fun r s'=>r=.ok (.ret (.bool true))/\OldK s₁.heap s'.heap/\s'.os=s₁.os/\AllBare s'.gens) s₁:=by
 have rv:=ik hi;have lenV:=hi.length;have core:∀H:Hp,mJ H->SqL K H a (ns.map V.int)->HOk P w H s₁.heap->(∀b,H b≠none->b=a)->(H a≠none->K.lookup a=none) ->
   codeAny (model P w) callerA (.call (.ref fa) ⟨[.ref a],[]⟩) (fun r s'=>r=.ok (.ret (.bool true))/\OldK s₁.heap s'.heap/\s'.os=s₁.os/\AllBare s'.gens) s₁:=by
  intro H hO hS hok hA hK;have base_of:∀{b:Addr} {o:Obj},s₁.heap.get? b=some o->H b=none->(dC s₁.heap H).get? b=some o:=fun e n=>nk e n;have noA:∀{b:Addr} {o:Obj} {es:Array DictEntry} {ep:Nat},s₁.heap.get? b=some o->o.data=.dict es ep->H b=none:=fun{b o es ep} e d=>by
   cases q:H b with
   |none=>rfl
   |some u =>have e':b=a:=hA b (by rw[q];simp);subst e';rw[ha]at e;cases e;have d':Data.seq vs.toArray _=Data.dict es ep:=d;cases d'
  have nsK:∀{b:Addr} {m:Str->Option Value},s₁.heap.Ns b m->(dC s₁.heap H).Ns b m:=fun{b m} ⟨o,es,ep,e,d,r⟩=>⟨o,es,ep,base_of e (noA e d),d,r⟩
  have hKb:K.In (dC s₁.heap H):=fun b o e=>base_of (KX b o e) (by
   cases q:H b with
   |none=>rfl
   |some u =>
    have e':b=a:=hA b (by rw[q];simp);subst e';rw[hK (by rw[q];simp)]at e;cases e)
  have hM:Mod K mg (dC s₁.heap H):=⟨hKb,nsK hns,⟨mb,nsK hb,hbb⟩,let⟨mc,h1,h2⟩:=hlim;⟨mc,nsK h1,h2⟩⟩
  have e0:Env0 P w K mg (dC s₁.heap H) callerA [] s₁ H:=⟨rfl,hM,fun b o e=>pq e,Nat.le_of_eq (lM _ _),trivial,fun b hb=>absurd (show b∈([]:List Addr)from hb) (by simp),hok,.of_eq hg⟩
  refine codeAny_mono ((F _ hKb (nsK hns)).run callerA [] s₁ H ⟨[.ref a],[]⟩ [.ref a] [.ref a] _ _ hr e0 (hbind s₁ (.ref a)) (.cons rfl .nil) (hsp H hO hS)) fun r s' h=>?_;cases r with
  |error e=>exact(hCX H e s' h).elim
  |ok fl =>
   cases fl with
   |next=>exact False.elim h
   |brk=>exact False.elim h
   |cont=>exact False.elim h
   |ret u =>
    obtain⟨v,H',os,bare,un,hok',r',q⟩:=h;have q':v=.bl true:=q;subst q';obtain rfl:u=Value.bool true:=r';refine⟨rfl,OldK.of_keep fun b o e=>?_,os,bare⟩;cases q:H b with
    |none=>exact un.keep b o e q (by intro z;exact absurd (show b∈([]:List Addr)from z) (by simp)) (by simp)
    |some u =>
     rcases hO b with z|⟨ob,xs,z⟩
     ·rw[q]at z;cases z
     ·have z2:=un.frzs b ob _ z;obtain⟨e1,_⟩:=hok b _ z;obtain⟨e2,_⟩:=hok' b _ z2;rw[e]at e1;cases e1;exact e2
 cases hk:K.lookup a with
 |some o =>have e:=KX a o hk;rw[ha]at e;cases e;refine core (fun _=>none) (fun _=>.inl rfl) (.inr ⟨_,vs.toArray,_,hk,rfl,rfl,rfl,by rw[zm,lenV];exact hl,by simpa using rv⟩) (fun b u z=>by have z':(none:Option HO)=some u:=z;cases z') (fun b z=>absurd rfl z) fun z=>absurd rfl z
 |none =>
  refine core (fun b=>if b=a then some (.frz { cls:=.type "list",data:=.seq vs.toArray } (.lst (ns.map V.int)))else none) (fun b=>?_) (.inl (.inr ⟨{ cls:=.type "list",data:=.seq vs.toArray },o7 rfl⟩)) (fun b u z=>?_) (fun b z=>?_) fun _=>hk
  ·by_cases hb:b=a
   ·exact .inr ⟨_,_,o7 hb⟩
   ·exact .inl (o6 hb)
  ·by_cases hb:b=a
   ·have z':=(o7 hb).symm.trans z;cases z';subst hb;exact⟨ha,by rw[zd];exact hl,vs,_,rv,ha⟩
   ·have z':=(o6 hb).symm.trans z;cases z'
  ·by_cases hb:b=a
   ·exact hb
   ·exact absurd (o6 hb) z
open PySem PySem.Spec PyProof.Rows
theorem qc{l:PySem.W.OpenLaw}{n k:Nat}{q:Program}{loose:List Str}{XP:(Str->Option Value)->Heap->Prop}{YP:World->Heap->Prop}{d:DefRec}{K:Params->PySem.W.Frag}{CX:World->CXT}{sp:World->Sp}{x:Str}(hn:l.most=some n)(hn2:n<=sizeLine)(hdf:d.params.defaults=[])(hr:Room k callerA)(hY:∀ (w:World) (h:Heap),YP w h->(K w.params).In h)(F:∀ (w:World) (mg:Str->Option Value) (fa:Addr) (h:Heap),(K w.params).In h->h.Ns mainGlobals mg->mg d.name=some (.ref fa) ->
   ∃fd:FuncData,(∀(s:Shared) (u:Value),BindsTo s fd ⟨[u],[]⟩ [(x,u)]) /\
    ∀ base:Heap,(K w.params).In base->base.Ns mainGlobals mg->FnOk l.prog w (K w.params) mg base (CX w) k fa fd [x] (sp w))(hsp:∀ (w:World) (H:Hp) (a:Addr) (ns:List Int),ns.length<=n->mJ H->SqL (K w.params) H a (ns.map V.int)->sp w [.ref a] H (fun v _=>v=.bl true) fun _ _ _=>False)(hCX:∀ (w:World) (H:Hp) (s:Shared) (e:Value) (s':Shared),CX w [] H s (fun _ _ _=>False) e s'->False) :
  PySem.W.WalkO q loose XP YP l.row.toRowW d [] (fun f vs=>PySem.call f vs):=by
 refine Att.attach_call hn hdf fun w s₀ s₁ mg mb fa o pm cd doc a vs ns G Y ho hd hcd hmg hobj hints hlen hg=>?_;have KX:=hY w _ Y;obtain⟨fd,hb,hF⟩:=F w mg fa _ KX G.T.g hmg;exact nw KX G.T.g G.T.b G.T.builtins G.T.nolimit hg hobj hints (zh hlen hn2) hr hF hb (fun H hO hS=>hsp w H a ns hlen hO hS) fun H e s'=>hCX w H s₁ e s'
open PySem PySem.Spec PyProof.Rows
def dj(s:Stmt)(j:Nat):Stmt:=match s with
 |.ClassDef _ _ _ body _ _ _ _ _ _ _=>body.getD j (.Pass ⟨0,0,0,0⟩)
 |_=>.Pass ⟨0,0,0,0⟩
def br(s:Stmt):Arguments:=match s with
 |.FunctionDef _ a _ _ _ _ _ _ _ _=>a
 |_=>{ posonlyargs:=[],args:=[],vararg:=none,kwonlyargs:=[],kw_defaults:=[],kwarg:=none,defaults:=[] }
def ba(s:Stmt):List Stmt:=match s with
 |.FunctionDef _ _ b _ _ _ _ _ _ _=>b
 |_=>[]
def ag(s:Stmt):Scope:=match s with
 |.FunctionDef _ _ _ _ _ _ sc _ _ _=>sc
 |_=>{ kind:=.function,names:=[],isGenerator:=false,isCoroutine:=false }
abbrev CX0:CXT:=fun _ _ _ _ _ _=>False
abbrev E0:XK:=fun _ _ _=>False
theorem iF{X:Cx}:cO CX0 X E0:=fun _ _ _ _ _ _ _ h=>h.elim
structure Fun(K:PySem.W.Frag)(x qual:Str)(st:Stmt)(f:Addr)(fd:FuncData):Prop where
 ex:∃(oc:Value) (od:Option Addr) (kV doc pm:Value) (an:Option Addr) (cdv ct:Value) (osl:Array (Option Value)),
  fd=PySem.W.fnOf x qual (br st) (ba st) (ag st) .none kV doc pm an cdv ct/\K.lookup f=some ⟨oc,od,.func fd,osl⟩/\PySem.W.codeIn K cdv qual=true
 kp:PySem.W.keepIn K (.ref f)=true
section
variable{P:Program}{w:World}{K:PySem.W.Frag}{mg:Str->Option Value}{base:Heap}
theorem Fun.ok{x qual:Str}{st:Stmt}{f:Addr}{fd:FuncData}{N ps:List Str}{k:Nat}{sp:Sp}(F:Fun K x qual st f fd)(S:FnScope N ps (ag st))(len:∀ vs H Q E,sp vs H Q E->vs.length=ps.length)(hbody:∀ (cdv:Value) (A:Around) (outer:List Env) (s:Shared) (H:Hp) (vs:List V) (Q:VK) (E:XK),Room k (A.deeper (envOfC qual (ag st) s.heap.objs.size f cdv))->sp vs H Q E ->
   ∃ t,PSs (dz CX0 P w K mg base N qual (ag st) f cdv A outer s H E).nox (ba st) t/\t { nx:=fun _ H'=>Q .non H',rt:=Q } (bW N vs) H):FnOk P w K mg base CX0 (k+1) f fd ps sp:=by
 obtain⟨oc,od,kV,doc,pm,an,cdv,ct,osl,rfl,lk,hcd⟩:=F.ex;refine rW lk hcd S len fun A outer s H vs Q E hr hsp=>?_;obtain⟨t,h,q⟩:=hbody cdv A outer s H vs Q E hr hsp;exact⟨t,h.nox,q⟩
theorem Fun.binds{x qual:Str}{st:Stmt}{f:Addr}{fd:FuncData}{ps:List Str}(F:Fun K x qual st f fd)(h:∀(kV doc pm:Value) (an:Option Addr) (cdv ct:Value) (us:List Value),us.length=ps.length->bindArgs (PySem.W.fnOf x qual (br st) (ba st) (ag st) .none kV doc pm an cdv ct) ⟨us,[]⟩=pure (ps.zip us)):Binds K fd ps []:=by obtain⟨oc,od,kV,doc,pm,an,cdv,ct,osl,rfl,lk,hcd⟩:=F.ex;exact .all (h kV doc pm an cdv ct)
theorem lH{x qual:Str}{st:Stmt}{f:Addr}{oc:Value}{od an:Option Addr}{osl:Array (Option Value)}{kV doc pm cdv ct:Value}(l:K.lookup f=some ⟨oc,od,.func (PySem.W.fnOf x qual (br st) (ba st) (ag st) .none kV doc pm an cdv ct),osl⟩)(c:PySem.W.codeIn K cdv qual=true)(k:PySem.W.keepIn K (.ref f)=true):Fun K x qual st f (PySem.W.fnOf x qual (br st) (ba st) (ag st) .none kV doc pm an cdv ct):=⟨⟨oc,od,kV,doc,pm,an,cdv,ct,osl,rfl,l,c⟩,k⟩
end
theorem eH{n:Nat}(h:n<=1000):n<sizeLine:=Nat.lt_of_le_of_lt h (by decide)
theorem aw{A B:Prop}(h:B):if false=true then A else B:=by rw[o6 zb];exact h
theorem aC{A B:Prop}(h:A):if true=true then A else B:=by rw[o7 rfl];exact h
theorem qz{c A B:Prop}[Decidable c](h1:c->A)(h2:¬c->B):if c then A else B:=by
 by_cases h:c
 ·rw[o7 h];exact h1 h
 ·rw[o6 h];exact h2 h
theorem rY{c A B:Prop}[Decidable c](hc:c)(h:B):if(!decide c)=true then A else B:=by rw[decide_eq_true hc];exact aw h
def Same(H H':Hp):Prop:=∀b o,H b=some o->H' b=some o
theorem Same.refl(H:Hp):Same H H:=fun _ _ h=>h
theorem Same.trans{H H1 H2:Hp}(a:Same H H1)(b:Same H1 H2):Same H H2:=fun c o h=>b c o (a c o h)
theorem Same.seq{K:PySem.W.Frag}{H H':Hp}{a:Addr}{xs:List V}(e:Same H H')(h:SqL K H a xs):SqL K H' a xs:=by
 rcases h with(h|⟨o,h⟩)|h
 ·exact .inl (.inl (e _ _ h))
 ·exact .inl (.inr ⟨o,e _ _ h⟩)
 ·exact .inr h
open PySem PySem.Spec PyProof.Rows
open PySem PySem.Spec PyProof.Rows
theorem dr{env:Env}:∀{names:List (Str×NameKind)} {x:Str} {k:NameKind},
  (names.map fun(n,k)=>if(k==NameKind.free&&env.scope.kind == .function&&env.kindOf n==some .cell)then(n,NameKind.cell)else(n,k)).lookup x=some k ->
  ∃k',names.lookup x=some k'/\(k=k'\/(k'=.free/\k=.cell))
 | [],_,_,h=>by simp at h
 |(n,k0)::r,x,k,h=>by
  have ih:=@dr env r x k;rw[zv]at h;by_cases hc:(k0==NameKind.free&&env.scope.kind == .function&&env.kindOf n==some .cell)=true
  ·have e:(if(k0==NameKind.free&&env.scope.kind == .function&&env.kindOf n==some .cell)=true then(n,NameKind.cell)else(n,k0))=(n,NameKind.cell):=o7 hc;simp only[e]at h;cases hx:x==n with
   |true =>
    simp only[zx,hx]at h ⊢;have hf:k0=.free:=by have:=hc;simp only[zA,zT]at this;exact this.1.1
    exact⟨k0,rfl,.inr ⟨hf,(zD h).symm⟩⟩
   |false =>simp only[zx,hx]at h ⊢;exact ih h
  ·have e:(if(k0==NameKind.free&&env.scope.kind == .function&&env.kindOf n==some .cell)=true then(n,NameKind.cell)else(n,k0))=(n,k0):=o6 hc;simp only[e]at h;cases hx:x==n with
   |true =>simp only[zx,hx]at h ⊢;exact⟨k0,rfl,.inl (zD h).symm⟩
   |false =>simp only[zx,hx]at h ⊢;exact ih h
theorem ey{env:Env}:∀{names:List (Str×NameKind)} {x:Str},names.lookup x=some .free ->
  (names.map fun(n,k)=>if(k==NameKind.free&&env.scope.kind == .function&&env.kindOf n==some .cell)then(n,NameKind.cell)else(n,k)).lookup x=some .cell \/
  (names.map fun(n,k)=>if(k==NameKind.free&&env.scope.kind == .function&&env.kindOf n==some .cell)then(n,NameKind.cell)else(n,k)).lookup x=some .free
 | [],_,h=>by simp at h
 |(n,k0)::r,x,h=>by
  have ih:=@ey env r x;rw[zv];by_cases hc:(k0==NameKind.free&&env.scope.kind == .function&&env.kindOf n==some .cell)=true
  ·have e:(if(k0==NameKind.free&&env.scope.kind == .function&&env.kindOf n==some .cell)=true then(n,NameKind.cell)else(n,k0))=(n,NameKind.cell):=o7 hc;simp only[e];cases hx:x==n with
   |true =>
    simp only[zx,hx]at h ⊢
    first|exact .inl rfl|exact .inl trivial
   |false =>simp only[zx,hx]at h ⊢;exact ih h
  ·have e:(if(k0==NameKind.free&&env.scope.kind == .function&&env.kindOf n==some .cell)=true then(n,NameKind.cell)else(n,k0))=(n,k0):=o6 hc;simp only[e];cases hx:x==n with
   |true =>simp only[zx,hx]at h ⊢;exact .inr h
   |false =>simp only[zx,hx]at h ⊢;exact ih h
def aU(env:Env):List (Str×NameKind)->List (Str×Addr)->List (Str×Addr)
 | [],acc=>acc
 |y::r,acc=>if(y.2==NameKind.free)=true then aU env r ((y.1,(env.cells.lookup y.1).getD 0)::acc)else aU env r acc
theorem gv{env:Env}:∀{names:List (Str×NameKind)} {acc:List (Str×Addr)},(∀y∈names,y.2=.free->∃c,env.cells.lookup y.1=some c) ->
  (forIn names acc fun(x:Str×NameKind) (cs:List (Str×Addr))=>if(x.2==NameKind.free)=true then do let c ←cellOf env x.1;pure (ForInStep.yield ((x.1,c)::cs))else pure (ForInStep.yield cs):Sem (List (Str×Addr)))=pure (aU env names acc)
 | [],_,_=>rfl
 |y::r,acc,h=>by
  rw[List.forIn_cons];by_cases hy:(y.2==NameKind.free)=true
  ·obtain⟨c,hc⟩:=h y zq (by simpa using hy);have e:cellOf env y.1=pure c:=by unfold cellOf;rw[hc]
   rw[o7 hy,e,pure_bind,pure_bind];show(forIn r ((y.1,c)::acc) _:Sem (List (Str×Addr)))=_;rw[gv fun z hz=>h z (zl _ hz)];show _=pure (if(y.2==NameKind.free)=true then aU env r ((y.1,(env.cells.lookup y.1).getD 0)::acc)else aU env r acc);rw[o7 hy,hc];rfl
  ·rw[o6 hy,pure_bind];show(forIn r acc _:Sem (List (Str×Addr)))=_;rw[gv fun z hz=>h z (zl _ hz)];show _=pure (if(y.2==NameKind.free)=true then aU env r ((y.1,(env.cells.lookup y.1).getD 0)::acc)else aU env r acc);rw[o6 hy]
theorem oX{scope:Scope}{env:Env}(h:∀y∈scope.names,y.2=.free->∃c,env.cells.lookup y.1=some c):closureFor scope env=pure (aU env scope.names []):=by have q:=gv (env:=env) (names:=scope.names) (acc:=[]) h;unfold closureFor;exact(by first|(simp only[bind_pure];exact q)|(rw[bind_pure];exact q)|exact q)
theorem gw{env:Env}:∀{names:List (Str×NameKind)} {acc:List (Str×Addr)},(∀y∈names,y.2=.free->∃c,env.cells.lookup y.1=some c)->(∀x c,acc.lookup x=some c->env.cells.lookup x=some c) ->
  ∀x c,(aU env names acc).lookup x=some c->env.cells.lookup x=some c
 | [],_,_,ha=>ha
 |y::r,acc,h,ha=>by
  have hr:∀z∈r,z.2=.free->∃c,env.cells.lookup z.1=some c:=fun z hz=>h z (zl _ hz);intro x c e;unfold aU at e;by_cases hy:(y.2==NameKind.free)=true
  ·rw[o7 hy]at e;refine gw hr (fun x' c' e'=>?_) x c e;obtain⟨d,hd⟩:=h y zq (by simpa using hy);rw[hd,Option.getD_some]at e';cases hx:x'==y.1 with
   |true =>simp only[zx,hx]at e';have e1:x'=y.1:=eq_of_beq hx;rw[e1,hd];exact e'
   |false =>simp only[zx,hx]at e';exact ha x' c' e'
  ·rw[o6 hy]at e;exact gw hr ha x c e
theorem fv{env:Env}:∀{names:List (Str×NameKind)} {acc:List (Str×Addr)} {x:Str},(∃c,acc.lookup x=some c)->∃c,(aU env names acc).lookup x=some c
 | [],_,_,h=>h
 |y::r,acc,x,h=>by
  unfold aU;by_cases hy:(y.2==NameKind.free)=true
  ·rw[o7 hy];refine fv ?_;cases hx:x==y.1 with
   |true=>exact⟨(env.cells.lookup y.1).getD 0,by simp only[zx,hx]⟩
   |false =>obtain⟨c,e⟩:=h;exact⟨c,by simp only[zx,hx];exact e⟩
  ·rw[o6 hy];exact fv h
theorem gu{env:Env}:∀{names:List (Str×NameKind)} {acc:List (Str×Addr)} {x:Str},names.lookup x=some .free->∃c,(aU env names acc).lookup x=some c
 | [],_,_,h=>by simp at h
 |(n,k)::r,acc,x,h=>by
  unfold aU;cases hx:x==n with
  |true =>
   simp only[zx,hx]at h;have hy:(k==NameKind.free)=true:=by rw[zD h];rfl
   rw[o7 hy];exact fv ⟨(env.cells.lookup n).getD 0,by simp only[zx,hx]⟩
  |false =>
   simp only[zx,hx]at h;by_cases hy:(k==NameKind.free)=true
   ·rw[o7 hy];exact gu h
   ·rw[o6 hy];exact gu h
abbrev az(X:Cx)(scope:Scope)(N':List Str)(C:Addr)(s0:Shared)(H0:Hp)(ex:List Addr):Cx where
 prog:=X.prog
 w:=X.w
 K:=X.K
 mg:=X.mg
 base:=X.base
 A:=X.A
 N:=N'
 s₀:=s0
 H₀:=H0
 env:=compEnvC scope (aU X.env scope.names []) C X.env
 outer:=X.stack
 stack:=X.stack
 ex:=ex
 fn:=fun _=>false
 calm:=X.calm
 pn:=[]
 xe:=fun _ _=>False
def CapOk(X:Cx)(sc:Scope):List Nat->List Str->Prop
 | [],[]=>True
 |j::js,x::xs=>X.N[j]?=some x/\sc.names.lookup x=some .free/\CapOk X sc js xs
 |_,_=>False
theorem CapOk.get{X:Cx}{sc:Scope}:∀{js:List Nat} {xs:List Str} {i:Nat} {x:Str},CapOk X sc js xs->xs[i]?=some x ->
  ∃j,js[i]?=some j/\X.N[j]?=some x/\sc.names.lookup x=some .free
 | [],[],_,_,_,e=>by simp at e
 |j::js,y::xs,0,x,h,e=>by
  obtain⟨h1,h2,_⟩:=h;have e':y=x:=by simpa using e
  subst e';exact⟨j,rfl,h1,h2⟩
 |j::js,y::xs,i+1,x,h,e=>by obtain⟨_,_,h6⟩:=h;obtain⟨j',q⟩:=CapOk.get (i:=i) (x:=x) h6 (by simpa using e);exact⟨j',by simpa using q.1,q.2⟩
 | [],_::_,_,_,h,_=>h.elim
 |_::_,[],_,_,h,_=>h.elim
theorem CapOk.len{X:Cx}{sc:Scope}:∀{js:List Nat} {xs:List Str},CapOk X sc js xs->js.length=xs.length
 | [],[],_=>rfl
 |j::js,y::xs,h=>by obtain⟨_,_,h6⟩:=h;simp[CapOk.len h6]
 | [],_::_,h=>h.elim
 |_::_,[],h=>h.elim
structure CompOk(X:Cx)(scope:Scope)(cap:List Nat)(capN:List Str):Prop where
 kind:scope.kind=.function
 names:∀x∈scope.names,x.2=.local->scope.names.lookup x.1=some .local
 nocell:∀y∈scope.names,y.2≠.cell
 frees:(scope.names.all fun y=>!(y.2==NameKind.free) ||(X.env.kindOf y.1==some .cell ||X.env.kindOf y.1==some .free))=true
 cap:CapOk X scope cap capN
section
variable{X:Cx}{scope:Scope}{cap:List Nat}{capN:List Str}
theorem CompOk.around(O:CompOk X scope cap capN){y:Str×NameKind}(hy:y∈scope.names)(hf:y.2=.free):X.env.kindOf y.1=some .cell\/X.env.kindOf y.1=some .free:=by have q:=List.all_eq_true.mp O.frees y hy;rw[hf]at q;simpa using q
theorem CompOk.cells(O:CompOk X scope cap capN)(ok:X.Ok):∀y∈scope.names,y.2=.free->∃c,X.env.cells.lookup y.1=some c:=fun y hy hf=>ok.has _ (O.around hy hf)
theorem CompOk.clos(O:CompOk X scope cap capN)(ok:X.Ok):closureFor scope X.env=pure (aU X.env scope.names []):=oX (O.cells ok)
theorem CompOk.sub(O:CompOk X scope cap capN)(ok:X.Ok):∀x c,(aU X.env scope.names []).lookup x=some c->X.env.cells.lookup x=some c:=gw (O.cells ok) fun x c e=>by simp at e
theorem CompOk.has(_O:CompOk X scope cap capN){x:Str}(h:scope.names.lookup x=some .free):∃c,(aU X.env scope.names []).lookup x=some c:=gu h
end
def aS(n:Nat)(cap:List Nat)(σ:St):St:=List.replicate n none++cap.map (fun j=>(σ[j]?).join)
theorem kt{n:Nat}{cap:List Nat}{σ:St}:(aS n cap σ).length=n+cap.length:=by unfold aS;rw[zc,List.length_replicate,zd]
theorem fN{n:Nat}{cap:List Nat}{σ:St}{i:Nat}{v:V}(h:(aS n cap σ)[i]?=some (some v)):n<=i/\∃j,cap[i-n]?=some j/\σ[j]?=some (some v):=by
 unfold aS at h;by_cases hi:i<n
 ·rw[List.getElem?_append_left (by simpa using hi),List.getElem?_replicate]at h;rw[o7 hi]at h;cases h
 ·have hi':n<=i:=Nat.le_of_not_lt hi;rw[zG (by simpa using hi'),List.length_replicate,zP]at h;refine⟨hi',?_⟩;cases e:cap[i-n]? with
  |none=>rw[e]at h;cases h
  |some j =>
   rw[e]at h;refine⟨j,rfl,?_⟩;have h':(σ[j]?).join=some v:=by simpa using h
   cases q:σ[j]? with
   |none=>rw[q]at h';cases h'
   |some o =>rw[q]at h';have:o=some v:=h';rw[this]
section
variable{X:Cx}{pins:List (Addr×Obj)}{σ:St}{H:Hp}{s:Shared}{scope:Scope}{cap:List Nat}{capN N':List Str}{C:Addr}{ex:List Addr}
theorem lA(I:Inv X pins σ H s)(O:CompOk X scope cap capN)(hC:s.heap.objs.size<=C)(hex:∀b∈ex,bu X pins H b/\b<s.heap.objs.size):(az X scope N' C s H ex).Ok where
 mod:=I.ok.mod
 kind:=O.kind
 glob:=I.ok.glob
 blt:=I.ok.blt
 above:=hC
 inj:=fun x y c h1 h2=>I.ok.inj x y c (O.sub I.ok x c h1) (O.sub I.ok y c h2)
 has:=fun x hx=>by
  have hx':(relabel scope X.env).names.lookup x=some .cell\/(relabel scope X.env).names.lookup x=some .free:=hx;have key:∀k,(relabel scope X.env).names.lookup x=some k->(k=.cell\/k=.free)->scope.names.lookup x=some .free:=fun k e hk=>by
   obtain⟨k',e',q⟩:=dr (env:=X.env) e;rcases q with q|⟨q,_⟩
   ·subst q;rcases hk with z|z
    ·subst z;exact absurd rfl (O.nocell _ (zS e'))
    ·subst z;exact e'
   ·subst q;exact e'
  rcases hx' with e|e
  ·exact O.has (key _ e (.inl rfl))
  ·exact O.has (key _ e (.inr rfl))
 cab:=fun x c h _=>by cases h
 hd:=I.ok.hd
 frames:=I.ok.frames
 stk:=.inl rfl
 exf:=fun b hb=>by obtain⟨⟨f0,f1,f2,f3,f4,f5⟩,lt⟩:=hex b hb;exact⟨zC (zk lt hC),fun x c e=>f4 x c (O.sub I.ok x c e)⟩
 bs:=I.bs
 bsz:=zh I.ok.bsz I.sz
 noex:=fun b o e hb=>by
  obtain⟨⟨f0,f1,f2,f3,f4,f5⟩,lt⟩:=hex b hb;rcases f3 with z|z
  ·exact I.ok.noex b o e z
  ·exact absurd (zk (zj e) (zh I.ok.bsz z)) (zZ _)
 exfs:=fun b hb z=>by
  obtain⟨⟨f0,f1,f2,f3,f4,f5⟩,lt⟩:=hex b hb;rcases zo.mp (I.stkSub b z)with e|e
  ·exact f1 e
  ·exact f2 e
 funs:=I.stack
 frf:=I.stkFree
theorem lX(I:Inv X pins σ H s){b:Addr}(hb:s.heap.objs.size<=b):b∉frs X.stack:=fun z=>by
 rcases zo.mp (I.stkSub b z)with e|e
 ·exact absurd (zk I.lt hb) (by rw[e];exact zZ _)
 ·exact I.nofs hb e
theorem nB(I:Inv X pins σ H s){b:Addr}(hb:s.heap.objs.size<=b):∀x c,X.env.cells.lookup x=some c->c≠b:=fun x c e z=>by obtain⟨v,q⟩:=I.cell x c e;exact absurd (zk q.lt (by rw[z];exact hb)) (zZ _)
theorem ky{n:Nat}{h1:Heap}{m1:Str->Option Value}{tk:Nat}(I:Inv X pins σ H s)(O:CompOk X scope cap capN)(hN:N'.length=n+capN.length)(hN2:∀i x,n<=i->N'[i]?=some x->capN[i-n]?=some x)(hC:s.heap.objs.size<=C)(hex:∀b∈ex,bu X pins H b/\b<s.heap.objs.size)(hk:∀b o,s.heap.get? b=some o->h1.get? b=some o)(hn:h1.Ns C m1):Inv (az X scope N' C s H ex) [] (aS n cap σ) H { s with heap:=h1,toks:=tk }:=by
 refine⟨lA I O hC hex,rfl,I.bare,Un.kept hk,⟨m1,hn,fun i x v e1 e2 e3=>?_⟩,fun x c e=>?_,I.hok.fresh hC,fun x c e=>I.freeC x c (O.sub I.ok x c e),fun p hp=>absurd (show p∈([]:List (Addr×Obj))from hp) (by simp),I.hok.kept hk,?_⟩
 ·obtain⟨hi,j,ej,es⟩:=fN e2;obtain⟨j',q1,q2,qf⟩:=O.cap.get (hN2 i x hi e1);have q3:=O.around (zS qf) rfl;have q4:=ey (env:=X.env) qf;obtain⟨c,q5⟩:=O.has qf;have q6:=O.sub I.ok x c q5;rw[q1]at ej;cases ej;obtain⟨m0,hn0,hl0⟩:=I.loc;obtain⟨u,r,l⟩:=hl0 _ x v q2 es (by
   rcases q3 with z|z
   ·exact .inr (.inl z)
   ·exact .inr (.inr z))
  refine⟨u,r,.inr ⟨q4,c,q5,?_⟩⟩;rcases l with⟨k,_⟩|⟨_,c',e',z⟩
  ·rcases q3 with z|z
   ·have z':X.env.kindOf x=some .cell:=z;rw[z']at k;cases k
   ·have z':X.env.kindOf x=some .free:=z;rw[z']at k;cases k
  ·rw[q6]at e';cases e';obtain⟨o,ho,hd⟩:=z;exact⟨o,hk _ _ ho,hd⟩
 ·obtain⟨v,o,ho,hd⟩:=I.cell x c (O.sub I.ok x c e);exact⟨v,o,hk _ _ ho,hd⟩
 ·rw[kt,O.cap.len];exact hN.symm
end
def gq(X:Cx)(ifs:List Expr)(t:TT):Prop :=
 ∀(pins:List (Addr×Obj)) (s:Shared) (σ:St) (H:Hp) (Q:Bool->Hp->Prop),Inv X pins σ H s->t σ H Q ->
  wpAny (model X.prog X.w) X.A (forIn ifs true fun c r=>if r=true then do let ok ←isTrue c X.env (eval c X.env);pure (ForInStep.yield ok)else pure (ForInStep.yield r)) (TP X pins σ Q) X.xe s
def cK:TT:=fun _ H Q=>Q true H
theorem nM{X:Cx}:gq X [] cK:=fun _ _ _ H _ I h=>wpAny_tests_nil ⟨H,I,h⟩
theorem nN{X:Cx}{c:Expr}{t:TT}(h:PT X c t):gq X [c] t:=fun pins s σ H Q I hw=>wpAny_tests_one (h pins s σ H Q I hw)
def GK(n:Nat)(g:TG):Prop:=∀x σ H Q,g x σ H Q->g x σ H (fun σ2 H2=>(σ2.length=σ.length/\∀i,n<=i->σ2[i]?=σ[i]?)/\Q σ2 H2)
theorem bt{n i:Nat}(hi:i<n):GK n (bb i):=fun x σ H Q h=>⟨⟨List.length_set,fun j hj=>List.getElem?_set_ne (by omega)⟩,h⟩
def GKs(n:Nat)(g:TGs):Prop:=∀xs σ H Q,g xs σ H Q->g xs σ H (fun σ2 H2=>(σ2.length=σ.length/\∀i,n<=i->σ2[i]?=σ[i]?)/\Q σ2 H2)
theorem jT{n:Nat}:GKs n kB:=fun xs σ H Q h=>⟨h.1,⟨rfl,fun _ _=>rfl⟩,h.2⟩
def GM(g:TG):Prop:=∀x σ H Q Q',(∀σ2 H2,Q σ2 H2->Q' σ2 H2)->g x σ H Q->g x σ H Q'
def GMs(g:TGs):Prop:=∀xs σ H Q Q',(∀σ2 H2,Q σ2 H2->Q' σ2 H2)->g xs σ H Q->g xs σ H Q'
theorem cN{i:Nat}:GM (bb i):=fun _ _ _ _ _ f h=>f _ _ h
theorem eR:GMs kB:=fun _ _ _ _ _ f h=>⟨h.1,f _ _ h.2⟩
theorem jc{t:TG}{u:TGs}(a:GM t)(b:GMs u):GMs (iC t u):=fun xs σ H Q Q' f h=>by obtain⟨v,r,e,h⟩:=h;exact⟨v,r,e,a _ _ _ _ _ (fun σ2 H2 z=>b _ _ _ _ _ f z) h⟩
theorem dA{n:Nat}{t:TG}{u:TGs}(a:GK n t)(m:GM t)(b:GKs n u)(mb:GMs u):GKs n (iC t u):=fun xs σ H Q h=>by obtain⟨v,r,e,h⟩:=h;refine⟨v,r,e,m _ _ _ _ _ (fun σ2 H2 z=>?_) (a _ _ _ _ h)⟩;obtain⟨⟨l1,k1⟩,z⟩:=z;refine mb _ _ _ _ _ (fun σ3 H3 w=>?_) (b _ _ _ _ z);obtain⟨⟨l2,k2⟩,w⟩:=w;exact⟨⟨l2.trans l1,fun i hi=>(k2 i hi).trans (k1 i hi)⟩,w⟩
theorem lJ{n m:Nat}{K:PySem.W.Frag}{t:TGs}(a:GKs n t):GK n (kC K m t):=fun x σ H Q h=>by obtain⟨b,xs,e,h1,h2,h3⟩:=h;exact⟨b,xs,e,h1,h2,a _ _ _ _ h3⟩
def bJ(n:Nat)(cap:List Nat)(g:TG)(tc:TT)(te:TE)(σ:St)(J:It)(H1:Hp)(Q:VK):Prop :=
 ∃W:Nat->Nat->List V->Hp->Prop,(∃m,W 0 m [] H1)/\∀i m ys H,W i m ys H ->
  (J.stop i H/\∀p,H p=none->Q (.ref p) (upd H p (.lst ys))) \/
  (J.go i H/\ys.length<sizeLine/\∀ x H',J.yld i H x H'->g x (aS n cap σ) H' fun σ2 H2=>tc σ2 H2 fun b H3 =>
   if b=true then te σ2 H3 fun y H4=>∃ m',m'<m/\W (i+1) m' (ys++[y]) H4 else ∃ m',m'<m/\W (i+1) m' ys H3)
def iK(n:Nat)(cap:List Nat)(wi:TI)(g:TG)(tc:TT)(te:TE):TE:=fun σ H Q=>wi σ H fun J H1=>bJ n cap g tc te σ J H1 Q
theorem dw{prog:Program}{w:World}{A:Around}{R:Result->Shared->Prop}{s:Shared}{elt target iter:Expr}{ifs:List Expr}{scope:Scope}{pos:Pos}{it acc:Value}{env:Env}(I:Nat->Shared->Prop)(turn:∀ n s,I n s->wpAny (model prog w) A (pyNext it) (fun r s₁=>match r with
   |none=>R (.ok .next) s₁
   | some v=>wpAny (model prog w) A (letOwnedTupleGo target it v) (fun _ s₁'=>wpAny (model prog w) A (assign target env v) (fun _ s₂ =>
     wpAny (model prog w) A (forIn ifs true fun c r=>if r=true then do let ok ←isTrue c env (eval c env);pure (ForInStep.yield ok) else pure (ForInStep.yield r)) (fun ok s₃ =>
      if ok=true then wpAny (model prog w) A (eval elt env) (fun x s₄ =>
       wpAny (model prog w) A (call (.builtin "list.append") [acc,x]) (fun _ s₅=>∃ m,m<n/\I m s₅) (fun _ _=>False) s₄) (fun _ _=>False) s₃
      else ∃ m,m<n/\I m s₃) (fun _ _=>False) s₂) (fun _ _=>False) s₁') (fun _ _=>False) s₁) (fun _ _=>False) s)(n:Nat)(h:I n s) :
  codeAny (model prog w) A (.compLoop (.ListComp elt [⟨target,iter,ifs,0⟩] scope pos) 0 it acc env) R s:=by
 refine codeAny_loop rfl I (fun n s hI=>?_) n h;show wpAny _ A ((compTurn (.ListComp elt [⟨target,iter,ifs,0⟩] scope pos) 0 it acc env).onRaise (fun x=>do noteFrame x env;theTreesLotGoes x)) _ _ s;refine wpAny_noted (wpAny_noRaise ?_);rw[compTurn_list];refine zt (wpAny_standAt (zt (wpAny_mono (turn n s hI) (fun r s₁ h₁=>?_) fun _ _ h'=>h')));cases r with
 |none=>exact zw h₁
 |some v =>
  refine zt (wpAny_mono h₁ (fun _ s₁' h₁'=>?_) fun _ _ h'=>h');refine zt (wpAny_mono h₁' (fun _ s₂ h₂=>zt (wpAny_mono h₂ (fun ok s₃ h₃=>?_) fun _ _ h'=>h')) fun _ _ h'=>h');cases ok with
  |false=>exact zw ⟨rfl,h₃⟩
  |true =>exact zt (zt (wpAny_mono h₃ (fun x s₄ h₄=>zt (wpAny_mono h₄ (fun _ s₅ h₅=>zw (zw ⟨rfl,h₅⟩)) fun _ _ h'=>h')) fun _ _ h'=>h'))
theorem pC{own capN:List Str}:∀(i:Nat) (x:Str),own.length<=i->(own++capN)[i]?=some x->capN[i-own.length]?=some x:=fun i x hi e=>by rw[zG hi]at e;exact e
section
variable{X:Cx}{pins:List (Addr×Obj)}{σ:St}{H2:Hp}{s2:Shared}{scope:Scope}{cap:List Nat}{capN own:List Str}
variable{elt tg iter:Expr}{ifs:List Expr}{pos:Pos}{g:TG}{tc:TT}{te:TE}{Q:VK}
abbrev cE(its:List Value)(nn:Nat):Obj:={ cls:=.type "list",data:=.seq its.toArray nn }
theorem hW{J:It}{fp:List Addr}{it:Addr}{tn:Nat->Heap->Prop}{E:Value->Shared->Prop}{RR:Value->Addr->Result->Shared->Prop}(O:CompOk X scope cap capN)(hc:X.calm=true)(hg:∀C s0 H0 ex,PG (az X scope (own++capN) C s0 H0 ex) tg g)(gk:GK own.length g)(ht:∀C s0 H0 ex,gq (az X scope (own++capN) C s0 H0 ex) ifs tc)(he:∀C s0 H0 ex,PE (az X scope (own++capN) C s0 H0 ex) elt te)(I2:Inv X pins σ H2 s2)(T:Turn X.prog X.w X.K tg J fp it tn)(st2:tn 0 s2.heap)(f2:∀b∈fp,bu X pins H2 b)(hq:bJ own.length cap g tc te σ J H2 Q)(fin:∀(D C:Addr) (s4:Shared) (H4:Hp) (ys:List V),Inv X pins σ (upd H4 D (.lst ys)) s4->(∃m,s4.heap.Ns C m)->bu X pins (upd H4 D (.lst ys)) C->Q (.ref D) (upd H4 D (.lst ys))->RR (.ref D) C (.ok .next) s4) :
  wpAny (model X.prog X.w) X.A (newList []) (fun acc s₃=>wpAny (model X.prog X.w) X.A (newFunctionEnv scope X.env.globals (aU X.env scope.names []) [] X.env.qual none .none (some X.env)) (fun cenv s₄ =>
   codeAny (model X.prog X.w) X.A (.compStart (.ListComp elt [⟨tg,iter,ifs,0⟩] scope pos) 0 (.ref it) acc { cenv with scope:=relabel scope X.env }) (RR acc cenv.locals) s₄) E s₃) E s2:=by
 obtain⟨W,⟨m0,w0⟩,turn⟩:=hq;refine wpAny_newObj_type (wpAny_newFunctionEnv O.nocell (by intro y hy;simp at hy) (fun h₁ hns₁ hsb₁=>?_) O.kind);dsimp only at hns₁ hsb₁ ⊢;generalize hHp:s2.heap.push { cls:=.type "list",dict:=none,data:=.seq ([]:List Value).toArray }=Hp2 at hns₁ hsb₁ ⊢;have hC:Hp2.objs.size=s2.heap.objs.size+1:=by rw[<-hHp,Heap.size_push]
 have hDC:s2.heap.objs.size≠Hp2.objs.size:=by rw[hC];exact zC (Nat.lt_succ_self _)
 have hCle:s2.heap.objs.size<=Hp2.objs.size:=by rw[hC];exact Nat.le_succ _
 have below:∀b,b<s2.heap.objs.size->b≠Hp2.objs.size/\b≠s2.heap.objs.size:=fun b hb=>⟨by rw[hC];exact zC (Nat.lt_succ_of_lt hb),zC hb⟩
 have old:∀b o,s2.heap.get? b=some o->h₁.get? b=some o:=fun b o e=>hsb₁.extBut b o (below b (zj e)).1 (zi _ (hHp▸zi _ e));have hacc:h₁.get? s2.heap.objs.size=some (cE [] 0):=hsb₁.extBut _ _ hDC (zi _ (hHp▸zz _ rfl));generalize hDe:s2.heap.objs.size=D at *;generalize hCe:Hp2.objs.size=C at *;have hfpl:∀b∈fp,b<s2.heap.objs.size:=fun b hb=>by obtain⟨o,e,_⟩:=T.obj _ _ st2 b hb;exact zj e
 have hex:∀b∈fp,bu X pins H2 b/\b<s2.heap.objs.size:=fun b hb=>⟨f2 b hb,hfpl b hb⟩
 have hCle':s2.heap.objs.size<=C:=by rw[hDe];exact hCle
 have hDle:s2.heap.objs.size<=D:=by rw[hDe];exact za _
 have hDfp:∀b∈fp,D≠b:=fun b hb z=>by have:=hfpl b hb;rw[<-z]at this;exact absurd this (Nat.not_lt.mpr hDle)
 have I0:∀tk,Inv (az X scope (own++capN) C s2 H2 fp) [] (aS own.length cap σ) H2 { s2 with heap:=h₁,toks:=tk }:=fun tk=>ky I2 O (by simp) pC hCle' hex old hns₁;have Dst:D∉frs X.stack:=lX I2 hDle;have Dcell:∀x c,(az X scope (own++capN) C s2 H2 fp).env.cells.lookup x=some c->c≠D:=fun x c e=>nB I2 hDle x c (O.sub I2.ok x c e);have pinD:∀{σ':St} {H':Hp} {s':Shared} {its:List Value} {nn:Nat},Inv (az X scope (own++capN) C s2 H2 fp) [] σ' H' s'->s'.heap.get? D=some (cE its nn)->H' D=none->Inv (az X scope (own++capN) C s2 H2 fp) [(D,cE its nn)] σ' H' s':=fun{σ' H' s' its nn} I e hn =>
  I.pins_of fun p hp=>by
   have z:p=(D,cE its nn):=by simpa using hp
   subst z;exact⟨e,hn,hDC,Dst,fun v q=>by cases q⟩
 have loop:∀s₃:Shared,s₃={ s2 with heap:=h₁,toks:=s2.toks+([]:List (Str×Value)).length } ->
   codeAny (model X.prog X.w) X.A (.compLoop (.ListComp elt [⟨tg,iter,ifs,0⟩] scope pos) 0 (.ref it) (.ref D) (compEnvC scope (aU X.env scope.names []) C X.env)) (RR (.ref D) C) s₃:=by
  rintro s₃ rfl;refine dw (fun k s'=>∃(i:Nat) (ys:List V) (its:List Value) (nn:Nat) (H':Hp),Inv (az X scope (own++capN) C s2 H2 fp) [(D,cE its nn)] (aS own.length cap σ) H' s'/\tn i s'.heap/\(∀b∈fp,H' b=none)/\Vals ys its/\ys.length<=sizeLine/\W i k ys H') ?_ m0
   ⟨0,[],[],0,H2,pinD (I0 _) hacc (I2.hok.fresh hDle),T.keep _ _ _ st2 (fun b hb o e=>old b o e),fun b hb=>(f2 b hb).1,.nil,zX _,w0⟩
  rintro k s3 ⟨i,ys,its,nn,H3,I3,st3,fr3,rv,hz,w3⟩;have oD3:s3.heap.get? D=some (cE its nn):=(I3.pin (D,cE its nn) (by simp)).1;have fpY:∀{H':Hp},(∀b∈fp,H' b=none)->∀b∈fp,bu (az X scope (own++capN) C s2 H2 fp) [(D,cE its nn)] H' b:=fun{H'} hn b hb=>by
   obtain⟨f0,f1,g2,f3,f4,f5⟩:=f2 b hb;refine⟨hn b hb,zC (zk (hfpl b hb) hCle'),fun z=>?_,.inl hb,fun x c e=>f4 x c (O.sub I2.ok x c e),fun p hp=>?_⟩
   ·rcases zo.mp (I2.stkSub b z)with e|e
    ·exact f1 e
    ·exact g2 e
   ·have z:p=(D,cE its nn):=by simpa[az]using hp
    subst z;exact hDfp b hb
  rcases turn i k ys H3 w3 with⟨stop,qn⟩|⟨go,hlt,step⟩
  ·refine thn (T.done (az X scope (own++capN) C s2 H2 fp) rfl rfl rfl hc i _ s3 _ H3 _ I3 (fpY fr3) st3 stop) fun r s4 ⟨hr,I4⟩=>?_;subst hr;obtain⟨oD,nD,_⟩:=I4.pin (D,cE its nn) (by simp);have neD:∀{b:Addr} {u:HO},H3 b=some u->b≠D:=fun{b u} e=>aW e nD;have JX:Inv X pins σ (upd H3 D (.lst ys)) s4:=by
    refine I2.call' (ch:=fp) I4.os ⟨I4.base.keep,I4.base.slot,fun b o e nb hx=>?_,I4.base.there,fun b xs e=>?_,fun b o u e=>?_,fun b ps e=>?_⟩ (fun b u e=>?_) I4.bare (fun b hb=>?_)
    ·rw[ai (by rw[<-hDe];exact zC (zj e))];exact I4.base.free b o e nb hx
    ·have q:=I4.base.tups b xs e;rw[ai (neD q)];exact q
    ·have q:=I4.base.frzs b o u e;rw[ai (neD q)];exact q
    ·obtain⟨more,q⟩:=I4.base.tbls b ps e;exact⟨more,by rw[ai (neD q)];exact q⟩
    ·by_cases hb:b=D
     ·subst hb;rw[ac]at e;cases e;exact⟨hz,its,nn,rv,oD⟩
     ·rw[ai hb]at e;exact(I4.hok b u e).stay (fun _ _ _ q=>q) (fun c q=>by rw[ai (neD q)];exact q) fun c xs q=>by rw[ai (neD q)];exact q
    ·obtain⟨f0,f1,g2,f3,f4,f5⟩:=f2 b hb;exact⟨f3,f1,f4,f5⟩
   obtain⟨m4,hn4,_⟩:=I4.loc;refine fin D C s4 H3 ys JX ⟨m4,hn4⟩ ?_ (qn D nD);refine I2.fpOk (b:=C) hCle' ?_;rw[ai (Ne.symm hDC)];exact I4.free
  ·refine thn (T.item (az X scope (own++capN) C s2 H2 fp) rfl rfl rfl hc i _ s3 _ H3 _ I3 (fpY fr3) st3 go) fun r s4 ⟨u,hr,h4⟩=>?_;subst hr;refine thn h4 fun _ s5 hz9=>?_;obtain⟨x,H5,I5,r5,y5,st5,fr5⟩:=hz9;have I5':=I5.pinned (fpY fr5) (T.obj _ _ st5);refine thn (hg C s2 H2 fp _ s5 _ H5 x u _ I5' r5 (gk _ _ _ _ (step x H5 y5))) fun _ s6 hz9=>?_;obtain⟨σ6,H6,I6,⟨l6,k6⟩,q6⟩:=hz9;refine thn (ht C s2 H2 fp _ s6 σ6 H6 _ I6 q6) fun ok s7 ⟨H7,I7,q7⟩=>?_;have wk:∀{H8:Hp} {s8:Shared} {pl:List (Addr×Obj)},Inv (az X scope (own++capN) C s2 H2 fp) pl σ6 H8 s8->Inv (az X scope (own++capN) C s2 H2 fp) pl (aS own.length cap σ) H8 s8:=fun I=>I.weak l6.symm fun j v e=>by obtain⟨hj,_⟩:=fN e;rw[k6 j hj];exact e
   have tn8:∀{σ8:St} {H8:Hp} {s8:Shared},Inv (az X scope (own++capN) C s2 H2 fp) ([(D,cE its nn)]++er fp s5.heap) σ8 H8 s8->(∀b∈fp,∀o,s5.heap.get? b=some o->s8.heap.get? b=some o)/\∀b∈fp,H8 b=none:=fun{σ8 H8 s8} I=>by refine⟨fun b hb o e=>(I.pin (b,o) (zE _ (zE _ (cJ hb e)))).1,fun b hb=>?_⟩;obtain⟨o,e,d⟩:=T.obj _ _ st5 b hb;exact(I.pin (b,o) (zE _ (zE _ (cJ hb e)))).2.1
   cases ok with
   |false =>rw[o6 zb]at q7 ⊢;obtain⟨m',hm,w7⟩:=q7;obtain⟨t1,t2⟩:=tn8 I7;exact⟨m',hm,i+1,ys,its,nn,H7,wk I7.unpinned,T.keep _ _ _ st5 t1,t2,rv,hz,w7⟩
   |true =>
    rw[o7 rfl]at q7 ⊢;refine thn (he C s2 H2 fp _ s7 σ6 H7 _ I7 q7) fun y s8 hz9=>?_;obtain⟨yv,H8,I8,r8,m',hm,w8⟩:=hz9;obtain⟨t1,t2⟩:=tn8 I8;obtain⟨oD,nD,_⟩:=I8.pin (D,cE its nn) (by simp);have hil:=rv.length;refine call_meets F.slot_list_append ⟨_,oD,rfl⟩ F.entry_list_append (F.args_list_append_2 _ _) (PySem.list_append D its.toArray nn y (by rw[zm];omega)) ⟨oD,?_⟩;have q:=PySem.IsL.update oD (fun x_1=>x_1.push y);have hf:its.toArray.push y=(its++[y]).toArray:=by simp
    rw[hf]at q;have keepO:∀b o,b≠D->s8.heap.get? b=some o->(s8.heap.update D (Obj.mapSeq fun x_1=>x_1.push y)).get? b=some o:=fun b o hb e=>(Heap.get?_update_other s8.heap (Obj.mapSeq fun x_1=>x_1.push y) (Ne.symm hb)).trans e;have I9:Inv (az X scope (own++capN) C s2 H2 fp) [] σ6 H8 { s8 with heap:=s8.heap.update D (Obj.mapSeq fun x_1=>x_1.push y),toks:=s8.toks } :=
     (I8.pins_of (pins':=[]) fun p hp=>absurd hp (by simp)).turned (it:=D) keepO nD hDC (.inr hDle) Dcell (fun p hp=>absurd (show p∈([]:List (Addr×Obj))from hp) (by simp))
    refine⟨m',hm,i+1,ys++[yv],its++[y],_,H8,wk (pinD I9 q nD),T.keep _ _ _ st5 (fun b hb o e=>keepO b o (Ne.symm (hDfp b hb)) (t1 b hb o e)),t2,rv.append (.cons r8 .nil),?_,w8⟩;rw[zc,List.length_singleton];omega
 exact codeAny_compStart_list (loop _ rfl) (T.self _ 0 _ _ _ (T.keep _ _ _ st2 (fun b hb o e=>old b o e)) (loop _ rfl))
theorem pG{wi:TI}(O:CompOk X scope cap capN)(hc:X.calm=true)(hi:PI X tg iter wi)(hg:∀C s0 H0 ex,PG (az X scope (own++capN) C s0 H0 ex) tg g)(gk:GK own.length g)(ht:∀C s0 H0 ex,gq (az X scope (own++capN) C s0 H0 ex) ifs tc)(he:∀C s0 H0 ex,PE (az X scope (own++capN) C s0 H0 ex) elt te)(hs:∀x,foldedSetIterable iter X.env x=pure x:=by intro _;rfl):PE X (.ListComp elt [⟨tg,iter,ifs,0⟩] scope pos) (iK own.length cap wi g tc te):=by intro pins s σ H Q I h;rw[eval_ListComp];refine wpAny_comprehension_free (use:=none) rfl hs (O.clos I.ok) O.kind O.names (thn (hi pins s σ H _ I h) fun v s1 h1=>thn h1 fun itv s2 h2=>?_);obtain⟨it,fp,tn,J,H2,e,I2,T,st2,f2,hq⟩:=h2;subst e;refine hW (RR:=fun acc C=>compPost (model X.prog X.w) X.A X.xe none (EP X pins σ Q) acc C) O hc hg gk ht he I2 T st2 f2 hq fun D C s4 H4 ys J4 hn4 fC q4=>?_;obtain⟨m,hn⟩:=hn4;obtain⟨f0,f1,g2,f3,f4,f5⟩:=fC;exact⟨m,hn,fun h' sb=>⟨.ref D,_,J4.turned (t':=s4.toks) (fun b o hb e=>(sb.2 b hb).trans e) f0 f1 f3 f4 f5,rfl,q4⟩⟩
theorem pQ{wi:TI}{j:Nat}{y:Str}{py spos:Pos}(hN0:X.N.Nodup)(hj:X.N[j]?=some y)(hy:Loc X.env.scope y)(O:CompOk X scope cap capN)(hc:X.calm=true)(hi:PI X tg iter wi)(hg:∀C s0 H0 ex,PG (az X scope (own++capN) C s0 H0 ex) tg g)(gk:GK own.length g)(ht:∀C s0 H0 ex,gq (az X scope (own++capN) C s0 H0 ex) ifs tc)(he:∀C s0 H0 ex,PE (az X scope (own++capN) C s0 H0 ex) elt te)(hsw:swapsWith (.ListComp elt [⟨tg,iter,ifs,0⟩] scope pos) (some (.Name y py)) spos.line X.env=pure true:=by rfl)(hs:∀x,foldedSetIterable iter X.env x=pure x:=by intro _;rfl)(hf:X.fn y=true\/X.env.scope.names.lookup y=some .local:=by first|exact .inl rfl|exact .inr rfl|assumption) :
  PS X (.Assign [.Name y py] (.ListComp elt [⟨tg,iter,ifs,0⟩] scope pos) spos) (fH (iK own.length cap wi g tc te) (bb j)):=by
 intro pins s σ H D0 I h;rw[exec_Assign_Name_used _ _ _ _ hsw];refine zt (wpAny_standAt (zt ?_));show wpAny _ X.A (do let _ ←comprehension (.ListComp elt [⟨tg,iter,ifs,0⟩] scope pos) scope X.env _ (newList []) false (eval iter X.env) (some (assign (.Name y py) X.env))) _ _ s;refine zt (wpAny_mono (wpAny_comprehension_free (use:=some (assign (.Name y py) X.env)) (Q:=fun _ s'=>SP X pins D0 .next s') rfl hs (O.clos I.ok) O.kind O.names (thn (hi pins s σ H _ I h) fun v s1 h1=>thn h1 fun itv s2 h2=>?_)) (fun _ s' hq=>zw (zw hq)) fun _ _ e=>e);obtain⟨it,fp,tn,J,H2,e,I2,T,st2,f2,hq⟩:=h2;subst e;refine hW (RR:=fun acc C=>compPost (model X.prog X.w) X.A X.xe (some (assign (.Name y py) X.env)) (fun _ s'=>SP X pins D0 .next s') acc C) O hc hg gk ht he I2 T st2 f2 hq fun D C s4 H4 ys J4 hn4 fC q4=>?_;obtain⟨m,hn⟩:=hn4;obtain⟨f0,f1,g2,f3,f4,f5⟩:=fC;show wpAny _ X.A (assign (.Name y py) X.env (.ref D)) _ _ _;refine wpAny_assign_Name (ic J4 hN0 hj hy (v:=.ref D) rfl (fun s5 I5 ⟨a,sba,ha⟩=>?_) hf);have hCa:C≠a:=by
  rcases ha with z|z
  ·rw[z];exact f1
  ·exact Ne.symm (f4 _ _ z)
 refine⟨m,hn.sameBut sba hCa,fun h' sb=>?_⟩;exact⟨_,_,I5.turned (t':=s5.toks) (fun b o hb e=>(sb.2 b hb).trans e) f0 f1 f3 f4 f5,q4⟩
end
open PySem PySem.Spec PyProof.Rows
structure Fn(P:Program)(w:World)(K:PySem.W.Frag)(mg:Str->Option Value)(base:Heap)(k:Nat)(x:Str)(ps:List Str)(sp:Sp):Prop where
 ex:∃f fd,FnOk P w K mg base CX0 k f fd ps sp/\mg x=some (.ref f)/\PySem.W.keepIn K (.ref f)=true/\Binds K fd ps []
section
variable{X:Cx}{k:Nat}{x:Str}{p pos:Pos}{e:Expr}{es:List Expr}{ps:List Str}{sp:Sp}{t:TA}
theorem sG(F:Fn X.prog X.w X.K X.mg X.base k x ps sp)(hr:Room k X.A)(ha:PA X (e::es) t)(hg:Gl X x:=by rfl)(hdb:(x==("__debug__":Str))=false:=by decide)(he:starEach (e::es) X.env=(false,eval e X.env)::starEach es X.env:=by rfl)(hpl:(backTo pos (starEach es X.env)).any (·.1)=false:=by rfl) :
  PE X (.Call (.Name x p) (e::es) [] pos) (iJ sp [] E0 t):=by
 obtain⟨f,fd,G,m,kp,b⟩:=F.ex;exact pE G hr hg m kp b .nil iF ha hdb he hpl
end
theorem aJ:bootBuiltins "isinstance" = some (.builtin "isinstance"):=by decide +kernel
theorem mM:bootBuiltins "max" = some (.builtin "max"):=by decide +kernel
theorem bZ:bootBuiltins "int" = some (.type "int"):=by decide +kernel
theorem hV:bootBuiltins "bool" = some (.type "bool"):=by decide +kernel
theorem bP:bootBuiltins "tuple" = some (.type "tuple"):=by decide +kernel
theorem hU:bootBuiltins "all" = some (.builtin "all"):=by decide +kernel
section
variable{X:Cx}
theorem mQ(hc:X.calm=true):cu X (.builtin "all") (fun xs H Q=>∃(p:Addr) (bs:List Bool),xs=[.ref p]/\SqL X.K H p (bs.map V.bl)/\Q (.bl (bs.all id)) H):=by
 intro pins s σ H xs us Q I r h;obtain⟨p,bs,rfl,hq,q⟩:=h;obtain⟨u,rfl,rx⟩:=bF r;cases rx;obtain⟨its,rv,pl,hz⟩:=I.list hq;have hl:=pl.isList;have hlt:p<s.heap.objs.size:=by obtain⟨_,e,_⟩:=hl;exact zj e
 have hh:=I.ok.hd hc;have hlen:bs.length=its.length:=by rw[<-rv.length,zd]
 refine call_all_walk (wpAny_pyIter_list hl ?_);refine⟨s.heap.objs.size,[s.heap.objs.size,p],[s.heap.objs.size],its.toArray.size,_,_,fun i=>(bs[i]?).getD true,rfl,Walks.list (A:=X.A.in1) hh _ p (zC hlt) its.toArray,
  ⟨⟨_,zz _ rfl,rfl,rfl⟩,hl.push _⟩,fun i v s' Q' E' hP hQ=>?_,fun h' tk hk=>?_⟩
 ·have hv:its[i]?=some v:=by simpa using hP
  have hi:i<bs.length:=by rw[hlen];exact(zp.mp hv).1
  obtain⟨u,hu,ru⟩:=rv.get (i:=i) (x:=.bl bs[i]) (by rw[zP,ze hi];rfl);rw[hv]at hu;cases hu;cases ru;have hQ':Q' ((bs[i]?).getD true) s':=hQ;rw[ze hi]at hQ';exact zO hQ'
 ·have e:((List.range its.toArray.size).all fun i=>(bs[i]?).getD true)=bs.all id:=by rw[zm,<-hlen];exact LSm.range_all bs
  rw[e];exact⟨.bl _,H,I.kept (t':=tk) (LSm.kept_iter hk),rfl,q⟩
theorem mR:cu X (.builtin "isinstance") (fun xs H Q=>∃x T t b,xs=[x,.ty T]/\TyOf X.K H x t/\PySem.W.kitOne X.K t (.type T)=some b/\Q (.bl b) H):=by intro pins s σ H xs us Q I r h;obtain⟨x,T,t,b,rfl,ty,e,q⟩:=h;obtain⟨u,w',rfl,rx,ry⟩:=oR r;cases(show w'=Value.type T from ry);exact hX I rx ty e fun tk=>⟨.bl b,H,I.tok tk,rfl,q⟩
def tD(K:PySem.W.Frag):R2:=fun x y H Q=>∃(a b:Addr) (ns ms:List Int),x=.ref a/\y=.ref b/\SqL K H a (ns.map V.int)/\SqL K H b (ms.map V.int)/\Q (.bl (!decide (ns=ms))) H
theorem qM(hu:X.A.units+64<cLine):OpR X (compareOp .NotEq) (tD X.K):=by intro pins s σ H x y v u Q I rx ry h;obtain⟨a,b,ns,ms,rfl,rfl,ha,hb,q⟩:=h;cases rx;cases ry;obtain⟨its,r1,p1,_⟩:=I.list ha;obtain⟨its2,r2,p2,_⟩:=I.list hb;exact PySem.W.ke_ne_ints p1.isList p2.isList (dE r1) (dE r2) hu ⟨.bl _,H,I,rfl,q⟩
end
def isI:V->Bool
 |.int _=>true
 |.bl _=>true
 |_=>false
def isB:V->Bool
 |.bl _=>true
 |_=>false
def nq:Option HO->Bool
 |some (.tup _)=>true
 |_=>false
def isT(H:Hp):V->Bool
 |.ref a=>nq (H a)
 |_=>false
theorem cP{H:Hp}{a:Addr}{o:HO}{b:Bool}(e:H a=some o)(h:nq (some o)=b):isT H (.ref a)=b:=by show nq (H a)=b;rw[e];exact h
theorem dH{K:PySem.W.Frag}{t T:String}{b:Bool}(h1:(Value.type t==Value.type T)=b)(h2:b=false->PySem.W.kitMeta T=true/\(PySem.fastBuiltinMro t).map (·.contains (Value.type T))=some false):PySem.W.kitOne K (.type t) (.type T)=some b:=by
 unfold PySem.W.kitOne;rw[h1];cases b with
 |true=>exact o7 rfl
 |false =>rw[o6 zb];obtain⟨m,q⟩:=h2 rfl;show(if PySem.W.kitMeta T=true then PySem.W.subIn K (.type t) (.type T)else none)=_;rw[o7 m];exact q
theorem ak{K:PySem.W.Frag}{t T:String}{b:Bool}(h1:(Value.type t==Value.type T)=false)(h2:PySem.W.kitMeta T=true)(h3:(PySem.fastBuiltinMro t).map (·.contains (Value.type T))=some b):PySem.W.kitOne K (.type t) (.type T)=some b:=by unfold PySem.W.kitOne;rw[h1,o6 zb];show(if PySem.W.kitMeta T=true then PySem.W.subIn K (.type t) (.type T)else none)=_;rw[o7 h2];exact h3
theorem jV{K:PySem.W.Frag}{H:Hp}{v:V}{n:String}(h:TyOf K H v (.type n)):PySem.W.kitOne K (.type n) (.type "int")=some (isI v):=by
 cases h with
 |non=>exact ak (b:=false) (by decide +kernel) (by decide +kernel) (by decide +kernel)
 |bl x=>exact ak (b:=true) (by decide +kernel) (by decide +kernel) (by decide +kernel)
 |int i=>exact dH (b:=true) (by decide +kernel) (fun z=>nomatch z)
 |str x=>exact ak (b:=false) (by decide +kernel) (by decide +kernel) (by decide +kernel)
 |flt x=>exact ak (b:=false) (by decide +kernel) (by decide +kernel) (by decide +kernel)
 |lst e=>exact ak (b:=false) (by decide +kernel) (by decide +kernel) (by decide +kernel)
 |frz e=>exact ak (b:=false) (by decide +kernel) (by decide +kernel) (by decide +kernel)
 |tup e=>exact ak (b:=false) (by decide +kernel) (by decide +kernel) (by decide +kernel)
 |dK e=>exact ak (b:=false) (by decide +kernel) (by decide +kernel) (by decide +kernel)
 |dT e=>exact ak (b:=false) (by decide +kernel) (by decide +kernel) (by decide +kernel)
theorem dG{K:PySem.W.Frag}{H:Hp}{v:V}{n:String}(h:TyOf K H v (.type n)):PySem.W.kitOne K (.type n) (.type "bool")=some (isB v):=by
 cases h with
 |non=>exact ak (b:=false) (by decide +kernel) (by decide +kernel) (by decide +kernel)
 |bl x=>exact dH (b:=true) (by decide +kernel) (fun z=>nomatch z)
 |int i=>exact ak (b:=false) (by decide +kernel) (by decide +kernel) (by decide +kernel)
 |str x=>exact ak (b:=false) (by decide +kernel) (by decide +kernel) (by decide +kernel)
 |flt x=>exact ak (b:=false) (by decide +kernel) (by decide +kernel) (by decide +kernel)
 |lst e=>exact ak (b:=false) (by decide +kernel) (by decide +kernel) (by decide +kernel)
 |frz e=>exact ak (b:=false) (by decide +kernel) (by decide +kernel) (by decide +kernel)
 |tup e=>exact ak (b:=false) (by decide +kernel) (by decide +kernel) (by decide +kernel)
 |dK e=>exact ak (b:=false) (by decide +kernel) (by decide +kernel) (by decide +kernel)
 |dT e=>exact ak (b:=false) (by decide +kernel) (by decide +kernel) (by decide +kernel)
theorem gE{K:PySem.W.Frag}{H:Hp}{v:V}{n:String}(h:TyOf K H v (.type n)):PySem.W.kitOne K (.type n) (.type "tuple")=some (isT H v):=by
 cases h with
 |non=>exact ak (b:=false) (by decide +kernel) (by decide +kernel) (by decide +kernel)
 |bl x=>exact ak (b:=false) (by decide +kernel) (by decide +kernel) (by decide +kernel)
 |int i=>exact ak (b:=false) (by decide +kernel) (by decide +kernel) (by decide +kernel)
 |str x=>exact ak (b:=false) (by decide +kernel) (by decide +kernel) (by decide +kernel)
 |flt x=>exact ak (b:=false) (by decide +kernel) (by decide +kernel) (by decide +kernel)
 |lst e =>rw[cP e (b:=false) rfl];exact ak (b:=false) (by decide +kernel) (by decide +kernel) (by decide +kernel)
 |frz e =>rw[cP e (b:=false) rfl];exact ak (b:=false) (by decide +kernel) (by decide +kernel) (by decide +kernel)
 |tup e =>rw[cP e (b:=true) rfl];exact dH (b:=true) (by decide +kernel) (fun z=>nomatch z)
 |dK e =>rw[cP e (b:=false) rfl];exact ak (b:=false) (by decide +kernel) (by decide +kernel) (by decide +kernel)
 |dT e =>rw[cP e (b:=false) rfl];exact ak (b:=false) (by decide +kernel) (by decide +kernel) (by decide +kernel)
theorem aa{H:Hp}{p:Addr}(h:H p=none)(o:HO):Same H (upd H p o):=fun b u q=>by rw[ai (aW q h)];exact q
theorem fG{K:PySem.W.Frag}{H H':Hp}{a:Addr}{xs:List V}(e:Same H H')(h:SqT K H a xs):SqT K H' a xs:=by
 rcases h with(h|⟨o,h⟩)|h
 ·exact .inl (.inl (e _ _ h))
 ·exact .inl (.inr ⟨o,e _ _ h⟩)
 ·exact .inr h
theorem eG{n:Nat}(h:n<=1000):n<=sizeLine:=Nat.le_of_lt (eH h)
theorem sz{n:Nat}(h:Nat.ble n 1000=true):n<=sizeLine:=eG (Nat.le_of_ble_eq_true h)
theorem cY{J:It}{N n:Nat}{cap:List Nat}{te:TE}{σ:St}{H0:Hp}{Q:VK}(x0 f:Nat->V)(hz:N<=1000)(hgo:∀i H,i<N->Same H0 H->J.go i H)(hst:∀H,Same H0 H->J.stop N H)(hy:∀i H x H',i<N->Same H0 H->J.yld i H x H'->H'=H/\x=x0 i)(he:∀i H,i<N->Same H0 H->∀R:VK,(∀H',Same H H'->R (f i) H')->te ((aS n cap σ).set 0 (some (x0 i))) H R)(hq:∀p H,Same H0 H->H p=none->Q (.ref p) (upd H p (.lst ((List.range N).map f)))):bJ n cap (bb 0) cK te σ J H0 Q:=by
 refine⟨fun i m ys H=>m=N-i/\i<=N/\Same H0 H/\ys=(List.range i).map f,⟨N,by simp,zX _,Same.refl _,rfl⟩,?_⟩;rintro i m ys H ⟨rfl,hi,sm,rfl⟩;by_cases hlt:i<N
 ·refine .inr ⟨hgo i H hlt sm,?_,fun x H' y=>?_⟩
  ·rw[zd,List.length_range];exact eH (by omega)
  ·obtain⟨e1,e2⟩:=hy i H x H' hlt sm y;subst e1 e2;refine he i H' hlt sm _ fun H4 sm4=>⟨N-(i+1),by omega,rfl,hlt,sm.trans sm4,?_⟩
   rw[List.range_succ,List.map_append];rfl
 ·have e:i=N:=by omega
  subst e;exact .inl ⟨hst H sm,fun p hp=>hq p H sm hp⟩
theorem lB{K:PySem.W.Frag}{a:Addr}{xs:List V}{n:Nat}{cap:List Nat}{te:TE}{σ:St}{H0:Hp}{Q:VK}(f:Nat->V)(hz:xs.length<=1000)(hl:SqL K H0 a xs)(he:∀i x H,xs[i]?=some x->Same H0 H->∀R:VK,(∀H',Same H H'->R (f i) H')->te ((aS n cap σ).set 0 (some x)) H R)(hq:∀p H,Same H0 H->H p=none->Q (.ref p) (upd H p (.lst ((List.range xs.length).map f)))):bJ n cap (bb 0) cK te σ (Itl K a) H0 Q:=by
 refine cY (N:=xs.length) (fun i=>(xs[i]?).getD .non) f hz (fun i H hi sm=>⟨xs,xs[i],sm.seq hl,by simp[hi]⟩) (fun H sm=>⟨xs,sm.seq hl,za _⟩) (fun i H x H' hi sm y=>⟨y.1,?_⟩) (fun i H hi sm R k=>?_) hq
 ·rw[y.2 xs (sm.seq hl)];rfl
 ·have e:xs[i]?=some xs[i]:=by simp[hi]
  rw[e];exact he i xs[i] H e sm R k
theorem fw{K:PySem.W.Frag}{a:Addr}{xs:List V}{n:Nat}{cap:List Nat}{te:TE}{σ:St}{H0:Hp}{Q:VK}(f:Nat->V)(hz:xs.length<=1000)(hl:SqT K H0 a xs)(he:∀i x H,xs[i]?=some x->Same H0 H->∀R:VK,(∀H',Same H H'->R (f i) H')->te ((aS n cap σ).set 0 (some x)) H R)(hq:∀p H,Same H0 H->H p=none->Q (.ref p) (upd H p (.lst ((List.range xs.length).map f)))):bJ n cap (bb 0) cK te σ (Itt K a) H0 Q:=by
 refine cY (N:=xs.length) (fun i=>(xs[i]?).getD .non) f hz (fun i H hi sm=>⟨xs,xs[i],fG sm hl,by simp[hi]⟩) (fun H sm=>⟨xs,fG sm hl,za _⟩) (fun i H x H' hi sm y=>⟨y.1,?_⟩) (fun i H hi sm R k=>?_) hq
 ·rw[y.2 xs (fG sm hl)];rfl
 ·have e:xs[i]?=some xs[i]:=by simp[hi]
  rw[e];exact he i xs[i] H e sm R k
theorem kx{N n:Nat}{lo:Int}{cap:List Nat}{te:TE}{σ:St}{H0:Hp}{Q:VK}(f:Nat->V)(hz:N<=1000)(he:∀i H,i<N->Same H0 H->∀R:VK,(∀H',Same H H'->R (f i) H')->te ((aS n cap σ).set 0 (some (.int (lo+i)))) H R)(hq:∀p H,Same H0 H->H p=none->Q (.ref p) (upd H p (.lst ((List.range N).map f)))):bJ n cap (bb 0) cK te σ (Itr lo N) H0 Q :=
 cY (N:=N) (fun i=>.int (lo+i)) f hz (fun _ _ hi _=>hi) (fun _ _=>za N) (fun _ _ _ _ _ _ y=>y) he hq
open PySem PySem.Spec PyProof.Rows
def aQ:Expr->Bool
 |.Starred _ _=>false
 |_=>true
theorem aO{e:Expr}{es:List Expr}{env:Env}(h:aQ e=true):starEach (e::es) env=(false,eval e env)::starEach es env:=by cases e<;>first|rfl|cases h
theorem bD{env:Env}{pos:Pos}:∀{es:List Expr},es.all aQ=true->(backTo pos (starEach es env)).any (·.1)=false
 | [],_=>rfl
 |e::es,h=>by rw[z3,zA]at h;rw[aO h.1];show(false ||(backTo pos (starEach es env)).any (·.1))=false;rw[Bool.false_or];exact bD h.2
section
variable{X:Cx}{x:Str}{p pos:Pos}{e:Expr}{es:List Expr}{te:TE}{t:TA}{id T:String}{r:List V->Hp->VK->Prop}{k:Nat}{ps:List Str}{sp:Sp}
theorem pa(ha:PE X e te)(hr:PA X es t)(hs:aQ e=true:=by rfl):PA X (e::es) (cw te t):=eV ha hr (aO hs)
theorem pB(hc:cu X (.builtin id) r)(hm:X.mg x=none)(hv:bootBuiltins x=some (.builtin id))(ha:PA X (e::es) t)(hg:Gl X x:=by rfl)(hs:(e::es).all aQ=true:=by rfl)(hn:x≠"__name__":=by decide)(hdb:(x==("__debug__":Str))=false:=by decide) :
  PE X (.Call (.Name x p) (e::es) [] pos) (tCB r t):=by
 rw[z3,zA]at hs;exact nG hc hg hm hv ha hn hdb (aO hs.1) (bD hs.2)
theorem pTy(hc:cu X (.type T) r)(hm:X.mg x=none)(hv:bootBuiltins x=some (.type T))(ha:PA X (e::es) t)(hg:Gl X x:=by rfl)(hs:(e::es).all aQ=true:=by rfl)(hn:x≠"__name__":=by decide)(hdb:(x==("__debug__":Str))=false:=by decide) :
  PE X (.Call (.Name x p) (e::es) [] pos) (tCB r t):=by
 rw[z3,zA]at hs;exact mf hc hg hm hv ha hn hdb (aO hs.1) (bD hs.2)
theorem pfn(F:Fn X.prog X.w X.K X.mg X.base k x ps sp)(hr:Room k X.A)(ha:PA X (e::es) t)(hg:Gl X x:=by rfl)(hs:(e::es).all aQ=true:=by rfl)(hdb:(x==("__debug__":Str))=false:=by decide) :
  PE X (.Call (.Name x p) (e::es) [] pos) (iJ sp [] E0 t):=by
 rw[z3,zA]at hs;exact sG F hr ha hg hdb (aO hs.1) (bD hs.2)
end
open PySem PySem.Spec PyProof.Rows
structure QE(X:Cx)(e:Expr)(t:TE):Prop where
 h:PE X e t
structure QT(X:Cx)(e:Expr)(t:TT):Prop where
 h:PT X e t
structure QW(X:Cx)(e:Expr)(t:TT):Prop where
 h:PW X e t
structure QA(X:Cx)(es:List Expr)(t:TA):Prop where
 h:PA X es t
structure QS(X:Cx)(st:Stmt)(t:TS):Prop where
 h:PS X st t
structure QB(X:Cx)(st:List Stmt)(t:TS):Prop where
 h:PSs X st t
structure QG(X:Cx)(tg:Expr)(g:TG):Prop where
 h:PG X tg g
structure QGs(X:Cx)(ts:List Expr)(g:TGs):Prop where
 h:PGs X ts g
structure QI(X:Cx)(tg iter:Expr)(wi:TI):Prop where
 h:PI X tg iter wi
structure QIf(X:Cx)(ifs:List Expr)(t:TT):Prop where
 h:gq X ifs t
structure QO(X:Cx)(e:Option Expr)(t:TO):Prop where
 h:PO X e t
structure QOp(X:Cx)(f:Value->Value->Sem Value)(r:R2):Prop where
 h:OpR X f r
structure QCall(X:Cx)(f:Value)(r:List V->Hp->VK->Prop):Prop where
 h:cu X f r
structure QIx(X:Cx)(r:R2):Prop where
 h:IxR X r
structure QSl(X:Cx)(r:V->Option Int->Option Int->Hp->VK->Prop):Prop where
 h:SlR X r
structure QSet(X:Cx)(t:qj):Prop where
 h:sV X t
structure QUn(X:Cx)(f:Value->Sem Value)(r:V->Hp->VK->Prop):Prop where
 h:UnR X f r
structure QIp(X:Cx)(op:Operator)(t:TIp):Prop where
 h:PIp X op t
section
variable{X:Cx}{pos p:Pos}{e a b c o:Expr}{es rest:List Expr}{te ta tb tc:TE}{t:TA}{tA tB':TT}{x:Str}
theorem q_v(i:Nat){x:Str}{pos:Pos}(hN:X.N[i]?=some x:=by rfl)(hv:Vis X.env.scope x:=by first|exact Or.inl rfl|exact Or.inr (Or.inl rfl)|exact Or.inr (Or.inr rfl))(hd:(x==("__debug__":Str))=false:=by decide)(hcd:(x==("__classdict__":Str))=false:=by decide):QE X (.Name x pos) (tVar i):=⟨qX hN hv hd hcd⟩
theorem ae{i:Int}{j:Nat}:QE X (.Constant (.int i) j pos) (tC (.int i)):=⟨qR⟩
theorem ci{i:Bool}{j:Nat}:QE X (.Constant (.bool i) j pos) (tC (.bl i)):=⟨sF⟩
theorem af{i:Str}{j:Nat}:QE X (.Constant (.str i) j pos) (tC (.str i)):=⟨qV⟩
theorem eu{T:String}(hm:X.mg x=none)(hv:bootBuiltins x=some (.type T))(hg:Gl X x:=by rfl)(hn:x≠"__name__":=by decide)(hd:(x==("__debug__":Str))=false:=by decide):QE X (.Name x pos) (tC (.ty T)):=⟨pD hg hm hv rfl hn hd⟩
theorem nU{i:Int}{tk:Tok}(hm:X.mg x=some (.int i tk))(hg:Gl X x:=by rfl)(hd:(x==("__debug__":Str))=false:=by decide):QE X (.Name x pos) (tC (.int i)):=⟨gJ hg hm ⟨_,rfl⟩ hd⟩
theorem aj{op:Operator}{r:R2}(ho:QOp X (binaryOp op) r)(ha:QE X a ta)(hb:QE X b tb):QE X (.BinOp a op b pos) (tOp r ta tb):=⟨sI ho.h ha.h hb.h⟩
theorem nX{op:UnaryOp}{r:V->Hp->VK->Prop}(ho:QUn X (unaryOp op) r)(ha:QE X a ta):QE X (.UnaryOp op a pos) (tUn r ta):=⟨sK ho.h ha.h⟩
theorem iH{op}(h:QE X a ta):QE X (.BoolOp op [a] pos) ta:=⟨qU h.h⟩
theorem eW(ha:QE X a ta)(hb:QE X (.BoolOp .And (b::rest) pos) tb):QE X (.BoolOp .And (a::b::rest) pos) (oM ta tb):=⟨qP ha.h hb.h⟩
theorem tw(ha:QE X a ta)(hb:QE X (.BoolOp .Or (b::rest) pos) tb):QE X (.BoolOp .Or (a::b::rest) pos) (om ta tb):=⟨sJ ha.h hb.h⟩
theorem sN(ha:QE X a ta):QE X (.UnaryOp .Not a pos) (kW ta):=⟨qT ha.h⟩
theorem bg{op:CmpOp}{r:R2}(ho:QOp X (compareOp op) r)(ha:QE X a ta)(hb:QE X b tb)(hm:behindInMarks op b=false:=by first|exact lW _|with_unfolding_all rfl):QE X (.Compare a [op] [b] pos) (tOp r ta tb):=⟨pF ho.h ha.h hb.h hm⟩
theorem rn(hc:QT X c tA)(ha:QE X a ta)(hb:QE X b tb):QE X (.IfExp c a b pos) (tIf tA ta tb):=⟨nI hc.h ha.h hb.h⟩
theorem aZ(h:QA X es t):QE X (.List es pos) (rJ t):=⟨qS h.h⟩
theorem aI{x1}(h:QA X es t):QE X (.Tuple es x1 pos) (rM t):=⟨qW h.h⟩
theorem ax{r:R2}(hr:QIx X r)(ha:QE X a ta)(hb:QE X b tb)(hs:jL b:=by intro _ _;rfl):QE X (.Subscript a b pos) (tOp r ta tb):=⟨sH hr.h ha.h hb.h hs⟩
theorem jm{r:V->Option Int->Option Int->Hp->VK->Prop}{lo hi:Option Expr}{tl th:TO}{p2:Pos}(hr:QSl X r)(he:QE X e te)(hl:QO X lo tl)(hu:QO X hi th):QE X (.Subscript e (.Slice lo hi none p2) pos) (tSl r te tl th):=⟨nK hr.h he.h hl.h hu.h⟩
theorem kP:QO X none kh:=⟨pM⟩
theorem gK(h:QE X e te):QO X (some e) (oQ te):=⟨pN h.h⟩
theorem ad:QA X [] cW:=⟨dq⟩
theorem q_a(ha:QE X e te)(hr:QA X es t)(hs:aQ e=true:=by rfl):QA X (e::es) (cw te t):=⟨pa ha.h hr.h hs⟩
theorem q_B{id:String}{r:List V->Hp->VK->Prop}(hc:QCall X (.builtin id) r)(hm:X.mg x=none)(hv:bootBuiltins x=some (.builtin id))(ha:QA X (e::es) t)(hg:Gl X x:=by rfl)(hs:(e::es).all aQ=true:=by rfl)(hn:x≠"__name__":=by decide)(hdb:(x==("__debug__":Str))=false:=by decide) :
  QE X (.Call (.Name x p) (e::es) [] pos) (tCB r t):=⟨pB hc.h hm hv ha.h hg hs hn hdb⟩
theorem cg{T:String}{r:List V->Hp->VK->Prop}(hc:QCall X (.type T) r)(hm:X.mg x=none)(hv:bootBuiltins x=some (.type T))(ha:QA X (e::es) t)(hg:Gl X x:=by rfl)(hs:(e::es).all aQ=true:=by rfl)(hn:x≠"__name__":=by decide)(hdb:(x==("__debug__":Str))=false:=by decide) :
  QE X (.Call (.Name x p) (e::es) [] pos) (tCB r t):=⟨pTy hc.h hm hv ha.h hg hs hn hdb⟩
theorem au{k:Nat}{ps:List Str}{sp:Sp}(F:Fn X.prog X.w X.K X.mg X.base k x ps sp)(hr:Room k X.A)(ha:QA X (e::es) t)(hg:Gl X x:=by rfl)(hs:(e::es).all aQ=true:=by rfl)(hdb:(x==("__debug__":Str))=false:=by decide) :
  QE X (.Call (.Name x p) (e::es) [] pos) (iJ sp [] E0 t):=⟨pfn F hr ha.h hg hs hdb⟩
theorem ap{op:CmpOp}{r:R2}(ho:QOp X (compareOp op) r)(ha:QE X a ta)(hb:QE X b tb)(hm:behindInMarks op b=false:=by first|exact lW _|with_unfolding_all rfl):QT X (.Compare a [op] [b] pos) (iM (tOp r ta tb)):=⟨pT ho.h ha.h hb.h hm⟩
theorem qa{op op':CmpOp}{r r':R2}(ho:QOp X (compareOp op) r)(ho':QOp X (compareOp op') r')(ha:QE X a ta)(hb:QE X b tb)(hc:QE X c tc)(hm:lastMarks [op,op'] [b,c]=false:=by with_unfolding_all rfl) :
  QT X (.Compare a [op,op'] [b,c] pos) (iM (my r r' ta tb tc)):=⟨nQ ho.h ho'.h ha.h hb.h hc.h hm⟩
theorem cy(ha:QT X a tA):QT X (.UnaryOp .Not a pos) (rK tA):=⟨rg ha.h⟩
theorem aP(h:QE X e te)(he:∀whole,isTrue e X.env whole=(do let v ←whole;standAt e.pos;holding [v] (truthy v)):=by intro _;rfl):QT X e (tB te):=⟨rh h.h he⟩
theorem cB(ha:QT X a tA):QW X (.BoolOp .And [a] pos) tA:=⟨pU ha.h⟩
theorem cz(ha:QT X a tA):QW X (.BoolOp .Or [a] pos) tA:=⟨rk ha.h⟩
theorem cL(ha:QT X a tA)(hb:QW X (.BoolOp .And (b::rest) pos) tB'):QW X (.BoolOp .And (a::b::rest) pos) (rE tA tB'):=⟨rj ha.h hb.h⟩
theorem cX(ha:QT X a tA)(hb:QW X (.BoolOp .Or (b::rest) pos) tB'):QW X (.BoolOp .Or (a::b::rest) pos) (tOr tA tB'):=⟨sM ha.h hb.h⟩
theorem t_w(h:QW X e tA):QT X e tA:=⟨h.h.pt⟩
end
section
variable{X:Cx}{pos:Pos}{tg iter elt:Expr}{ifs:List Expr}{g:TG}{gs:TGs}{tc:TT}{te:TE}{scope:Scope}{cap:List Nat}{capN own:List Str}{wi:TI}
theorem bh{i:Nat}{x:Str}(hN:X.N.Nodup)(hi:X.N[i]?=some x:=by rfl)(hx:Loc X.env.scope x:=by first|exact Or.inl rfl|exact Or.inr rfl)(hf:X.fn x=true\/X.env.scope.names.lookup x=some .local:=by first|exact .inl rfl|exact .inr rfl):QG X (.Name x pos) (bb i):=⟨pJ hN hi hx hf⟩
theorem nj:QGs X [] kB:=⟨pK⟩
theorem gz{e:Expr}{es:List Expr}(h1:QG X e g)(h2:QGs X es gs)(hs:(assignEach (e::es) X.env).map (·.2)=assign e X.env::(assignEach es X.env).map (·.2):=by rfl):QGs X (e::es) (iC g gs):=⟨nL h1.h h2.h hs⟩
theorem oA{es:List Expr}{k n:Nat}(hc:X.calm=true)(h:QGs X es gs)(hn:(assignEach es X.env).length=n:=by rfl)(hst:(assignEach es X.env).findIdx? (·.1)=none:=by rfl):QG X (.Tuple es k pos) (kC X.K n gs):=⟨qY hc h.h hn hst⟩
theorem fR{l:Expr}(hl:QE X l te):QI X tg l (oB X.K te):=⟨pL hl.h⟩
theorem kD{l:Expr}(hl:QE X l te):QI X tg l (qw X.K te):=⟨qZ hl.h⟩
theorem qx{a:Expr}{ta:TA}{p:Pos}(hm:X.mg "range" = none)(ha:QA X [a] ta)(hg:Gl X "range":=by rfl)(hs:aQ a=true:=by rfl):QI X tg (.Call (.Name "range" p) [a] [] pos) (oC ta):=⟨mh hg hm ha.h (aO hs)⟩
theorem fA:QIf X [] cK:=⟨nM⟩
theorem sZ{c:Expr}{t:TT}(h:QT X c t):QIf X [c] t:=⟨nN h.h⟩
theorem cR(O:CompOk X scope cap capN)(hc:X.calm=true)(hi:QI X tg iter wi)(hg:∀C s0 H0 ex,QG (az X scope (own++capN) C s0 H0 ex) tg g)(gk:GK own.length g)(ht:∀C s0 H0 ex,QIf (az X scope (own++capN) C s0 H0 ex) ifs tc)(he:∀C s0 H0 ex,QE (az X scope (own++capN) C s0 H0 ex) elt te)(hs:∀x,foldedSetIterable iter X.env x=pure x:=by intro _;rfl):QE X (.ListComp elt [⟨tg,iter,ifs,0⟩] scope pos) (iK own.length cap wi g tc te) :=
 ⟨pG O hc hi.h (fun C s0 H0 ex=>(hg C s0 H0 ex).h) gk (fun C s0 H0 ex=>(ht C s0 H0 ex).h) (fun C s0 H0 ex=>(he C s0 H0 ex).h) hs⟩
variable{st:Stmt}{rest:List Stmt}{t u:TS}{e c:Expr}
theorem b_0:QB X [] oP:=⟨pR⟩
theorem b_1(h:QS X st t):QB X [st] t:=⟨pS h.h⟩
theorem b_c(h1:QS X st t)(h2:QB X rest u):QB X (st::rest) (kX t u):=⟨nP h1.h h2.h⟩
theorem ah(h:QE X e te):QS X (.Return (some e) pos) (rL te):=⟨re h.h⟩
theorem bU(h:QE X e te)(hs:swapsWith e none pos.line X.env=pure false:=by rfl):QS X (.Expr e pos) (oN te):=⟨pO h.h hs⟩
theorem ay{body els:List Stmt}(hc:QT X c tc)(ht:QB X body t)(hu:QB X els u):QS X (.If c body els pos) (rH tc t u):=⟨sL hc.h ht.h hu.h⟩
theorem ar{i:Nat}{x:Str}{pos':Pos}(hN:X.N.Nodup)(he:QE X e te)(hi:X.N[i]?=some x:=by rfl)(hx:Loc X.env.scope x:=by first|exact Or.inl rfl|exact Or.inr rfl)(hs:swapsWith e (some (.Name x pos')) pos.line X.env=pure false:=by rfl)(hf:X.fn x=true\/X.env.scope.names.lookup x=some .local:=by first|exact .inl rfl|exact .inr rfl):QS X (.Assign [.Name x pos'] e pos) (fH te (bb i)):=⟨rf hN hi hx he.h hs hf⟩
theorem rB{j:Nat}{y:Str}{py spos:Pos}(hN0:X.N.Nodup)(O:CompOk X scope cap capN)(hc:X.calm=true)(hi:QI X tg iter wi)(hg:∀C s0 H0 ex,QG (az X scope (own++capN) C s0 H0 ex) tg g)(gk:GK own.length g)(ht:∀C s0 H0 ex,QIf (az X scope (own++capN) C s0 H0 ex) ifs tc)(he:∀C s0 H0 ex,QE (az X scope (own++capN) C s0 H0 ex) elt te)(hj:X.N[j]?=some y:=by rfl)(hy:Loc X.env.scope y:=by first|exact Or.inl rfl|exact Or.inr rfl)(hsw:swapsWith (.ListComp elt [⟨tg,iter,ifs,0⟩] scope pos) (some (.Name y py)) spos.line X.env=pure true:=by rfl)(hs:∀x,foldedSetIterable iter X.env x=pure x:=by intro _;rfl)(hf:X.fn y=true\/X.env.scope.names.lookup y=some .local:=by first|exact .inl rfl|exact .inr rfl) :
  QS X (.Assign [.Name y py] (.ListComp elt [⟨tg,iter,ifs,0⟩] scope pos) spos) (fH (iK own.length cap wi g tc te) (bb j)) :=
 ⟨pQ hN0 hj hy O hc hi.h (fun C s0 H0 ex=>(hg C s0 H0 ex).h) gk (fun C s0 H0 ex=>(ht C s0 H0 ex).h) (fun C s0 H0 ex=>(he C s0 H0 ex).h) hsw hs hf⟩
theorem sO(he:QE X e te)(hg:QG X tg g)(hs:swapsWithSole [tg] e pos.line X.env=pure false:=by rfl)(hw:swappedStores [tg] e X.env=pure none:=by rfl)(h1:(assignEach [tg] X.env).map (·.2)=[assign tg X.env]:=by rfl):QS X (.Assign [tg] e pos) (fH te g):=⟨ra he.h hg.h hs hw h1⟩
theorem sP{body:List Stmt}(hp:PassesOwn (model X.prog X.w) X.A X.env X.xe)(hc:X.calm=true)(hi:QI X tg iter wi)(hg:QG X tg g)(hb:QB X body t)(hs:∀x,foldedSetIterable iter X.env x=pure x:=by intro _;rfl):QS X (.For tg iter body [] pos) (rG wi g t):=⟨rc hp hc hi.h hg.h hb.h hs⟩
theorem ka{body:List Stmt}(hp:PassesOwn (model X.prog X.w) X.A X.env X.xe)(hc:QT X c tc)(hb:QB X body t):QS X (.While c body [] pos) (mB tc t):=⟨nO hp hc.h hb.h⟩
end
theorem Fun.okQ{P:Program}{w:World}{K:PySem.W.Frag}{mg:Str->Option Value}{base:Heap}{x qual:Str}{st:Stmt}{f:Addr}{fd:FuncData}{N ps:List Str}{k:Nat}{sp:Sp}(F:Fun K x qual st f fd)(S:FnScope N ps (ag st))(len:∀ vs H Q E,sp vs H Q E->vs.length=ps.length)(hbody:∀ (cdv:Value) (A:Around) (outer:List Env) (s:Shared) (H:Hp) (vs:List V) (Q:VK) (E:XK),Room k (A.deeper (envOfC qual (ag st) s.heap.objs.size f cdv))->sp vs H Q E ->
   ∃ t,QB (dz CX0 P w K mg base N qual (ag st) f cdv A outer s H E).nox (ba st) t/\t { nx:=fun _ H'=>Q .non H',rt:=Q } (bW N vs) H):FnOk P w K mg base CX0 (k+1) f fd ps sp :=
 F.ok S len fun cdv A outer s H vs Q E hr hsp=>let⟨t,h,q⟩:=hbody cdv A outer s H vs Q E hr hsp;⟨t,h.h,q⟩
section
variable{X:Cx}
theorem eU:QOp X (binaryOp .Add) (rI0 fun i j=>.int (i+j)):=⟨qI⟩
theorem iE:QOp X (binaryOp .Sub) (rI0 fun i j=>.int (i-j)):=⟨qO⟩
theorem sr:QOp X (binaryOp .Mult) (rI CMul fun i j=>.int (i*j)):=⟨qL⟩
theorem bR:QOp X (binaryOp .FloorDiv) (rI qd fun i j=>.int (i / j)):=⟨pz⟩
theorem aX:QOp X (binaryOp .Mod) (rI (fun _ j=>0<j) fun i j=>.int (i%j)):=⟨qK⟩
theorem kJ:QOp X (binaryOp .Pow) (rI qe fun i j=>.int (i^j.toNat)):=⟨qN⟩
theorem kH:QOp X (binaryOp .Add) rCat:=⟨qJ⟩
theorem aF:QOp X (compareOp .Eq) rEq:=⟨ss⟩
theorem dI:QOp X (compareOp .NotEq) rNe:=⟨sE⟩
theorem gG:QOp X (compareOp .Lt) (rI0 fun i j=>.bl (decide (i<j))):=⟨sw⟩
theorem kI:QOp X (compareOp .LtE) (rI0 fun i j=>.bl (decide (i<=j))):=⟨sv⟩
theorem jk:QOp X (compareOp .Gt) (rI0 fun i j=>.bl (decide (j<i))):=⟨su⟩
theorem la:QUn X (unaryOp .USub) (rU fun i=>.int (-i)):=⟨rP⟩
theorem aT:QIx X (rIxL X.K):=⟨pf⟩
theorem aK:QIx X (rIxT X.K):=⟨qA⟩
theorem eg:QSl X (rSlL X.K):=⟨pZ⟩
theorem bn:QCall X (.builtin "len") (fun xs H Q=>∃p ys,xs=[.ref p]/\(SqL X.K H p ys\/SqT X.K H p ys)/\Q (.int ys.length) H):=⟨iV⟩
theorem rT:QCall X (.builtin "isinstance") (fun xs H Q=>∃x T t b,xs=[x,.ty T]/\TyOf X.K H x t/\PySem.W.kitOne X.K t (.type T)=some b/\Q (.bl b) H):=⟨mR⟩
theorem oy(hc:X.calm=true):QCall X (.builtin "all") (fun xs H Q=>∃(p:Addr) (bs:List Bool),xs=[.ref p]/\SqL X.K H p (bs.map V.bl)/\Q (.bl (bs.all id)) H):=⟨mQ hc⟩
theorem ko:QCall X (.type "tuple") (fun xs H Q=>∃p ys,xs=[.ref p]/\((SqL X.K H p ys/\∀l,H l=none->Q (.ref l) (upd H l (.tup ys)))\/(SqT X.K H p ys/\Q (.ref p) H))):=⟨iq⟩
theorem oz:QCall X (.type "int") (fun xs H Q=>(∃i,xs=[.int i]/\Q (.int i) H)\/∃k,xs=[.bl k]/\Q (.int (if k then 1 else 0)) H):=⟨lu⟩
end
open PySem PySem.Spec PyProof.Rows
mutual
def Dt(H:Hp):PyData->V->Prop
 |.none,v=>v=.non
 |.bool b,v=>v=.bl b
 |.int i,v=>v=.int i
 |.str x,v=>v=.str x
 |.list ds,v=>∃a xs,v=.ref a/\Rd H a (.lst xs)/\DtAll H ds xs
 |.tuple ds,v=>∃a xs,v=.ref a/\Rd H a (.tup xs)/\DtAll H ds xs
 |.dict _,_=>False
def DtAll(H:Hp):List PyData->List V->Prop
 | [],xs=>xs=[]
 |d::ds,xs=>∃y ys,xs=y::ys/\Dt H d y/\DtAll H ds ys
end
section
variable{P:Program}{w:World}{H:Hp}{h:Heap}
mutual
theorem Dt.reads(ok:HOk P w H h):∀(d:PyData) (x:V) (v:Value),Dt H d x->RelV x v->∃as,Reads h v d as
 |.none,x,v,e,r=>by
  have e':x=.non:=by simpa only[Dt]using e
  subst e';cases r;exact⟨_,.none⟩
 |.bool b,x,v,e,r=>by
  have e':x=.bl b:=by simpa only[Dt]using e
  subst e';cases r;exact⟨_,.bool b⟩
 |.int i,x,v,e,r=>by
  have e':x=.int i:=by simpa only[Dt]using e
  subst e';obtain⟨t,rfl⟩:=r;exact⟨_,.int i t⟩
 |.str z,x,v,e,r=>by
  have e':x=.str z:=by simpa only[Dt]using e
  subst e';obtain⟨t,rfl⟩:=r;exact⟨_,.str z t⟩
 |.list ds,x,v,e,r=>by
  have e':∃a xs,x=.ref a/\Rd H a (.lst xs)/\DtAll H ds xs:=by simpa only[Dt]using e
  obtain⟨a,xs,rfl,hr,hd⟩:=e';cases r;obtain⟨_,its,n,rv,eo⟩:=hr.ok ok;obtain⟨as,q⟩:=DtAll.reads ok ds xs its hd rv;exact⟨_,.list eo rfl rfl (by simpa using q)⟩
 |.tuple ds,x,v,e,r=>by
  have e':∃a xs,x=.ref a/\Rd H a (.tup xs)/\DtAll H ds xs:=by simpa only[Dt]using e
  obtain⟨a,xs,rfl,hr,hd⟩:=e';cases r;obtain⟨_,its,rv,o,eo,hc,n,hs⟩:=hr.ok ok;obtain⟨as,q⟩:=DtAll.reads ok ds xs its hd rv;exact⟨_,.tuple eo hc hs (by simpa using q)⟩
 |.dict kvs,x,v,e,r=>by
  have e':False:=by simpa only[Dt]using e
  exact e'.elim
theorem DtAll.reads(ok:HOk P w H h):∀(ds:List PyData) (xs:List V) (vs:List Value),DtAll H ds xs->Vals xs vs->∃as,ReadsAll h vs ds as
 | [],xs,vs,e,r=>by
  have e':xs=[]:=by simpa only[DtAll]using e
  subst e';cases r;exact⟨_,.nil⟩
 |d::ds,xs,vs,e,r=>by
  have e':∃y ys,xs=y::ys/\Dt H d y/\DtAll H ds ys:=by simpa only[DtAll]using e
  obtain⟨y,ys,rfl,h1,h2⟩:=e';cases r with
  |cons r1 r2 =>obtain⟨as,q1⟩:=Dt.reads ok d y _ h1 r1;obtain⟨bs,q2⟩:=DtAll.reads ok ds ys _ h2 r2;exact⟨_,.cons q1 q2⟩
end
end
section
variable{X:Cx}
inductive rEqD  (x:V)(y:V)(H:Hp)(Q:VK):Prop
 |mk (dx dy:_) (h0:Dt H dx x) (h1:Dt H dy y) (h2:SeqAt.shaped dx=true) (h3:SeqAt.shaped dy=true) (h4:Q (.bl (PyData.eqv dx dy)) H):rEqD  x y H Q
inductive rNeD  (x:V)(y:V)(H:Hp)(Q:VK):Prop
 |mk (dx dy:_) (h0:Dt H dx x) (h1:Dt H dy y) (h2:SeqAt.shaped dx=true) (h3:SeqAt.shaped dy=true) (h4:Q (.bl (!PyData.eqv dx dy)) H):rNeD  x y H Q
end
section
variable{X:Cx}
variable{o e:Expr}{to te:TE}{apos cpos:Pos}
theorem kN(ho:QE X o to)(he:QE X e te)(hs:aQ e=true:=by rfl)(hbase:attributeBase o "append" X.env (eval o X.env)=eval o X.env:=by rfl)(hline:(apos.endLine==cpos.line)=true:=by rfl) :
  QE X (.Call (.Attribute o "append" apos) [e] [] cpos) (tBM X.K "list" rAppend to (cw te cW)):=by
 have h1:=aO (es:=[]) (env:=X.env) hs;have h2:starEach ([]:List Expr) X.env=[]:=rfl;refine⟨fY PySem.F.plainAttrs_list PySem.F.slot_list_append PySem.F.type_list_append lS ho.h (pa he.h dq hs) hbase ?_ hline h1 (by rw[h2];rfl)⟩;rw[h1,h2];rfl
end
open PySem PySem.Spec PyProof.Rows
theorem gC{i j:Int}{A B:Prop}(h1:i=j->A)(h2:i≠j->B):if decide (V.int i=V.int j)=true then A else B:=by
 by_cases h:i=j
 ·rw[o7 (decide_eq_true (by rw[h]))];exact h1 h
 ·rw[o6 (by rw[decide_eq_false (fun z=>h (by injection z))];exact zb)];exact h2 h
def aY(ns:List Int)(k:Nat):Int:=(ns[k]?).getD 0
theorem mK{ns:List Int}{k:Int}(h0:0<=k)(h1:k<ns.length):atI (ns.map V.int) k=some (.int (aY ns k.toNat)):=by
 have hk:k.toNat<ns.length:=by omega
 have ek:k=((k.toNat:Nat):Int):=by omega
 have q:atI (ns.map V.int) ((k.toNat:Nat):Int)=some (.int ns[k.toNat]):=bY (by rw[zP,ze hk]<;>rfl);rw[<-ek]at q;rw[q];unfold aY;rw[ze hk];rfl
theorem mS{ns:List Int}{k:Int}(h0:0<=k)(h1:¬k<ns.length):aY ns k.toNat=0:=by unfold aY;rw[List.getElem?_eq_none (by omega)];rfl
open PySem PySem.Spec PyProof.Rows
structure ZAp(z u v i j:Addr)(f g:List Addr):Prop where
 uz:u≠z
 vz:v≠z
 uv:u≠v
 ui:u≠i
 uj:u≠j
 vi:v≠i
 vj:v≠j
 iz:i≠z
 jz:j≠z
 ij:i≠j
 zf:z∉f
 zg:z∉g
 vf:v∉f
 vg:v∉g
 jf:j∉f
 ig:i∉g
open PySem PySem.Spec PyProof.Rows
theorem mT{J:It}{N n:Nat}{cap:List Nat}{g:TG}{tc:TT}{te:TE}{σ:St}{H0:Hp}{Q:VK}(keep:Nat->Bool)(f:Nat->V)(hz:N<=1000)(hgo:∀ i H,i<N->Same H0 H->J.go i H)(hst:∀ H,Same H0 H->J.stop N H)(ht:∀ i H x H',i<N->Same H0 H->J.yld i H x H'->∀ (A:VK) (B:Hp->Prop),(keep i=true->∀ H4,Same H H4->A (f i) H4)->(keep i=false->∀ H4,Same H H4->B H4) ->
   g x (aS n cap σ) H' fun σ2 H2=>tc σ2 H2 fun b H3=>if b=true then te σ2 H3 A else B H3)(hq:∀ p H,Same H0 H->H p=none->Q (.ref p) (upd H p (.lst (((List.range N).filter keep).map f)))):bJ n cap g tc te σ J H0 Q:=by
 refine⟨fun i m ys H=>m=N-i/\i<=N/\Same H0 H/\ys=((List.range i).filter keep).map f,⟨N,by simp,zX _,Same.refl _,rfl⟩,?_⟩;rintro i m ys H ⟨rfl,hi,sm,rfl⟩;by_cases hlt:i<N
 ·refine .inr ⟨hgo i H hlt sm,?_,fun x H' y=>?_⟩
  ·rw[zd];have:=List.length_filter_le keep (List.range i);rw[List.length_range]at this;exact eH (by omega)
  ·refine ht i H x H' hlt sm y _ _ (fun k H4 s4=>⟨N-(i+1),by omega,rfl,hlt,sm.trans s4,?_⟩) (fun k H4 s4=>⟨N-(i+1),by omega,rfl,hlt,sm.trans s4,?_⟩)
   ·rw[List.range_succ,List.filter_append,List.map_append];simp[k]
   ·rw[List.range_succ,List.filter_append,List.map_append];simp[k]
 ·have e:i=N:=by omega
  subst e;exact .inl ⟨hst H sm,fun p hp=>hq p H sm hp⟩
inductive rCatS  (x:V)(y:V)(H:Hp)(Q:VK):Prop
 |mk (a b xs ys:_) (h0:x=.ref a) (h1:y=.ref b) (h2:H a=some (.tup xs)) (h3:H b=some (.tup ys)) (h4:xs.length+ys.length<=sizeLine) (h5:∀p H',Same H H'->H' p=some (.tup (xs++ys))->Q (.ref p) H'):rCatS  x y H Q
section
variable{X:Cx}
theorem je{ns:List Int}{i:Nat}{x:V}(h:(ns.map V.int)[i]?=some x):x=.int (aY ns i)/\i<ns.length:=by
 rw[zP]at h;unfold aY;cases e:ns[i]? with
 |none=>rw[e]at h;cases h
 |some z =>rw[e]at h;cases h;exact⟨rfl,(zp.mp e).1⟩
theorem iW{ns:List Int}{i:Nat}(h:i<ns.length):ns[i]=aY ns i:=by unfold aY;rw[ze h];rfl
theorem mq{n d:Nat}{h:Int}(h0:0<=h):HT.sIx n d (some h)=min h.toNat n:=by have e:=HT.sIx_nat n d h.toNat;rw[show((h.toNat:Nat):Int)=h by omega]at e;exact e
variable{K:PySem.W.Frag}(hK:X.K=K)
include hK
theorem jD:QIx X (rIxT K):=by subst hK;exact aK
theorem lI{es:List Expr}{k n:Nat}{gs:TGs}{pos:Pos}(hc:X.calm=true)(h:QGs X es gs)(hn:(assignEach es X.env).length=n:=by rfl)(hst:(assignEach es X.env).findIdx? (·.1)=none:=by rfl):QG X (.Tuple es k pos) (kC K n gs):=by subst hK;exact oA hc h hn hst
omit hK
end
open PySem PySem.Spec PyProof.Rows PySem.W
section
variable{X:Cx}
theorem jZ{st:Stmt}:QS X st (fun _ _ _=>False):=⟨fun _ _ _ _ _ _ h=>h.elim⟩
variable{o e d:Expr}{to te td:TE}{apos cpos:Pos}
end
section
variable{X:Cx}{pins:List (Addr×Obj)}{σ:St}{H:Hp}{s:Shared}{h':Heap}
theorem jl{P:Program}{w:World}{H:Hp}{h:Heap}{a:Addr}{o:HO}(x:ObjOk P w H h a o):∃ob,h.get? a=some ob:=by
 cases o with
 |lst xs =>obtain⟨_,_,_,_,e⟩:=x;exact⟨_,e⟩
 |tup xs =>obtain⟨_,_,_,ob,e,_⟩:=x;exact⟨ob,e⟩
 |dK kvs =>obtain⟨_,_,_,_,ob,_,_,e,_⟩:=x;exact⟨ob,e⟩
 |dT kvs =>obtain⟨_,_,_,_,ob,_,_,e,_⟩:=x;exact⟨ob,e⟩
 |set S n =>obtain⟨ob,_,_,_,e,_⟩:=x;exact⟨ob,e⟩
 |ins C dx fs =>obtain⟨_,_,_,e,_⟩:=x;exact⟨_,e⟩
 |own y=>exact x
 |xd fs =>obtain⟨_,⟨ob,_,_,e,_⟩,_⟩:=x;exact⟨ob,e⟩
 |rng lo hi =>obtain⟨_,_,_,e⟩:=x;exact⟨_,e⟩
 |frz ob u=>exact⟨ob,x.1⟩
 |tbl ps=>exact⟨_,x⟩
 |met f y=>exact⟨_,x⟩
 |ext φ=>exact x.2.1
theorem none_of(I:Inv X pins σ H s){a:Addr}(hg:s.heap.get? a=none):H a=none:=by
 cases q:H a with
 |none=>rfl
 |some u =>obtain⟨ob,e⟩:=jl (I.hok a u q);rw[hg]at e;cases e
theorem Inv.laidF{a:Addr}{o:HO}{t':Nat}(I:Inv X pins σ H s)(k:∀b u,b≠X.env.locals->s.heap.get? b=some u->h'.get? b=some u)(hn:∃m,s.heap.Ns X.env.locals m/\h'.Ns X.env.locals m)(hg:s.heap.get? a=none)(new:ObjOk X.prog X.w (upd H a o) h' a o):Inv X pins σ (upd H a o) { s with heap:=h',toks:=t' }:=by
 have fr:=none_of I hg;have ne:∀{b:Addr} {u:HO},H b=some u->b≠a:=fun{b u} e=>aW e fr;have lt:∀{b:Addr} {u:Obj},s.heap.get? b=some u->b≠a:=fun{b u} e z=>by rw[z,hg]at e;cases e
 have neL:∀{b:Addr} {u:HO},H b=some u->b≠X.env.locals:=fun{b u} e=>aW e I.free;refine I.step (g':=s.gens) (d':=s.drawn) (ch:=[]) (fun b hb=>by simp at hb) (fun b o hL _ _ e _=>k b o hL e) (fun b o hL _ _ e _=>⟨o.slots,k b o hL e⟩) (fun b o _ e n=>by rw[ai (lt e)];exact n) (fun b o _ e=>?_)
  (fun b xs e=>by rw[ai (ne e)];exact e) (fun b o u e=>by rw[ai (ne e)];exact e) (fun b ps e=>⟨#[],by rw[ai (ne e),e];simp⟩) (fun m' hm'=>?_) (fun b u e=>?_) I.bare
 ·by_cases hL:b=X.env.locals
  ·obtain⟨m,_,o',_,_,e',_⟩:=hn;exact⟨o',by rw[hL];exact e'⟩
  ·exact⟨o,k b o hL e⟩
 ·obtain⟨m,h1,h2⟩:=hn;rw[hm'.eq_nsMap,<-h1.eq_nsMap];exact h2
 ·by_cases hb:b=a
  ·subst hb;rw[ac]at e;cases e;exact new
  ·rw[ai hb]at e;refine(I.hok b u e).stay (fun c v hc q=>k c v ?_ q) (fun c q=>by rw[ai (ne q)];exact q) fun c ys q=>by rw[ai (ne q)];exact q
   rcases hc with z|z
   ·rw[z];exact neL e
   ·exact neL z
def mn(base h:Heap)(L:Addr):List (Addr×Obj):=(List.range h.objs.size).filterMap fun b=>if b=L\/(base.get? b).isSome=true then none else(h.get? b).map fun o=>(b,o)
theorem jJ(base h:Heap)(L:Addr):News base L h (mn base h L):=fun p hp=>by
 obtain⟨b,_,e⟩:=List.mem_filterMap.mp hp;by_cases c:b=L\/(base.get? b).isSome=true
 ·rw[o7 c]at e;cases e
 ·rw[o6 c]at e;cases q:h.get? b with
  |none=>rw[q]at e;cases e
  |some o =>
   rw[q]at e;cases e;refine⟨q,fun z=>c (.inl z),?_⟩;cases z:base.get? b with
   |none=>rfl
   |some u=>exact absurd (.inr (by rw[z];rfl)) c
theorem kR{base h:Heap}{L b:Addr}{o:Obj}(e:h.get? b=some o)(hL:b≠L)(hb:base.get? b=none):(b,o)∈mn base h L:=by refine List.mem_filterMap.mpr ⟨b,List.mem_range.mpr (zj e),?_⟩;rw[o6 (by rintro(z|z);exact hL z;rw[hb]at z;cases z),e];rfl
end
theorem aV{c A B:Prop}[Decidable c](h:c)(hA:A):if decide c=true then A else B:=by rw[decide_eq_true h];exact aC hA
theorem bz{c A B:Prop}[Decidable c](h1:c->A)(h2:¬c->B):if decide c=true then A else B:=by
 by_cases h:c
 ·exact aV h (h1 h)
 ·rw[decide_eq_false h];exact aw (h2 h)
open PySem PySem.Spec PyProof.Rows
structure CompOk1(X:Cx)(scope:Scope)(cx:Str)(cap:List Nat)(capN:List Str):Prop where
 kind:scope.kind=.function
 names:∀x∈scope.names,x.2=.local->scope.names.lookup x.1=some .local
 onecell:∀y∈scope.names,y.2=.cell->y.1=cx
 own:scope.names.lookup cx=some .cell
 cf:∀(n:Nat) (acc:List (Str×Addr)),cellsFrom n scope.names acc=(cx,n)::acc
 pc:∀h:Heap,pushCells h scope.names=h.push { cls:=.type "cell",data:=.cell none }
 frees:(scope.names.all fun y=>!(y.2==NameKind.free) ||(X.env.kindOf y.1==some .cell ||X.env.kindOf y.1==some .free))=true
 cap:CapOk X scope cap capN
theorem fS:∀{vs:List Value} {ns:List Int},IntsAre vs ns->∃xs:List (Int×Tok),vs=xs.map (fun p=>.int p.1 p.2)/\ns=xs.map (·.1)
 |_,_,.nil=>⟨[],rfl,rfl⟩
 |_,_,.cons n t h=>by obtain⟨xs,e1,e2⟩:=fS h;exact⟨(n,t)::xs,by rw[e1];rfl,by rw[e2];rfl⟩
section
variable{X:Cx}
theorem qr{K:PySem.W.Frag}(hK:X.K=K)(hc:X.calm=true):QCall X (.builtin "max") (fun xs H Q=>∃(p:Addr) (ns:List Int),xs=[.ref p]/\SqL K H p (ns.map V.int)/\ns≠[]/\∀M,M∈ns->(∀x∈ns,x<=M)->Q (.int M) H):=by
 subst hK;refine⟨?_⟩;intro pins s σ H xs us Q I r h;obtain⟨p,ns,rfl,hS,hne,q⟩:=h;obtain⟨u,rfl,ru⟩:=bF r;cases ru;obtain⟨its,rv,pl,hz⟩:=I.list hS;obtain⟨ys,e1,e2⟩:=fS (dE rv);have hl:s.heap.IsList p (intItems ys.toArray):=by have:=pl.isList;rw[e1]at this;simpa[intItems]using this
 have hpos:0<ys.toArray.size:=by rw[zm];refine List.length_pos_iff.mpr fun z=>hne ?_;rw[e2,z];rfl
 refine max_intList (I.ok.hd hc) hl hpos fun v h' tk hv hk=>?_;obtain⟨b1,b2⟩:=argBest_gt (numAt ys.toArray) (ys.toArray.size-1);obtain⟨t,rfl⟩:=intItems_at hv;generalize argBest (fun i j=>decide (numAt ys.toArray i>numAt ys.toArray j)) (ys.toArray.size-1)=k at b1 b2 ⊢;have num:∀j (hj:j<ys.length),numAt ys.toArray j=(ys[j]).1:=fun j hj=>by simp[numAt,hj]
 rw[zm]at b1 b2 hpos;have hk':k<ys.length:=by omega
 refine⟨.int (numAt ys.toArray k),H,I.kept (t':=tk) hk,⟨t,rfl⟩,q _ ?_ fun x hx=>?_⟩
 ·rw[e2,num k hk'];exact List.mem_map.mpr ⟨ys[k],List.getElem_mem hk',rfl⟩
 ·rw[e2]at hx;obtain⟨y,hy,rfl⟩:=List.mem_map.mp hx;obtain⟨j,hj,rfl⟩:=List.getElem_of_mem hy;have:=b2 j (by omega);rw[num j hj]at this;exact this
end
open PySem PySem.Spec PyProof.Rows PySem.W
def lc(h:Heap)(e:Addr)(dc:Option Addr):Prop:=∃o,h.get? e=some o/\o.dict=dc
open PySem PySem.Spec PyProof.Rows PySem.W
def Its(x:Str):It:=⟨fun i _=>i<x.cps.size,fun i H v H'=>H'=H/\∃c,x.cps[i]?=some c/\v=.str ⟨#[c]⟩,fun i _=>x.cps.size<=i⟩
theorem oq{P:Program}{w:World}{K:PySem.W.Frag}{tg:Expr}(it:Addr)(x:Str)(t:Tok):Turn P w K tg (Its x) [it] it (fun i h=>h.IsStrIter it "str_ascii_iterator" x t i) where
 mem:=zu.mpr rfl
 obj:=fun i h st b hb=>by cases zu.mp hb;obtain⟨o,e,c,d⟩:=st;exact⟨o,e,fun v z=>nomatch d.symm.trans z⟩
 keep:=fun i h h' st k=>by obtain⟨o,ho,r⟩:=st;exact⟨o,k it (zu.mpr rfl) o ho,r⟩
 item:=by intro X eP ew eK hc i pins s σ H E I hf st hg;cases eP;cases ew;cases eK;have hi:i<x.cps.size:=hg;have fo:=hf it (zu.mpr rfl);refine(Walks.strAscii (prog:=X.prog) (w:=X.w) (I.ok.hd hc) it x t).item i s _ _ hi st fun v h' tk hv st' kk=>?_;obtain⟨c,u,hc',rfl⟩:=hv;have I1:Inv X pins σ H { s with heap:=h',toks:=tk }:=I.turned (fun b o hb e=>kk b o (fun z=>hb (zu.mp z)) e) fo.1 fo.2.1 fo.2.2.2.1 fo.2.2.2.2.1 fo.2.2.2.2.2;obtain⟨o,e,c1,d1⟩:=id st';exact⟨_,rfl,iD (s:={ s with heap:=h',toks:=tk }) e c1 d1 (by decide) ⟨.str ⟨#[c]⟩,H,I1,⟨u,rfl⟩,⟨rfl,c,hc',rfl⟩,st',fun b hb=>(hf b hb).1⟩⟩
 done:=by intro X eP ew eK hc i pins s σ H E I hf st hg;cases eP;cases ew;cases eK;have hi:x.cps.size<=i:=hg;have fo:=hf it (zu.mpr rfl);exact wpAny_pyNext_ascii_end (I.ok.hd hc) st (by simp;omega) fun h' eb=>⟨rfl,I.turned (t':=s.toks) (fun b o hb e=>eb b o hb e) fo.1 fo.2.1 fo.2.2.2.1 fo.2.2.2.2.1 fo.2.2.2.2.2⟩
 self:=fun _ _ _ _ _ st h=>wpAny_pyIter_striter_ascii st h
def sY(tl:TE):TI:=fun σ H R=>tl σ H fun v H1=>∃x,v=.str x/\x.cps.all (·<128)=true/\R (Its x) H1
section
variable{X:Cx}{tg l:Expr}{tl:TE}
theorem rX(hl:QE X l tl):QI X tg l (sY tl):=by refine⟨?_⟩;intro pins s σ H R I h;refine thn (hl.h pins s σ H _ I h) fun v s1 hz9=>?_;obtain⟨y,H1,I1,r1,q1⟩:=hz9;obtain⟨x,rfl,ha,q⟩:=q1;obtain⟨t,rfl⟩:=r1;refine wpAny_pyIter_ascii ha ⟨s1.heap.objs.size,[s1.heap.objs.size],_,_,H1,rfl,I1.kept (t':=s1.toks) (fun b o e=>zi _ e),oq _ x t,⟨_,zz _ rfl,rfl,rfl⟩,fun b hb=>?_,q⟩;cases zu.mp hb;exact I1.fpOk (za _) (I1.hok.fresh (za _))
end
theorem mU{x:Str}{n:Nat}{cap:List Nat}{te:TE}{σ:St}{H0:Hp}{Q:VK}(f:Nat->V)(hz:x.cps.size<=1000)(he:∀i c H,x.cps[i]?=some c->Same H0 H->∀R:VK,(∀H',Same H H'->R (f i) H')->te ((aS n cap σ).set 0 (some (.str ⟨#[c]⟩))) H R)(hq:∀p H,Same H0 H->H p=none->Q (.ref p) (upd H p (.lst ((List.range x.cps.size).map f)))):bJ n cap (bb 0) cK te σ (Its x) H0 Q:=by
 refine cY (N:=x.cps.size) (fun i=>.str ⟨#[x.cps.getD i 0]⟩) f hz (fun i H hi sm=>hi) (fun H sm=>za _) (fun i H v H' hi sm y=>?_) (fun i H hi sm R k=>?_) hq
 ·obtain⟨y1,c,hc,rfl⟩:=y;refine⟨y1,?_⟩;simp[zR,hc]
 ·have e:x.cps[i]?=some x.cps[i]:=by simp[hi]
  have:=he i _ H e sm R k;simpa[zR,e]using this
section
variable{X:Cx}
theorem qq:QCall X (.builtin "len") (fun xs H Q=>∃x:Str,xs=[.str x]/\x.length<=1000/\Q (.int (x.length:Int)) H):=by refine⟨?_⟩;intro pins s σ H xs us Q I r h;obtain⟨x,rfl,hz,q⟩:=h;obtain⟨u,rfl,rx⟩:=bF r;obtain⟨t,rfl⟩:=rx;exact PyProof.Rows.len_str (by omega) ⟨.int x.length,H,I.tok _,⟨_,rfl⟩,q⟩
end
theorem bx:bootBuiltins "str" = some (.type "str"):=by decide +kernel
theorem mY{P:Program}{w:World}{K:PySem.W.Frag}{mg:Str->Option Value}{base:Heap}{k:Nat}{f:Addr}{fd:FuncData}{ps:List Str}:FnOk P w K mg base CX0 k f fd ps (fun _ _ _ _=>False):=⟨fun _ _ _ _ h=>h.elim,fun _ _ _ _ _ _ _ _ _ _ _ _ _ h=>h.elim⟩
inductive TV where
 |flat (v:V)
 |tup (xs:List V)
def iN:V->Value->Bool
 |.non,.none=>true
 |.bl b,.bool c=>b==c
 |.int i,.int j _=>i==j
 |.str x,.str y _=>x==y
 |_,_=>false
theorem ii:∀{v:V} {u:Value},iN v u=true->RelV v u:=by
 intro v u h;unfold iN at h;split at h
 ·exact rfl
 ·obtain rfl:=zT.mp h;exact rfl
 ·obtain rfl:=zT.mp h;exact⟨_,rfl⟩
 ·obtain rfl:=zT.mp h;exact⟨_,rfl⟩
 ·cases h
def jA:List V->List Value->Bool
 | [],[]=>true
 |v::vs,u::us=>iN v u&&jA vs us
 |_,_=>false
theorem fm:∀{vs:List V} {us:List Value},jA vs us=true->Vals vs us
 | [],[],_=>.nil
 |_::_,_::_,h=>by have h:=(zA _ _).mp h;exact .cons (ii h.1) (fm h.2)
 | [],_::_,h=>nomatch h
 |_::_,[],h=>nomatch h
def gi(K:PySem.W.Frag):TV->Value->Bool
 |.flat v,u=>iN v u
 | .tup xs,.ref a=>(match K.lookup a with
  |some o=>o.cls == .type "tuple"&&(match o.data with|.seq its _=>decide (its.size<=1000)&&jA xs its.toList|_=>false)
  | none=>false)
 |_,_=>false
def qk(K:PySem.W.Frag):TV->Value->Prop
 |.flat v,u=>RelV v u
 |.tup xs,u=>∃a,u=.ref a/\∀H,SqT K H a xs
theorem sQ{K:PySem.W.Frag}(d:TV)(u:Value)(h:gi K d u=true):qk K d u:=by
 unfold gi at h;split at h
 ·exact ii h
 ·rename_i xs a;split at h
  ·rename_i o ho;obtain⟨e1,e2⟩:=(zA _ _).mp h;split at e2
   ·rename_i its n hd;obtain⟨e3,e4⟩:=(zA _ _).mp e2;exact⟨a,rfl,fun H=>.inr ⟨o,its,n,ho,zT.mp e1,hd,eG (of_decide_eq_true e3),fm e4⟩⟩
   ·cases e2
  ·cases h
 ·cases h
structure Tab(K:PySem.W.Frag)(a:Addr)(D:List (Str×TV)):Prop where
 look:KTD.tabLook (gi K) (fun b=>K.lookup b) a D=true
theorem Tab.at{K:PySem.W.Frag}{a:Addr}{D:List (Str×TV)}(T:Tab K a D){h:Heap}(X:K.In h):KTD.TabOf (qk K) h a D:=KTD.tab_of_look sQ (fun b o e=>X b o e) T.look
section
variable{prog:Program}{w:World}{A:Around}{E:Value->Shared->Prop}{s:Shared}{d:Addr}{o:Obj}{es:Array DictEntry}{ep:Nat}{x:Str}{tx:Tok}
theorem ki{Q:Option Value->Shared->Prop}(ho:s.heap.get? d=some o)(hd:o.data=.dict es ep)(hall:(es.all fun e=>isExactStrKey e.key)=true)(h:Q ((es.toList.find? fun e=>e.key.isStr x).map (·.val)) { s with toks:=s.toks+1 }) :
  wpAny (model prog w) A (dictGet d (.str x tx)) Q E s:=by
 unfold dictGet;(try with_reducible (refine wpAny_holding ?_))
 refine zt (wpAny_pyHash_str (zt (KTD.kt_dictFind_strs (s:={ s with toks:=s.toks+1 }) ho hd hall ?_)));have hq:Q (findBy (fun y v=>v.isStr y) es x) { s with toks:=s.toks+1 }:=by
  have hf:findBy (fun y v=>v.isStr y) es x=(es.toList.find? fun e=>e.key.isStr x).map (·.val):=by obtain⟨l⟩:=es;simp[findBy]
  rw[hf];exact h
 rw[findBy_of_findIdx?]at hq;cases hi:es.findIdx? fun e=>e.key.isStr x<;>rw[hi]at hq
 ·exact zw hq
 ·exact zt (wpAny_dictEntries (s:={ s with toks:=s.toks+1 }) ho hd (zw hq))
theorem rN{Q:Value->Shared->Prop}(sy:(d==sysModules)=false)(ex:o.ExactDict)(ho:s.heap.get? d=some o)(hd:o.data=.dict es ep)(hall:(es.all fun e=>isExactStrKey e.key)=true)(h:Q (.bool ((es.toList.find? fun e=>e.key.isStr x).map (·.val)).isSome) { s with toks:=s.toks+1 }):wpAny (model prog w) A (compareOp .In (.str x tx) (.ref d)) Q E s:=by
 have T:s.TypeIs (.ref d) "dict":=⟨o,ho,ex.1⟩
 show wpAny _ _ (do return .bool (←contains (.ref d) (.str x tx))) Q E s;refine zt ?_;unfold contains;(try with_reducible (refine wpAny_holding ?_))
 refine zt (wpAny_specialOf T slot_dict_contains.lookup ?_);show wpAny _ _ (if(some (Value.builtin "dict.__contains__")==some Value.none)=true then _ else _) _ _ _;rw[o6 (by rw[beq_builtin_none];decide)];refine zt (wpAny_callSpecialUnlessNone?_slot (name:=Str.ofString "__contains__") T slot_dict_contains (wpAny_call_entry slot_dict_contains T entry_dict_contains ?_ (args_dict_contains _ _)));show wpAny _ _ (dictGet d (.str x tx) >>= _) _ _ _;refine zt (ki ho hd hall ?_);cases hv:(es.toList.find? fun e=>e.key.isStr x).map (·.val)with
 |some v =>rw[hv]at h;show wpAny _ _ (ret (.bool true)) _ _ _;exact zw ⟨_,rfl,zO (zw h)⟩
 |none =>rw[hv]at h;show wpAny _ _ (Builtin.Dict.pendingKey? d (.str x tx) >>= _) _ _ _;exact zt (wpAny_pendingKey_other sy (zw ⟨_,rfl,zO (zw h)⟩))
theorem on{Q:Value->Shared->Prop}{v:Value}(ex:o.ExactDict)(ho:s.heap.get? d=some o)(hd:o.data=.dict es ep)(hall:(es.all fun e=>isExactStrKey e.key)=true)(hv:(es.toList.find? fun e=>e.key.isStr x).map (·.val)=some v)(h:Q v { s with toks:=s.toks+1 }):wpAny (model prog w) A (getItem (.ref d) (.str x tx)) Q E s:=by
 have T:s.TypeIs (.ref d) "dict":=⟨o,ho,ex.1⟩
 unfold getItem;(try with_reducible (refine wpAny_holding ?_))
 refine zt (wpAny_sequenceKey T (by decide) (zt (wpAny_callSpecial?_slot (name:=Str.ofString "__getitem__") T slot_dict_getitem (wpAny_call_entry slot_dict_getitem T entry_dict_getitem ?_ (args_dict_getitem _ _)))));show wpAny _ _ (dictGet d (.str x tx) >>= _) _ _ _;refine zt (ki ho hd hall ?_);rw[hv];exact zw ⟨v,rfl,zw h⟩
end
section
variable{X:Cx}
def rp(K:PySem.W.Frag):R2:=fun x y H Q=>∃a k D,x=.str k/\y=.ref a/\Tab K a D/\Q (.bl (KTD.datumAt k D).isSome) H
theorem pj:QOp X (compareOp .In) (rp X.K):=by
 refine⟨?_⟩;intro pins s σ H x y v u Q I rx ry h;obtain⟨a,k,D,rfl,rfl,T,q⟩:=h;obtain⟨t,rfl⟩:=rx;cases ry;obtain⟨sy,o,es,ep,ho,ex,hd,hr⟩:=T.at I.kIn;refine rN sy ex ho hd (by obtain⟨l⟩:=es;simpa using hr.exact) ⟨.bl (KTD.datumAt k D).isSome,H,I.tok _,?_,q⟩;cases e:KTD.datumAt k D with
 |none=>rw[hr.find_none e];rfl
 |some d=>obtain⟨v,hv,_⟩:=hr.find_some e;rw[hv];rfl
def rq(K:PySem.W.Frag):R2:=fun x y H Q=>∃a k D d,x=.ref a/\y=.str k/\Tab K a D/\KTD.datumAt k D=some d/\(match d with|.flat v=>Q v H|.tup xs=>∀t,(∀H',SqT K H' t xs)->Q (.ref t) H)
theorem oS:QIx X (rq X.K):=by
 refine⟨?_⟩;intro value slice pins s σ H x y v u Q I rx ry h hs;obtain⟨a,k,D,d,rfl,rfl,T,hk,q⟩:=h;obtain⟨t,rfl⟩:=ry;cases rx;obtain⟨sy,o,es,ep,ho,ex,hd,hr⟩:=T.at I.kIn;obtain⟨v,hv,ok⟩:=hr.find_some hk;have fin:EP X pins σ Q v { s with toks:=s.toks+1 }:=by
  cases d with
  |flat z=>exact⟨z,H,I.tok _,ok,q⟩
  |tup xs =>obtain⟨t,rfl,e⟩:=ok;exact⟨.ref t,H,I.tok _,rfl,q t e⟩
 exact subscriptTail_builtinR (x:=v) (⟨o,ho,ex.1⟩:s.TypeIs (.ref a) "dict") slot_dict_getitem.lookup (on (Q:=fun r s'=>r=v/\EP X pins σ Q r s') ex ho hd (by obtain⟨l⟩:=es;simpa using hr.exact) hv ⟨rfl,fin⟩) hs
theorem kO{x:Str}{a:Addr}{pos:Pos}(hm:X.mg x=some (.ref a))(hg:Gl X x:=by rfl)(hd:(x==("__debug__":Str))=false:=by decide):QE X (.Name x pos) (tC (.ref a)):=⟨gJ hg hm rfl hd⟩
end
open PySem PySem.Spec PyProof.Rows PySem.W
def CXr(P:Program)(w:World):CXT:=fun outer H s E e s' =>
 ∃(ea t:Addr) (C:Value) (vs:List Value) (B:Heap) (H':Hp) (dc:Option Addr),e=.ref ea/\s'.os=s.os/\AllBare s'.gens/\Un (frs outer) [] H H' s.heap s'.heap/\HOk P w H' s'.heap /\
  Heap.FlyingW B outer ea C (.ref t) s'.heap/\s'.heap.TupAt t vs/\B.get? t=none/\(∀b o,b∉frs outer->((∃u,H' b=some u)\/∃o0,s.heap.get? b=some o0)->s'.heap.get? b=some o->B.get? b=some o)/\lc s'.heap ea dc/\E C dc H'
structure ExCls(K:PySem.W.Frag)(C:Addr):Prop where
 cls:∀h,K.In h->∃nm q N bs bm hdct sn sub ab col dd k0 k1 k2 k3 k5 mN,h.get? C=some (excClassObj nm q C N bs bm hdct sn sub ab col dd k0 k1 k2 k3 k5 "ValueError.__new__")/\h.Ns N mN/\mN "__init__" = none/\bm.contains (.type "BaseException")=true /\
  OwnTail h [.type "ValueError",.type "Exception",.type "BaseException",.type "object"] bm
open PySem PySem.Spec PyProof.Rows PySem.W
structure FnX(P:Program)(w:World)(K:PySem.W.Frag)(mg:Str->Option Value)(base:Heap)(k:Nat)(x:Str)(ps:List Str)(sp:Sp):Prop where
 ex:∃f fd,FnOk P w K mg base (CXr P w) k f fd ps sp/\mg x=some (.ref f)/\PySem.W.keepIn K (.ref f)=true/\Binds K fd ps []
def XP(X:Cx)(pins:List (Addr×Obj))(σ:St)(E:XK)(e:Value)(s':Shared):Prop:=∃s0 H0,Inv X pins σ H0 s0/\CXr X.prog X.w X.stack H0 s0 E e s'
abbrev TX:=St->Hp->VK->XK->Prop
structure QX(X:Cx)(e:Expr)(t:TX):Prop where
 h:∀(pins:List (Addr×Obj)) (s:Shared) (σ:St) (H:Hp) (Q:VK) (E:XK),Inv X pins σ H s->t σ H Q E->wpAny (model X.prog X.w) X.A (eval e X.env) (EP X pins σ Q) (XP X pins σ E) s
abbrev TSX:=Ends->St->Hp->XK->Prop
structure QSX(X:Cx)(st:Stmt)(t:TSX):Prop where
 h:∀(pins:List (Addr×Obj)) (s:Shared) (σ:St) (H:Hp) (D:Ends) (E:XK),Inv X pins σ H s->t D σ H E->wpAny (model X.prog X.w) X.A (exec st X.env) (SP X pins D) (XP X pins σ E) s
structure Fl(X:Cx)(H0 H':Hp)(s0 s':Shared)(B:Heap):Prop where
 os:s'.os=s0.os
 bare:AllBare s'.gens
 un:Un (frs X.stack) [] H0 H' s0.heap s'.heap
 hok:HOk X.prog X.w H' s'.heap
 kb:∀b o,b∉frs X.stack->((∃u,H' b=some u)\/∃o0,s0.heap.get? b=some o0)->s'.heap.get? b=some o->B.get? b=some o
structure ExC(K:PySem.W.Frag)(C:Addr)(bm:List Value):Prop where
 cls:∀h,K.In h->∃nm q N bs hdct sn sub ab col dd k0 k1 k2 k3 k5 ni,h.get? C=some (excClassObj nm q C N bs bm hdct sn sub ab col dd k0 k1 k2 k3 k5 ni)
 exc:bm.contains (.type "BaseException")=true
abbrev TH:=Ends->St->Value->Option Addr->Hp->Prop
structure QH(X:Cx)(hs:List ExceptHandler)(th:TH):Prop where
 h:∀(pins:List (Addr×Obj)) (s0:Shared) (H0:Hp) (σ:St) (D:Ends) (ea t:Addr) (C:Value) (B:Heap) (H':Hp) (dc:Option Addr) (s':Shared),Inv X pins σ H0 s0->Fl X H0 H' s0 s' B->Heap.FlyingW B X.stack ea C (.ref t) s'.heap->lc s'.heap ea dc->th D σ C dc H' ->
  wpAny (model X.prog X.w) X.A (handleBy (.ref ea) X.env hs) (SP X pins D) X.xe s'
open PySem PySem.Spec PyProof.Rows PySem.W
abbrev VE:List Value:=[.type "ValueError",.type "Exception",.type "BaseException",.type "object"]
structure ExcAt(K:PySem.W.Frag)(C:Addr)(bm:List Value):Prop where
 isIn:excIn K C VE "ValueError.__new__" = true
 mro:∃c d cd sl,K.lookup C=some ⟨c,d,.cls cd,sl⟩/\cd.mro=Value.ref C::bm
 exc:bm.contains (.type "BaseException")=true
structure ExK(K:PySem.W.Frag)(c:Addr):Prop where
 hc:(clsIn K c).isSome=true
 hga:findIn K (.ref c) "__getattribute__" = some (some (.builtin "BaseException.__getattribute__"))
 hgh:findIn K (.ref c) "__getattr__" = some none
 ha:findIn K (.ref c) "__class__" = some (some (.builtin "object.__class__"))
 hb:mroIn K c (.type "BaseException")=some true
 hm:mroIn K c (.type "object")=some true
open PySem PySem.Spec PyProof.Rows PySem.W
def am(i:Int):Str:=Str.ofString (toString i)
theorem iY:∀(f k n:Nat) (ds:List Char),n<10^(k+1)->(Nat.toDigitsCore 10 f n ds).length<=k+1+ds.length
 |0,k,n,ds,_=>by unfold Nat.toDigitsCore;omega
 |f+1,k,n,ds,h=>by
  unfold Nat.toDigitsCore;dsimp only;split
  ·rw[zn];omega
  ·rename_i hz;cases k with
   |zero =>have:n / 10=0:=Nat.div_eq_of_lt (by simpa using h);exact absurd this hz
   |succ k =>
    have h':n / 10<10^(k+1):=by rw[Nat.div_lt_iff_lt_mul (by decide)];rw[Nat.pow_succ]at h;exact h
    have:=iY f k (n / 10) (Nat.digitChar (n%10)::ds) h';rw[zn]at this;omega
theorem nl{i:Int}{k:Nat}(h:i.natAbs<10^(k+1)):(am i).length<=k+2:=by
 unfold am;rw[ofString_len];have nat:∀n:Nat,n<10^(k+1)->(Nat.repr n).length<=k+1:=fun n hn=>by unfold Nat.repr;rw[String.length_ofList];have:=iY (n+1) k n [] hn;exact this
 cases i with
 |ofNat n =>have:=nat n h;show(Nat.repr n).length<=_;omega
 |negSucc n =>have:=nat (n+1) h;show("-"++Nat.repr (n+1)).length<=_;rw[String.length_append];have:("-":String).length=1:=rfl;omega
section
variable{X:Cx}{K:PySem.W.Frag}
theorem jO(hK:X.K=K)(hc:X.calm=true)(dg:nsIn K cStatics "sys.int_max_str_digits" = some none):QCall X (.type "str") (fun xs H Q=>∃i:Int,xs=[.int i]/\i.natAbs<10^4300/\Q (.str (am i)) H):=by refine⟨?_⟩;subst hK;intro pins s σ H xs us Q I r h;obtain⟨i,rfl,hi,q⟩:=h;obtain⟨u,rfl,rx⟩:=bF r;obtain⟨t,rfl⟩:=rx;obtain⟨mc,hn,_⟩:=I.nolimit;exact str_of_int_or (I.ok.hd hc) ⟨mc,hn,ns_none_of I.kIn hn dg⟩ (fun _=>⟨.str (am i),H,I.tok _,⟨_,rfl⟩,q⟩) (fun z=>absurd hi (Nat.not_lt.mpr z))
def kQ(K:PySem.W.Frag):V->List V->Hp->VK->Prop:=fun x xs H Q=>∃(sep:Str) (p:Addr) (ys:List Str),x=.str sep/\xs=[.ref p]/\SqL K H p (ys.map V.str)/\(ys.map (·.length)).sum+ys.length*sep.length<=16777216/\Q (.str (Txt.join sep ys)) H
theorem kg:∀{ys:List Str} {us:List Value},Vals (ys.map V.str) us->StrsAre us ys
 | [],_,h=>by cases h;exact .nil
 |y::ys,_,h=>by
  cases h with
  |cons r1 r2 =>obtain⟨t,rfl⟩:=r1;exact .cons _ _ (kg r2)
theorem ph:MtR X "str.join" (kQ X.K):=by intro pins s σ H x xs v us Q I rx r h;obtain⟨sep,p,ys,rfl,rfl,hl,hz,q⟩:=h;obtain⟨t,rfl⟩:=rx;obtain⟨u,rfl,ru⟩:=bF r;cases ru;obtain⟨its,rv,pl,_⟩:=I.list hl;exact join_list pl.isList (by simpa using kg rv) hz fun t' k=>⟨.str _,H,I.tok _,⟨_,rfl⟩,q⟩
theorem fZ{o e:Expr}{to te:TE}{apos cpos:Pos}(ho:QE X o to)(he:QE X e te)(hs:aQ e=true:=by rfl)(hbase:attributeBase o "join" X.env (eval o X.env)=eval o X.env:=by rfl)(hline:(apos.endLine==cpos.line)=true:=by rfl) :
  QE X (.Call (.Attribute o "join" apos) [e] [] cpos) (tBM X.K "str" (kQ X.K) to (cw te cW)):=by
 have h1:=aO (es:=[]) (env:=X.env) hs;have h2:starEach ([]:List Expr) X.env=[]:=rfl;refine⟨fY PySem.F.plainAttrs_str PySem.F.slot_str_join PySem.F.type_str_join ph ho.h (eV he.h dq (hs:=h1)) (hbase:=hbase) (hfew:=?_) (hline:=hline) (hs:=h1) (hplain:=by rw[h2];rfl)⟩;rw[h1,h2];rfl
theorem aE:QOp X (binaryOp .Add) (fun x y H Q=>∃i j,x=.str i/\y=.str j/\i.length+j.length<=sizeLine/\Q (.str (i++j)) H):=⟨kM⟩
theorem sq:QOp X (compareOp .In) (fun x y H Q=>∃i j,x=.str i/\y=.str j/\Q (.bl (!(Builtin.Str.occurrences j i 0 j.length 1).isEmpty)) H):=by refine⟨?_⟩;intro pins s σ H x y v u Q I rx ry h;obtain⟨i,j,rfl,rfl,q⟩:=h;obtain⟨t,rfl⟩:=rx;obtain⟨t',rfl⟩:=ry;exact in_str ⟨.bl _,H,I,rfl,q⟩
end
open PySem PySem.Spec PyProof.Rows PySem.W
open PySem PySem.Spec PyProof.Rows PySem.W
open PySem PySem.Spec PyProof.Rows PySem.W
section
variable{X:Cx}
theorem so{K:PySem.W.Frag}(hK:X.K=K):QOp X (compareOp .In) (rIn K false):=by subst hK;exact⟨md⟩
end
open PySem PySem.Spec PyProof.Rows PySem.W
structure LtOk(lt:Nat->Nat->Bool):Prop where
 as:∀{a b},lt a b=true->lt b a=false
 tr:∀{a b c},lt b a=false->lt c b=false->lt c a=false
def gA(p:Array Nat)(k:Nat):Nat:=p.getD k 0
def Lx(lt:Nat->Nat->Bool)(a b:Nat):Prop:=lt b a=false/\(lt a b=true\/a<b)
section
variable{lt:Nat->Nat->Bool}(O:LtOk lt)
include O
end
structure Fx(N:Nat)(p:Array Nat)(m:Nat):Prop where
 sz:p.size=N
 hi:∀k,m<=k->k<N->gA p k=k
 lo:∀i,i<m->gA p i<m
section
variable{lt:Nat->Nat->Bool}(O:LtOk lt){N:Nat}
include O
structure Dn(lt:Nat->Nat->Bool)(p:Array Nat)(n q:Nat):Prop where
 hq:q+1<=n
 up:∀i j,i<j->j<n-(q+1)->Lx lt (gA p j) (gA p i)
 cr:∀i j,i<n-(q+1)->n-(q+1)<=j->j<n->lt (gA p j) (gA p i)=true
 eq:∀i j,n-(q+1)<=i->i<j->j<n->lt (gA p i) (gA p j)=false/\lt (gA p j) (gA p i)=false/\gA p i<gA p j
end
open PySem PySem.Spec PyProof.Rows PySem.W
open PySem PySem.Spec PyProof.Rows PySem.W
section
variable{X:Cx}{pins:List (Addr×Obj)}{σ:St}{H:Hp}{s:Shared}{h':Heap}
structure SK(X:Cx)(pins:List (Addr×Obj))(σ:St)(H1:Hp)(m:Str->Option Value)(kS D:Addr)(e1:Nat)(ks:List (List Int))(as:List Addr)(e:Nat)(H:Hp)(s:Shared):Prop where
 I:Inv X pins σ H s
 sm:Same H1 H
 fk:bu X pins H kS
 fd:bu X pins H D
 bk:X.base.get? kS=none
 bd:X.base.get? D=none
 hk:s.heap.get? kS=some (seqObj "list" (List.toArray (as.map Value.ref)) e)
 hd:s.heap.get? D=some (seqObj "list" #[] e1)
 ns:s.heap.Ns X.env.locals m
 keys:∀(i:Nat) (a:Addr) (k:List Int),as[i]?=some a->ks[i]?=some k->H a=some (.tup (k.map V.int))
end
open PySem PySem.Spec PyProof.Rows PySem.W
section
variable{X:Cx}{pins:List (Addr×Obj)}{σ:St}{H:Hp}{s:Shared}
structure ExOk(X:Cx)(b:Addr):Prop where
 old:b∈X.ex\/X.s₀.heap.get? b=none
 loc:b≠X.env.locals
 cel:∀x c,X.env.cells.lookup x=some c->c≠b
 bas:X.base.get? b=none
 fs:b∉X.fs
end
open PySem PySem.Spec PyProof.Rows PySem.W
open PySem PySem.Spec PyProof.Rows PySem.W
open PySem PySem.Spec PyProof.Rows PySem.W
open PySem PySem.Spec PyProof.Rows PySem.W
open PySem PySem.Spec PyProof.Rows PySem.W
section
variable{X:Cx}
structure QPs(X:Cx)(pos:Pos)(keys:List (Option Expr))(values:List Expr)(trs:List (TE×TE)):Prop where
 h:PPs X pos keys values trs
end
open PySem PySem.Spec PyProof.Rows PySem.W
open PySem PySem.Spec PyProof.Rows PySem.W
structure MFn(P:Program)(w:World)(K:PySem.W.Frag)(mg:Str->Option Value)(base:Heap)(k:Nat)(C:Addr)(m:Str)(ps:List Str)(sp:Sp):Prop where
 cl:Cls K C
 ex:∃f fd,FnOk P w K mg base CX0 k f fd ps sp/\Meth K C m f/\Binds K fd ps []
structure MkFn(P:Program)(w:World)(K:PySem.W.Frag)(mg:Str->Option Value)(base:Heap)(k:Nat)(C:Addr)(x:Str)(ps:List Str)(sp:Sp):Prop where
 cl:Cls K C
 mgC:mg x=some (.ref C)
 ex:∃f fd,FnOk P w K mg base CX0 k f fd ps sp/\Mk K C f/\Binds K fd ps []
section
variable{X:Cx}{k:Nat}{C:Addr}{m x f:Str}{p pos pos' apos:Pos}{o e value:Expr}{es:List Expr}{ps:List Str}{sp:Sp}{t:TA}{ta tv:TE}
theorem iG(he:QE X e ta)(hb:attributeBase e f X.env (eval e X.env)=eval e X.env:=by rfl):QE X (.Attribute e f pos) (rF X.K ta f):=⟨qQ he.h hb⟩
theorem oK(ha:QE X o ta)(hv:QE X value tv)(hs:swapsWith value (some (.Attribute o f pos')) pos.line X.env=pure false:=by rfl):QS X (.Assign [.Attribute o f pos'] value pos) (rA X.K ta tv f):=⟨rb ha.h hv.h hs⟩
theorem bA{pl:Sem Bool}(F:MFn X.prog X.w X.K X.mg X.base k C m ps sp)(hr:Room k X.A)(he:QE X o ta)(ha:QA X (e::es) t)(hs:(e::es).all aQ=true:=by rfl)(ht:eval (.Call (.Attribute o m apos) (e::es) [] pos) X.env=(do
   let ov ←eval o X.env
   standAt apos.atName
   let(f,first) ←holding [ov] (getMethod ov m pl)
   callWith pos f first (backTo pos (starEach (e::es) X.env)) (backToKw pos (keywordEach [] X.env))):=by rfl) :
  QE X (.Call (.Attribute o m apos) (e::es) [] pos) (iL C m sp [] E0 ta t):=by
 obtain⟨f,fd,G,hm,b⟩:=F.ex;rw[z3,zA]at hs;exact⟨pI (pl:=pl) he.h F.cl hm G hr b .nil iF ha.h (aO hs.1) (bD hs.2) ht⟩
theorem cj{pl:Sem Bool}(F:MFn X.prog X.w X.K X.mg X.base k C m ps sp)(hr:Room k X.A)(he:QE X o ta)(ht:eval (.Call (.Attribute o m apos) [] [] pos) X.env=(do
   let ov ←eval o X.env
   standAt apos.atName
   let(f,first) ←holding [ov] (getMethod ov m pl)
   callWith pos f first (backTo pos (starEach [] X.env)) (backToKw pos (keywordEach [] X.env))):=by rfl) :
  QE X (.Call (.Attribute o m apos) [] [] pos) (iL C m sp [] E0 ta cW):=by
 obtain⟨f,fd,G,hm,b⟩:=F.ex;exact⟨nJ (pl:=pl) he.h F.cl hm G hr b .nil iF ht⟩
theorem ro(F:MkFn X.prog X.w X.K X.mg X.base k C x ps sp)(hr:Room (k+1) X.A)(ha:QA X (e::es) t)(hg:Gl X x:=by rfl)(hs:(e::es).all aQ=true:=by rfl)(hdb:(x==("__debug__":Str))=false:=by decide) :
  QE X (.Call (.Name x p) (e::es) [] pos) (oO C sp [] E0 t):=by
 obtain⟨f,fd,G,hm,b⟩:=F.ex;rw[z3,zA]at hs;exact⟨pH hm G hr hg F.mgC b .nil iF ha.h hdb (aO hs.1) (bD hs.2)⟩
end
open PySem PySem.Spec PyProof.Rows PySem.W
open PySem PySem.Spec PyProof.Rows PySem.W
open PySem PySem.Spec PyProof.Rows PySem.W PySem.Builtin PySem.Builtin.ObjectAttr
def me:List Value->Bool
 |.ref _::r=>me r
 |l=>l==VE
structure ExS(K:PySem.W.Frag)(c:Addr):Prop where
 sa:findIn K (.ref c) "__setattr__" = some (some (.builtin "object.__setattr__"))
 ov:((clsIn K c).any fun cd=>me cd.mro&&cd.hasDict)=true
 ob:mroIn K c (.type "object")=some true
open PySem PySem.Spec PyProof.Rows PySem.W
open PySem PySem.Spec PyProof.Rows PySem.W
def qu(K:PySem.W.Frag)(C fI:Addr):Bool:=match K.lookup C with
 | some ⟨.type "type",_,.cls cd,sl⟩=>(match cd.mro,sl.toList with
  |.ref C'::bm,[_,_,_,_,some (.builtin n),_]=>C'==C&&n=="ValueError.__new__"&&!cd.hasDel&&tailIn K VE bm&&nsOkIn K cd.ns&&nsIn K cd.ns "__init__" == some (some (.ref fI))
  | _,_=>false)
 |_=>false
structure ExcAtI(K:PySem.W.Frag)(C fI:Addr)(bm:List Value):Prop where
 isIn:qu K C fI=true
 mro:∃c d cd sl,K.lookup C=some ⟨c,d,.cls cd,sl⟩/\cd.mro=Value.ref C::bm
 exc:bm.contains (.type "BaseException")=true
 fn:∃oI,K.lookup fI=some oI/\oI.cls=.type "function"
structure ExI(P:Program)(w:World)(K:PySem.W.Frag)(mg:Str->Option Value)(base:Heap)(k:Nat)(C:Addr)(bm:List Value)(ps:List Str)(sp:Sp):Prop where
 ex:∃fI fd,ExcAtI K C fI bm/\FnOk P w K mg base CX0 k fI fd ps sp/\Binds K fd ps []
open PySem PySem.Spec PyProof.Rows PySem.W
structure MFnX(P:Program)(w:World)(K:PySem.W.Frag)(mg:Str->Option Value)(base:Heap)(k:Nat)(C:Addr)(m:Str)(ps:List Str)(sp:Sp):Prop where
 cl:Cls K C
 ex:∃f fd,FnOk P w K mg base (CXr P w) k f fd ps sp/\Meth K C m f/\Binds K fd ps []
def exD(ea c:Addr)(dc:Option Addr):HO:=.ext fun h=>∃oe,h.get? ea=some oe/\oe.cls=.ref c/\oe.dict=dc/\notCls oe=true
open PySem PySem.Spec PyProof.Rows PySem.W
section
variable{K:PySem.W.Frag}{prog:Program}{w:World}{A:Around}{E:Value->Shared->Prop}{h:Heap}{g:Array GenState}{d:Drawn}{t:Nat}{os:OsState}{x D:Addr}{ox:Obj}{od:Option Obj}
theorem fO{tk:Tok}{Q:PySem.Fin->Shared->Prop}(X:K.In h)(I:InstAt h x ox D od)(ha:findIn K (.ref D) "__class__" = some (some (.builtin "object.__class__")))(hm:mroIn K D (.type "object")=some true)(hq:Q (.done (.ret (.ref D))) ⟨h,g,d,t,os⟩):wpAny (model prog w) A (Builtin.«object.__getattribute__» ⟨[.ref x,.str "__class__" tk],[]⟩) Q E ⟨h,g,d,t,os⟩:=by
 have hT5:(⟨h,g,d,t,os⟩:Shared).TypeIs (.builtin "object.__class__") "getset_descriptor":=F.typeOf_object_class;have L0:=I.type (M:=model prog w);have L3:=looks_findIn (M:=model prog w) X ha;have f5:=F.typeOf_object_class;have f6:=F.slot_gs_get.lookup;have f7:=F.slot_gs_set.lookup
 repeat(any_goals(first|assumption|with_reducible refine L0.at ?_|with_reducible refine L3.at ?_|wp_step))
 refine class_get (s:=⟨h,g,d,t,os⟩) X I hm ?_
 repeat(any_goals(first|assumption|wp_step))
theorem kz{M:Model}{nv:Value}{Q:Unit->Shared->Prop}(X:K.In h)(I:InstAt h x ox D od)(hb:mroIn K D (.type "BaseException")=some true)(hq:Q () ⟨h,g,d,t,os⟩) :
  wpAny M A (checkBuiltinCall "BaseException.__getattribute__" ⟨[.ref x,nv],[]⟩) Q E ⟨h,g,d,t,os⟩:=by
 have hk:builtinKind "BaseException.__getattribute__" = some .slot:=by decide +kernel
 have hs:splitId "BaseException.__getattribute__" = some ("BaseException","__getattribute__"):=by decide +kernel
 have ao:=F.args_bexc_ga (.ref x) nv;have L0:=I.type (M:=M);have L1:=looks_mroIn (M:=M) X hb;simp only[checkBuiltinCall,hk,hs];refine zt ?_;unfold isInstance
 repeat(first|with_reducible refine L0.at ?_|with_reducible refine L1.at ?_|wp_step)
 exact hq
theorem kA{Q:Option Value->Shared->Prop}(X:K.In h)(I:InstAt h x ox D od)(hga:findIn K (.ref D) "__getattribute__" = some (some (.builtin "BaseException.__getattribute__")))(hgh:findIn K (.ref D) "__getattr__" = some none)(ha:findIn K (.ref D) "__class__" = some (some (.builtin "object.__class__")))(hb:mroIn K D (.type "BaseException")=some true)(hm:mroIn K D (.type "object")=some true)(hq:Q (some (.ref D)) ⟨h,g,d,t+1,os⟩) :
  wpAny (model prog w) A (getAttr? (.ref x) "__class__") Q E ⟨h,g,d,t,os⟩:=by
 have L0:=I.type (M:=model prog w);have L1:=looks_findIn (M:=model prog w) X hga;have L2:=looks_findIn (M:=model prog w) X hgh;have f3:=F.excAttr_ValueError.ga.bind (.ref x);have ne:(Value.builtin "BaseException.__getattribute__" == Value.builtin "object.__getattribute__")=false:=by decide +kernel
 have ne1:(onTheHeap (Value.ref D)&&Value.builtin "BaseException.__getattribute__" == Value.builtin "object.__getattribute__")=false:=by rw[ne];rfl
 have ne2:(false&&onTheHeap (Value.builtin "BaseException.__getattribute__"))=false:=rfl;unfold getAttr? getAttrBy?
 repeat(any_goals(first|assumption|with_reducible refine L0.at ?_|with_reducible refine L1.at ?_|with_reducible refine L2.at ?_|wp_step))
 refine codeAny_call_builtin F.excAttr_ValueError.ga.plain F.entry_bexc_ga (kz X I hb (fO X I ha hm ?_))
 repeat(any_goals(first|assumption|wp_step))
end
theorem lQ{K:PySem.W.Frag}{x c:Addr}{ox:Obj}{od:Option Obj}(k:ExK K c):KitX K (.ref x) (.ref c) (fun h=>InstAt h x ox c od) where
 ty:=fun _ _ _ I=>I.type
 it:=fun _ _ X _=>by
  obtain⟨cd,hc⟩:=Option.isSome_iff_exists.mp k.hc;unfold clsIn at hc;split at hc
  ·rename_i ho;intro A' Q' E' s' kp q;unfold isType loadHead;exact zt (wpAny_loadPart (kp _ _ (X _ _ ho)) (zw q))
  ·cases hc
 ne:=fun h tp dd its n sl X htp=>by
  obtain⟨cd,hc⟩:=Option.isSome_iff_exists.mp k.hc;refine Bool.eq_false_iff.mpr fun q=>?_;have e:c=tp:=Value.ref.inj (zT.mp q);cases e;unfold clsIn at hc;split at hc
  ·rename_i ho;exact nomatch((X _ _ ho).symm.trans htp)
  ·cases hc
 ca:=fun{_ _ _ _ _ s} X I kq=>by obtain⟨hp,g,d,tt,os⟩:=s;exact kA X I k.hga k.hgh k.ha k.hb k.hm kq
def mG(H:Hp):Option Addr->Prop
 |none=>True
 |some d=>∃fs,H d=some (.xd fs)
section
variable{X:Cx}{pins:List (Addr×Obj)}{σ:St}{H:Hp}{s:Shared}
theorem lE{a c:Addr}{dc:Option Addr}(I:Inv X pins σ H s)(ha:H a=some (exD a c dc))(hd:mG H dc):∃oe od,InstAt s.heap a oe c od/\∀d,dc=some d->∃o,od=some o/\s.heap.get? d=some o:=by
 obtain⟨⟨oe,h1,h2,h3,h4⟩,_⟩:=(show ObjOk X.prog X.w H s.heap a (exD a c dc)from I.hok a _ ha)
 cases dc with
 |none=>exact⟨oe,none,⟨h1,h2,h4,by rw[h3];exact True.intro⟩,fun d z=>nomatch z⟩
 |some d =>obtain⟨fs,hf⟩:=hd;obtain⟨o,ho⟩:=jl (I.hok d _ hf);exact⟨oe,some o,⟨h1,h2,h4,by rw[h3];exact ho⟩,fun d' z=>by cases z;exact⟨o,rfl,ho⟩⟩
end
open PySem PySem.Spec PyProof.Rows PySem.W
open PySem PySem.Spec PyProof.Rows PySem.W
theorem qp{X:Cx}:QCall X (.builtin "isinstance") (fun xs H Q=>∃ (x T:V) (u:Value) (b:Bool),xs=[x,T]/\(∀ v,RelV T v->v=u) /\
  ((∃ t,TyOf X.K H x t/\PySem.W.kitOne X.K t u=some b)\/∃ (a c:Addr) (dc:Option Addr),x=.ref a/\H a=some (exD a c dc)/\mG H dc/\ExK X.K c/\PySem.W.kitOne X.K (.ref c) u=some b)/\Q (.bl b) H):=by
 refine⟨?_⟩;intro pins s σ H xs us Q I r h;obtain⟨x,T,u,b,rfl,ht,hh,q⟩:=h;obtain⟨v,w',rfl,rx,ry⟩:=oR r;cases ht w' ry;rcases hh with⟨t,ty,e⟩|⟨a,c,dc,rfl,ha,hd,k,e⟩
 ·exact hX I rx ty e fun tk=>⟨.bl b,H,I.tok tk,rfl,q⟩
 ·cases rx;obtain⟨oe,od,ia,_⟩:=lE I ha hd;exact zK (lQ k) I.kIn ia e (fun z=>nomatch z) fun tk=>⟨.bl b,H,I.tok tk,rfl,q⟩
open PySem PySem.Spec PyProof.Rows PySem.W
structure LamOk(P:Program)(w:World)(K:PySem.W.Frag)(mg:Str->Option Value)(base:Heap)(k:Nat)(qual:Str)(body:Expr)(scope:Scope)(x:Str)(sp:Sp):Prop where
 ex:∃N:List Str,FnScope N [x] scope/\(∀vs H Q E,sp vs H Q E->vs.length=1)/\∀(f c':Addr) (A:Around) (outer:List Env) (s:Shared) (H:Hp) (vs:List V) (Q:VK) (E:XK),Room k (A.deeper (envOfC qual scope s.heap.objs.size f (.ref c')))->sp vs H Q E ->
  ∃t,QE (dz CX0 P w K mg base N qual scope f (.ref c') A outer s H E) body t/\t (bW N vs) H Q
open PySem PySem.Spec PyProof.Rows PySem.W
open PySem PySem.Spec PyProof.Rows PySem.W
inductive SKey where
 |i (n:Int)|s (t:Str)|bi (b:Bool)(n:Int)
def SKey.at(H:Hp):SKey->V->Prop
 |.i n,v=>v=.int n
 |.s t,v=>v=.str t
 |.bi b n,v=>∃a,v=.ref a/\H a=some (.tup [.bl b,.int n])
section
variable{X:Cx}{pins:List (Addr×Obj)}{σ:St}{H:Hp}{s:Shared}{h':Heap}
structure SG(X:Cx)(pins:List (Addr×Obj))(σ:St)(H1:Hp)(m:Str->Option Value)(kS D:Addr)(e1:Nat)(ks:List SKey)(as:List V)(us:List Value)(e:Nat)(H:Hp)(s:Shared):Prop where
 I:Inv X pins σ H s
 sm:Same H1 H
 fk:bu X pins H kS
 fd:bu X pins H D
 bk:X.base.get? kS=none
 bd:X.base.get? D=none
 hk:s.heap.get? kS=some (seqObj "list" (List.toArray us) e)
 hd:s.heap.get? D=some (seqObj "list" #[] e1)
 ns:s.heap.Ns X.env.locals m
 vals:Vals as us
 keys:∀(i:Nat) (a:V) (k:SKey),as[i]?=some a->ks[i]?=some k->k.at H a
end
open PySem PySem.Spec PyProof.Rows PySem.W
structure LamScope(x y:Str)(sc:Scope):Prop where
 kind:sc.kind=.function
 co:sc.isCoroutine=false
 gen:sc.isGenerator=false
 lx:sc.names.lookup x=some .local
 ly:sc.names.lookup y=some .free
 nc:∀z∈sc.names,z.2≠.cell
 nf:∀z∈sc.names,z.2=.free->z.1=y
 ne:x≠y
def cxX(CX:CXT)(P:Program)(w:World)(K:PySem.W.Frag)(mg:Str->Option Value)(base:Heap)(N:List Str)(qual:Str)(scope:Scope)(f:Addr)(cd:Value)(cl:List (Str×Addr))(A:Around)(outer:List Env)(s:Shared)(H:Hp)(E:XK):Cx where
 prog:=P
 w:=w
 K:=K
 mg:=mg
 base:=base
 A:=A.deeper (envX qual scope s.heap.objs.size f cd cl)
 N:=N
 s₀:=s
 H₀:=H
 env:=envX qual scope s.heap.objs.size f cd cl
 outer:=outer
 stack:=envX qual scope s.heap.objs.size f cd cl::outer
 ex:=[]
 calm:=true
 fn:=fun _=>false
 pn:=[]
 xe:=fun e s'=>wpAny (model P w) (A.deeper (envX qual scope s.heap.objs.size f cd cl)) (leaving (envX qual scope s.heap.objs.size f cd cl) e) (fun _ s''=>CX outer H s E e s'') (fun e' s''=>CX outer H s E e' s'') s'
open PySem PySem.Spec PyProof.Rows PySem.W
section
variable{X:Cx}{c P:Addr}{params:Arguments}{body:Expr}{scope:Scope}{pos:Pos}{cl:List (Str×Addr)}
structure LamOkX(P:Program)(w:World)(K:PySem.W.Frag)(mg:Str->Option Value)(base:Heap)(k:Nat)(qual:Str)(body:Expr)(scope:Scope)(x y:Str)(sp:V->Sp):Prop where
 sc:LamScope x y scope
 ex:∀(f c' c:Addr) (kv:V) (A:Around) (outer:List Env) (s:Shared) (H:Hp) (v:V) (Q:VK),Room k (A.deeper (envX qual scope s.heap.objs.size f (.ref c') [(y,c)]))->sp kv [v] H Q E0 ->
  ∃t,QE (cxX CX0 P w K mg base [x,y] qual scope f (.ref c') [(y,c)] A outer s H E0) body t/\t [some v,some kv] H Q
end
open PySem PySem.Spec PyProof.Rows PySem.W
open PySem PyProof.Rows PySem.W
open PySem PyProof.Rows PySem.W
section
variable{prog:Program}{w:World}{A:Around}{E:Value->Shared->Prop}{s:Shared}{κ:SortKind}{it:Array Keyed}{lt:Nat->Nat->Bool}{N:Nat}{st:SortSt}
def Zc(prog:Program)(w:World)(A:Around)(s:Shared)(κ:SortKind)(it:Array Keyed)(lt:Nat->Nat->Bool)(N:Nat):Prop :=
 ∀i j (C:Bool->Shared->Prop),i<N->j<N->C (lt i j) s->kas_cmp prog w A κ it i j C s
end
open PySem PyProof.Rows PySem.W
section
variable{lt:Nat->Nat->Bool}
structure MF(lt:Nat->Nat->Bool)(N:Nat)(a b:Array Nat):Prop where
 sa:∀i j,i<j->j<a.size->Lx lt (gA a i) (gA a j)
 sb:∀i j,i<j->j<b.size->Lx lt (gA b i) (gA b j)
 cr:∀i j,i<a.size->j<b.size->lt (gA b j) (gA a i)=false->Lx lt (gA a i) (gA b j)
 na:∀i,i<a.size->gA a i<N
 nb:∀i,i<b.size->gA b i<N
 a0:0<a.size
 b0:0<b.size
 fst:lt (gA b 0) (gA a 0)=true
 lst:∀j,j<b.size->lt (gA b j) (gA a (a.size-1))=true
variable{N:Nat}{a b:Array Nat}{f:Nat->Keyed}
end
open PySem PyProof.Rows PySem.W
open PySem PyProof.Rows PySem.W
open PySem PyProof.Rows PySem.W
open PySem PyProof.Rows PySem.W
section
variable{prog:Program}{w:World}{A:Around}{E:Value->Shared->Prop}{s:Shared}{κ:SortKind}{it:Array Keyed}{lt:Nat->Nat->Bool}{N:Nat}{st:SortSt}{pre u:Array Nat}
structure Zp(prog:Program)(w:World)(A:Around)(s:Shared)(κ:SortKind)(it:Array Keyed)(lt:Nat->Nat->Bool)(N:Nat)(st:SortSt)(pre:Array Nat)(n:Nat):Prop where
 Z:Zc prog w A s κ it lt N
 hk:kindOf st=κ
 hN:pre.size+n=N
 n0:0<n
end
open PySem PyProof.Rows PySem.W
section
variable{lt:Nat->Nat->Bool}(O:LtOk lt){N:Nat}
include O
end
open PySem PyProof.Rows PySem.W
section
variable{lt:Nat->Nat->Bool}
def ot(lt:Nat->Nat->Bool):Nat->List (List Nat)->List (Nat×Nat×Nat)->Prop
 |_,[],[]=>True
 |b,r::rs,t::ts=>t.1=b/\t.2.1=r.length/\0<r.length/\r.Pairwise (Lx lt)/\r.Perm (List.range' b r.length)/\ot lt (b+r.length) rs ts
 |_,_,_=>False
variable{prog:Program}{w:World}{A:Around}{E:Value->Shared->Prop}{s:Shared}{κ:SortKind}{it:Array Keyed}{N:Nat}{st:SortSt}
structure RI(κ:SortKind)(it:Array Keyed)(lt:Nat->Nat->Bool)(N lo:Nat)(T:List Nat)(p:Array Nat)(rs:List (List Nat))(st:SortSt):Prop where
 hk:kindOf st=κ
 hf:failedOf st=none
 ha:arrOf st=p.map (kas_item it)
 hp:p.toList=rs.flatten++T
 pm:p.toList.Perm (List.range N)
 rl:ot lt 0 rs (pendingOf st).toList
 hl:rs.flatten.length=lo
end
open PySem PyProof.Rows PySem.W
open PySem PySem.Spec PyProof.Rows PySem.W
theorem rD{n:Nat}(h:n<=4096):n<=sizeLine:=by rw[sizeLine_eq];omega
open PySem PySem.Spec PyProof.Rows PySem.W
inductive ZKey where
 |i (n:Int)|t (ns:List Int)|p (ps ns:List Int)
def ZKey.at(H:Hp):ZKey->V->Prop
 |.i n,v=>v=.int n
 |.t ns,v=>∃a,v=.ref a/\H a=some (.tup (ns.map V.int))
 |.p ps ns,v=>∃a b c,v=.ref a/\H a=some (.tup [.ref b,.ref c])/\H b=some (.tup (ps.map V.int))/\H c=some (.tup (ns.map V.int))
section
variable{X:Cx}{pins:List (Addr×Obj)}{σ:St}{H:Hp}{s:Shared}{h':Heap}
structure SGZ(X:Cx)(pins:List (Addr×Obj))(σ:St)(H1:Hp)(m:Str->Option Value)(kS D:Addr)(e1:Nat)(ks:List ZKey)(as:List V)(us:List Value)(e:Nat)(H:Hp)(s:Shared):Prop where
 I:Inv X pins σ H s
 sm:Same H1 H
 fk:bu X pins H kS
 fd:bu X pins H D
 bk:X.base.get? kS=none
 bd:X.base.get? D=none
 hk:s.heap.get? kS=some (seqObj "list" (List.toArray us) e)
 hd:s.heap.get? D=some (seqObj "list" #[] e1)
 ns:s.heap.Ns X.env.locals m
 vals:Vals as us
 keys:∀(i:Nat) (a:V) (k:ZKey),as[i]?=some a->ks[i]?=some k->k.at H a
end
open PySem PySem.Spec PyProof.Rows PySem.W
open PySem PySem.Spec PyProof.Rows PySem.W
open PySem PySem.Spec PyProof.Rows PySem.W
open PySem PySem.Spec PyProof.Rows PySem.W
end L2
set_option maxHeartbeats 4000000
namespace PySem
open Sem (wp)
section
variable{prog:Program}{w:World}{K:Type}[DecidableEq K]{knd:KeyKind prog w K}
structure PairAt(knd:KeyKind prog w K)(h:Heap)(p:Addr×List K×Addr×Value):Prop where
 tup:∃o n,h.get? p.1=some o/\o.cls=.type "tuple"/\o.data=.seq #[.ref p.2.2.1,p.2.2.2] n
 key:IsTupleKey knd h p.2.1 p.2.2.1
variable{A:Around}{R:Result->Shared->Prop}
end
end PySem
namespace L2
open PySem PySem.Spec PyProof.Rows PySem.W
open PySem PySem.Spec PyProof.Rows PySem.W
open PySem PySem.Spec PyProof.Rows PySem.W
open PySem PySem.Spec PyProof.Rows PySem.W
open PySem PySem.Spec PyProof.Rows PySem.W
open PySem PySem.Spec PyProof.Rows PySem.W
open PySem PySem.Spec PyProof.Rows PySem.W
open PySem PySem.Spec PyProof.Rows PySem.W
open PySem PySem.Spec PyProof.Rows PySem.W
section
variable{X:Cx}{K:PySem.W.Frag}
def mm:V->List V->Hp->VK->Prop:=fun x xs H Q=>∃(z y:Str),x=.str z/\xs=[.str y]/\y.length=1/\z.length<=100000/\∀D,H D=none->Q (.ref D) (upd H D (.lst ((Txt.split z y).map V.str)))
theorem ie:∀{l:List (Str×Tok)} {ys:List Str},l.map (·.1)=ys->Vals (ys.map V.str) (strValues l)
 | [],ys,e=>by subst e;exact .nil
 |p::l,ys,e=>by subst e;exact .cons ⟨p.2,rfl⟩ (ie (l:=l) rfl)
theorem mw(x y:Str):(Txt.split x y).length<=x.length+2:=by
 unfold Txt.split;split
 ·simp
 ·split
  ·simp
  ·rw[length_partsBetween];have:=StrLaws.occ_length_le x y 0 x.length (x.length+1);omega
theorem nz:MtR X "str.split" mm:=by
 intro pins s σ H x xs v us Q I rx r h;obtain⟨z,y,rfl,rfl,hy,hz,q⟩:=h;obtain⟨t,rfl⟩:=rx;obtain⟨u,rfl,ru⟩:=bF r;obtain⟨t2,rfl⟩:=ru;obtain⟨m,F0⟩:=I.fr;refine splitN1A F0 (jJ X.base s.heap X.env.locals) (by rw[hy];rfl) (fun l h' k e1 sa sh il F1 N1=>?_) (by rw[sizeLine_eq];omega);have hDs:s.heap.get? s.heap.objs.size=none:=Heap.get?_none_of_le (za _);have lz:=mw z y;refine⟨.ref s.heap.objs.size,_,I.laidF (t':=k) (o:=.lst ((Txt.split z y).map V.str)) (fun b o hL g=>?_) ⟨m,F0.ns,F1.ns⟩ hDs ⟨by rw[zd,sizeLine_eq];omega,_,0,ie e1,(N1 (s.heap.objs.size,_) (.head _)).1⟩,rfl,q _ (none_of I hDs)⟩;cases qb:X.base.get? b with
 |none=>exact(N1 (b,o) (.tail _ (kR g hL qb))).1
 |some o' =>have e':=I.bk b o' qb;rw[g]at e';cases e';exact F1.keep b o qb
theorem gN{o e:Expr}{to te:TE}{apos cpos:Pos}(ho:QE X o to)(he:QE X e te)(hs:aQ e=true:=by rfl)(hbase:attributeBase o "split" X.env (eval o X.env)=eval o X.env:=by rfl)(hline:(apos.endLine==cpos.line)=true:=by rfl) :
  QE X (.Call (.Attribute o "split" apos) [e] [] cpos) (tBM X.K "str" mm to (cw te cW)):=by
 have h1:=aO (es:=[]) (env:=X.env) hs;have h2:starEach ([]:List Expr) X.env=[]:=rfl;refine⟨fY PySem.F.plainAttrs_str PySem.F.slot_str_split PySem.F.type_str_split nz ho.h (eV he.h dq (hs:=h1)) (hbase:=hbase) (hfew:=?_) (hline:=hline) (hs:=h1) (hplain:=by rw[h2];rfl)⟩;rw[h1,h2];rfl
def gO:V->List V->Hp->VK->Prop:=fun x xs H Q=>∃(z y:Str),x=.str z/\xs=[.str y]/\Q (.bl (Txt.startswith z y)) H
theorem lU:MtR X "str.startswith" gO:=by intro pins s σ H x xs v us Q I rx r h;obtain⟨z,y,rfl,rfl,q⟩:=h;obtain⟨t,rfl⟩:=rx;obtain⟨u,rfl,ru⟩:=bF r;obtain⟨t2,rfl⟩:=ru;exact SC.startswith ⟨.bl _,H,I,rfl,q⟩
theorem nV{o e:Expr}{to te:TE}{apos cpos:Pos}(ho:QE X o to)(he:QE X e te)(hs:aQ e=true:=by rfl)(hbase:attributeBase o "startswith" X.env (eval o X.env)=eval o X.env:=by rfl)(hline:(apos.endLine==cpos.line)=true:=by rfl) :
  QE X (.Call (.Attribute o "startswith" apos) [e] [] cpos) (tBM X.K "str" gO to (cw te cW)):=by
 have h1:=aO (es:=[]) (env:=X.env) hs;have h2:starEach ([]:List Expr) X.env=[]:=rfl;refine⟨fY PySem.F.plainAttrs_str PySem.F.slot_str_startswith PySem.F.type_str_startswith lU ho.h (eV he.h dq (hs:=h1)) (hbase:=hbase) (hfew:=?_) (hline:=hline) (hs:=h1) (hplain:=by rw[h2];rfl)⟩;rw[h1,h2];rfl
theorem iU:QCall X (.type "int") (fun xs H Q=>∃(x:Str) (n:Int),xs=[.str x]/\PySem.intText? x=some n/\x.length<=640/\Q (.int n) H):=by refine⟨?_⟩;intro pins s σ H xs us Q I r h;obtain⟨x,n,rfl,hn,hl,q⟩:=h;obtain⟨u,rfl,rx⟩:=bF r;obtain⟨t,rfl⟩:=rx;exact KIN.call_text hn hl ⟨.int n,H,I.tok _,⟨_,rfl⟩,q⟩
end
open PySem PySem.Spec PyProof.Rows PySem.W
theorem bj{x y:Str}(h:x.cps.toList=y.cps.toList):x=y:=by cases x;cases y;congr 1;exact Array.toList_inj.mp h
theorem aD(x y:Str):(x++y).cps.toList=x.cps.toList++y.cps.toList:=by show(x.cps++y.cps).toList=_;rw[Array.toList_append]
def ch1(c:Nat):Str:=⟨#[c]⟩
theorem rV(c:Nat):(ch1 c).cps.toList=[c]:=rfl
theorem ja{c:Nat}:∀{a b x y:List Nat},c∉a->c∉b->a++c::x=b++c::y->a=b/\x=y
 | [],[],x,y,_,_,h=>by injection h with _ h;exact⟨rfl,h⟩
 | [],d::b,x,y,_,hb,h=>by injection h with h _;exact absurd (by rw[h];exact zq) hb
 |d::a,[],x,y,ha,_,h=>by injection h with h _;exact absurd (by rw[<-h];exact zq) ha
 |d::a,e::b,x,y,ha,hb,h=>by injection h with h1 h2;rw[zo,not_or]at ha hb;obtain⟨e1,e2⟩:=ja ha.2 hb.2 h2;exact⟨by rw[h1,e1],e2⟩
theorem cQ(c:Nat)(a b:Str)(r:List Str):(Str.join (ch1 c) (a::b::r)).cps.toList=a.cps.toList++c::(Str.join (ch1 c) (b::r)).cps.toList:=by have e:Str.join (ch1 c) (a::b::r)=a++ch1 c++Str.join (ch1 c) (b::r):=rfl;rw[e,aD,aD,rV];simp
theorem hZ{c:Nat}:∀{l m:List Str},l≠[]->m≠[]->(∀p∈l,c∉p.cps.toList)->(∀p∈m,c∉p.cps.toList)->Str.join (ch1 c) l=Str.join (ch1 c) m->l=m
 | [],_,h,_,_,_,_=>absurd rfl h
 |_,[],_,h,_,_,_=>absurd rfl h
 | [a],[b],_,_,_,_,h=>by rw[show a=b from h]
 | [a],b::b2::r,_,_,ha,_,h=>by have:=zJ Str.cps h;have:=zJ Array.toList this;rw[cQ]at this;exact absurd (show c∈a.cps.toList by rw[show a.cps.toList=_ from this];simp) (ha a (by simp))
 |a::a2::r,[b],_,_,_,hb,h=>by have:=zJ Str.cps h;have:=zJ Array.toList this;rw[cQ]at this;exact absurd (show c∈b.cps.toList by rw[show b.cps.toList=_ from this.symm];simp) (hb b (by simp))
 |a::a2::r,b::b2::r2,_,_,ha,hb,h=>by have:=zJ Str.cps h;have:=zJ Array.toList this;rw[cQ,cQ]at this;obtain⟨e1,e2⟩:=ja (ha a (by simp)) (hb b (by simp)) this;have ih:=hZ (l:=a2::r) (m:=b2::r2) (by simp) (by simp) (fun p hp=>ha p (zl _ hp)) (fun p hp=>hb p (zl _ hp)) (bj e2);rw[bj e1,ih]
theorem oj(x y:Str):Txt.split x y≠[]:=by
 unfold Txt.split;split
 ·simp
 ·split
  ·simp
  ·intro h;have:=zJ List.length h;rw[length_partsBetween]at this;simp at this
theorem gh{c:Nat}{l:List Str}(h:l≠[])(hf:∀p∈l,c∉p.cps.toList):Txt.split (Str.join (ch1 c) l) (ch1 c)=l :=
 hZ (oj _ _) h (StrLaws.split_free _ c) hf (StrLaws.join_split _ _)
open PySem PySem.Spec PyProof.Rows PySem.W
section
variable{X:Cx}{x:Str}{pos:Pos}
theorem tm{s:Str}{tk:Tok}(hm:X.mg x=some (.str s tk))(hg:Gl X x:=by rfl)(hd:(x==("__debug__":Str))=false:=by decide):QE X (.Name x pos) (tC (.str s)):=⟨gJ hg hm ⟨_,rfl⟩ hd⟩
end
open PySem PySem.Spec PyProof.Rows PySem.W
def dg(n:Nat):List Nat:=(Nat.toDigits 10 n).map Char.toNat
theorem dch{d:Nat}(h:d<10):(Nat.digitChar d).toNat=48+d:=by
 have:∀d:Nat,d<10->(Nat.digitChar d).toNat=48+d:=by decide
 exact this d h
theorem eM{n:Nat}(h:n<10):dg n=[48+n]:=by unfold dg;rw[Nat.toDigits_of_lt_base h,zv,dch h];rfl
theorem eO{n:Nat}(h:¬n<10):dg n=dg (n / 10)++[48+n%10]:=by have hm:n%10<10:=Nat.mod_lt n (by decide);have t:Nat.toDigits 10 (n / 10)++Nat.toDigits 10 (n%10)=Nat.toDigits 10 (10*(n / 10)+n%10):=Nat.toDigits_append_toDigits (by decide) (by omega) hm;rw[Nat.div_add_mod]at t;unfold dg;rw[<-t,List.map_append,Nat.toDigits_of_lt_base hm,zv,dch hm];rfl
theorem dY(n:Nat):∀c∈dg n,48<=c/\c<=57:=by
 induction n using Nat.strongRecOn with
 |_ n ih =>
  intro c hc;by_cases h:n<10
  ·rw[eM h]at hc;have:=zu.mp hc;omega
  ·rw[eO h]at hc;have hm:n%10<10:=Nat.mod_lt n (by decide);rcases zH.mp hc with hc|hc
   ·exact ih (n / 10) (by omega) c hc
   ·have:=zu.mp hc;omega
theorem iB(n:Nat):dg n≠[]:=by
 by_cases h:n<10
 ·rw[eM h];simp
 ·rw[eO h];simp
theorem jb:∀(k:Nat) {n:Nat},n<10^(k+1)->(dg n).length<=k+1
 |0,n,h=>by rw[eM (by simpa using h)];simp
 |k+1,n,h=>by
  by_cases c:n<10
  ·rw[eM c];simp
  ·rw[eO c,zc];have:=jb k (n:=n / 10) (by rw[Nat.div_lt_iff_lt_mul (by decide)];rw[Nat.pow_succ]at h;exact h);simp;omega
theorem oY(n:Nat):n≠0->(dg n).head?≠some 48:=by
 induction n using Nat.strongRecOn with
 |_ n ih =>
  intro h0;by_cases h:n<10
  ·rw[eM h];intro z;have:48+n=48:=zD z;omega
  ·rw[eO h];have:=ih (n / 10) (by omega) (by omega);cases e:dg (n / 10)with
   |nil=>exact absurd e (iB _)
   |cons a r =>rw[e]at this;exact this
theorem fB{i:Int}(h:0<=i):(am i).cps.toList=dg i.toNat:=by have:=KIN.signs_num i.toNat;rw[show((i.toNat:Nat):Int)=i by omega]at this;exact this
theorem jd{i:Int}(h:i<0):(am i).cps.toList=45::dg i.natAbs:=by
 obtain⟨n,rfl⟩:∃n,i=Int.negSucc n:=⟨(-i-1).toNat,by omega⟩
 have e:toString (Int.negSucc n)="-"++Nat.repr (n+1):=rfl;unfold am;rw[e,signs_ofString,String.toList_append,List.map_append];have e2:(Nat.repr (n+1)).toList=Nat.toDigits 10 (n+1):=by simp[Nat.repr]
 rw[e2];rfl
theorem cI{i:Int}(h:i.natAbs<10^60):PySem.intText? (am i)=some i:=by
 have hl:=jb 59 h;by_cases c:0<=i
 ·have e:=fB c;have e2:i.toNat=i.natAbs:=by omega
  have ln:(am i).length<=4300:=by show(am i).cps.size<=_;rw[<-zI,e,e2];omega
  have:=intText_digits (x:=am i) (by rw[e];exact dY _) (by rw[e];exact iB _) ln;rw[this,e];have v:=KIN.val_back i.toNat;show some ((NumText.digitsVal ((Nat.toDigits 10 i.toNat).map Char.toNat):Nat):Int)=_;rw[v];congr 1;omega
 ·have e:=jd (i:=i) (by omega);have ln:(am i).length<=4300:=by show(am i).cps.size<=_;rw[<-zI,e,zn];omega
  have:=intText_neg (x:=am i) e (dY _) (iB _) ln;rw[this];have v:=KIN.val_back i.natAbs;show some (-((NumText.digitsVal ((Nat.toDigits 10 i.natAbs).map Char.toNat):Nat):Int))=_;rw[v];congr 1;omega
theorem dD(i:Int):∀c∈(am i).cps.toList,c=45\/(48<=c/\c<=57):=fun c hc=>by
 by_cases h:0<=i
 ·rw[fB h]at hc;exact .inr (dY _ c hc)
 ·rw[jd (by omega)]at hc;rcases zo.mp hc with h|h
  ·exact .inl h
  ·exact .inr (dY _ c h)
theorem mx{x:Str}{c:Nat}:Txt.startswith x (ch1 c)=decide (x.cps.toList.head?=some c):=by
 obtain⟨a⟩:=x;show(decide (0+1<=a.size)&&(a.extract 0 (0+1) == #[c]))=_;rw[zY,zA,decide_eq_true_iff,decide_eq_true_iff,zT];constructor
 ·rintro⟨h1,h2⟩;have:=zJ Array.toList h2;rw[Array.toList_extract]at this;cases e:a.toList with
  |nil =>
   have:a.size=0:=by rw[<-zI,e];rfl
   omega
  |cons b r =>rw[e]at this;simp at this;rw[List.head?_cons,this]
 ·intro h;cases e:a.toList with
  |nil=>rw[e]at h;cases h
  |cons b r =>
   rw[e,List.head?_cons]at h;have hb:b=c:=zD h;have hs:a.size=r.length+1:=by rw[<-zI,e];rfl
   refine⟨by omega,?_⟩;apply Array.toList_inj.mp;rw[Array.toList_extract,e,hb];simp
theorem pp(x:Str)(c:Nat):(!(Builtin.Str.occurrences x (ch1 c) 0 x.length 1).isEmpty)=decide (c∈x.cps.toList):=by
 have h:=StrLaws.occ_head x (ch1 c) 1 (za _);have at_:∀k,StrLaws.At x (ch1 c) x.length k↔x.cps.toList[k]?=some c:=fun k=>by
  show(k+1<=x.cps.size/\(x.cps.extract k (k+1) == #[c])=true)↔_;rw[zT];constructor
  ·rintro⟨h1,h2⟩;have:=zJ Array.toList h2;rw[Array.toList_extract]at this;have hk:k<x.cps.toList.length:=by rw[zI];omega
   rw[ze hk];have e:(x.cps.toList.extract k (k+1))=[x.cps.toList[k]]:=by rw[List.extract_eq_drop_take,List.drop_eq_getElem_cons hk];simp
   rw[e]at this;simpa using this
  ·intro h;have hk:=(zp.mp h).1;rw[zI]at hk;refine⟨by omega,?_⟩;apply Array.toList_inj.mp;rw[Array.toList_extract,List.extract_eq_drop_take,List.drop_eq_getElem_cons (by rw[zI];exact hk)];have:=(zp.mp h).2;rw[this];simp
 rcases h with⟨e,no⟩|⟨i,r,e,a,_⟩
 ·rw[e];refine(decide_eq_false fun hm=>?_).symm;obtain⟨k,hk⟩:=List.getElem?_of_mem hm;exact no k ((at_ k).mpr hk)
 ·rw[e];exact(decide_eq_true (zQ ((at_ i).mp a))).symm
open PySem PySem.Spec PyProof.Rows PySem.W
theorem cc{X:Cx}{K:PySem.W.Frag}(hK:X.K=K):QCall X (.builtin "isinstance") (fun xs H Q=>∃ (x T:V) (u:Value) (b:Bool),xs=[x,T]/\(∀ v,RelV T v->v=u) /\
  ((∃ t,TyOf K H x t/\PySem.W.kitOne K t u=some b)\/∃ (a c:Addr) (dc:Option Addr),x=.ref a/\H a=some (exD a c dc)/\mG H dc/\ExK K c/\PySem.W.kitOne K (.ref c) u=some b)/\Q (.bl b) H):=by
 subst hK;exact qp
open PySem PySem.Spec PyProof.Rows PySem.W
open PySem PySem.Spec PyProof.Rows PySem.W
section
variable{prog:Program}{w:World}{A:Around}{E:Value->Shared->Prop}{s:Shared}
def sk(prog:Program)(w:World):Option (List Key)->Int
 |none=>0xFCA86420
 |some k=>(tupleKind (eT prog w)).hash k
def OIs(prog:Program)(w:World)(h:Heap):Option (List Key)->Value->Prop
 |none,v=>v=.none
 |some k,v=>∃a,v=.ref a/\(tupleKind (eT prog w)).is h k a
abbrev mI:=Option (List Key)×Value×Value
def qF(prog:Program)(w:World)(x:mI):DictEntry:=⟨sk prog w x.1,x.2.1,x.2.2⟩
structure ODict(prog:Program)(w:World)(h:Heap)(d:Addr)(o:Obj)(es:Array DictEntry)(ep:Nat)(xs:List mI):Prop where
 ho:h.get? d=some o
 hd:o.data=.dict es ep
 he:es.toList=xs.map (qF prog w)
 his:∀x∈xs,OIs prog w h x.1 x.2.1
 hn:(xs.map (·.1)).Nodup
end
open PySem PySem.Spec PyProof.Rows PySem.W
abbrev OK1:=Option (List Key×Addr)
def okD:OK1->Option (List Key)
 |none=>none
 |some p=>some p.1
def okV:OK1->Value
 |none=>.none
 |some p=>.ref p.2
def oE(e:OK1×Addr):mI:=(okD e.1,okV e.1,.ref e.2)
def odO(P:Program)(w:World)(d:Addr)(kls:List (OK1×Addr)):HO:=.ext fun h=>(d==sysModules)=false/\∃(o:Obj) (es:Array DictEntry) (ep:Nat),h.get? d=some o/\o.ExactDict/\o.data=.dict es ep/\es.toList=(kls.map oE).map (qF P w)
structure OdAt(P:Program)(w:World)(H:Hp)(d:Addr)(kls:List (OK1×Addr)):Prop where
 ob:H d=some (odO P w d kls)
 ks:∀e∈kls,∀p,e.1=some p->H p.2=some (.tup (p.1.map kV))
 nd:(kls.map fun e=>okD e.1).Nodup
open PySem PySem.Spec PyProof.Rows PySem.W
section
variable{X:Cx}{o e f:Expr}{apos cpos:Pos}{td ty tx to te:TE}
theorem nT(ho:QE X o to)(he:QE X e te)(hs:aQ e=true:=by rfl)(hbase:attributeBase o "extend" X.env (eval o X.env)=eval o X.env:=by rfl)(hline:(apos.endLine==cpos.line)=true:=by rfl) :
  QE X (.Call (.Attribute o "extend" apos) [e] [] cpos) (tBM X.K "list" jX to (cw te cW)):=by
 have h1:=aO (es:=[]) (env:=X.env) hs;have h2:starEach ([]:List Expr) X.env=[]:=rfl;refine⟨fY PySem.F.plainAttrs_list PySem.F.slot_list_extend PySem.F.type_list_extend lT ho.h (pa he.h dq hs) hbase ?_ hline h1 (by rw[h2];rfl)⟩;rw[h1,h2];rfl
end
open PySem PySem.Spec PyProof.Rows PySem.W
open PySem PySem.Spec PyProof.Rows PySem.W
open PySem PySem.Spec PyProof.Rows
open PySem PySem.Spec PyProof.Rows PySem.W
open PySem PySem.Spec PyProof.Rows PySem.W
open PySem PySem.Spec PyProof.Rows PySem.W
inductive IsF(a b:Str)(x:V)(R:V->Prop):Prop
 |mk (z:Str) (h0:x=.str z) (h1:a.length+z.length+b.length<=sizeLine) (q:R (.str (a++z++b))):IsF a b x R
def tF3(a:Str)(te:TE)(b:Str):TE:=fun σ H Q=>te σ H fun x H1=>IsF a b x fun v=>Q v H1
section
variable{X:Cx}
theorem rm{a b:Str}{e:Expr}{te:TE}{i j:Nat}{p1 p2 p3 pos:Pos}(he:QE X e te)(ha:a.length<=100:=by decide +kernel):QE X (.JoinedStr [.Constant (.str a) i p1,.FormattedValue e (-1) none p2,.Constant (.str b) j p3] pos) (tF3 a te b):=by
 refine⟨?_⟩;intro pins s σ H Q I h;refine wpAny_JoinedStr ?_;refine Calls.Constant_str ⟨a,_,rfl,?_,?_⟩
 ·rw[Str.empty_append];exact rD (by omega)
 rw[Str.empty_append];refine wpAny_FormattedValue_plain (thn (he.h pins _ σ H _ (I.tok _) h) fun u s1 hz=>?_);obtain⟨v,H1,I1,rv,z,rfl,hl,q⟩:=hz;obtain⟨t,rfl⟩:=rv;have hz1:(a++z).length<=sizeLine:=by rw[zy];omega
 have hz2:(a++z++b).length<=sizeLine:=by rw[zy,zy];omega
 have fin:∀(s2:Shared) (t2:Tok),Inv X pins σ H1 s2->Joins (model X.prog X.w) X.A X.xe (evalEach [.Constant (.str b) j p3] X.env) (a++z) (fun out s₁=>out.length<=sizeLine/\EP X pins σ Q (.str out s₁.toks) { s₁ with toks:=s₁.toks+1 }) s2:=fun s2 t2 I2 =>
  Calls.Constant_str ⟨b,_,rfl,hz2,hz2,.str (a++z++b),H1,(I2.tok _).tok _,⟨_,rfl⟩,q⟩
 refine wpAny_formatField_str ⟨z,_,rfl,hz1,fin _ t I1⟩ ⟨z,_,rfl,hz1,fin _ t (I1.tok _)⟩ (by omega)
theorem oa{o value:Expr}{f:Str}{op:Operator}{rd:V->V->Hp->VK->Prop}{tpos pos:Pos}{ta tv:TE}(ha:QE X o ta)(hv:QE X value tv)(hop:mH X op rd):QS X (.AugAssign (.Attribute o f tpos) op value pos) (jY X.K ta tv rd f):=⟨mj ha.h hv.h hop⟩
end
open PySem PySem.Spec PyProof.Rows PySem.W
inductive rStrA(xs:List V)(H:Hp)(Q:VK):Prop
 |int (i:Int) (h0:xs=[.int i]) (h1:i.natAbs<10^4300) (q:Q (.str (am i)) H):rStrA xs H Q
 |str (z:Str) (h0:xs=[.str z]) (q:Q (.str z) H):rStrA xs H Q
section
variable{X:Cx}{K:PySem.W.Frag}
theorem eJ(hK:X.K=K)(hc:X.calm=true)(dg:nsIn K cStatics "sys.int_max_str_digits" = some none):QCall X (.type "str") rStrA:=by
 refine⟨?_⟩;intro pins s σ H xs us Q I r h;cases h with
 |int i h0 hi q=>exact(jO hK hc dg).h pins s σ H xs us Q I r ⟨i,h0,hi,q⟩
 |str z h0 q =>subst h0;obtain⟨u,rfl,rx⟩:=bF r;obtain⟨t,rfl⟩:=rx;exact P.str_of_str ⟨.str z,H,I,⟨_,rfl⟩,q⟩
inductive rNeNil(K:PySem.W.Frag)(x y:V)(H:Hp)(Q:VK):Prop
 |mk (a b:Addr) (xs:List V) (h0:x=.ref a) (h1:y=.ref b) (ha:SqL K H a xs) (hb:SqL K H b []) (q:Q (.bl (!xs.isEmpty)) H):rNeNil K x y H Q
theorem jW(hK:X.K=K)(hu:X.A.units+64<cLine):QOp X (compareOp .NotEq) (rNeNil K):=by
 refine⟨?_⟩;subst hK;intro pins s σ H x y v u Q I rx ry h;obtain⟨a,b,xs,rfl,rfl,ha,hb,q⟩:=h;cases xs with
 |nil=>exact qM hu pins s σ H _ _ v u Q I rx ry ⟨a,b,[],[],rfl,rfl,ha,hb,q⟩
 |cons x xs =>cases rx;cases ry;obtain⟨its,r1,p1,_⟩:=I.list ha;obtain⟨its2,r2,p2,_⟩:=I.list hb;have l1:its.length=xs.length+1:=r1.length.symm;have l2:its2.length=0:=r2.length.symm;exact SeqAt.RcNeAt.lists_lengths p1.isList p2.isList (by simp[l1,l2]) (by omega) X.prog X.w X.xe _ ⟨.bl true,H,I,rfl,q⟩
end
end L2
set_option maxRecDepth 100000
set_option maxHeartbeats 4000000
namespace K52
open PySem L2
open PyProof.Rows (envOfC)
def top(i:Nat):Stmt:=PySem.Challenge.pw_limb_k52_questions_written_and_read.main.body.getD i (.Pass ⟨0,0,0,0⟩)
section
variable{P:Program}{w:World}{K:PySem.W.Frag}{mg:Str->Option Value}{base:Heap}
theorem cxK{CX:CXT}{N:List Str}{qual:Str}{scope:Scope}{f:Addr}{cd:Value}{A:Around}{outer:List Env}{s:Shared}{H:Hp}{E:XK}:(dz CX P w K mg base N qual scope f cd A outer s H E).nox.K=K:=rfl
theorem lG{K:PySem.W.Frag}{a:Addr}{xs:List V}{g:TG}{tb:L2.TS}{D:Ends}{σ:St}{H:Hp}(Pv:Nat->St->Hp->Prop)(h0:Pv 0 σ H)(hl:∀i σ H,i<=xs.length->Pv i σ H->SqL K H a xs)(hs:∀i x σ H,xs[i]?=some x->Pv i σ H->∀D':Ends,(∀σ' H',Pv (i+1) σ' H'->D'.nx σ' H')->g x σ H fun σ2 H2=>tb D' σ2 H2)(hd:∀σ H,Pv xs.length σ H->D.nx σ H) :
  ∃W:Nat->Nat->St->Hp->Prop,(∃m,W 0 m σ H)/\∀i m σ H,W i m σ H ->
   ((Itl K a).stop i H/\D.nx σ H)\/((Itl K a).go i H/\∃N:St->Hp->Prop,(∀σ' H',N σ' H'->∃m',m'<m/\W (i+1) m' σ' H')/\∀x H',(Itl K a).yld i H x H'->g x σ H' fun σ2 H2=>tb { D with nx:=N,ct:=N,bk:=D.nx } σ2 H2) :=
 mZ Pv h0 hl (fun i x σ H a b=>hs i x σ H a b _ fun _ _ z=>z) hd
theorem lF{K:PySem.W.Frag}{a:Addr}{xs:List V}{j:Nat}{tb:L2.TS}{D:Ends}{σ:St}{H:Hp}(Pv:Nat->St->Hp->Prop)(h0:Pv 0 σ H)(hl:∀i σ H,i<=xs.length->Pv i σ H->SqL K H a xs)(hs:∀i x σ H,xs[i]?=some x->Pv i σ H->∀D':Ends,(∀σ' H',Pv (i+1) σ' H'->D'.nx σ' H')->tb D' (σ.set j (some x)) H)(hd:∀σ H,Pv xs.length σ H->D.nx σ H) :
  ∃W:Nat->Nat->St->Hp->Prop,(∃m,W 0 m σ H)/\∀i m σ H,W i m σ H ->
   ((Itl K a).stop i H/\D.nx σ H)\/((Itl K a).go i H/\∃N:St->Hp->Prop,(∀σ' H',N σ' H'->∃m',m'<m/\W (i+1) m' σ' H')/\∀x H',(Itl K a).yld i H x H'->bb j x σ H' fun σ2 H2=>tb { D with nx:=N,ct:=N,bk:=D.nx } σ2 H2) :=
 lG Pv h0 hl hs hd
theorem at0{x:V}{r:List V}:atI (x::r) 0=some x:=bY (xs:=x::r) (j:=0) rfl
theorem at1{x y:V}{r:List V}:atI (x::y::r) 1=some y:=bY (xs:=x::y::r) (j:=1) rfl
theorem at2{x y z:V}{r:List V}:atI (x::y::z::r) 2=some z:=bY (xs:=x::y::z::r) (j:=2) rfl
theorem aG{c A B:Prop}[Decidable c](h:¬c)(hB:B):if decide c=true then A else B:=by rw[decide_eq_false h];exact aw hB
theorem gW{t u:L2.TS}{D:Ends}{σ:St}{H:Hp}(J:St->Hp->Prop)(h1:∀R:Ends,(∀σ' H',J σ' H'->R.nx σ' H')->t R σ H)(h2:∀σ' H',J σ' H'->u D σ' H'):kX t u D σ H:=h1 { D with nx:=u D } h2
end
def Sm(i:Int):Prop:=i.natAbs<10^60
theorem Sm.big{i:Int}(h:Sm i):i.natAbs<10^4300:=zk h (Nat.pow_le_pow_right (by decide) (by decide))
theorem Sm.len{i:Int}(h:Sm i):(am i).length<=62:=zh (nl (k:=59) h) (by decide)
theorem sd(sep x y:Str):Txt.join sep [x,y]=x++sep++y:=by rfl
theorem nr{sep:Str}{ys:List Str}(h:∀y∈ys,y.length<=8000)(hs:sep.length<=8)(hl:ys.length<=80):(ys.map (·.length)).sum+ys.length*sep.length<=16777216:=by
 have a:(ys.map (·.length)).sum<=ys.length*8000:=by
  clear hl;induction ys with
  |nil=>simp
  |cons y ys ih =>have:=ih fun z hz=>h z (zl _ hz);have:=h y zq;simp only[zv,z4,zn];omega
 have b:ys.length*sep.length<=ys.length*8:=Nat.mul_le_mul_left _ hs;omega
def mv:Sp:=fun vs H Q _=>∃(a:Addr) (ns:List Int) (sep:Str),vs=[.ref a,.str sep]/\H a=some (.tup (ns.map V.int))/\(∀n∈ns,Sm n)/\ns.length<=64/\sep.length<=1/\∀H',Same H H'->Q (.str (Txt.join sep (ns.map am))) H'
def mt(K:PySem.W.Frag):Sp:=fun vs H Q _=>∃(a:Addr) (ns:List Int) (k:Int),vs=[.ref a,.int k]/\SqL K H a (ns.map V.int)/\0<=k/\Q (.int (aY ns k.toNat)) H
def iI(K:PySem.W.Frag):Sp:=fun vs H Q _=>∃(a:Addr) (ns:List Int),vs=[.ref a]/\SqL K H a (ns.map V.int)/\ns.length<=63/\∀H',Q (.bl true) H'
section
variable{P:Program}{w:World}{K:PySem.W.Frag}{mg:Str->Option Value}{base:Heap}
theorem ol{f:Nat->Str}{n:Nat}:((List.range n).map fun i=>V.str (f i))=((List.range n).map f).map V.str:=by rw[List.map_map];rfl
theorem np{ns:List Int}:((List.range (ns.map V.int).length).map fun i=>am (aY ns i))=ns.map am:=by rw[zd];refine List.ext_getElem (by simp) fun i h1 h2=>?_;rw[List.getElem_map,List.getElem_map,List.getElem_range,iW]
abbrev bG:Stmt:=top 9
abbrev eZ:List Str:=["numbers","sign"]
theorem eF:FnScope eZ ["numbers","sign"] (ag bG):=⟨rfl,rfl,rfl,by decide +kernel,rfl,by decide +kernel,by decide +kernel⟩
theorem en{f:Addr}{fd:FuncData}(F:Fun K "written_numbers" "written_numbers" bG f fd)(dg:PySem.W.nsIn K cStatics "sys.int_max_str_digits" = some none)(b3:mg "str" = none):FnOk P w K mg base CX0 1 f fd ["numbers","sign"] mv:=by
 refine F.okQ eF (fun vs H Q E h=>?_) (fun cdv A outer s H vs Q E hr h=>?_)
 ·obtain⟨a,ns,sep,rfl,_⟩:=h;rfl
 obtain⟨a,ns,sep,rfl,hA,hs,hl,h1,q⟩:=h;refine⟨_,(b_1 (ah (fZ (q_v 1) (cR (own:=["number"]) (⟨rfl,by decide +kernel,by decide +kernel,rfl,trivial⟩:CompOk _ _ [] []) rfl (kD (q_v 0)) (fun _ _ _ _=>bh (i:=0) (show(["number"]:List Str).Nodup by decide +kernel)) (bt (by decide)) (fun _ _ _ _=>fA) (fun _ _ _ _=>(cg (jO (K:=K) rfl rfl dg) b3 bx (q_a (q_v 0) ad))))))),?_⟩;refine⟨_,rfl,rfl,_,rfl,a,rfl,⟨_,SqT.of hA⟩,?_⟩;refine fw (fun i=>.str (am (aY ns i))) (by rw[zd];omega) (SqT.of hA) (fun i x H1 hi sm R k=>?_) (fun p H1 sm hp=>?_)
 ·obtain⟨rfl,hj⟩:=je hi;exact⟨_,rfl,_,rfl,(hs _ (by rw[<-iW hj];exact List.getElem_mem hj)).big,k H1 (Same.refl H1)⟩
 ·rw[ol,np];refine⟨sep,p,ns.map am,rfl,rfl,SqL.of ac,nr (fun y hy=>?_) (by omega) (by rw[zd];omega),q _ (sm.trans (aa hp _))⟩;obtain⟨n,hn,rfl⟩:=List.mem_map.mp hy;have:=(hs n hn).len;omega
def cD(c:Nat):Bool:=decide (48<=c)&&decide (c<=57)
def cC(l:List Nat):Bool:=(decide (1<=l.length)&&decide (l.length<=60))&&l.all cD&&(decide (l=[48]) ||!decide (l.head?=some 48))
def FIG:Str:="0123456789"
theorem qv(c:Nat):decide (c∈FIG.cps.toList)=cD c:=by
 have e:FIG.cps.toList=[48,49,50,51,52,53,54,55,56,57]:=by decide +kernel
 rw[e];unfold cD;rw[zY,decide_eq_true_iff,zA,decide_eq_true_iff,decide_eq_true_iff];simp only[zo,zL,or_false];omega
def kU:Sp:=fun vs H Q _=>∃x:Str,vs=[.str x]/\x.length<=1000/\x.cps.all (·<128)=true/\∀H',Same H H'->Q (.bl (cC x.cps.toList)) H'
theorem mX(x:Str):(((List.range x.cps.size).map fun i=>cD (x.cps.getD i 0)).all id)=x.cps.toList.all cD:=by
 rw[List.all_map,zY,List.all_eq_true,List.all_eq_true];constructor
 ·intro h c hc;obtain⟨i,hi,rfl⟩:=List.getElem_of_mem hc;have hi':i<x.cps.size:=by simpa using hi
  have:=h i (List.mem_range.mpr hi');simpa[zR,hi']using this
 ·intro h i hi;have hi':=List.mem_range.mp hi;have:=h x.cps[i] (by simp);simpa[zR,hi']using this
theorem sX(x:Str):decide (V.str x=V.str "0")=decide (x.cps.toList=[48]):=by
 rw[decide_eq_decide];constructor
 ·intro h;injection h with h;rw[h];decide +kernel
 ·intro h;have:x="0":=bj (by rw[h];decide +kernel);rw[this]
abbrev cS:Stmt:=top 6
abbrev iO:List Str:=["text"]
theorem ix:FnScope iO ["text"] (ag cS):=⟨rfl,rfl,rfl,by decide +kernel,rfl,by decide +kernel,by decide +kernel⟩
theorem ir{f:Addr}{fd:FuncData}{t1 t2:Tok}(F:Fun K "is_figures" "is_figures" cS f fd)(a6:mg "len" = none)(d7:mg "all" = none)(e8:mg "MOST_FIGURES" = some (.int 60 t1))(j8:mg "FIGURES" = some (.str FIG t2)):FnOk P w K mg base CX0 1 f fd ["text"] kU:=by
 refine F.okQ ix (fun vs H Q E h=>?_) (fun cdv A outer s H vs Q E hr h=>?_)
 ·obtain⟨x,rfl,_⟩:=h;rfl
 obtain⟨x,rfl,hl,ha,q⟩:=h;refine⟨_,(b_c (ay (t_w (cX (cy (qa kI kI ae (q_B qq a6 zB (q_a (q_v 0) ad)) (nU e8))) (cz (cy (aP (q_B (oy rfl) d7 hU (q_a (cR (own:=["sign"]) (⟨rfl,by decide +kernel,by decide +kernel,rfl,trivial⟩:CompOk _ _ [] []) rfl (rX (q_v 0)) (fun _ _ _ _=>bh (i:=0) (show (["sign"]:List Str).Nodup by decide +kernel)) (bt (by decide)) (fun _ _ _ _=>fA) (fun _ _ _ _=>(bg sq (q_v 0) (tm j8)))) ad))))))) (b_1 (ah ci)) b_0)
   (b_1 (ah (tw (bg aF (q_v 0) af) (iH (sN (nV (q_v 0) af))))))),?_⟩
 have lx:x.cps.toList.length=x.length:=zI;have fin:∀H',Same H H'->x.cps.toList.all cD=true->1<=x.length->x.length<=60->∀R:VK,(∀b,b=cC x.cps.toList->R (.bl b) H')->om (tOp rEq (tVar 0) (tC (.str "0"))) (kW (tBM K "str" gO (tVar 0) (cw (tC (.str "0")) cW))) [some (.str x)] H' R:=fun H' s' h1 h2 h3 R hR=>by
  have fb:cC x.cps.toList=(decide (x.cps.toList=[48]) ||!decide (x.cps.toList.head?=some 48)):=by unfold cC;rw[h1,lx,decide_eq_true h2,decide_eq_true h3];rfl
  refine⟨_,rfl,rfl,_,rfl,?_⟩;rw[sX];cases e:decide (x.cps.toList=[48])with
  |true=>exact aC (hR _ (by rw[fb,e];rfl))
  |false =>refine aw ⟨_,rfl,rfl,x,"0",rfl,rfl,_,rfl,?_⟩;have es:Txt.startswith x "0" = decide (x.cps.toList.head?=some 48):=mx (c:=48);rw[es];exact hR _ (by rw[fb,e];rfl)
 refine⟨_,rfl,x,rfl,hl,_,_,rfl,rfl,_,rfl,?_⟩;refine qz (fun c=>?_) (fun c=>?_)
 ·have c1:1<=x.length:=by have:=of_decide_eq_true c;omega
  refine⟨_,_,rfl,rfl,_,rfl,?_⟩;by_cases c2:x.length<=60
  ·rw[decide_eq_true (show(x.length:Int)<=60 by omega)];refine aw ⟨_,rfl,x,rfl,ha,?_⟩;refine mU (x:=x) (fun i=>.bl (cD (x.cps.getD i 0))) hl (fun i c' H1 hi sm R k=>?_) (fun p H1 sm hp=>?_)
   ·have e:x.cps.getD i 0=c':=by rw[zR,hi];rfl
    rw[e]at k;have k':=k H1 (Same.refl H1);rw[<-qv,<-pp]at k';exact⟨_,rfl,⟨#[c']⟩,FIG,rfl,rfl,k'⟩
   ·refine⟨p,(List.range x.cps.size).map (fun i=>cD (x.cps.getD i 0)),rfl,SqL.of (by rw[ac,List.map_map];rfl),_,rfl,?_⟩;rw[mX];have sp:=sm.trans (aa hp (.lst ((List.range x.cps.size).map fun i=>V.bl (cD (x.cps.getD i 0)))));cases e:x.cps.toList.all cD with
    |true=>exact aw (fin _ sp e c1 c2 _ fun b hb=>by rw[hb];exact q _ sp)
    |false =>refine aC ?_;have q':=q _ sp;rw[show cC x.cps.toList=false by unfold cC;rw[e];simp]at q';exact q'
  ·rw[decide_eq_false (show¬(x.length:Int)<=60 by omega)];refine aC (aC ?_);have q':=q H (Same.refl H);rw[show cC x.cps.toList=false by unfold cC;rw[lx,decide_eq_false c2];simp]at q';exact q'
 ·have c1:¬1<=x.length:=fun z=>c (decide_eq_true (by omega));refine⟨_,rfl,aC (aC ?_)⟩;have q':=q H (Same.refl H);rw[show cC x.cps.toList=false by unfold cC;rw[lx,decide_eq_false c1];simp]at q';exact q'
end
theorem sS:¬(("words":Str)="spot"):=by decide +kernel
def db(l:Addr)(i:Nat):List (Str×V):=bp "spot" (.int (i:Int)) (bp "words" (.ref l) [])
theorem jn(l:Addr)(i:Nat):(db l i).lookup ("words":Str)=some (.ref l):=by unfold db;rw[bc,o6 sS,bc,o7 rfl]
theorem gP(l:Addr)(i:Nat):(db l i).lookup ("spot":Str)=some (.int (i:Int)):=by unfold db;rw[bc,o7 rfl]
theorem aH(l:Addr)(i:Nat){m:Str}(h1:¬m="spot")(h2:¬m="words"):(db l i).lookup m=none:=by
 unfold db;rw[bc,o6 h1,bc,o6 h2]
 all_goals rfl
inductive RdAt(C:Addr)(H:Hp)(p l:Addr)(ws:List Str)(i:Nat):Prop
 |mk (dx:Addr) (h0:H p=some (.ins C dx (db l i))) (h1:H l=some (.lst (ws.map V.str))) (h2:i<=ws.length) (h3:ws.length<=100000):RdAt C H p l ws i
structure Txt(K:PySem.W.Frag)(C:Addr):Prop where
 cl:Cls K C
 nW:NoAttr K C "words"
 nS:NoAttr K C "spot"
inductive spThrough(C:Addr)(vs:List V)(H:Hp)(Q:VK)(E_:XK):Prop
 |mk (p l:Addr) (ws:List Str) (i:Nat) (h0:vs=[.ref p]) (h1:RdAt C H p l ws i) (h2:Q (.bl (decide (i=ws.length))) H):spThrough C vs H Q E_
inductive spHere(C:Addr)(vs:List V)(H:Hp)(Q:VK)(E_:XK):Prop
 |mk (p l:Addr) (ws:List Str) (i:Nat) (h0:vs=[.ref p]) (h1:RdAt C H p l ws i) (h2:Q (.str (ws.getD i "")) H):spHere C vs H Q E_
inductive spGoOn(C:Addr)(vs:List V)(H:Hp)(Q:VK)(E_:XK):Prop
 |mk (p l:Addr) (ws:List Str) (i:Nat) (h0:vs=[.ref p,.bl true]) (h1:RdAt C H p l ws i) (h2:i<ws.length) (h3:∀H',(∀b o,H b=some o->b≠p->H' b=some o)->RdAt C H' p l ws (i+1)->Q .non H'):spGoOn C vs H Q E_
inductive spPasses(C:Addr)(vs:List V)(H:Hp)(Q:VK)(E_:XK):Prop
 |mk (p l:Addr) (ws:List Str) (i:Nat) (t:Str) (h0:vs=[.ref p,.str t]) (h1:RdAt C H p l ws i) (h2:t≠"") (h3:ws.getD i ""≠t->Q (.bl false) H) (h4:ws[i]?=some t->∀H',(∀b o,H b=some o->b≠p->H' b=some o)->RdAt C H' p l ws (i+1)->Q (.bl true) H'):spPasses C vs H Q E_
inductive spRInit(C:Addr)(vs:List V)(H:Hp)(Q:VK)(E_:XK):Prop
 |mk (p dx l:Addr) (ws:List Str) (h0:vs=[.ref p,.ref l]) (h1:H p=some (.ins C dx [])) (h2:H l=some (.lst (ws.map V.str))) (h3:ws.length<=100000) (h4:∀H',(∀b o,H b=some o->b≠p->H' b=some o)->RdAt C H' p l ws 0->Q .non H'):spRInit C vs H Q E_
section
variable{P:Program}{w:World}{K:PySem.W.Frag}{mg:Str->Option Value}{base:Heap}
abbrev bv:Stmt:=dj (top 14) 1
abbrev dP:List Str:=["self"]
theorem dO:FnScope dP ["self"] (ag bv):=⟨rfl,rfl,rfl,by decide +kernel,rfl,by decide +kernel,by decide +kernel⟩
theorem dJ{f C:Addr}{fd:FuncData}(F:Fun K "is_through" "Reader.is_through" bv f fd)(T:Txt K C)(a6:mg "len" = none):FnOk P w K mg base CX0 1 f fd ["self"] (spThrough C):=by
 refine F.okQ dO (fun vs H Q E h=>?_) (fun cdv A outer s H vs Q E hr h=>?_)
 ·obtain⟨p,l,ws,i,rfl,_⟩:=h;rfl
 obtain⟨p,l,ws,i,rfl,⟨dx,e0,e1,hi,hz⟩,q⟩:=h;refine⟨_,(b_1 (ah (bg aF (iG (q_v 0)) (q_B bn a6 zB (q_a (iG (q_v 0)) ad))))),?_⟩;have hd:decide (V.int (i:Int)=V.int ((ws.map V.str).length:Int))=decide (i=ws.length):=by
  rw[zd];by_cases c:i=ws.length
  ·rw[decide_eq_true c,c,decide_eq_true rfl]
  ·rw[decide_eq_false c,decide_eq_false fun z=>c (by injection z with z;omega)]
 rw[<-hd]at q;exact⟨_,rfl,p,C,dx,_,_,rfl,e0,T.cl,T.nS,gP l i,⟨_,rfl,p,C,dx,_,_,rfl,e0,T.cl,T.nW,jn l i,l,_,rfl,.inl (SqL.of e1),rfl,q⟩⟩
abbrev cF:Stmt:=dj (top 14) 2
abbrev io:List Str:=["self"]
theorem gS:FnScope io ["self"] (ag cF):=⟨rfl,rfl,rfl,by decide +kernel,rfl,by decide +kernel,by decide +kernel⟩
theorem gH{f C:Addr}{fd:FuncData}(F:Fun K "here" "Reader.here" cF f fd)(T:Txt K C)(c6:MFn P w K mg base 1 C "is_through" ["self"] (spThrough C)):FnOk P w K mg base CX0 2 f fd ["self"] (spHere C):=by
 refine F.okQ gS (fun vs H Q E h=>?_) (fun cdv A outer s H vs Q E hr h=>?_)
 ·obtain⟨p,l,ws,i,rfl,_⟩:=h;rfl
 obtain⟨p,l,ws,i,rfl,R,q⟩:=h;obtain⟨dx,e0,e1,hi,hz⟩:=id R;refine⟨_,(b_1 (ah (rn (aP (cj c6 (hr.mono (by decide)) (q_v 0))) af (ax aT (iG (q_v 0)) (iG (q_v 0)))))),?_⟩;refine⟨_,rfl,p,dx,_,rfl,e0,aH l i (by decide +kernel) (by decide +kernel),⟨p,l,ws,i,rfl,R,⟨_,rfl,bz (fun c=>?_) (fun c=>?_)⟩⟩⟩
 ·rw[zU,List.getElem?_eq_none (by omega)]at q;exact q
 ·have hl:i<ws.length:=by omega
  have ha:atI (ws.map V.str) (i:Int)=some (.str (ws.getD i "")):=bY (by rw[zP,zU,ze hl];rfl);exact⟨_,rfl,p,C,dx,_,_,rfl,e0,T.cl,T.nW,jn l i,⟨_,rfl,p,C,dx,_,_,rfl,e0,T.cl,T.nS,gP l i,⟨l,_,_,_,rfl,rfl,SqL.of e1,ha,q⟩⟩⟩
abbrev cm:Stmt:=dj (top 14) 3
abbrev gj:List Str:=["self","good"]
theorem gd:FnScope gj ["self","good"] (ag cm):=⟨rfl,rfl,rfl,by decide +kernel,rfl,by decide +kernel,by decide +kernel⟩
theorem fW{f C:Addr}{fd:FuncData}(F:Fun K "go_on" "Reader.go_on" cm f fd)(T:Txt K C):FnOk P w K mg base CX0 1 f fd ["self","good"] (spGoOn C):=by
 refine F.okQ gd (fun vs H Q E h=>?_) (fun cdv A outer s H vs Q E hr h=>?_)
 ·obtain⟨p,l,ws,i,rfl,_⟩:=h;rfl
 obtain⟨p,l,ws,i,rfl,R,hlt,q⟩:=h;obtain⟨dx,e0,e1,hi,hz⟩:=id R;refine⟨_,(b_c (ay (cy (aP (q_v 1))) (b_1 jZ) b_0)
   (b_1 (oa (q_v 0) ae qy))),?_⟩
 refine⟨_,rfl,⟨_,rfl,aw ?_⟩⟩;have npl:l≠p:=fun z=>by rw[z,e0]at e1;cases e1
 refine⟨_,rfl,p,C,dx,_,_,rfl,e0,T.cl,T.nS,gP l i,_,_,rfl,rfl,dx,_,e0,?_,?_⟩
 ·show 2<1000;decide
 ·exact q _ (fun b o e n=>by rw[ai n];exact e) ⟨dx,ac,by rw[ai npl];exact e1,hlt,hz⟩
abbrev bT:Stmt:=dj (top 14) 4
abbrev fJ:List Str:=["self","word","found"]
theorem cV:FnScope fJ ["self","word"] (ag bT):=⟨rfl,rfl,rfl,by decide +kernel,rfl,by decide +kernel,by decide +kernel⟩
theorem fE{f C:Addr}{fd:FuncData}(F:Fun K "passes" "Reader.passes" bT f fd)(c8:MFn P w K mg base 2 C "here" ["self"] (spHere C))(b6:MFn P w K mg base 1 C "go_on" ["self","good"] (spGoOn C)):FnOk P w K mg base CX0 3 f fd ["self","word"] (spPasses C):=by
 refine F.okQ cV (fun vs H Q E h=>?_) (fun cdv A outer s H vs Q E hr h=>?_)
 ·obtain⟨p,l,ws,i,t,rfl,_⟩:=h;rfl
 obtain⟨p,l,ws,i,t,rfl,R,ht,q1,q2⟩:=h;obtain⟨dx,e0,e1,hi,hz⟩:=id R;refine⟨_,(b_c (ar (i:=2) cV.nd (bg aF (cj c8 (hr.mono (by decide)) (q_v 0)) (q_v 1)))
   (b_c (ay (aP (q_v 2)) (b_1 (bU (bA b6 (hr.mono (by decide)) (q_v 0) (q_a ci ad)))) b_0)
   (b_1 (ah (q_v 2))))),?_⟩
 refine⟨_,rfl,p,dx,_,rfl,e0,aH l i (by decide +kernel) (by decide +kernel),⟨p,l,ws,i,rfl,R,⟨_,rfl,rfl,?_⟩⟩⟩;by_cases c:ws.getD i "" = t
 ·have hw:ws[i]?=some t:=by
   rw[zU]at c;cases e:ws[i]? with
   |none=>rw[e]at c;exact absurd c.symm ht
   |some x=>rw[e]at c;exact zJ some c
  have hl:i<ws.length:=(zp.mp hw).1;rw[c,decide_eq_true rfl];refine⟨_,rfl,⟨_,rfl,aC ⟨_,rfl,p,dx,_,rfl,e0,aH l i (by decide +kernel) (by decide +kernel),⟨p,l,ws,i,rfl,R,hl,fun H' b R'=>⟨_,rfl,q2 hw H' b R'⟩⟩⟩⟩⟩
 ·rw[decide_eq_false fun z=>c (by injection z)];exact⟨_,rfl,⟨_,rfl,aw ⟨_,rfl,q1 c⟩⟩⟩
abbrev cG:Stmt:=dj (top 14) 0
abbrev ip:List Str:=["self","words"]
theorem gT:FnScope ip ["self","words"] (ag cG):=⟨rfl,rfl,rfl,by decide +kernel,rfl,by decide +kernel,by decide +kernel⟩
theorem gI{f C:Addr}{fd:FuncData}(F:Fun K "__init__" "Reader.__init__" cG f fd)(T:Txt K C):FnOk P w K mg base CX0 1 f fd ["self","words"] (spRInit C):=by
 refine F.okQ gT (fun vs H Q E h=>?_) (fun cdv A outer s H vs Q E hr h=>?_)
 ·obtain⟨p,dx,l,ws,rfl,_⟩:=h;rfl
 obtain⟨p,dx,l,ws,rfl,e0,e1,hz,q⟩:=h;refine⟨_,(b_c (oK (q_v 0) (q_v 1))
   (b_1 (oK (q_v 0) ae))),?_⟩
 have npl:l≠p:=fun z=>by rw[z,e0]at e1;cases e1
 refine⟨_,rfl,_,rfl,p,C,dx,[],rfl,e0,T.cl,T.nW,(by show 0<1000;decide),?_⟩;refine⟨_,rfl,p,C,dx,_,rfl,ac,T.cl,T.nS,(by show 1<1000;decide),?_⟩;exact q _ (fun b o e n=>by rw[ai n,ai n];exact e) ⟨dx,ac,by rw[ai npl,ai npl];exact e1,zX _,hz⟩
end
inductive spAlone(vs:List V)(H:Hp)(Q:VK)(E_:XK):Prop
 |mk (t:Str) (L:Addr) (ps:List V) (h0:vs=[.str t,.ref L]) (h1:H L=some (.lst ps)) (h2:ps≠[]) (h3:ps.length<=900) (h4:∀v,ps=[v]->Q v H) (h5:ps.length≠1->∀a b H',Same H H'->H' b=some (.tup ps)->H' a=some (.tup [.str t,.ref b])->Q (.ref a) H'):spAlone vs H Q E_
section
variable{P:Program}{w:World}{K:PySem.W.Frag}{mg:Str->Option Value}{base:Heap}
abbrev dM:Stmt:=top 18
abbrev km:List Str:=["word","parts"]
theorem jK:FnScope km ["word","parts"] (ag dM):=⟨rfl,rfl,rfl,by decide +kernel,rfl,by decide +kernel,by decide +kernel⟩
theorem jH{f:Addr}{fd:FuncData}(F:Fun K "alone_or" "alone_or" dM f fd)(a6:mg "len" = none)(a9:mg "tuple" = none):FnOk P w K mg base CX0 1 f fd ["word","parts"] spAlone:=by
 refine F.okQ jK (fun vs H Q E h=>?_) (fun cdv A outer s H vs Q E hr h=>?_)
 ·obtain⟨t,L,ps,rfl,_⟩:=h;rfl
 obtain⟨t,L,ps,rfl,e,hne,hz,q1,q2⟩:=h;refine⟨_,(b_1 (ah (rn (ap aF (q_B bn a6 zB (q_a (q_v 1) ad)) ae) (ax aT (q_v 1) ae) (aI (q_a (q_v 0) (q_a (cg ko a9 bP (q_a (q_v 1) ad)) ad)))))),?_⟩;refine⟨_,rfl,L,ps,rfl,.inl (SqL.of e),rfl,⟨_,rfl,bz (fun c=>?_) (fun c=>?_)⟩⟩
 ·obtain⟨v,rfl⟩:∃v,ps=[v]:=by
   have c:(ps.length:Int)=1:=by injection c
   exact List.length_eq_one_iff.mp (by omega)
  exact⟨_,rfl,L,_,_,v,rfl,rfl,SqL.of e,at0,q1 v rfl⟩
 ·have c1:ps.length≠1:=fun z=>c (by rw[z];rfl);refine⟨_,rfl,_,rfl,L,ps,rfl,.inl ⟨SqL.of e,fun b gb=>?_⟩⟩;have wb:=aa gb (.tup ps);refine⟨sz rfl,fun a ga=>q2 c1 a b _ (wb.trans (aa ga _)) (aa ga _ _ _ ac) ac⟩
end
inductive Cq where
 |w (s:Str)
 |num (s:Str)(n:Int)
 |item (x y:Int)
 |says (t:Str)
 |no (c:Cq)
 |many (o:Bool)(cs:List Cq)
def orW(o:Bool):Str:=if o then"or" else"and"
def Cq.hd:Cq->Str
 |.w s=>s
 |.num s _=>s
 |.item _ _=>"beneath"
 |.says _=>"says"
 |.no _=>"not"
 |.many o _=>orW o
mutual
inductive CqAt(H:Hp):V->Cq->Prop
 |w {a:Addr} {s:Str} (h:H a=some (.tup [.str s])):CqAt H (.ref a) (.w s)
 |num {a:Addr} {s:Str} {n:Int} (h:H a=some (.tup [.str s,.int n])):CqAt H (.ref a) (.num s n)
 |item {a b:Addr} {x y:Int} (h:H a=some (.tup [.str "beneath",.ref b])) (h1:H b=some (.tup [.int x,.int y])):CqAt H (.ref a) (.item x y)
 |says {a:Addr} {t:Str} (h:H a=some (.tup [.str "says",.str t])):CqAt H (.ref a) (.says t)
 |no {a:Addr} {v:V} {c:Cq} (h:H a=some (.tup [.str "not",v])) (h1:CqAt H v c):CqAt H (.ref a) (.no c)
 |many {a b:Addr} {o:Bool} {vs:List V} {cs:List Cq} (h:H a=some (.tup [.str (orW o),.ref b])) (h1:H b=some (.tup vs)) (h2:CqsAt H vs cs):CqAt H (.ref a) (.many o cs)
inductive CqsAt(H:Hp):List V->List Cq->Prop
 |nil:CqsAt H [] []
 |cons {v:V} {vs:List V} {c:Cq} {cs:List Cq} (h:CqAt H v c) (t:CqsAt H vs cs):CqsAt H (v::vs) (c::cs)
end
def TS2(H H':Hp):Prop:=∀a zs,H a=some (.tup zs)->H' a=some (.tup zs)
mutual
theorem CqAt.ts{H H':Hp}(s:TS2 H H'):∀{v:V} {c:Cq},CqAt H v c->CqAt H' v c
 |_,_,.w h=>.w (s _ _ h)
 |_,_,.num h=>.num (s _ _ h)
 |_,_,.item h h1=>.item (s _ _ h) (s _ _ h1)
 |_,_,.says h=>.says (s _ _ h)
 |_,_,.no h h1=>.no (s _ _ h) (CqAt.ts s h1)
 |_,_,.many h h1 h2=>.many (s _ _ h) (s _ _ h1) (CqsAt.ts s h2)
theorem CqsAt.ts{H H':Hp}(s:TS2 H H'):∀{vs:List V} {cs:List Cq},CqsAt H vs cs->CqsAt H' vs cs
 |_,_,.nil=>.nil
 |_,_,.cons h t=>.cons (CqAt.ts s h) (CqsAt.ts s t)
end
theorem CqAt.head{H:Hp}{v:V}{c:Cq}(h:CqAt H v c):∃a xs,v=.ref a/\H a=some (.tup (.str c.hd::xs)):=by
 cases h with
 |w h=>exact⟨_,_,rfl,h⟩
 |num h=>exact⟨_,_,rfl,h⟩
 |item h _=>exact⟨_,_,rfl,h⟩
 |says h=>exact⟨_,_,rfl,h⟩
 |no h _=>exact⟨_,_,rfl,h⟩
 |many h _ _=>exact⟨_,_,rfl,h⟩
def brk(c:Cq)(t:Str):Bool:=decide (c.hd="or") ||(decide (c.hd="and")&&!decide (t="or"))
inductive spDeep(vs:List V)(H:Hp)(Q:VK)(E_:XK):Prop
 |mk (v:V) (c:Cq) (d:Int) (t:Str) (h0:vs=[v,.int d,.str t]) (h1:CqAt H v c) (h2:Q (.int (if brk c t then d+1 else d)) H):spDeep vs H Q E_
section
variable{P:Program}{w:World}{K:PySem.W.Frag}{mg:Str->Option Value}{base:Heap}
abbrev jr:Stmt:=top 29
abbrev lf:List Str:=["_law_condition","_law_deep_here","_law_word"]
theorem pW:FnScope lf ["_law_condition","_law_deep_here","_law_word"] (ag jr):=⟨rfl,rfl,rfl,by decide +kernel,rfl,by decide +kernel,by decide +kernel⟩
theorem pv{f:Addr}{fd:FuncData}(F:Fun K "_law_deep" "_law_deep" jr f fd):FnOk P w K mg base CX0 1 f fd ["_law_condition","_law_deep_here","_law_word"] spDeep:=by
 refine F.okQ pW (fun vs H Q E h=>?_) (fun cdv A outer s H vs Q E hr h=>?_)
 ·obtain⟨v,c,d,t,rfl,_⟩:=h;rfl
 obtain⟨v,c,d,t,rfl,hc,q⟩:=h;obtain⟨a,xs,rfl,e⟩:=hc.head;refine⟨_,(b_c (ay (t_w (cX (ap aF (ax aK (q_v 0) ae) af) (cz (t_w (cL (ap aF (ax aK (q_v 0) ae) af) (cB (ap dI (q_v 2) af))))))) (b_1 (ah (aj eU (q_v 1) ae))) b_0)
   (b_1 (ah (q_v 1)))),?_⟩
 have hix:∀{R:VK},R (.str c.hd) H->tOp (rIxT K) (tVar 0) (tC (.int 0)) (L2.bW lf [V.ref a,V.int d,V.str t]) H R:=fun r=>⟨_,rfl,a,_,_,_,rfl,rfl,SqT.of e,at0,r⟩
 have hb:brk c t=(decide (c.hd="or") ||(decide (c.hd="and")&&!decide (t="or"))):=rfl;rw[hb]at q;refine hix ⟨rfl,⟨_,rfl,bz (fun c1=>?_) (fun c1=>?_)⟩⟩
 ·rw[decide_eq_true (show c.hd="or" by injection c1)]at q;exact aC ⟨_,rfl,_,_,rfl,rfl,q⟩
 rw[decide_eq_false (fun z=>c1 (by rw[z]))]at q;refine hix ⟨rfl,⟨_,rfl,bz (fun c2=>?_) (fun c2=>?_)⟩⟩
 ·rw[decide_eq_true (show c.hd="and" by injection c2)]at q;refine⟨_,rfl,⟨rfl,⟨_,rfl,?_⟩⟩⟩;by_cases c3:t="or"
  ·rw[decide_eq_true c3]at q;rw[c3,decide_eq_true rfl];exact aw ⟨_,rfl,q⟩
  ·rw[decide_eq_false c3]at q;rw[decide_eq_false (fun z=>c3 (by injection z))];exact aC ⟨_,rfl,_,_,rfl,rfl,q⟩
 ·rw[decide_eq_false (fun z=>c2 (by rw[z]))]at q;exact aw ⟨_,rfl,q⟩
end
def aq:Str:=" "
def opn:Str:="("
def cls:Str:=")"
def aL:Str:="not"
def aM(b:Bool)(ws:List Str):List Str:=if b then opn::(ws++[cls])else ws
mutual
def Cq.ws:Cq->List Str
 |.w s=>[s]
 |.num s n=>[s,am n]
 |.item x y=>["beneath",am x++"."++am y]
 |.says t=>["says",t]
 |.no c=>aL::aM (brk c aL) (Cq.ws c)
 |.many o cs=>Cq.wsL o cs
def Cq.wsL(o:Bool):List Cq->List Str
 | []=>[]
 | [c]=>aM (brk c (orW o)) (Cq.ws c)
 |c::d::cs=>aM (brk c (orW o)) (Cq.ws c)++orW o::Cq.wsL o (d::cs)
end
def Cq.line(c:Cq):Str:=Str.join aq c.ws
section
variable{P:Program}{w:World}{K:PySem.W.Frag}{mg:Str->Option Value}{base:Heap}
def W6:List Str:=["all","done","folded","free","leaf","seen"]
def tf(s:Str):TV:=.flat (.str s)
def FT:List (Str×TV):=[("all",tf "nothing"),("done",tf "nothing"),("folded",tf "nothing"),("free",tf "nothing"),("leaf",tf "nothing"),("seen",tf "nothing"),("due",tf "number"),("depth",tf "number"),("beneath",tf "item"),("says",tf "word")]
def bQ(x y:Int):Str:=am x++"."++am y
inductive AtOk:Cq->Prop
 |w {s:Str} (h:s∈W6):AtOk (.w s)
 |num {s:Str} {n:Int} (h:s="due"\/s="depth") (h0:0<=n) (h1:Sm n):AtOk (.num s n)
 |item {x y:Int} (h0:0<=x) (h1:1<=y) (h2:Sm x) (h3:Sm y):AtOk (.item x y)
 |says {t:Str} (h0:t≠"") (h1:t.length<=100) (h2:32∉t.cps.toList):AtOk (.says t)
theorem fz{i:Int}(c:0<=i)(h:Sm i):cC (am i).cps.toList=true:=by
 have dl:=jb 59 h;have da:=dY i.natAbs;have dn:=iB i.natAbs;have al:(dg i.natAbs).all cD=true:=by rw[List.all_eq_true];intro c hc;have:=da c hc;unfold cD;rw[decide_eq_true this.1,decide_eq_true this.2];rfl
 have l1:1<=(dg i.natAbs).length:=List.length_pos_iff.mpr dn;have h0:(decide (dg i.natAbs=[48]) ||!decide ((dg i.natAbs).head?=some 48))=true:=by
  by_cases c:i.natAbs=0
  ·rw[c,show dg 0=[48]from eM (by decide)];rfl
  ·rw[decide_eq_false (oY _ c)];simp
 have e:(am i).cps.toList=dg i.natAbs:=by rw[fB c,show i.toNat=i.natAbs by omega]
 rw[e];unfold cC;rw[al,h0,decide_eq_true l1,decide_eq_true dl];rfl
theorem dZ(i:Int):(am i).cps.all (·<128)=true:=by rw[<-Array.all_toList,List.all_eq_true];intro c hc;have:=dD i c hc;exact decide_eq_true (by omega)
theorem lO(x y:Int):bQ x y=Str.join (ch1 46) [am x,am y]:=by refine bj ?_;rw[cQ];unfold bQ;rw[aD,aD,zr];rfl
theorem fU(x y:Int):Txt.split (bQ x y) "." = [am x,am y]:=by rw[lO];refine gh (c:=46) (by simp) fun p hp hm=>?_;simp only[zo,zL,or_false]at hp;rcases hp with rfl|rfl<;>(have:=dD _ _ hm;omega)
theorem dF{x y:Int}(h1:Sm x)(h2:Sm y):(bQ x y).length<=125:=by have:=h1.len;have:=h2.len;unfold bQ;rw[zy,zy];have:(".":Str).length=1:=rfl;omega
theorem pb{y:Int}(h:1<=y)(h1:Sm y):V.str (am y)≠V.str "0":=fun z=>by
 injection z with z;have e:=cI (i:=y) h1;rw[z]at e;have:PySem.intText? "0" = some 0:=by decide +kernel
 rw[this]at e;injection e with e;omega
inductive spItemW(vs:List V)(H:Hp)(Q:VK)(E_:XK):Prop
 |mk (x y:Int) (h0:vs=[.str (bQ x y)]) (h1:AtOk (.item x y)) (h2:∀H',Same H H'->Q (.bl true) H'):spItemW vs H Q E_
inductive spItemIn(vs:List V)(H:Hp)(Q:VK)(E_:XK):Prop
 |mk (x y:Int) (h0:vs=[.str (bQ x y)]) (h1:AtOk (.item x y)) (h2:∀a H',Same H H'->H' a=some (.tup [.int x,.int y])->Q (.ref a) H'):spItemIn vs H Q E_
abbrev cn:Stmt:=top 7
abbrev gl:List Str:=["word","halves"]
theorem de:FnScope gl ["word"] (ag cn):=⟨rfl,rfl,rfl,by decide +kernel,rfl,by decide +kernel,by decide +kernel⟩
theorem fX{f:Addr}{fd:FuncData}(F:Fun K "is_item_word" "is_item_word" cn f fd)(b7:Fn P w K mg base 1 "is_figures" ["text"] kU)(a6:mg "len" = none):FnOk P w K mg base CX0 2 f fd ["word"] spItemW:=by
 refine F.okQ de (fun vs H Q E h=>?_) (fun cdv A outer s H vs Q E hr h=>?_)
 ·obtain⟨x,y,rfl,_⟩:=h;rfl
 obtain⟨x,y,rfl,ok,q⟩:=h;refine⟨_,(b_c (ar (i:=1) de.nd (gN (q_v 0) af))
   (b_1 (ah (eW (bg aF (q_B bn a6 zB (q_a (q_v 1) ad)) ae) (eW (au b7 (hr.mono (by decide)) (q_a (ax aT (q_v 1) ae) ad)) (eW (au b7 (hr.mono (by decide)) (q_a (ax aT (q_v 1) ae) ad)) (iH (bg dI (ax aT (q_v 1) ae) af)))))))),?_⟩
 cases ok with
 |item x0 y0 sx sy =>
 refine⟨_,rfl,rfl,_,".",rfl,rfl,rfl,zh (dF sx sy) (by decide),fun D gD=>?_⟩;rw[fU];have wD:=aa gD (.lst ([am x,am y].map V.str));have eD:upd H D (.lst ([am x,am y].map V.str)) D=some (.lst ([am x,am y].map V.str)):=ac;generalize upd H D (.lst ([am x,am y].map V.str))=H1 at wD eD ⊢;have y1:0<=y:=by omega
 refine⟨_,rfl,D,_,rfl,.inl (SqL.of eD),rfl,_,rfl,aC ?_⟩;refine⟨_,rfl,D,_,_,_,rfl,rfl,SqL.of eD,at0,am x,rfl,zh sx.len (by decide),dZ x,fun H2 s2=>⟨_,rfl,?_⟩⟩;rw[fz x0 sx];refine aC ⟨_,rfl,D,_,_,_,rfl,rfl,SqL.of (s2 _ _ eD),at1,am y,rfl,zh sy.len (by decide),dZ y,fun H3 s3=>⟨_,rfl,?_⟩⟩;rw[fz y1 sy];refine aC ⟨_,rfl,D,_,_,_,rfl,rfl,SqL.of (s3 _ _ (s2 _ _ eD)),at1,rfl,?_⟩;rw[decide_eq_false (pb y0 sy)];exact q _ (wD.trans (s2.trans s3))
abbrev eA:Stmt:=top 8
abbrev lg:List Str:=["word","halves"]
theorem ge:FnScope lg ["word"] (ag eA):=⟨rfl,rfl,rfl,by decide +kernel,rfl,by decide +kernel,by decide +kernel⟩
theorem kL{f:Addr}{fd:FuncData}(F:Fun K "item_in" "item_in" eA f fd)(b5:mg "int" = none):FnOk P w K mg base CX0 1 f fd ["word"] spItemIn:=by
 refine F.okQ ge (fun vs H Q E h=>?_) (fun cdv A outer s H vs Q E hr h=>?_)
 ·obtain⟨x,y,rfl,_⟩:=h;rfl
 obtain⟨x,y,rfl,ok,q⟩:=h;refine⟨_,(b_c (ar (i:=1) ge.nd (gN (q_v 0) af))
   (b_1 (ah (aI (q_a (cg iU b5 bZ (q_a (ax aT (q_v 1) ae) ad)) (q_a (cg iU b5 bZ (q_a (ax aT (q_v 1) ae) ad)) ad)))))),?_⟩
 cases ok with
 |item x0 y0 sx sy =>
 refine⟨_,rfl,rfl,_,".",rfl,rfl,rfl,zh (dF sx sy) (by decide),fun D gD=>?_⟩;rw[fU];have wD:=aa gD (.lst ([am x,am y].map V.str));have eD:upd H D (.lst ([am x,am y].map V.str)) D=some (.lst ([am x,am y].map V.str)):=ac;generalize upd H D (.lst ([am x,am y].map V.str))=H1 at wD eD ⊢;refine⟨_,rfl,D,_,_,_,rfl,rfl,SqL.of eD,at0,am x,x,rfl,cI sx,zh sx.len (by decide),?_⟩;refine⟨_,rfl,D,_,_,_,rfl,rfl,SqL.of eD,at1,am y,y,rfl,cI sy,zh sy.len (by decide),?_⟩;exact⟨sz rfl,fun a ga=>q a _ (wD.trans (aa ga _)) ac⟩
def Cq.kind:Cq->Str
 |.num _ _=>"number"
 |.item _ _=>"item"
 |.says _=>"word"
 |_=>"nothing"
def Cq.arg:Cq->Str
 |.num _ n=>am n
 |.item x y=>bQ x y
 |.says t=>t
 |_=>""
inductive ArgAt(H:Hp):V->Cq->Prop
 |num {s:Str} {n:Int}:ArgAt H (.int n) (.num s n)
 |item {b:Addr} {x y:Int} (h:H b=some (.tup [.int x,.int y])):ArgAt H (.ref b) (.item x y)
 |says {t:Str}:ArgAt H (.str t) (.says t)
inductive spMay(vs:List V)(H:Hp)(Q:VK)(E_:XK):Prop
 |mk (c:Cq) (h0:vs=[.str c.kind,.str c.arg]) (h1:AtOk c) (h2:c.kind≠"nothing") (h3:∀H',Same H H'->Q (.bl true) H'):spMay vs H Q E_
inductive spFollowing(vs:List V)(H:Hp)(Q:VK)(E_:XK):Prop
 |mk (c:Cq) (h0:vs=[.str c.kind,.str c.arg]) (h1:AtOk c) (h2:c.kind≠"nothing") (h3:∀v H',Same H H'->ArgAt H' v c->Q v H'):spFollowing vs H Q E_
theorem oG:¬(V.str "item" = V.str "number"):=by decide +kernel
theorem oH:¬(V.str "word" = V.str "number"):=by decide +kernel
theorem kG:¬(V.str "word" = V.str "item"):=by decide +kernel
abbrev cT:Stmt:=top 21
abbrev iP:List Str:=["kind","word"]
theorem iy:FnScope iP ["kind","word"] (ag cT):=⟨rfl,rfl,rfl,by decide +kernel,rfl,by decide +kernel,by decide +kernel⟩
theorem iu{f:Addr}{fd:FuncData}(F:Fun K "may_follow" "may_follow" cT f fd)(b7:Fn P w K mg base 1 "is_figures" ["text"] kU)(g0:Fn P w K mg base 2 "is_item_word" ["word"] spItemW):FnOk P w K mg base CX0 3 f fd ["kind","word"] spMay:=by
 refine F.okQ iy (fun vs H Q E h=>?_) (fun cdv A outer s H vs Q E hr h=>?_)
 ·obtain⟨c,rfl,_⟩:=h;rfl
 obtain⟨c,rfl,ok,nn,q⟩:=h;refine⟨_,(b_c (ay (ap aF (q_v 0) af) (b_1 (ah (au b7 (hr.mono (by decide)) (q_a (q_v 1) ad)))) b_0)
   (b_c (ay (ap aF (q_v 0) af) (b_1 (ah (au g0 (hr.mono (by decide)) (q_a (q_v 1) ad)))) b_0)
   (b_1 (ah (bg dI (q_v 1) af))))),?_⟩
 cases id ok with
 |w h=>exact absurd rfl nn
 |@num s n h h0 h1 =>refine⟨_,rfl,rfl,_,rfl,aV rfl ⟨_,rfl,am n,rfl,zh h1.len (by decide),dZ n,fun H1 s1=>?_⟩⟩;rw[fz h0 h1];exact q _ s1
 |@item x y h0 h1 h2 h3 =>exact⟨_,rfl,rfl,_,rfl,aG oG ⟨_,rfl,rfl,_,rfl,aV rfl ⟨_,rfl,x,y,rfl,ok,q⟩⟩⟩
 |@says t h0 h1 h2 =>refine⟨_,rfl,rfl,_,rfl,aG oH ⟨_,rfl,rfl,_,rfl,aG kG ⟨_,rfl,rfl,?_⟩⟩⟩;rw[decide_eq_false (fun z=>h0 (by injection z))];exact q _ (Same.refl _)
abbrev bM:Stmt:=top 22
abbrev fq:List Str:=["kind","word"]
theorem fg:FnScope fq ["kind","word"] (ag bM):=⟨rfl,rfl,rfl,by decide +kernel,rfl,by decide +kernel,by decide +kernel⟩
theorem fc{f:Addr}{fd:FuncData}(F:Fun K "read_following" "read_following" bM f fd)(j9:Fn P w K mg base 1 "item_in" ["word"] spItemIn)(b5:mg "int" = none):FnOk P w K mg base CX0 2 f fd ["kind","word"] spFollowing:=by
 refine F.okQ fg (fun vs H Q E h=>?_) (fun cdv A outer s H vs Q E hr h=>?_)
 ·obtain⟨c,rfl,_⟩:=h;rfl
 obtain⟨c,rfl,ok,nn,q⟩:=h;refine⟨_,(b_c (ay (ap aF (q_v 0) af) (b_1 (ah (cg iU b5 bZ (q_a (q_v 1) ad)))) b_0)
   (b_c (ay (ap aF (q_v 0) af) (b_1 (ah (au j9 (hr.mono (by decide)) (q_a (q_v 1) ad)))) b_0)
   (b_1 (ah (q_v 1))))),?_⟩
 cases id ok with
 |w h=>exact absurd rfl nn
 |@num s n h h0 h1 =>exact⟨_,rfl,rfl,_,rfl,aV rfl ⟨_,rfl,am n,n,rfl,cI h1,zh h1.len (by decide),q _ _ (Same.refl _) .num⟩⟩
 |@item x y h0 h1 h2 h3 =>exact⟨_,rfl,rfl,_,rfl,aG oG ⟨_,rfl,rfl,_,rfl,aV rfl ⟨_,rfl,x,y,rfl,ok,fun a H' s' e=>q _ _ s' (.item e)⟩⟩⟩
 |@says t h0 h1 h2 =>exact⟨_,rfl,rfl,_,rfl,aG oH ⟨_,rfl,rfl,_,rfl,aG kG ⟨_,rfl,q _ _ (Same.refl _) .says⟩⟩⟩
def KpR(p:Addr)(H H':Hp):Prop:=∀b o,H b=some o->b≠p->H' b=some o
theorem KpR.trans{p:Addr}{H H1 H2:Hp}(a:KpR p H H1)(b:KpR p H1 H2):KpR p H H2:=fun _ _ e n=>b _ _ (a _ _ e n) n
theorem KpR.same{p:Addr}{H H1:Hp}(a:Same H H1):KpR p H H1:=fun _ _ e _=>a _ _ e
inductive RdL(C:Addr)(H:Hp)(p l:Addr)(ws us:List Str):Prop
 |mk (pre:List Str) (h0:ws=pre++us) (h1:RdAt C H p l ws pre.length):RdL C H p l ws us
section
variable{C p l:Addr}{H H':Hp}{ws us r:List Str}{t x:Str}{Q:VK}{E:XK}
theorem RdL.obj(R:RdL C H p l ws us):∃dx i,H p=some (.ins C dx (db l i)):=by obtain⟨pre,_,dx,h,_⟩:=R;exact⟨dx,_,h⟩
theorem RdL.lst(R:RdL C H p l ws us):H l=some (.lst (ws.map V.str)):=by obtain⟨pre,_,dx,_,h,_⟩:=R;exact h
theorem RdL.tup(R:RdL C H p l ws us){a:Addr}{zs:List V}(e:H a=some (.tup zs)):a≠p:=by obtain⟨dx,i,h⟩:=R.obj;rintro rfl;rw[h]at e;cases e
theorem RdL.ts(R:RdL C H p l ws us)(k:KpR p H H'):TS2 H H':=fun _ _ e=>k _ _ e (R.tup e)
theorem RdL.same(R:RdL C H p l ws us)(s:Same H H'):RdL C H' p l ws us:=by obtain⟨pre,h,dx,h1,h2,h3,h4⟩:=R;exact⟨pre,h,dx,s _ _ h1,s _ _ h2,h3,h4⟩
theorem RdL.upd(R:RdL C H p l ws us){a:Addr}{o:HO}(n1:a≠p)(n2:a≠l):RdL C (upd H a o) p l ws us:=by obtain⟨pre,h,dx,h1,h2,h3,h4⟩:=R;exact⟨pre,h,dx,by rw[ai (Ne.symm n1)];exact h1,by rw[ai (Ne.symm n2)];exact h2,h3,h4⟩
theorem RdL.here(R:RdL C H p l ws us)(q:Q (.str (us.headD "")) H):spHere C [.ref p] H Q E:=by
 obtain⟨pre,rfl,h⟩:=R;refine⟨p,l,_,_,rfl,h,?_⟩;rw[zU,zG (za _),Nat.sub_self];cases us with
 |nil=>exact q
 |cons=>exact q
theorem RdL.through(R:RdL C H p l ws us)(q:Q (.bl us.isEmpty) H):spThrough C [.ref p] H Q E:=by
 obtain⟨pre,rfl,h⟩:=R;refine⟨p,l,_,_,rfl,h,?_⟩;cases us with
 |nil =>rw[decide_eq_true (by simp)];exact q
 |cons =>rw[decide_eq_false (by simp)];exact q
theorem RdL.next{pre:List Str}(h:RdAt C H' p l (pre++x::r) (pre.length+1)):RdL C H' p l (pre++x::r) r :=
 ⟨pre++[x],by simp,by rw[zc];exact h⟩
theorem RdL.go(R:RdL C H p l ws (x::r))(q:∀H',KpR p H H'->RdL C H' p l ws r->Q .non H'):spGoOn C [.ref p,.bl true] H Q E:=by obtain⟨pre,rfl,h⟩:=R;exact⟨p,l,_,_,rfl,h,by simp,fun H' k h'=>q H' k (RdL.next h')⟩
theorem RdL.no(R:RdL C H p l ws us)(ht:t≠"")(n:us.headD ""≠t)(q:Q (.bl false) H):spPasses C [.ref p,.str t] H Q E:=by
 obtain⟨pre,rfl,h⟩:=R;have e:(pre++us)[pre.length]?=us.head?:=by rw[zG (za _),Nat.sub_self];cases us<;>rfl
 refine⟨p,l,_,_,t,rfl,h,ht,fun _=>q,fun z=>?_⟩;rw[e]at z;exact absurd (by rw[List.headD_eq_head?_getD,z];rfl) n
theorem RdL.yes(R:RdL C H p l ws (t::r))(ht:t≠"")(q:∀H',KpR p H H'->RdL C H' p l ws r->Q (.bl true) H'):spPasses C [.ref p,.str t] H Q E:=by obtain⟨pre,rfl,h⟩:=R;refine⟨p,l,_,_,t,rfl,h,ht,fun z=>?_,fun _ H' k h'=>q H' k (RdL.next h')⟩;rw[zU,zG (za _),Nat.sub_self]at z;exact absurd rfl z
end
abbrev RR:=Int->List Str->Cq->List Str->Prop
inductive spR(C:Addr)(R:RR)(vs:List V)(H:Hp)(Q:VK)(E_:XK):Prop
 |mk (p l:Addr) (ws us:List Str) (d:Int) (c:Cq) (r:List Str) (h0:vs=[.ref p,.int d]) (h1:RdL C H p l ws us) (h2:R d us c r) (h3:∀v H',KpR p H H'->CqAt H' v c->RdL C H' p l ws r->Q v H'):spR C R vs H Q E_
inductive RL(R:List Str->Cq->List Str->Prop)(t:Str):List Str->List Cq->List Str->Prop
 |nil {us:List Str} (h:us.headD ""≠t):RL R t us [] us
 |cons {us r1 r:List Str} {c:Cq} {cs:List Cq} (h:R us c r1) (h2:RL R t r1 cs r):RL R t (t::us) (c::cs) r
def ou(o:Bool)(c:Cq):List Cq->Cq
 | []=>c
 |d::cs=>.many o (c::d::cs)
inductive RM(o:Bool)(R:RR)(d:Int)(us:List Str)(c:Cq)(r:List Str):Prop
 |mk (c0:Cq) (r0:List Str) (cs:List Cq) (h0:R d us c0 r0) (h1:RL (R d) (orW o) r0 cs r) (h2:cs.length<=800) (h3:c=ou o c0 cs):RM o R d us c r
def RO:Nat->RR
 |0=>fun _ _ _ _=>False
 |n+1=>fun d us c r=>(d<12/\∃us' c',us=aL::us'/\c=.no c'/\RO n (d+1) us' c' r)\/(d<12/\∃us',us=opn::us'/\RM true (RM false (RO n)) (d+1) us' c (cls::r))\/(AtOk c/\us=c.ws++r)
theorem CqsAt.app{H:Hp}:∀{vs:List V} {cs:List Cq} {v:V} {c:Cq},CqsAt H vs cs->CqAt H v c->CqsAt H (vs++[v]) (cs++[c])
 |_,_,_,_,.nil,h=>.cons h .nil
 |_,_,_,_,.cons g t,h=>.cons g (t.app h)
theorem CqsAt.len{H:Hp}:∀{vs:List V} {cs:List Cq},CqsAt H vs cs->vs.length=cs.length
 |_,_,.nil=>rfl
 |_,_,.cons _ t=>zJ (·+1) t.len
theorem mC{H:Hp}{a:Addr}{xs:List V}{o:HO}(e:H a=some (.lst xs)):TS2 H (upd H a o):=fun b zs h=>by
 rw[ai]
 ·exact h
 ·rintro rfl;rw[e]at h;cases h
abbrev dh:Stmt:=top 17
abbrev jE:List Str:=["reader","depth","parts"]
theorem eB:FnScope jE ["reader","depth"] (ag dh):=⟨rfl,rfl,rfl,by decide +kernel,rfl,by decide +kernel,by decide +kernel⟩
theorem eh{k:Nat}{R:RR}{f C:Addr}{fd:FuncData}(hk:3<=k)(F:Fun K "read_each" "read_each" dh f fd)(i8:Fn P w K mg base k "read_one" ["reader","depth"] (spR C R))(a8:MFn P w K mg base 3 C "passes" ["self","word"] (spPasses C))(b8:Fn P w K mg base 1 "alone_or" ["word","parts"] spAlone):FnOk P w K mg base CX0 (k+1) f fd ["reader","depth"] (spR C (RM false R)):=by
 refine F.okQ eB (fun vs H Q E h=>?_) (fun cdv A outer s H vs Q E hr h=>?_)
 ·obtain⟨p,l,ws,us,d,c,r,rfl,_⟩:=h;rfl
 obtain⟨p,l,ws,us,d,c,r,rfl,R0,⟨c0,r0,cs,h1,h2,h3,rfl⟩,q⟩:=h;refine⟨_,(b_c (ar (i:=2) eB.nd (aZ (q_a (au i8 (hr.mono (by omega)) (q_a (q_v 0) (q_a (q_v 1) ad))) ad)))
   (b_c (ka PassesOwn.never (aP (bA a8 (hr.mono (by omega)) (q_v 0) (q_a af ad))) (b_1 (bU (kN (q_v 2) (au i8 (hr.mono (by omega)) (q_a (q_v 0) (q_a (q_v 1) ad)))))))
   (b_1 (ah (au b8 (hr.mono (by omega)) (q_a af (q_a (q_v 2) ad))))))),?_⟩
 refine⟨_,rfl,_,rfl,p,l,ws,us,d,c0,r0,rfl,R0,h1,fun v H1 k1 cv R1=>⟨sz rfl,fun L gL=>?_⟩⟩;have npl:l≠p:=fun z=>by obtain⟨dx,i,e⟩:=R0.obj;have:=R0.lst;rw[z,e]at this;cases this
 have n1:L≠p:=fun z=>by obtain⟨dx,i,e⟩:=R1.obj;rw[z,e]at gL;cases gL
 have n2:L≠l:=fun z=>by rw[z,R1.lst]at gL;cases gL
 have nH:H L=none:=by
  cases e:H L with
  |none=>rfl
  |some o=>rw[k1 _ _ e n1]at gL;cases gL
 refine⟨fun m σ H'=>∃(done todo:List Cq) (vs:List V) (rr:List Str),σ=[some (.ref p),some (.int d),some (.ref L)]/\H' L=some (.lst vs)/\CqsAt H' vs done/\c0::cs=done++todo/\done≠[]/\RL (R d) (orW false) rr todo r/\KpR p H H'/\RdL C H' p l ws rr/\m=todo.length,⟨cs.length,[c0],cs,[v],r0,rfl,ac,.cons (cv.ts (fun a zs e=>aa gL _ _ _ e)) .nil,rfl,by simp,h2,k1.trans (KpR.same (aa gL _)),R1.same (aa gL _),rfl⟩,?_⟩;rintro m σ H' ⟨done,todo,vs,rr,rfl,eL,ca,ed,nd,hl,kp,RR1,rfl⟩;obtain⟨dx,i,e0⟩:=RR1.obj;refine⟨_,rfl,p,dx,_,rfl,e0,aH l i (by decide +kernel) (by decide +kernel),?_⟩;cases hl with
 |nil h =>
  refine RR1.no (by decide +kernel) h ⟨_,rfl,aw ?_⟩;rw[List.append_nil]at ed;have lv:=ca.len;rw[<-ed]at ca;refine⟨_,rfl,_,L,vs,rfl,eL,fun z=>?_,?_,fun v' e1=>?_,fun n1 a b H2 s2 eb ea=>?_⟩
  ·rw[z]at lv;exact nd (List.length_eq_zero_iff.mp lv.symm)
  ·rw[lv,<-ed,zn];omega
  ·subst e1;cases ca with
   |cons g t =>cases t;exact q _ _ kp g RR1
  ·cases cs with
   |nil=>exact absurd (by rw[lv,<-ed];rfl) n1
   |cons c1 cs =>exact q _ _ (kp.trans (KpR.same s2)) (.many (o:=false) ea eb (ca.ts fun a zs e=>s2 _ _ e)) (RR1.same s2)
 |@cons us1 r1 _ c1 cs1 h hl =>
  refine RR1.yes (by decide +kernel) fun H2 k2 R2=>⟨_,rfl,aC ⟨_,fun _ _ z=>z,?_⟩⟩
  have eL2:=k2 _ _ eL n1;refine⟨_,rfl,.inl ⟨rfl,_,SqL.of eL2⟩,_,rfl,_,rfl,p,l,ws,us1,d,c1,r1,rfl,R2,h,fun v3 H3 k3 cv3 R3=>?_⟩;have eL3:=k3 _ _ eL2 n1;have lv:=ca.len;have ca3:=(ca.ts (RR1.ts k2)).ts (R2.ts k3);refine⟨L,vs,v3,rfl,rfl,eL3,Nat.lt_of_le_of_lt (m:=1000) ?_ (by decide),?_⟩
  ·have:(c0::cs).length=done.length+(c1::cs1).length:=by rw[ed,zc]
   simp only[zn]at this;omega
  ·have tu:=mC (o:=.lst (vs++[v3])) eL3;refine⟨cs1.length,Nat.lt_succ_self _,done++[c1],cs1,vs++[v3],r1,rfl,ac,(ca3.app cv3).ts tu,by rw[ed,zr];rfl,by simp,hl,fun b o e n=>?_,R3.upd n1 n2,rfl⟩;rw[ai]
   ·exact k3 _ _ (k2 _ _ (kp _ _ e n) n) n
   ·rintro rfl;rw[nH]at e;cases e
abbrev di:Stmt:=top 16
abbrev jF:List Str:=["reader","depth","parts"]
theorem eE:FnScope jF ["reader","depth"] (ag di):=⟨rfl,rfl,rfl,by decide +kernel,rfl,by decide +kernel,by decide +kernel⟩
theorem ei{k:Nat}{R:RR}{f C:Addr}{fd:FuncData}(hk:3<=k)(F:Fun K "read_some" "read_some" di f fd)(i4:Fn P w K mg base k "read_each" ["reader","depth"] (spR C R))(a8:MFn P w K mg base 3 C "passes" ["self","word"] (spPasses C))(b8:Fn P w K mg base 1 "alone_or" ["word","parts"] spAlone):FnOk P w K mg base CX0 (k+1) f fd ["reader","depth"] (spR C (RM true R)):=by
 refine F.okQ eE (fun vs H Q E h=>?_) (fun cdv A outer s H vs Q E hr h=>?_)
 ·obtain⟨p,l,ws,us,d,c,r,rfl,_⟩:=h;rfl
 obtain⟨p,l,ws,us,d,c,r,rfl,R0,⟨c0,r0,cs,h1,h2,h3,rfl⟩,q⟩:=h;refine⟨_,(b_c (ar (i:=2) eE.nd (aZ (q_a (au i4 (hr.mono (by omega)) (q_a (q_v 0) (q_a (q_v 1) ad))) ad)))
   (b_c (ka PassesOwn.never (aP (bA a8 (hr.mono (by omega)) (q_v 0) (q_a af ad))) (b_1 (bU (kN (q_v 2) (au i4 (hr.mono (by omega)) (q_a (q_v 0) (q_a (q_v 1) ad)))))))
   (b_1 (ah (au b8 (hr.mono (by omega)) (q_a af (q_a (q_v 2) ad))))))),?_⟩
 refine⟨_,rfl,_,rfl,p,l,ws,us,d,c0,r0,rfl,R0,h1,fun v H1 k1 cv R1=>⟨sz rfl,fun L gL=>?_⟩⟩;have npl:l≠p:=fun z=>by obtain⟨dx,i,e⟩:=R0.obj;have:=R0.lst;rw[z,e]at this;cases this
 have n1:L≠p:=fun z=>by obtain⟨dx,i,e⟩:=R1.obj;rw[z,e]at gL;cases gL
 have n2:L≠l:=fun z=>by rw[z,R1.lst]at gL;cases gL
 have nH:H L=none:=by
  cases e:H L with
  |none=>rfl
  |some o=>rw[k1 _ _ e n1]at gL;cases gL
 refine⟨fun m σ H'=>∃(done todo:List Cq) (vs:List V) (rr:List Str),σ=[some (.ref p),some (.int d),some (.ref L)]/\H' L=some (.lst vs)/\CqsAt H' vs done/\c0::cs=done++todo/\done≠[]/\RL (R d) (orW true) rr todo r/\KpR p H H'/\RdL C H' p l ws rr/\m=todo.length,⟨cs.length,[c0],cs,[v],r0,rfl,ac,.cons (cv.ts (fun a zs e=>aa gL _ _ _ e)) .nil,rfl,by simp,h2,k1.trans (KpR.same (aa gL _)),R1.same (aa gL _),rfl⟩,?_⟩;rintro m σ H' ⟨done,todo,vs,rr,rfl,eL,ca,ed,nd,hl,kp,RR1,rfl⟩;obtain⟨dx,i,e0⟩:=RR1.obj;refine⟨_,rfl,p,dx,_,rfl,e0,aH l i (by decide +kernel) (by decide +kernel),?_⟩;cases hl with
 |nil h =>
  refine RR1.no (by decide +kernel) h ⟨_,rfl,aw ?_⟩;rw[List.append_nil]at ed;have lv:=ca.len;rw[<-ed]at ca;refine⟨_,rfl,_,L,vs,rfl,eL,fun z=>?_,?_,fun v' e1=>?_,fun n1 a b H2 s2 eb ea=>?_⟩
  ·rw[z]at lv;exact nd (List.length_eq_zero_iff.mp lv.symm)
  ·rw[lv,<-ed,zn];omega
  ·subst e1;cases ca with
   |cons g t =>cases t;exact q _ _ kp g RR1
  ·cases cs with
   |nil=>exact absurd (by rw[lv,<-ed];rfl) n1
   |cons c1 cs =>exact q _ _ (kp.trans (KpR.same s2)) (.many (o:=true) ea eb (ca.ts fun a zs e=>s2 _ _ e)) (RR1.same s2)
 |@cons us1 r1 _ c1 cs1 h hl =>
  refine RR1.yes (by decide +kernel) fun H2 k2 R2=>⟨_,rfl,aC ⟨_,fun _ _ z=>z,?_⟩⟩
  have eL2:=k2 _ _ eL n1;refine⟨_,rfl,.inl ⟨rfl,_,SqL.of eL2⟩,_,rfl,_,rfl,p,l,ws,us1,d,c1,r1,rfl,R2,h,fun v3 H3 k3 cv3 R3=>?_⟩;have eL3:=k3 _ _ eL2 n1;have lv:=ca.len;have ca3:=(ca.ts (RR1.ts k2)).ts (R2.ts k3);refine⟨L,vs,v3,rfl,rfl,eL3,Nat.lt_of_le_of_lt (m:=1000) ?_ (by decide),?_⟩
  ·have:(c0::cs).length=done.length+(c1::cs1).length:=by rw[ed,zc]
   simp only[zn]at this;omega
  ·have tu:=mC (o:=.lst (vs++[v3])) eL3;refine⟨cs1.length,Nat.lt_succ_self _,done++[c1],cs1,vs++[v3],r1,rfl,ac,(ca3.app cv3).ts tu,by rw[ed,zr];rfl,by simp,hl,fun b o e n=>?_,R3.upd n1 n2,rfl⟩;rw[ai]
   ·exact k3 _ _ (k2 _ _ (kp _ _ e n) n) n
   ·rintro rfl;rw[nH]at e;cases e
theorem ow{c:Cq}(h:AtOk c):c.ws=c.hd::(if c.kind="nothing" then[]else[c.arg]):=by cases h<;>first|rfl|(simp only[Cq.ws,Cq.hd,Cq.kind,Cq.arg];rfl)
theorem fL{c:Cq}(h:AtOk c):PyProof.Rows.KTD.datumAt c.hd FT=some (tf c.kind):=by
 cases h with
 |w h =>simp only[W6,zo,zL,or_false]at h;rcases h with rfl|rfl|rfl|rfl|rfl|rfl<;>rfl
 |num h=>rcases h with rfl|rfl<;>rfl
 |item=>rfl
 |says=>rfl
theorem bO{c:Cq}(h:AtOk c):c.hd≠"not"/\c.hd≠"("/\c.hd≠"or"/\c.hd≠"and":=by
 cases h with
 |w h =>
  have:∀s∈W6,s≠"not"/\s≠"("/\s≠"or"/\s≠"and":=by decide +kernel
  exact this _ h
 |num h =>
  rcases h with rfl|rfl
  ·show("due":Str)≠"not"/\("due":Str)≠"("/\("due":Str)≠"or"/\("due":Str)≠"and";decide +kernel
  ·show("depth":Str)≠"not"/\("depth":Str)≠"("/\("depth":Str)≠"or"/\("depth":Str)≠"and";decide +kernel
 |item=>show("beneath":Str)≠"not"/\("beneath":Str)≠"("/\("beneath":Str)≠"or"/\("beneath":Str)≠"and";decide +kernel
 |says=>show("says":Str)≠"not"/\("says":Str)≠"("/\("says":Str)≠"or"/\("says":Str)≠"and";decide +kernel
theorem rS{H:Hp}{a:Addr}{v:V}{c:Cq}(ok:AtOk c)(e:H a=some (.tup [.str c.hd,v]))(h:ArgAt H v c):CqAt H (.ref a) c:=by
 cases h with
 |num=>exact .num e
 |item h=>exact .item e h
 |says=>exact .says e
theorem qo{H:Hp}{a:Addr}{c:Cq}(ok:AtOk c)(n:c.kind="nothing")(e:H a=some (.tup [.str c.hd])):CqAt H (.ref a) c:=by
 cases ok with
 |w=>exact .w e
 |num=>exact absurd n (by show¬(("number":Str)="nothing");decide +kernel)
 |item=>exact absurd n (by show¬(("item":Str)="nothing");decide +kernel)
 |says=>exact absurd n (by show¬(("word":Str)="nothing");decide +kernel)
inductive spPl(C:Addr)(vs:List V)(H:Hp)(Q:VK)(E_:XK):Prop
 |mk (p l:Addr) (ws:List Str) (c:Cq) (r:List Str) (h0:vs=[.ref p]) (h1:RdL C H p l ws (c.ws++r)) (h2:AtOk c) (h3:∀v H',KpR p H H'->CqAt H' v c->RdL C H' p l ws r->Q v H'):spPl C vs H Q E_
abbrev cU:Stmt:=top 20
abbrev iQ:List Str:=["reader","word","kind","following"]
theorem bK:FnScope iQ ["reader"] (ag cU):=⟨rfl,rfl,rfl,by decide +kernel,rfl,by decide +kernel,by decide +kernel⟩
theorem iw{f C ff:Addr}{fd:FuncData}(F:Fun K "read_plain" "read_plain" cU f fd)(i9:Fn P w K mg base 3 "may_follow" ["kind","word"] spMay)(d5:Fn P w K mg base 2 "read_following" ["kind","word"] spFollowing)(c8:MFn P w K mg base 2 C "here" ["self"] (spHere C))(b6:MFn P w K mg base 1 C "go_on" ["self","good"] (spGoOn C))(b9:mg "FOLLOWING" = some (.ref ff))(T:Tab K ff FT):FnOk P w K mg base CX0 4 f fd ["reader"] (spPl C):=by
 refine F.okQ bK (fun vs H Q E h=>?_) (fun cdv A outer s H vs Q E hr h=>?_)
 ·obtain⟨p,l,ws,c,r,rfl,_⟩:=h;rfl
 obtain⟨p,l,ws,c,r,rfl,R0,ok,q⟩:=h;refine⟨_,(b_c (ar (i:=1) bK.nd (cj c8 (hr.mono (by decide)) (q_v 0)))
   (b_c (bU (bA b6 (hr.mono (by decide)) (q_v 0) (q_a (bg pj (q_v 1) (kO b9)) ad)))
   (b_c (ar (i:=2) bK.nd (ax oS (kO b9) (q_v 1)))
   (b_c (ay (ap aF (q_v 2) af) (b_1 (ah (aI (q_a (q_v 1) ad)))) b_0)
   (b_c (ar (i:=3) bK.nd (cj c8 (hr.mono (by decide)) (q_v 0)))
   (b_c (bU (bA b6 (hr.mono (by decide)) (q_v 0) (q_a (au i9 (hr.mono (by decide)) (q_a (q_v 2) (q_a (q_v 3) ad))) ad)))
   (b_1 (ah (aI (q_a (q_v 1) (q_a (au d5 (hr.mono (by decide)) (q_a (q_v 2) (q_a (q_v 3) ad))) ad))))))))))),?_⟩
 have ft:=fL ok;rw[ow ok]at R0;obtain⟨dx,i,e0⟩:=R0.obj;refine⟨_,rfl,p,dx,_,rfl,e0,aH l i (by decide +kernel) (by decide +kernel),R0.here ?_⟩;refine⟨_,rfl,p,dx,_,rfl,e0,aH l i (by decide +kernel) (by decide +kernel),⟨_,rfl,ff,c.hd,FT,rfl,rfl,T,?_⟩⟩;rw[ft];refine R0.go fun H1 k1 R1=>?_;refine⟨_,rfl,ff,c.hd,FT,_,rfl,rfl,T,ft,?_⟩;refine⟨_,rfl,rfl,_,rfl,bz (fun n=>?_) (fun n=>?_)⟩
 ·have n':c.kind="nothing":=by injection n
  rw[o7 n']at R1;refine⟨_,rfl,sz rfl,fun a ga=>?_⟩;have w1:=aa ga (.tup [.str c.hd]);exact q _ _ (k1.trans (KpR.same w1)) (qo ok n' ac) (R1.same w1)
 ·have n':c.kind≠"nothing":=fun z=>n (by rw[z]);rw[o6 n']at R1;obtain⟨dx,i,e1⟩:=R1.obj;refine⟨_,rfl,p,dx,_,rfl,e1,aH l i (by decide +kernel) (by decide +kernel),R1.here ?_⟩;refine⟨_,rfl,p,dx,_,rfl,e1,aH l i (by decide +kernel) (by decide +kernel),⟨_,rfl,_,rfl,c,rfl,ok,n',fun H2 s2=>?_⟩⟩;have R2:RdL C H2 p l ws (c.arg::r):=R1.same s2;refine R2.go fun H3 k3 R3=>?_;refine⟨_,rfl,_,rfl,_,rfl,c,rfl,ok,n',fun v H4 s4 av=>⟨sz rfl,fun a ga=>?_⟩⟩;have w1:=aa ga (.tup [.str c.hd,v]);refine q _ _ (k1.trans ((KpR.same s2).trans (k3.trans (KpR.same (s4.trans w1))))) (rS ok ac ?_) (R3.same (s4.trans w1));cases av with
  |num=>exact .num
  |item h=>exact .item (w1 _ _ h)
  |says=>exact .says
abbrev dN:Stmt:=top 19
abbrev kn:List Str:=["reader","depth","condition"]
theorem fj:FnScope kn ["reader","depth"] (ag dN):=⟨rfl,rfl,rfl,by decide +kernel,rfl,by decide +kernel,by decide +kernel⟩
theorem jI{k n:Nat}{f C:Addr}{fd:FuncData}{t1:Tok}(hk:3<=k)(F:Fun K "read_one" "read_one" dN f fd)(i8:Fn P w K mg base k "read_one" ["reader","depth"] (spR C (RO n)))(d4:Fn P w K mg base (k+2) "read_some" ["reader","depth"] (spR C (RM true (RM false (RO n)))))(j0:Fn P w K mg base 4 "read_plain" ["reader"] (spPl C))(a8:MFn P w K mg base 3 C "passes" ["self","word"] (spPasses C))(c8:MFn P w K mg base 2 C "here" ["self"] (spHere C))(b6:MFn P w K mg base 1 C "go_on" ["self","good"] (spGoOn C))(i5:mg "MOST_DEEP" = some (.int 12 t1)):FnOk P w K mg base CX0 (k+3) f fd ["reader","depth"] (spR C (RO (n+1))):=by
 refine F.okQ fj (fun vs H Q E h=>?_) (fun cdv A outer s H vs Q E hr h=>?_)
 ·obtain⟨p,l,ws,us,d,c,r,rfl,_⟩:=h;rfl
 obtain⟨p,l,ws,us,d,c,r,rfl,R0,h,q⟩:=h;refine⟨_,(b_c (ay (t_w (cL (ap gG (q_v 1) (nU i5)) (cB (aP (bA a8 (hr.mono (by omega)) (q_v 0) (q_a af ad)))))) (b_1 (ah (aI (q_a af (q_a (au i8 (hr.mono (by omega)) (q_a (q_v 0) (q_a (aj eU (q_v 1) ae) ad))) ad))))) b_0)
   (b_c (ay (t_w (cL (ap gG (q_v 1) (nU i5)) (cB (aP (bA a8 (hr.mono (by omega)) (q_v 0) (q_a af ad)))))) (b_c (ar (i:=2) fj.nd (au d4 (hr.mono (by omega)) (q_a (q_v 0) (q_a (aj eU (q_v 1) ae) ad))))
   (b_c (bU (bA b6 (hr.mono (by omega)) (q_v 0) (q_a (bg aF (cj c8 (hr.mono (by omega)) (q_v 0)) af) ad)))
   (b_1 (ah (q_v 2))))) b_0)
   (b_1 (ah (au j0 (hr.mono (by omega)) (q_a (q_v 0) ad)))))),?_⟩
 obtain⟨dx,i,e0⟩:=R0.obj;rcases h with⟨d12,us',c',rfl,rfl,h⟩|⟨d12,us',rfl,h⟩|⟨ok,rfl⟩
 ·refine⟨_,rfl,_,_,rfl,rfl,⟨_,rfl,aV d12 ⟨_,rfl,p,dx,_,rfl,e0,aH l i (by decide +kernel) (by decide +kernel),RdL.yes (t:="not") R0 (by decide +kernel) fun H1 k1 R1=>⟨_,rfl,aC ?_⟩⟩⟩⟩;refine⟨_,rfl,_,rfl,_,_,rfl,rfl,p,l,ws,us',d+1,c',r,rfl,R1,h,fun v H2 k2 cv R2=>⟨sz rfl,fun a ga=>?_⟩⟩;have w1:=aa ga (.tup [.str "not",v]);exact q _ _ (k1.trans (k2.trans (KpR.same w1))) (.no ac (cv.ts fun a zs e=>w1 _ _ e)) (R2.same w1)
 ·refine⟨_,rfl,_,_,rfl,rfl,⟨_,rfl,aV d12 ⟨_,rfl,p,dx,_,rfl,e0,aH l i (by decide +kernel) (by decide +kernel),RdL.no (t:="not") R0 (by decide +kernel) (by show¬(opn="not");decide +kernel) ⟨_,rfl,aw ?_⟩⟩⟩⟩;refine⟨_,rfl,_,_,rfl,rfl,⟨_,rfl,aV d12 ⟨_,rfl,p,dx,_,rfl,e0,aH l i (by decide +kernel) (by decide +kernel),RdL.yes (t:="(") R0 (by decide +kernel) fun H1 k1 R1=>⟨_,rfl,aC ?_⟩⟩⟩⟩;refine⟨_,rfl,_,rfl,_,_,rfl,rfl,p,l,ws,us',d+1,c,_,rfl,R1,h,fun v H2 k2 cv R2=>?_⟩;obtain⟨dx,i,e2⟩:=R2.obj;refine⟨_,rfl,p,dx,_,rfl,e2,aH l i (by decide +kernel) (by decide +kernel),⟨_,rfl,p,dx,_,rfl,e2,aH l i (by decide +kernel) (by decide +kernel),R2.here ⟨rfl,?_⟩⟩⟩;rw[decide_eq_true (show V.str ((cls::r).headD "")=V.str ")" from rfl)];exact R2.go fun H3 k3 R3=>⟨_,rfl,q _ _ (k1.trans (k2.trans k3)) (cv.ts (R2.ts k3)) R3⟩
 ·have hh:=bO ok;have hu:(c.ws++r).headD "" = c.hd:=by rw[ow ok];rfl
  refine⟨_,rfl,_,_,rfl,rfl,⟨_,rfl,bz (fun d12=>?_) (fun d12=>?_)⟩⟩
  ·refine⟨_,rfl,p,dx,_,rfl,e0,aH l i (by decide +kernel) (by decide +kernel),RdL.no (t:="not") R0 (by decide +kernel) (by rw[hu];exact hh.1) ⟨_,rfl,aw ?_⟩⟩;refine⟨_,rfl,_,_,rfl,rfl,⟨_,rfl,aV d12 ⟨_,rfl,p,dx,_,rfl,e0,aH l i (by decide +kernel) (by decide +kernel),RdL.no (t:="(") R0 (by decide +kernel) (by rw[hu];exact hh.2.1) ⟨_,rfl,aw ?_⟩⟩⟩⟩;exact⟨_,rfl,p,l,ws,c,r,rfl,R0,ok,q⟩
  ·refine aw ⟨_,rfl,_,_,rfl,rfl,⟨_,rfl,aG d12 (aw ?_)⟩⟩;exact⟨_,rfl,p,l,ws,c,r,rfl,R0,ok,q⟩
def bf:List Str:=["place","text","size","depth","due"]
inductive QTl:List Str->Str->Bool->Prop
 |none:QTl [] "place" false
 |key {k:Str} (h:k∈bf):QTl ["by",k] k false
 |back {k:Str} (h:k∈bf):QTl ["by",k,"back"] k true
inductive spRQ(R:RR)(vs:List V)(H:Hp)(Q:VK)(E_:XK):Prop
 |mk (ws:List Str) (c:Cq) (r:List Str) (key:Str) (back:Bool) (h0:vs=[.str (Str.join aq ws)]) (h1:ws≠[]) (h2:∀x∈ws,32∉x.cps.toList) (h3:(Str.join aq ws).length<=100000) (h4:ws.length<=100000) (h5:R 0 ws c r) (h6:QTl r key back)
   (h7:∀a v H',Same H H'->H' a=some (.tup [v,.str key,.bl back])->CqAt H' v c->Q (.ref a) H'):spRQ R vs H Q E_
theorem lP{k:Str}(h:k∈bf):inV (.str k) (bf.map V.str)=true:=by simp only[bf,zo,zL,or_false]at h;rcases h with rfl|rfl|rfl|rfl|rfl<;>decide +kernel
abbrev bV:Stmt:=top 15
abbrev fK:List Str:=["text","reader","condition","key","back"]
theorem aN:FnScope fK ["text"] (ag bV):=⟨rfl,rfl,rfl,by decide +kernel,rfl,by decide +kernel,by decide +kernel⟩
theorem fF{k:Nat}{R:RR}{f C kk:Addr}{fd:FuncData}(hk:3<=k)(F:Fun K "read_question" "read_question" bV f fd)(k7:MkFn P w K mg base 1 C "Reader" ["self","words"] (spRInit C))(d4:Fn P w K mg base k "read_some" ["reader","depth"] (spR C R))(a8:MFn P w K mg base 3 C "passes" ["self","word"] (spPasses C))(c8:MFn P w K mg base 2 C "here" ["self"] (spHere C))(b6:MFn P w K mg base 1 C "go_on" ["self","good"] (spGoOn C))(c6:MFn P w K mg base 1 C "is_through" ["self"] (spThrough C))(n6:mg "KEYS" = some (.ref kk))(hK:∀H,SqT K H kk (bf.map V.str)):FnOk P w K mg base CX0 (k+1) f fd ["text"] (spRQ R):=by
 refine F.okQ aN (fun vs H Q E h=>?_) (fun cdv A outer s H vs Q E hr h=>?_)
 ·obtain⟨ws,c,r,key,back,rfl,_⟩:=h;rfl
 obtain⟨ws,c,r,key,back,rfl,ne,nb,l1,l2,h1,h2,q⟩:=h;refine⟨_,(b_c (ar (i:=1) aN.nd (ro k7 (hr.mono (by omega)) (q_a (gN (q_v 0) af) ad)))
   (b_c (ar (i:=2) aN.nd (au d4 (hr.mono (by omega)) (q_a (q_v 1) (q_a ae ad))))
   (b_c (ar (i:=3) aN.nd af)
   (b_c (ar (i:=4) aN.nd ci)
   (b_c (ay (aP (bA a8 (hr.mono (by omega)) (q_v 1) (q_a af ad))) (b_c (ar (i:=3) aN.nd (cj c8 (hr.mono (by omega)) (q_v 1)))
   (b_c (bU (bA b6 (hr.mono (by omega)) (q_v 1) (q_a (bg (so (K:=K) rfl) (q_v 3) (kO n6)) ad)))
   (b_1 (ar (i:=4) aN.nd (bA a8 (hr.mono (by omega)) (q_v 1) (q_a af ad)))))) b_0)
   (b_c (ay (cy (aP (cj c6 (hr.mono (by omega)) (q_v 1)))) (b_1 jZ) b_0)
   (b_1 (ah (aI (q_a (q_v 2) (q_a (q_v 3) (q_a (q_v 4) ad)))))))))))),?_⟩
 refine⟨_,rfl,rfl,_," ",rfl,rfl,rfl,l1,fun D gD=>?_⟩;rw[show Txt.split (Str.join aq ws) " " = ws from gh (c:=32) ne nb];have wD:=aa gD (.lst (ws.map V.str));have eD:upd H D (.lst (ws.map V.str)) D=some (.lst (ws.map V.str)):=ac;generalize upd H D (.lst (ws.map V.str))=H1 at wD eD ⊢;intro x dx gx gdx nx;have nDx:D≠x:=fun z=>by rw[z,gx]at eD;cases eD
 have nDdx:D≠dx:=fun z=>by rw[z,gdx]at eD;cases eD
 refine⟨x,dx,D,ws,rfl,ac,by rw[ai nDx,ai nDdx];exact eD,l2,fun H2 k2 R2=>⟨rfl,?_⟩⟩;have w2:Same H H2:=fun b o e=>by
  have e1:=wD _ _ e;have n1:b≠x:=fun z=>by rw[z,gx]at e1;cases e1
  have n2:b≠dx:=fun z=>by rw[z,gdx]at e1;cases e1
  exact k2 _ _ (by rw[ai n1,ai n2];exact e1) n1
 have R2:RdL C H2 x D ws ws:=⟨[],rfl,R2⟩
 have nHx:H x=none:=by
  cases e:H x with
  |none=>rfl
  |some o=>rw[wD _ _ e]at gx;cases gx
 have fs:∀{H3:Hp},KpR x H2 H3->Same H H3:=fun k b o e=>k _ _ (w2 _ _ e) fun z=>by rw[z,nHx]at e;cases e
 refine⟨_,rfl,x,D,ws,ws,0,c,r,rfl,R2,h1,fun v H3 k3 cv R3=>?_⟩;obtain⟨dy,i,e3⟩:=R3.obj;cases h2 with
 |none =>refine⟨_,rfl,x,dy,_,rfl,e3,aH D i (by decide +kernel) (by decide +kernel),RdL.no (t:="by") R3 (by decide +kernel) (by decide +kernel) ⟨_,rfl,aw ?_⟩⟩;refine⟨_,rfl,x,dy,_,rfl,e3,aH D i (by decide +kernel) (by decide +kernel),R3.through ⟨_,rfl,aw ?_⟩⟩;refine⟨_,rfl,_,rfl,_,rfl,sz rfl,fun a ga=>?_⟩;exact q a v _ ((fs k3).trans (aa ga _)) ac (cv.ts fun a zs e=>aa ga _ _ _ e)
 |key h =>refine⟨_,rfl,x,dy,_,rfl,e3,aH D i (by decide +kernel) (by decide +kernel),RdL.yes (t:="by") R3 (by decide +kernel) fun H4 k4 R4=>⟨_,rfl,aC ?_⟩⟩;obtain⟨dy,i,e4⟩:=R4.obj;refine⟨_,rfl,x,dy,_,rfl,e4,aH D i (by decide +kernel) (by decide +kernel),R4.here ?_⟩;refine⟨_,rfl,x,dy,_,rfl,e4,aH D i (by decide +kernel) (by decide +kernel),⟨_,rfl,kk,_,rfl,.inr (hK _),rfl,rfl,?_⟩⟩;rw[show(if false=true then !inV (.str (List.headD [key] "")) (bf.map V.str)else inV (.str (List.headD [key] "")) (bf.map V.str))=true from lP h];refine R4.go fun H5 k5 R5=>?_;obtain⟨dy,i,e5⟩:=R5.obj;refine⟨_,rfl,x,dy,_,rfl,e5,aH D i (by decide +kernel) (by decide +kernel),RdL.no (t:="back") R5 (by decide +kernel) (by decide +kernel) ?_⟩;refine⟨_,rfl,x,dy,_,rfl,e5,aH D i (by decide +kernel) (by decide +kernel),R5.through ⟨_,rfl,aw ?_⟩⟩;refine⟨_,rfl,_,rfl,_,rfl,sz rfl,fun a ga=>?_⟩;exact q a v _ ((fs (k3.trans (k4.trans k5))).trans (aa ga _)) ac (((cv.ts (R3.ts k4)).ts (R4.ts k5)).ts fun a zs e=>aa ga _ _ _ e)
 |back h =>refine⟨_,rfl,x,dy,_,rfl,e3,aH D i (by decide +kernel) (by decide +kernel),RdL.yes (t:="by") R3 (by decide +kernel) fun H4 k4 R4=>⟨_,rfl,aC ?_⟩⟩;obtain⟨dy,i,e4⟩:=R4.obj;refine⟨_,rfl,x,dy,_,rfl,e4,aH D i (by decide +kernel) (by decide +kernel),R4.here ?_⟩;refine⟨_,rfl,x,dy,_,rfl,e4,aH D i (by decide +kernel) (by decide +kernel),⟨_,rfl,kk,_,rfl,.inr (hK _),rfl,rfl,?_⟩⟩;rw[show(if false=true then !inV (.str (List.headD [key,"back"] "")) (bf.map V.str)else inV (.str (List.headD [key,"back"] "")) (bf.map V.str))=true from lP h];refine R4.go fun H5 k5 R5=>?_;obtain⟨dy,i,e5⟩:=R5.obj;refine⟨_,rfl,x,dy,_,rfl,e5,aH D i (by decide +kernel) (by decide +kernel),RdL.yes (t:="back") R5 (by decide +kernel) fun H6 k6 R6=>?_⟩;obtain⟨dy,i,e6⟩:=R6.obj;refine⟨_,rfl,x,dy,_,rfl,e6,aH D i (by decide +kernel) (by decide +kernel),R6.through ⟨_,rfl,aw ?_⟩⟩;refine⟨_,rfl,_,rfl,_,rfl,sz rfl,fun a ga=>?_⟩;exact q a v _ ((fs (k3.trans (k4.trans (k5.trans k6)))).trans (aa ga _)) ac ((((cv.ts (R3.ts k4)).ts (R4.ts k5)).ts (R5.ts k6)).ts fun a zs e=>aa ga _ _ _ e)
def Cq.mny:Cq->Bool
 |.many _ _=>true
 |_=>false
def Cq.isOr:Cq->Bool
 |.many o _=>o
 |_=>false
inductive Good:Nat->Nat->Cq->Prop
 |at{h d:Nat} {c:Cq} (ok:AtOk c):Good (h+1) d c
 |no {h d d':Nat} {c:Cq} (g:Good h d c) (hd:d+(if c.mny then 2 else 1)<=d'):Good (h+1) d' (.no c)
 |many {h d:Nat} {o:Bool} {cs:List Cq} (h1:2<=cs.length) (h2:cs.length<=90) (g:∀c∈cs,Good h (d-(if brk c (orW o)then 1 else 0)) c) (hd:∀c∈cs,brk c (orW o)=true->1<=d):Good (h+1) d (.many o cs)
theorem Good.mono{h d:Nat}{c:Cq}(g:Good h d c):∀{h' d':Nat},h<=h'->d<=d'->Good h' d' c:=by
 induction g with
 |@«at» h d c ok =>
  intro h' d' hh hd;obtain⟨h',rfl⟩:∃x,h'=x+1:=⟨h'-1,by omega⟩
  exact .at ok
 |@no h d e c g hd ih =>
  intro h' d' hh hd';obtain⟨h',rfl⟩:∃x,h'=x+1:=⟨h'-1,by omega⟩
  exact .no (ih (by omega) (za _)) (by omega)
 |@many h d o cs h1 h2 g hd ih =>
  intro h' d' hh hd';obtain⟨h',rfl⟩:∃x,h'=x+1:=⟨h'-1,by omega⟩
  exact .many h1 h2 (fun c hc=>ih c hc (by omega) (by split<;>omega)) (fun c hc z=>zh (hd c hc z) hd')
theorem Good.hds{h d:Nat}{c:Cq}(g:Good h d c):decide (c.hd="or")=c.isOr/\decide (c.hd="and")=(c.mny&&!c.isOr)/\(c.mny=false->c.isOr=false):=by
 cases g with
 | «at» ok =>
  have a:=bO ok;have b:c.isOr=false/\c.mny=false:=by cases ok<;>exact⟨rfl,rfl⟩
  rw[b.1,b.2,decide_eq_false a.2.2.1,decide_eq_false a.2.2.2];exact⟨rfl,rfl,fun _=>rfl⟩
 |no g hd =>
  refine⟨decide_eq_false ?_,decide_eq_false ?_,fun _=>rfl⟩
  ·show¬(("not":Str)="or");decide +kernel
  ·show¬(("not":Str)="and");decide +kernel
 |@many h d o cs =>show decide (orW o="or")=o/\decide (orW o="and")=!o/\_;cases o<;>refine⟨by decide +kernel,by decide +kernel,fun z=>by cases z⟩
theorem Good.brkA{h d:Nat}{c:Cq}(g:Good h d c){t:Str}(n:t≠"or"):brk c t=c.mny:=by
 obtain⟨a,b,e⟩:=g.hds;unfold brk;rw[a,b,decide_eq_false n];cases c with
 |many o=>cases o<;>rfl
 |_=>rfl
theorem Good.brkO{h d:Nat}{c:Cq}(g:Good h d c):brk c "or" = c.isOr:=by obtain⟨a,b,e⟩:=g.hds;unfold brk;rw[a,b,decide_eq_true rfl];cases c.isOr<;>cases c.mny<;>rfl
theorem kr{R:List Str->Cq->List Str->Prop}{o:Bool}{r:List Str}(hr:r.headD ""≠orW o):∀(cs:List Cq) (c:Cq),(∀x∈c::cs,∀r',(r'=r\/∃z,r'=orW o::z)->R (aM (brk x (orW o)) x.ws++r') x r') ->
  ∃r0,R (Cq.wsL o (c::cs)++r) c r0/\RL R (orW o) r0 cs r
 | [],c,h=>⟨r,h c zq r (.inl rfl),.nil hr⟩
 |d::cs,c,h=>by obtain⟨r1,a,b⟩:=kr hr cs d fun x hx=>h x (zl _ hx);refine⟨orW o::(Cq.wsL o (d::cs)++r),?_,.cons a b⟩;have:=h c zq (orW o::(Cq.wsL o (d::cs)++r)) (.inr ⟨_,rfl⟩);rw[Cq.wsL,zr];exact this
theorem iT{o:Bool}{c:Cq}{cs:List Cq}(h:2<=(c::cs).length):ou o c cs=.many o (c::cs):=by
 cases cs with
 |nil=>simp at h
 |cons=>rfl
theorem reads:∀(h d:Nat) (c:Cq),Good h d c ->
  (∀(n:Nat) (D:Int) (r:List Str),(13:Int)<=n+D->D+d+(if c.mny then 1 else 0)<=12->RO n D (aM c.mny c.ws++r) c r) /\
  (c.isOr=false->∀(n:Nat) (D:Int) (r:List Str),(13:Int)<=n+D->D+d<=12->r.headD ""≠"and"->RM false (RO n) D (c.ws++r) c r) /\
  (∀(n:Nat) (D:Int) (r:List Str),(13:Int)<=n+D->D+d<=12->r.headD ""≠"and"->r.headD ""≠"or"->RM true (RM false (RO n)) D (c.ws++r) c r)
 |0,d,c,g=>by cases g
 |h+1,d,c,g=>by
  have E:c.isOr=false->∀(n:Nat) (D:Int) (r:List Str),(13:Int)<=n+D->D+d<=12->r.headD ""≠"and"->(c.mny=false->RO n D (c.ws++r) c r)->RM false (RO n) D (c.ws++r) c r:=fun no n D r hn hD hr hu=>by
   cases hm:c.mny with
   |false=>exact⟨c,r,[],hu hm,.nil hr,by simp,rfl⟩
   |true =>
    cases g with
    | «at» ok=>cases ok<;>cases hm
    |no=>cases hm
    |@many _ _ o cs h1 h2 g hd =>
     have no:o=false:=no;subst no;cases cs with
     |nil=>simp at h1
     |cons c1 cs =>
      obtain⟨r0,a,b⟩:=kr (R:=RO n D) (o:=false) (r:=r) hr cs c1 fun x hx r' hr'=>by have gx:=g x hx;have hb:=gx.brkA (t:=orW false) (by decide +kernel);have dx:=hd x hx;have:=(reads h _ x gx).1 n D r' hn (by rw[hb]at dx ⊢;split<;>(rename_i z;first|(have:=dx z;omega)|omega));rw[hb];exact this
      exact⟨c1,r0,cs,a,b,by simp at h2;omega,(iT h1).symm⟩
  have S:∀(n:Nat) (D:Int) (r:List Str),(13:Int)<=n+D->D+d<=12->r.headD ""≠"and"->r.headD ""≠"or"->(c.isOr=false->RM false (RO n) D (c.ws++r) c r)->RM true (RM false (RO n)) D (c.ws++r) c r:=fun n D r hn hD hr hr2 hE=>by
   cases ho:c.isOr with
   |false=>exact⟨c,r,[],hE ho,.nil hr2,by simp,rfl⟩
   |true =>
    cases g with
    | «at» ok=>cases ok<;>cases ho
    |no=>cases ho
    |@many _ _ o cs h1 h2 g hd =>
     have ho:o=true:=ho;subst ho;cases cs with
     |nil=>simp at h1
     |cons c1 cs =>
      obtain⟨r0,a,b⟩:=kr (R:=RM false (RO n) D) (o:=true) (r:=r) hr2 cs c1 fun x hx r' hr'=>by
       have gx:=g x hx;have hb:brk x (orW true)=x.isOr:=gx.brkO;have dx:=hd x hx;have hra:r'.headD ""≠"and":=by
        rcases hr' with rfl|⟨z,rfl⟩
        ·exact hr
        ·show¬(orW true="and");decide +kernel
       obtain⟨u,e,_⟩:=reads h _ x gx;rw[hb]at dx u e ⊢;cases hx:x.isOr with
       |false =>rw[hx]at u e;exact e rfl n D r' hn (by simp;omega) hra
       |true =>
        have hm:x.mny=true:=by
         cases hq:x.mny with
         |true=>rfl
         |false=>rw[gx.hds.2.2 hq]at hx;cases hx
        rw[hx]at u;rw[hm]at u;have:=dx hx;exact⟨x,r',[],u n D r' hn (by simp;omega),.nil hra,by simp,rfl⟩
      exact⟨c1,r0,cs,a,b,by simp at h2;omega,(iT h1).symm⟩
  have U:∀(n:Nat) (D:Int) (r:List Str),(13:Int)<=n+D->D+d+(if c.mny then 1 else 0)<=12->c.mny=false->RO n D (c.ws++r) c r:=fun n D r hn hD hm=>by
   rw[hm]at hD;simp at hD;obtain⟨n,rfl⟩:∃x,n=x+1:=⟨n-1,by omega⟩
   have hn':(13:Int)<=n+(D+1):=by omega
   cases g with
   | «at» ok=>exact .inr (.inr ⟨ok,rfl⟩)
   |@no _ e _ c' g he =>have hb:brk c' aL=c'.mny:=g.brkA (by decide +kernel);refine .inl ⟨by split at he<;>omega,aM (brk c' aL) c'.ws++r,c',rfl,rfl,?_⟩;rw[hb];exact(reads h _ c' g).1 n (D+1) r hn' (by split at he<;>simp_all<;>omega)
   |many=>cases hm
  refine⟨fun n D r hn hD=>?_,fun no n D r hn hD hr=>E no n D r hn hD hr fun hm=>U n D r hn (by rw[hm];simpa using hD) hm,fun n D r hn hD hr hr2=>S n D r hn hD hr hr2 fun no=>E no n D r hn hD hr fun hm=>U n D r hn (by rw[hm];simpa using hD) hm⟩;cases hm:c.mny with
  |false=>exact U n D r hn hD hm
  |true =>
   rw[hm]at hD;simp at hD;obtain⟨n,rfl⟩:∃x,n=x+1:=⟨n-1,by omega⟩
   have nc:∀t:Str,t="and"\/t="or"->(cls::r).headD ""≠t:=by
    rintro t (rfl|rfl)
    ·show¬(cls="and");decide +kernel
    ·show¬(cls="or");decide +kernel
   refine .inr (.inl ⟨by omega,c.ws++cls::r,?_,S n (D+1) (cls::r) (by omega) (by omega) (nc _ (.inl rfl)) (nc _ (.inr rfl)) fun no=>E no n (D+1) (cls::r) (by omega) (by omega) (nc _ (.inl rfl)) fun hm'=>by rw[hm]at hm';cases hm'⟩);show(opn::(c.ws++[cls]))++r=opn::(c.ws++cls::r);rw[List.cons_append,zr];rfl
theorem bH{s:Str}:∀{a b:List Str},a≠[]->b≠[]->(Str.join s (a++b)).cps.toList=(Str.join s a).cps.toList++(s.cps.toList++(Str.join s b).cps.toList)
 | [],_,h,_=>absurd rfl h
 |_,[],_,h=>absurd rfl h
 | [x],y::b,_,_=>by show(x++s++Str.join s (y::b)).cps.toList=_;rw[aD,aD,zr];rfl
 |x::x2::a,y::b,_,_=>by have ih:=bH (s:=s) (a:=x2::a) (b:=y::b) (by simp) (by simp);show(x++s++Str.join s (x2::a++y::b)).cps.toList=(x++s++Str.join s (x2::a)).cps.toList++_;rw[aD,aD,ih,aD,aD];simp only[zr]
theorem dk{ws:List Str}(h:ws≠[]):Str.join aq (aM true ws)=("( ":Str)++Str.join aq ws++(" )":Str):=by
 refine bj ?_;show(Str.join aq ([opn]++(ws++[cls]))).cps.toList=_;rw[bH (by simp) (by simp),bH h (by simp),aD,aD];have e1:("( ":Str).cps.toList=opn.cps.toList++aq.cps.toList:=by decide +kernel
 have e2:(" )":Str).cps.toList=aq.cps.toList++cls.cps.toList:=by decide +kernel
 rw[e1,e2];show opn.cps.toList++_=_;simp only[zr];rfl
theorem jj{ws:List Str}(h:ws≠[]):Str.join aq (aL::ws)=("not ":Str)++Str.join aq ws:=by
 refine bj ?_;show(Str.join aq ([aL]++ws)).cps.toList=_;rw[bH (by simp) h,aD];have e1:("not ":Str).cps.toList=aL.cps.toList++aq.cps.toList:=by decide +kernel
 rw[e1,zr];rfl
theorem gt{ws:List Str}(h:ws≠[])(k:Str):Str.join aq (ws++[("by":Str),k])=Str.join aq ws++(" by ":Str)++k:=by
 refine bj ?_;rw[bH h (by simp),aD,aD];have e1:(" by ":Str).cps.toList=aq.cps.toList++(("by":Str).cps.toList++aq.cps.toList):=by decide +kernel
 rw[e1];show _=(Str.join aq ws).cps.toList++_++_;have e2:(Str.join aq [("by":Str),k]).cps.toList=("by":Str).cps.toList++(aq.cps.toList++k.cps.toList):=by rw[show(["by",k]:List Str)=[("by":Str)]++[k]from rfl,bH (by simp) (by simp)];rfl
 rw[e2];simp only[zr]
theorem li{ws:List Str}(h:ws≠[]):Str.join aq (ws++[("back":Str)])=Str.join aq ws++(" back":Str):=by
 refine bj ?_;rw[bH h (by simp),aD];have e1:(" back":Str).cps.toList=aq.cps.toList++("back":Str).cps.toList:=by decide +kernel
 rw[e1];rfl
def Cq.lineIn(t:Str)(c:Cq):Str:=Str.join aq (aM (brk c t) c.ws)
theorem ce{b:Bool}{ws:List Str}(h:ws≠[]):aM b ws≠[]:=by
 cases b
 ·exact h
 ·exact List.cons_ne_nil _ _
theorem mE{o:Bool}:∀{cs:List Cq},cs≠[]->(∀c∈cs,c.ws≠[])->Cq.wsL o cs≠[]
 | [],h,_=>absurd rfl h
 | [c],_,h=>by rw[Cq.wsL];exact ce (h c zq)
 |c::d::cs,_,h=>by rw[Cq.wsL];simp
theorem jB{o:Bool}:∀{cs:List Cq},cs≠[]->(∀c∈cs,c.ws≠[])->Str.join aq (Cq.wsL o cs)=Str.join ((" ":Str)++orW o++(" ":Str)) (cs.map (Cq.lineIn (orW o)))
 | [],h,_=>absurd rfl h
 | [c],_,h=>by rw[Cq.wsL];rfl
 |c::d::cs,_,h=>by have ih:=jB (o:=o) (cs:=d::cs) (by simp) fun x hx=>h x (zl _ hx);have n:=mE (o:=o) (cs:=d::cs) (by simp) fun x hx=>h x (zl _ hx);rw[Cq.wsL];refine bj ?_;rw[bH (ce (h c zq)) (by simp)];rw[show orW o::Cq.wsL o (d::cs)=[orW o]++Cq.wsL o (d::cs)from rfl,bH (by simp) n,ih];show _=(Cq.lineIn (orW o) c++((" ":Str)++orW o++(" ":Str))++Str.join ((" ":Str)++orW o++(" ":Str)) ((d::cs).map (Cq.lineIn (orW o)))).cps.toList;rw[aD,aD,aD,aD];simp only[zr];rfl
def Wd(x:Str):Prop:=x.length<=130/\32∉x.cps.toList
theorem cA:∀{ws:List Str},(∀x∈ws,Wd x)->(Str.join aq ws).length<=131*ws.length
 | [],_=>za 0
 | [x],h=>by have:x.length<=130:=(h x zq).1;show x.length<=131*1;omega
 |x::y::ws,h=>by have ih:=cA (ws:=y::ws) fun z hz=>h z (zl _ hz);have:x.length<=130:=(h x zq).1;show(x++aq++Str.join aq (y::ws)).length<=131*(ws.length+1+1);rw[zy,zy];have:aq.length=1:=rfl;simp only[zn]at ih;omega
theorem cM{b:Bool}{ws:List Str}(h:∀x∈ws,Wd x):∀x∈aM b ws,Wd x:=by
 intro x hx;cases b with
 |false=>exact h x hx
 |true =>
  have hx:x∈opn::(ws++[cls]):=hx;rcases zo.mp hx with rfl|hx
  ·exact⟨by decide +kernel,by decide +kernel⟩
  ·rcases zH.mp hx with hx|hx
   ·exact h x hx
   ·rw[zu.mp hx];exact⟨by decide +kernel,by decide +kernel⟩
theorem sR(o:Bool):Wd (orW o):=by cases o<;>exact⟨by decide +kernel,by decide +kernel⟩
theorem rQ{o:Bool}:∀{cs:List Cq},(∀c∈cs,∀x∈c.ws,Wd x)->∀x∈Cq.wsL o cs,Wd x
 | [],_,x,hx=>by rw[Cq.wsL]at hx;cases hx
 | [c],h,x,hx=>by rw[Cq.wsL]at hx;exact cM (h c zq) x hx
 |c::d::cs,h,x,hx=>by
  rw[Cq.wsL]at hx;rcases zH.mp hx with hx|hx
  ·exact cM (h c zq) x hx
  ·rcases zo.mp hx with rfl|hx
   ·exact sR o
   ·exact rQ (fun z hz=>h z (zl _ hz)) x hx
theorem gB(i:Int){k:Nat}(h:k≠45)(h1:k<48\/57<k):k∉(am i).cps.toList:=fun z=>by have:=dD i k z;omega
theorem AtOk.words{c:Cq}(ok:AtOk c):c.ws≠[]/\∀x∈c.ws,Wd x:=by
 cases ok with
 |@w s h =>
  have:∀s∈W6,s.length<=130/\32∉s.cps.toList:=by decide +kernel
  exact⟨by simp[Cq.ws],fun x hx=>by rw[Cq.ws]at hx;rw[zu.mp hx];exact this s h⟩
 |@num s n h h0 h1 =>
  refine⟨by simp[Cq.ws],fun x hx=>?_⟩;rw[Cq.ws]at hx;simp only[zo,zL,or_false]at hx;rcases hx with rfl|rfl
  ·rcases h with rfl|rfl<;>exact⟨by decide +kernel,by decide +kernel⟩
  ·exact⟨zh h1.len (by decide),gB n (by decide) (by decide)⟩
 |@item x y h0 h1 h2 h3 =>
  refine⟨by simp[Cq.ws],fun z hz=>?_⟩;rw[Cq.ws]at hz;simp only[zo,zL,or_false]at hz;rcases hz with rfl|rfl
  ·exact⟨by decide +kernel,by decide +kernel⟩
  ·refine⟨zh (dF h2 h3) (by decide),?_⟩;rw[aD,aD];intro q;rcases zH.mp q with q|q
   ·rcases zH.mp q with q|q
    ·exact gB x (by decide) (by decide) q
    ·revert q;decide +kernel
   ·exact gB y (by decide) (by decide) q
 |@says t h0 h1 h2 =>
  refine⟨by simp[Cq.ws],fun z hz=>?_⟩;rw[Cq.ws]at hz;simp only[zo,zL,or_false]at hz;rcases hz with rfl|rfl
  ·exact⟨by decide +kernel,by decide +kernel⟩
  ·exact⟨zh h1 (by decide),h2⟩
theorem Good.words{h d:Nat}{c:Cq}(g:Good h d c):c.ws≠[]/\∀x∈c.ws,Wd x:=by
 induction g with
 | «at» ok=>exact ok.words
 |no g hd ih =>
  rw[Cq.ws];refine⟨by simp,fun x hx=>?_⟩;rcases zo.mp hx with rfl|hx
  ·exact⟨by decide +kernel,by decide +kernel⟩
  ·exact cM ih.2 x hx
 |many h1 h2 g hd ih =>rw[Cq.ws];exact⟨mE (fun z=>by rw[z]at h1;simp at h1) fun c hc=>(ih c hc).1,rQ fun c hc=>(ih c hc).2⟩
theorem kl{o:Bool}:∀{cs:List Cq},(∀c∈cs,∀x∈c.ws,Wd x)->((cs.map (Cq.lineIn (orW o))).map (·.length)).sum<=131*(Cq.wsL o cs).length
 | [],_=>by simp
 | [c],h=>by have:=cA (cM (b:=brk c (orW o)) (h c zq));rw[Cq.wsL];simp only[zv,List.map_nil,z4,List.sum_nil];exact this
 |c::d::cs,h=>by have a:=cA (cM (b:=brk c (orW o)) (h c zq));have ih:=kl (o:=o) (cs:=d::cs) fun z hz=>h z (zl _ hz);rw[Cq.wsL,zc,zn,zv,zv,z4];have a:(Cq.lineIn (orW o) c).length<=_:=a;omega
theorem kj{o:Bool}:∀{cs:List Cq} {c:Cq},c∈cs->(aM (brk c (orW o)) c.ws).length<=(Cq.wsL o cs).length
 | [],_,h=>by cases h
 | [c],x,h=>by rw[Cq.wsL,zu.mp h];exact za _
 |c::d::cs,x,h=>by
  rw[Cq.wsL,zc,zn];rcases zo.mp h with rfl|h
  ·omega
  ·have:=kj (o:=o) h;omega
theorem jU{b:Bool}{ws:List Str}:ws.length<=(aM b ws).length:=by
 cases b
 ·exact za _
 ·show ws.length<=(ws++[cls]).length+1;rw[zc];omega
theorem CqsAt.get{H:Hp}:∀{vs:List V} {cs:List Cq} {i:Nat} {v:V},CqsAt H vs cs->vs[i]?=some v->∃c,cs[i]?=some c/\CqAt H v c
 |_,_,0,_,.cons h t,e=>by cases e;exact⟨_,rfl,h⟩
 |_,_,i+1,_,.cons h t,e=>t.get (i:=i) e
 |_,_,_,_,.nil,e=>by cases e
theorem jo(l:List Str):(List.range l.length).map (fun i=>V.str ((l[i]?).getD ""))=l.map V.str:=by refine List.ext_getElem (by simp) fun i h1 h2=>?_;rw[zd]at h2;simp[h2]
inductive spWC(n:Nat)(vs:List V)(H:Hp)(Q:VK)(E_:XK):Prop
 |mk (v:V) (c:Cq) (d:Nat) (h0:vs=[v]) (h1:CqAt H v c) (h2:Good n d c) (h3:c.ws.length<=2000) (h4:∀H',Same H H'->Q (.str c.line) H'):spWC n vs H Q E_
inductive spWW(n:Nat)(vs:List V)(H:Hp)(Q:VK)(E_:XK):Prop
 |mk (v:V) (c:Cq) (d:Nat) (t:Str) (h0:vs=[v,.str t]) (h1:CqAt H v c) (h2:Good n d c) (h3:c.ws.length<=2000) (h4:∀H',Same H H'->Q (.str (c.lineIn t)) H'):spWW n vs H Q E_
theorem Good.lineLen{h d:Nat}{c:Cq}(g:Good h d c)(l:c.ws.length<=2000):c.line.length<=262000:=by have:=cA g.words.2;have e:c.line.length<=131*c.ws.length:=this;omega
theorem Good.inLen{h d:Nat}{c:Cq}{t:Str}(g:Good h d c)(l:c.ws.length<=2000):(c.lineIn t).length<=262300:=by
 have:=cA (cM (b:=brk c t) g.words.2);have e:(c.lineIn t).length<=131*(aM (brk c t) c.ws).length:=this;have:(aM (brk c t) c.ws).length<=c.ws.length+2:=by
  cases brk c t
  ·exact Nat.le_add_right _ 2
  ·show(c.ws++[cls]).length+1<=_;rw[zc];exact za _
 omega
theorem aB{n:Nat}(h:n<=1000000):n<=sizeLine:=zh h (by rw[sizeLine_eq];decide)
abbrev bN:Stmt:=top 25
abbrev fu:List Str:=["condition","around","text"]
theorem cH:FnScope fu ["condition","around"] (ag bN):=⟨rfl,rfl,rfl,by decide +kernel,rfl,by decide +kernel,by decide +kernel⟩
theorem fe{k n:Nat}{f:Addr}{fd:FuncData}(F:Fun K "written_within" "written_within" bN f fd)(c9:Fn P w K mg base k "written_condition" ["condition"] (spWC n)):FnOk P w K mg base CX0 (k+1) f fd ["condition","around"] (spWW n):=by
 refine F.okQ cH (fun vs H Q E h=>?_) (fun cdv A outer s H vs Q E hr h=>?_)
 ·obtain⟨v,c,d,t,rfl,_⟩:=h;rfl
 obtain⟨v,c,d,t,rfl,hc,g,hl,q⟩:=h;refine⟨_,(b_c (ar (i:=2) cH.nd (au c9 (hr.mono (by omega)) (q_a (q_v 0) ad)))
   (b_c (ay (t_w (cX (ap aF (ax aK (q_v 0) ae) af) (cz (t_w (cL (ap aF (ax aK (q_v 0) ae) af) (cB (ap dI (q_v 1) af))))))) (b_1 (ah (aj aE (aj aE af (q_v 2)) af))) b_0)
   (b_1 (ah (q_v 2))))),?_⟩
 obtain⟨a,xs,rfl,e⟩:=hc.head;refine⟨_,rfl,_,c,d,rfl,hc,g,hl,fun H1 s1=>?_⟩;have e1:=s1 _ _ e;have q:=q _ s1;have hb:c.lineIn t=Str.join aq (aM (decide (c.hd="or") ||(decide (c.hd="and")&&!decide (t="or"))) c.ws):=rfl;rw[hb]at q;have fin:Q (.str (Str.join aq (aM true c.ws))) H1->∀R:VK,R=Q->tOp (fun x y H Q=>∃i j,x=.str i/\y=.str j/\i.length+j.length<=sizeLine/\Q (.str (i++j)) H) (tOp (fun x y H Q=>∃i j,x=.str i/\y=.str j/\i.length+j.length<=sizeLine/\Q (.str (i++j)) H) (tC (.str "( ")) (tVar 2)) (tC (.str " )")) [some (.ref a),some (.str t),some (.str c.line)] H1 R:=by
  rintro z R rfl;have l1:=g.lineLen hl;refine⟨_,rfl,_,_,rfl,rfl,aB ?_,_,_,rfl,rfl,aB ?_,?_⟩
  ·have:("( ":Str).length=2:=rfl;omega
  ·have:("( ":Str).length=2:=rfl;have:(" )":Str).length=2:=rfl;rw[zy];omega
  ·rw[dk g.words.1]at z;exact z
 refine⟨_,rfl,a,_,_,_,rfl,rfl,SqT.of e1,at0,⟨rfl,⟨_,rfl,bz (fun c1=>?_) (fun c1=>?_)⟩⟩⟩
 ·rw[decide_eq_true (show c.hd="or" by injection c1)]at q;exact aC (fin q _ rfl)
 rw[decide_eq_false (fun z=>c1 (by rw[z]))]at q;refine⟨_,rfl,a,_,_,_,rfl,rfl,SqT.of e1,at0,⟨rfl,⟨_,rfl,bz (fun c2=>?_) (fun c2=>?_)⟩⟩⟩
 ·rw[decide_eq_true (show c.hd="and" by injection c2)]at q;refine⟨_,rfl,⟨rfl,⟨_,rfl,?_⟩⟩⟩;by_cases c3:t="or"
  ·rw[decide_eq_true c3]at q;rw[c3,decide_eq_true rfl];exact aw ⟨_,rfl,q⟩
  ·rw[decide_eq_false c3]at q;rw[decide_eq_false (fun z=>c3 (by injection z))];exact aC (fin q _ rfl)
 ·rw[decide_eq_false (fun z=>c2 (by rw[z]))]at q;exact aw ⟨_,rfl,q⟩
abbrev gR:Stmt:=top 32
abbrev oV:List Str:=["_law_condition","_law_around","_law_line_here"]
theorem jv:FnScope oV ["_law_condition","_law_around"] (ag gR):=⟨rfl,rfl,rfl,by decide +kernel,rfl,by decide +kernel,by decide +kernel⟩
theorem nE{k n:Nat}{f:Addr}{fd:FuncData}(F:Fun K "_law_inner" "_law_inner" gR f fd)(j6:Fn P w K mg base k "_law_line" ["_law_condition"] (spWC n)):FnOk P w K mg base CX0 (k+1) f fd ["_law_condition","_law_around"] (spWW n):=by
 refine F.okQ jv (fun vs H Q E h=>?_) (fun cdv A outer s H vs Q E hr h=>?_)
 ·obtain⟨v,c,d,t,rfl,_⟩:=h;rfl
 obtain⟨v,c,d,t,rfl,hc,g,hl,q⟩:=h;refine⟨_,(b_c (ar (i:=2) jv.nd (au j6 (hr.mono (by omega)) (q_a (q_v 0) ad)))
   (b_c (ay (t_w (cX (ap aF (ax aK (q_v 0) ae) af) (cz (t_w (cL (ap aF (ax aK (q_v 0) ae) af) (cB (ap dI (q_v 1) af))))))) (b_1 (ah (aj aE (aj aE af (q_v 2)) af))) b_0)
   (b_1 (ah (q_v 2))))),?_⟩
 obtain⟨a,xs,rfl,e⟩:=hc.head;refine⟨_,rfl,_,c,d,rfl,hc,g,hl,fun H1 s1=>?_⟩;have e1:=s1 _ _ e;have q:=q _ s1;have hb:c.lineIn t=Str.join aq (aM (decide (c.hd="or") ||(decide (c.hd="and")&&!decide (t="or"))) c.ws):=rfl;rw[hb]at q;have fin:Q (.str (Str.join aq (aM true c.ws))) H1->∀R:VK,R=Q->tOp (fun x y H Q=>∃i j,x=.str i/\y=.str j/\i.length+j.length<=sizeLine/\Q (.str (i++j)) H) (tOp (fun x y H Q=>∃i j,x=.str i/\y=.str j/\i.length+j.length<=sizeLine/\Q (.str (i++j)) H) (tC (.str "( ")) (tVar 2)) (tC (.str " )")) [some (.ref a),some (.str t),some (.str c.line)] H1 R:=by
  rintro z R rfl;have l1:=g.lineLen hl;refine⟨_,rfl,_,_,rfl,rfl,aB ?_,_,_,rfl,rfl,aB ?_,?_⟩
  ·have:("( ":Str).length=2:=rfl;omega
  ·have:("( ":Str).length=2:=rfl;have:(" )":Str).length=2:=rfl;rw[zy];omega
  ·rw[dk g.words.1]at z;exact z
 refine⟨_,rfl,a,_,_,_,rfl,rfl,SqT.of e1,at0,⟨rfl,⟨_,rfl,bz (fun c1=>?_) (fun c1=>?_)⟩⟩⟩
 ·rw[decide_eq_true (show c.hd="or" by injection c1)]at q;exact aC (fin q _ rfl)
 rw[decide_eq_false (fun z=>c1 (by rw[z]))]at q;refine⟨_,rfl,a,_,_,_,rfl,rfl,SqT.of e1,at0,⟨rfl,⟨_,rfl,bz (fun c2=>?_) (fun c2=>?_)⟩⟩⟩
 ·rw[decide_eq_true (show c.hd="and" by injection c2)]at q;refine⟨_,rfl,⟨rfl,⟨_,rfl,?_⟩⟩⟩;by_cases c3:t="or"
  ·rw[decide_eq_true c3]at q;rw[c3,decide_eq_true rfl];exact aw ⟨_,rfl,q⟩
  ·rw[decide_eq_false c3]at q;rw[decide_eq_false (fun z=>c3 (by injection z))];exact aC (fin q _ rfl)
 ·rw[decide_eq_false (fun z=>c2 (by rw[z]))]at q;exact aw ⟨_,rfl,q⟩
theorem tj(s:Str)(l:List Str):Txt.join s l=Str.join s l:=StrLaws.glued_eq_join _ _
theorem jh{h d:Nat}{o:Bool}{cs:List Cq}{sep:Str}(g:Good h d (.many o cs))(hl:(Cq.many o cs).ws.length<=2000)(hs:sep.length<=10):((cs.map (Cq.lineIn (orW o))).map (·.length)).sum+(cs.map (Cq.lineIn (orW o))).length*sep.length<=16777216:=by
 cases g with
 | «at» ok=>cases ok
 |many h1 h2 g hd =>have a:=kl (o:=o) (cs:=cs) fun c hc=>(g c hc).words.2;rw[Cq.ws]at hl;rw[zd];have:cs.length*sep.length<=90*10:=Nat.mul_le_mul h2 hs;omega
theorem Good.parts{h d:Nat}{o:Bool}{cs:List Cq}(g:Good (h+1) d (.many o cs))(hl:(Cq.many o cs).ws.length<=2000):cs≠[]/\cs.length<=90/\∀c∈cs,(∃e,Good h e c)/\c.ws.length<=2000:=by
 cases g with
 | «at» ok=>cases ok
 |many h1 h2 g hd =>refine⟨fun z=>by rw[z]at h1;simp at h1,h2,fun c hc=>⟨⟨_,g c hc⟩,?_⟩⟩;rw[Cq.ws]at hl;exact zh jU (zh (kj (o:=o) hc) hl)
theorem Good.manyLine{h d:Nat}{o:Bool}{cs:List Cq}(g:Good (h+1) d (.many o cs)):(Cq.many o cs).line=Str.join ((" ":Str)++orW o++(" ":Str)) (cs.map (Cq.lineIn (orW o))):=by
 have w:=g.words;cases g with
 | «at» ok=>cases ok
 |many h1 h2 g hd =>unfold Cq.line;rw[Cq.ws];exact jB (fun z=>by rw[z]at h1;simp at h1) fun c hc=>(g c hc).words.1
theorem ke(o:Bool):((" ":Str)++orW o++(" ":Str)).length<=10:=by cases o<;>decide +kernel
theorem Good.noPart{h d:Nat}{c:Cq}(g:Good (h+1) d (.no c))(hl:(Cq.no c).ws.length<=2000):(∃e,Good h e c)/\c.ws.length<=2000/\(Cq.no c).line=("not ":Str)++c.lineIn aL:=by
 cases g with
 | «at» ok=>cases ok
 |no g hd =>
  refine⟨⟨_,g⟩,?_,?_⟩
  ·rw[Cq.ws,zn]at hl;have:=jU (b:=brk c aL) (ws:=c.ws);omega
  ·unfold Cq.line;rw[Cq.ws];exact jj (ce g.words.1)
theorem Good.w6{h d:Nat}{s:Str}(g:Good h d (.w s)):s∈W6:=by
 cases g with
 | «at» ok=>cases ok;assumption
theorem Good.at'{h d:Nat}{c:Cq}(g:Good h d c)(h1:c.mny=false)(h2:c.hd≠"not"):AtOk c:=by
 cases g with
 | «at» ok=>exact ok
 |no=>exact absurd rfl h2
 |many=>cases h1
theorem sg:¬(V.str "number" = V.str "nothing"):=by decide +kernel
theorem si:¬(V.str "number" = V.str "item"):=by decide +kernel
theorem sf:¬(V.str "item" = V.str "nothing"):=by decide +kernel
theorem sj:¬(V.str "word" = V.str "nothing"):=by decide +kernel
theorem lh:¬(V.str (orW false)=V.str "or"):=by decide +kernel
theorem pX(o:Bool):(" ":Str).length+(orW o).length+(" ":Str).length<=sizeLine:=by cases o<;>decide +kernel
theorem oh(o:Bool):(" ":Str).length+(orW o).length<=sizeLine:=by cases o<;>decide +kernel
theorem oi(o:Bool):((" ":Str)++orW o).length+(" ":Str).length<=sizeLine:=by cases o<;>decide +kernel
theorem oJ:¬(V.str aL=V.str "or"):=by decide +kernel
theorem lV:¬(V.str aL=V.str "and"):=by decide +kernel
abbrev bw:Stmt:=top 24
abbrev dQ:List Str:=["condition","word","kind"]
theorem bq:FnScope dQ ["condition"] (ag bw):=⟨rfl,rfl,rfl,by decide +kernel,rfl,by decide +kernel,by decide +kernel⟩
theorem dL{k n:Nat}{f ff:Addr}{fd:FuncData}(hk:1<=k)(F:Fun K "written_condition" "written_condition" bw f fd)(j1:Fn P w K mg base k "written_within" ["condition","around"] (spWW n))(d3:Fn P w K mg base 1 "written_numbers" ["numbers","sign"] mv)(b9:mg "FOLLOWING" = some (.ref ff))(T:Tab K ff FT)(dg:PySem.W.nsIn K cStatics "sys.int_max_str_digits" = some none)(b3:mg "str" = none):FnOk P w K mg base CX0 (k+1) f fd ["condition"] (spWC (n+1)):=by
 refine F.okQ bq (fun vs H Q E h=>?_) (fun cdv A outer s H vs Q E hr h=>?_)
 ·obtain⟨v,c,d,rfl,_⟩:=h;rfl
 obtain⟨v,c,d,rfl,hc,g,hl,q⟩:=h;refine⟨_,(b_c (ar (i:=1) bq.nd (ax aK (q_v 0) ae))
   (b_c (ay (t_w (cX (ap aF (q_v 1) af) (cz (ap aF (q_v 1) af)))) (b_1 (ah (fZ (rm (q_v 1)) (cR (own:=["part"]) (⟨rfl,by decide +kernel,by decide +kernel,rfl,⟨rfl,rfl,trivial⟩⟩:CompOk _ _ [1] ["word"]) rfl (kD (ax aK (q_v 0) ae)) (fun _ _ _ _=>bh (i:=0) (show (["part","word"]:List Str).Nodup by decide +kernel)) (bt (by decide)) (fun _ _ _ _=>fA) (fun _ _ _ _=>(au j1 (hr.mono (by omega)) (q_a (q_v 0) (q_a (q_v 1) ad)))))))) b_0)
   (b_c (ay (ap aF (q_v 1) af) (b_1 (ah (aj aE af (au j1 (hr.mono (by omega)) (q_a (ax aK (q_v 0) ae) (q_a (q_v 1) ad)))))) b_0)
   (b_c (ar (i:=2) bq.nd (ax oS (kO b9) (q_v 1)))
   (b_c (ay (ap aF (q_v 2) af) (b_1 (ah (q_v 1))) b_0)
   (b_c (ay (ap aF (q_v 2) af) (b_1 (ah (aj aE (aj aE (q_v 1) af) (au d3 (hr.mono (by omega)) (q_a (ax aK (q_v 0) ae) (q_a af ad)))))) b_0)
   (b_1 (ah (aj aE (aj aE (q_v 1) af) (cg (eJ (K:=K) rfl rfl dg) b3 bx (q_a (ax aK (q_v 0) ae) ad))))))))))),?_⟩
 obtain⟨a,xs,rfl,e⟩:=hc.head;refine⟨_,rfl,a,_,_,_,rfl,rfl,SqT.of e,at0,?_⟩;have atom:AtOk c->∀{A B:Prop},B->if decide (V.str c.hd=V.str "or")=true then A else B:=fun ok _ _ hB=>aG (fun z=>(bO ok).2.2.1 (by injection z)) hB
 have atom2:AtOk c->∀{A B:Prop},B->if decide (V.str c.hd=V.str "and")=true then A else B:=fun ok _ _ hB=>aG (fun z=>(bO ok).2.2.2 (by injection z)) hB
 have atom3:AtOk c->∀{A B:Prop},B->if decide (V.str c.hd=V.str "not")=true then A else B:=fun ok _ _ hB=>aG (fun z=>(bO ok).1 (by injection z)) hB
 cases hc with
 |@w _ s h =>have ok:AtOk (.w s):=.w g.w6;refine⟨_,rfl,rfl,⟨_,rfl,atom ok ⟨_,rfl,rfl,⟨_,rfl,atom2 ok ⟨_,rfl,rfl,⟨_,rfl,atom3 ok ?_⟩⟩⟩⟩⟩⟩;refine⟨_,rfl,ff,s,FT,_,rfl,rfl,T,fL ok,?_⟩;exact⟨_,rfl,rfl,⟨_,rfl,aV rfl ⟨_,rfl,q _ (Same.refl _)⟩⟩⟩
 |@num _ s m h =>
  have ok:AtOk (.num s m):=g.at' rfl (by cases g with|«at» ok=>exact(bO ok).1);refine⟨_,rfl,rfl,⟨_,rfl,atom ok ⟨_,rfl,rfl,⟨_,rfl,atom2 ok ⟨_,rfl,rfl,⟨_,rfl,atom3 ok ?_⟩⟩⟩⟩⟩⟩;refine⟨_,rfl,ff,s,FT,_,rfl,rfl,T,fL ok,?_⟩;cases ok with
  |num hs h0 h1 =>
  refine⟨_,rfl,rfl,⟨_,rfl,aG sg ⟨_,rfl,rfl,⟨_,rfl,aG si ?_⟩⟩⟩⟩;have ls:s.length<=5:=by rcases hs with rfl|rfl<;>decide +kernel
  have:=h1.len;refine⟨_,rfl,_,_,rfl,rfl,aB ?_,_,rfl,a,_,_,_,rfl,rfl,SqT.of h,at1,.int m rfl h1.big ⟨_,_,rfl,rfl,aB ?_,q _ (Same.refl _)⟩⟩
  ·show s.length+1<=_;omega
  ·rw[zy];show s.length+1+_<=_;omega
 |@item _ b x y h h1 =>
  have ok:AtOk (.item x y):=g.at' rfl (by show¬(("beneath":Str)="not");decide +kernel);refine⟨_,rfl,rfl,⟨_,rfl,atom ok ⟨_,rfl,rfl,⟨_,rfl,atom2 ok ⟨_,rfl,rfl,⟨_,rfl,atom3 ok ?_⟩⟩⟩⟩⟩⟩;refine⟨_,rfl,ff,_,FT,_,rfl,rfl,T,fL ok,?_⟩;cases ok with
  |item h2 h3 h4 h5 =>
  refine⟨_,rfl,rfl,⟨_,rfl,aG sf ⟨_,rfl,rfl,⟨_,rfl,aV rfl ?_⟩⟩⟩⟩;refine⟨_,rfl,_,_,rfl,rfl,(show("beneath":Str).length+(" ":Str).length<=sizeLine by decide +kernel),_,rfl,a,_,_,_,rfl,rfl,SqT.of h,at1,b,[x,y],".",rfl,h1,?_,by simp,by decide +kernel,fun H1 s1=>?_⟩
  ·intro n hn;simp only[zo,zL,or_false]at hn;rcases hn with rfl|rfl
   ·exact h4
   ·exact h5
  ·have e2:Txt.join "." ([x,y].map am)=bQ x y:=sd _ _ _;have:=dF h4 h5;rw[e2];refine⟨_,_,rfl,rfl,aB ?_,q _ s1⟩;have:(("beneath":Str)++(" ":Str)).length=8:=by decide +kernel
   show(("beneath":Str)++(" ":Str)).length+_<=_;omega
 |@says _ t h =>
  have ok:AtOk (.says t):=g.at' rfl (by show¬(("says":Str)="not");decide +kernel);refine⟨_,rfl,rfl,⟨_,rfl,atom ok ⟨_,rfl,rfl,⟨_,rfl,atom2 ok ⟨_,rfl,rfl,⟨_,rfl,atom3 ok ?_⟩⟩⟩⟩⟩⟩;refine⟨_,rfl,ff,_,FT,_,rfl,rfl,T,fL ok,?_⟩;cases ok with
  |says h2 h3 h4 =>
  refine⟨_,rfl,rfl,⟨_,rfl,aG sj ⟨_,rfl,rfl,⟨_,rfl,aG kG ?_⟩⟩⟩⟩;refine⟨_,rfl,_,_,rfl,rfl,(show("says":Str).length+(" ":Str).length<=sizeLine by decide +kernel),_,rfl,a,_,_,_,rfl,rfl,SqT.of h,at1,.str t rfl ⟨_,_,rfl,rfl,aB ?_,q _ (Same.refl _)⟩⟩;have:(("says":Str)++(" ":Str)).length=5:=by decide +kernel
  show(("says":Str)++(" ":Str)).length+_<=_;omega
 |@no _ v c h h1 =>obtain⟨⟨e',g'⟩,hl',el⟩:=g.noPart hl;refine⟨_,rfl,rfl,⟨_,rfl,aG oJ ⟨_,rfl,rfl,⟨_,rfl,aG lV ⟨_,rfl,rfl,⟨_,rfl,aV rfl ?_⟩⟩⟩⟩⟩⟩;refine⟨_,rfl,a,_,_,_,rfl,rfl,SqT.of h,at1,_,rfl,v,c,e',aL,rfl,h1,g',hl',fun H1 s1=>?_⟩;have:=g'.inLen (t:=aL) hl';rw[el]at q;exact⟨_,_,rfl,rfl,aB (by show 4+_<=_;omega),q _ s1⟩
 |@many _ b o vs cs h h1 h2 =>
  obtain⟨ne,l90,hp⟩:=g.parts hl;rw[g.manyLine]at q;have lv:=h2.len;have fit:=jh g hl (ke o);have lL:(cs.map (Cq.lineIn (orW o))).length=cs.length:=zd _;have eL:∀i c,cs[i]?=some c->((cs.map (Cq.lineIn (orW o)))[i]?).getD ("":Str)=Cq.lineIn (orW o) c:=fun i c ec=>by rw[zP,ec];rfl
  generalize cs.map (Cq.lineIn (orW o))=L at q fit lL eL;refine⟨_,rfl,rfl,⟨_,rfl,?_⟩⟩;cases o
  case' true=>refine aV rfl (aC ?_)
  case' false=>refine aG lh ⟨_,rfl,rfl,⟨_,rfl,aV rfl ?_⟩⟩
  case true|false =>
   refine⟨_,rfl,_,rfl,pX _,rfl,_,rfl,a,_,_,_,rfl,rfl,SqT.of h,at1,b,rfl,⟨_,SqT.of h1⟩,?_⟩;refine fw (fun i=>.str ((L[i]?).getD ("":Str))) (by omega) (SqT.of h1) (fun i x H1 hi sm R k=>?_) (fun p H1 sm hp'=>?_)
   ·obtain⟨c,ec,hc⟩:=h2.get hi;obtain⟨⟨e',g'⟩,hl'⟩:=hp c (zQ ec);rw[eL i c ec]at k;exact⟨_,rfl,_,rfl,x,c,e',_,rfl,hc.ts fun a zs e=>sm _ _ e,g',hl',k⟩
   ·rw[show vs.length=L.length by rw[lL,lv],jo];refine⟨_,p,L,rfl,rfl,SqL.of ac,fit,?_⟩;rw[tj];exact q _ (sm.trans (aa hp' _))
theorem se:¬(V.str "says" = V.str "beneath"):=by decide +kernel
abbrev jt:Stmt:=top 33
abbrev qh:List Str:=["_law_condition","_law_word"]
theorem kd:FnScope qh ["_law_condition"] (ag jt):=⟨rfl,rfl,rfl,by decide +kernel,rfl,by decide +kernel,by decide +kernel⟩
theorem pw{k n:Nat}{f:Addr}{fd:FuncData}(hk:1<=k)(F:Fun K "_law_line" "_law_line" jt f fd)(o2:Fn P w K mg base k "_law_inner" ["_law_condition","_law_around"] (spWW n))(dg:PySem.W.nsIn K cStatics "sys.int_max_str_digits" = some none)(b3:mg "str" = none)(a6:mg "len" = none):FnOk P w K mg base CX0 (k+1) f fd ["_law_condition"] (spWC (n+1)):=by
 refine F.okQ kd (fun vs H Q E h=>?_) (fun cdv A outer s H vs Q E hr h=>?_)
 ·obtain⟨v,c,d,rfl,_⟩:=h;rfl
 obtain⟨v,c,d,rfl,hc,g,hl,q⟩:=h;refine⟨_,(b_c (ar (i:=1) kd.nd (ax aK (q_v 0) ae))
   (b_c (ay (t_w (cX (ap aF (q_v 1) af) (cz (ap aF (q_v 1) af)))) (b_1 (ah (fZ (aj aE (aj aE af (q_v 1)) af) (cR (own:=["_law_part"]) (⟨rfl,by decide +kernel,by decide +kernel,rfl,⟨rfl,rfl,trivial⟩⟩:CompOk _ _ [1] ["_law_word"]) rfl (kD (ax aK (q_v 0) ae)) (fun _ _ _ _=>bh (i:=0) (show (["_law_part","_law_word"]:List Str).Nodup by decide +kernel)) (bt (by decide)) (fun _ _ _ _=>fA) (fun _ _ _ _=>(au o2 (hr.mono (by omega)) (q_a (q_v 0) (q_a (q_v 1) ad)))))))) b_0)
   (b_c (ay (ap aF (q_v 1) af) (b_1 (ah (aj aE af (au o2 (hr.mono (by omega)) (q_a (ax aK (q_v 0) ae) (q_a (q_v 1) ad)))))) b_0)
   (b_c (ay (ap aF (q_B bn a6 zB (q_a (q_v 0) ad)) ae) (b_1 (ah (q_v 1))) b_0)
   (b_c (ay (ap aF (q_v 1) af) (b_1 (ah (aj aE (aj aE (aj aE af (cg (eJ (K:=K) rfl rfl dg) b3 bx (q_a (ax aK (ax aK (q_v 0) ae) ae) ad))) af) (cg (eJ (K:=K) rfl rfl dg) b3 bx (q_a (ax aK (ax aK (q_v 0) ae) ae) ad))))) b_0)
   (b_1 (ah (aj aE (aj aE (q_v 1) af) (cg (eJ (K:=K) rfl rfl dg) b3 bx (q_a (ax aK (q_v 0) ae) ad)))))))))),?_⟩
 obtain⟨a,xs,rfl,e⟩:=hc.head;refine⟨_,rfl,a,_,_,_,rfl,rfl,SqT.of e,at0,?_⟩;have atom:AtOk c->∀{A B:Prop},B->if decide (V.str c.hd=V.str "or")=true then A else B:=fun ok _ _ hB=>aG (fun z=>(bO ok).2.2.1 (by injection z)) hB
 have atom2:AtOk c->∀{A B:Prop},B->if decide (V.str c.hd=V.str "and")=true then A else B:=fun ok _ _ hB=>aG (fun z=>(bO ok).2.2.2 (by injection z)) hB
 have atom3:AtOk c->∀{A B:Prop},B->if decide (V.str c.hd=V.str "not")=true then A else B:=fun ok _ _ hB=>aG (fun z=>(bO ok).1 (by injection z)) hB
 cases hc with
 |@w _ s h =>have ok:AtOk (.w s):=.w g.w6;refine⟨_,rfl,rfl,⟨_,rfl,atom ok ⟨_,rfl,rfl,⟨_,rfl,atom2 ok ⟨_,rfl,rfl,⟨_,rfl,atom3 ok ?_⟩⟩⟩⟩⟩⟩;exact⟨_,rfl,a,_,rfl,.inr (SqT.of h),rfl,⟨_,rfl,aV rfl ⟨_,rfl,q _ (Same.refl _)⟩⟩⟩
 |@num _ s m h =>
  have ok:AtOk (.num s m):=g.at' rfl (by cases g with|«at» ok=>exact(bO ok).1);refine⟨_,rfl,rfl,⟨_,rfl,atom ok ⟨_,rfl,rfl,⟨_,rfl,atom2 ok ⟨_,rfl,rfl,⟨_,rfl,atom3 ok ?_⟩⟩⟩⟩⟩⟩;refine⟨_,rfl,a,_,rfl,.inr (SqT.of h),rfl,⟨_,rfl,aG (by show¬(V.int 2=V.int 1);decide) ?_⟩⟩;cases ok with
  |num hs h0 h1 =>
  refine⟨_,rfl,rfl,⟨_,rfl,aG ?_ ?_⟩⟩
  ·rcases hs with rfl|rfl
   ·show¬(V.str "due" = V.str "beneath");decide +kernel
   ·show¬(V.str "depth" = V.str "beneath");decide +kernel
  have ls:s.length<=5:=by rcases hs with rfl|rfl<;>decide +kernel
  have:=h1.len;refine⟨_,rfl,_,_,rfl,rfl,aB ?_,_,rfl,a,_,_,_,rfl,rfl,SqT.of h,at1,.int m rfl h1.big ⟨_,_,rfl,rfl,aB ?_,q _ (Same.refl _)⟩⟩
  ·show s.length+1<=_;omega
  ·rw[zy];show s.length+1+_<=_;omega
 |@item _ b x y h h1 =>
  have ok:AtOk (.item x y):=g.at' rfl (by show¬(("beneath":Str)="not");decide +kernel);refine⟨_,rfl,rfl,⟨_,rfl,atom ok ⟨_,rfl,rfl,⟨_,rfl,atom2 ok ⟨_,rfl,rfl,⟨_,rfl,atom3 ok ?_⟩⟩⟩⟩⟩⟩;refine⟨_,rfl,a,_,rfl,.inr (SqT.of h),rfl,⟨_,rfl,aG (by show¬(V.int 2=V.int 1);decide) ?_⟩⟩;cases ok with
  |item h2 h3 h4 h5 =>
  have lx:=h4.len;have ly:=h5.len;have lb:("beneath ":Str).length=8:=by decide +kernel
  have ld:(".":Str).length=1:=rfl;refine⟨_,rfl,rfl,⟨_,rfl,aV rfl ?_⟩⟩;refine⟨_,rfl,a,_,_,_,rfl,rfl,SqT.of h,at1,b,_,_,_,rfl,rfl,SqT.of h1,at0,.int x rfl h4.big ⟨_,_,rfl,rfl,aB (by omega),_,_,rfl,rfl,aB (by rw[zy];omega),?_⟩⟩;refine⟨_,rfl,a,_,_,_,rfl,rfl,SqT.of h,at1,b,_,_,_,rfl,rfl,SqT.of h1,at1,.int y rfl h5.big ⟨_,_,rfl,rfl,aB (by rw[zy,zy];omega),?_⟩⟩;have el:(Cq.item x y).line=("beneath ":Str)++am x++"."++am y:=by
   refine bj ?_;show(("beneath":Str)++(" ":Str)++bQ x y).cps.toList=_;unfold bQ;simp only[aD,zr];have:("beneath ":Str).cps.toList=("beneath":Str).cps.toList++(" ":Str).cps.toList:=by decide +kernel
   rw[this,zr]
  rw[el]at q;exact q _ (Same.refl _)
 |@says _ t h =>
  have ok:AtOk (.says t):=g.at' rfl (by show¬(("says":Str)="not");decide +kernel);refine⟨_,rfl,rfl,⟨_,rfl,atom ok ⟨_,rfl,rfl,⟨_,rfl,atom2 ok ⟨_,rfl,rfl,⟨_,rfl,atom3 ok ?_⟩⟩⟩⟩⟩⟩;refine⟨_,rfl,a,_,rfl,.inr (SqT.of h),rfl,⟨_,rfl,aG (by show¬(V.int 2=V.int 1);decide) ?_⟩⟩;cases ok with
  |says h2 h3 h4 =>
  refine⟨_,rfl,rfl,⟨_,rfl,aG se ?_⟩⟩;refine⟨_,rfl,_,_,rfl,rfl,(show("says":Str).length+(" ":Str).length<=sizeLine by decide +kernel),_,rfl,a,_,_,_,rfl,rfl,SqT.of h,at1,.str t rfl ⟨_,_,rfl,rfl,aB ?_,q _ (Same.refl _)⟩⟩;have:(("says":Str)++(" ":Str)).length=5:=by decide +kernel
  show(("says":Str)++(" ":Str)).length+_<=_;omega
 |@no _ v c h h1 =>obtain⟨⟨e',g'⟩,hl',el⟩:=g.noPart hl;refine⟨_,rfl,rfl,⟨_,rfl,aG oJ ⟨_,rfl,rfl,⟨_,rfl,aG lV ⟨_,rfl,rfl,⟨_,rfl,aV rfl ?_⟩⟩⟩⟩⟩⟩;refine⟨_,rfl,a,_,_,_,rfl,rfl,SqT.of h,at1,_,rfl,v,c,e',aL,rfl,h1,g',hl',fun H1 s1=>?_⟩;have:=g'.inLen (t:=aL) hl';rw[el]at q;exact⟨_,_,rfl,rfl,aB (by show 4+_<=_;omega),q _ s1⟩
 |@many _ b o vs cs h h1 h2 =>
  obtain⟨ne,l90,hp⟩:=g.parts hl;rw[g.manyLine]at q;have lv:=h2.len;have fit:=jh g hl (ke o);have lL:(cs.map (Cq.lineIn (orW o))).length=cs.length:=zd _;have eL:∀i c,cs[i]?=some c->((cs.map (Cq.lineIn (orW o)))[i]?).getD ("":Str)=Cq.lineIn (orW o) c:=fun i c ec=>by rw[zP,ec];rfl
  generalize cs.map (Cq.lineIn (orW o))=L at q fit lL eL;refine⟨_,rfl,rfl,⟨_,rfl,?_⟩⟩;cases o
  case' true=>refine aV rfl (aC ?_)
  case' false=>refine aG lh ⟨_,rfl,rfl,⟨_,rfl,aV rfl ?_⟩⟩
  case true|false =>
   refine⟨_,rfl,_,_,rfl,rfl,oh _,_,_,rfl,rfl,oi _,rfl,_,rfl,a,_,_,_,rfl,rfl,SqT.of h,at1,b,rfl,⟨_,SqT.of h1⟩,?_⟩;refine fw (fun i=>.str ((L[i]?).getD ("":Str))) (by omega) (SqT.of h1) (fun i x H1 hi sm R k=>?_) (fun p H1 sm hp'=>?_)
   ·obtain⟨c,ec,hc⟩:=h2.get hi;obtain⟨⟨e',g'⟩,hl'⟩:=hp c (zQ ec);rw[eL i c ec]at k;exact⟨_,rfl,_,rfl,x,c,e',_,rfl,hc.ts fun a zs e=>sm _ _ e,g',hl',k⟩
   ·rw[show vs.length=L.length by rw[lL,lv],jo];refine⟨_,p,L,rfl,rfl,SqL.of ac,fit,?_⟩;rw[tj];exact q _ (sm.trans (aa hp' _))
def isS:V->Bool
 |.str _=>true
 |_=>false
theorem dm{K:PySem.W.Frag}{H:Hp}{v:V}{n:String}(h:TyOf K H v (.type n)):PySem.W.kitOne K (.type n) (.type "str")=some (isS v):=by
 cases h with
 |str x=>exact dH (b:=true) (by decide +kernel) (fun z=>nomatch z)
 |non=>exact ak (b:=false) (by decide +kernel) (by decide +kernel) (by decide +kernel)
 |bl x=>exact ak (b:=false) (by decide +kernel) (by decide +kernel) (by decide +kernel)
 |int i=>exact ak (b:=false) (by decide +kernel) (by decide +kernel) (by decide +kernel)
 |flt x=>exact ak (b:=false) (by decide +kernel) (by decide +kernel) (by decide +kernel)
 |lst e=>exact ak (b:=false) (by decide +kernel) (by decide +kernel) (by decide +kernel)
 |frz e=>exact ak (b:=false) (by decide +kernel) (by decide +kernel) (by decide +kernel)
 |tup e=>exact ak (b:=false) (by decide +kernel) (by decide +kernel) (by decide +kernel)
 |dK e=>exact ak (b:=false) (by decide +kernel) (by decide +kernel) (by decide +kernel)
 |dT e=>exact ak (b:=false) (by decide +kernel) (by decide +kernel) (by decide +kernel)
def AlkF(x y:V):Prop:=x=y/\((∃s,x=.str s)\/(∃i,x=.int i)\/∃b,x=.bl b)
def Alk:Nat->Hp->V->V->Prop
 |0,_,x,y=>AlkF x y
 |n+1,H,x,y=>AlkF x y\/∃(a b:Addr) (xs ys:List V),x=.ref a/\y=.ref b/\H a=some (.tup xs)/\H b=some (.tup ys)/\xs.length=ys.length/\xs.length<=100/\∀(i:Nat) (u v:V),xs[i]?=some u->ys[i]?=some v->Alk n H u v
theorem Alk.same:∀{n:Nat} {H H':Hp} {x y:V},Alk n H x y->Same H H'->Alk n H' x y
 |0,_,_,_,_,h,_=>h
 |n+1,_,_,_,_,h,s=>by
  rcases h with h|⟨a,b,xs,ys,h1,h2,h3,h4,h5,h6,h7⟩
  ·exact .inl h
  ·exact .inr ⟨a,b,xs,ys,h1,h2,s _ _ h3,s _ _ h4,h5,h6,fun i u v e1 e2=>(h7 i u v e1 e2).same s⟩
theorem Alk.up{n:Nat}{H:Hp}{x y:V}(h:Alk n H x y):Alk (n+1) H x y:=by
 induction n generalizing x y with
 |zero=>exact .inl h
 |succ n ih =>
  rcases h with h|⟨a,b,xs,ys,h1,h2,h3,h4,h5,h6,h7⟩
  ·exact .inl h
  ·exact .inr ⟨a,b,xs,ys,h1,h2,h3,h4,h5,h6,fun i u v e1 e2=>ih (h7 i u v e1 e2)⟩
def df(n:Nat):Sp:=fun vs H Q _=>∃x y:V,vs=[x,y]/\Alk n H x y/\∀H',Same H H'->Q (.bl true) H'
theorem bE{T:String}:∀v,RelV (.ty T) v->v=.type T:=fun v h=>h
abbrev dt:Stmt:=top 34
abbrev oT:List Str:=["_law_found","_law_due"]
theorem og:FnScope oT ["_law_found","_law_due"] (ag dt):=⟨rfl,rfl,rfl,by decide +kernel,rfl,by decide +kernel,by decide +kernel⟩
def kf:Sp:=fun _ _ _ _=>False
theorem AlkF.ty{K:PySem.W.Frag}{H:Hp}{x y:V}(h:AlkF x y):∃n,TyOf K H x (.type n)/\isT H x=false:=by
 rcases h.2 with⟨s,e⟩|⟨i,e⟩|⟨b,e⟩<;>subst e
 ·exact⟨_,.str s,rfl⟩
 ·exact⟨_,.int i,rfl⟩
 ·exact⟨_,.bl b,rfl⟩
theorem ib{k n:Nat}{sp:Sp}{f:Addr}{fd:FuncData}(hsp:∀m,n=m+1->sp=df m)(F:Fun K "_law_alike" "_law_alike" dt f fd)(b4:Fn P w K mg base k "_law_alike" ["_law_found","_law_due"] sp)(a5:mg "isinstance" = none)(a9:mg "tuple" = none)(b3:mg "str" = none)(b5:mg "int" = none)(d8:mg "bool" = none)(a6:mg "len" = none)(d7:mg "all" = none)(d6:mg "range" = none):FnOk P w K mg base CX0 (k+1) f fd ["_law_found","_law_due"] (df n):=by
 refine F.okQ og (fun vs H Q E h=>?_) (fun cdv A outer s H vs Q E hr h=>?_)
 ·obtain⟨x,y,rfl,_⟩:=h;rfl
 obtain⟨x,y,rfl,al,q⟩:=h;refine⟨_,(b_c (ay (aP (q_B (cc (K:=K) rfl) a5 aJ (q_a (q_v 1) (q_a (eu a9 bP) ad)))) (b_c (ay (t_w (cX (cy (aP (q_B (cc (K:=K) rfl) a5 aJ (q_a (q_v 0) (q_a (eu a9 bP) ad))))) (cz (ap dI (q_B bn a6 zB (q_a (q_v 0) ad)) (q_B bn a6 zB (q_a (q_v 1) ad)))))) (b_1 (ah ci)) b_0)
   (b_1 (ah (q_B (oy rfl) d7 hU (q_a (cR (own:=["_law_k"]) (⟨rfl,by decide +kernel,by decide +kernel,rfl,⟨rfl,rfl,⟨rfl,rfl,trivial⟩⟩⟩:CompOk _ _ [0,1] ["_law_found","_law_due"]) rfl (qx d6 (q_a (q_B bn a6 zB (q_a (q_v 1) ad)) ad)) (fun _ _ _ _=>bh (i:=0) (show (["_law_k","_law_found","_law_due"]:List Str).Nodup by decide +kernel)) (bt (by decide)) (fun _ _ _ _=>fA) (fun _ _ _ _=>(au b4 (hr.mono (by omega)) (q_a (ax (jD (K:=K) rfl) (q_v 1) (q_v 0)) (q_a (ax (jD (K:=K) rfl) (q_v 2) (q_v 0)) ad))))) ad))))) b_0)
   (b_c (ay (aP (q_B (cc (K:=K) rfl) a5 aJ (q_a (q_v 1) (q_a (eu b3 bx) ad)))) (b_1 (ah (eW (q_B (cc (K:=K) rfl) a5 aJ (q_a (q_v 0) (q_a (eu b3 bx) ad))) (iH (bg aF (q_v 0) (q_v 1)))))) b_0)
   (b_1 (ah (eW (q_B (cc (K:=K) rfl) a5 aJ (q_a (q_v 0) (q_a (eu b5 bZ) ad))) (eW (bg aF (q_B (cc (K:=K) rfl) a5 aJ (q_a (q_v 0) (q_a (eu d8 hV) ad))) (q_B (cc (K:=K) rfl) a5 aJ (q_a (q_v 1) (q_a (eu d8 hV) ad)))) (iH (bg aF (q_v 0) (q_v 1))))))))),?_⟩
 try rw[cxK]
 have tip:AlkF x y\/∃m,n=m+1/\∃(a b:Addr) (xs ys:List V),x=.ref a/\y=.ref b/\H a=some (.tup xs)/\H b=some (.tup ys)/\xs.length=ys.length/\xs.length<=100/\∀(i:Nat) (u v:V),xs[i]?=some u->ys[i]?=some v->Alk m H u v:=by
  cases n with
  |zero=>exact .inl al
  |succ m =>
   rcases al with h|h
   ·exact .inl h
   ·exact .inr ⟨m,rfl,h⟩
 rcases tip with h|⟨m,rfl,a,b,xs,ys,rfl,rfl,ea,eb,el,l1,hi⟩
 ·obtain⟨t,ty,nt⟩:=h.ty (K:=K) (H:=H);obtain⟨rfl,h⟩:=h;refine⟨_,rfl,x,.ty "tuple",.type "tuple",isT H x,rfl,bE,.inl ⟨_,ty,gE ty⟩,_,rfl,?_⟩;rw[nt];refine aw ?_;rcases h with⟨s,e⟩|⟨i,e⟩|⟨b,e⟩<;>subst e
  ·refine⟨_,rfl,.str s,.ty "str",.type "str",true,rfl,bE,.inl ⟨_,.str s,dm (H:=H) (.str s)⟩,_,rfl,aC ?_⟩;refine⟨_,rfl,.str s,.ty "str",.type "str",true,rfl,bE,.inl ⟨_,.str s,dm (H:=H) (.str s)⟩,_,rfl,aC ?_⟩;refine⟨_,rfl,_,rfl,rfl,?_⟩;rw[decide_eq_true (rfl:V.str s=V.str s)];exact q _ (Same.refl _)
  ·refine⟨_,rfl,.int i,.ty "str",.type "str",false,rfl,bE,.inl ⟨_,.int i,dm (H:=H) (.int i)⟩,_,rfl,aw ?_⟩;refine⟨_,rfl,.int i,.ty "int",.type "int",true,rfl,bE,.inl ⟨_,.int i,jV (H:=H) (.int i)⟩,_,rfl,aC ?_⟩;refine⟨_,rfl,.int i,.ty "bool",.type "bool",false,rfl,bE,.inl ⟨_,.int i,dG (H:=H) (.int i)⟩,?_⟩;refine⟨_,rfl,.int i,.ty "bool",.type "bool",false,rfl,bE,.inl ⟨_,.int i,dG (H:=H) (.int i)⟩,?_⟩;refine⟨rfl,_,rfl,aC ?_⟩;refine⟨_,rfl,_,rfl,rfl,?_⟩;rw[decide_eq_true (rfl:V.int i=V.int i)];exact q _ (Same.refl _)
  ·refine⟨_,rfl,.bl b,.ty "str",.type "str",false,rfl,bE,.inl ⟨_,.bl b,dm (H:=H) (.bl b)⟩,_,rfl,aw ?_⟩;refine⟨_,rfl,.bl b,.ty "int",.type "int",true,rfl,bE,.inl ⟨_,.bl b,jV (H:=H) (.bl b)⟩,_,rfl,aC ?_⟩;refine⟨_,rfl,.bl b,.ty "bool",.type "bool",true,rfl,bE,.inl ⟨_,.bl b,dG (H:=H) (.bl b)⟩,?_⟩;refine⟨_,rfl,.bl b,.ty "bool",.type "bool",true,rfl,bE,.inl ⟨_,.bl b,dG (H:=H) (.bl b)⟩,?_⟩;refine⟨rfl,_,rfl,aC ?_⟩;refine⟨_,rfl,_,rfl,rfl,?_⟩;rw[decide_eq_true (rfl:V.bl b=V.bl b)];exact q _ (Same.refl _)
 ·have hm:=hsp m rfl;subst hm;refine⟨_,rfl,.ref b,.ty "tuple",.type "tuple",true,rfl,bE,.inl ⟨_,.tup eb,(gE (.tup eb)).trans (by rw[cP eb (b:=true) rfl])⟩,_,rfl,aC ?_⟩;refine⟨_,rfl,.ref a,.ty "tuple",.type "tuple",true,rfl,bE,.inl ⟨_,.tup ea,(gE (.tup ea)).trans (by rw[cP ea (b:=true) rfl])⟩,_,rfl,aw ?_⟩;refine⟨_,rfl,a,xs,rfl,.inr (SqT.of ea),_,rfl,b,ys,rfl,.inr (SqT.of eb),rfl,_,rfl,?_⟩;have e:decide (V.int (xs.length:Int)=V.int (ys.length:Int))=true:=decide_eq_true (by rw[el]);rw[e];refine aw ?_;refine⟨_,rfl,b,ys,rfl,.inr (SqT.of eb),_,rfl,by omega,by omega,?_⟩;rw[show(ys.length:Int).toNat=ys.length from Int.toNat_natCast _];refine kx (N:=ys.length) (lo:=0) (fun _=>.bl true) (by omega) (fun i H1 hi1 s1 R k=>?_) (fun p H1 s1 g1=>?_)
  ·have hx:i<xs.length:=by omega
   refine⟨_,rfl,_,rfl,a,_,_,_,rfl,rfl,SqT.of (s1 _ _ ea),(by rw[Int.zero_add];exact bY (ze hx)),?_⟩;refine⟨_,rfl,_,rfl,b,_,_,_,rfl,rfl,SqT.of (s1 _ _ eb),(by rw[Int.zero_add];exact bY (ze hi1)),?_⟩;exact⟨_,_,rfl,(hi i _ _ (ze hx) (ze hi1)).same s1,fun H2 s2=>k H2 s2⟩
  ·refine⟨p,List.replicate ys.length true,rfl,SqL.of ?_,?_⟩
   ·rw[ac];refine zJ (fun l=>some (HO.lst l)) (List.ext_getElem (by simp) fun i h1 h2=>by simp)
   ·rw[show(List.replicate ys.length true).all id=true by simp];exact q _ (s1.trans (aa g1 _))
theorem lZ{f:Addr}{fd:FuncData}(F:Fun K "_law_alike" "_law_alike" dt f fd)(b4:Fn P w K mg base 1 "_law_alike" ["_law_found","_law_due"] kf)(a5:mg "isinstance" = none)(a9:mg "tuple" = none)(b3:mg "str" = none)(b5:mg "int" = none)(d8:mg "bool" = none)(a6:mg "len" = none)(d7:mg "all" = none)(d6:mg "range" = none):FnOk P w K mg base CX0 2 f fd ["_law_found","_law_due"] (df 0) :=
 ib (fun _ z=>by cases z) F b4 a5 a9 b3 b5 d8 a6 d7 d6
theorem ma{k n:Nat}{f:Addr}{fd:FuncData}(F:Fun K "_law_alike" "_law_alike" dt f fd)(b4:Fn P w K mg base k "_law_alike" ["_law_found","_law_due"] (df n))(a5:mg "isinstance" = none)(a9:mg "tuple" = none)(b3:mg "str" = none)(b5:mg "int" = none)(d8:mg "bool" = none)(a6:mg "len" = none)(d7:mg "all" = none)(d6:mg "range" = none):FnOk P w K mg base CX0 (k+1) f fd ["_law_found","_law_due"] (df (n+1)) :=
 ib (fun m z=>by rw[show n=m by omega]) F b4 a5 a9 b3 b5 d8 a6 d7 d6
theorem AlkF.str{s:Str}:AlkF (.str s) (.str s):=⟨rfl,.inl ⟨s,rfl⟩⟩
theorem AlkF.int{i:Int}:AlkF (.int i) (.int i):=⟨rfl,.inr (.inl ⟨i,rfl⟩)⟩
theorem AlkF.bl{b:Bool}:AlkF (.bl b) (.bl b):=⟨rfl,.inr (.inr ⟨b,rfl⟩)⟩
theorem Alk.flat{n:Nat}{H:Hp}{x y:V}(h:AlkF x y):Alk n H x y:=by
 cases n
 ·exact h
 ·exact .inl h
theorem Alk.one{n:Nat}{H:Hp}{a b:Addr}{x y:V}(ha:H a=some (.tup [x]))(hb:H b=some (.tup [y]))(h:Alk n H x y):Alk (n+1) H (.ref a) (.ref b) :=
 .inr ⟨a,b,_,_,rfl,rfl,ha,hb,rfl,by simp,fun i u v e1 e2=>by
  match i with
  |0=>cases e1;cases e2;exact h
  | i+1=>cases e1⟩
theorem Alk.two{n:Nat}{H:Hp}{a b:Addr}{x y x' y':V}(ha:H a=some (.tup [x,x']))(hb:H b=some (.tup [y,y']))(h:Alk n H x y)(h':Alk n H x' y'):Alk (n+1) H (.ref a) (.ref b) :=
 .inr ⟨a,b,_,_,rfl,rfl,ha,hb,rfl,by simp,fun i u v e1 e2=>by
  match i with
  |0=>cases e1;cases e2;exact h
  |1=>cases e1;cases e2;exact h'
  | i+2=>cases e1⟩
theorem Alk.three{n:Nat}{H:Hp}{a b:Addr}{x y x' y' x2 y2:V}(ha:H a=some (.tup [x,x',x2]))(hb:H b=some (.tup [y,y',y2]))(h:Alk n H x y)(h':Alk n H x' y')(h2:Alk n H x2 y2):Alk (n+1) H (.ref a) (.ref b) :=
 .inr ⟨a,b,_,_,rfl,rfl,ha,hb,rfl,by simp,fun i u v e1 e2=>by
  match i with
  |0=>cases e1;cases e2;exact h
  |1=>cases e1;cases e2;exact h'
  |2=>cases e1;cases e2;exact h2
  | i+3=>cases e1⟩
theorem Good.alike{h d:Nat}{c:Cq}(g:Good h d c){H:Hp}:∀{x y:V},CqAt H x c->CqAt H y c->Alk (2*h) H x y:=by
 induction g with
 |@«at» h d c ok =>
  intro x y hx hy;show Alk (2*h+1+1) H x y;cases ok with
  |w=>cases hx with|w h1=>cases hy with|w h2=>exact .one h1 h2 (.flat .str)
  |num=>cases hx with|num h1=>cases hy with|num h2=>exact .two h1 h2 (.flat .str) (.flat .int)
  |item=>cases hx with|item h1 h3=>cases hy with|item h2 h4=>exact .two h1 h2 (.flat .str) (.two h3 h4 (.flat .int) (.flat .int))
  |says=>cases hx with|says h1=>cases hy with|says h2=>exact .two h1 h2 (.flat .str) (.flat .str)
 |@no h d e c g hd ih =>
  intro x y hx hy;show Alk (2*h+1+1) H x y;cases hx with
  |no h1 h3 =>
   cases hy with
   |no h2 h4=>exact .two h1 h2 (.flat .str) (ih h3 h4).up
 |@many h d o cs h1 h2 g hd ih =>
  intro x y hx hy;show Alk (2*h+1+1) H x y;cases hx with
  |many e1 e2 e3 =>
   cases hy with
   |many f1 f2 f3 =>refine .two e1 f1 (.flat .str) (.inr ⟨_,_,_,_,rfl,rfl,e2,f2,by rw[e3.len,f3.len],by rw[e3.len];omega,fun i u v a b=>?_⟩);obtain⟨c1,k1,z1⟩:=e3.get a;obtain⟨c2,k2,z2⟩:=f3.get b;have:c1=c2:=zD (k1.symm.trans k2);subst this;exact ih c1 (zQ k1) z1 z2
def bS(key:Str)(back:Bool):List Str:=if back ||!decide (key="place")then"by"::key::(if back then["back"]else[])else[]
theorem rZ{s:Str}:∀{a b:List Str},a≠[]->Str.join s (Str.join s a::b)=Str.join s (a++b)
 |a,[],_=>by rw[List.append_nil];rfl
 |a,y::b,h=>by refine bj ?_;rw[bH h (by simp)];show(Str.join s a++s++Str.join s (y::b)).cps.toList=_;rw[aD,aD,zr]
inductive spWQ(n:Nat)(vs:List V)(H:Hp)(Q:VK)(E_:XK):Prop
 |mk (a:Addr) (v:V) (key:Str) (back:Bool) (c:Cq) (d:Nat) (h0:vs=[.ref a]) (e:H a=some (.tup [v,.str key,.bl back])) (h1:CqAt H v c) (h2:Good n d c) (h3:c.ws.length<=2000) (h5:key.length<=10) (h4:∀H',Same H H'->Q (.str (Str.join aq (c.ws++bS key back))) H'):spWQ n vs H Q E_
abbrev bC:Stmt:=top 23
abbrev dX:List Str:=["question","words"]
theorem bX:FnScope dX ["question"] (ag bC):=⟨rfl,rfl,rfl,by decide +kernel,rfl,by decide +kernel,by decide +kernel⟩
theorem dS{k n:Nat}{f:Addr}{fd:FuncData}(F:Fun K "written_question" "written_question" bC f fd)(c9:Fn P w K mg base k "written_condition" ["condition"] (spWC n)):FnOk P w K mg base CX0 (k+1) f fd ["question"] (spWQ n):=by
 refine F.okQ bX (fun vs H Q E h=>?_) (fun cdv A outer s H vs Q E hr h=>?_)
 ·obtain⟨a,v,key,back,c,d,rfl,_⟩:=h;rfl
 obtain⟨a,v,key,back,c,d,rfl,e,hc,g,hl,l10,q⟩:=h;refine⟨_,(b_c (ar (i:=1) bX.nd (aZ (q_a (au c9 (hr.mono (by omega)) (q_a (ax aK (q_v 0) ae) ad)) ad)))
   (b_c (ay (t_w (cX (ap dI (ax aK (q_v 0) ae) af) (cz (aP (ax aK (q_v 0) ae))))) (b_1 (bU (nT (q_v 1) (aZ (q_a af (q_a (ax aK (q_v 0) ae) ad)))))) b_0)
   (b_c (ay (aP (ax aK (q_v 0) ae)) (b_1 (bU (kN (q_v 1) af))) b_0)
   (b_1 (ah (fZ af (q_v 1))))))),?_⟩
 have ll:=g.lineLen hl;refine⟨_,rfl,a,_,_,_,rfl,rfl,SqT.of e,at0,v,c,d,rfl,hc,g,hl,fun H1 s1=>⟨sz rfl,fun L gL=>?_⟩⟩;have w1:=s1.trans (aa gL (.lst [.str c.line]));have eL:upd H1 L (.lst [.str c.line]) L=some (.lst [.str c.line]):=ac;have nH:H L=none:=by
  cases z:H L with
  |none=>rfl
  |some o=>rw[s1 _ _ z]at gL;cases gL
 generalize upd H1 L (.lst [.str c.line])=H2 at w1 eL ⊢;have up:∀{H3:Hp} {o:HO},Same H H3->Same H (upd H3 L o):=fun{H3 o} s b o' eb=>by
  rw[ai]
  ·exact s _ _ eb
  ·rintro rfl;rw[nH]at eb;cases eb
 have fin:∀(ts:List Str) (H3:Hp),Same H H3->H3 L=some (.lst ((c.line::ts).map V.str))->ts=bS key back->ts.length<=3->(∀t∈ts,t.length<=10)->tBM K "str" (kQ K) (tC (.str " ")) (cw (tVar 1) cW) [some (.ref a),some (.ref L)] H3 Q:=fun ts H3 s3 e3 et l3 lt=>by
  refine⟨rfl,_,rfl," ",L,c.line::ts,rfl,rfl,SqL.of e3,?_,?_⟩
  ·have:((c.line::ts).map (·.length)).sum<=262000+30:=by
    rw[zv,z4];have:∀{ts:List Str},ts.length<=3->(∀t∈ts,t.length<=10)->(ts.map (·.length)).sum<=30
     | [],_,_=>by simp
     | [x],_,h=>by simpa using zh (h x (by simp)) (by decide)
     | [x,y],_,h=>by have:=h x (by simp);have:=h y (by simp);simp;omega
     | [x,y,z],_,h=>by have:=h x (by simp);have:=h y (by simp);have:=h z (by simp);simp;omega
     |_::_::_::_::_,h,_=>by simp at h
    have:=this l3 lt;omega
   have l1:(" ":Str).length=1:=rfl;rw[l1,zn];omega
  ·rw[tj,show Str.join " " (c.line::ts)=Str.join aq (c.ws++ts)from rZ g.words.1,et];exact q _ s3
 have lk:∀t∈([("by":Str),key,"back"]:List Str),t.length<=10:=fun t ht=>by
  simp only[zo,zL,or_false]at ht;rcases ht with rfl|rfl|rfl
  ·decide +kernel
  ·exact l10
  ·decide +kernel
 refine⟨_,rfl,a,_,_,_,rfl,rfl,SqT.of (w1 _ _ e),at1,rfl,⟨_,rfl,?_⟩⟩;by_cases ck:key="place"
 ·have ek:V.str key=V.str "place":=by rw[ck]
  rw[decide_eq_true ek];refine aw ⟨_,rfl,a,_,_,_,rfl,rfl,SqT.of (w1 _ _ e),at2,⟨_,rfl,?_⟩⟩;cases back with
  |false =>refine aw ⟨_,rfl,a,_,_,_,rfl,rfl,SqT.of (w1 _ _ e),at2,⟨_,rfl,aw ?_⟩⟩;exact fin [] H2 w1 eL (by unfold bS;rw[ck];decide +kernel) (by simp) (by simp)
  |true =>refine aC ⟨_,rfl,.inl ⟨rfl,_,SqL.of eL⟩,_,rfl,a,_,_,_,rfl,rfl,SqT.of (w1 _ _ e),at1,sz rfl,fun M gM=>?_⟩;refine⟨L,M,_,_,rfl,rfl,aa gM _ _ _ eL,ac,sz rfl,?_⟩;have w3:=up (o:=.lst ([.str c.line]++[.str "by",.str key])) (w1.trans (aa gM (.lst [.str "by",.str key])));have e3:upd (upd H2 M (.lst [.str "by",.str key])) L (.lst ([.str c.line]++[.str "by",.str key])) L=some (.lst ([.str c.line]++[.str "by",.str key])):=ac;generalize upd (upd H2 M (.lst [.str "by",.str key])) L (.lst ([.str c.line]++[.str "by",.str key]))=H3 at w3 e3 ⊢;refine⟨_,rfl,a,_,_,_,rfl,rfl,SqT.of (w3 _ _ e),at2,⟨_,rfl,aC ?_⟩⟩;refine⟨_,rfl,.inl ⟨rfl,_,SqL.of e3⟩,L,_,_,rfl,rfl,e3,(show 3<sizeLine by decide +kernel),?_⟩;exact fin ["by",key,"back"] _ (up w3) ac (by unfold bS;rw[ck];rfl) (by simp) lk
 ·have ek:V.str key≠V.str "place":=fun z=>ck (by injection z);rw[decide_eq_false ek];refine aC (aC ⟨_,rfl,.inl ⟨rfl,_,SqL.of eL⟩,_,rfl,a,_,_,_,rfl,rfl,SqT.of (w1 _ _ e),at1,sz rfl,fun M gM=>?_⟩);refine⟨L,M,_,_,rfl,rfl,aa gM _ _ _ eL,ac,sz rfl,?_⟩;have w3:=up (o:=.lst ([.str c.line]++[.str "by",.str key])) (w1.trans (aa gM (.lst [.str "by",.str key])));have e3:upd (upd H2 M (.lst [.str "by",.str key])) L (.lst ([.str c.line]++[.str "by",.str key])) L=some (.lst ([.str c.line]++[.str "by",.str key])):=ac;generalize upd (upd H2 M (.lst [.str "by",.str key])) L (.lst ([.str c.line]++[.str "by",.str key]))=H3 at w3 e3 ⊢;refine⟨_,rfl,a,_,_,_,rfl,rfl,SqT.of (w3 _ _ e),at2,⟨_,rfl,?_⟩⟩;cases back with
  |true =>refine aC ⟨_,rfl,.inl ⟨rfl,_,SqL.of e3⟩,L,_,_,rfl,rfl,e3,(show 3<sizeLine by decide +kernel),?_⟩;exact fin ["by",key,"back"] _ (up w3) ac (by unfold bS;rfl) (by simp) lk
  |false =>refine aw ?_;exact fin ["by",key] _ w3 e3 (by unfold bS;rw[decide_eq_false ck];rfl) (by simp) fun t ht=>lk t (by simp at ht ⊢;rcases ht with h|h<;>simp[h])
abbrev ez:Stmt:=top 27
abbrev le:List Str:=["_law_script","_law_k"]
theorem kT:FnScope le ["_law_script","_law_k"] (ag ez):=⟨rfl,rfl,rfl,by decide +kernel,rfl,by decide +kernel,by decide +kernel⟩
theorem kK{f:Addr}{fd:FuncData}(F:Fun K "_law_cell_at" "_law_cell_at" ez f fd)(a6:mg "len" = none):FnOk P w K mg base CX0 1 f fd ["_law_script","_law_k"] (mt K):=by
 refine F.okQ kT (fun vs H Q E h=>?_) (fun cdv A outer s H vs Q E hr h=>?_)
 ·obtain⟨a,ns,k,rfl,_⟩:=h;rfl
 obtain⟨a,ns,k,rfl,hS,h0,q⟩:=h;refine⟨_,(b_c (ay (ap gG (q_v 1) (q_B bn a6 zB (q_a (q_v 0) ad))) (b_1 (ah (ax aT (q_v 0) (q_v 1)))) b_0)
   (b_1 (ah ae))),?_⟩
 refine⟨_,rfl,_,rfl,a,_,rfl,.inl hS,_,_,rfl,rfl,_,rfl,?_⟩;refine qz (fun c=>?_) (fun c=>?_)
 ·have c':k<((ns.map V.int).length:Int):=of_decide_eq_true c;rw[zd]at c';exact⟨_,rfl,_,rfl,a,_,_,_,rfl,rfl,hS,mK h0 c',q⟩
 ·have c':¬k<((ns.map V.int).length:Int):=of_decide_eq_false (Bool.eq_false_iff.mpr c);rw[zd]at c';rw[mS h0 c']at q;exact q
inductive spAtom(vs:List V)(H:Hp)(Q:VK)(E_:XK):Prop
 |mk (n:Int) (l:Addr) (h0:vs=[.int n,.ref l]) (h1:H l=some (.lst [])) (h2:∀v c H',Same H H'->AtOk c->CqAt H' v c->Q v H'):spAtom vs H Q E_
theorem eY{i:Int}(h0:0<=i)(h1:i<=10^20):Sm i:=by
 unfold Sm;have:i.natAbs<=10^20:=by omega
 exact Nat.lt_of_le_of_lt this (by decide)
abbrev jq:Stmt:=top 28
abbrev qg:List Str:=["_law_number","_law_names","_law_way","_law_more"]
theorem gU:FnScope qg ["_law_number","_law_names"] (ag jq):=⟨rfl,rfl,rfl,by decide +kernel,rfl,by decide +kernel,by decide +kernel⟩
theorem pr{f:Addr}{fd:FuncData}(F:Fun K "_law_atom" "_law_atom" jq f fd)(a6:mg "len" = none)(b5:mg "int" = none):FnOk P w K mg base CX0 1 f fd ["_law_number","_law_names"] spAtom:=by
 refine F.okQ gU (fun vs H Q E h=>?_) (fun cdv A outer s H vs Q E hr h=>?_)
 ·obtain⟨n,l,rfl,_⟩:=h;rfl
 obtain⟨n,l,rfl,hN,q⟩:=h;refine⟨_,(b_c (ar (i:=2) gU.nd (aj aX (q_v 0) ae))
   (b_c (ar (i:=3) gU.nd (aj bR (q_v 0) ae))
   (b_c (ay (ap gG (q_v 2) ae) (b_1 (ah (aI (q_a (ax aT (aZ (q_a af (q_a af (q_a af (q_a af (q_a af (q_a af ad))))))) (q_v 2)) ad)))) b_0)
   (b_c (ay (ap aF (q_v 2) ae) (b_1 (ah (aI (q_a af (q_a (ax aT (aZ (q_a (aj aX (q_v 3) ae) (q_a (aj aX (q_v 3) (aj kJ ae ae)) ad))) (cg oz b5 bZ (q_a (bg aF (aj aX (aj bR (q_v 3) ae) ae) ae) ad))) ad))))) b_0)
   (b_c (ay (ap aF (q_v 2) ae) (b_1 (ah (aI (q_a af (q_a (ax aT (aZ (q_a (aj aX (q_v 3) ae) (q_a (aj aX (q_v 3) (aj kJ ae ae)) ad))) (cg oz b5 bZ (q_a (bg aF (aj aX (aj bR (q_v 3) ae) ae) ae) ad))) ad))))) b_0)
   (b_c (ay (t_w (cL (ap aF (q_v 2) ae) (cL (ap (jW (K:=K) rfl hr.units) (q_v 1) (aZ ad)) (cB (ap jk (aj aX (q_v 3) ae) ae))))) (b_1 (ah (aI (q_a af (q_a (ax aT (q_v 1) (aj aX (aj bR (q_v 3) ae) (q_B bn a6 zB (q_a (q_v 1) ad)))) ad))))) b_0)
   (b_c (ay (ap aF (q_v 2) ae) (b_1 (ah (aI (q_a af (q_a (aI (q_a (aj aX (aj bR (q_v 3) ae) ae) (q_a (aj eU ae (aj aX (aj bR (q_v 3) ae) (aj kJ ae ae))) ad))) ad))))) b_0)
   (b_1 (ah (aI (q_a af (q_a (ax aT (aZ (q_a af (q_a af (q_a af (q_a af (q_a af (q_a af (q_a af (q_a af (q_a af (q_a af (q_a af (q_a af ad))))))))))))) (aj aX (q_v 3) ae)) ad)))))))))))),?_⟩
 refine⟨_,rfl,_,_,rfl,rfl,(by show(0:Int)<10;decide),?_⟩;refine⟨_,rfl,_,_,rfl,rfl,⟨by decide,by decide⟩,?_⟩;have w0:=Int.emod_nonneg n (show(10:Int)≠0 by decide);have w1:=Int.emod_lt_of_pos n (show(0:Int)<10 by decide)
 try dsimp(config:={ proj:=false,iota:=false,eta:=false,zeta:=false }) only
 generalize n%10=wy at w0 w1 ⊢;generalize n / 10=mo;have two:∀x y:Int,0<=x->x<=10^20->0<=y->y<=10^20->∃i:Int,0<=i/\Sm i/\atI [V.int x,V.int y] (if decide (V.int (mo / 8%4)=V.int 3)=true then 1 else 0)=some (.int i):=fun x y a b c d=>by
  split
  ·exact⟨y,c,eY c d,rfl⟩
  ·exact⟨x,a,eY a b,rfl⟩
 have m20:=Int.emod_nonneg mo (show(10^20:Int)≠0 by decide);have m21:=Int.emod_lt_of_pos mo (show(0:Int)<10^20 by decide);refine⟨_,rfl,_,_,rfl,rfl,_,rfl,bz (fun c1=>?_) (fun c1=>?_)⟩
 ·refine⟨sz rfl,fun p g=>?_⟩;have v1:=aa g (.lst [.str "all",.str "done",.str "folded",.str "free",.str "leaf",.str "seen"]);obtain⟨cd,h1,h2⟩:∃cd:Str,atI [V.str "all",.str "done",.str "folded",.str "free",.str "leaf",.str "seen"] wy=some (.str cd)/\cd∈W6:=by
   have:wy=0\/wy=1\/wy=2\/wy=3\/wy=4\/wy=5:=by omega
   rcases this with rfl|rfl|rfl|rfl|rfl|rfl
   ·exact⟨"all",rfl,by decide +kernel⟩
   ·exact⟨"done",rfl,by decide +kernel⟩
   ·exact⟨"folded",rfl,by decide +kernel⟩
   ·exact⟨"free",rfl,by decide +kernel⟩
   ·exact⟨"leaf",rfl,by decide +kernel⟩
   ·exact⟨"seen",rfl,by decide +kernel⟩
  refine⟨_,rfl,p,_,_,_,rfl,rfl,SqL.of ac,h1,sz rfl,fun p2 g2=>?_⟩;exact q _ _ _ (v1.trans (aa g2 _)) (.w h2) (.w ac)
 refine⟨_,rfl,rfl,_,rfl,gC (fun c2=>?_) (fun c2=>?_)⟩
 ·refine⟨_,rfl,_,_,rfl,rfl,(by show(0:Int)<8;decide),_,rfl,_,_,rfl,rfl,⟨by decide,by decide,by decide⟩,_,_,rfl,rfl,(by show(0:Int)<10^20;decide),sz rfl,fun p g=>?_⟩;obtain⟨i,i0,i1,hi⟩:=two (mo%8) (mo%10^20) (by omega) (by omega) m20 (by omega);refine⟨_,rfl,_,_,rfl,rfl,⟨by decide,by decide⟩,_,_,rfl,rfl,(by show(0:Int)<4;decide),rfl,.inr ⟨_,rfl,p,_,_,_,rfl,rfl,SqL.of ac,hi,sz rfl,fun p2 g2=>?_⟩⟩;exact q _ _ _ ((aa g _).trans (aa g2 _)) (.num (.inl rfl) i0 i1) (.num ac)
 refine⟨_,rfl,rfl,_,rfl,gC (fun c3=>?_) (fun c3=>?_)⟩
 ·refine⟨_,rfl,_,_,rfl,rfl,(by show(0:Int)<4;decide),_,rfl,_,_,rfl,rfl,⟨by decide,by decide,by decide⟩,_,_,rfl,rfl,(by show(0:Int)<10^20;decide),sz rfl,fun p g=>?_⟩;obtain⟨i,i0,i1,hi⟩:=two (mo%4) (mo%10^20) (by omega) (by omega) m20 (by omega);refine⟨_,rfl,_,_,rfl,rfl,⟨by decide,by decide⟩,_,_,rfl,rfl,(by show(0:Int)<4;decide),rfl,.inr ⟨_,rfl,p,_,_,_,rfl,rfl,SqL.of ac,hi,sz rfl,fun p2 g2=>?_⟩⟩;exact q _ _ _ ((aa g _).trans (aa g2 _)) (.num (.inr rfl) i0 i1) (.num ac)
 refine⟨_,rfl,rfl,_,rfl,gC (fun c4=>?_) (fun c4=>?_)⟩
 ·refine⟨_,rfl,sz rfl,fun p g=>?_⟩;have v1:=aa g (.lst []);refine⟨l,p,[],rfl,rfl,SqL.of (v1 _ _ hN),SqL.of ac,_,rfl,aw ?_⟩;refine⟨_,rfl,rfl,_,rfl,gC (fun _=>?_) (fun c=>absurd c4 c)⟩;have y0:=Int.emod_nonneg (mo / 36) (show(10^20:Int)≠0 by decide);have y1:=Int.emod_lt_of_pos (mo / 36) (show(0:Int)<10^20 by decide);refine⟨_,rfl,_,_,rfl,rfl,⟨by decide,by decide⟩,_,_,rfl,rfl,(by show(0:Int)<9;decide),_,rfl,_,_,rfl,rfl,⟨by decide,by decide⟩,_,_,rfl,rfl,⟨by decide,by decide,by decide⟩,_,_,rfl,rfl,(by show(0:Int)<10^20;decide),_,_,rfl,rfl,sz rfl,fun p3 g3=>⟨sz rfl,fun p4 g4=>?_⟩⟩;exact q _ (.item (mo / 4%9) (1+mo / 36%10^20)) _ (v1.trans ((aa g3 _).trans (aa g4 _))) (.item (by omega) (by omega) (eY (by omega) (by omega)) (eY (by omega) (by omega))) (.item ac (aa g4 _ _ _ ac))
 ·refine⟨_,rfl,rfl,_,rfl,gC (fun c5=>absurd c5 c4) (fun c5=>?_)⟩;refine⟨sz rfl,fun p g=>?_⟩;have k0:=Int.emod_nonneg mo (show(12:Int)≠0 by decide);have k1:=Int.emod_lt_of_pos mo (show(0:Int)<12 by decide);obtain⟨t,ht,hw⟩:∃t:Str,atI [V.str "a",.str "b",.str "ab",.str "or",.str "A",.str "not",.str "(",.str "aa",.str "B",.str ")",.str "by",.str "x"] (mo%12)=some (.str t)/\(t≠""/\t.length<=100/\32∉t.cps.toList):=by
   have:mo%12=0\/mo%12=1\/mo%12=2\/mo%12=3\/mo%12=4\/mo%12=5\/mo%12=6\/mo%12=7\/mo%12=8\/mo%12=9\/mo%12=10\/mo%12=11:=by omega
   rcases this with e|e|e|e|e|e|e|e|e|e|e|e<;>rw[e]<;>exact⟨_,rfl,by decide +kernel⟩
  refine⟨_,rfl,_,_,rfl,rfl,(by show(0:Int)<12;decide),p,_,_,_,rfl,rfl,SqL.of ac,ht,sz rfl,fun p2 g2=>?_⟩;exact q _ _ _ ((aa g _).trans (aa g2 _)) (.says hw.1 hw.2.1 hw.2.2) (.says ac)
theorem iZ{xs:List V}{k:Int}(h0:0<=k)(h1:k<=xs.length):bo xs (some k) none=xs.drop k.toNat:=by unfold bo;rw[mq h0,HT.sIx_none];rw[show min k.toNat xs.length=k.toNat by omega];exact List.take_of_length_le (by rw[zW];exact za _)
theorem qs{xs:List V}{k:Int}(h0:0<=k)(h1:k<=xs.length):bo xs none (some k)=xs.take k.toNat:=by unfold bo;rw[mq h0,HT.sIx_none,show min k.toNat xs.length=k.toNat by omega];rfl
theorem mV(xs:List V):bo xs none (some (-1))=xs.take (xs.length-1):=by
 unfold bo;rw[HT.sIx_none];have:HT.sIx xs.length xs.length (some (-1))=xs.length-1:=by show(if(-1:Int)<0 then((-1:Int)+(xs.length:Int)).toNat else min (-1:Int).toNat xs.length)=_;rw[o7 (by decide)];omega
 rw[this];rfl
theorem fh{K:PySem.W.Frag}{a:Addr}{xs:List V}{n:Nat}{cap:List Nat}{g:TG}{tc:TT}{te:TE}{σ:St}{H0:Hp}{Q:VK}(keep:Nat->Bool)(f:Nat->V)(hz:xs.length<=1000)(hl:SqL K H0 a xs)(he:∀i x H,xs[i]?=some x->Same H0 H->∀(A:VK) (B:Hp->Prop),(keep i=true->∀H4,Same H H4->A (f i) H4)->(keep i=false->∀H4,Same H H4->B H4)->g x (aS n cap σ) H fun σ2 H2=>tc σ2 H2 fun b H3=>if b=true then te σ2 H3 A else B H3)(hq:∀p H,Same H0 H->H p=none->Q (.ref p) (upd H p (.lst (((List.range xs.length).filter keep).map f)))):bJ n cap g tc te σ (Itl K a) H0 Q :=
 mT (N:=xs.length) keep f hz (fun i H hi sm=>⟨xs,xs[i],sm.seq hl,by simp[hi]⟩) (fun H sm=>⟨xs,sm.seq hl,za _⟩) (fun i H x H' hi sm y=>by
  obtain⟨e,y⟩:=y;subst e;exact he i x _ (y xs (sm.seq hl)) sm) hq
theorem ku{K:PySem.W.Frag}{a:Addr}{xs:List V}{n:Nat}{cap:List Nat}{g:TG}{te:TE}{σ:St}{H0:Hp}{Q:VK}(f:Nat->V)(hz:xs.length<=1000)(hl:SqL K H0 a xs)(he:∀i x H,xs[i]?=some x->Same H0 H->∀R:VK,(∀H',Same H H'->R (f i) H')->g x (aS n cap σ) H fun σ2 H2=>te σ2 H2 R)(hq:∀p H,Same H0 H->H p=none->Q (.ref p) (upd H p (.lst ((List.range xs.length).map f)))):bJ n cap g cK te σ (Itl K a) H0 Q:=by
 refine fh (fun _=>true) f hz hl (fun i x H hx sm A B hA _=>?_) (fun p H sm hp=>?_)
 ·have:=he i x H hx sm A (hA rfl);unfold cK;simpa using this
 ·rw[List.filter_eq_self.mpr fun _ _=>rfl];exact hq p H sm hp
theorem jw{t u:L2.TS}{D:Ends}{σ:St}{H:Hp}(J:St->Hp->Prop)(h1:∀R:Ends,(∀σ' H',J σ' H'->R.nx σ' H')->R.rt=D.rt->t R σ H)(h2:∀σ' H',J σ' H'->u D σ' H'):kX t u D σ H:=h1 { D with nx:=u D } h2 rfl
inductive PAt(H:Hp):V->Cq×Nat->Prop
 |mk {a:Addr} {v:V} {c:Cq} {d:Nat} (h:H a=some (.tup [v,.int (d:Int)])) (h1:CqAt H v c):PAt H (.ref a) (c,d)
def PsAt(H:Hp)(vs:List V)(ps:List (Cq×Nat)):Prop:=vs.length=ps.length/\∀(i:Nat) (v:V) (x:Cq×Nat),vs[i]?=some v->ps[i]?=some x->PAt H v x
theorem PAt.same{H H':Hp}{v:V}{x:Cq×Nat}(p:PAt H v x)(s:Same H H'):PAt H' v x:=by
 cases p with
 |mk h h1=>exact .mk (s _ _ h) (h1.ts fun a zs e=>s _ _ e)
theorem PsAt.same{H H':Hp}{vs:List V}{ps:List (Cq×Nat)}(p:PsAt H vs ps)(s:Same H H'):PsAt H' vs ps:=⟨p.1,fun i v x a b=>(p.2 i v x a b).same s⟩
theorem PsAt.take{H:Hp}{vs:List V}{ps:List (Cq×Nat)}(p:PsAt H vs ps)(n:Nat):PsAt H (vs.take n) (ps.take n):=by
 refine⟨by rw[zV,zV,p.1],fun i v x a b=>?_⟩;rw[List.getElem?_take]at a b;split at a
 ·rename_i z;rw[o7 z]at b;exact p.2 i v x a b
 ·cases a
theorem PsAt.drop{H:Hp}{vs:List V}{ps:List (Cq×Nat)}(p:PsAt H vs ps)(n:Nat):PsAt H (vs.drop n) (ps.drop n):=by refine⟨by rw[zW,zW,p.1],fun i v x a b=>?_⟩;rw[List.getElem?_drop]at a b;exact p.2 _ v x a b
theorem PsAt.snoc{H:Hp}{vs:List V}{ps:List (Cq×Nat)}{v:V}{x:Cq×Nat}(p:PsAt H vs ps)(q:PAt H v x):PsAt H (vs++[v]) (ps++[x]):=by
 refine⟨by rw[zc,zc,p.1];rfl,fun i v' x' a b=>?_⟩;by_cases z:i<vs.length
 ·rw[List.getElem?_append_left z]at a;rw[List.getElem?_append_left (by rw[<-p.1];exact z)]at b;exact p.2 i _ _ a b
 ·rw[zG (by omega)]at a;rw[zG (by rw[<-p.1];omega),<-p.1]at b;have z0:i-vs.length=0:=by have:=(zp.mp a).1;simp at this;omega
  rw[z0]at a b;cases a;cases b;exact q
def wt(ps:List (Cq×Nat)):Nat:=(ps.map fun x=>x.1.ws.length+4).sum
theorem dv(a b:List (Cq×Nat)):wt (a++b)=wt a+wt b:=by unfold wt;rw[List.map_append,List.sum_append]
def PsOk(h B:Nat)(ps:List (Cq×Nat)):Prop:=(∀x∈ps,Good h x.2 x.1/\x.2<=12)/\wt ps<=B
theorem jC{o:Bool}:∀(ps:List (Cq×Nat)),(Cq.wsL o (ps.map (·.1))).length<=wt ps
 | []=>by rw[List.map_nil,Cq.wsL];exact zX _
 | [x]=>by
  rw[zv,List.map_nil,Cq.wsL];have:(aM (brk x.1 (orW o)) x.1.ws).length<=x.1.ws.length+2:=by
   cases brk x.1 (orW o)
   ·exact Nat.le_add_right _ 2
   ·show(x.1.ws++[cls]).length+1<=_;rw[zc];exact za _
  unfold wt;simp only[zv,List.map_nil,z4,List.sum_nil];omega
 |x::y::ps=>by
  have ih:=jC (o:=o) (y::ps);rw[zv,zv,Cq.wsL,zc,zn];rw[zv]at ih;have:(aM (brk x.1 (orW o)) x.1.ws).length<=x.1.ws.length+2:=by
   cases brk x.1 (orW o)
   ·exact Nat.le_add_right _ 2
   ·show(x.1.ws++[cls]).length+1<=_;rw[zc];exact za _
  have e:wt (x::y::ps)=x.1.ws.length+4+wt (y::ps):=by unfold wt;rw[zv,z4]
  rw[e];omega
theorem fM{c:Cq}(ok:AtOk c):c.ws.length<=2:=by cases ok<;>(rw[Cq.ws];simp)
theorem PsAt.get{H:Hp}{vs:List V}{ps:List (Cq×Nat)}(p:PsAt H vs ps){i:Nat}{v:V}(e:vs[i]?=some v):∃c d a u,ps[i]?=some (c,d)/\v=.ref a/\H a=some (.tup [u,.int (d:Int)])/\CqAt H u c:=by
 have hi:i<ps.length:=by rw[<-p.1];exact(zp.mp e).1
 have:=p.2 i v ps[i] e (ze hi);obtain⟨c,d⟩:Cq×Nat:=ps[i];generalize hx:ps[i]=x at this;cases this with
 |mk h h1=>exact⟨_,_,_,_,by rw[ze hi,hx],rfl,h,h1⟩
theorem jN{xs:List V}{v:V}(e:xs[xs.length-1]?=some v):atI xs (-1)=some v:=by have hl:xs.length-1<xs.length:=(zp.mp e).1;unfold atI ixN;rw[o6 (by decide),o7 (by omega)];show xs[((-1:Int)+xs.length).toNat]?=_;rw[show((-1:Int)+xs.length).toNat=xs.length-1 by omega];exact e
def bL(H:Hp):V->V
 |.ref a=>(match H a with|some (.tup (u::_))=>u|_=>.non)
 |_=>.non
theorem eQ{H:Hp}{a:Addr}{u:V}{r:List V}(e:H a=some (.tup (u::r))):bL H (.ref a)=u:=by show(match H a with|some (.tup (u::_))=>u|_=>V.non)=u;rw[e]
theorem pV(H:Hp)(vs:List V):(List.range vs.length).map (fun i=>bL H ((vs[i]?).getD .non))=vs.map (bL H):=by refine List.ext_getElem (by simp) fun i h1 h2=>?_;rw[zd]at h2;simp[h2]
theorem PsAt.fsts{H:Hp}:∀{vs:List V} {ps:List (Cq×Nat)},PsAt H vs ps->CqsAt H (vs.map (bL H)) (ps.map (·.1))
 | [],[],_=>.nil
 | [],_::_,h=>by have:=h.1;simp at this
 |_::_,[],h=>by have:=h.1;simp at this
 |v::vs,x::ps,h=>by
  refine .cons ?_ (PsAt.fsts ⟨by have:=h.1;simpa using this,fun i v x a b=>h.2 (i+1) v x a b⟩);have:=h.2 0 v x rfl rfl;cases this with
  |mk h1 h2=>rw[eQ h1];exact h2
def dpI(t:Str)(x:Cq×Nat):Nat:=if brk x.1 t then x.2+1 else x.2
theorem jS(t:Str)(c:Cq)(d:Nat):(if brk c t then(d:Int)+1 else(d:Int))=(dpI t (c,d):Int):=by unfold dpI;split<;>simp_all
theorem pP{ps:List (Cq×Nat)}{x:Cq×Nat}(e:ps[ps.length-1]?=some x):ps=ps.take (ps.length-1)++[x]:=by have hl:ps.length-1<ps.length:=(zp.mp e).1;have:ps=ps.take (ps.length-1)++ps.drop (ps.length-1):=(List.take_append_drop _ _).symm;rw[List.drop_eq_getElem_cons hl,List.drop_of_length_le (by omega),show ps[ps.length-1]=x from zD ((ze hl).symm.trans e)]at this;exact this
inductive spGrown(vs:List V)(H:Hp)(Q:VK)(E_:XK):Prop
 |mk (L N:Addr) (cell:Int) (ws:List V) (ps:List (Cq×Nat)) (h B:Nat) (h0:vs=[.ref L,.int cell,.ref N]) (h1:H L=some (.lst ws)) (h2:H N=some (.lst [])) (h3:PsAt H ws ps) (h4:PsOk h B ps) (h5:ps.length<=70)
   (h7:∀L' ws' ps' H',Same H H'->H' L'=some (.lst ws')->PsAt H' ws' ps'->PsOk (h+1) (B+6) ps'->ps'.length<=ps.length+1->ps'≠[]->Q (.ref L') H'):spGrown vs H Q E_
abbrev gQ:Stmt:=top 30
abbrev oU:List Str:=["_law_some","_law_cell","_law_names","_law_number","_law_way","_law_parts","_law_condition","_law_deep_here","_law_word"]
theorem be:FnScope oU ["_law_some","_law_cell","_law_names"] (ag gQ):=⟨rfl,rfl,rfl,by decide +kernel,rfl,by decide +kernel,by decide +kernel⟩
theorem nC{f:Addr}{fd:FuncData}(F:Fun K "_law_grown" "_law_grown" gQ f fd)(j2:Fn P w K mg base 1 "_law_deep" ["_law_condition","_law_deep_here","_law_word"] spDeep)(d9:Fn P w K mg base 1 "_law_atom" ["_law_number","_law_names"] spAtom)(a6:mg "len" = none)(o3:mg "max" = none)(a9:mg "tuple" = none):FnOk P w K mg base CX0 2 f fd ["_law_some","_law_cell","_law_names"] spGrown:=by
 refine F.okQ be (fun vs H Q E h=>?_) (fun cdv A outer s H vs Q E hr h=>?_)
 ·obtain⟨L,N,cell,ws,ps,h,B,rfl,_⟩:=h;rfl
 obtain⟨L,N,cell,ws,ps,h,B,rfl,eL,eN,pa,pk,l70,q⟩:=h;refine⟨_,(b_c (ar (i:=3) be.nd (aj aX (aj sr (aj aX (q_v 1) ae) ae) ae))
   (b_c (ar (i:=4) be.nd (aj aX (q_v 1) ae))
   (b_c (ar (i:=5) be.nd (jm eg (q_v 0) (gK (aj iE (aj iE (q_B bn a6 zB (q_a (q_v 0) ad)) ae) (aj aX (aj bR (q_v 1) ae) ae))) kP))
   (b_c (ay (ap gG (q_B bn a6 zB (q_a (q_v 0) ad)) (aj eU ae (aj aX (aj bR (q_v 1) ae) ae))) (b_1 (ar (i:=5) be.nd (q_v 0))) b_0)
   (b_c (ay (t_w (cL (ap aF (q_v 4) ae) (cB (ap (jW (K:=K) rfl hr.units) (q_v 0) (aZ ad))))) (b_c (sO (ax aT (q_v 0) (nX la ae)) (oA rfl (gz (bh (i:=6) be.nd) (gz (bh (i:=7) be.nd) nj))))
   (b_c (ar (i:=7) be.nd (aj eU ae (au j2 (hr.mono (by decide)) (q_a (q_v 6) (q_a (q_v 7) (q_a af ad))))))
   (b_1 (ay (ap kI (q_v 7) ae) (b_1 (ah (aj kH (jm eg (q_v 0) kP (gK (nX la ae))) (aZ (q_a (aI (q_a (aI (q_a af (q_a (q_v 6) ad))) (q_a (q_v 7) ad))) ad))))) b_0)))) b_0)
   (b_c (ay (t_w (cL (ap jk (q_v 4) ae) (cB (ap jk (q_B bn a6 zB (q_a (q_v 5) ad)) ae)))) (b_c (ar (i:=8) be.nd (ax aT (aZ (q_a af (q_a af ad))) (aj iE (q_v 4) ae)))
   (b_c (ar (i:=7) be.nd (q_B (qr (K:=K) rfl rfl) o3 mM (q_a (cR (own:=["_law_condition","_law_deep_here"]) (⟨rfl,by decide +kernel,by decide +kernel,rfl,⟨rfl,rfl,trivial⟩⟩:CompOk _ _ [8] ["_law_word"]) rfl (fR (q_v 5)) (fun _ _ _ _=>lI (K:=K) (n:=2) rfl rfl (gz (bh (i:=0) (show (["_law_condition","_law_deep_here","_law_word"]:List Str).Nodup by decide +kernel)) (gz (bh (i:=1) (show (["_law_condition","_law_deep_here","_law_word"]:List Str).Nodup by decide +kernel)) nj))) (lJ (dA (bt (by decide)) cN (dA (bt (by decide)) cN jT eR) (jc cN eR))) (fun _ _ _ _=>fA) (fun _ _ _ _=>(au j2 (hr.mono (by decide)) (q_a (q_v 0) (q_a (q_v 1) (q_a (q_v 2) ad)))))) ad)))
   (b_1 (ay (ap kI (q_v 7) ae) (b_1 (ah (aj kH (jm eg (q_v 0) kP (gK (aj iE (q_B bn a6 zB (q_a (q_v 0) ad)) (q_B bn a6 zB (q_a (q_v 5) ad))))) (aZ (q_a (aI (q_a (aI (q_a (q_v 8) (q_a (cg ko a9 bP (q_a (cR (own:=["_law_part"]) (⟨rfl,by decide +kernel,by decide +kernel,rfl,trivial⟩:CompOk _ _ [] []) rfl (fR (q_v 5)) (fun _ _ _ _=>bh (i:=0) (show (["_law_part"]:List Str).Nodup by decide +kernel)) (bt (by decide)) (fun _ _ _ _=>fA) (fun _ _ _ _=>(ax (jD (K:=K) rfl) (q_v 0) ae))) ad)) ad))) (q_a (q_v 7) ad))) ad))))) b_0)))) b_0)
   (b_1 (ah (aj kH (q_v 0) (aZ (q_a (aI (q_a (au d9 (hr.mono (by decide)) (q_a (q_v 3) (q_a (q_v 2) ad))) (q_a ae ad))) ad))))))))))),?_⟩
 have k0:=Int.emod_nonneg (cell / 7) (show(3:Int)≠0 by decide);have k1:=Int.emod_lt_of_pos (cell / 7) (show(0:Int)<3 by decide);have lw:ws.length=ps.length:=pa.1;refine⟨_,rfl,_,_,rfl,rfl,(by show(0:Int)<1000003;decide),_,_,rfl,rfl,.inr ⟨by decide,by decide⟩,_,_,rfl,rfl,(by show(0:Int)<2147483647;decide),?_⟩;refine⟨_,rfl,_,_,rfl,rfl,(by show(0:Int)<7;decide),?_⟩;refine⟨_,rfl,_,rfl,L,ws,rfl,.inl (SqL.of eL),_,_,rfl,rfl,_,rfl,_,_,rfl,rfl,⟨by decide,by decide⟩,_,_,rfl,rfl,(by show(0:Int)<3;decide),_,_,rfl,rfl,_,rfl,L,ws,rfl,SqL.of eL,fun p gp=>?_⟩;generalize cell%1000003*48271%2147483647=num;dsimp only[bb];refine gW (fun σ' H'=>∃(P:Addr) (m:Nat),σ'=[some (.ref L),some (.int cell),some (.ref N),some (.int num),some (.int (cell%7)),some (.ref P),none,none,none]/\Same H H'/\H' P=some (.lst (ws.drop m))/\m<=ws.length) (fun R hR=>?_) ?_
 ·have w1:=aa gp (.lst (bo ws (some ((ws.length:Int)-2-cell / 7%3)) none));refine⟨_,rfl,L,ws,rfl,.inl (SqL.of (w1 _ _ eL)),_,rfl,_,_,rfl,rfl,⟨by decide,by decide⟩,_,_,rfl,rfl,(by show(0:Int)<3;decide),_,_,rfl,rfl,_,_,rfl,rfl,⟨_,rfl,bz (fun c=>?_) (fun c=>?_)⟩⟩
  ·exact⟨_,rfl,hR _ _ ⟨L,0,rfl,w1,w1 _ _ eL,zX _⟩⟩
  ·have c:¬(ws.length:Int)<2+cell / 7%3:=c;refine hR _ _ ⟨p,((ws.length:Int)-2-cell / 7%3).toNat,rfl,w1,?_,by omega⟩;rw[ac,iZ (by omega) (by omega)]
 rintro σ' H1 ⟨P,m,rfl,s1,eP,hm⟩;have gtake:∀n,∀x∈ps.take n,Good (h+1) x.2 x.1/\x.2<=12:=fun n x hx=>by obtain⟨a,b⟩:=pk.1 x (List.mem_of_mem_take hx);exact⟨a.mono (Nat.le_succ h) (za _),b⟩
 refine jw (fun σ' H'=>∃x6 x7,σ'=[some (.ref L),some (.int cell),some (.ref N),some (.int num),some (.int (cell%7)),some (.ref P),x6,x7,none]/\Same H H'/\H' P=some (.lst (ws.drop m))) (fun R hR hrt=>?_) ?_
 ·refine⟨_,rfl,rfl,⟨_,rfl,gC (fun c4=>?_) (fun c4=>aw (hR _ _ ⟨_,_,rfl,s1,eP⟩))⟩⟩;refine⟨_,rfl,sz rfl,fun p2 g2=>⟨L,p2,ws,rfl,rfl,SqL.of (aa g2 _ _ _ (s1 _ _ eL)),SqL.of ac,⟨_,rfl,?_⟩⟩⟩;have w2:=s1.trans (aa g2 (.lst []));have eP2:=aa g2 (.lst []) _ _ eP;generalize upd H1 p2 (.lst [])=H2 at w2 eP2 ⊢;by_cases hw:ws=[]
  ·rw[hw];exact aw (hR _ _ ⟨_,_,rfl,w2,by rw[eP2,hw]⟩)
  have hlen:0<ws.length:=List.length_pos_iff.mpr hw;rw[show(!ws.isEmpty)=true by cases ws with|nil=>exact absurd rfl hw|cons=>rfl];refine aC ?_;have elast:ws[ws.length-1]?=some ws[ws.length-1]:=ze (by omega);obtain⟨c,d,a,u,ep,ev,ea,hc⟩:=pa.get elast;rw[ev]at elast;refine⟨_,rfl,1,rfl,L,ws,_,_,rfl,rfl,SqL.of (w2 _ _ eL),jN elast,a,_,rfl,SqT.of (w2 _ _ ea),rfl,u,_,rfl,_,_,rfl,rfl,?_⟩;refine⟨_,rfl,_,rfl,u,c,d,aL,rfl,hc.ts fun a zs e=>w2 _ _ e,⟨_,_,rfl,rfl,?_⟩⟩;rw[jS];refine⟨_,rfl,_,_,rfl,rfl,⟨_,rfl,bz (fun c12=>?_) (fun c12=>hR _ _ ⟨_,_,rfl,w2,eP2⟩)⟩⟩;have c12:1+(dpI aL (c,d):Int)<=12:=c12;refine⟨_,rfl,1,rfl,_,rfl,L,ws,rfl,SqL.of (w2 _ _ eL),fun p3 g3=>?_⟩;rw[mV];have w3:=w2.trans (aa g3 (.lst (ws.take (ws.length-1))));have e3:upd H2 p3 (.lst (ws.take (ws.length-1))) p3=some (.lst (ws.take (ws.length-1))):=ac;generalize upd H2 p3 (.lst (ws.take (ws.length-1)))=H3 at w3 e3 ⊢;refine⟨_,rfl,sz rfl,fun t1 g4=>⟨_,rfl,sz rfl,fun t2 g5=>⟨sz rfl,fun p6 g6=>?_⟩⟩⟩;have w4:=aa g4 (.tup [.str "not",u]);have e4:upd H3 t1 (.tup [.str "not",u]) t1=some (.tup [.str "not",u]):=ac;generalize upd H3 t1 (.tup [.str "not",u])=H4 at w4 e4 g5 g6 ⊢;have w5:=aa g5 (.tup [.ref t1,.int (1+(dpI aL (c,d):Int))]);have e5:upd H4 t2 (.tup [.ref t1,.int (1+(dpI aL (c,d):Int))]) t2=some (.tup [.ref t1,.int (1+(dpI aL (c,d):Int))]):=ac;generalize upd H4 t2 (.tup [.ref t1,.int (1+(dpI aL (c,d):Int))])=H5 at w5 e5 g6 ⊢;have w6:=aa g6 (.lst [.ref t2]);have e6:upd H5 p6 (.lst [.ref t2]) p6=some (.lst [.ref t2]):=ac;generalize upd H5 p6 (.lst [.ref t2])=H6 at w6 e6 ⊢;refine⟨p3,p6,_,_,rfl,rfl,w6 _ _ (w5 _ _ (w4 _ _ e3)),e6,eG (by simp;omega),fun p7 g7=>?_⟩;rw[hrt];have w7:=aa g7 (.lst (ws.take (ws.length-1)++[.ref t2]));have wa:Same H3 (upd H6 p7 (.lst (ws.take (ws.length-1)++[.ref t2]))):=w4.trans (w5.trans (w6.trans w7));have hb:brk c aL=c.mny:=(pk.1 _ (zQ ep)).1.brkA (by decide +kernel);rw[lw]at ep;have el:=pP ep;refine q p7 _ (ps.take (ws.length-1)++[(.no c,1+dpI aL (c,d))]) _ (w3.trans wa) ac (((pa.take _).same (w3.trans wa)).snoc (.mk (v:=.ref t1) ?_ (.no (w7 _ _ (w6 _ _ (w5 _ _ e4))) (hc.ts fun a zs e=>wa _ _ (w3 _ _ e))))) ⟨fun x hx=>?_,?_⟩ ?_ (by simp)
  ·rw[w7 _ _ (w6 _ _ e5)];rfl
  ·rcases zH.mp hx with hx|hx
   ·exact gtake _ x hx
   ·rw[zu.mp hx];refine⟨.no (pk.1 _ (zQ ep)).1 ?_,?_⟩
    ·show d+_<=1+dpI aL (c,d);unfold dpI;show d+_<=1+(if brk c aL=true then d+1 else d);rw[hb];cases c.mny
     ·show d+1<=1+d;omega
     ·show d+2<=1+(d+1);omega
    ·show 1+dpI aL (c,d)<=12;omega
  ·have h1:wt ps=wt (ps.take (ps.length-1))+wt [(c,d)]:=by rw[<-dv,<-el]
   have h2:=pk.2;rw[dv,lw];have h3:wt [(Cq.no c,1+dpI aL (c,d))]<=wt [(c,d)]+3:=by
    show(Cq.no c).ws.length+4+0<=c.ws.length+4+0+3;rw[Cq.ws,zn];have:(aM (brk c aL) c.ws).length<=c.ws.length+2:=by
     cases brk c aL
     ·exact Nat.le_add_right _ 2
     ·show(c.ws++[cls]).length+1<=_;rw[zc];exact za _
    omega
   omega
  ·rw[zc,zV];simp;omega
 rintro σ' H2 ⟨x6,x7,rfl,s2,eP⟩;have eLen:(ws.drop m).length=ws.length-m:=zW;have pd:=(pa.drop m).same s2;refine jw (fun σ' H'=>∃x6 x7 x8,σ'=[some (.ref L),some (.int cell),some (.ref N),some (.int num),some (.int (cell%7)),some (.ref P),x6,x7,x8]/\Same H H') (fun R hR hrt=>?_) ?_
 ·refine⟨_,rfl,_,_,rfl,rfl,⟨_,rfl,bz (fun c4=>?_) (fun c4=>aw (hR _ _ ⟨_,_,_,rfl,s2⟩))⟩⟩;refine⟨_,rfl,P,_,rfl,.inl (SqL.of eP),_,_,rfl,rfl,⟨_,rfl,bz (fun c1=>?_) (fun c1=>hR _ _ ⟨_,_,_,rfl,s2⟩)⟩⟩;have c4:cell%7>4:=c4;have c1:((ws.drop m).length:Int)>1:=c1;rw[eLen]at c1;obtain⟨o,ho⟩:∃o:Bool,atI [V.str "and",V.str "or"] (cell%7-5)=some (.str (orW o)):=by
   have:cell%7=5\/cell%7=6:=by omega
   rcases this with e|e
   ·exact⟨false,by rw[e];rfl⟩
   ·exact⟨true,by rw[e];rfl⟩
  refine⟨sz rfl,fun p3 g3=>⟨_,rfl,_,_,rfl,rfl,p3,_,_,_,rfl,rfl,SqL.of ac,ho,?_⟩⟩;have w3:=aa g3 (.lst [.str "and",.str "or"]);generalize upd H2 p3 (.lst [.str "and",.str "or"])=H3 at w3 ⊢;have eP3:=w3 _ _ eP;have pd3:=pd.same w3;have lp:(ws.drop m).length=(ps.drop m).length:=pd.1;refine⟨_,rfl,P,rfl,⟨_,SqL.of eP3⟩,?_⟩;refine ku (fun i=>.int (aY ((ps.drop m).map fun x=>(dpI (orW o) x:Int)) i)) (by omega) (SqL.of eP3) (fun i x H4 hi sm R' k=>?_) (fun p4 H4 s4 g4=>?_)
  ·obtain⟨c,d,a,u,ep,rfl,ea,hc⟩:=pd3.get hi;have ek:aY ((ps.drop m).map fun x=>(dpI (orW o) x:Int)) i=(dpI (orW o) (c,d):Int):=by unfold aY;rw[zP,ep];rfl
   rw[ek,<-jS]at k;exact⟨a,_,rfl,SqT.of (sm _ _ ea),rfl,u,_,rfl,_,_,rfl,rfl,⟨_,rfl,_,rfl,_,rfl,u,c,d,orW o,rfl,hc.ts fun a zs e=>sm _ _ e,k _ (Same.refl _)⟩⟩
  have em:(List.range (ws.drop m).length).map (fun i=>V.int (aY ((ps.drop m).map fun x=>(dpI (orW o) x:Int)) i))=((ps.drop m).map fun x=>(dpI (orW o) x:Int)).map V.int:=by rw[lp];refine List.ext_getElem (by simp) fun i h1 h2=>?_;rw[zd,zd]at h2;simp only[List.getElem_map,List.getElem_range];unfold aY;rw[zP,ze h2];rfl
  rw[em];refine⟨p4,_,rfl,SqL.of ac,fun z=>?_,fun M hM hmx=>?_⟩
  ·have:=zJ List.length z;rw[zd]at this;simp only[List.length_nil]at this;omega
  have w4:=s4.trans (aa g4 (.lst (((ps.drop m).map fun x=>(dpI (orW o) x:Int)).map V.int)));generalize upd H4 p4 (.lst (((ps.drop m).map fun x=>(dpI (orW o) x:Int)).map V.int))=H5 at w4 ⊢;obtain⟨Mn,rfl⟩:∃Mn:Nat,M=(Mn:Int):=by obtain⟨x,_,rfl⟩:=List.mem_map.mp hM;exact⟨_,rfl⟩
  have hmx:∀x∈ps.drop m,dpI (orW o) x<=Mn:=fun x hx=>by have:=hmx _ (List.mem_map.mpr ⟨x,hx,rfl⟩);omega
  refine⟨_,rfl,_,_,rfl,rfl,⟨_,rfl,bz (fun c12=>?_) (fun c12=>hR _ _ ⟨_,_,_,rfl,s2.trans (w3.trans w4)⟩)⟩⟩;have c12:(Mn:Int)<=12:=c12;have s5:=s2.trans (w3.trans w4);have eP5:=w4 _ _ eP3;have pd5:=pd3.same w4;refine⟨_,rfl,_,rfl,L,ws,rfl,.inl (SqL.of (s5 _ _ eL)),_,rfl,P,_,rfl,.inl (SqL.of eP5),_,_,rfl,rfl,_,rfl,L,ws,rfl,SqL.of (s5 _ _ eL),fun p6 g6=>?_⟩;rw[show bo ws none (some ((ws.length:Int)-((ws.drop m).length:Int)))=ws.take m by rw[eLen,qs (by omega) (by omega)];congr 1;omega];have w6:=aa g6 (.lst (ws.take m));have e6:upd H5 p6 (.lst (ws.take m)) p6=some (.lst (ws.take m)):=ac;generalize upd H5 p6 (.lst (ws.take m))=H6 at w6 e6 ⊢;have eP6:=w6 _ _ eP5;have pd6:=pd5.same w6;refine⟨_,rfl,_,rfl,P,rfl,⟨_,SqL.of eP6⟩,?_⟩;refine lB (fun i=>bL H6 (((ws.drop m)[i]?).getD .non)) (by omega) (SqL.of eP6) (fun i x H7 hi sm R' k=>?_) (fun p7 H7 s7 g7=>?_)
  ·obtain⟨c,d,a,u,ep,rfl,ea,hc⟩:=pd6.get hi;rw[hi]at k;have:bL H6 (Option.getD (some (V.ref a)) V.non)=u:=eQ ea;rw[this]at k;exact⟨_,rfl,a,_,_,_,rfl,rfl,SqT.of (sm _ _ ea),at0,k _ (Same.refl _)⟩
  rw[pV];have cq:=pd6.fsts;have l1:((ws.drop m).map (bL H6)).length=ws.length-m:=by rw[zd,eLen]
  generalize(ws.drop m).map (bL H6)=us at cq l1 ⊢;have w7:=s7.trans (aa g7 (.lst us));have e7:upd H7 p7 (.lst us) p7=some (.lst us):=ac;generalize upd H7 p7 (.lst us)=H8 at w7 e7 ⊢;refine⟨p7,us,rfl,.inl ⟨SqL.of e7,fun b gb=>⟨sz rfl,fun t1 g1=>⟨_,rfl,sz rfl,fun t2 g2=>⟨sz rfl,fun p9 g9=>?_⟩⟩⟩⟩⟩;have wb:=aa gb (.tup us);have eb:upd H8 b (.tup us) b=some (.tup us):=ac;generalize upd H8 b (.tup us)=H9 at wb eb g1 g2 g9 ⊢;have wt1:=aa g1 (.tup [.str (orW o),.ref b]);have et1:upd H9 t1 (.tup [.str (orW o),.ref b]) t1=some (.tup [.str (orW o),.ref b]):=ac;generalize upd H9 t1 (.tup [.str (orW o),.ref b])=HA at wt1 et1 g2 g9 ⊢;have wt2:=aa g2 (.tup [.ref t1,.int (Mn:Int)]);have et2:upd HA t2 (.tup [.ref t1,.int (Mn:Int)]) t2=some (.tup [.ref t1,.int (Mn:Int)]):=ac;generalize upd HA t2 (.tup [.ref t1,.int (Mn:Int)])=HB at wt2 et2 g9 ⊢;have w9:=aa g9 (.lst [.ref t2]);have e9:upd HB p9 (.lst [.ref t2]) p9=some (.lst [.ref t2]):=ac;generalize upd HB p9 (.lst [.ref t2])=HC at w9 e9 ⊢;have w69:Same H6 HC:=w7.trans (wb.trans (wt1.trans (wt2.trans w9)));refine⟨p6,p9,_,_,rfl,rfl,w69 _ _ e6,e9,eG (by simp;omega),fun pA gA=>?_⟩;rw[hrt];have wA:=aa gA (.lst (ws.take m++[.ref t2]));have wz:Same H _:=s5.trans (w6.trans (w69.trans wA));refine q pA _ (ps.take m++[(.many o ((ps.drop m).map (·.1)),Mn)]) _ wz ac (((pa.take m).same wz).snoc (.mk (v:=.ref t1) (wA _ _ (w9 _ _ et2)) (.many (wA _ _ (w9 _ _ (wt2 _ _ et1))) (wA _ _ (w9 _ _ (wt2 _ _ (wt1 _ _ eb)))) (cq.ts fun a zs e=>wA _ _ (w69 _ _ e))))) ⟨fun x hx=>?_,?_⟩ ?_ (by simp)
  ·rcases zH.mp hx with hx|hx
   ·exact gtake _ x hx
   ·rw[zu.mp hx];refine⟨.many (by rw[zd,<-lp,eLen];omega) (by rw[zd,<-lp,eLen];omega) (fun c hc=>?_) (fun c hc hb=>?_),by show Mn<=12;omega⟩
    ·obtain⟨x,hx,rfl⟩:=List.mem_map.mp hc;have g1:=(pk.1 x (List.mem_of_mem_drop hx)).1;have g2:=hmx x hx;refine g1.mono (za _) ?_;show x.2<=Mn-_;unfold dpI at g2;split at g2<;>simp_all<;>omega
    ·obtain⟨x,hx,rfl⟩:=List.mem_map.mp hc;have g2:=hmx x hx;unfold dpI at g2;rw[o7 hb]at g2;show 1<=Mn;omega
  ·have h1:wt ps=wt (ps.take m)+wt (ps.drop m):=by rw[<-dv,List.take_append_drop]
   have h2:=pk.2;have h3:wt [(Cq.many o ((ps.drop m).map (·.1)),Mn)]<=wt (ps.drop m)+4:=by show(Cq.many o ((ps.drop m).map (·.1))).ws.length+4+0<=_;rw[Cq.ws];have:=jC (o:=o) (ps.drop m);omega
   rw[dv];omega
  ·rw[zc,zV];simp;omega
 rintro σ' H3 ⟨x6,x7,x8,rfl,s3⟩;refine⟨_,rfl,_,rfl,_,rfl,num,N,rfl,s3 _ _ eN,fun v c H4 s4 ok hc=>⟨sz rfl,fun t2 g5=>⟨sz rfl,fun p6 g6=>?_⟩⟩⟩;have w5:=aa g5 (.tup [v,.int 0]);have e5:upd H4 t2 (.tup [v,.int 0]) t2=some (.tup [v,.int 0]):=ac;generalize upd H4 t2 (.tup [v,.int 0])=H5 at w5 e5 g6 ⊢;have w6:=aa g6 (.lst [.ref t2]);have e6:upd H5 p6 (.lst [.ref t2]) p6=some (.lst [.ref t2]):=ac;generalize upd H5 p6 (.lst [.ref t2])=H6 at w6 e6 ⊢;refine⟨L,p6,_,_,rfl,rfl,w6 _ _ (w5 _ _ (s4 _ _ (s3 _ _ eL))),e6,eG (by simp;omega),fun p7 g7=>?_⟩;have w7:=aa g7 (.lst (ws++[.ref t2]));refine q p7 _ (ps++[(c,0)]) _ (s3.trans (s4.trans (w5.trans (w6.trans w7)))) ac ((pa.same (s3.trans (s4.trans (w5.trans (w6.trans w7))))).snoc (.mk (v:=v) (w7 _ _ (w6 _ _ e5)) (hc.ts fun a zs e=>w7 _ _ (w6 _ _ (w5 _ _ e))))) ⟨fun x hx=>?_,?_⟩ (by simp) (by simp)
 ·rcases zH.mp hx with hx|hx
  ·obtain⟨a,b⟩:=pk.1 x hx;exact⟨a.mono (Nat.le_succ h) (za _),b⟩
  ·rw[zu.mp hx];exact⟨.at ok,zX _⟩
 ·rw[dv];have:=pk.2;have:wt [(c,0)]<=6:=by show c.ws.length+4+0<=6;have:=fM ok;omega
  omega
inductive spTree(K:PySem.W.Frag)(vs:List V)(H:Hp)(Q:VK)(E_:XK):Prop
 |mk (L N:Addr) (ns:List Int) (h0:vs=[.ref L,.ref N]) (h1:SqL K H L (ns.map V.int)) (h2:H N=some (.lst [])) (h3:ns.length<=60) (h7:∀v c H',Same H H'->CqAt H' v c->Good 63 12 c->c.ws.length<=400->Q v H'):spTree K vs H Q E_
theorem PsOk.mono{h h' B B':Nat}{ps:List (Cq×Nat)}(p:PsOk h B ps)(a:h<=h')(b:B<=B'):PsOk h' B' ps:=⟨fun x hx=>⟨(p.1 x hx).1.mono a (za _),(p.1 x hx).2⟩,zh p.2 b⟩
theorem mF:∀{ps:List (Cq×Nat)} {x:Cq×Nat},x∈ps->x.1.ws.length+4<=wt ps
 |y::ps,x,h=>by
  have e:wt (y::ps)=y.1.ws.length+4+wt ps:=by unfold wt;rw[zv,z4]
  rcases zo.mp h with rfl|h
  ·omega
  ·have:=mF h;omega
theorem im(k:Cq×Nat->Bool):∀ps:List (Cq×Nat),wt (ps.filter k)<=wt ps
 | []=>za _
 |y::ps=>by
  have ih:=im k ps;have e:∀ps,wt (y::ps)=y.1.ws.length+4+wt ps:=fun ps=>by unfold wt;rw[zv,z4]
  rw[List.filter_cons];split
  ·rw[e,e];omega
  ·rw[e];omega
theorem PsOk.len{h B:Nat}{ps:List (Cq×Nat)}(p:PsOk h B ps){x:Cq×Nat}(hx:x∈ps):x.1.ws.length<=B:=by have:=mF hx;have:=p.2;omega
def ef(ps:List (Cq×Nat)):List (Cq×Nat):=ps.filter fun x=>decide (x.2<12)
theorem PsAt.keep{H:Hp}(h':Hp):∀{vs:List V} {ps:List (Cq×Nat)},PsAt H vs ps->∀k:Nat->Bool,(∀i x,ps[i]?=some x->k i=decide (x.2<12))->CqsAt H (((List.range vs.length).filter k).map fun i=>bL H ((vs[i]?).getD .non)) ((ef ps).map (·.1))
 | [],[],_,_,_=>.nil
 | [],_::_,h,_,_=>by have:=h.1;simp at this
 |_::_,[],h,_,_=>by have:=h.1;simp at this
 |v::vs,x::ps,h,k,hk=>by
  have ih:=PsAt.keep h' (vs:=vs) (ps:=ps) ⟨by have:=h.1;simpa using this,fun i v x a b=>h.2 (i+1) v x a b⟩ (fun i=>k (i+1)) (fun i y e=>hk (i+1) y e);have e:((List.range (v::vs).length).filter k).map (fun i=>bL H (((v::vs)[i]?).getD .non))=(if k 0 then[bL H v]else[])++((List.range vs.length).filter fun i=>k (i+1)).map fun i=>bL H ((vs[i]?).getD .non):=by
   rw[zn,List.range_succ_eq_map,List.filter_cons];have e2:((List.range vs.length).map Nat.succ).filter k=((List.range vs.length).filter fun i=>k (i+1)).map Nat.succ:=by rw[List.filter_map];rfl
   rw[e2];split
   ·rw[zv,List.map_map];rfl
   ·rw[List.map_map];rfl
  rw[e];have k0:=hk 0 x rfl;unfold ef;rw[List.filter_cons,k0];have p0:=h.2 0 v x rfl rfl;split
  ·cases p0 with
   |mk h1 h2 =>rw[eQ h1];exact .cons h2 ih
  ·exact ih
abbrev ju:Stmt:=top 31
abbrev qi:List Str:=["_law_cells","_law_names","_law_some","_law_cell","_law_parts"]
theorem du:FnScope qi ["_law_cells","_law_names"] (ag ju):=⟨rfl,rfl,rfl,by decide +kernel,rfl,by decide +kernel,by decide +kernel⟩
theorem px{f:Addr}{fd:FuncData}(F:Fun K "_law_tree" "_law_tree" ju f fd)(n4:Fn P w K mg base 2 "_law_grown" ["_law_some","_law_cell","_law_names"] spGrown)(d9:Fn P w K mg base 1 "_law_atom" ["_law_number","_law_names"] spAtom)(a6:mg "len" = none)(a9:mg "tuple" = none):FnOk P w K mg base CX0 3 f fd ["_law_cells","_law_names"] (spTree K):=by
 refine F.okQ du (fun vs H Q E h=>?_) (fun cdv A outer s H vs Q E hr h=>?_)
 ·obtain⟨L,N,ns,rfl,_⟩:=h;rfl
 obtain⟨L,N,ns,rfl,eC,eN,l60,q⟩:=h;refine⟨_,(b_c (ar (i:=2) du.nd (aZ (q_a (aI (q_a (au d9 (hr.mono (by decide)) (q_a ae (q_a (q_v 1) ad))) (q_a ae ad))) ad)))
   (b_c (sP PassesOwn.never rfl (fR (q_v 0)) (bh (i:=3) du.nd) (b_1 (ar (i:=2) du.nd (au n4 (hr.mono (by decide)) (q_a (q_v 2) (q_a (q_v 3) (q_a (q_v 1) ad)))))))
   (b_c (rB (j:=4) du.nd (own:=["_law_condition","_law_deep_here"]) (⟨rfl,by decide +kernel,by decide +kernel,rfl,trivial⟩:CompOk _ _ [] []) rfl (fR (jm eg (q_v 2) (gK ae) kP)) (fun _ _ _ _=>lI (K:=K) (n:=2) rfl rfl (gz (bh (i:=0) (show (["_law_condition","_law_deep_here"]:List Str).Nodup by decide +kernel)) (gz (bh (i:=1) (show (["_law_condition","_law_deep_here"]:List Str).Nodup by decide +kernel)) nj))) (lJ (dA (bt (by decide)) cN (dA (bt (by decide)) cN jT eR) (jc cN eR))) (fun _ _ _ _=>(sZ (ap gG (q_v 1) ae))) (fun _ _ _ _=>(q_v 0)))
   (b_c (ay (ap jk (q_B bn a6 zB (q_a (q_v 4) ad)) ae) (b_1 (ah (aI (q_a af (q_a (cg ko a9 bP (q_a (q_v 4) ad)) ad))))) b_0)
   (b_1 (ah (ax aK (ax aT (q_v 2) (nX la ae)) ae))))))),?_⟩
 try rw[cxK]
 refine⟨_,rfl,0,N,rfl,eN,fun v c H1 s1 ok hc=>⟨sz rfl,fun t1 g1=>⟨sz rfl,fun p1 g2=>?_⟩⟩⟩;have w1:=aa g1 (.tup [v,.int 0]);have e1:upd H1 t1 (.tup [v,.int 0]) t1=some (.tup [v,.int 0]):=ac;generalize upd H1 t1 (.tup [v,.int 0])=H2 at w1 e1 g2 ⊢;have w2:=aa g2 (.lst [.ref t1]);have e2:upd H2 p1 (.lst [.ref t1]) p1=some (.lst [.ref t1]):=ac;generalize upd H2 p1 (.lst [.ref t1])=H3 at w2 e2 ⊢;have s3:=s1.trans (w1.trans w2);have eC3:=s3.seq eC;refine⟨_,rfl,L,rfl,⟨_,eC3⟩,?_⟩;refine lF (xs:=ns.map V.int) (fun i σ' H'=>∃(p:Addr) (x:Option V) (ws:List V) (ps:List (Cq×Nat)),σ'=[some (.ref L),some (.ref N),some (.ref p),x,none]/\Same H H'/\H' p=some (.lst ws)/\PsAt H' ws ps/\PsOk (i+1) (6*(i+1)) ps/\ps.length<=i+1/\ps≠[]) ?_ ?_ ?_ ?_
 ·refine⟨p1,none,[.ref t1],[(c,0)],rfl,s3,e2,⟨rfl,fun i v' x a b=>?_⟩,⟨fun x hx=>?_,?_⟩,by simp,by simp⟩
  ·have i0:i=0:=by have:=(zp.mp a).1;simp at this;exact this
   subst i0;cases a;cases b;exact .mk (w2 _ _ e1) (hc.ts fun a zs e=>w2 _ _ (w1 _ _ e))
  ·rw[zu.mp hx];exact⟨.at ok,zX _⟩
  ·show c.ws.length+4+0<=6;have:=fM ok;omega
 ·rintro i σ' H' hi ⟨p,x,ws,ps,rfl,s',_⟩;exact s'.seq eC
 ·rintro i x σ' H' hx ⟨p,x0,ws,ps,rfl,s',e',pa,pk,l1,ne⟩ D' hD;obtain⟨rfl,hj⟩:=je hx;refine⟨_,rfl,_,rfl,_,rfl,p,N,_,ws,ps,i+1,6*(i+1),rfl,e',s' _ _ eN,pa,pk,by omega,fun L' ws' ps' H4 s4 e4 pa4 pk4 l4 ne4=>?_⟩;exact hD _ _ ⟨L',_,ws',ps',rfl,s'.trans s4,e4,pa4,pk4,by omega,ne4⟩
 rintro σ' H4 ⟨p,x,ws,ps,rfl,s4,e4,pa,pk,l1,ne⟩;rw[zd]at pk l1;have pk:=pk.mono (h':=62) (B':=372) (by omega) (by omega);have lw:=pa.1;have lpos:0<ps.length:=List.length_pos_iff.mpr ne;refine⟨_,rfl,_,rfl,p,ws,rfl,SqL.of e4,fun p5 g5=>⟨p5,rfl,⟨_,SqL.of ac⟩,?_⟩⟩;rw[show bo ws (some 1) none=ws.drop 1 from iZ (k:=1) (by decide) (by omega)];have w5:=aa g5 (.lst (ws.drop 1));have e5:upd H4 p5 (.lst (ws.drop 1)) p5=some (.lst (ws.drop 1)):=ac;generalize upd H4 p5 (.lst (ws.drop 1))=H5 at w5 e5 ⊢;have pd:=(pa.drop 1).same w5;have ld:(ws.drop 1).length=ws.length-1:=zW;refine fh (fun i=>decide ((((ps.drop 1)[i]?).getD (c,0)).2<12)) (fun i=>bL H5 (((ws.drop 1)[i]?).getD .non)) (by omega) (SqL.of e5) (fun i x H6 hx sm A B hA hB=>?_) (fun p6 H6 s6 g6=>?_)
 ·obtain⟨c',d',a,u,ep,rfl,ea,hc'⟩:=pd.get hx;rw[ep]at hA hB;rw[hx]at hA;have:bL H5 (Option.getD (some (V.ref a)) V.non)=u:=eQ ea;rw[this]at hA;refine⟨a,_,rfl,SqT.of (sm _ _ ea),rfl,u,_,rfl,_,_,rfl,rfl,⟨_,rfl,_,_,rfl,rfl,⟨_,rfl,?_⟩⟩⟩;by_cases z:d'<12
  ·rw[decide_eq_true (show(d':Int)<12 by omega)];exact aC ⟨_,rfl,hA (decide_eq_true z) _ (Same.refl _)⟩
  ·rw[decide_eq_false (show¬(d':Int)<12 by omega)];exact aw (hB (decide_eq_false z) _ (Same.refl _))
 have cq:=PsAt.keep H5 pd (fun i=>decide ((((ps.drop 1)[i]?).getD (c,0)).2<12)) fun i x e=>by rw[e];rfl
 generalize((List.range (ws.drop 1).length).filter fun i=>decide ((((ps.drop 1)[i]?).getD (c,0)).2<12)).map (fun i=>bL H5 (((ws.drop 1)[i]?).getD .non))=us at cq ⊢;have lq:=cq.len;rw[zd]at lq;have lk:(ef (ps.drop 1)).length<=ps.length:=by unfold ef;exact zh (List.length_filter_le _ _) (by rw[zW];omega)
 have w6:=s6.trans (aa g6 (.lst us));have e6:upd H6 p6 (.lst us) p6=some (.lst us):=ac;generalize upd H6 p6 (.lst us)=H7 at w6 e6 ⊢;have s7:=s4.trans (w5.trans w6);refine⟨_,rfl,p6,us,rfl,.inl (SqL.of e6),_,_,rfl,rfl,⟨_,rfl,bz (fun c1=>?_) (fun c1=>?_)⟩⟩
 ·have c1:(us.length:Int)>1:=c1;refine⟨_,rfl,p6,us,rfl,.inl ⟨SqL.of e6,fun b gb=>⟨sz rfl,fun t2 gt2=>?_⟩⟩⟩;have wb:=aa gb (.tup us);have eb:upd H7 b (.tup us) b=some (.tup us):=ac;generalize upd H7 b (.tup us)=H8 at wb eb gt2 ⊢;have wt2:=aa gt2 (.tup [.str "or",.ref b]);have mem:∀x∈ef (ps.drop 1),x∈ps/\x.2<12:=fun x hx=>by unfold ef at hx;obtain⟨a,b⟩:=List.mem_filter.mp hx;exact⟨List.mem_of_mem_drop a,of_decide_eq_true b⟩
  refine q _ (.many true ((ef (ps.drop 1)).map (·.1))) _ (s7.trans (wb.trans wt2)) (.many (o:=true) ac (wt2 _ _ eb) (cq.ts fun a zs e=>wt2 _ _ (wb _ _ (w6 _ _ e)))) (.many (by rw[zd];omega) (by rw[zd];omega) (fun c' hc'=>?_) (fun _ _ _=>by omega)) ?_
  ·obtain⟨x,hx,rfl⟩:=List.mem_map.mp hc';obtain⟨m1,m2⟩:=mem x hx;exact(pk.1 x m1).1.mono (za _) (by split<;>omega)
  ·rw[Cq.ws];refine zh (jC _) ?_;have a:wt (ef (ps.drop 1))<=wt (ps.drop 1):=im _ _;have b:wt ps=wt (ps.take 1)+wt (ps.drop 1):=by rw[<-dv,List.take_append_drop]
   have:=pk.2;omega
 ·have elast:ws[ws.length-1]?=some ws[ws.length-1]:=ze (by omega);obtain⟨c',d',a,u,ep,ev,ea,hc'⟩:=pa.get elast;rw[ev]at elast;refine⟨_,rfl,1,rfl,p,ws,_,_,rfl,rfl,SqL.of (w6 _ _ (w5 _ _ e4)),jN elast,a,_,_,_,rfl,rfl,SqT.of (w6 _ _ (w5 _ _ ea)),at0,?_⟩;have m1:=zQ ep;obtain⟨g,d12⟩:=pk.1 _ m1;exact q _ c' _ s7 (hc'.ts fun a zs e=>w6 _ _ (w5 _ _ e)) (g.mono (by decide) d12) (zh (pk.len m1) (by decide))
abbrev iR:RR:=RM true (RM false (RO 13))
theorem RM1{o:Bool}{R:RR}{d:Int}{us:List Str}{c:Cq}{r:List Str}(h:R d us c r)(hr:r.headD ""≠orW o):RM o R d us c r:=⟨c,r,[],h,.nil hr,by simp,rfl⟩
theorem RS1{R:RR}{d:Int}{us:List Str}{c:Cq}{r:List Str}(h:R d us c r)(h1:r.headD ""≠"and")(h2:r.headD ""≠"or"):RM true (RM false R) d us c r:=RM1 (o:=true) (RM1 (o:=false) h h1) h2
theorem ml{r:List Str}{key:Str}{back:Bool}(h:QTl r key back):r.headD ""≠"and"/\r.headD ""≠"or":=by cases h<;>(constructor<;>(simp only[List.headD_cons,List.headD_nil];decide +kernel))
theorem dB{h:Nat}{c:Cq}{r:List Str}{key:Str}{back:Bool}(g:Good h 12 c)(t:QTl r key back):iR 0 (c.ws++r) c r :=
 (reads h 12 c g).2.2 13 0 r (by decide) (by decide) (ml t).1 (ml t).2
theorem nR{key:Str}(hk:key∈bf)(back:Bool):QTl (bS key back) key back:=by
 unfold bS;cases back with
 |true=>exact .back hk
 |false =>
  by_cases c:key="place"
  ·rw[c];exact .none
  ·rw[decide_eq_false c];exact .key hk
theorem gX{r:List Str}{key:Str}{back:Bool}(h:QTl r key back):∀x∈r,Wd x:=by
 have kw:∀k∈bf,k.length<=130/\32∉k.cps.toList:=by decide +kernel
 have b1:Wd "by":=⟨by decide +kernel,by decide +kernel⟩
 have b2:Wd "back":=⟨by decide +kernel,by decide +kernel⟩
 intro x hx;cases h with
 |none=>cases hx
 |key hk =>
  simp only[zo,zL,or_false]at hx;rcases hx with rfl|rfl
  ·exact b1
  ·exact kw _ hk
 |back hk =>
  simp only[zo,zL,or_false]at hx;rcases hx with rfl|rfl|rfl
  ·exact b1
  ·exact kw _ hk
  ·exact b2
theorem oo{r:List Str}{key:Str}{back:Bool}(h:QTl r key back):r.length<=3:=by cases h<;>simp
theorem gc{ws:List Str}{c:Cq}{r:List Str}{key:Str}{back:Bool}{H:Hp}{Q:VK}{E:XK}{T:Str}(hT:T=Str.join aq ws)(ne:ws≠[])(wd:∀x∈ws,Wd x)(hl:ws.length<=500)(hr:iR 0 ws c r)(ht:QTl r key back)(q:∀a v H',Same H H'->H' a=some (.tup [v,.str key,.bl back])->CqAt H' v c->Q (.ref a) H'):spRQ iR [.str T] H Q E:=by have:=cA wd;exact⟨ws,c,r,key,back,by rw[hT],ne,fun x hx=>(wd x hx).2,by omega,by omega,hr,ht,q⟩
theorem mO{ws:List Str}(h:ws≠[]):Str.join aq (aM true (aM true ws))=("( ( ":Str)++Str.join aq ws++(" ) )":Str):=by
 rw[dk (ce h),dk h];refine bj ?_;simp only[aD];have e1:("( ( ":Str).cps.toList=("( ":Str).cps.toList++("( ":Str).cps.toList:=by decide +kernel
 have e2:(" ) )":Str).cps.toList=(" )":Str).cps.toList++(" )":Str).cps.toList:=by decide +kernel
 rw[e1,e2];simp only[zr]
theorem mP{ws:List Str}(h:ws≠[]):Str.join aq ((aL::aM true ws)++[("by":Str),"size"])=("not ( ":Str)++Str.join aq ws++(" ) by size":Str):=by
 rw[gt (List.cons_ne_nil _ _),jj (ce h),dk h];refine bj ?_;simp only[aD];have e1:("not ( ":Str).cps.toList=("not ":Str).cps.toList++("( ":Str).cps.toList:=by decide +kernel
 have e2:(" ) by size":Str).cps.toList=(" )":Str).cps.toList++((" by ":Str).cps.toList++("size":Str).cps.toList):=by decide +kernel
 rw[e1,e2];simp only[zr]
inductive spBr(vs:List V)(H:Hp)(Q:VK)(E_:XK):Prop
 |mk (v:V) (c:Cq) (h0:vs=[v,.str c.line]) (h1:CqAt H v c) (h2:AtOk c) (h3:∀H',Q (.bl true) H'):spBr vs H Q E_
theorem qm{c:Cq}(ok:AtOk c)(t:Str):brk c t=false:=by have a:=bO ok;unfold brk;rw[decide_eq_false a.2.2.1,decide_eq_false a.2.2.2];rfl
abbrev bB:Stmt:=top 35
abbrev dW:List Str:=["_law_condition","_law_line_here"]
theorem dU:FnScope dW ["_law_condition","_law_line_here"] (ag bB):=⟨rfl,rfl,rfl,by decide +kernel,rfl,by decide +kernel,by decide +kernel⟩
theorem dR{k:Nat}{f:Addr}{fd:FuncData}(hk:45<=k)(F:Fun K "_law_same_in_brackets" "_law_same_in_brackets" bB f fd)(j2:Fn P w K mg base 1 "_law_deep" ["_law_condition","_law_deep_here","_law_word"] spDeep)(a7:Fn P w K mg base 45 "read_question" ["text"] (spRQ iR))(b4:Fn P w K mg base k "_law_alike" ["_law_found","_law_due"] (df 127)):FnOk P w K mg base CX0 (k+1) f fd ["_law_condition","_law_line_here"] spBr:=by
 refine F.okQ dU (fun vs H Q E h=>?_) (fun cdv A outer s H vs Q E hr h=>?_)
 ·obtain⟨v,c,rfl,_⟩:=h;rfl
 obtain⟨v,c,rfl,hc,ok,q⟩:=h;refine⟨_,(b_c (ay (ap jk (au j2 (hr.mono (by omega)) (q_a (q_v 0) (q_a ae (q_a af ad)))) ae) (b_1 (ah ci)) b_0)
   (b_c (ay (cy (aP (au b4 (hr.mono (by omega)) (q_a (au a7 (hr.mono (by omega)) (q_a (aj aE (aj aE af (q_v 1)) af) ad)) (q_a (aI (q_a (q_v 0) (q_a af (q_a ci ad)))) ad))))) (b_1 (ah ci)) b_0)
   (b_1 (ah (au b4 (hr.mono (by omega)) (q_a (au a7 (hr.mono (by omega)) (q_a (aj aE (aj aE af (q_v 1)) af) ad)) (q_a (aI (q_a (aI (q_a af (q_a (q_v 0) ad))) (q_a af (q_a ci ad)))) ad))))))),?_⟩
 have g:Good 63 12 c:=.at ok;have g2:Good 63 12 (.no c):=.no (h:=62) (d:=0) (.at ok) (by split<;>omega);have wd:=ok.words;have l2:=fM ok;have lw:c.line.length<=262:=by have:c.line.length<=131*c.ws.length:=cA wd.2;omega
 refine⟨_,rfl,v,c,0,"not",rfl,hc,⟨_,_,rfl,rfl,⟨_,rfl,?_⟩⟩⟩;rw[qm ok];refine aw ?_;have a1:("( ( ":Str).length=4:=by decide +kernel
 have a2:(" ) )":Str).length=4:=by decide +kernel
 have a3:("not ( ":Str).length=6:=by decide +kernel
 have a4:(" ) by size":Str).length=10:=by decide +kernel
 have nh:∀(r:List Str) (t:Str),t="and"\/t="or"->(cls::r).headD ""≠t:=by
  rintro r t (rfl|rfl)
  ·show¬(cls="and");decide +kernel
  ·show¬(cls="or");decide +kernel
 have lb:∀{b:Bool} {ws:List Str},(aM b ws).length<=ws.length+2:=fun{b ws}=>by
  cases b
  ·exact Nat.le_add_right _ 2
  ·show(ws++[cls]).length+1<=_;rw[zc];exact za _
 refine⟨_,rfl,_,_,rfl,rfl,aB (by omega),_,_,rfl,rfl,aB (by rw[zy];omega),?_⟩;refine gc (ws:=aM true (aM true c.ws)) (c:=c) (r:=[]) (mO wd.1).symm (ce (ce wd.1)) (cM (cM wd.2)) ?_ ?_ .none fun a u H1 s1 e1 c1=>?_
 ·have:=lb (b:=true) (ws:=aM true c.ws);have:=lb (b:=true) (ws:=c.ws);omega
 ·refine RS1 (.inr (.inl ⟨by decide,aM true c.ws++[cls],rfl,RS1 (.inr (.inl ⟨by decide,c.ws++[cls,cls],?_,RS1 (.inr (.inr ⟨ok,rfl⟩)) (nh _ _ (.inl rfl)) (nh _ _ (.inr rfl))⟩)) (nh _ _ (.inl rfl)) (nh _ _ (.inr rfl))⟩)) (by decide +kernel) (by decide +kernel);show(opn::(c.ws++[cls]))++[cls]=opn::(c.ws++[cls,cls]);rw[List.cons_append,zr];rfl
 refine⟨_,rfl,sz rfl,fun t2 g3=>⟨_,_,rfl,.three (aa g3 _ _ _ e1) ac (g.alike (c1.ts fun a zs e=>aa g3 _ _ _ e) ((hc.ts fun a zs e=>s1 _ _ e).ts fun a zs e=>aa g3 _ _ _ e)) (.flat .str) (.flat .bl),fun H3 s3=>⟨_,rfl,aw ?_⟩⟩⟩;have hc3:=(hc.ts fun a zs e=>s1 _ _ e).ts (fun a zs e=>s3 _ _ (aa g3 (.tup [v,.str "place",.bl false]) _ _ e));refine⟨_,rfl,_,_,rfl,rfl,aB (by omega),_,_,rfl,rfl,aB (by rw[zy];omega),?_⟩;refine gc (ws:=(aL::aM true c.ws)++[("by":Str),"size"]) (c:=.no c) (r:=[("by":Str),"size"]) (mP wd.1).symm (by simp) (fun x hx=>?_) ?_ ?_ (.key (k:="size") (by decide +kernel)) fun a u H4 s4 e4 c4=>?_
 ·rcases zH.mp hx with hx|hx
  ·rcases zo.mp hx with rfl|hx
   ·exact⟨by decide +kernel,by decide +kernel⟩
   ·exact cM wd.2 x hx
  ·exact gX (.key (k:="size") (by decide +kernel)) x hx
 ·rw[zc,zn];have:=lb (b:=true) (ws:=c.ws);simp;omega
 ·refine RS1 (.inl ⟨by decide,aM true c.ws++[("by":Str),"size"],c,rfl,rfl,.inr (.inl ⟨by decide,c.ws++cls::[("by":Str),"size"],?_,RS1 (.inr (.inr ⟨ok,rfl⟩)) (nh _ _ (.inl rfl)) (nh _ _ (.inr rfl))⟩)⟩) (by decide +kernel) (by decide +kernel);show(opn::(c.ws++[cls]))++[("by":Str),"size"]=opn::(c.ws++cls::[("by":Str),"size"]);rw[List.cons_append,zr];rfl
 refine⟨_,rfl,sz rfl,fun t5 g5=>⟨sz rfl,fun t6 g6=>?_⟩⟩;have w5:=aa g5 (.tup [.str "not",v]);have e5:upd H4 t5 (.tup [.str "not",v]) t5=some (.tup [.str "not",v]):=ac;generalize upd H4 t5 (.tup [.str "not",v])=H5 at w5 e5 g6 ⊢;have w6:=aa g6 (.tup [.ref t5,.str "size",.bl false]);refine⟨_,_,rfl,.three (w6 _ _ (w5 _ _ e4)) ac (g2.alike (c4.ts fun a zs e=>w6 _ _ (w5 _ _ e)) (.no (w6 _ _ e5) (((hc3.ts fun a zs e=>s4 _ _ e).ts fun a zs e=>w5 _ _ e).ts fun a zs e=>w6 _ _ e))) (.flat .str) (.flat .bl),fun H7 s7=>q _⟩
theorem mW{ns:List Int}(a b:Nat)(h:a<=b):∃ms:List Int,bo (ns.map V.int) (some (a:Int)) (some (b:Int))=ms.map V.int/\ms.length<=b-a:=by unfold bo;rw[HT.sIx_nat,HT.sIx_nat,<-List.map_drop,<-List.map_take];refine⟨_,rfl,?_⟩;rw[zV];omega
theorem nu(i:Int):∃key:Str,atI [V.str "place",.str "text",.str "size",.str "depth",.str "due"] (i%5)=some (.str key)/\key∈bf:=by
 have:i%5=0\/i%5=1\/i%5=2\/i%5=3\/i%5=4:=by omega
 rcases this with e|e|e|e|e<;>rw[e]
 ·exact⟨"place",rfl,by decide +kernel⟩
 ·exact⟨"text",rfl,by decide +kernel⟩
 ·exact⟨"size",rfl,by decide +kernel⟩
 ·exact⟨"depth",rfl,by decide +kernel⟩
 ·exact⟨"due",rfl,by decide +kernel⟩
abbrev eX:Stmt:=top 36
abbrev rR:List Str:=["_law_script","_law_key","_law_back","_law_condition","_law_line_here","_law_told","_law_found","_law_bare"]
theorem bI:FnScope rR ["_law_script"] (ag eX):=⟨rfl,rfl,rfl,by decide +kernel,rfl,by decide +kernel,by decide +kernel⟩
theorem qG{f:Addr}{fd:FuncData}(F:Fun K "law" "law" eX f fd)(i6:Fn P w K mg base 1 "_law_cell_at" ["_law_script","_law_k"] (mt K))(n8:Fn P w K mg base 3 "_law_tree" ["_law_cells","_law_names"] (spTree K))(j6:Fn P w K mg base 127 "_law_line" ["_law_condition"] (spWC 63))(d0:Fn P w K mg base 128 "written_question" ["question"] (spWQ 63))(a7:Fn P w K mg base 45 "read_question" ["text"] (spRQ iR))(b4:Fn P w K mg base 129 "_law_alike" ["_law_found","_law_due"] (df 127))(d9:Fn P w K mg base 1 "_law_atom" ["_law_number","_law_names"] spAtom)(d2:Fn P w K mg base 130 "_law_same_in_brackets" ["_law_condition","_law_line_here"] spBr)(a5:mg "isinstance" = none)(b3:mg "str" = none):FnOk P w K mg base CX0 131 f fd ["_law_script"] (iI K):=by
 refine F.okQ bI (fun vs H Q E h=>?_) (fun cdv A outer s H vs Q E hr h=>?_)
 ·obtain⟨a,ns,rfl,_⟩:=h;rfl
 obtain⟨a,ns,rfl,hS,h63,q⟩:=h;refine⟨_,(b_c (ar (i:=1) bI.nd (ax aT (aZ (q_a af (q_a af (q_a af (q_a af (q_a af ad)))))) (aj aX (au i6 (hr.mono (by decide)) (q_a (q_v 0) (q_a ae ad))) ae)))
   (b_c (ar (i:=2) bI.nd (bg aF (aj aX (aj bR (au i6 (hr.mono (by decide)) (q_a (q_v 0) (q_a ae ad))) ae) ae) ae))
   (b_c (ar (i:=3) bI.nd (au n8 (hr.mono (by decide)) (q_a (jm eg (q_v 0) (gK ae) (gK ae)) (q_a (aZ ad) ad))))
   (b_c (ar (i:=4) bI.nd (au j6 (hr.mono (by decide)) (q_a (q_v 3) ad)))
   (b_c (ar (i:=5) bI.nd (q_v 4))
   (b_c (ay (t_w (cX (aP (q_v 2)) (cz (ap dI (q_v 1) af)))) (b_1 (ar (i:=5) bI.nd (aj aE (aj aE (q_v 5) af) (q_v 1)))) b_0)
   (b_c (ay (aP (q_v 2)) (b_1 (ar (i:=5) bI.nd (aj aE (q_v 5) af))) b_0)
   (b_c (ar (i:=6) bI.nd (au d0 (hr.mono (by decide)) (q_a (aI (q_a (q_v 3) (q_a (q_v 1) (q_a (q_v 2) ad)))) ad)))
   (b_c (ay (t_w (cX (cy (aP (q_B rT a5 aJ (q_a (q_v 6) (q_a (eu b3 bx) ad))))) (cX (ap dI (q_v 6) (q_v 5)) (cz (cy (aP (au b4 (hr.mono (by decide)) (q_a (au a7 (hr.mono (by decide)) (q_a (q_v 5) ad)) (q_a (aI (q_a (q_v 3) (q_a (q_v 1) (q_a (q_v 2) ad)))) ad))))))))) (b_1 (ah ci)) b_0)
   (b_c (ay (cy (aP (au b4 (hr.mono (by decide)) (q_a (au a7 (hr.mono (by decide)) (q_a (q_v 4) ad)) (q_a (aI (q_a (q_v 3) (q_a af (q_a ci ad)))) ad))))) (b_1 (ah ci)) b_0)
   (b_c (ay (cy (aP (au b4 (hr.mono (by decide)) (q_a (au a7 (hr.mono (by decide)) (q_a (aj aE (aj aE (q_v 4) af) (q_v 1)) ad)) (q_a (aI (q_a (q_v 3) (q_a (q_v 1) (q_a ci ad)))) ad))))) (b_1 (ah ci)) b_0)
   (b_c (ar (i:=7) bI.nd (au d9 (hr.mono (by decide)) (q_a (au i6 (hr.mono (by decide)) (q_a (q_v 0) (q_a ae ad))) (q_a (aZ ad) ad))))
   (b_1 (ah (au d2 (hr.mono (by decide)) (q_a (q_v 7) (q_a (au j6 (hr.mono (by decide)) (q_a (q_v 7) ad)) ad))))))))))))))))),?_⟩
 obtain⟨key,hkey,hk5⟩:=nu (aY ns 0);have lk:key.length<=10:=by
  have:∀k∈bf,k.length<=10:=by decide +kernel
  exact this key hk5
 refine⟨sz rfl,fun p1 g1=>⟨_,rfl,a,ns,0,rfl,(aa g1 _).seq hS,Int.le_refl _,_,_,rfl,rfl,(by show(0:Int)<5;decide),p1,_,_,_,rfl,rfl,SqL.of ac,hkey,?_⟩⟩;have w1:=aa g1 (.lst [.str "place",.str "text",.str "size",.str "depth",.str "due"]);generalize upd H p1 (.lst [.str "place",.str "text",.str "size",.str "depth",.str "due"])=H1 at w1 ⊢;have hS1:=w1.seq hS;refine⟨_,rfl,a,ns,0,rfl,hS1,Int.le_refl _,_,_,rfl,rfl,⟨by decide,by decide⟩,_,_,rfl,rfl,(by show(0:Int)<2;decide),rfl,?_⟩;generalize decide (V.int (aY ns (Int.toNat 0) / 5%2)=V.int 1)=back;refine⟨_,rfl,_,rfl,_,rfl,a,_,rfl,hS1,fun p2 g2=>⟨sz rfl,fun p3 g3=>?_⟩⟩;obtain⟨ms,em,lm⟩:=mW (ns:=ns) 3 63 (by decide);have w2:=aa g2 (.lst (bo (ns.map V.int) (some 3) (some 63)));have e2:upd H1 p2 (.lst (bo (ns.map V.int) (some 3) (some 63))) p2=some (.lst (ms.map V.int)):=by rw[ac];exact zJ (fun l=>some (HO.lst l)) em
 generalize upd H1 p2 (.lst (bo (ns.map V.int) (some 3) (some 63)))=H2 at w2 e2 g3 ⊢;have w3:=aa g3 (.lst []);refine⟨p2,p3,ms,rfl,SqL.of (w3 _ _ e2),ac,lm,fun v c H4 s4 hc g l4=>?_⟩;generalize upd H2 p3 (.lst [])=H3 at w3 s4;have hS4:=s4.seq (w3.seq (w2.seq hS1));have wd:=g.words;refine⟨_,rfl,v,c,12,rfl,hc,g,by omega,fun H5 s5=>?_⟩;have hc5:=hc.ts fun a zs e=>s5 _ _ e;have hS5:=s5.seq hS4;clear hS4 hc w1 w2 w3 e2 s4 s5 g1 g2 g3 hS1;have ll:=g.lineLen (by omega);refine⟨_,rfl,?_⟩;dsimp only[bb];refine gW (fun σ' H'=>∃ts:List Str,σ'=[some (.ref a),some (.str key),some (.bl back),some v,some (.str c.line),some (.str (Str.join aq (c.ws++ts))),none,none]/\H'=H5/\ts=(if back ||!decide (key="place")then[("by":Str),key]else[])) (fun R hR=>?_) ?_
 ·have go:∀(b:Bool),b=true->(back ||!decide (key="place"))=b->fH (tOp (fun x y H Q=>∃i j,x=V.str i/\y=V.str j/\i.length+j.length<=sizeLine/\Q (V.str (i++j)) H) (tOp (fun x y H Q=>∃i j,x=V.str i/\y=V.str j/\i.length+j.length<=sizeLine/\Q (V.str (i++j)) H) (tVar 5) (tC (V.str " by "))) (tVar 1)) (bb 5) R [some (.ref a),some (.str key),some (.bl back),some v,some (.str c.line),some (.str c.line),none,none] H5:=by
   intro b hb e;subst hb;have a1:(" by ":Str).length=4:=by decide +kernel
   refine⟨_,rfl,_,_,rfl,rfl,aB (by omega),_,rfl,_,_,rfl,rfl,aB (by rw[zy];omega),hR _ _ ⟨[("by":Str),key],?_,rfl,by rw[e];rfl⟩⟩;rw[gt wd.1 key];rfl
  refine⟨_,rfl,⟨_,rfl,?_⟩⟩;cases back with
  |true=>exact aC (aC (go _ rfl rfl))
  |false =>
   refine aw ⟨_,rfl,rfl,⟨_,rfl,?_⟩⟩;by_cases ck:key="place"
   ·rw[decide_eq_true (show V.str key=V.str "place" by rw[ck])];exact aw (hR _ _ ⟨[],by rw[List.append_nil];rfl,rfl,by rw[decide_eq_true ck];rfl⟩)
   ·rw[decide_eq_false (show¬V.str key=V.str "place" from fun z=>ck (by injection z))];exact aC (go _ rfl (by rw[decide_eq_false ck];rfl))
 rintro σ' H' ⟨ts,rfl,rfl,ets⟩;refine gW (fun σ' H''=>σ'=[some (.ref a),some (.str key),some (.bl back),some v,some (.str c.line),some (.str (Str.join aq (c.ws++bS key back))),none,none]/\H''=H') (fun R hR=>?_) ?_
 ·refine⟨_,rfl,⟨_,rfl,?_⟩⟩;cases back with
  |true =>
   have ets:ts=[("by":Str),key]:=ets;subst ets;have lj:(Str.join aq (c.ws++[("by":Str),key])).length<=131*(c.ws++[("by":Str),key]).length:=cA fun x hx=>by
    rcases zH.mp hx with hx|hx
    ·exact wd.2 x hx
    ·exact gX (.key hk5) x hx
   have a1:(" back":Str).length=5:=by decide +kernel
   rw[zc]at lj;refine aC ⟨_,rfl,_,_,rfl,rfl,aB (by simp at lj;omega),hR _ _ ⟨?_,rfl⟩⟩;have e:c.ws++bS key true=(c.ws++[("by":Str),key])++[("back":Str)]:=by rw[zr];rfl
   rw[e,li (by simp)];rfl
  |false =>refine aw (hR _ _ ⟨?_,rfl⟩);rw[ets];rfl
 rintro σ' H'' ⟨rfl,rfl⟩;have ne:∀{r:List Str},c.ws++r≠[]:=fun z=>wd.1 (List.append_eq_nil_iff.mp z).1;have wdr:∀{r:List Str} {k:Str} {b:Bool},QTl r k b->∀x∈c.ws++r,Wd x:=fun t x hx=>by
  rcases zH.mp hx with hx|hx
  ·exact wd.2 x hx
  ·exact gX t x hx
 have lr:∀{r:List Str} {k:Str} {b:Bool},QTl r k b->(c.ws++r).length<=500:=fun t=>by have:=oo t;rw[zc];omega
 have tq:=nR hk5 back;refine⟨_,rfl,_,rfl,_,rfl,sz rfl,fun t1 g1=>?_⟩;have w1:=aa g1 (.tup [v,.str key,.bl back]);have hc1:=hc5.ts fun a zs e=>w1 _ _ e;refine⟨t1,v,key,back,c,12,rfl,ac,hc1,g,by omega,lk,fun H6 s6=>?_⟩;generalize upd H'' t1 (.tup [v,.str key,.bl back])=H1 at w1 hc1 s6;have hc6:=hc1.ts fun a zs e=>s6 _ _ e;have hS6:=s6.seq (w1.seq hS5);refine⟨_,rfl,_,"str",.type "str",true,rfl,.str _,dm (H:=H6) (.str (Str.join aq (c.ws++bS key back))),⟨_,rfl,aw ?_⟩⟩;refine⟨_,rfl,_,rfl,rfl,⟨_,rfl,rY rfl ?_⟩⟩;refine⟨_,rfl,gc rfl ne (wdr tq) (lr tq) (dB g tq) tq fun a2 u2 H7 s7 e7 c7=>?_⟩;refine⟨_,rfl,_,rfl,_,rfl,sz rfl,fun t8 g8=>?_⟩;have w8:=aa g8 (.tup [v,.str key,.bl back]);have hc8:=(hc6.ts fun a zs e=>s7 _ _ e).ts fun a zs e=>w8 _ _ e;refine⟨_,_,rfl,.three (w8 _ _ e7) ac (g.alike (c7.ts fun a zs e=>w8 _ _ e) hc8) (.flat .str) (.flat .bl),fun H9 s9=>⟨_,rfl,aw ?_⟩⟩;have hc9:=hc8.ts fun a zs e=>s9 _ _ e;have hS9:=s9.seq (w8.seq (s7.seq hS6));clear hS6 hc8 w8 s9 e7 c7 g8 s7 hc6 s6 w1 hc1 g1;refine⟨_,rfl,gc (ws:=c.ws++[]) (by rw[List.append_nil];rfl) ne (wdr .none) (lr .none) (dB g .none) .none fun a2 u2 H7 s7 e7 c7=>?_⟩;refine⟨_,rfl,sz rfl,fun t8 g8=>?_⟩;have w8:=aa g8 (.tup [v,.str "place",.bl false]);have hc8:=(hc9.ts fun a zs e=>s7 _ _ e).ts fun a zs e=>w8 _ _ e;refine⟨_,_,rfl,.three (w8 _ _ e7) ac (g.alike (c7.ts fun a zs e=>w8 _ _ e) hc8) (.flat .str) (.flat .bl),fun HA sA=>⟨_,rfl,aw ?_⟩⟩;have hcA:=hc8.ts fun a zs e=>sA _ _ e;have hSA:=sA.seq (w8.seq (s7.seq hS9));clear hS9 hc8 w8 sA e7 c7 g8 s7 hc9;have a1:(" by ":Str).length=4:=by decide +kernel
 refine⟨_,rfl,_,_,rfl,rfl,aB (by omega),_,rfl,_,_,rfl,rfl,aB (by rw[zy];omega),?_⟩;refine gc (ws:=c.ws++[("by":Str),key]) (gt wd.1 key).symm ne (wdr (.key hk5)) (lr (.key hk5)) (dB g (.key hk5)) (.key hk5) fun a2 u2 H7 s7 e7 c7=>?_;refine⟨_,rfl,_,rfl,sz rfl,fun t8 g8=>?_⟩;have w8:=aa g8 (.tup [v,.str key,.bl false]);have hc8:=(hcA.ts fun a zs e=>s7 _ _ e).ts fun a zs e=>w8 _ _ e;refine⟨_,_,rfl,.three (w8 _ _ e7) ac (g.alike (c7.ts fun a zs e=>w8 _ _ e) hc8) (.flat .str) (.flat .bl),fun HB sB=>⟨_,rfl,aw ?_⟩⟩;have hSB:=sB.seq (w8.seq (s7.seq hSA));refine⟨_,rfl,a,ns,1,rfl,hSB,by decide,sz rfl,fun p9 g9=>?_⟩;refine⟨_,p9,rfl,ac,fun vb cb HC sC okb hcb=>?_⟩;refine⟨_,rfl,_,rfl,vb,cb,12,rfl,hcb,.at okb,zh (fM okb) (by decide),fun HD sD=>?_⟩;exact⟨vb,cb,rfl,hcb.ts fun a zs e=>sD _ _ e,okb,q⟩
theorem gy{k:Nat}{f:Addr}{fd:FuncData}{ps:List Str}{sp:Sp}(h:∀vs H Q E,¬sp vs H Q E):FnOk P w K mg base CX0 k f fd ps sp:=⟨fun _ _ _ _ z=>absurd z (h _ _ _ _),fun _ _ _ _ _ _ _ _ _ _ _ _ _ z=>absurd z (h _ _ _ _)⟩
end
def iS:Nat->(List Value->Prop)->Prop
 |0,p=>p []
 |n+1,p=>∀a,iS n fun us=>p (a::us)
theorem eI:∀{n:Nat} {p:List Value->Prop},iS n p->∀us:List Value,us.length=n->p us
 |0,_,h,[],_=>h
 |_+1,_,h,a::us,e=>eI (h a) us (Nat.succ.inj e)
section
variable{P:Program}{w:World}{K:PySem.W.Frag}{mg:Str->Option Value}{base h:Heap}{n m x q:Str}{st:Stmt}{C f:Addr}{k:Nat}{ps:List Str}{sp:Sp}{bm:List Value}
structure Bx(P:Program)(w:World)(K:PySem.W.Frag)(mg:Str->Option Value)(base h:Heap):Prop where
 X:K.In h
 G:h.Ns mainGlobals mg
def A1(K:PySem.W.Frag)(n:Str)(st:Stmt)(f:Addr):Prop:=PySem.W.nsIn K mainGlobals n=some (some (.ref f))/\∃fd,Fun K n n st f fd
def A2(K:PySem.W.Frag)(C:Addr)(m q:Str)(st:Stmt)(f:Addr):Prop:=PySem.W.findIn K (.ref C) m=some (some (.ref f))/\PySem.W.isFn K (.ref f)=true/\∃fd,Fun K m q st f fd
def AF(K:PySem.W.Frag):List (Str×Stmt×Addr)->Prop
 | []=>True
 |(n,st,f)::l=>A1 K n st f/\AF K l
def AM(K:PySem.W.Frag):List (Addr×Str×Str×Stmt×Addr)->Prop
 | []=>True
 |(C,m,q,st,f)::l=>A2 K C m q st f/\AM K l
def AN(p:Str->Prop):List Str->Prop
 | []=>True
 |n::l=>p n/\AN p l
theorem anI{p p':Str->Prop}(i:∀{n},p n->p' n):∀{l:List Str},AN p l->AN p' l
 | [],_=>True.intro
 |_::_,h=>⟨i h.1,anI i h.2⟩
theorem gf{l:List (Str×Stmt×Addr)}{oc kV dc pm cd ct:Value}{od an:Option Addr}{sl:Array (Option Value)}(a:PySem.W.nsIn K mainGlobals n=some (some (.ref f)))(b:K.lookup f=some ⟨oc,od,.func (PySem.W.fnOf n n (br st) (ba st) (ag st) .none kV dc pm an cd ct),sl⟩)(c:PySem.W.codeIn K cd n=true)(d:PySem.W.keepIn K (.ref f)=true)(r:AF K l):AF K ((n,st,f)::l):=⟨⟨a,_,lH b c d⟩,r⟩
theorem gm{l:List (Addr×Str×Str×Stmt×Addr)}{oc kV dc pm cd ct:Value}{od an:Option Addr}{sl:Array (Option Value)}(a:PySem.W.findIn K (.ref C) m=some (some (.ref f)))(i:PySem.W.isFn K (.ref f)=true)(b:K.lookup f=some ⟨oc,od,.func (PySem.W.fnOf m q (br st) (ba st) (ag st) .none kV dc pm an cd ct),sl⟩)(c:PySem.W.codeIn K cd q=true)(d:PySem.W.keepIn K (.ref f)=true)(r:AM K l):AM K ((C,m,q,st,f)::l):=⟨⟨a,i,_,lH b c d⟩,r⟩
theorem gn{l:List Str}(a:PySem.W.nsIn K mainGlobals n=some none)(r:AN (fun n=>PySem.W.nsIn K mainGlobals n=some none) l):AN (fun n=>PySem.W.nsIn K mainGlobals n=some none) (n::l):=⟨a,r⟩
theorem mkF(B:Bx P w K mg base h)(A:A1 K n st f)(ok:∀{fd},Fun K n n st f fd->FnOk P w K mg base CX0 k f fd ps sp)(hb:∀(kV doc pm:Value) (an:Option Addr) (cdv ct:Value),iS ps.length fun us=>bindArgs (PySem.W.fnOf n n (br st) (ba st) (ag st) .none kV doc pm an cdv ct) ⟨us,[]⟩=pure (ps.zip us):=by(repeat intro _);rfl):Fn P w K mg base k n ps sp:=by obtain⟨a,fd,F⟩:=A;exact⟨f,fd,ok F,z5 B.X B.G a,F.kp,F.binds fun a b c d e g=>eI (hb a b c d e g)⟩
theorem mkM(B:Bx P w K mg base h)(L:Cls K C)(A:A2 K C m q st f)(ok:∀{fd},Fun K m q st f fd->FnOk P w K mg base CX0 k f fd ps sp)(hb:∀(kV doc pm:Value) (an:Option Addr) (cdv ct:Value),iS ps.length fun us=>bindArgs (PySem.W.fnOf m q (br st) (ba st) (ag st) .none kV doc pm an cdv ct) ⟨us,[]⟩=pure (ps.zip us):=by(repeat intro _);rfl):MFn P w K mg base k C m ps sp:=by obtain⟨a,i,fd,F⟩:=A;exact⟨L,f,fd,ok F,⟨a,i,F.kp⟩,F.binds fun a b c d e g=>eI (hb a b c d e g)⟩
theorem mkC(B:Bx P w K mg base h)(L:Cls K C)(g:mg x=some (.ref C))(mk:PySem.W.makesIn K C=true)(kc:PySem.W.keepIn K (.ref C)=true)(A:A2 K C "__init__" q st f)(ok:∀{fd},Fun K "__init__" q st f fd->FnOk P w K mg base CX0 k f fd ps sp)(hb:∀(kV doc pm:Value) (an:Option Addr) (cdv ct:Value),iS ps.length fun us=>bindArgs (PySem.W.fnOf "__init__" q (br st) (ba st) (ag st) .none kV doc pm an cdv ct) ⟨us,[]⟩=pure (ps.zip us):=by(repeat intro _);rfl):MkFn P w K mg base k C x ps sp:=by obtain⟨a,i,fd,F⟩:=A;exact⟨L,g,f,fd,ok F,⟨mk,a,i,kc⟩,F.binds fun a b c d e g=>eI (hb a b c d e g)⟩
end
theorem ql{l:PySem.W.OpenLaw}{w:World}{K:PySem.W.Frag}{h:Heap}{mg:Str->Option Value}{fa f1 f2 f3 f4 f5 f6 f7 f8 f9 f10 f11 f12 f13 f14 f15 f16 f17 f18 f19 f20 f21 f22 f23 f24 f25 m1 m2 m3 m4 m5:Addr}{C_Reader:Addr}(X:K.In h)(G:h.Ns mainGlobals mg)(hfa:mg "law" = some (.ref fa)){m9:Tok}{o4:Tok}{n9:Tok}{j3:Addr}{n5:Addr}(m8:PySem.W.nsIn K mainGlobals "Reader" = some (some (.ref C_Reader)))(k8:PySem.W.plainGet K C_Reader Str.empty=true)(k9:PySem.W.hasDictIn K C_Reader=true)(l5:PySem.W.plainOver K C_Reader=true)(l7:PySem.W.findIn K (.ref C_Reader) "__setattr__" = some (some (.builtin "object.__setattr__")))(l8:PySem.W.makesIn K C_Reader=true)(l9:PySem.W.keepIn K (.ref C_Reader)=true)(h8:PySem.W.findIn K (.ref C_Reader) "words" = some none)(i7:PySem.W.findIn K (.ref C_Reader) "spot" = some none)(zF:AF K (("is_figures",cS,f1)::("is_item_word",cn,f2)::("item_in",eA,f3)::("written_numbers",bG,f4)::("may_follow",cT,f5)::("read_following",bM,f6)::("alone_or",dM,f7)::("read_plain",cU,f8)::("read_one",dN,f9)::("read_each",dh,f10)::("read_some",di,f11)::("read_question",bV,f12)::("written_condition",bw,f13)::("written_within",bN,f14)::("written_question",bC,f15)::("_law_line",jt,f16)::("_law_inner",gR,f17)::("_law_alike",dt,f18)::("_law_cell_at",ez,f19)::("_law_atom",jq,f20)::("_law_deep",jr,f21)::("_law_grown",gQ,f22)::("_law_tree",ju,f23)::("_law_same_in_brackets",bB,f24)::("law",eX,f25)::[]))(zM:AM K ((C_Reader,"__init__","Reader.__init__",cG,m1)::(C_Reader,"is_through","Reader.is_through",bv,m2)::(C_Reader,"here","Reader.here",cF,m3)::(C_Reader,"go_on","Reader.go_on",cm,m4)::(C_Reader,"passes","Reader.passes",bT,m5)::[]))(zN:AN (fun n=>PySem.W.nsIn K mainGlobals n=some none) ("isinstance"::"int"::"bool"::"str"::"tuple"::"len"::"all"::"max"::"range"::[]))(h9:PySem.W.nsIn K mainGlobals "MOST_FIGURES" = some (some (.int 60 m9)))(m6:PySem.W.nsIn K mainGlobals "FIGURES" = some (some (.str FIG o4)))(j4:PySem.W.nsIn K mainGlobals "MOST_DEEP" = some (some (.int 12 n9)))(j5:PySem.W.nsIn K mainGlobals "FOLLOWING" = some (some (.ref j3)))(t_FOLLOWING:PyProof.Rows.KTD.tabLook (gi K) (fun b=>K.lookup b) j3 FT=true)(dg:PySem.W.nsIn K cStatics "sys.int_max_str_digits" = some none)(o1:PySem.W.nsIn K mainGlobals "KEYS" = some (some (.ref n5)))(t_KEYS:∃(o:Obj) (its:Array Value) (n:Nat),K.lookup n5=some o/\o.cls=.type "tuple"/\o.data=.seq its n/\its.size<=sizeLine/\Vals (bf.map V.str) its.toList)
  :∃fd:FuncData,(∀(s:Shared) (v:Value),BindsTo s fd ⟨[v],[]⟩ [("_law_script",v)])/\∀base:Heap,K.In base->base.Ns mainGlobals mg->FnOk l.prog w K mg base CX0 131 fa fd ["_law_script"] (iI K):=by
 obtain⟨Af1,Af2,Af3,Af4,Af5,Af6,Af7,Af8,Af9,Af10,Af11,Af12,Af13,Af14,Af15,Af16,Af17,Af18,Af19,Af20,Af21,Af22,Af23,Af24,⟨a0,_,F0⟩,_⟩:=zF;obtain⟨Am1,Am2,Am3,Am4,Am5,_⟩:=zM;obtain⟨a5,b5,d8,b3,a9,a6,d7,o3,d6,_⟩:=anI (p':=fun n=>mg n=none) (fun z=>PySem.W.mg_none_of X G z) zN;have e:=hfa.symm.trans (z5 X G a0);cases e;obtain⟨oc,od,kV,dc,pm,an,cd,ct,sl,rfl,l0,c0⟩:=id F0.ex;have e8:=z5 X G h9;have j8:=z5 X G m6;have i5:=z5 X G j4;have b9:=z5 X G j5;have o5:=z5 X G m8;have i3:Cls K C_Reader:=⟨k8,k9,l5,l7⟩
 have j7:Txt K C_Reader:=⟨i3,h8,i7⟩
 have m7:Tab K j3 FT:=⟨t_FOLLOWING⟩
 have n6:=z5 X G o1;have hK:∀H,SqT K H n5 (bf.map V.str):=fun _=>.inr t_KEYS;refine⟨PySem.W.fnOf "law" "law" (br eX) (ba eX) (ag eX) .none kV dc pm an cd ct,fun s v=>.of_eq rfl,fun base _ _=>?_⟩;have B:Bx l.prog w K mg base h:=⟨X,G⟩
 have b7:=mkF B Af1 fun F=>ir F a6 d7 e8 j8;have g0:=mkF B Af2 fun F=>fX F b7 a6;have j9:=mkF B Af3 fun F=>kL F b5;have d3:=mkF B Af4 fun F=>en F dg b3;have i9:=mkF B Af5 fun F=>iu F b7 g0;have d5:=mkF B Af6 fun F=>fc F j9 b5;have b8:=mkF B Af7 fun F=>jH F a6 a9;have k7:=mkC B i3 o5 l8 l9 Am1 fun F=>gI F j7;have c6:=mkM B i3 Am2 fun F=>dJ F j7 a6;have c8:=mkM B i3 Am3 fun F=>gH F j7 c6;have b6:=mkM B i3 Am4 fun F=>fW F j7;have a8:=mkM B i3 Am5 fun F=>fE F c8 b6;have j0:=mkF B Af8 fun F=>iw F i9 d5 c8 b6 b9 m7;have RO_:∀n,Fn l.prog w K mg base (3*n+3) "read_one" ["reader","depth"] (spR C_Reader (RO n)):=fun n=>by
  induction n with
  |zero=>exact mkF B Af9 fun _=>gy fun _ _ _ _ z=>by obtain⟨_,_,_,_,_,_,_,_,_,z,_⟩:=z;exact z
  |succ n ih =>have e1:=mkF B Af10 fun F=>eh (k:=3*n+3) (by omega) F ih a8 b8;have e2:=mkF B Af11 fun F=>ei (k:=3*n+4) (by omega) F e1 a8 b8;exact mkF B Af9 fun F=>jI (k:=3*n+3) (by omega) F ih e2 j0 a8 c8 b6 i5
 have i4:=mkF B Af10 fun F=>eh (k:=42) (by omega) F (RO_ 13) a8 b8;have d4:=mkF B Af11 fun F=>ei (k:=43) (by omega) F i4 a8 b8;have a7:=mkF B Af12 fun F=>fF (k:=44) (by omega) F k7 d4 a8 c8 b6 c6 n6 hK;have WC_:∀n,Fn l.prog w K mg base (2*n+1) "written_condition" ["condition"] (spWC n):=fun n=>by
  induction n with
  |zero=>exact mkF B Af13 fun _=>gy fun _ _ _ _ z=>by obtain⟨_,_,_,_,_,z,_⟩:=z;cases z
  |succ n ih=>exact mkF B Af13 fun F=>dL (k:=2*n+2) (by omega) F (mkF B Af14 fun F=>fe F ih) d3 b9 m7 dg b3
 have d0:=mkF B Af15 fun F=>dS F (WC_ 63);have LN_:∀n,Fn l.prog w K mg base (2*n+1) "_law_line" ["_law_condition"] (spWC n):=fun n=>by
  induction n with
  |zero=>exact mkF B Af16 fun _=>gy fun _ _ _ _ z=>by obtain⟨_,_,_,_,_,z,_⟩:=z;cases z
  |succ n ih=>exact mkF B Af16 fun F=>pw (k:=2*n+2) (by omega) F (mkF B Af17 fun F=>nE F ih) dg b3 a6
 have j6:=LN_ 63;have AL_:∀n,Fn l.prog w K mg base (n+2) "_law_alike" ["_law_found","_law_due"] (df n):=fun n=>by
  induction n with
  |zero=>exact mkF B Af18 fun F=>lZ F (mkF (k:=1) (ps:=["_law_found","_law_due"]) (sp:=kf) B Af18 fun _=>mY) a5 a9 b3 b5 d8 a6 d7 d6
  |succ n ih=>exact mkF B Af18 fun F=>ma F ih a5 a9 b3 b5 d8 a6 d7 d6
 have b4:=AL_ 127;have i6:=mkF B Af19 fun F=>kK F a6;have d9:=mkF B Af20 fun F=>pr F a6 b5;have j2:=mkF B Af21 fun F=>pv F;have n4:=mkF B Af22 fun F=>nC F j2 d9 a6 o3 a9;have n8:=mkF B Af23 fun F=>px F n4 d9 a6 a9;have d2:=mkF B Af24 fun F=>dR (k:=129) (by omega) F j2 a7 b4;exact qG F0 i6 n8 j6 d0 a7 b4 d9 d2 a5 b3
theorem tE{l:PySem.W.OpenLaw}{q:Program}{loose:List Str}{XP:(Str->Option Value)->Heap->Prop}{YP:World->Heap->Prop}{d:DefRec}{K:Params->PySem.W.Frag}(hn:l.most=some 63)(hdf:d.params.defaults=[])(hY:∀ (w:World) (h:Heap),YP w h->(K w.params).In h)(F:∀ (w:World) (mg:Str->Option Value) (fa:Addr) (h:Heap),(K w.params).In h->h.Ns mainGlobals mg->mg d.name=some (.ref fa) ->
   ∃ fd:FuncData,(∀ (s:Shared) (u:Value),BindsTo s fd ⟨[u],[]⟩ [("_law_script",u)])/\∀ base:Heap,(K w.params).In base->base.Ns mainGlobals mg->FnOk l.prog w (K w.params) mg base CX0 131 fa fd ["_law_script"] (iI (K w.params))) :
  PySem.W.WalkO q loose XP YP l.row.toRowW d [] (fun f vs=>PySem.call f vs) :=
 L2.qc (n:=63) (k:=131) (x:="_law_script") (CX:=fun _=>CX0) (sp:=fun w=>iI (K w.params)) hn (by decide) hdf ⟨rfl,by decide,by decide⟩ hY F (fun _ _ a ns hl _ hS=>⟨a,ns,rfl,hS,hl,fun _=>rfl⟩) fun _ _ _ _ _ z=>z
end K52
namespace PySem.W.Fast
def tw4507200311914739047:=()
def tw7149167240149948807:=()
def tw9464920822075717236:=()
def tw484799902170964674:=()
def tw5054586247496990978:=()
def tw12215795219840695229:=()
def tw13563981581136446602:=()
def tw3021234085260124503:=()
def tw240962235561029256:=()
def tw3538018527643463588:=()
def tw7084625647679861702:=()
def tw1850290811000928065:=()
def tw16317741322455784591:=()
def tw13599751695372030422:=()
def tw5551725199357659308:=()
def tw2326911527260708105:=()
def tw9584837404816751323:=()
def tw6055176024655598943:=()
def tw7971932587816123686:=()
def tw14451743429890404365:=()
def tw8112754471546595863:=()
def tw14676779419031732737:=()
def tw5974986714015421272:=()
def tw2620833028432186040:=()
def tw2554077600358683430:=()
def tw3825259437364492934:=()
def tw15632818433647134244:=()
def tw12177056160812954857:=()
def tw2844246472335731244:=()
def tw9011587200318566277:=()
def tw8091904973151082455:=()
def tw1187964365736275251:=()
def tw6113567080331462819:=()
def tw12843843267798307187:=()
def tw11304401136187494790:=()
def tw15802558615804460075:=()
def tw7630036769270510405:=()
def tw6266732846919533836:=()
def tw17565190981951363467:=()
def tw12022660278522990672:=()
end PySem.W.Fast
open PySem PySem.W PyProof.Rows
set_option maxRecDepth 100000 in
set_option maxHeartbeats 0 in
theorem PySem.Challenge.cw_limb_k52_questions_written_and_read_holds : PySem.Challenge.rw_limb_k52_questions_written_and_read.Holds := by
  w_on; o_law; k_head; (case hw => w_witness2)
  k_fill
  refine K52.tE (l := PySem.Challenge.rw_limb_k52_questions_written_and_read) rfl rfl (fun w h Y => PySem.W.kIn_of Y) ?F
  case F =>
    intro w mg fa h KX G hmg
    refine' K52.ql KX G hmg ?m8 ?k8 ?k9 ?l5 ?l7 ?l8 ?l9 ?h8 ?i7 ?zF ?zM ?zN ?h9 ?m6 ?j4 ?j5 ?t_FOLLOWING ?dg ?o1 ?t_KEYS
    (case m8 => k_is)
    (case k8 => k_is)
    (case k9 => k_is)
    (case l5 => k_is)
    (case l7 => k_is)
    (case l8 => k_is)
    (case l9 => k_is)
    (case h8 => k_is)
    (case i7 => k_is)
    (case zF => (repeat refine K52.gf (by k_is) (by k_is) (by k_is) (by k_is) ?_); exact True.intro)
    (case zM => (repeat refine K52.gm (by k_is) (by k_is) (by k_is) (by k_is) (by k_is) ?_); exact True.intro)
    (case zN => (repeat refine K52.gn (by k_is) ?_); exact True.intro)
    (case h9 => k_is)
    (case m6 => k_is)
    (case j4 => k_is)
    (case j5 => k_is)
    (case t_FOLLOWING => rfl)
    (case dg => k_is)
    (case o1 => k_is)
    (case t_KEYS => exact ⟨_, _, _, rfl, rfl, rfl, by decide, .cons ⟨_, rfl⟩ (.cons ⟨_, rfl⟩ (.cons ⟨_, rfl⟩ (.cons ⟨_, rfl⟩ (.cons ⟨_, rfl⟩ .nil))))⟩)
