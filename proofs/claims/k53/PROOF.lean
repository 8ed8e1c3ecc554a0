import PyProof.Rows.All
import Wide.All
import OpenK.AllK
import Wide.FinOn
import PyProof.EqAt
import PyProof.EqKinds
import PyProof.TupleCall
import Lean
import PySem.Challenge.RW_limb_k53_no_question
def yn:=@if_pos
def ym:=@if_neg
def za:=@List.length_map
def zb:=@List.length_append
def zc:=@PySem.wpAny_bind
def zd:=@Nat.le_refl
def ze:=@List.mem_cons_of_mem
def zh:=@List.length_cons
def zi:=@List.mem_cons_self
def zj:=@PySem.Heap.get?_push_of_some
def zk:=@List.mem_singleton
def zl:=@List.mem_cons
def zm:=@Nat.le_trans
def zn:=@Bool.false_ne_true
def zo:=@PySem.Heap.lt_size
def zp:=@List.append_assoc
def zq:=@Nat.lt_of_lt_of_le
def zr:=@List.getElem?_eq_some_iff
def zt:=@Option.some.inj
def zu:=@PySem.wpAny_pure
def zv:=@List.size_toArray
def zw:=@Bool.and_eq_true
def zx:=@List.getElem?_eq_getElem
def zy:=@List.mem_append
def zA:=@List.map_cons
def zB:=@PySem.boot_len
def zC:=@Nat.ne_of_lt
def zD:=@List.length_drop
def zE:=@List.lookup_cons
def zG:=@PySem.W.mg_of
def zH:=@beq_iff_eq
def zI:=@PySem.Heap.get?_push_size
def zJ:=@List.map_append
def zK:=@List.not_mem_nil
def zL:=@List.getElem?_map
def zO:=@List.mem_append_right
def zP:=@Array.length_toList
def zQ:=@List.getElem?_append_right
def zR:=@List.all_eq_true
def zS:=@congrArg
def zT:=@List.append_nil
def zU:=@List.cons_append
def zV:=@PySem.W.kia_one
def zW:=@Nat.zero_le
def zX:=@List.append_eq_nil_iff
def zY:=@PySem.wpAny_mono
def zZ:=@PySem.wpAny_truthy_bool
def z4:=@PySem.strLen_append
def z5:=@Ne.symm
def z6:=@Array.all_toList
def z7:=@PySem.Heap.get?_update_other
def z8:=@List.length_take
def z9:=@Array.getD_eq_getD_getElem?
def Za:=@PySem.mem_of_lookup
def Zb:=@List.all_cons
def Zd:=@List.getD_eq_getElem?_getD
def Ze:=@Bool.and_true
def Zf:=@decide_eq_true_iff
def Zg:=@Int.emod_lt_of_pos
def Zh:=@List.drop_eq_getElem_cons
def Zi:=@Bool.eq_iff_iff
def Zj:=@List.mem_of_getElem?
def Zk:=@PySem.wpAny_loadPart_at
def Zl:=@or_false
def Zm:=@List.filter_cons
def Zn:=@Nat.le_of_lt
def Zo:=@List.mem_map
def Zq:=@List.length_replicate
def Zr:=@Int.emod_nonneg
def Zs:=@List.take_append_drop
def Zt:=@Nat.lt_irrefl
set_option Elab.async false
set_option linter.all false
set_option maxRecDepth 100000
set_option maxHeartbeats 2000000
local macro_rules | `(tactic| omega) => `(tactic| first | with_reducible first | assumption | exact Nat.le_of_lt (by assumption) | exact Nat.le_refl _ | exact Nat.lt_add_one _ | exact Nat.le_trans (by assumption) (by decide) | exact Nat.lt_of_lt_of_le (by assumption) (by decide) | exact Nat.sub_lt_sub_left (by assumption) (Nat.lt_add_one _) | exact Nat.le_antisymm (by assumption) (Nat.le_of_not_lt (by assumption)) | lia)
namespace L2
open PySem PySem.Spec PyProof.Rows
abbrev Key:=Sum Int Str
def rQ:Key->Value->Bool
 |.inl k,v=>Value.isInt k v
 |.inr x,v=>Value.isStrOf x v
def xN(w:World):Key->Int
 |.inl k=>hashInt k
 |.inr x=>hashStr w x
theorem ba:∀{k:Key} {v:Value},rQ k v=true->(∃i t,k=Sum.inl i/\v=Value.int i t)\/(∃x t,k=Sum.inr x/\v=Value.str x t)
 |.inl i,v,h=>by obtain⟨t,e⟩:=Value.isInt_shape (k:=i) (v:=v) h;exact .inl ⟨i,t,rfl,e⟩
 |.inr x,v,h=>by obtain⟨t,e⟩:=Value.isStrOf_shape (x:=x) (v:=v) h;exact .inr ⟨x,t,rfl,e⟩
theorem uQ(a b:Int):decide ((Sum.inl a:Key)=Sum.inl b)=(a==b):=by
 by_cases e:a=b
 ·subst e;simp
 ·have h:¬(Sum.inl a:Key)=Sum.inl b:=fun q=>e (Sum.inl.inj q);rw[decide_eq_false h];exact(beq_eq_false_iff_ne.mpr e).symm
theorem uU(a b:Str):decide ((Sum.inr a:Key)=Sum.inr b)=decide (a=b):=by
 by_cases e:a=b
 ·subst e;simp
 ·have h:¬(Sum.inr a:Key)=Sum.inr b:=fun q=>e (Sum.inr.inj q);rw[decide_eq_false h,decide_eq_false e]
theorem uR(a:Int)(b:Str):decide ((Sum.inl a:Key)=Sum.inr b)=false:=decide_eq_false (fun q=>nomatch q)
theorem uT(a:Str)(b:Int):decide ((Sum.inr a:Key)=Sum.inl b)=false:=decide_eq_false (fun q=>nomatch q)
def gw(prog:Program)(w:World):PySem.KeyKind prog w Key where
 is:=rQ
 hash:=xN w
 inj:=fun v a b ha hb=>by
  rcases ba ha with⟨i,t,rfl,rfl⟩|⟨x,t,rfl,rfl⟩
  ·rcases ba hb with⟨j,u,rfl,e⟩|⟨y,u,rfl,e⟩
   ·injection e with e1 _;rw[e1]
   ·exact nomatch e
  ·rcases ba hb with⟨j,u,rfl,e⟩|⟨y,u,rfl,e⟩
   ·exact nomatch e
   ·injection e with e1 _;rw[e1]
 byValue:=fun k v h=>by rcases ba h with⟨i,t,rfl,rfl⟩|⟨x,t,rfl,rfl⟩<;>rfl
 pyHash:=fun hv h=>by
  rcases ba hv with⟨i,t,rfl,rfl⟩|⟨x,t,rfl,rfl⟩
  ·exact wpAny_pyHash_int h
  ·exact wpAny_pyHash_str h
 eqBool:=fun hu hv h=>by
  rcases ba hu with⟨i,t,rfl,rfl⟩|⟨x,t,rfl,rfl⟩
  ·rcases ba hv with⟨j,u,rfl,rfl⟩|⟨y,u,rfl,rfl⟩
   ·rw[uQ]at h;exact wpAny_eqBool_int h
   ·rw[uR]at h;exact SeqAt.EqAt.int_str i t y u _ _ _ _ h
  ·rcases ba hv with⟨j,u,rfl,rfl⟩|⟨y,u,rfl,rfl⟩
   ·rw[uT]at h;exact SeqAt.EqAt.str_int x t j u _ _ _ _ h
   ·rw[uU]at h;exact wpAny_eqBool_str h
 «strs»:=fun k x t v h=>by
  rcases ba h with⟨i,u,rfl,e⟩|⟨y,u,rfl,e⟩
  ·exact nomatch e
  ·injection e with e1 _;subst e1;cases v<;>rfl
open PySem PySem.Spec PyProof.Rows
inductive V where
 |non|bl (b:Bool)|int (i:Int)|str (x:Str)|byt (b:Array UInt8)|flt (b:UInt64)|ref (a:Addr)|ty (n:String)
 deriving DecidableEq
def RelV:V->Value->Prop
 |.non,u=>u=Value.none
 |.bl b,u=>u=Value.bool b
 |.int i,u=>∃t,u=Value.int i t
 |.str x,u=>∃t,u=Value.str x t
 |.byt b,u=>∃t,u=Value.bytes b t
 |.flt b,u=>∃t,u=Value.float b t
 |.ref a,u=>u=Value.ref a
 |.ty n,u=>u=Value.type n
abbrev Vals:List V->List Value->Prop:=Paired RelV
theorem Vals.length{xs:List V}{us:List Value}(r:Vals xs us):xs.length=us.length:=Paired.length r
theorem Vals.get:∀{xs:List V} {us:List Value} {i:Nat} {x:V},Vals xs us->xs[i]?=some x->∃u,us[i]?=some u/\RelV x u
 |_,_,_,_,.nil,e=>by simp at e
 |_,_,0,_,.cons r _,e=>by simp at e;subst e;exact⟨_,rfl,r⟩
 |_,_,i+1,x,.cons _ t,e=>by obtain⟨u,h1,h2⟩:=Vals.get (i:=i) (x:=x) t (by simpa using e);exact⟨u,by simpa using h1,h2⟩
theorem Vals.append:∀{xs ys:List V} {us ws:List Value},Vals xs us->Vals ys ws->Vals (xs++ys) (us++ws)
 |_,_,_,_,.nil,s=>s
 |_,_,_,_,.cons r t,s=>.cons r (Vals.append t s)
theorem Vals.take:∀{xs:List V} {us:List Value} (n:Nat),Vals xs us->Vals (xs.take n) (us.take n)
 |_,_,0,_=>.nil
 |_,_,_+1,.nil=>.nil
 |_,_,n+1,.cons r t=>.cons r (Vals.take n t)
theorem Vals.drop:∀{xs:List V} {us:List Value} (n:Nat),Vals xs us->Vals (xs.drop n) (us.drop n)
 |_,_,0,r=>r
 |_,_,_+1,.nil=>.nil
 |_,_,n+1,.cons _ t=>Vals.drop n t
def RelO:Option V->Option Value->Prop
 |some v,some u=>RelV v u
 |none,none=>True
 |_,_=>False
def KV{κ:Type}:List (κ×V)->List (κ×Value)->Prop:=Paired fun(p:κ×V) (q:κ×Value)=>p.1=q.1/\RelV p.2 q.2
def kV:Key->V
 |.inl i=>.int i
 |.inr x=>.str x
inductive HO where
 |lst (xs:List V)
 |tup (xs:List V)
 |dK (kvs:List (Key×V))|dT (kvs:List (List Key×V))
 |set (S:Int->Bool)(n:Nat)
 |ins (C dx:Addr)(fs:List (Str×V))
 |own (x:Addr)
 |xd (fs:List (Str×V))
 |met (f x:Addr)
 |rng (lo hi:Int)
 |frz (o:Obj)(u:HO)
 |tbl (ps:Array Value)
 |ext (φ:Heap->Prop)
abbrev Hp:=Addr->Option HO
def upd(H:Hp)(a:Addr)(o:HO):Hp:=fun b=>if b=a then some o else H b
theorem aa{H:Hp}{a:Addr}{o:HO}:upd H a o a=some o:=by unfold upd;rw[yn rfl]
theorem ag{H:Hp}{a b:Addr}{o:HO}(h:b≠a):upd H a o b=H b:=by unfold upd;rw[ym h]
theorem ax{H:Hp}{a b:Addr}{o:HO}(h:H a=some o)(h':H b=none):a≠b:=by intro e;subst e;rw[h]at h';cases h'
section
variable(P:Program)(w:World)
def ObjOk(H:Hp)(h:Heap)(a:Addr):HO->Prop
 |.lst xs=>xs.length<=sizeLine/\∃(its:List Value) (n:Nat),Vals xs its/\h.get? a=some { cls:=.type "list",data:=.seq its.toArray n }
 |.tup xs=>xs.length<=sizeLine/\∃its:List Value,Vals xs its/\IsTup h a its.toArray
 |.dK kvs=>kvs.length<=sizeLine/\(a==sysModules)=false/\∃vs,KV kvs vs/\h.DictOf (gw P w) a vs
 |.dT kvs=>kvs.length<=sizeLine/\(a==sysModules)=false/\∃xs:List (List Key×Addr×Value),
   Paired (fun(p:List Key×V) (q:List Key×Addr×Value)=>p.1=q.1/\H q.2.1=some (.tup (p.1.map kV))/\RelV p.2 q.2.2) kvs xs /\
   ∃o es ep,h.get? a=some o/\o.ExactDict/\o.data=.dict es ep/\es.toList=xs.map (entryOfKey (tupleKind (gw P w)))/\(xs.map (·.1)).Nodup
 |.set S n=>h.SetOf (intKind P w) a S n
 |.ins C dx fs=>H dx=some (.own a)/\fs.length<=1000/\dx≠a/\h.get? a=some (PySem.W.instObj C dx) /\
   ∃mA,h.Ns1 dx mA/\(∀f,RelO (fs.lookup f) (mA f))/\PySem.Within mA (fs.map (·.1))
 |.own _=>∃o,h.get? a=some o
 |.xd fs=>∃mA,h.Ns1 a mA/\∀f,RelO (fs.lookup f) (mA f)
 |.rng lo hi=>∃t u v,h.get? a=some { cls:=.type "range",data:=.fields #[.int lo t,.int hi u,.int 1 v] }
 |.frz o u=>h.get? a=some o/\ObjOk H h a u
 |.tbl ps=>h.get? a=some { cls:=.none,data:=.fields ps }
 |.met f x=>h.get? a=some (PySem.W.methodObj (.ref f) (.ref x))
 |.ext φ=>φ h/\(∃o,h.get? a=some o)/\∀h1 h2:Heap,φ h1->(∀o,h1.get? a=some o->h2.get? a=some o)->φ h2
def HOk(H:Hp)(h:Heap):Prop:=∀a o,H a=some o->ObjOk P w H h a o
end
section
variable{P:Program}{w:World}{H H':Hp}{h h':Heap}{a:Addr}{o:HO}
theorem ObjOk.lt(x:ObjOk P w H h a o):a<h.objs.size:=by
 cases o with
 |lst xs=>obtain⟨_,_,_,_,e⟩:=x;exact zo e
 |tup xs=>obtain⟨_,_,_,p⟩:=x;exact p.lt
 |dK kvs=>obtain⟨_,_,_,_,o,_,_,e,_⟩:=x;exact zo e
 |dT kvs=>obtain⟨_,_,_,_,o,_,_,e,_⟩:=x;exact zo e
 |set S n=>obtain⟨o,_,_,_,e,_⟩:=x;exact zo e
 |ins C dx fs=>obtain⟨_,_,_,e,_⟩:=x;exact zo e
 |own y=>obtain⟨_,e⟩:=x;exact zo e
 |xd fs=>obtain⟨_,⟨_,_,_,e,_⟩,_⟩:=x;exact zo e
 |rng lo hi=>obtain⟨_,_,_,e⟩:=x;exact zo e
 |frz ob u=>obtain⟨e,_⟩:=x;exact zo e
 |tbl ps=>exact zo (show h.get? a=some _ from x)
 |met f y=>exact zo (show h.get? a=some _ from x)
 |ext φ=>obtain⟨_,⟨_,e⟩,_⟩:=x;exact zo e
theorem Paired.mapP{α β:Type}{F G:α->β->Prop}:∀{l₁:List α} {l₂:List β},Paired F l₁ l₂->(∀a b,F a b->G a b)->Paired G l₁ l₂
 |_,_,.nil,_=>.nil
 |_,_,.cons r t,f=>.cons (f _ _ r) (Paired.mapP t f)
theorem ObjOk.stay(x:ObjOk P w H h a o)(k:∀b u,(b=a\/H b=some (.own a))->h.get? b=some u->h'.get? b=some u)(ho:∀b,H b=some (.own a)->H' b=some (.own a))(ht:∀b xs,H b=some (.tup xs)->H' b=some (.tup xs)):ObjOk P w H' h' a o:=by
 induction o with
 |lst xs=>obtain⟨z,its,n,r,e⟩:=x;exact⟨z,its,n,r,k _ _ (.inl rfl) e⟩
 |tup xs=>obtain⟨z,its,r,ob,e,c⟩:=x;exact⟨z,its,r,ob,k _ _ (.inl rfl) e,c⟩
 |dK kvs=>obtain⟨z,y,vs,r,ob,es,ep,e,c⟩:=x;exact⟨z,y,vs,r,ob,es,ep,k _ _ (.inl rfl) e,c⟩
 |dT kvs =>obtain⟨z,y,xs,r,ob,es,ep,e,c⟩:=x;exact⟨z,y,xs,Paired.mapP r fun p q z=>⟨z.1,ht _ _ z.2.1,z.2.2⟩,ob,es,ep,k _ _ (.inl rfl) e,c⟩
 |set S n=>obtain⟨ob,es,ep,t,e,c⟩:=x;exact⟨ob,es,ep,t,k _ _ (.inl rfl) e,c⟩
 |ins C dx fs =>obtain⟨d,z,ne,e,mA,⟨od,es,ep,e2,c⟩,r⟩:=x;exact⟨ho _ d,z,ne,k _ _ (.inl rfl) e,mA,⟨od,es,ep,k _ _ (.inr d) e2,c⟩,r⟩
 |own y=>obtain⟨ob,e⟩:=x;exact⟨ob,k _ _ (.inl rfl) e⟩
 |xd fs=>obtain⟨mA,⟨od,es,ep,e,c⟩,r⟩:=x;exact⟨mA,⟨od,es,ep,k _ _ (.inl rfl) e,c⟩,r⟩
 |rng lo hi=>obtain⟨t,u,v,e⟩:=x;exact⟨t,u,v,k _ _ (.inl rfl) e⟩
 |frz ob u ih=>obtain⟨e,q⟩:=x;exact⟨k _ _ (.inl rfl) e,ih q⟩
 |tbl ps =>have e:h.get? a=some { cls:=.none,data:=.fields ps }:=x;show h'.get? a=some { cls:=.none,data:=.fields ps };exact k a _ (.inl rfl) e
 |met f y =>have e:h.get? a=some (PySem.W.methodObj (.ref f) (.ref y)):=x;show h'.get? a=some (PySem.W.methodObj (.ref f) (.ref y));exact k a _ (.inl rfl) e
 |ext φ=>obtain⟨p,⟨o,e⟩,st⟩:=x;exact⟨st _ _ p fun o q=>k _ _ (.inl rfl) q,⟨o,k _ _ (.inl rfl) e⟩,st⟩
theorem HOk.lt(x:HOk P w H h)(e:H a=some o):a<h.objs.size:=(x a o e).lt
theorem HOk.fresh(x:HOk P w H h)(e:h.objs.size<=a):H a=none:=by
 cases q:H a with
 |none=>rfl
 |some u=>exact absurd (zq (x.lt q) e) (Zt _)
theorem HOk.kept(x:HOk P w H h)(k:∀b u,h.get? b=some u->h'.get? b=some u):HOk P w H h':=fun a o e =>
 (x a o e).stay (fun b u _ q=>k b u q) (fun _ q=>q) fun _ _ q=>q
theorem HOk.laid(x:HOk P w H h)(k:∀b u,h.get? b=some u->h'.get? b=some u)(hp:h.objs.size<=a)(new:ObjOk P w (upd H a o) h' a o):HOk P w (upd H a o) h':=fun b u e=>by
 have hn:=x.fresh hp;by_cases hb:b=a
 ·subst hb;rw[aa]at e;cases e;exact new
 ·rw[ag hb]at e;exact(x b u e).stay (fun c v _ q=>k c v q) (fun c q=>by rw[ag (ax q hn)];exact q) fun c xs q=>by rw[ag (ax q hn)];exact q
end
def Rd(H:Hp)(a:Addr)(u:HO):Prop:=H a=some u\/∃o,H a=some (.frz o u)
theorem Rd.ok{P:Program}{w:World}{H:Hp}{h:Heap}{a:Addr}{u:HO}(r:Rd H a u)(x:HOk P w H h):ObjOk P w H h a u:=by
 rcases r with r|⟨o,r⟩
 ·exact x a u r
 ·obtain⟨_,q⟩:=x a _ r;exact q
def Mut:Option HO->Prop
 |some (.lst _)=>True
 |some (.dK _)=>True
 |some (.dT _)=>True
 |some (.set _ _)=>True
 |some (.ins _ _ _)=>True
 |some (.ext _)=>True
 |_=>False
section
variable{P:Program}{w:World}{H:Hp}{h h':Heap}{x e:Addr}{o':HO}
theorem HOk.write(ok:HOk P w H h)(mu:Mut (H x))(he:e=x\/H e=some (.own x))(k:∀b u,b≠e->h.get? b=some u->h'.get? b=some u)(heo:∃u,h'.get? e=some u)(new:ObjOk P w (upd H x o') h' x o'):HOk P w (upd H x o') h':=fun b u q=>by
 have nown:∀c y,H c=some (.own y)->c≠x:=fun c y r z=>by subst z;rw[r]at mu;exact mu
 have ntup:∀c xs,H c=some (.tup xs)->c≠x:=fun c xs r z=>by subst z;rw[r]at mu;exact mu
 by_cases hb:b=x
 ·subst hb;rw[aa]at q;cases q;exact new
 ·rw[ag hb]at q;by_cases hbe:b=e
  ·have q':H b=some (.own x):=by
    rcases he with z|z
    ·exact absurd (hbe.trans z) hb
    ·rw[hbe];exact z
   rw[q]at q';cases q';obtain⟨v,hv⟩:=heo;exact⟨v,by rw[hbe];exact hv⟩
  ·refine(ok b u q).stay (fun c v hc r=>k c v ?_ r) (fun c r=>by rw[ag (nown c b r)];exact r) fun c xs r=>by rw[ag (ntup c xs r)];exact r
   rcases hc with rfl|hc
   ·exact hbe
   ·rintro rfl;rcases he with z|z
    ·exact nown c b hc z
    ·rw[hc]at z;cases z;exact hb rfl
end
structure Un(fs ex:List Addr)(H H':Hp)(h h':Heap):Prop where
 keep:∀b o,h.get? b=some o->H b=none->b∉fs->b∉ex->h'.get? b=some o
 slot:∀b o,h.get? b=some o->H b=none->b∈fs->b∉ex->∃sl,h'.get? b=some { o with slots:=sl }
 free:∀b o,h.get? b=some o->H b=none->b∉ex->H' b=none
 there:∀b o,h.get? b=some o->b∉ex->∃o',h'.get? b=some o'
 tups:∀b xs,H b=some (.tup xs)->H' b=some (.tup xs)
 frzs:∀b o u,H b=some (.frz o u)->H' b=some (.frz o u)
 tbls:∀b ps,H b=some (.tbl ps)->∃more,H' b=some (.tbl (ps++more))
section
variable{fs fs' ex ex':List Addr}{H H1 H2:Hp}{h h1 h2 h':Heap}{a x e:Addr}{o:HO}
theorem Un.any(u:Un fs ex H H1 h h1){b:Addr}{ob:Obj}(q:h.get? b=some ob)(n:H b=none)(hx:b∉ex):∃sl,h1.get? b=some { ob with slots:=sl }:=by
 by_cases hb:b∈fs
 ·exact u.slot b ob q n hb hx
 ·exact⟨ob.slots,u.keep b ob q n hb hx⟩
theorem Un.kept(k:∀b u,h.get? b=some u->h'.get? b=some u):Un fs ex H H h h' :=
 ⟨fun b ob q _ _ _=>k b ob q,fun b ob q _ _ _=>⟨ob.slots,k b ob q⟩,fun _ _ _ n _=>n,fun b ob q _=>⟨ob,k b ob q⟩,fun _ _ q=>q,fun _ _ _ q=>q,fun _ ps q=>⟨#[],by rw[q];simp⟩⟩
theorem Un.refl:Un fs ex H H h h:=Un.kept fun _ _ q=>q
theorem Un.laid(k:∀b u,h.get? b=some u->h'.get? b=some u)(hp:h.objs.size<=a)(hn:H a=none):Un fs ex H (upd H a o) h h' where
 keep:=fun b u q _ _ _=>k b u q
 slot:=fun b u q _ _ _=>⟨u.slots,k b u q⟩
 free:=fun b u q n _=>by rw[ag (zC (zq (zo q) hp))];exact n
 there:=fun b u q _=>⟨u,k b u q⟩
 tups:=fun b xs q=>by rw[ag (ax q hn)];exact q
 frzs:=fun b u xs q=>by rw[ag (ax q hn)];exact q
 tbls:=fun b ps q=>⟨#[],by rw[ag (ax q hn),q];simp⟩
theorem Un.write(mu:Mut (H x))(he:e=x\/H e=some (.own x))(k:∀b u,b≠e->h.get? b=some u->h'.get? b=some u)(heo:∃u,h'.get? e=some u):Un fs ex H (upd H x o) h h':=by
 have hx:∀b,H b=none->b≠x:=fun b n z=>by subst z;rw[n]at mu;exact mu
 have hb:∀b,H b=none->b≠e:=fun b n z=>by
  subst z;rcases he with r|r
  ·exact hx b n r
  ·rw[n]at r;cases r
 have hm:∀b u,H b=some u->¬Mut (some u)->b≠x:=fun b u q nm z=>by subst z;rw[q]at mu;exact nm mu
 refine⟨fun b u q n _ _=>k b u (hb b n) q,fun b u q n _ _=>⟨u.slots,k b u (hb b n) q⟩,fun b u q n _=>by rw[ag (hx b n)];exact n,fun b u q _=>?_,
  fun b xs q=>by rw[ag (hm b _ q fun z=>z)];exact q,fun b u xs q=>by rw[ag (hm b _ q fun z=>z)];exact q,fun b ps q=>⟨#[],by rw[ag (hm b _ q fun z=>z),q];simp⟩⟩
 by_cases hbe:b=e
 ·subst hbe;exact heo
 ·exact⟨u,k b u hbe q⟩
end
def trk(h:Heap)(H:Hp):List Addr:=(List.range h.objs.size).filter fun a=>(H a).isSome
def fh(h:Heap)(H:Hp):Heap:=PySem.W.hideAll h (trk h H)
theorem oX(h:Heap)(H:Hp):(fh h H).objs.size=h.objs.size:=PySem.W.hideAll_size _ _
theorem qH{h:Heap}{H:Hp}{b:Addr}{o:Obj}(e:h.get? b=some o)(n:H b=none):(fh h H).get? b=some o :=
 PySem.W.hideAll_get _ e fun hm=>by have q:(H b).isSome=true:=(List.mem_filter.mp hm).2;rw[n]at q;simp at q
theorem sT{h:Heap}{H:Hp}{b:Addr}{o:Obj}(e:(fh h H).get? b=some o):h.get? b=some o/\H b=none:=by
 have e':h.get? b=some o:=PySem.W.of_hideAll (trk h H) e;refine⟨e',?_⟩;cases q:H b with
 |none=>rfl
 |some x =>have hm:b∈trk h H:=List.mem_filter.mpr ⟨List.mem_range.mpr (zo e'),by simp[q]⟩;have z:(fh h H).get? b=none:=PySem.W.hideAll_none (trk h H) hm;rw[z]at e;cases e
open PySem PySem.Spec PyProof.Rows
structure Mod(K:PySem.W.Frag)(mg:Str->Option Value)(base:Heap):Prop where
 kin:K.In base
 glob:base.Ns mainGlobals mg
 blt:∃mb,base.Ns builtinsNs mb/\∀x:Str,x≠"__name__"->mb x=bootBuiltins x
 nolimit:base.NoLimit
structure Cx where
 prog:Program
 w:World
 K:PySem.W.Frag
 mg:Str->Option Value
 base:Heap
 A:Around
 N:List Str
 s₀:Shared
 H₀:Hp
 env:Env
 outer:List Env
 stack:List Env
 ex:List Addr
 fn:Str->Bool
 calm:Bool
 pn:List (Addr×Obj)
 xe:Value->Shared->Prop
def frs(l:List Env):List Addr:=l.filterMap (·.frame)
abbrev Cx.fs(X:Cx):List Addr:=frs X.outer
def Vis(sc:Scope)(x:Str):Prop:=sc.names.lookup x=some .local\/sc.names.lookup x=some .cell\/sc.names.lookup x=some .free
def Loc(sc:Scope)(x:Str):Prop:=sc.names.lookup x=some .local\/sc.names.lookup x=some .cell
def xH(env:Env)(h:Heap)(m:Str->Option Value)(x:Str)(u:Value):Prop :=
 (env.kindOf x=some .local/\m x=some u)\/((env.kindOf x=some .cell\/env.kindOf x=some .free)/\∃c,env.cells.lookup x=some c/\h.IsCell c (some u))
structure Cx.Ok(X:Cx):Prop where
 mod:Mod X.K X.mg X.base
 kind:X.env.scope.kind=.function
 glob:X.env.globals=mainGlobals
 blt:X.env.builtins=builtinsNs
 above:X.s₀.heap.objs.size<=X.env.locals
 inj:∀x y c,X.env.cells.lookup x=some c->X.env.cells.lookup y=some c->x=y
 has:∀x,(X.env.kindOf x=some .cell\/X.env.kindOf x=some .free)->∃c,X.env.cells.lookup x=some c
 cab:∀x c,X.fn x=true->X.env.cells.lookup x=some c->X.s₀.heap.objs.size<=c
 hd:X.calm=true->X.A.handled=none
 frames:X.A.frames=some X.stack
 stk:X.stack=X.outer\/(X.stack=X.env::X.outer/\X.env.frame=some X.env.locals)
 exf:∀b∈X.ex,b≠X.env.locals/\∀x c,X.env.cells.lookup x=some c->c≠b
 bs:∀b o,X.base.get? b=some o->X.s₀.heap.get? b=some o/\X.H₀ b=none
 bsz:X.base.objs.size<=X.s₀.heap.objs.size
 noex:∀b o,X.base.get? b=some o->b∉X.ex
 exfs:∀b∈X.ex,b∉X.fs
 funs:X.s₀.heap.FunFrames X.base X.outer
 frf:∀b∈X.fs,X.H₀ b=none
structure Inv(X:Cx)(pins:List (Addr×Obj))(σ:List (Option V))(H:Hp)(s:Shared):Prop where
 ok:X.Ok
 os:s.os=X.s₀.os
 bare:AllBare s.gens
 base:Un X.fs X.ex X.H₀ H X.s₀.heap s.heap
 loc:∃m,s.heap.Ns X.env.locals m/\∀(i:Nat) (x:Str) (v:V),X.N[i]?=some x->σ[i]?=some (some v)->Vis X.env.scope x->∃u,RelV v u/\xH X.env s.heap m x u
 cell:∀x c,X.env.cells.lookup x=some c->∃v,s.heap.IsCell c v
 free:H X.env.locals=none
 freeC:∀x c,X.env.cells.lookup x=some c->H c=none
 pin:∀p∈X.pn++pins,s.heap.get? p.1=some p.2/\H p.1=none/\p.1≠X.env.locals/\p.1∉X.fs/\∀v,p.2.data≠.cell v
 hok:HOk X.prog X.w H s.heap
 len:σ.length=X.N.length
section
variable{X:Cx}{pins:List (Addr×Obj)}{σ:List (Option V)}{H H':Hp}{s:Shared}{h':Heap}
theorem Cx.Ok.nofr(ok:X.Ok){b:Addr}{o:Obj}(e:X.base.get? b=some o):b∉X.fs:=fun hb=>by have:=(ok.funs.mem hb).1;rw[e]at this;cases this
theorem Inv.bs(I:Inv X pins σ H s):∀b o,X.base.get? b=some o->s.heap.get? b=some o/\H b=none:=fun b o e =>
 ⟨I.base.keep b o (I.ok.bs b o e).1 (I.ok.bs b o e).2 (I.ok.nofr e) (I.ok.noex b o e),I.base.free b o (I.ok.bs b o e).1 (I.ok.bs b o e).2 (I.ok.noex b o e)⟩
theorem Inv.bk(I:Inv X pins σ H s):∀b o,X.base.get? b=some o->s.heap.get? b=some o:=fun b o e=>(I.bs b o e).1
theorem Inv.mod(I:Inv X pins σ H s):Mod X.K X.mg X.base:=I.ok.mod
theorem Inv.kIn(I:Inv X pins σ H s):X.K.In s.heap:=I.ok.mod.kin.keeps I.bk
theorem Inv.nolimit(I:Inv X pins σ H s):s.heap.NoLimit:=I.ok.mod.nolimit.keeps I.bk
theorem Inv.fr(I:Inv X pins σ H s):∃m,Fr X.base X.env.locals s.heap m :=
 let⟨m,hn,_⟩:=I.loc
 ⟨m,hn,I.bk,zm I.ok.bsz I.ok.above⟩
theorem Inv.lt(I:Inv X pins σ H s):X.env.locals<s.heap.objs.size:=let⟨_,hn,_⟩:=I.loc;hn.lt
theorem Inv.sz(I:Inv X pins σ H s):X.s₀.heap.objs.size<=s.heap.objs.size:=zm I.ok.above (Zn I.lt)
theorem Inv.nofs(I:Inv X pins σ H s){a:Addr}(h:s.heap.objs.size<=a):a∉X.fs:=fun hb=>by obtain⟨_,o,ho,_⟩:=I.ok.funs.mem hb;exact absurd (zq (zo ho) (zm I.sz h)) (Zt _)
theorem Inv.cne(I:Inv X pins σ H s):∀x c,X.env.cells.lookup x=some c->c≠X.env.locals:=fun x c e z=>by obtain⟨v,o,ho,hd⟩:=I.cell x c e;obtain⟨m,⟨o',es,ep,ho',hd',_⟩,_⟩:=I.loc;rw[z,ho']at ho;cases ho;rw[hd']at hd;cases hd
theorem Inv.funs(I:Inv X pins σ H s):s.heap.FunFrames X.base X.outer:=by
 have all:∀(l:List Env),(∀b∈frs l,b∈X.fs)->X.s₀.heap.FunFrames X.base l->s.heap.FunFrames X.base l:=by
  intro l;induction l with
  |nil=>intro _ _;trivial
  |cons env r ih =>intro hs hl;obtain⟨hk,⟨L,o,hf,hn,ho,hd⟩,hr⟩:=hl;have hL:L∈X.fs:=hs L (by unfold frs;rw[List.filterMap_cons,hf];exact zi);obtain⟨sl,e⟩:=I.base.slot L o ho (I.ok.frf L hL) hL fun z=>I.ok.exfs L z hL;exact⟨hk,⟨L,_,hf,hn,e,hd⟩,ih (fun b hb=>hs b (by unfold frs;rw[List.filterMap_cons,hf];exact ze _ hb)) hr⟩
 exact all X.outer (fun _ hb=>hb) I.ok.funs
theorem Inv.stack(I:Inv X pins σ H s):s.heap.FunFrames X.base X.stack:=by
 rcases I.ok.stk with e|⟨e,hf⟩
 ·rw[e];exact I.funs
 ·rw[e];obtain⟨m,hn,_⟩:=I.loc;refine .cons (by rw[I.ok.kind];decide) hf hn ?_ I.funs;exact Heap.get?_none_of_le (zm I.ok.bsz I.ok.above)
theorem Inv.stkSub(I:Inv X pins σ H s):∀b∈frs X.stack,b∈X.env.locals::X.fs:=fun b hb=>by
 rcases I.ok.stk with e|⟨e,hf⟩
 ·rw[e]at hb;exact ze _ hb
 ·rw[e]at hb;unfold frs at hb;rw[List.filterMap_cons,hf]at hb;exact hb
theorem Inv.stkFree(I:Inv X pins σ H s):∀b∈frs X.stack,H b=none:=fun b hb=>by
 rcases zl.mp (I.stkSub b hb)with e|hb
 ·rw[e];exact I.free
 ·obtain⟨_,o,ho,_⟩:=I.ok.funs.mem hb;exact I.base.free b o ho (I.ok.frf b hb) fun z=>I.ok.exfs b z hb
theorem Inv.step{g':Array GenState}{t':Nat}{d':Drawn}{ch:List Addr}(I:Inv X pins σ H s)(hch:∀b∈ch,(b∈X.ex\/X.s₀.heap.objs.size<=b)/\b≠X.env.locals/\(∀x c,X.env.cells.lookup x=some c->c≠b)/\∀p∈X.pn++pins,p.1≠b)(keep:∀b o,b≠X.env.locals->b∉X.fs->b∉ch->s.heap.get? b=some o->H b=none->h'.get? b=some o)(slot:∀b o,b≠X.env.locals->b∈X.fs->b∉ch->s.heap.get? b=some o->H b=none->∃sl,h'.get? b=some { o with slots:=sl })(free:∀b o,b∉ch->s.heap.get? b=some o->H b=none->H' b=none)(there:∀b o,b∉ch->s.heap.get? b=some o->∃o',h'.get? b=some o')(tups:∀b xs,H b=some (.tup xs)->H' b=some (.tup xs))(frzs:∀b o u,H b=some (.frz o u)->H' b=some (.frz o u))(tbls:∀b ps,H b=some (.tbl ps)->∃more,H' b=some (.tbl (ps++more)))(ns:∀m,s.heap.Ns X.env.locals m->h'.Ns X.env.locals m)(hok:HOk X.prog X.w H' h')(hg:AllBare g') :
  Inv X pins σ H' { s with heap:=h',gens:=g',drawn:=d',toks:=t' }:=by
 have neL:∀b o,X.s₀.heap.get? b=some o->b≠X.env.locals:=fun b o e=>zC (zq (zo e) I.ok.above);have neC:∀b o,X.s₀.heap.get? b=some o->b∉X.ex->b∉ch:=fun b o e hx hb=>by
  rcases(hch b hb).1 with z|z
  ·exact hx z
  ·exact absurd (zq (zo e) z) (Zt _)
 have cellK:∀x c,X.env.cells.lookup x=some c->∀v,s.heap.IsCell c v->h'.IsCell c v:=fun x c e v ⟨o,ho,hd⟩=>by
  have nch:c∉ch:=fun z=>(hch c z).2.2.1 x c e rfl;by_cases hc:c∈X.fs
  ·obtain⟨sl,q⟩:=slot c o (I.cne x c e) hc nch ho (I.freeC x c e);exact⟨_,q,hd⟩
  ·exact⟨o,keep c o (I.cne x c e) hc nch ho (I.freeC x c e),hd⟩
 refine⟨I.ok,I.os,hg,⟨fun b o e n hb hx=>?_,fun b o e n hb hx=>?_,fun b o e n hx=>?_,fun b o e hx=>?_,fun b xs e=>tups b xs (I.base.tups b xs e),fun b o xs e=>frzs b o xs (I.base.frzs b o xs e),fun b ps e=>?_⟩,?_,fun x c e=>?_,?_,fun x c e=>?_,fun p hp=>?_,hok,I.len⟩
 ·exact keep b o (neL b o e) hb (neC b o e hx) (I.base.keep b o e n hb hx) (I.base.free b o e n hx)
 ·obtain⟨sl,e1⟩:=I.base.slot b o e n hb hx;obtain⟨sl',e2⟩:=slot b _ (neL b o e) hb (neC b o e hx) e1 (I.base.free b o e n hx);exact⟨sl',e2⟩
 ·obtain⟨o',e1⟩:=I.base.there b o e hx;exact free b o' (neC b o e hx) e1 (I.base.free b o e n hx)
 ·obtain⟨o',e1⟩:=I.base.there b o e hx;exact there b o' (neC b o e hx) e1
 ·obtain⟨m1,e1⟩:=I.base.tbls b ps e;obtain⟨m2,e2⟩:=tbls b _ e1;exact⟨m1++m2,by rw[e2,Array.append_assoc]⟩
 ·obtain⟨m,hn,hl⟩:=I.loc;refine⟨m,ns m hn,fun i x v e1 e2 e3=>?_⟩;obtain⟨u,r,l⟩:=hl i x v e1 e2 e3;refine⟨u,r,?_⟩;rcases l with l|⟨k,c,e,z⟩
  ·exact .inl l
  ·exact .inr ⟨k,c,e,cellK x c e _ z⟩
 ·obtain⟨v,z⟩:=I.cell x c e;exact⟨v,cellK x c e v z⟩
 ·obtain⟨m,⟨o,_,_,ho,_⟩,_⟩:=I.loc;exact free _ o (fun z=>(hch _ z).2.1 rfl) ho I.free
 ·obtain⟨v,o,ho,hd⟩:=I.cell x c e;exact free c o (fun z=>(hch c z).2.2.1 x c e rfl) ho (I.freeC x c e)
 ·obtain⟨e,n,ne,nf,d⟩:=I.pin p hp;have nch:p.1∉ch:=fun z=>(hch p.1 z).2.2.2 p hp rfl;exact⟨keep p.1 p.2 ne nf nch e n,free p.1 p.2 nch e n,ne,nf,d⟩
theorem Inv.un{t':Nat}(I:Inv X pins σ H s)(u:Un X.fs [] H H' s.heap h')(hok:HOk X.prog X.w H' h'):Inv X pins σ H' { s with heap:=h',toks:=t' }:=by
 obtain⟨m,⟨o,es,ep,ho,r⟩,_⟩:=id I.loc;obtain⟨sl,hL⟩:=u.any ho I.free (by simp);exact I.step (g':=s.gens) (d':=s.drawn) (ch:=[]) (fun _ z=>nomatch z) (fun b o _ hb _ e n=>u.keep b o e n hb (by simp)) (fun b o _ hb _ e n=>u.slot b o e n hb (by simp)) (fun b o _ e n=>u.free b o e n (by simp)) (fun b o _ e=>u.there b o e (by simp)) u.tups u.frzs u.tbls (fun m' hm=>by
  obtain⟨o',es',ep',ho',r'⟩:=hm;rw[ho]at ho';cases ho';exact⟨_,es',ep',hL,r'⟩) hok I.bare
theorem Inv.call{g':Array GenState}{t':Nat}{d':Drawn}{ch:List Addr}(I:Inv X pins σ H s)(u:Un (frs X.stack) ch H H' s.heap h')(hok:HOk X.prog X.w H' h')(hg:AllBare g')(hch:∀b∈ch,(b∈X.ex\/X.s₀.heap.objs.size<=b)/\b≠X.env.locals/\(∀x c,X.env.cells.lookup x=some c->c≠b)/\∀p∈X.pn++pins,p.1≠b) :
  Inv X pins σ H' { s with heap:=h',gens:=g',drawn:=d',toks:=t' }:=by
 obtain⟨m,⟨o,es,ep,ho,r⟩,_⟩:=id I.loc;obtain⟨sl,hL⟩:=u.any ho I.free fun z=>(hch _ z).2.1 rfl;exact I.step (ch:=ch) hch (fun b o hL hb hc e n=>u.keep b o e n (fun z=>(zl.mp (I.stkSub b z)).elim hL hb) hc) (fun b o _ _ hc e n=>u.any e n hc) (fun b o hc e n=>u.free b o e n hc) (fun b o hc e=>u.there b o e hc) u.tups u.frzs u.tbls (fun m' hm=>by
  obtain⟨o',es',ep',ho',r'⟩:=hm;rw[ho]at ho';cases ho';exact⟨_,es',ep',hL,r'⟩) hok hg
theorem Inv.turned{t':Nat}{it:Addr}(I:Inv X pins σ H s)(k:∀b o,b≠it->s.heap.get? b=some o->h'.get? b=some o)(hn:H it=none)(hL:it≠X.env.locals)(h1:it∈X.ex\/X.s₀.heap.objs.size<=it)(h2:∀x c,X.env.cells.lookup x=some c->c≠it)(h3:∀p∈X.pn++pins,p.1≠it):Inv X pins σ H { s with heap:=h',toks:=t' }:=by
 have nit:∀b u,H b=some u->b≠it:=fun b u e z=>by rw[z,hn]at e;cases e
 refine I.step (g':=s.gens) (d':=s.drawn) (ch:=[it]) (fun b hb=>?_) (fun b o _ _ hc e _=>k b o (fun z=>hc (by simp[z])) e) (fun b o _ _ hc e _=>⟨o.slots,k b o (fun z=>hc (by simp[z])) e⟩) (fun _ _ _ _ n=>n)
  (fun b o hc e=>⟨o,k b o (fun z=>hc (by simp[z])) e⟩) (fun _ _ e=>e) (fun _ _ _ e=>e) (fun b ps e=>⟨#[],by rw[e];simp⟩) (fun m hm=>?_) (fun b u e=>?_) I.bare
 ·have e:b=it:=by simpa using hb
  subst e;exact⟨h1,hL,h2,h3⟩
 ·obtain⟨o,es,ep,ho,r⟩:=hm;exact⟨o,es,ep,k _ o (z5 hL) ho,r⟩
 ·refine(I.hok b u e).stay (fun c v hc q=>k c v ?_ q) (fun _ q=>q) fun _ _ q=>q;rcases hc with z|z
  ·rw[z];exact nit b u e
  ·exact nit c _ z
theorem Inv.tok(I:Inv X pins σ H s)(t:Nat):Inv X pins σ H { s with toks:=t }:=I.un (h':=s.heap) (t':=t) Un.refl I.hok
theorem Inv.kept{t':Nat}(I:Inv X pins σ H s)(k:∀b u,s.heap.get? b=some u->h'.get? b=some u):Inv X pins σ H { s with heap:=h',toks:=t' }:=I.un (Un.kept k) (I.hok.kept k)
theorem Inv.laid{a:Addr}{o:HO}{t':Nat}(I:Inv X pins σ H s)(k:∀b u,s.heap.get? b=some u->h'.get? b=some u)(hp:s.heap.objs.size<=a)(new:ObjOk X.prog X.w (upd H a o) h' a o) :
  Inv X pins σ (upd H a o) { s with heap:=h',toks:=t' }:=I.un (Un.laid k hp (I.hok.fresh hp)) (I.hok.laid k hp new)
theorem Inv.write{x e:Addr}{o:HO}{t':Nat}(I:Inv X pins σ H s)(mu:Mut (H x))(he:e=x\/H e=some (.own x))(k:∀b u,b≠e->s.heap.get? b=some u->h'.get? b=some u)(heo:∃u,h'.get? e=some u)(new:ObjOk X.prog X.w (upd H x o) h' x o):Inv X pins σ (upd H x o) { s with heap:=h',toks:=t' }:=I.un (Un.write mu he k heo) (I.hok.write mu he k heo new)
theorem Inv.weak{σ':List (Option V)}(I:Inv X pins σ H s)(hl:σ'.length=σ.length)(w:∀(i:Nat) v,σ'[i]?=some (some v)->σ[i]?=some (some v)):Inv X pins σ' H s :=
 ⟨I.ok,I.os,I.bare,I.base,let⟨m,hn,hl'⟩:=I.loc;⟨m,hn,fun i x v e1 e2 e3=>hl' i x v e1 (w i v e2) e3⟩,I.cell,I.free,I.freeC,I.pin,I.hok,hl.trans I.len⟩
theorem Inv.pins_of{pins':List (Addr×Obj)}(I:Inv X pins σ H s)(h:∀p∈pins',s.heap.get? p.1=some p.2/\H p.1=none/\p.1≠X.env.locals/\p.1∉X.fs/\∀v,p.2.data≠.cell v):Inv X pins' σ H s :=
 ⟨I.ok,I.os,I.bare,I.base,I.loc,I.cell,I.free,I.freeC,fun p hp=>(zy.mp hp).elim (fun z=>I.pin p (List.mem_append_left _ z)) (h p),I.hok,I.len⟩
theorem im{N:List Str}(hN:N.Nodup){i j:Nat}{x:Str}(a:N[i]?=some x)(b:N[j]?=some x):i=j:=by obtain⟨h1,e1⟩:=zr.mp a;obtain⟨h2,e2⟩:=zr.mp b;exact(List.getElem_inj hN).mp (e1.trans e2.symm)
theorem jS{M:Model}{A:Around}{E:Value->Shared->Prop}{i:Nat}{x:Str}{v:V}{u:Value}{Q:Unit->Shared->Prop}(I:Inv X pins σ H s)(hN:X.N.Nodup)(hi:X.N[i]?=some x)(hx:Loc X.env.scope x)(r:RelV v u)(h:∀s',Inv X pins (σ.set i (some v)) H s'->(∃a,Heap.SameBut a s.heap s'.heap/\(a=X.env.locals\/X.env.cells.lookup x=some a))->Q () s')(hf:X.fn x=true\/X.env.scope.names.lookup x=some .local:=by first|exact .inl rfl|exact .inr rfl|assumption):wpAny M A (storeName X.env x u) Q E s:=by
 obtain⟨m,hn,hl⟩:=id I.loc;have hcls:(X.env.scope.kind == .class ||(X.env.scope.kind == .module&&X.env.locals != X.env.globals))=false:=by rw[I.ok.kind];rfl
 have hiσ:i<σ.length:=by rw[I.len];exact(zr.mp hi).1
 have cne:=I.cne;have tracked:∀{a:Addr} {h':Heap},(∃o,s.heap.get? a=some o/\H a=none)->Heap.SameBut a s.heap h'->HOk X.prog X.w H h':=fun{a h'} ha hs b ob e=>by
  obtain⟨_,_,hfree⟩:=ha;refine(I.hok b ob e).stay (fun c w' hc q=>(hs.2 c ?_).trans q) (fun _ q=>q) fun _ _ q=>q;rintro rfl;rcases hc with rfl|hc
  ·rw[hfree]at e;cases e
  ·rw[hfree]at hc;cases hc
 rcases hx with hk|hk
 ·refine wpAny_storeName_local hk hn (fun h' hn' hs=>?_) hcls;obtain⟨oL,_,_,hoL,_⟩:=id hn;refine h _ ⟨I.ok,I.os,I.bare,⟨fun b o e n hb hx=>?_,fun b o e n hb hx=>?_,I.base.free,fun b o e hx=>?_,I.base.tups,I.base.frzs,I.base.tbls⟩,⟨_,hn',fun j y v' e1 e2 e3=>?_⟩,fun y c e=>?_,I.free,I.freeC,fun p hp=>?_,tracked ⟨oL,hoL,I.free⟩ hs,by simpa using I.len⟩ ⟨_,hs,.inl rfl⟩
  ·exact(hs.2 b (zC (zq (zo e) I.ok.above))).trans (I.base.keep b o e n hb hx)
  ·obtain⟨sl,e1⟩:=I.base.slot b o e n hb hx;exact⟨sl,(hs.2 b (zC (zq (zo e) I.ok.above))).trans e1⟩
  ·obtain⟨o',e1⟩:=I.base.there b o e hx;exact⟨o',(hs.2 b (zC (zq (zo e) I.ok.above))).trans e1⟩
  ·by_cases hj:j=i
   ·subst hj;rw[hi]at e1;cases e1;rw[List.getElem?_set_self hiσ]at e2;cases e2;exact⟨u,r,.inl ⟨hk,by simp⟩⟩
   ·rw[List.getElem?_set_ne (z5 hj)]at e2;obtain⟨u',r',q⟩:=hl j y v' e1 e2 e3;refine⟨u',r',?_⟩;rcases q with⟨k,e⟩|⟨k,c,e,z⟩
    ·refine .inl ⟨k,?_⟩;have:y≠x:=fun e=>hj (im hN e1 (e▸hi));simp[this,e]
    ·exact .inr ⟨k,c,e,z.sameBut hs (cne y c e)⟩
  ·obtain⟨w',z⟩:=I.cell y c e;exact⟨w',z.sameBut hs (cne y c e)⟩
  ·obtain⟨e,n,ne,nf,d⟩:=I.pin p hp;exact⟨(hs.2 p.1 ne).trans e,n,ne,nf,d⟩
 ·have hfn:X.fn x=true:=by
   rcases hf with z|z
   ·exact z
   ·rw[z]at hk;cases hk
  obtain⟨c,hc⟩:=I.ok.has x (.inl hk);obtain⟨w',z⟩:=I.cell x c hc;refine wpAny_storeName_cell I.ok.kind hk hc z (fun h' hc' hs=>?_);obtain⟨oc,hoc,hocd⟩:=id z;refine h { s with heap:=h' } ⟨I.ok,I.os,I.bare,⟨fun b o e n hb hx=>?_,fun b o e n hb hx=>?_,I.base.free,fun b o e hx=>?_,I.base.tups,I.base.frzs,I.base.tbls⟩,⟨m,hn.sameBut hs (z5 (cne x c hc)),fun j y v' e1 e2 e3=>?_⟩,fun y c' e=>?_,I.free,I.freeC,fun p hp=>?_,tracked ⟨oc,hoc,I.freeC x c hc⟩ hs,by simpa using I.len⟩ ⟨c,hs,.inr hc⟩
  ·exact(hs.2 b (zC (zq (zo e) (I.ok.cab x c hfn hc)))).trans (I.base.keep b o e n hb hx)
  ·obtain⟨sl,e1⟩:=I.base.slot b o e n hb hx;exact⟨sl,(hs.2 b (zC (zq (zo e) (I.ok.cab x c hfn hc)))).trans e1⟩
  ·obtain⟨o',e1⟩:=I.base.there b o e hx;exact⟨o',(hs.2 b (zC (zq (zo e) (I.ok.cab x c hfn hc)))).trans e1⟩
  ·by_cases hj:j=i
   ·subst hj;rw[hi]at e1;cases e1;rw[List.getElem?_set_self hiσ]at e2;cases e2;exact⟨u,r,.inr ⟨.inl hk,c,hc,hc'⟩⟩
   ·rw[List.getElem?_set_ne (z5 hj)]at e2;obtain⟨u',r',q⟩:=hl j y v' e1 e2 e3;refine⟨u',r',?_⟩;rcases q with q|⟨k,c',e,z'⟩
    ·exact .inl q
    ·refine .inr ⟨k,c',e,z'.sameBut hs ?_⟩;rintro rfl;exact hj (im hN e1 (I.ok.inj _ _ _ e hc▸hi))
  ·by_cases hcc:c'=c
   ·subst hcc;exact⟨_,hc'⟩
   ·obtain⟨w2,z2⟩:=I.cell y c' e;exact⟨w2,z2.sameBut hs hcc⟩
  ·obtain⟨e,n,ne,nf,d⟩:=I.pin p hp;refine⟨(hs.2 p.1 ?_).trans e,n,ne,nf,d⟩;intro q;rw[q,hoc]at e;have q':oc=p.2:=zt e;exact d w' (by rw[<-q'];exact hocd)
theorem fB{M:Model}{A:Around}{E:Value->Shared->Prop}{i:Nat}{x:Str}{v:V}{u:Value}{Q:Unit->Shared->Prop}(I:Inv X pins σ H s)(hN:X.N.Nodup)(hi:X.N[i]?=some x)(hx:Loc X.env.scope x)(r:RelV v u)(h:∀s',Inv X pins (σ.set i (some v)) H s'->Q () s')(hf:X.fn x=true\/X.env.scope.names.lookup x=some .local:=by first|exact .inl rfl|exact .inr rfl|assumption):wpAny M A (storeName X.env x u) Q E s :=
 jS I hN hi hx r (fun s' I' _=>h s' I') hf
theorem Inv.call'{s':Shared}{ch:List Addr}(I:Inv X pins σ H s)(ho:s'.os=s.os)(u:Un (frs X.stack) ch H H' s.heap s'.heap)(hok:HOk X.prog X.w H' s'.heap)(hg:AllBare s'.gens)(hch:∀b∈ch,(b∈X.ex\/X.s₀.heap.objs.size<=b)/\b≠X.env.locals/\(∀x c,X.env.cells.lookup x=some c->c≠b)/\∀p∈X.pn++pins,p.1≠b):Inv X pins σ H' s':=by obtain⟨h',g',d',t',o'⟩:=s';have e:o'=s.os:=ho;subst e;exact I.call (g':=g') (t':=t') (d':=d') u hok hg hch
end
abbrev XK:=Value->Option Addr->Hp->Prop
abbrev St:=List (Option V)
abbrev VK:=V->Hp->Prop
abbrev TE:=St->Hp->VK->Prop
abbrev TT:=St->Hp->(Bool->Hp->Prop)->Prop
abbrev TA:=St->Hp->(List V->Hp->Prop)->Prop
structure Ends where
 nx:St->Hp->Prop
 rt:VK
 bk:St->Hp->Prop:=fun _ _=>False
 ct:St->Hp->Prop:=fun _ _=>False
abbrev TS:=Ends->St->Hp->Prop
def EP(X:Cx)(pins:List (Addr×Obj))(σ:St)(Q:VK)(u:Value)(s':Shared):Prop:=∃v H',Inv X pins σ H' s'/\RelV v u/\Q v H'
def TP(X:Cx)(pins:List (Addr×Obj))(σ:St)(Q:Bool->Hp->Prop)(b:Bool)(s':Shared):Prop:=∃H',Inv X pins σ H' s'/\Q b H'
def AP(X:Cx)(pins:List (Addr×Obj))(σ:St)(Q:List V->Hp->Prop)(us:List Value)(s':Shared):Prop:=∃vs H',Inv X pins σ H' s'/\Vals vs us/\Q vs H'
def SP(X:Cx)(pins:List (Addr×Obj))(D:Ends)(f:Flow)(s':Shared):Prop :=
 match f with
 |.next=>∃σ' H',Inv X pins σ' H' s'/\D.nx σ' H'
 |.brk=>∃σ' H',Inv X pins σ' H' s'/\D.bk σ' H'
 |.cont=>∃σ' H',Inv X pins σ' H' s'/\D.ct σ' H'
 |.ret u=>∃v σ' H',Inv X pins σ' H' s'/\RelV v u/\D.rt v H'
def PE(X:Cx)(e:Expr)(t:TE):Prop :=
 ∀(pins:List (Addr×Obj)) (s:Shared) (σ:St) (H:Hp) (Q:VK),Inv X pins σ H s->t σ H Q->wpAny (model X.prog X.w) X.A (eval e X.env) (EP X pins σ Q) X.xe s
def PT(X:Cx)(e:Expr)(t:TT):Prop :=
 ∀(pins:List (Addr×Obj)) (s:Shared) (σ:St) (H:Hp) (Q:Bool->Hp->Prop),Inv X pins σ H s->t σ H Q->wpAny (model X.prog X.w) X.A (isTrue e X.env (eval e X.env)) (TP X pins σ Q) X.xe s
def PW(X:Cx)(e:Expr)(t:TT):Prop :=
 ∀(whole:Sem Value) (pins:List (Addr×Obj)) (s:Shared) (σ:St) (H:Hp) (Q:Bool->Hp->Prop),Inv X pins σ H s->t σ H Q->wpAny (model X.prog X.w) X.A (isTrue e X.env whole) (TP X pins σ Q) X.xe s
theorem PW.pt{X:Cx}{e:Expr}{t:TT}(h:PW X e t):PT X e t:=h _
def PA(X:Cx)(es:List Expr)(t:TA):Prop :=
 ∀(pos:Pos) (pins:List (Addr×Obj)) (s:Shared) (σ:St) (H:Hp) (Q:List V->Hp->Prop),Inv X pins σ H s->t σ H Q->wpAny (model X.prog X.w) X.A (spliced (backTo pos (starEach es X.env))) (AP X pins σ Q) X.xe s
def PS(X:Cx)(st:Stmt)(t:TS):Prop :=
 ∀(pins:List (Addr×Obj)) (s:Shared) (σ:St) (H:Hp) (D:Ends),Inv X pins σ H s->t D σ H->wpAny (model X.prog X.w) X.A (exec st X.env) (SP X pins D) X.xe s
def PSs(X:Cx)(st:List Stmt)(t:TS):Prop :=
 ∀(pins:List (Addr×Obj)) (s:Shared) (σ:St) (H:Hp) (D:Ends),Inv X pins σ H s->t D σ H->wpAny (model X.prog X.w) X.A (execs st X.env) (SP X pins D) X.xe s
theorem thn{α:Type}{t:Sem α}{Q Q':α->Shared->Prop}{M:Model}{A:Around}{E:Value->Shared->Prop}{s:Shared}(h:wpAny M A t Q E s)(hQ:∀a s,Q a s->Q' a s):wpAny M A t Q' E s:=zY h hQ fun _ _ x=>x
open PySem PySem.Spec PyProof.Rows
section
variable{X:Cx}
inductive tVar(i:Nat)(σ:St)(H:Hp)(Q:VK):Prop
 |mk (v:V) (h:σ[i]?=some (some v)) (q:Q v H):tVar i σ H Q
def tC(v:V):TE:=fun _ H Q=>Q v H
theorem vE{i:Nat}{x:Str}{pos:Pos}(hN:X.N[i]?=some x)(hv:Vis X.env.scope x)(hd:(x==("__debug__":Str))=false:=by decide)(hcd:(x==("__classdict__":Str))=false:=by decide):PE X (.Name x pos) (tVar i):=by
 intro pins s σ H Q I h;obtain⟨v,e,h⟩:=h;obtain⟨m,hn,hl⟩:=I.loc;obtain⟨u,r,l⟩:=hl i x v hN e hv;have fin:EP X pins σ Q u s:=⟨v,H,I,r,h⟩
 rcases l with⟨hk,hm⟩|⟨hk,c,hc,hcell⟩
 ·exact wpAny_Name (wpAny_loadName_local I.ok.kind hk hn hm fin) hd
 ·rcases hk with hk|hk
  ·exact wpAny_Name (wpAny_loadName_cell I.ok.kind hk hc hcell fin) hd
  ·exact wpAny_Name (wpAny_loadName_free I.ok.kind hk hc hcell fin hcd) hd
theorem vw{i j pos}:PE X (.Constant (.int i) j pos) (tC (.int i)):=fun _ _ _ H _ I h=>wpAny_Constant_int ⟨.int i,H,I.tok _,⟨_,rfl⟩,h⟩
theorem xq{b j pos}:PE X (.Constant (.bool b) j pos) (tC (.bl b)):=fun _ _ _ H _ I h=>Constant_bool ⟨.bl b,H,I,rfl,h⟩
theorem vy{j pos}:PE X (.Constant .none j pos) (tC .non):=fun _ _ _ H _ I h=>Constant_none ⟨.non,H,I,rfl,h⟩
theorem vC{x j pos}:PE X (.Constant (.str x) j pos) (tC (.str x)):=fun _ _ _ H _ I h=>Calls.Constant_str ⟨.str x,H,I.tok _,⟨_,rfl⟩,h⟩
def Gl(X:Cx)(x:Str):Prop:=X.env.kindOf x=some .globalImplicit
theorem dF{E:Value->Shared->Prop}{pins:List (Addr×Obj)}{s:Shared}{σ:St}{H:Hp}{x:Str}{u:Value}{pos:Pos}{Q:Value->Shared->Prop}(I:Inv X pins σ H s)(hg:Gl X x)(hm:X.mg x=some u)(h:Q u s)(hd:(x==("__debug__":Str))=false:=by decide):wpAny (model X.prog X.w) X.A (eval (.Name x pos) X.env) Q E s :=
 Calls.Name_function_global I.ok.kind hg (Calls.loadGlobal_global (by rw[I.ok.glob];exact I.mod.glob.keeps I.bk) hm h) hd
theorem iN{E:Value->Shared->Prop}{pins:List (Addr×Obj)}{s:Shared}{σ:St}{H:Hp}{x:Str}{u:Value}{pos:Pos}{Q:Value->Shared->Prop}(I:Inv X pins σ H s)(hg:Gl X x)(hm:X.mg x=none)(hv:bootBuiltins x=some u)(h:Q u s)(hn:x≠"__name__":=by decide)(hd:(x==("__debug__":Str))=false:=by decide):wpAny (model X.prog X.w) X.A (eval (.Name x pos) X.env) Q E s:=by obtain⟨mb,h1,h2⟩:=I.mod.blt;exact Calls.Name_function_global I.ok.kind hg (Calls.loadGlobal_builtin (by rw[I.ok.glob];exact I.mod.glob.keeps I.bk) hm (by rw[I.ok.blt];exact h1.keeps I.bk) ((h2 x hn).trans hv) h) hd
theorem jv{x:Str}{v:V}{u:Value}{pos:Pos}(hg:Gl X x)(hm:X.mg x=some u)(r:RelV v u)(hd:(x==("__debug__":Str))=false:=by decide):PE X (.Name x pos) (tC v) :=
 fun _ _ _ H _ I h=>dF I hg hm ⟨v,H,I,r,h⟩ hd
theorem tI{x:Str}{v:V}{u:Value}{pos:Pos}(hg:Gl X x)(hm:X.mg x=none)(hv:bootBuiltins x=some u)(r:RelV v u)(hn:x≠"__name__":=by decide)(hd:(x==("__debug__":Str))=false:=by decide):PE X (.Name x pos) (tC v) :=
 fun _ _ _ H _ I h=>iN I hg hm hv ⟨v,H,I,r,h⟩ hn hd
variable{a b:Expr}{ta tb:TE}{pos:Pos}
inductive IsB(x:V)(H:Hp)(Q:Bool->Hp->Prop):Prop
 |mk (c:Bool) (h:x=.bl c) (q:Q c H):IsB x H Q
def tB(t:TE):TT:=fun σ H Q=>t σ H fun x H1=>IsB x H1 Q
theorem vN{e:Expr}{t:TE}(h:PE X e t)(he:∀whole,isTrue e X.env whole=(do let v ←whole;standAt e.pos;holding [v] (truthy v)):=by intro _;rfl):PT X e (tB t):=by intro pins s σ H Q I hw;refine isTrue_plain (thn (h pins s σ H _ I hw) fun v s1 hz9=>?_) (he _);obtain⟨x,H1,I1,r1,q1⟩:=hz9;obtain⟨d,rfl,q⟩:=q1;cases r1;exact zZ ⟨H1,I1,q⟩
variable{tA tB':TT}{rest:List Expr}
def wf(t u:TT):TT:=fun σ H Q=>t σ H fun c H1=>if c=true then u σ H1 Q else Q false H1
def tOr(t u:TT):TT:=fun σ H Q=>t σ H fun c H1=>if c=true then Q true H1 else u σ H1 Q
def rF(t:TT):TT:=fun σ H Q=>t σ H fun c H1=>Q (!c) H1
theorem tZ(ha:PT X a tA):PW X (.BoolOp .And [a] pos) tA:=by
 intro wh pins s σ H Q I h;refine isTrue_and (thn (ha pins s σ H Q I h) fun c s1 e=>?_);cases c with
 |true=>exact isTrue_and_nil e
 |false=>exact e
theorem vQ(ha:PT X a tA):PW X (.BoolOp .Or [a] pos) tA:=by
 intro wh pins s σ H Q I h;refine isTrue_or (thn (ha pins s σ H Q I h) fun c s1 e=>?_);cases c with
 |false=>exact isTrue_or_nil e
 |true=>exact e
theorem vP(ha:PT X a tA)(hb:PW X (.BoolOp .And (b::rest) pos) tB'):PW X (.BoolOp .And (a::b::rest) pos) (wf tA tB'):=by
 intro wh pins s σ H Q I h;refine isTrue_and (thn (ha pins s σ H _ I h) fun c s1 ⟨H1,I1,q1⟩=>?_);cases c with
 |true=>exact hb wh pins s1 σ H1 Q I1 q1
 |false=>exact⟨H1,I1,q1⟩
theorem xy(ha:PT X a tA)(hb:PW X (.BoolOp .Or (b::rest) pos) tB'):PW X (.BoolOp .Or (a::b::rest) pos) (tOr tA tB'):=by
 intro wh pins s σ H Q I h;refine isTrue_or (thn (ha pins s σ H _ I h) fun c s1 ⟨H1,I1,q1⟩=>?_);cases c with
 |true=>exact⟨H1,I1,q1⟩
 |false=>exact hb wh pins s1 σ H1 Q I1 q1
theorem vM(ha:PT X a tA):PT X (.UnaryOp .Not a pos) (rF tA):=by intro pins s σ H Q I h;exact isTrue_not (ha pins s σ H (fun c H1=>Q (!c) H1) I h)
def rY(ta tb:TE):TE:=fun σ H Q=>ta σ H fun x H1=>∃c,x=.bl c/\if c=true then tb σ H1 Q else Q (.bl false) H1
def rG(ta tb:TE):TE:=fun σ H Q=>ta σ H fun x H1=>∃c,x=.bl c/\if c=true then Q (.bl true) H1 else tb σ H1 Q
def oh(ta:TE):TE:=fun σ H Q=>ta σ H fun x H1=>∃c,x=.bl c/\Q (.bl (!c)) H1
theorem vB{op}{t:TE}(h:PE X a t):PE X (.BoolOp op [a] pos) t:=fun pins s σ H Q I hw=>BoolOp_one (h pins s σ H Q I hw)
theorem vt(ha:PE X a ta)(hb:PE X (.BoolOp .And (b::rest) pos) tb):PE X (.BoolOp .And (a::b::rest) pos) (rY ta tb):=by
 intro pins s σ H Q I h;refine BoolOp_and (thn (ha pins s σ H _ I h) fun v s1 hz9=>?_);obtain⟨x,H1,I1,r1,q1⟩:=hz9;obtain⟨c,rfl,q1⟩:=q1;cases r1;refine zZ ?_;cases c with
 |true=>exact hb pins s1 σ H1 Q I1 q1
 |false=>exact⟨.bl false,H1,I1,rfl,q1⟩
theorem xv(ha:PE X a ta)(hb:PE X (.BoolOp .Or (b::rest) pos) tb):PE X (.BoolOp .Or (a::b::rest) pos) (rG ta tb):=by
 intro pins s σ H Q I h;refine BoolOp_or (thn (ha pins s σ H _ I h) fun v s1 hz9=>?_);obtain⟨x,H1,I1,r1,q1⟩:=hz9;obtain⟨c,rfl,q1⟩:=q1;cases r1;refine zZ ?_;cases c with
 |false=>exact hb pins s1 σ H1 Q I1 q1
 |true=>exact⟨.bl true,H1,I1,rfl,q1⟩
theorem vA(ha:PE X a ta):PE X (.UnaryOp .Not a pos) (oh ta):=by intro pins s σ H Q I h;refine UnaryOp_ (thn (ha pins s σ H _ I h) fun v s1 hz9=>?_);obtain⟨x,H1,I1,r1,q1⟩:=hz9;obtain⟨c,rfl,q1⟩:=q1;cases r1;exact not_of (zZ ⟨.bl (!c),H1,I1,rfl,q1⟩)
def tIf(t:TT)(ta tb:TE):TE:=fun σ H Q=>t σ H fun c H1=>if c=true then ta σ H1 Q else tb σ H1 Q
theorem qY{c:Expr}(hc:PT X c tA)(ha:PE X a ta)(hb:PE X b tb):PE X (.IfExp c a b pos) (tIf tA ta tb):=by
 intro pins s σ H Q I h;refine wpAny_IfExp (thn (hc pins s σ H _ I h) fun d s1 ⟨H1,I1,q1⟩=>?_);cases d with
 |true=>exact ha pins s1 σ H1 Q I1 q1
 |false=>exact hb pins s1 σ H1 Q I1 q1
end
open PySem PySem.Spec PyProof.Rows
def SqL(K:PySem.W.Frag)(H:Hp)(a:Addr)(xs:List V):Prop :=
 Rd H a (.lst xs) \/
  ∃(o:Obj) (its:Array Value) (n:Nat),K.lookup a=some o/\o.cls=.type "list"/\o.dict=none/\o.data=.seq its n/\its.size<=sizeLine/\Vals xs its.toList
def SqT(K:PySem.W.Frag)(H:Hp)(a:Addr)(xs:List V):Prop :=
 Rd H a (.tup xs) \/
  ∃(o:Obj) (its:Array Value) (n:Nat),K.lookup a=some o/\o.cls=.type "tuple"/\o.data=.seq its n/\its.size<=sizeLine/\Vals xs its.toList
def xJ:Value->Option V
 |.none=>some .non
 |.bool b=>some (.bl b)
 |.int i _=>some (.int i)
 |.str x _=>some (.str x)
 |.bytes b _=>some (.byt b)
 |.float b _=>some (.flt b)
 |.ref a=>some (.ref a)
 |.type n=>some (.ty n)
 |_=>none
theorem RelV.abs{x:V}{u:Value}(r:RelV x u):xJ u=some x:=by
 cases x with
 |non=>cases r;rfl
 |bl _=>cases r;rfl
 |int _=>obtain⟨t,rfl⟩:=r;rfl
 |str _=>obtain⟨t,rfl⟩:=r;rfl
 |byt _=>obtain⟨t,rfl⟩:=r;rfl
 |flt _=>obtain⟨t,rfl⟩:=r;rfl
 |ref _=>cases r;rfl
 |ty _=>cases r;rfl
theorem RelV.inj{x y:V}{u:Value}(r:RelV x u)(q:RelV y u):x=y:=zt (r.abs.symm.trans q.abs)
theorem Vals.inj:∀{xs ys:List V} {us:List Value},Vals xs us->Vals ys us->xs=ys
 |_,_,_,.nil,.nil=>rfl
 |_,_,_,.cons r t,.cons r' t'=>by rw[r.inj r',Vals.inj t t']
section
variable{X:Cx}{pins:List (Addr×Obj)}{σ:St}{H:Hp}{s:Shared}{a:Addr}{xs ys:List V}
theorem SqL.of{K:PySem.W.Frag}(h:H a=some (.lst xs)):SqL K H a xs:=.inl (.inl h)
theorem SqT.of{K:PySem.W.Frag}(h:H a=some (.tup xs)):SqT K H a xs:=.inl (.inl h)
theorem Inv.list(I:Inv X pins σ H s)(h:SqL X.K H a xs):∃its:List Value,Vals xs its/\PlainL s.heap a its.toArray/\xs.length<=sizeLine:=by
 rcases h with h|⟨o,its,n,hk,hc,hd,hs,hz,r⟩
 ·obtain⟨z,its,n,r,e⟩:=h.ok I.hok;exact⟨its,r,⟨_,n,e,rfl,rfl,rfl⟩,z⟩
 ·refine⟨its.toList,r,⟨o,n,I.kIn a o hk,hc,hd,by simpa using hs⟩,?_⟩;have e:=r.length;simp only[zP]at e;omega
theorem Inv.tuple(I:Inv X pins σ H s)(h:SqT X.K H a xs):∃its:List Value,Vals xs its/\IsTup s.heap a its.toArray/\xs.length<=sizeLine:=by
 rcases h with h|⟨o,its,n,hk,hc,hs,hz,r⟩
 ·obtain⟨z,its,r,p⟩:=h.ok I.hok;exact⟨its,r,p,z⟩
 ·refine⟨its.toList,r,⟨o,I.kIn a o hk,hc,n,by simpa using hs⟩,?_⟩;have e:=r.length;simp only[zP]at e;omega
theorem Inv.list_inj(I:Inv X pins σ H s)(h:SqL X.K H a xs)(h':SqL X.K H a ys):xs=ys:=by
 obtain⟨its,r,⟨o,n,e,_,_,d⟩,_⟩:=I.list h;obtain⟨its',r',⟨o',n',e',_,_,d'⟩,_⟩:=I.list h';rw[e]at e';cases e';rw[d]at d';injection d' with d1 _;have:its=its':=by simpa using zS Array.toList d1
 subst this;exact r.inj r'
theorem Inv.tuple_inj(I:Inv X pins σ H s)(h:SqT X.K H a xs)(h':SqT X.K H a ys):xs=ys:=by
 obtain⟨its,r,⟨o,e,_,n,d⟩,_⟩:=I.tuple h;obtain⟨its',r',⟨o',e',_,n',d'⟩,_⟩:=I.tuple h';rw[e]at e';cases e';rw[d]at d';injection d' with d1 _;have:its=its':=by simpa using zS Array.toList d1
 subst this;exact r.inj r'
end
abbrev Cx.wish(X:Cx)(E:Value->Shared->Prop):Cx:={ X with xe:=E }
abbrev Cx.nox(X:Cx):Cx:=X.wish fun _ _=>False
theorem Cx.Ok.wish{X:Cx}(ok:X.Ok)(E:Value->Shared->Prop):(X.wish E).Ok :=
 ⟨ok.mod,ok.kind,ok.glob,ok.blt,ok.above,ok.inj,ok.has,ok.cab,ok.hd,ok.frames,ok.stk,ok.exf,ok.bs,ok.bsz,ok.noex,ok.exfs,ok.funs,ok.frf⟩
theorem Cx.Ok.unwish{X:Cx}{E:Value->Shared->Prop}(ok:(X.wish E).Ok):X.Ok :=
 ⟨ok.mod,ok.kind,ok.glob,ok.blt,ok.above,ok.inj,ok.has,ok.cab,ok.hd,ok.frames,ok.stk,ok.exf,ok.bs,ok.bsz,ok.noex,ok.exfs,ok.funs,ok.frf⟩
section
variable{X:Cx}{pins:List (Addr×Obj)}{σ:St}{H:Hp}{s:Shared}{E:Value->Shared->Prop}
theorem Inv.wish(I:Inv X pins σ H s)(E:Value->Shared->Prop):Inv (X.wish E) pins σ H s:=⟨I.ok.wish E,I.os,I.bare,I.base,I.loc,I.cell,I.free,I.freeC,I.pin,I.hok,I.len⟩
theorem Inv.unwish(I:Inv (X.wish E) pins σ H s):Inv X pins σ H s:=⟨I.ok.unwish,I.os,I.bare,I.base,I.loc,I.cell,I.free,I.freeC,I.pin,I.hok,I.len⟩
theorem SP.unwish{D:Ends}{f:Flow}{s':Shared}(h:SP (X.wish E) pins D f s'):SP X pins D f s':=by
 cases f with
 |next=>obtain⟨σ',H',I,q⟩:=h;exact⟨σ',H',I.unwish,q⟩
 |brk=>obtain⟨σ',H',I,q⟩:=h;exact⟨σ',H',I.unwish,q⟩
 |cont=>obtain⟨σ',H',I,q⟩:=h;exact⟨σ',H',I.unwish,q⟩
 |ret u=>obtain⟨v,σ',H',I,r,q⟩:=h;exact⟨v,σ',H',I.unwish,r,q⟩
theorem PSs.nox{st:List Stmt}{t:TS}(h:PSs X.nox st t):PSs X st t:=fun pins s σ H D I hw =>
 zY (h pins s σ H D (I.wish _) hw) (fun _ _ q=>q.unwish) fun _ _ z=>False.elim z
end
section
variable{X:Cx}{st:Stmt}{rest:List Stmt}{t u:TS}{e:Expr}{te:TE}{pos:Pos}
def og:TS:=fun D σ H=>D.nx σ H
def oi(t u:TS):TS:=fun D σ H=>t { D with nx:=u D } σ H
theorem tW:PSs X [] og:=fun _ _ σ H _ I h=>wpAny_execs_nil ⟨σ,H,I,h⟩
theorem rh(h1:PS X st t)(h2:PSs X rest u):PSs X (st::rest) (oi t u):=by
 intro pins s σ H D I h;refine wpAny_execs_cons (thn (h1 pins s σ H { D with nx:=u D } I h) fun f s1 q=>?_);cases f with
 |next =>obtain⟨σ',H',I',q⟩:=q;exact h2 pins s1 σ' H' D I' q
 |ret v=>exact q
 |brk=>exact q
 |cont=>exact q
theorem tX(h1:PS X st t):PSs X [st] t:=by
 intro pins s σ H D I h;refine wpAny_execs_cons (thn (h1 pins s σ H D I h) fun f s1 q=>?_);cases f with
 |next=>exact wpAny_execs_nil q
 |ret v=>exact q
 |brk=>exact q
 |cont=>exact q
theorem Inv.quiet{pins:List (Addr×Obj)}{σ:St}{H:Hp}{s:Shared}(I:Inv X pins σ H s):interactive X.env=false:=by simp[interactive,I.ok.kind]
def rZ(te:TE):TS:=fun D σ H=>te σ H fun _ H1=>D.nx σ H1
theorem tT(he:PE X e te)(hs:swapsWith e none pos.line X.env=pure false:=by rfl):PS X (.Expr e pos) (rZ te):=by intro pins s σ H D I h;exact wpAny_Expr_any (thn (he pins s σ H _ I h) fun v s1 ⟨x,H1,I1,r1,q1⟩=>⟨σ,H1,I1,q1⟩) I.quiet hs
def wm(te:TE):TS:=fun D σ H=>te σ H D.rt
theorem vK(he:PE X e te):PS X (.Return (some e) pos) (wm te):=by intro pins s σ H D I h;exact wpAny_Return_some (thn (he pins s σ H _ I h) fun v s1 ⟨x,H1,I1,r1,q1⟩=>⟨x,σ,H1,I1,r1,q1⟩)
def rE(c:TT)(t u:TS):TS:=fun D σ H=>c σ H fun b H1=>if b=true then t D σ H1 else u D σ H1
theorem xx{c:Expr}{a b:List Stmt}{tc:TT}(hc:PT X c tc)(ha:PSs X a t)(hb:PSs X b u):PS X (.If c a b pos) (rE tc t u):=by
 intro pins s σ H D I h;refine wpAny_If (thn (hc pins s σ H _ I h) fun d s1 ⟨H1,I1,q1⟩=>?_);cases d with
 |true=>exact ha pins s1 σ H1 D I1 q1
 |false=>exact hb pins s1 σ H1 D I1 q1
end
abbrev TG:=V->St->Hp->(St->Hp->Prop)->Prop
abbrev TGs:=List V->St->Hp->(St->Hp->Prop)->Prop
def PG(X:Cx)(target:Expr)(t:TG):Prop :=
 ∀(pins:List (Addr×Obj)) (s:Shared) (σ:St) (H:Hp) (v:V) (u:Value) (Q:St->Hp->Prop),Inv X pins σ H s->RelV v u->t v σ H Q ->
  wpAny (model X.prog X.w) X.A (assign target X.env u) (fun _ s'=>∃σ' H',Inv X pins σ' H' s'/\Q σ' H') X.xe s
def PGs(X:Cx)(ts:List Expr)(t:TGs):Prop :=
 ∀(pins:List (Addr×Obj)) (s:Shared) (σ:St) (H:Hp) (vs:List V) (us:List Value) (Q:St->Hp->Prop),Inv X pins σ H s->Vals vs us->t vs σ H Q ->
  wpAny (model X.prog X.w) X.A (assignInOrder ((assignEach ts X.env).map (·.2)) us) (fun _ s'=>∃σ' H',Inv X pins σ' H' s'/\Q σ' H') X.xe s
abbrev uw:=V->V->V->Hp->(Hp->Prop)->Prop
def xI(X:Cx)(t:uw):Prop :=
 ∀(pins:List (Addr×Obj)) (s:Shared) (σ:St) (H:Hp) (o i v:V) (ov iv u:Value) (Q:Hp->Prop),Inv X pins σ H s->RelV o ov->RelV i iv->RelV v u->t o i v H Q ->
  wpAny (model X.prog X.w) X.A (setItem ov iv u) (fun _ s'=>∃H',Inv X pins σ H' s'/\Q H') X.xe s
abbrev TIp:=V->V->Hp->VK->Prop
def PIp(X:Cx)(op:Operator)(t:TIp):Prop :=
 ∀(pins:List (Addr×Obj)) (s:Shared) (σ:St) (H:Hp) (x y:V) (v u:Value) (Q:VK),Inv X pins σ H s->RelV x v->RelV y u->t x y H Q ->
  wpAny (model X.prog X.w) X.A (inplaceOp op v u) (EP X pins σ Q) X.xe s
section
variable{X:Cx}{pos:Pos}
def bD(i:Nat):TG:=fun v σ H Q=>Q (σ.set i (some v)) H
theorem tN{i:Nat}{x:Str}(hN:X.N.Nodup)(hi:X.N[i]?=some x)(hx:Loc X.env.scope x)(hf:X.fn x=true\/X.env.scope.names.lookup x=some .local:=by first|exact .inl rfl|exact .inr rfl|assumption):PG X (.Name x pos) (bD i):=by intro pins s σ H v u Q I r h;exact wpAny_assign_Name (fB I hN hi hx r (fun s' I'=>⟨_,H,I',h⟩) hf)
def nw:TGs:=fun vs σ H Q=>vs=[]/\Q σ H
def kn(t:TG)(u:TGs):TGs:=fun vs σ H Q=>∃v r,vs=v::r/\t v σ H fun σ' H'=>u r σ' H' Q
theorem tP:PGs X [] nw:=by intro pins s σ H vs us Q I r h;obtain⟨e,h⟩:=h;subst e;cases r;exact assignInOrder_nil ⟨σ,H,I,h⟩
theorem rc{e:Expr}{es:List Expr}{t:TG}{u:TGs}(h1:PG X e t)(h2:PGs X es u)(hs:(assignEach (e::es) X.env).map (·.2)=assign e X.env::(assignEach es X.env).map (·.2):=by rfl):PGs X (e::es) (kn t u):=by
 intro pins s σ H vs us Q I r h;obtain⟨v,vr,e1,h⟩:=h;subst e1;cases r with
 |cons r rr =>rw[hs];refine assignInOrder_cons (thn (h1 pins s σ H _ _ _ I r h) fun _ s1 ⟨σ1,H1,I1,q1⟩=>?_);exact h2 pins s1 σ1 H1 _ _ Q I1 rr q1
def ny(K:PySem.W.Frag)(n:Nat)(t:TGs):TG:=fun v σ H Q=>∃a xs,v=.ref a/\SqT K H a xs/\xs.length=n/\t xs σ H Q
theorem vF{es:List Expr}{k:Nat}{t:TGs}{n:Nat}(hc:X.calm=true)(h:PGs X es t)(hn:(assignEach es X.env).length=n:=by rfl)(hst:(assignEach es X.env).findIdx? (·.1)=none:=by rfl):PG X (.Tuple es k pos) (ny X.K n t):=by intro pins s σ H v u Q I r hw;obtain⟨a,xs,e1,hq,hl,hw⟩:=hw;subst e1;cases r;obtain⟨its,rv,ht,hz⟩:=I.tuple hq;refine assign_Tuple_tuple (I.ok.hd hc) ht (by simp[hn,<-hl,rv.length]) hst fun h' hx=>?_;have I1:Inv X pins σ H { s with heap:=h' }:=I.kept (t':=s.toks) fun b o e=>hx b o (zC (zo e)) e;exact h pins _ σ H xs _ Q I1 (by simpa using rv) hw
def jF(te:TE)(g:TG):TS:=fun D σ H=>te σ H fun x H1=>g x σ H1 D.nx
theorem vH{tg e:Expr}{te:TE}{g:TG}(he:PE X e te)(hg:PG X tg g)(hs:swapsWithSole [tg] e pos.line X.env=pure false:=by rfl)(hw:swappedStores [tg] e X.env=pure none:=by rfl)(h1:(assignEach [tg] X.env).map (·.2)=[assign tg X.env]:=by rfl):PS X (.Assign [tg] e pos) (jF te g):=by intro pins s σ H D I h;refine wpAny_Assign_stores (thn (he pins s σ H _ I h) fun v s1 hz9=>?_) hs hw;obtain⟨x,H1,I1,r1,q1⟩:=hz9;rw[h1];exact thn (hg pins s1 σ H1 x v _ I1 r1 q1) fun _ s2 q=>q
theorem vL{i:Nat}{x:Str}{e:Expr}{te:TE}{pos':Pos}(hN:X.N.Nodup)(hi:X.N[i]?=some x)(hx:Loc X.env.scope x)(he:PE X e te)(hs:swapsWith e (some (.Name x pos')) pos.line X.env=pure false:=by rfl)(hf:X.fn x=true\/X.env.scope.names.lookup x=some .local:=by first|exact .inl rfl|exact .inr rfl|assumption) :
  PS X (.Assign [.Name x pos'] e pos) (jF te (bD i)):=by
 intro pins s σ H D I h;refine wpAny_Assign_Name (thn (he pins s σ H _ I h) fun v s1 hz9=>?_) hs;obtain⟨y,H1,I1,r1,q1⟩:=hz9;exact fB I1 hN hi hx r1 (fun s2 I2=>⟨_,H1,I2,q1⟩) hf
end
section
variable{X:Cx}{pos:Pos}
def qa(c:TT)(tb:TS):TS:=fun D σ H=>∃W:Nat->St->Hp->Prop,(∃m,W m σ H)/\∀m σ H,W m σ H ->
 c σ H fun b H1=>if b=true then∃N:St->Hp->Prop,(∀σ' H',N σ' H'->∃m',m'<m/\W m' σ' H')/\tb { D with nx:=N,ct:=N,bk:=D.nx } σ H1 else D.nx σ H1
theorem rg{c:Expr}{body:List Stmt}{tc:TT}{tb:TS}(hp:PassesOwn (model X.prog X.w) X.A X.env X.xe)(hc:PT X c tc)(hb:PSs X body tb):PS X (.While c body [] pos) (qa tc tb):=by
 intro pins s σ H D I h;obtain⟨W,⟨m0,w0⟩,turn⟩:=h;refine wpAny_While (codeAny_whileLoop (fun n s'=>∃σ' H',Inv X pins σ' H' s'/\W n σ' H') ?_ m0 ⟨σ,H,I,w0⟩);rintro n s1 ⟨σ1,H1,I1,w1⟩;refine wpAny_passesOwn hp (thn (hc pins s1 σ1 H1 _ I1 (turn n σ1 H1 w1)) fun b s2 ⟨H2,I2,q2⟩=>?_);cases b with
 |true =>
  obtain⟨N,hN,q2⟩:=q2;rw[yn rfl];refine wpAny_passesOwn hp (thn (hb pins s2 σ1 H2 _ I2 q2) fun f s3 q3=>?_);cases f with
  |next =>obtain⟨σ3,H3,I3,n3⟩:=q3;obtain⟨m',hm,w3⟩:=hN σ3 H3 n3;exact⟨m',hm,σ3,H3,I3,w3⟩
  |cont =>obtain⟨σ3,H3,I3,n3⟩:=q3;obtain⟨m',hm,w3⟩:=hN σ3 H3 n3;exact⟨m',hm,σ3,H3,I3,w3⟩
  |brk=>exact q3
  |ret v=>exact q3
 |false =>rw[ym zn];exact wpAny_execs_nil ⟨σ1,H2,I2,q2⟩
end
structure It where
 go:Nat->Hp->Prop
 yld:Nat->Hp->V->Hp->Prop
 stop:Nat->Hp->Prop
def bG(X:Cx)(pins:List (Addr×Obj))(H:Hp)(b:Addr):Prop :=
 H b=none/\b≠X.env.locals/\b∉X.fs/\(b∈X.ex\/X.s₀.heap.objs.size<=b)/\(∀x c,X.env.cells.lookup x=some c->c≠b)/\∀p∈X.pn++pins,p.1≠b
theorem Inv.fpOk{X:Cx}{pins:List (Addr×Obj)}{σ:St}{H H':Hp}{s:Shared}{b:Addr}(I:Inv X pins σ H s)(hb:s.heap.objs.size<=b)(hn:H' b=none):bG X pins H' b:=by
 refine⟨hn,Nat.ne_of_gt (zq I.lt hb),I.nofs hb,.inr (zm I.sz hb),fun x c e z=>?_,fun p hp z=>?_⟩
 ·obtain⟨v,q⟩:=I.cell x c e;exact absurd (zq q.lt (by rw[z];exact hb)) (Zt _)
 ·exact absurd (zq (zo (I.pin p hp).1) (by rw[z];exact hb)) (Zt _)
structure Turn(P:Program)(w:World)(K:PySem.W.Frag)(tg:Expr)(J:It)(fp:List Addr)(it:Addr)(tn:Nat->Heap->Prop):Prop where
 mem:it∈fp
 obj:∀i h,tn i h->∀b∈fp,∃o,h.get? b=some o/\∀v,o.data≠.cell v
 keep:∀i h h',tn i h->(∀b∈fp,∀o,h.get? b=some o->h'.get? b=some o)->tn i h'
 item:∀(X:Cx),X.prog=P->X.w=w->X.K=K->X.calm=true->∀(i:Nat) (pins:List (Addr×Obj)) (s:Shared) (σ:St) (H:Hp) (E:Value->Shared->Prop),Inv X pins σ H s->(∀b∈fp,bG X pins H b)->tn i s.heap->J.go i H ->
  wpAny (model P w) X.A (pyNext (.ref it)) (fun r s1=>∃ u,r=some u /\
   wpAny (model P w) X.A (letOwnedTupleGo tg (.ref it) u) (fun _ s2=>∃ x H',Inv X pins σ H' s2/\RelV x u/\J.yld i H x H'/\tn (i+1) s2.heap/\∀ b∈fp,H' b=none) E s1) E s
 done:∀(X:Cx),X.prog=P->X.w=w->X.K=K->X.calm=true->∀(i:Nat) (pins:List (Addr×Obj)) (s:Shared) (σ:St) (H:Hp) (E:Value->Shared->Prop),Inv X pins σ H s->(∀b∈fp,bG X pins H b)->tn i s.heap->J.stop i H ->
  wpAny (model P w) X.A (pyNext (.ref it)) (fun r s1=>r=none/\Inv X pins σ H s1) E s
 self:∀(A:Around) (i:Nat) (s:Shared) (Q:Value->Shared->Prop) (E:Value->Shared->Prop),tn i s.heap->Q (.ref it) s->wpAny (model P w) A (pyIter (.ref it)) Q E s
abbrev TI:=St->Hp->(It->Hp->Prop)->Prop
def PIE(X:Cx)(pins:List (Addr×Obj))(σ:St)(tg:Expr)(R:It->Hp->Prop)(itv:Value)(s2:Shared):Prop :=
 ∃(it:Addr) (fp:List Addr) (tn:Nat->Heap->Prop) (J:It) (H':Hp),itv=.ref it/\Inv X pins σ H' s2/\Turn X.prog X.w X.K tg J fp it tn/\tn 0 s2.heap/\(∀b∈fp,bG X pins H' b)/\R J H'
def PI(X:Cx)(tg iter:Expr)(wi:TI):Prop :=
 ∀(pins:List (Addr×Obj)) (s:Shared) (σ:St) (H:Hp) (R:It->Hp->Prop),Inv X pins σ H s->wi σ H R ->
  wpAny (model X.prog X.w) X.A (eval iter X.env) (fun v s1=>wpAny (model X.prog X.w) X.A (pyIter v) (PIE X pins σ tg R) X.xe s1) X.xe s
theorem kr{M:Model}{A:Around}{E:Value->Shared->Prop}{s:Shared}{tg:Expr}{it:Addr}{u:Value}{o:Obj}{n:String}{vs:Array Value}{Q:Unit->Shared->Prop}(ho:s.heap.get? it=some o)(hc:o.cls=.type n)(hd:o.data=.fields vs)(hn:["enumerate","zip","dict_itemiterator","dict_reverseitemiterator","odict_iterator","itertools.zip_longest","itertools.pairwise"].contains n=false)(hQ:Q () s):wpAny M A (letOwnedTupleGo tg (.ref it) u) Q E s:=by
 unfold letOwnedTupleGo;cases tg<;>first
  |exact zu hQ
  | (cases u<;>first
    |exact zu hQ
    | (refine zc (wpAny_load ho ?_)
       rw[hc,hd];show wpAny M A (if(["enumerate","zip","dict_itemiterator","dict_reverseitemiterator","odict_iterator","itertools.zip_longest","itertools.pairwise"].contains n&&vs[0]?==some (rawInt _))=true then _ else _) Q E s;rw[ym (by intro h;rw[hn,Bool.false_and]at h;cases h)];exact zu hQ))
def Itl(K:PySem.W.Frag)(a:Addr):It :=
 ⟨fun i H=>∃xs x,SqL K H a xs/\xs[i]?=some x,fun i H x H'=>H'=H/\∀xs,SqL K H a xs->xs[i]?=some x,fun i H=>∃xs,SqL K H a xs/\xs.length<=i⟩
def Itt(K:PySem.W.Frag)(a:Addr):It :=
 ⟨fun i H=>∃xs x,SqT K H a xs/\xs[i]?=some x,fun i H x H'=>H'=H/\∀xs,SqT K H a xs->xs[i]?=some x,fun i H=>∃xs,SqT K H a xs/\xs.length<=i⟩
def Itr(lo:Int)(n:Nat):It:=⟨fun i _=>i<n,fun i H x H'=>H'=H/\x=.int (lo+i),fun i _=>n<=i⟩
theorem qd{P:Program}{w:World}{K:PySem.W.Frag}{tg:Expr}(a it:Addr):Turn P w K tg (Itl K a) [it] it (fun i h=>h.IsListIter it a i) where
 mem:=by simp
 obj:=fun i h st b hb=>by
  have e:b=it:=by simpa using hb
  subst e;obtain⟨o,e,c,d⟩:=st;exact⟨o,e,fun v z=>by rw[d]at z;cases z⟩
 keep:=fun i h h' st k=>st.at fun o e=>k it (by simp) o e
 item:=by intro X hP hw hK hc i pins s σ H E I hf st hg;subst hP hw hK;obtain⟨xs,x,hq,hx⟩:=hg;obtain⟨its,rv,p,hz⟩:=I.list hq;obtain⟨u,hu,ru⟩:=rv.get hx;obtain⟨f0,f1,f2,f3,f4,f5⟩:=hf it (by simp);refine wpAny_pyNext_list_item st p.isList (x:=u) (by simpa using hu) fun h' st' sb=>?_;have I1:Inv X pins σ H { s with heap:=h' }:=I.turned (t':=s.toks) (fun b o hb e=>(sb.2 b hb).trans e) f0 f1 f3 f4 f5;obtain⟨o,e,c,d⟩:=id st';exact⟨u,rfl,kr (s:={ s with heap:=h' }) e c d (by decide) ⟨x,H,I1,ru,⟨rfl,fun ys hy=>by rw[I.list_inj hy hq];exact hx⟩,st',fun b hb=>(hf b hb).1⟩⟩
 done:=by intro X hP hw hK hc i pins s σ H E I hf st hg;subst hP hw hK;obtain⟨xs,hq,hx⟩:=hg;obtain⟨its,rv,p,hz⟩:=I.list hq;obtain⟨f0,f1,f2,f3,f4,f5⟩:=hf it (by simp);have hl:=rv.length;exact wpAny_pyNext_list_end (I.ok.hd hc) st p.isList (by simp;omega) fun h' eb=>⟨rfl,I.turned (t':=s.toks) (fun b o hb e=>eb b o hb e) f0 f1 f3 f4 f5⟩
 self:=fun _ _ _ _ _ st h=>wpAny_pyIter_listiter st h
theorem ol{P:Program}{w:World}{K:PySem.W.Frag}{tg:Expr}(a it:Addr):Turn P w K tg (Itt K a) [it] it (fun i h=>h.IsTupleIter it a i) where
 mem:=by simp
 obj:=fun i h st b hb=>by
  have e:b=it:=by simpa using hb
  subst e;obtain⟨o,e,c,d⟩:=st;exact⟨o,e,fun v z=>by rw[d]at z;cases z⟩
 keep:=fun i h h' st k=>st.at fun o e=>k it (by simp) o e
 item:=by intro X hP hw hK hc i pins s σ H E I hf st hg;subst hP hw hK;obtain⟨xs,x,hq,hx⟩:=hg;obtain⟨its,rv,p,hz⟩:=I.tuple hq;obtain⟨u,hu,ru⟩:=rv.get hx;obtain⟨f0,f1,f2,f3,f4,f5⟩:=hf it (by simp);refine wpAny_pyNext_tuple_item st (show s.heap.IsTuple a its.toArray from p) (x:=u) (by simpa using hu) fun h' st' sb=>?_;have I1:Inv X pins σ H { s with heap:=h' }:=I.turned (t':=s.toks) (fun b o hb e=>(sb.2 b hb).trans e) f0 f1 f3 f4 f5;obtain⟨o,e,c,d⟩:=id st';exact⟨u,rfl,kr (s:={ s with heap:=h' }) e c d (by decide) ⟨x,H,I1,ru,⟨rfl,fun ys hy=>by rw[I.tuple_inj hy hq];exact hx⟩,st',fun b hb=>(hf b hb).1⟩⟩
 done:=by intro X hP hw hK hc i pins s σ H E I hf st hg;subst hP hw hK;obtain⟨xs,hq,hx⟩:=hg;obtain⟨its,rv,p,hz⟩:=I.tuple hq;obtain⟨f0,f1,f2,f3,f4,f5⟩:=hf it (by simp);have hl:=rv.length;exact wpAny_pyNext_tuple_end (I.ok.hd hc) st (show s.heap.IsTuple a its.toArray from p) (by simp;omega) fun h' eb=>⟨rfl,I.turned (t':=s.toks) (fun b o hb e=>eb b o hb e) f0 f1 f3 f4 f5⟩
 self:=fun _ _ _ _ _ st h=>wpAny_pyIter_tupleiter st h
theorem oj{P:Program}{w:World}{K:PySem.W.Frag}{tg:Expr}(it:Addr)(lo:Int)(n:Nat):Turn P w K tg (Itr lo n) [it] it (fun i h=>IsRangeIter h it (lo+(i:Nat)*1) ((n:Int)-(i:Nat)) 1) where
 mem:=by simp
 obj:=fun i h st b hb=>by
  have e:b=it:=by simpa using hb
  subst e;exact⟨_,st,fun v z=>by
   have z':Data.fields _=Data.cell v:=z;cases z'⟩
 keep:=fun i h h' st k=>k it (by simp) _ st
 item:=by intro X hP hw hK hc i pins s σ H E I hf st hg;subst hP hw hK;obtain⟨f0,f1,f2,f3,f4,f5⟩:=hf it (by simp);have W:=Walks.range (prog:=X.prog) (w:=X.w) (I.ok.hd hc) it lo 1 n;refine W.item i s _ _ hg st fun v h' tk hv st' kk=>?_;obtain⟨t,rfl⟩:=hv;have I1:Inv X pins σ H { s with heap:=h',toks:=tk }:=I.turned (fun b o hb e=>kk b o (by simpa using hb) e) f0 f1 f3 f4 f5;refine⟨_,rfl,kr (s:={ s with heap:=h',toks:=tk }) (n:="range_iterator") st' rfl rfl (by decide) ⟨.int (lo+i),H,I1,⟨t,?_⟩,⟨rfl,rfl⟩,st',fun b hb=>(hf b hb).1⟩⟩;rw[Int.mul_one]
 done:=by intro X hP hw hK hc i pins s σ H E I hf st hg;subst hP hw hK;obtain⟨f0,f1,f2,f3,f4,f5⟩:=hf it (by simp);exact wpAny_pyNext_range_end (I.ok.hd hc) st (by have:n<=i:=hg;omega) fun h' eb=>⟨rfl,I.turned (t':=s.toks) (fun b o hb e=>eb b o hb e) f0 f1 f3 f4 f5⟩
 self:=fun _ _ _ _ _ st h=>wpAny_pyIter_rangeiter st h
open PySem PySem.Spec PyProof.Rows
section
variable{X:Cx}{tg:Expr}
def rN(K:PySem.W.Frag)(tl:TE):TI:=fun σ H R=>tl σ H fun x H1=>∃a,x=.ref a/\(∃xs,SqL K H1 a xs)/\R (Itl K a) H1
def uK(K:PySem.W.Frag)(tl:TE):TI:=fun σ H R=>tl σ H fun x H1=>∃a,x=.ref a/\(∃xs,SqT K H1 a xs)/\R (Itt K a) H1
theorem tQ{l:Expr}{tl:TE}(hl:PE X l tl):PI X tg l (rN X.K tl):=by
 intro pins s σ H R I h;refine thn (hl pins s σ H _ I h) fun v s1 hz9=>?_;obtain⟨x,H1,I1,r1,q1⟩:=hz9;obtain⟨a,e,⟨xs,hq⟩,q⟩:=q1;subst e;cases r1;obtain⟨its,rv,p,hz⟩:=I1.list hq;refine wpAny_pyIter_list p.isList ?_;refine⟨s1.heap.objs.size,[s1.heap.objs.size],_,_,H1,rfl,I1.kept (t':=s1.toks) fun b o e=>zj _ e,qd a _,⟨_,zI _ rfl,rfl,rfl⟩,fun b hb=>?_,q⟩;have e:b=s1.heap.objs.size:=by simpa using hb
 subst e;exact I1.fpOk (zd _) (I1.hok.fresh (zd _))
theorem vG{l:Expr}{tl:TE}(hl:PE X l tl):PI X tg l (uK X.K tl):=by
 intro pins s σ H R I h;refine thn (hl pins s σ H _ I h) fun v s1 hz9=>?_;obtain⟨x,H1,I1,r1,q1⟩:=hz9;obtain⟨a,e,⟨xs,hq⟩,q⟩:=q1;subst e;cases r1;obtain⟨its,rv,p,hz⟩:=I1.tuple hq;refine wpAny_pyIter_tuple (show s1.heap.IsTuple a its.toArray from p) ?_;refine⟨s1.heap.objs.size,[s1.heap.objs.size],_,_,H1,rfl,I1.kept (t':=s1.toks) fun b o e=>zj _ e,ol a _,⟨_,zI _ rfl,rfl,rfl⟩,fun b hb=>?_,q⟩;have e:b=s1.heap.objs.size:=by simpa using hb
 subst e;exact I1.fpOk (zd _) (I1.hok.fresh (zd _))
theorem ro{pins:List (Addr×Obj)}{σ:St}{H:Hp}{s:Shared}{R:It->Hp->Prop}{E:Value->Shared->Prop}{lo hi:Int}{t u v:Tok}{tk:Nat}(I:Inv X pins σ H s)(h1:-(2^62)<=lo)(h2:lo<2^62)(h3:-(2^62)<=hi)(h4:hi<2^62)(q:R (Itr lo (hi-lo).toNat) H):wpAny (model X.prog X.w) X.A (pyIter (.ref s.heap.objs.size)) (PIE X pins σ tg R) E { s with heap:=s.heap.push { cls:=.type "range",data:=.fields #[.int lo t,.int hi u,.int 1 v] },toks:=tk }:=by
 refine wpAny_pyIter_range (IsRange.new ..) (small_one h1 h2 h3 h4) ?_;have I1:Inv X pins σ H { s with heap:=s.heap.push { cls:=.type "range",data:=.fields #[.int lo t,.int hi u,.int 1 v] },toks:=tk }:=I.kept fun b o e=>zj _ e;refine⟨(s.heap.push { cls:=.type "range",data:=.fields #[.int lo t,.int hi u,.int 1 v] }).objs.size,[(s.heap.push { cls:=.type "range",data:=.fields #[.int lo t,.int hi u,.int 1 v] }).objs.size],_,_,H,rfl,
  I1.kept (t':=tk) fun b o e=>zj _ e,oj _ lo (hi - lo).toNat,?_,fun b hb=>?_,q⟩
 ·have e1:lo+((0:Nat):Int)*1=lo:=by simp
  have e2:(((hi-lo).toNat:Nat):Int)-((0:Nat):Int)=Builtin.Range.rangeSize lo hi 1:=by rw[rangeSize_one];split<;>omega
  show IsRangeIter _ _ (lo+((0:Nat):Int)*1) ((((hi-lo).toNat:Nat):Int)-((0:Nat):Int)) 1;rw[e1,e2];exact zI _ rfl
 ·have e:b=(s.heap.push { cls:=.type "range",data:=.fields #[.int lo t,.int hi u,.int 1 v] }).objs.size:=by simpa using hb
  subst e;exact I1.fpOk (zd _) (I1.hok.fresh (zd _))
def rO(ta:TA):TI:=fun σ H R=>ta σ H fun vs H1=>∃j:Int,vs=[.int j]/\-(2^62)<=j/\j<2^62/\R (Itr 0 j.toNat) H1
theorem pH{a:Expr}{ta:TA}{p pos:Pos}(hg:Gl X "range")(hm:X.mg "range" = none)(ha:PA X [a] ta)(hs:starEach [a] X.env=[(false,eval a X.env)]:=by rfl):PI X tg (.Call (.Name "range" p) [a] [] pos) (rO ta):=by
 intro pins s σ H R I h;refine Call_ (iN I hg hm boot_range (PyProof.Rows.callWith_type1 (thn (ha pos pins s σ H _ I h) fun us s1 hz9=>?_) hs rfl));obtain⟨vs,H1,I1,r1,q1⟩:=hz9;obtain⟨j,e,q1,q2,q⟩:=q1;subst e;cases r1 with
 |cons r rr =>cases rr;obtain⟨t,rfl⟩:=r;exact call_range_1 (ro I1 (by omega) (by omega) q1 q2 (by simpa using q))
def wj(wi:TI)(g:TG)(tb:TS):TS:=fun D σ H=>wi σ H fun J H1=>∃W:Nat->Nat->St->Hp->Prop,(∃m,W 0 m σ H1)/\∀i m σ H,W i m σ H ->
 (J.stop i H/\D.nx σ H)\/(J.go i H/\∃N:St->Hp->Prop,(∀σ' H',N σ' H'->∃m',m'<m/\W (i+1) m' σ' H')/\∀x H',J.yld i H x H'->g x σ H' fun σ2 H2=>tb { D with nx:=N,ct:=N,bk:=D.nx } σ2 H2)
def fV(fp:List Addr)(h:Heap):List (Addr×Obj):=fp.filterMap fun b=>(h.get? b).map fun o=>(b,o)
theorem dv{fp:List Addr}{h:Heap}{b:Addr}{o:Obj}(hb:b∈fp)(e:h.get? b=some o):(b,o)∈fV fp h:=List.mem_filterMap.mpr ⟨b,hb,by rw[e];rfl⟩
theorem pw{fp:List Addr}{h:Heap}{p:Addr×Obj}(hp:p∈fV fp h):p.1∈fp/\h.get? p.1=some p.2:=by
 obtain⟨b,hb,e⟩:=List.mem_filterMap.mp hp;cases q:h.get? b with
 |none=>rw[q]at e;cases e
 |some o =>rw[q]at e;have e':(b,o)=p:=zt e;subst e';exact⟨hb,q⟩
theorem Inv.pinned{pins:List (Addr×Obj)}{σ:St}{H:Hp}{s:Shared}{fp:List Addr}(I:Inv X pins σ H s)(hf:∀b∈fp,bG X pins H b)(ho:∀b∈fp,∃o,s.heap.get? b=some o/\∀v,o.data≠.cell v):Inv X (pins++fV fp s.heap) σ H s :=
 I.pins_of fun p hp=>(zy.mp hp).elim (fun z=>I.pin p (zO _ z)) fun z=>by obtain⟨hb,e⟩:=pw z;obtain⟨f0,f1,f2,_⟩:=hf p.1 hb;obtain⟨o,e',d⟩:=ho p.1 hb;rw[e]at e';cases e';exact⟨e,f0,f1,f2,d⟩
theorem Inv.unpinned{pins pl:List (Addr×Obj)}{σ:St}{H:Hp}{s:Shared}(I:Inv X (pins++pl) σ H s):Inv X pins σ H s:=I.pins_of fun p hp=>I.pin p (zO _ (List.mem_append_left _ hp))
theorem vJ{iter:Expr}{body:List Stmt}{wi:TI}{g:TG}{tb:TS}{pos:Pos}(hp:PassesOwn (model X.prog X.w) X.A X.env X.xe)(hc:X.calm=true)(hi:PI X tg iter wi)(hg:PG X tg g)(hb:PSs X body tb)(hs:∀x,foldedSetIterable iter X.env x=pure x:=by intro _;rfl):PS X (.For tg iter body [] pos) (wj wi g tb):=by
 intro pins s σ H D I h;refine wpAny_For (thn (hi pins s σ H _ I h) fun v s1 h1=>thn h1 fun itv s2 h2=>?_) hs;obtain⟨it,fp,tn,J,H2,e,I2,T,st2,f2,W,⟨m0,w0⟩,turn⟩:=h2;subst e;have stat:∀{H':Hp},(∀b∈fp,H' b=none)->∀b∈fp,bG X pins H' b:=fun hn b hb=>⟨hn b hb,(f2 b hb).2⟩
 refine codeAny_forLoop_any (fun n s'=>∃i σ' H',Inv X pins σ' H' s'/\tn i s'.heap/\(∀b∈fp,H' b=none)/\W i n σ' H') ?_ m0 ⟨0,σ,H2,I2,st2,fun b hb=>(f2 b hb).1,w0⟩;rintro n s3 ⟨i,σ3,H3,I3,st3,fr3,w3⟩;rcases turn i n σ3 H3 w3 with⟨stop,qn⟩|⟨go,N,hN,step⟩
 ·refine wpAny_passesOwn hp (thn (T.done X rfl rfl rfl hc i pins s3 σ3 H3 X.xe I3 (stat fr3) st3 stop) fun r s4 ⟨hr,I4⟩=>?_);subst hr;exact wpAny_execs_nil ⟨σ3,H3,I4,qn⟩
 ·refine wpAny_passesOwn hp (thn (T.item X rfl rfl rfl hc i pins s3 σ3 H3 X.xe I3 (stat fr3) st3 go) fun r s4 ⟨u,hr,h4⟩=>?_);subst hr;refine wpAny_passesOwn hp (thn h4 fun _ s5 hz9=>?_);obtain⟨x,H5,I5,r5,y5,st5,fr5⟩:=hz9;have I5':=I5.pinned (stat fr5) (T.obj _ _ st5);refine wpAny_passesOwn hp (thn (hg _ s5 σ3 H5 x u _ I5' r5 (step x H5 y5)) fun _ s6 ⟨σ6,H6,I6,q6⟩=>?_);refine wpAny_passesOwn hp (thn (hb _ s6 σ6 H6 _ I6 q6) fun f s7 q7=>?_);have again:∀{σ7:St} {H7:Hp},Inv X (pins++fV fp s5.heap) σ7 H7 s7->N σ7 H7->∃m,m<n/\∃i σ' H',Inv X pins σ' H' s7/\tn i s7.heap/\(∀b∈fp,H' b=none)/\W i m σ' H':=fun{σ7 H7} I7 n7=>by obtain⟨m',hm,w7⟩:=hN σ7 H7 n7;refine⟨m',hm,i+1,σ7,H7,I7.unpinned,T.keep _ _ _ st5 fun b hb o e=>(I7.pin (b,o) (zO _ (zO _ (dv hb e)))).1,fun b hb=>?_,w7⟩;obtain⟨o,e,d⟩:=T.obj _ _ st5 b hb;exact(I7.pin (b,o) (zO _ (zO _ (dv hb e)))).2.1
  cases f with
  |next=>obtain⟨σ7,H7,I7,n7⟩:=q7;exact again I7 n7
  |cont=>obtain⟨σ7,H7,I7,n7⟩:=q7;exact again I7 n7
  |brk=>obtain⟨σ7,H7,I7,q7⟩:=q7;exact⟨σ7,H7,I7.unpinned,q7⟩
  |ret v=>obtain⟨x7,σ7,H7,I7,r7,q7⟩:=q7;exact⟨x7,σ7,H7,I7.unpinned,r7,q7⟩
end
theorem qF{K:PySem.W.Frag}{a:Addr}{xs:List V}{g:TG}{tb:TS}{D:Ends}{σ:St}{H:Hp}(Pv:Nat->St->Hp->Prop)(h0:Pv 0 σ H)(hl:∀i σ H,i<=xs.length->Pv i σ H->SqL K H a xs)(hs:∀i x σ H,xs[i]?=some x->Pv i σ H->g x σ H fun σ2 H2=>tb { D with nx:=Pv (i+1),ct:=Pv (i+1),bk:=D.nx } σ2 H2)(hd:∀σ H,Pv xs.length σ H->D.nx σ H) :
  ∃W:Nat->Nat->St->Hp->Prop,(∃m,W 0 m σ H)/\∀i m σ H,W i m σ H ->
   ((Itl K a).stop i H/\D.nx σ H)\/((Itl K a).go i H/\∃N:St->Hp->Prop,(∀σ' H',N σ' H'->∃m',m'<m/\W (i+1) m' σ' H')/\∀x H',(Itl K a).yld i H x H'->g x σ H' fun σ2 H2=>tb { D with nx:=N,ct:=N,bk:=D.nx } σ2 H2):=by
 refine⟨fun i m σ H=>m=xs.length-i/\i<=xs.length/\Pv i σ H,⟨xs.length,by simp,zW _,h0⟩,?_⟩;rintro i m σ H ⟨rfl,hi,p⟩;have q:=hl i σ H hi p;by_cases hlt:i<xs.length
 ·refine .inr ⟨⟨xs,xs[i],q,by simp[hlt]⟩,Pv (i+1),fun σ' H' p'=>⟨xs.length-(i+1),by omega,rfl,hlt,p'⟩,fun x H' y=>?_⟩;obtain⟨e,y⟩:=y;subst e;exact hs i x σ _ (y xs q) p
 ·have e:i=xs.length:=by omega
  subst e;exact .inl ⟨⟨xs,q,zd _⟩,hd σ H p⟩
theorem oS{lo:Int}{n:Nat}{g:TG}{tb:TS}{D:Ends}{σ:St}{H:Hp}(Pv:Nat->St->Hp->Prop)(h0:Pv 0 σ H)(hs:∀i σ H,i<n->Pv i σ H->g (.int (lo+i)) σ H fun σ2 H2=>tb { D with nx:=Pv (i+1),ct:=Pv (i+1),bk:=D.nx } σ2 H2)(hd:∀σ H,Pv n σ H->D.nx σ H) :
  ∃W:Nat->Nat->St->Hp->Prop,(∃m,W 0 m σ H)/\∀i m σ H,W i m σ H ->
   ((Itr lo n).stop i H/\D.nx σ H)\/((Itr lo n).go i H/\∃N:St->Hp->Prop,(∀σ' H',N σ' H'->∃m',m'<m/\W (i+1) m' σ' H')/\∀x H',(Itr lo n).yld i H x H'->g x σ H' fun σ2 H2=>tb { D with nx:=N,ct:=N,bk:=D.nx } σ2 H2):=by
 refine⟨fun i m σ H=>m=n-i/\i<=n/\Pv i σ H,⟨n,by simp,zW _,h0⟩,?_⟩;rintro i m σ H ⟨rfl,hi,p⟩;by_cases hlt:i<n
 ·refine .inr ⟨hlt,Pv (i+1),fun σ' H' p'=>⟨n-(i+1),by omega,rfl,hlt,p'⟩,fun x H' y=>?_⟩;obtain⟨e,y⟩:=y;subst e y;exact hs i σ _ hlt p
 ·have e:i=n:=by omega
  subst e;exact .inl ⟨zd _,hd σ H p⟩
open PySem PySem.Spec PyProof.Rows
abbrev R2:=V->V->Hp->VK->Prop
def OpR(X:Cx)(f:Value->Value->Sem Value)(r:R2):Prop :=
 ∀(pins:List (Addr×Obj)) (s:Shared) (σ:St) (H:Hp) (x y:V) (v u:Value) (Q:VK),Inv X pins σ H s->RelV x v->RelV y u->r x y H Q ->
  wpAny (model X.prog X.w) X.A (f v u) (EP X pins σ Q) X.xe s
def UnR(X:Cx)(f:Value->Sem Value)(r:V->Hp->VK->Prop):Prop :=
 ∀(pins:List (Addr×Obj)) (s:Shared) (σ:St) (H:Hp) (x:V) (v:Value) (Q:VK),Inv X pins σ H s->RelV x v->r x H Q ->
  wpAny (model X.prog X.w) X.A (f v) (EP X pins σ Q) X.xe s
def dk(X:Cx)(f:Value)(r:List V->Hp->VK->Prop):Prop :=
 ∀(pins:List (Addr×Obj)) (s:Shared) (σ:St) (H:Hp) (xs:List V) (us:List Value) (Q:VK),Inv X pins σ H s->Vals xs us->r xs H Q ->
  wpAny (model X.prog X.w) X.A (call f us) (EP X pins σ Q) X.xe s
def tOp(r:R2)(ta tb:TE):TE:=fun σ H Q=>ta σ H fun x H1=>tb σ H1 fun y H2=>r x y H2 Q
def tUn(r:V->Hp->VK->Prop)(ta:TE):TE:=fun σ H Q=>ta σ H fun x H1=>r x H1 Q
inductive rI(C:Int->Int->Prop)(g:Int->Int->V)(x:V)(y:V)(H:Hp)(Q:VK):Prop
 |mk (i j:_) (h0:x=.int i) (h1:y=.int j) (h2:C i j) (h3:Q (g i j) H):rI C g x y H Q
inductive rI0(g:Int->Int->V)(x:V)(y:V)(H:Hp)(Q:VK):Prop
 |mk (i j:_) (h0:x=.int i) (h1:y=.int j) (h2:Q (g i j) H):rI0 g x y H Q
def rU(g:Int->V):V->Hp->VK->Prop:=fun x H Q=>∃i,x=.int i/\Q (g i) H
section
variable{X:Cx}{a b c:Expr}{ta tb tc:TE}{pos:Pos}
theorem qr(ha:PE X a ta)(hb:PE X b tb){pins:List (Addr×Obj)}{s:Shared}{σ:St}{H:Hp}{R:V->V->Hp->Prop}(I:Inv X pins σ H s)(h:ta σ H fun x H1=>tb σ H1 fun y H2=>R x y H2){Q:Value->Shared->Prop}{f:Value->Value->Sem Value}(hf:∀v u s2 x y H2,Inv X pins σ H2 s2->RelV x v->RelV y u->R x y H2->wpAny (model X.prog X.w) X.A (f v u) Q X.xe s2) :
  wpAny (model X.prog X.w) X.A (eval a X.env) (fun v s₁=>wpAny (model X.prog X.w) X.A (eval b X.env) (fun u s₂=>wpAny (model X.prog X.w) X.A (f v u) Q X.xe s₂) X.xe s₁) X.xe s:=by
 refine thn (ha pins s σ H _ I h) fun v s1 hz9=>?_;obtain⟨x,H1,I1,r1,q1⟩:=hz9;refine thn (hb pins s1 σ H1 _ I1 q1) fun u s2 hz9=>?_;obtain⟨y,H2,I2,r2,q2⟩:=hz9;exact hf v u s2 x y H2 I2 r1 r2 q2
theorem xu{op:Operator}{r:R2}(ho:OpR X (binaryOp op) r)(ha:PE X a ta)(hb:PE X b tb):PE X (.BinOp a op b pos) (tOp r ta tb):=by intro pins s σ H Q I h;exact wpAny_BinOp (qr ha hb I h fun v u s2 x y H2 I2 rx ry q=>ho pins s2 σ H2 x y v u Q I2 rx ry q)
theorem xw{op:UnaryOp}{r:V->Hp->VK->Prop}(ho:UnR X (unaryOp op) r)(ha:PE X a ta):PE X (.UnaryOp op a pos) (tUn r ta):=by intro pins s σ H Q I h;exact UnaryOp_ (thn (ha pins s σ H _ I h) fun v s1 ⟨x,H1,I1,r1,q1⟩=>ho pins s1 σ H1 x v Q I1 r1 q1)
theorem opI{f:Value->Value->Sem Value}{C:Int->Int->Prop}{g:Int->Int->Int}(rule:∀(i j:Int) (t u:Tok) (s:Shared) (Q:Value->Shared->Prop) (E:Value->Shared->Prop),C i j->Q (.int (g i j) s.toks) { s with toks:=s.toks+1 }->wpAny (model X.prog X.w) X.A (f (.int i t) (.int j u)) Q E s) :
  OpR X f (rI C fun i j=>.int (g i j)):=by
 intro pins s σ H x y v u Q I rx ry h;obtain⟨i,j,rfl,rfl,hc,q⟩:=h;obtain⟨t,rfl⟩:=rx;obtain⟨t',rfl⟩:=ry;exact rule i j t t' s _ _ hc ⟨.int (g i j),H,I.tok _,⟨_,rfl⟩,q⟩
theorem va{f:Value->Value->Sem Value}{g:Int->Int->Int}(rule:∀(i j:Int) (t u:Tok) (s:Shared) (Q:Value->Shared->Prop) (E:Value->Shared->Prop),Q (.int (g i j) s.toks) { s with toks:=s.toks+1 }->wpAny (model X.prog X.w) X.A (f (.int i t) (.int j u)) Q E s) :
  OpR X f (rI0 fun i j=>.int (g i j)):=by
 intro pins s σ H x y v u Q I rx ry h;obtain⟨i,j,rfl,rfl,q⟩:=h;obtain⟨t,rfl⟩:=rx;obtain⟨t',rfl⟩:=ry;exact rule i j t t' s _ _ ⟨.int (g i j),H,I.tok _,⟨_,rfl⟩,q⟩
theorem qW{f:Value->Value->Sem Value}{g:Int->Int->Bool}(rule:∀(i j:Int) (t u:Tok) (s:Shared) (Q:Value->Shared->Prop) (E:Value->Shared->Prop),Q (.bool (g i j)) s->wpAny (model X.prog X.w) X.A (f (.int i t) (.int j u)) Q E s) :
  OpR X f (rI0 fun i j=>.bl (g i j)):=by
 intro pins s σ H x y v u Q I rx ry h;obtain⟨i,j,rfl,rfl,q⟩:=h;obtain⟨t,rfl⟩:=rx;obtain⟨t',rfl⟩:=ry;exact rule i j t t' s _ _ ⟨.bl (g i j),H,I,rfl,q⟩
def ul(i j:Int):Prop:=0<j/\j<1073741824
def um(i j:Int):Prop:=0<=j/\j<=1000000/\i.natAbs<2^64
def CMul(i j:Int):Prop:=(-(2^64)<i/\i<2^64)\/(-(2^64)<j/\j<2^64)
theorem CMul.ok{i j:Int}(h:CMul i j):IntMulOk i j:=by
 rcases h with⟨h1,h2⟩|⟨h1,h2⟩
 ·exact .of_left (intBits_le_64 h1 h2)
 ·exact .of_right (intBits_le_64 h1 h2)
theorem vb:OpR X (binaryOp .Add) (rI0 fun i j=>.int (i+j)):=va fun _ _ _ _ _ _ _ q=>add_int q
theorem vp:OpR X (binaryOp .Sub) (rI0 fun i j=>.int (i-j)):=va fun _ _ _ _ _ _ _ q=>sub_int q
theorem vk:OpR X (binaryOp .Mult) (rI CMul fun i j=>.int (i*j)):=opI fun _ _ _ _ _ _ _ hc q=>mul_int q hc.ok
theorem sZ:OpR X (binaryOp .FloorDiv) (rI ul fun i j=>.int (i / j)):=opI fun i j _ _ _ _ _ hc q=>by have h1:(0:Int)<j:=hc.1;have h2:j<1073741824:=hc.2;exact floordiv_int (by omega) (by rw[Int.fdiv_eq_ediv_of_nonneg i (by omega)];exact q) (.inl (PyProof.noPylong_small (by omega)))
theorem vh:OpR X (binaryOp .Mod) (rI (fun _ j=>0<j) fun i j=>.int (i%j)):=opI fun i j _ _ _ _ _ hc q=>by have h1:(0:Int)<j:=hc;exact mod_int' (by omega) (by rw[Int.fmod_eq_emod_of_nonneg i (by omega)];exact q)
theorem vo:OpR X (binaryOp .Pow) (rI um fun i j=>.int (i^j.toNat)):=opI fun _ _ _ _ _ _ _ hc q=>pow_int_small hc.1 hc.2.1 hc.2.2 q
theorem unI{f:Value->Sem Value}{g:Int->Int}(rule:∀(i:Int) (t:Tok) (s:Shared) (Q:Value->Shared->Prop) (E:Value->Shared->Prop),Q (.int (g i) s.toks) { s with toks:=s.toks+1 }->wpAny (model X.prog X.w) X.A (f (.int i t)) Q E s) :
  UnR X f (rU fun i=>.int (g i)):=by
 intro pins s σ H x v Q I rx h;obtain⟨i,rfl,q⟩:=h;obtain⟨t,rfl⟩:=rx;exact rule i t s _ _ ⟨.int (g i),H,I.tok _,⟨_,rfl⟩,q⟩
theorem wr:UnR X (unaryOp .USub) (rU fun i=>.int (-i)):=unI fun _ _ _ _ _ q=>neg_int q
end
def vZ:V->V->Bool
 |.non,.non=>true|.non,.int _=>true|.int _,.non=>true|.non,.bl _=>true|.bl _,.non=>true|.non,.str _=>true|.str _,.non=>true
 |.int _,.int _=>true|.bl _,.bl _=>true|.str _,.str _=>true|.byt _,.byt _=>true
 |.int _,.str _=>true|.str _,.int _=>true|.bl _,.str _=>true|.str _,.bl _=>true
 |_,_=>false
def rEq:R2:=fun x y H Q=>vZ x y=true/\Q (.bl (decide (x=y))) H
def rNe:R2:=fun x y H Q=>vZ x y=true/\Q (.bl (!decide (x=y))) H
theorem mt{i j:Int}:decide (V.int i=V.int j)=(i==j):=by rw[Zi];simp
theorem oK{i j:Bool}:decide (V.bl i=V.bl j)=(i==j):=by rw[Zi];simp
theorem mv{i j:Str}:decide (V.str i=V.str j)=(i==j):=by rw[Zi];simp
theorem mr{i j:Array UInt8}:decide (V.byt i=V.byt j)=(i.toList==j.toList):=by rw[Zi];cases i;cases j;simp
section
variable{X:Cx}{a b c:Expr}{ta tb tc:TE}{pos:Pos}
theorem ay{pins:List (Addr×Obj)}{σ:St}{H:Hp}{s:Shared}{Q:VK}{k k':Bool}(I:Inv X pins σ H s)(q:Q (.bl k) H)(e:k=k'):EP X pins σ Q (.bool k') s:=by subst e;exact⟨.bl k,H,I,rfl,q⟩
theorem xl:OpR X (compareOp .Eq) rEq:=by
 intro pins s σ H x y v u Q I rx ry h;obtain⟨hs,q⟩:=h;cases x with
 |non =>
  cases rx;cases y with
  |non=>cases ry;exact PySem.EqNone.eq_none_none (ay I q (by simp))
  |bl j=>cases ry;exact PySem.EqNone.eq_none_bool (ay I q (by simp))
  |int j=>obtain⟨t',rfl⟩:=ry;exact PySem.EqNone.eq_none_int (ay I q (by simp))
  |str j=>obtain⟨t',rfl⟩:=ry;exact PySem.EqNone.eq_none_str (ay I q (by simp))
  |_=>exact absurd (show false=true from hs) zn
 |bl i =>
  cases rx;cases y with
  |non=>cases ry;exact PySem.EqNone.eq_bool_none (ay I q (by simp))
  |bl j=>cases ry;exact eq_bool (ay I q oK)
  |str j=>obtain⟨t',rfl⟩:=ry;exact PySem.EqMixed.eq_bool_str (ay I q (by simp))
  |_=>exact absurd (show false=true from hs) zn
 |int i =>
  obtain⟨t,rfl⟩:=rx;cases y with
  |non=>cases ry;exact PySem.EqNone.eq_int_none (ay I q (by simp))
  |int j=>obtain⟨t',rfl⟩:=ry;exact eq_int (ay I q mt)
  |str j=>obtain⟨t',rfl⟩:=ry;exact PySem.EqMixed.eq_int_str (ay I q (by simp))
  |_=>exact absurd (show false=true from hs) zn
 |str i =>
  obtain⟨t,rfl⟩:=rx;cases y with
  |non=>cases ry;exact PySem.EqNone.eq_str_none (ay I q (by simp))
  |bl j=>cases ry;exact PySem.EqMixed.eq_str_bool (ay I q (by simp))
  |int j=>obtain⟨t',rfl⟩:=ry;exact PySem.EqMixed.eq_str_int (ay I q (by simp))
  |str j=>obtain⟨t',rfl⟩:=ry;exact eq_str (ay I q mv)
  |_=>exact absurd (show false=true from hs) zn
 |byt i =>
  obtain⟨t,rfl⟩:=rx;cases y with
  |byt j=>obtain⟨t',rfl⟩:=ry;exact PySem.W.eq_bytes (ay I q mr)
  |_=>exact absurd (show false=true from hs) zn
 |_=>cases y<;>exact absurd (show false=true from hs) zn
theorem xp:OpR X (compareOp .NotEq) rNe:=by
 intro pins s σ H x y v u Q I rx ry h;obtain⟨hs,q⟩:=h;cases x with
 |non =>
  cases rx;cases y with
  |non=>cases ry;exact PySem.EqNone.ne_none_none (ay I q (by simp))
  |bl j=>cases ry;exact PySem.EqNone.ne_none_bool (ay I q (by simp))
  |int j=>obtain⟨t',rfl⟩:=ry;exact PySem.EqNone.ne_none_int (ay I q (by simp))
  |str j=>obtain⟨t',rfl⟩:=ry;exact PySem.EqNone.ne_none_str (ay I q (by simp))
  |_=>exact absurd (show false=true from hs) zn
 |bl i =>
  cases rx;cases y with
  |non=>cases ry;exact PySem.EqNone.ne_bool_none (ay I q (by simp))
  |bl j=>cases ry;exact ne_bool (ay I q (zS not oK))
  |str j=>obtain⟨t',rfl⟩:=ry;exact PySem.EqMixed.ne_bool_str (ay I q (by simp))
  |_=>exact absurd (show false=true from hs) zn
 |int i =>
  obtain⟨t,rfl⟩:=rx;cases y with
  |non=>cases ry;exact PySem.EqNone.ne_int_none (ay I q (by simp))
  |int j=>obtain⟨t',rfl⟩:=ry;exact ne_int (ay I q (zS not mt))
  |str j=>obtain⟨t',rfl⟩:=ry;exact PySem.EqMixed.ne_int_str (ay I q (by simp))
  |_=>exact absurd (show false=true from hs) zn
 |str i =>
  obtain⟨t,rfl⟩:=rx;cases y with
  |non=>cases ry;exact PySem.EqNone.ne_str_none (ay I q (by simp))
  |bl j=>cases ry;exact PySem.EqMixed.ne_str_bool (ay I q (by simp))
  |int j=>obtain⟨t',rfl⟩:=ry;exact PySem.EqMixed.ne_str_int (ay I q (by simp))
  |str j=>obtain⟨t',rfl⟩:=ry;exact ne_str (ay I q (zS not mv))
  |_=>exact absurd (show false=true from hs) zn
 |byt i =>
  obtain⟨t,rfl⟩:=rx;cases y with
  |byt j=>obtain⟨t',rfl⟩:=ry;exact PySem.W.ne_bytes (ay I q (zS not mr))
  |_=>exact absurd (show false=true from hs) zn
 |_=>cases y<;>exact absurd (show false=true from hs) zn
theorem xo:OpR X (compareOp .Lt) (rI0 fun i j=>.bl (decide (i<j))):=qW fun _ _ _ _ _ _ _ q=>lt_int q
theorem xn:OpR X (compareOp .LtE) (rI0 fun i j=>.bl (decide (i<=j))):=qW fun _ _ _ _ _ _ _ q=>le_int q
theorem xm:OpR X (compareOp .Gt) (rI0 fun i j=>.bl (decide (j<i))):=qW fun _ _ _ _ _ _ _ q=>gt_int q
theorem ve:OpR X (compareOp .Is) (fun x y H Q=>y=.non/\Q (.bl (decide (x=.non))) H):=by
 intro pins s σ H x y v u Q I rx ry h;obtain⟨rfl,q⟩:=h;cases ry;refine is_none_gen (ay I q ?_);cases x<;>first
  |(cases rx;rfl)
  |(obtain⟨t,rfl⟩:=rx;rfl)
theorem ti:OpR X (compareOp .IsNot) (fun x y H Q=>y=.non/\Q (.bl (!decide (x=.non))) H):=by
 intro pins s σ H x y v u Q I rx ry h;obtain⟨rfl,q⟩:=h;cases ry;refine isnot_none_gen (ay I q ?_);cases x<;>first
  |(cases rx;rfl)
  |(obtain⟨t,rfl⟩:=rx;rfl)
theorem pq(b:Expr){op:CmpOp}(h:op≠.In:=by decide)(h2:op≠.NotIn:=by decide):behindInMarks op b=false:=by
 have e1:(op==CmpOp.In)=false:=by cases op<;>first|rfl|exact absurd rfl h
 have e2:(op==CmpOp.NotIn)=false:=by cases op<;>first|rfl|exact absurd rfl h2
 cases b<;>simp[behindInMarks,e1,e2]
theorem tJ{op:CmpOp}{r:R2}(ho:OpR X (compareOp op) r)(ha:PE X a ta)(hb:PE X b tb)(hm:behindInMarks op b=false):PE X (.Compare a [op] [b] pos) (tOp r ta tb):=by intro pins s σ H Q I h;exact wpAny_Compare1 (qr ha hb I h fun v u s2 x y H2 I2 rx ry q=>ho pins s2 σ H2 x y v u Q I2 rx ry q) hm
def iY(t:TE):TT:=fun σ H Q=>t σ H fun x H1=>IsB x H1 Q
theorem tY{op:CmpOp}{r:R2}(ho:OpR X (compareOp op) r)(ha:PE X a ta)(hb:PE X b tb)(hm:behindInMarks op b=false):PT X (.Compare a [op] [b] pos) (iY (tOp r ta tb)):=by
 intro pins s σ H Q I h;refine wpAny_isTrue_Compare1 (thn (ha pins s σ H _ I h) fun v s1 ⟨x,H1,I1,r1,q1⟩=>thn (hb pins s1 σ H1 _ I1 q1) fun u s2 ⟨y,H2,I2,r2,q2⟩ =>
  thn (ho pins s2 σ H2 x y v u _ I2 r1 r2 q2) fun c s3 ⟨z,H3,I3,r3,k,e,q3⟩=>?_) hm
 subst e;cases r3;exact zZ ⟨H3,I3,q3⟩
def pY(r r':R2)(ta tb tc:TE):TE:=fun σ H Q=>ta σ H fun x H1=>tb σ H1 fun y H2=>r x y H2 fun z H3=>∃k,z=.bl k /\
 (if k=true then tc σ H3 fun w' H4=>r' y w' H4 Q else Q (.bl false) H3)
theorem ri{op op':CmpOp}{r r':R2}(ho:OpR X (compareOp op) r)(ho':OpR X (compareOp op') r')(ha:PE X a ta)(hb:PE X b tb)(hc:PE X c tc)(hm:lastMarks [op,op'] [b,c]=false:=by with_unfolding_all rfl):PT X (.Compare a [op,op'] [b,c] pos) (iY (pY r r' ta tb tc)):=by
 intro pins s σ H Q I h;refine isTrue_chain (thn (ha pins s σ H _ I h) fun v s1 ⟨x,H1,I1,r1,q1⟩=>test_link (thn (hb pins s1 σ H1 _ I1 q1) fun u s2 ⟨y,H2,I2,r2,q2⟩ =>
  thn (ho pins s2 σ H2 x y v u _ I2 r1 r2 q2) fun d s3 ⟨z,H3,I3,r3,k,e,q3⟩=>?_)) hm
 subst e;cases r3;refine zZ ?_;cases k with
 |false =>obtain⟨k',e',q'⟩:=q3;cases e';exact ite_ff ⟨H3,I3,q'⟩
 |true =>refine ite_tt (test_last (thn (hc pins s3 σ H3 _ I3 q3) fun w' s4 ⟨z',H4,I4,r4,q4⟩=>thn (ho' pins s4 σ H4 y z' u w' _ I4 r2 r4 q4) fun d' s5 hz9=>?_));obtain⟨z2,H5,I5,r5,k2,e2,q5⟩:=hz9;subst e2;cases r5;exact zZ ⟨H5,I5,q5⟩
theorem lu:(sizeLine:Nat)<2^63:=by rw[sizeLine_eq];decide
theorem nR:OpR X (binaryOp .Add) (fun x y H Q=>∃i j,x=.str i/\y=.str j/\i.length+j.length<=sizeLine/\Q (.str (i++j)) H):=by intro pins s σ H x y v u Q I rx ry h;obtain⟨i,j,rfl,rfl,hz,q⟩:=h;obtain⟨t,rfl⟩:=rx;obtain⟨t',rfl⟩:=ry;exact add_str (fun t' tk=>⟨.str (i++j),H,I.tok _,⟨_,rfl⟩,q⟩) hz
theorem bT{x:V}{us:List Value}(r:Vals [x] us):∃u,us=[u]/\RelV x u:=by
 cases r with
 |cons r1 r2=>cases r2;exact⟨_,rfl,r1⟩
theorem xC{x y:V}{us:List Value}(r:Vals [x,y] us):∃u w',us=[u,w']/\RelV x u/\RelV y w':=by
 cases r with
 |cons r1 r2 =>
  cases r2 with
  |cons r3 r4=>cases r4;exact⟨_,_,rfl,r1,r3⟩
theorem oB:dk X (.type "int") (fun xs H Q=>(∃i,xs=[.int i]/\Q (.int i) H)\/∃k,xs=[.bl k]/\Q (.int (if k then 1 else 0)) H):=by
 intro pins s σ H xs us Q I r h;rcases h with⟨i,rfl,q⟩|⟨k,rfl,q⟩
 ·obtain⟨u,rfl,t,rfl⟩:=bT r;exact call_int_int ⟨.int i,H,I,⟨_,rfl⟩,q⟩
 ·obtain⟨u,rfl,r1⟩:=bT r;cases r1;exact call_int_bool ⟨.int (if k then 1 else 0),H,I.tok _,⟨_,rfl⟩,q⟩
end
open PySem PySem.Spec PyProof.Rows
structure ObjM(h:Heap)(x dx C:Addr)(mA:Str->Option Value):Prop where
 obj:h.get? x=some (PySem.W.instObj C dx)
 ns:h.Ns1 dx mA
 ne:dx≠x
theorem jQ{h:Heap}{dx:Addr}{mA:Str->Option Value}(n:h.Ns1 dx mA):∃od,h.get? dx=some od/\∀name,PySem.W.lookIn name od=some (mA name):=by
 obtain⟨o,es,ep,ho,hd,hk,_,hm⟩:=n;refine⟨o,ho,fun name=>?_⟩;have e:=hm name;unfold nsFind findBy at e;rw[<-Array.find?_toList]at e;unfold PySem.W.lookIn;rw[hd];dsimp only;split
 ·rename_i y q;rw[q]at e;exact zS some e
 ·rename_i q;rw[q]at e;have a:es.toList.any (·.refKey)=false:=by rw[List.any_eq_false];intro y hy;obtain⟨z,t,hkey⟩:=hk y (Array.mem_toList_iff.mp hy);simp[DictEntry.refKey,hkey]
  have a':¬es.toList.any (·.refKey)=true:=by rw[a];exact zn
  rw[ym a'];exact zS some e
theorem ObjM.look{h:Heap}{x dx C:Addr}{mA:Str->Option Value}(I:ObjM h x dx C mA):∃od,PySem.W.InstAt h x (PySem.W.instObj C dx) C (some od)/\∀name,PySem.W.lookIn name od=some (mA name) :=
 let⟨od,ho,hl⟩:=jQ I.ns
 ⟨od,⟨I.obj,rfl,rfl,ho⟩,hl⟩
section
variable{prog:Program}{w:World}{A:Around}{E:Value->Shared->Prop}{s:Shared}{K:PySem.W.Frag}{x dx C f:Addr}{mA:Str->Option Value}{name:Str}{v:Value}
theorem sw{expr:Bool}{Q:Value->Shared->Prop}(X:K.In s.heap)(I:ObjM s.heap x dx C mA)(hg:PySem.W.plainGet K C name=true)(hh:PySem.W.hasDictIn K C=true)(ha:PySem.W.findIn K (.ref C) name=some none)(hv:mA name=some v)(hv':PySem.W.handedIn v=true)(h:Q v { s with toks:=s.toks+1 }) :
  wpAny (model prog w) A (getAttr (.ref x) name expr) Q E s:=by
 obtain⟨od,J,hl⟩:=I.look;exact PySem.W.get_value X J (PySem.W.plainGet_of hg).1 (PySem.W.findObj_own hh ha rfl (by rw[hl,hv])) hv' h
theorem qG{pl:Sem Bool}{Q:Value×List Value->Shared->Prop}(X:K.In s.heap)(I:ObjM s.heap x dx C mA)(hg:PySem.W.plainGet K C name=true)(hf:PySem.W.findIn K (.ref C) name=some (some (.ref f)))(ht:PySem.W.isFn K (.ref f)=true)(hv:mA name=none)(h:Q (.ref f,[.ref x]) s) :
  wpAny (model prog w) A (getMethod (.ref x) name pl) Q E s:=by
 obtain⟨od,J,hl⟩:=I.look;exact PySem.W.method_fn X J (PySem.W.plainGet_of hg).1 (PySem.W.plainGet_of hg).2 hf (zH.mp ht) (by show(PySem.W.lookIn name od).map (·.isSome)=some false;rw[hl,hv];rfl) h
theorem uf{ns:List Str}{Q:Unit->Shared->Prop}(X:K.In s.heap)(I:ObjM s.heap x dx C mA)(hs:PySem.W.findIn K (.ref C) "__setattr__" = some (some (.builtin "object.__setattr__")))(hp:PySem.W.plainOver K C=true)(ht:PySem.W.takerIn K C name=some none)(hh:PySem.W.hasDictIn K C=true)(hw:PySem.Within mA ns)(hsz:ns.length<=sizeLine)(h:∀h',ObjM h' x dx C (fun y=>if y=name then some v else mA y)->Heap.SameBut dx s.heap h'->Q () { s with heap:=h',toks:=s.toks+2 }) :
  wpAny (model prog w) A (setAttr (.ref x) name v) Q E s:=by
 obtain⟨od,J,hl⟩:=I.look;refine PySem.W.set_plain X J hs (PySem.W.osa_open (s:={ s with toks:=s.toks+1 }) (r:=none) X J hp ht fun b=>?_);obtain⟨cd,hc,hd'⟩:=PySem.W.any_some hh;have hx:s.heap.get? x=some ⟨.ref C,some dx,.plain,#[]⟩:=I.obj;refine zc (zu (zc (zc (wpAny_loadPart hx (zc (PySem.W.Looks.here (s:={ s with toks:=s.toks+1 }) (PySem.W.looks_clsIn X hc) ?_))))));rw[hd'];refine zu (a:=some dx) (zc (zu (zc ?_)));refine wpAny_nsSet1 (s:={ s with toks:=s.toks+1 }) I.ns fun h' hn2 hs2=>?_;obtain⟨oD,esD,epD,hoD,hdD,hcD⟩:=hn2.count (PySem.Within.cons name v hw);refine zc (wpAny_lookBehind hoD (by rw[hdD];exact pastItsLine_dict (zm hcD (by rw[zh];omega))) ?_);exact zu (h _ ⟨(hs2.2 _ (z5 I.ne)).trans I.obj,hn2,I.ne⟩ hs2)
theorem qN{R:Result->Shared->Prop}{vs:List Value}{kw:List (Str×Value)}(X:K.In s.heap)(hm:PySem.W.makesIn K C=true)(hi:PySem.W.findIn K (.ref C) "__init__" = some (some (.ref f)))(hf:PySem.W.typeIn K (.ref f)=some (.type "function"))(h:codeAny (model prog w) (A.under (.builtin "type.__call__" ⟨.ref C::vs,kw⟩)) (.call (.ref f) ⟨.ref (s.heap.objs.size+1)::vs,kw⟩) (PySem.W.InitBack (s.heap.objs.size+1) R)
   { s with heap:=(s.heap.push PySem.W.emptyDict).push (PySem.W.instObj C s.heap.objs.size) }) :
  codeAny (model prog w) A (.call (.ref C) ⟨vs,kw⟩) R s:=by
 obtain⟨hh,g,d,t,os⟩:=s;exact PySem.W.make_core (PySem.W.makes_of X hm) (PySem.W.looks_findIn X hi) (fun self=>PySem.W.bind_fn X self hf) (.inl rfl) h
end
def bE(f:Str)(v:V):List (Str×V)->List (Str×V)
 | []=>[(f,v)]
 |(g,x)::r=>if g=f then(g,v)::r else(g,x)::bE f v r
theorem bx(f g:Str)(v:V):∀fs:List (Str×V),(bE f v fs).lookup g=if g=f then some v else fs.lookup g
 | []=>by
  show List.lookup g [(f,v)]=_;by_cases h:g=f
  ·have hb:(g==f)=true:=zH.mpr h;simp only[List.lookup,hb,yn h]
  ·have hb:(g==f)=false:=beq_eq_false_iff_ne.mpr h;simp only[List.lookup,hb,ym h]
 |(k,x)::r=>by
  have ih:=bx f g v r;rw[show bE f v ((k,x)::r)=(if k=f then(k,v)::r else(k,x)::bE f v r)from rfl];by_cases hk:k=f
  ·rw[yn hk];by_cases h:g=k
   ·have hb:(g==k)=true:=zH.mpr h;simp only[List.lookup,hb,yn (h.trans hk)]
   ·have hb:(g==k)=false:=beq_eq_false_iff_ne.mpr h;simp only[List.lookup,hb,ym (fun e:g=f=>h (e.trans hk.symm))]
  ·rw[ym hk];by_cases h:g=k
   ·have hb:(g==k)=true:=zH.mpr h;simp only[List.lookup,hb,ym (fun e:g=f=>hk (h.symm.trans e))]
   ·have hb:(g==k)=false:=beq_eq_false_iff_ne.mpr h;simp only[List.lookup,hb];exact ih
theorem fN(f:Str)(v:V):∀fs:List (Str×V),f∈(bE f v fs).map (·.1)/\∀g,g∈fs.map (·.1)->g∈(bE f v fs).map (·.1)
 | []=>⟨by simp[bE],fun g h=>by simp at h⟩
 |(k,x)::r=>by
  obtain⟨i1,i2⟩:=fN f v r;rw[show bE f v ((k,x)::r)=(if k=f then(k,v)::r else(k,x)::bE f v r)from rfl];by_cases hk:k=f
  ·rw[yn hk];subst hk;exact⟨by simp,fun g h=>by simpa using h⟩
  ·rw[ym hk];refine⟨?_,fun g h=>?_⟩
   ·rw[zA];exact ze _ i1
   ·rw[zA]at h ⊢;rcases zl.mp h with e|e
    ·exact zl.mpr (.inl e)
    ·exact ze _ (i2 g e)
theorem gX(f:Str)(v:V):∀fs:List (Str×V),(bE f v fs).length<=fs.length+1
 | []=>by simp[bE]
 |(k,x)::r=>by
  have ih:=gX f v r;rw[show bE f v ((k,x)::r)=(if k=f then(k,v)::r else(k,x)::bE f v r)from rfl];by_cases hk:k=f
  ·rw[yn hk,zh,zh];omega
  ·rw[ym hk,zh,zh];omega
theorem RelO.some_of{v:V}{o:Option Value}(r:RelO (some v) o):∃u,o=some u/\RelV v u:=by
 cases o with
 |none=>exact(show False from r).elim
 |some u=>exact⟨u,rfl,r⟩
theorem RelO.none_of{o:Option Value}(r:RelO none o):o=none:=by
 cases o with
 |none=>rfl
 |some u=>exact(show False from r).elim
theorem jN{v:V}{u:Value}(r:RelV v u):PySem.W.handedIn u=true:=by
 cases v with
 |non=>cases(show u=Value.none from r);rfl
 |bl b=>cases(show u=Value.bool b from r);rfl
 |int i=>obtain⟨t,e⟩:=(show∃t,u=Value.int i t from r);cases e;rfl
 |str x=>obtain⟨t,e⟩:=(show∃t,u=Value.str x t from r);cases e;rfl
 |byt b=>obtain⟨t,e⟩:=(show∃t,u=Value.bytes b t from r);cases e;rfl
 |flt b=>obtain⟨t,e⟩:=(show∃t,u=Value.float b t from r);cases e;rfl
 |ref a=>cases(show u=Value.ref a from r);rfl
 |ty n=>cases(show u=Value.type n from r);rfl
section
variable{P:Program}{w:World}{H H':Hp}{h h':Heap}{a C dx:Addr}{fs fs':List (Str×V)}
theorem gv(hok:HOk P w H h)(e:H a=some (.ins C dx fs)):∃mA,ObjM h a dx C mA/\(∀f,RelO (fs.lookup f) (mA f))/\PySem.Within mA (fs.map (·.1))/\fs.length<=1000/\H dx=some (.own a):=by
 obtain⟨d,z,ne,ob,mA,n,r,q⟩:=(show ObjOk P w H h a (.ins C dx fs)from hok a _ e)
 exact⟨mA,⟨ob,n,ne⟩,r,q,z,d⟩
end
structure Cls(K:PySem.W.Frag)(C:Addr):Prop where
 pg:PySem.W.plainGet K C Str.empty=true
 hd:PySem.W.hasDictIn K C=true
 po:PySem.W.plainOver K C=true
 sa:PySem.W.findIn K (.ref C) "__setattr__" = some (some (.builtin "object.__setattr__"))
theorem Cls.get{K:PySem.W.Frag}{C:Addr}(c:Cls K C)(f:Str):PySem.W.plainGet K C f=true:=c.pg
def NoAttr(K:PySem.W.Frag)(C:Addr)(f:Str):Prop:=PySem.W.findIn K (.ref C) f=some none
theorem NoAttr.taker{K:PySem.W.Frag}{C:Addr}{f:Str}(n:NoAttr K C f):PySem.W.takerIn K C f=some none:=by unfold PySem.W.takerIn;rw[show PySem.W.findIn K (.ref C) f=some none from n];rfl
structure Con(K:PySem.W.Frag)(C:Addr)(f:Str)(v:V)(u:Value):Prop where
 at_:PySem.W.findIn K (.ref C) f=some (some u)
 rel:RelV v u
 get:PySem.W.specialIn K u "__get__" = some none
 cp:PySem.W.copiedNames.contains f=false
structure Meth(K:PySem.W.Frag)(C:Addr)(m:Str)(f:Addr):Prop where
 at_:PySem.W.findIn K (.ref C) m=some (some (.ref f))
 fn:PySem.W.isFn K (.ref f)=true
 kp:PySem.W.keepIn K (.ref f)=true
section
variable{X:Cx}{pins:List (Addr×Obj)}{σ:St}{H:Hp}{s:Shared}{a C dx:Addr}{fs:List (Str×V)}{f:Str}{v:V}{A:Around}{E:Value->Shared->Prop}
theorem iH{b:Bool}{Q:Value->Shared->Prop}(I:Inv X pins σ H s)(e:H a=some (.ins C dx fs))(c:Cls X.K C)(n:NoAttr X.K C f)(l:fs.lookup f=some v)(h:∀u s',Inv X pins σ H s'->RelV v u->Q u s'):wpAny (model X.prog X.w) A (getAttr (.ref a) f b) Q E s:=by obtain⟨mA,O,r,_,_,_⟩:=gv I.hok e;obtain⟨u,hu,ru⟩:=RelO.some_of (v:=v) (o:=mA f) (by rw[<-l];exact r f);exact sw I.kIn O (c.get f) c.hd n hu (jN ru) (h u _ (I.tok _) ru)
theorem iI{m:Str}{g:Addr}{pl:Sem Bool}{Q:Value×List Value->Shared->Prop}(I:Inv X pins σ H s)(e:H a=some (.ins C dx fs))(c:Cls X.K C)(k:Meth X.K C m g)(l:fs.lookup m=none)(h:Q (.ref g,[.ref a]) s):wpAny (model X.prog X.w) A (getMethod (.ref a) m pl) Q E s:=by obtain⟨mA,O,r,_,_,_⟩:=gv I.hok e;have hn:mA m=none:=RelO.none_of (by rw[<-l];exact r m);exact qG I.kIn O (c.get m) k.at_ k.fn hn h
theorem iX{y:V}{u:Value}{Q:Unit->Shared->Prop}(I:Inv X pins σ H s)(e:H a=some (.ins C dx fs))(c:Cls X.K C)(n:NoAttr X.K C f)(hl:fs.length<1000)(ry:RelV y u)(h:∀s',Inv X pins σ (upd H a (.ins C dx (bE f y fs))) s'->Q () s'):wpAny (model X.prog X.w) A (setAttr (.ref a) f u) Q E s:=by
 obtain⟨mA,O,r,wi,_,ho⟩:=gv I.hok e;have hz:(fs.map (·.1)).length<=sizeLine:=by rw[za,sizeLine_eq];omega
 refine uf I.kIn O c.sa c.po n.taker c.hd wi hz fun h' O' sb=>h _ ?_;have hd:∃o,h'.get? dx=some o:=let⟨o,_,_,e',_⟩:=O'.ns;⟨o,e'⟩
 refine I.write (x:=a) (e:=dx) (by rw[e];exact True.intro) (.inr ho) (fun b q hb z=>(sb.2 b hb).trans z) hd ?_;refine⟨by rw[ag O.ne];exact ho,?_,O.ne,O'.obj,_,O'.ns,fun g=>?_,fun g hg=>?_⟩
 ·have:=gX f y fs;omega
 ·show RelO ((bE f y fs).lookup g) (if g=f then some u else mA g);rw[bx];by_cases q:g=f
  ·rw[yn q,yn q];exact ry
  ·rw[ym q,ym q];exact r g
 ·by_cases q:g=f
  ·rw[q];exact(fN f y fs).1
  ·refine(fN f y fs).2 g (wi g fun z=>hg ?_);show(if g=f then some u else mA g)=none;rw[ym q];exact z
theorem Inv.made(I:Inv X pins σ H s):Inv X pins σ (upd (upd H s.heap.objs.size (.own (s.heap.objs.size+1))) (s.heap.objs.size+1) (.ins C s.heap.objs.size []))
  { s with heap:=(s.heap.push PySem.W.emptyDict).push (PySem.W.instObj C s.heap.objs.size) }:=by
 have e1:(s.heap.push PySem.W.emptyDict).get? s.heap.objs.size=some PySem.W.emptyDict:=zI s.heap rfl;have e2:((s.heap.push PySem.W.emptyDict).push (PySem.W.instObj C s.heap.objs.size)).get? (s.heap.objs.size+1)=some (PySem.W.instObj C s.heap.objs.size):=by
  have:=zI (s.heap.push PySem.W.emptyDict) (o:=PySem.W.instObj C s.heap.objs.size) rfl
  rwa [Heap.size_push]at this
 have e3:(s.heap.push PySem.W.emptyDict).Ns s.heap.objs.size (fun _=>none):=⟨PySem.W.emptyDict,#[],_,e1,rfl,(fun e he=>absurd he (by simp)),fun _=>rfl⟩
 have I1:=I.laid (a:=s.heap.objs.size) (o:=.own (s.heap.objs.size+1)) (h':=s.heap.push PySem.W.emptyDict) (t':=s.toks) (fun b u q=>zj _ q) (zd _) ⟨_,e1⟩;refine I1.laid (a:=s.heap.objs.size+1) (o:=.ins C s.heap.objs.size []) (t':=s.toks) (fun b u q=>zj _ q) (Nat.le_of_eq (Heap.size_push _ _)) ?_;have ne:s.heap.objs.size≠s.heap.objs.size+1:=zC (Nat.lt_succ_self _);refine⟨by rw[ag ne,aa],zW _,ne,e2,fun _=>none,(Heap.Ns1.of_empty e3).at fun o q=>zj _ q,fun _=>True.intro,fun y hy=>absurd rfl hy⟩
theorem mq{prog:Program}{w:World}{env:Env}{e:Expr}{f:Str}{pos:Pos}{s:Shared}{Q:Value->Shared->Prop}(hb:attributeBase e f env (eval e env)=eval e env)(h:wpAny (model prog w) A (eval e env) (fun o s₁=>wpAny (model prog w) A (getAttr o f true) Q E s₁) E s):wpAny (model prog w) A (eval (.Attribute e f pos) env) Q E s :=
 Attribute_any_ h (by rw[arm_eval_Attribute,hb])
end
def rD(K:PySem.W.Frag)(ta:TE)(f:Str):TE:=fun σ H Q=>ta σ H fun x H1=>∃a C dx fs v,x=.ref a/\H1 a=some (.ins C dx fs)/\Cls K C/\NoAttr K C f/\fs.lookup f=some v/\Q v H1
def vW(K:PySem.W.Frag)(ta tv:TE)(f:Str):TS:=fun D σ H=>tv σ H fun y H1=>ta σ H1 fun x H2=>∃a C dx fs,x=.ref a/\H2 a=some (.ins C dx fs)/\Cls K C/\NoAttr K C f/\fs.length<1000 /\
 D.nx σ (upd H2 a (.ins C dx (bE f y fs)))
def qj(X:Cx)(op:Operator)(rd:V->V->Hp->VK->Prop):Prop :=
 ∀(pins:List (Addr×Obj)) (s:Shared) (σ:St) (H:Hp) (x y:V) (u v:Value) (Q:VK),Inv X pins σ H s->RelV x u->RelV y v->rd x y H Q->wpAny (model X.prog X.w) X.A (inplaceOp op u v) (EP X pins σ Q) X.xe s
def mJ(K:PySem.W.Frag)(ta tv:TE)(rd:V->V->Hp->VK->Prop)(f:Str):TS:=fun D σ H=>ta σ H fun x H1=>∃a C dx fs v,x=.ref a/\H1 a=some (.ins C dx fs)/\Cls K C/\NoAttr K C f/\fs.lookup f=some v /\
 tv σ H1 fun y H2=>rd v y H2 fun z H3=>∃dx' fs',H3 a=some (.ins C dx' fs')/\fs'.length<1000/\D.nx σ (upd H3 a (.ins C dx' (bE f z fs')))
section
variable{X:Cx}{o e value:Expr}{f:Str}{pos pos' tpos:Pos}{ta tv:TE}
theorem vv(he:PE X e ta)(hb:attributeBase e f X.env (eval e X.env)=eval e X.env):PE X (.Attribute e f pos) (rD X.K ta f):=by intro pins s σ H Q I h;refine mq hb (thn (he pins s σ H _ I h) fun u s1 hz9=>?_);obtain⟨x,H1,I1,rx,a,C,dx,fs,v,ex,ea,c,n,l,q⟩:=hz9;subst ex;obtain rfl:u=Value.ref a:=rx;exact iH I1 ea c n l fun u' s2 I2 ru=>⟨v,H1,I2,ru,q⟩
theorem vI(ha:PE X o ta)(hv:PE X value tv)(hs:swapsWith value (some (.Attribute o f pos')) pos.line X.env=pure false):PS X (.Assign [.Attribute o f pos'] value pos) (vW X.K ta tv f):=by intro pins s σ H D I h;refine plainObj_wpAny_Assign_Attribute (thn (hv pins s σ H _ I h) fun u s1 ⟨y,H1,I1,ry,q⟩=>thn (ha pins s1 σ H1 _ I1 q) fun ov s2 hz9=>?_) hs;obtain⟨x,H2,I2,rx,a,C,dx,fs,ex,ea,c,n,l,q2⟩:=hz9;subst ex;obtain rfl:ov=Value.ref a:=rx;exact iX I2 ea c n l ry fun s3 I3=>⟨σ,_,I3,q2⟩
theorem pK{op:Operator}{rd:V->V->Hp->VK->Prop}(ha:PE X o ta)(hv:PE X value tv)(hop:qj X op rd):PS X (.AugAssign (.Attribute o f tpos) op value pos) (mJ X.K ta tv rd f):=by intro pins s σ H D I h;refine wpAny_AugAssign_AttributeAny (thn (ha pins s σ H _ I h) fun ov s1 hz9=>?_);obtain⟨x,H1,I1,rx,a,C,dx,fs,v,ex,ea,c,n,l,q⟩:=hz9;subst ex;obtain rfl:ov=Value.ref a:=rx;refine iH I1 ea c n l fun u s2 I2 ru=>thn (hv pins s2 σ H1 _ I2 q) fun w3 s3 ⟨y,H2,I3,ry,q3⟩=>thn (hop pins s3 σ H2 v y u w3 _ I3 ru ry q3) fun w4 s4 hz9=>?_;obtain⟨z,H3,I4,rz,dx',fs',ea',l',q4⟩:=hz9;exact iX I4 ea' c n l' rz fun s5 I5=>⟨σ,_,I5,q4⟩
def xP:V->V->Hp->VK->Prop:=fun x y H Q=>∃i j,x=.int i/\y=.int j/\Q (.int (i+j)) H
theorem oY:qj X .Add xP:=by
 rintro pins s σ H x y u v Q I rx ry ⟨i,j,rfl,rfl,q⟩;obtain⟨t,rfl⟩:=(show∃t,u=Value.int i t from rx)
 obtain⟨t',rfl⟩:=(show∃t',v=Value.int j t' from ry)
 exact PyProof.Rows.iadd_int ⟨.int (i+j),H,I.tok _,⟨_,rfl⟩,q⟩
end
section
variable{X:Cx}{pins:List (Addr×Obj)}{σ:St}{H:Hp}{s:Shared}{A:Around}{E:Value->Shared->Prop}{Q:Value->Shared->Prop}{c:Value}{b:Bool}
inductive TyOf(K:PySem.W.Frag)(H:Hp):V->Value->Prop where
 |non:TyOf K H .non (.type "NoneType")
 |bl (x:Bool):TyOf K H (.bl x) (.type "bool")
 |int (i:Int):TyOf K H (.int i) (.type "int")
 |str (x:Str):TyOf K H (.str x) (.type "str")
 |flt (x:UInt64):TyOf K H (.flt x) (.type "float")
 |lst {a:Addr} {xs:List V} (e:H a=some (.lst xs)):TyOf K H (.ref a) (.type "list")
 |frz {a:Addr} {o:Obj} {xs:List V} (e:H a=some (.frz o (.lst xs))):TyOf K H (.ref a) (.type "list")
 |tup {a:Addr} {xs:List V} (e:H a=some (.tup xs)):TyOf K H (.ref a) (.type "tuple")
 |dK {a:Addr} {kvs:List (Key×V)} (e:H a=some (.dK kvs)):TyOf K H (.ref a) (.type "dict")
 |dT {a:Addr} {kvs:List (List Key×V)} (e:H a=some (.dT kvs)):TyOf K H (.ref a) (.type "dict")
 |ins {a C dx:Addr} {fs:List (Str×V)} (e:H a=some (.ins C dx fs)) (cl:Cls K C) (ha:PySem.W.findIn K (.ref C) "__class__" = some (some (.builtin "object.__class__")))
   (hn:PySem.W.specialIn K (.builtin "object.__class__") "__get__" = some (some (.builtin "getset_descriptor.__get__"))) (htk:PySem.W.takesIn K (.builtin "object.__class__")=some true)
   (hm:PySem.W.mroIn K C (.type "object")=some true):TyOf K H (.ref a) (.ref C)
theorem pb{x:V}{u t:Value}(I:Inv X pins σ H s)(rx:RelV x u)(ty:TyOf X.K H x t)(e:PySem.W.kitOne X.K t c=some b)(h:∀tk,Q (.bool b) { s with toks:=tk }) :
  wpAny (model X.prog X.w) A (call (.builtin "isinstance") [u,c]) Q E s:=by
 cases ty with
 |non=>cases(show u=Value.none from rx);exact zV PySem.W.kitx_none I.kIn True.intro e (fun z=>nomatch z) h
 |bl y=>cases(show u=Value.bool y from rx);exact zV PySem.W.kitx_bool I.kIn True.intro e (fun z=>nomatch z) h
 |int i=>obtain⟨t,q⟩:=(show∃t,u=Value.int i t from rx);cases q;exact zV PySem.W.kitx_int I.kIn True.intro e (fun z=>nomatch z) h
 |str y=>obtain⟨t,q⟩:=(show∃t,u=Value.str y t from rx);cases q;exact zV PySem.W.kitx_str I.kIn True.intro e (fun z=>nomatch z) h
 |flt y=>obtain⟨t,q⟩:=(show∃t,u=Value.float y t from rx);cases q;exact zV PySem.W.kitx_float I.kIn True.intro e (fun z=>nomatch z) h
 |@lst a xs ea =>
  cases(show u=Value.ref a from rx);obtain⟨_,_,n,_,h1⟩:=(show ObjOk X.prog X.w H s.heap a (.lst xs)from I.hok a _ ea)
  exact zV PySem.W.kitx_list I.kIn ⟨_,h1,rfl⟩ e (fun z=>nomatch z) h
 |@frz a ob xs ea =>
  cases(show u=Value.ref a from rx);obtain⟨_,_,_,n,_,h1⟩:=(show ObjOk X.prog X.w H s.heap a (.frz ob (.lst xs))from I.hok a _ ea)
  exact zV PySem.W.kitx_list I.kIn ⟨_,h1,rfl⟩ e (fun z=>nomatch z) h
 |@tup a xs ea =>
  cases(show u=Value.ref a from rx);obtain⟨_,_,_,p⟩:=(show ObjOk X.prog X.w H s.heap a (.tup xs)from I.hok a _ ea)
  obtain⟨o,h1,h2,_⟩:=p;exact zV PySem.W.kitx_tuple I.kIn ⟨o,h1,h2⟩ e (fun z=>nomatch z) h
 |@dK a kvs ea =>
  cases(show u=Value.ref a from rx);obtain⟨_,_,vs,_,p⟩:=(show ObjOk X.prog X.w H s.heap a (.dK kvs)from I.hok a _ ea)
  obtain⟨o,es,ep,h1,h2,_⟩:=p;exact zV PySem.W.kitx_dict I.kIn ⟨o,h1,h2.1⟩ e (fun z=>nomatch z) h
 |@dT a kvs ea =>
  cases(show u=Value.ref a from rx);obtain⟨_,_,xs,_,o,es,ep,h1,h2,_⟩:=(show ObjOk X.prog X.w H s.heap a (.dT kvs)from I.hok a _ ea)
  exact zV PySem.W.kitx_dict I.kIn ⟨o,h1,h2.1⟩ e (fun z=>nomatch z) h
 |@ins a C dx fs ea cl ha hn htk hm =>cases(show u=Value.ref a from rx);obtain⟨mA,O,_⟩:=gv I.hok ea;obtain⟨od,J,_⟩:=O.look;exact zV (PySem.W.kitx_own (cl.get _) cl.hd ha hn htk hm) I.kIn J e (fun z=>nomatch z) h
end
open PySem PySem.Spec PyProof.Rows
structure Room(k:Nat)(A:Around):Prop where
 hd:A.handled=none
 dp:A.depth+3*k+5<recursionLimit
 un:A.units+16*k+200<cLine
theorem Room.mono{j k:Nat}{A:Around}(r:Room k A)(h:j<=k):Room j A:=⟨r.hd,by have:=r.dp;omega,by have:=r.un;omega⟩
theorem Room.deeper{k:Nat}{A:Around}(r:Room (k+1) A)(env:Env):Room k (A.deeper env) :=
 ⟨r.hd,by have:=r.dp;show A.depth+1+3*k+5<_;omega,by have:=r.un;show A.units+3+16*k+200<_;omega⟩
theorem nE{A:Around}{C:Addr}{us:List Value}{kw:List (Str×Value)}:(A.under (.builtin "type.__call__" ⟨.ref C::us,kw⟩)).depth=A.depth+1:=by
 first|rfl|simp[Around.under,Code.weight,Code.isCreation,Code.isGuard,Code.isCaller,Code.frames,Code.isFrame,guardIds]
theorem nF{A:Around}{C:Addr}{us:List Value}{kw:List (Str×Value)}:(A.under (.builtin "type.__call__" ⟨.ref C::us,kw⟩)).units=A.units+1:=by
 first|rfl|simp[Around.under,Code.cUnits,Code.frames,Code.isFrame]
theorem Room.make{k:Nat}{A:Around}(r:Room (k+1) A)(C:Addr)(us:List Value)(kw:List (Str×Value)):Room k (A.under (.builtin "type.__call__" ⟨.ref C::us,kw⟩)) :=
 ⟨r.hd,by have:=r.dp;rw[nE];omega,by have:=r.un;rw[nF];omega⟩
theorem Room.depth{k:Nat}{A:Around}(r:Room k A):A.depth<recursionLimit:=by have:=r.dp;omega
theorem Room.units{k:Nat}{A:Around}(r:Room k A):A.units+64<cLine:=by have:=r.un;omega
def dj:TA:=fun _ H Q=>Q [] H
def cT(ta:TE)(tr:TA):TA:=fun σ H Q=>ta σ H fun x H1=>tr σ H1 fun xs H2=>Q (x::xs) H2
section
variable{X:Cx}{e:Expr}{es:List Expr}{te:TE}{t:TA}{pos:Pos}
theorem fU:PA X [] dj:=fun _ _ _ _ H Q I h=>Calls.spliced_nil ⟨[],H,I,.nil,h⟩
theorem gz(ha:PE X e te)(hr:PA X es t)(hs:starEach (e::es) X.env=(false,eval e X.env)::starEach es X.env:=by rfl):PA X (e::es) (cT te t):=by intro pos pins s σ H Q I h;rw[hs];show wpAny _ _ (spliced ((false,eval e X.env)::backTo pos (starEach es X.env))) _ _ s;refine Calls.spliced_cons (thn (ha pins s σ H _ I h) fun u s1 hz9=>?_);obtain⟨x,H1,I1,r1,q1⟩:=hz9;exact thn (hr pos pins s1 σ H1 _ I1 q1) fun us s2 ⟨xs,H2,I2,r2,q2⟩=>⟨x::xs,H2,I2,.cons r1 r2,q2⟩
def wn(t:TA):TE:=fun σ H Q=>t σ H fun xs H1=>xs.length<=sizeLine/\∀p,H1 p=none->Q (.ref p) (upd H1 p (.tup xs))
def wl(t:TA):TE:=fun σ H Q=>t σ H fun xs H1=>xs.length<=sizeLine/\∀p,H1 p=none->Q (.ref p) (upd H1 p (.lst xs))
theorem vD{x1}(h:PA X es t):PE X (.Tuple es x1 pos) (wn t):=by intro pins s σ H Q I hq;refine wpAny_Tuple_spliced (thn (h pos pins s σ H _ I hq) fun us s1 ⟨xs,H1,I1,r,z,q⟩=>⟨by rw[<-r.length];exact z,?_⟩);have hf:H1 s1.heap.objs.size=none:=I1.hok.fresh (zd _);refine⟨.ref s1.heap.objs.size,upd H1 s1.heap.objs.size (.tup xs),I1.laid (t':=s1.toks) (fun b u e=>zj _ e) (zd _) ?_,rfl,q _ hf⟩;exact⟨z,us,r,⟨_,zI _ rfl,rfl,_,rfl⟩⟩
theorem vx(h:PA X es t):PE X (.List es pos) (wl t):=by intro pins s σ H Q I hq;refine wpAny_List_spliced (thn (h pos pins s σ H _ I hq) fun us s1 ⟨xs,H1,I1,r,z,q⟩=>⟨by rw[<-r.length];exact z,?_⟩);have hf:H1 s1.heap.objs.size=none:=I1.hok.fresh (zd _);refine⟨.ref s1.heap.objs.size,upd H1 s1.heap.objs.size (.lst xs),I1.laid (t':=s1.toks) (fun b u e=>zj _ e) (zd _) ?_,rfl,q _ hf⟩;exact⟨z,us,0,r,zI _ rfl⟩
end
abbrev Sp:=List V->Hp->VK->XK->Prop
abbrev CXT:=List Env->Hp->Shared->XK->Value->Shared->Prop
structure Env0(P:Program)(w:World)(K:PySem.W.Frag)(mg:Str->Option Value)(base:Heap)(A:Around)(outer:List Env)(s:Shared)(H:Hp):Prop where
 frames:A.frames=some outer
 mod:Mod K mg base
 bs:∀b o,base.get? b=some o->s.heap.get? b=some o/\H b=none
 bsz:base.objs.size<=s.heap.objs.size
 funs:s.heap.FunFrames base outer
 frf:∀b∈frs outer,H b=none
 hok:HOk P w H s.heap
 bare:AllBare s.gens
def CE(outer:List Env)(P:Program)(w:World)(H:Hp)(s:Shared)(Q:VK)(u:Value)(s':Shared):Prop :=
 ∃v H',s'.os=s.os/\AllBare s'.gens/\Un (frs outer) [] H H' s.heap s'.heap/\HOk P w H' s'.heap/\RelV v u/\Q v H'
def CR(CX:CXT)(outer:List Env)(P:Program)(w:World)(H:Hp)(s:Shared)(Q:VK)(E:XK)(r:Result)(s':Shared):Prop :=
 match r with
 |.ok (.ret u)=>CE outer P w H s Q u s'
 |.ok _=>False
 |.error e=>CX outer H s E e s'
structure FnOk(P:Program)(w:World)(K:PySem.W.Frag)(mg:Str->Option Value)(base:Heap)(CX:CXT)(k:Nat)(f:Addr)(fd:FuncData)(ps:List Str)(sp:Sp):Prop where
 len:∀vs H Q E,sp vs H Q E->vs.length=ps.length
 run:∀(A:Around) (outer:List Env) (s:Shared) (H:Hp) (args:Args) (us:List Value) (vs:List V) (Q:VK) (E:XK),Room k A->Env0 P w K mg base A outer s H->BindsTo s fd args (ps.zip us)->Vals vs us->sp vs H Q E ->
  codeAny (model P w) A (.call (.ref f) args) (CR CX outer P w H s Q E) s
theorem Env0.make{P:Program}{w:World}{K:PySem.W.Frag}{mg:Str->Option Value}{base:Heap}{A:Around}{outer:List Env}{s:Shared}{H:Hp}(e:Env0 P w K mg base A outer s H)(C:Addr)(us:List Value)(kw:List (Str×Value)) :
  Env0 P w K mg base (A.under (.builtin "type.__call__" ⟨.ref C::us,kw⟩)) outer s H:=⟨by first|exact e.frames|(simpa[Around.under,Code.envs,Code.isFrame,pushEnvs]using e.frames),e.mod,e.bs,e.bsz,e.funs,e.frf,e.hok,e.bare⟩
section
variable{X:Cx}{pins:List (Addr×Obj)}{σ:St}{H:Hp}{s s':Shared}
theorem Inv.env0(I:Inv X pins σ H s):Env0 X.prog X.w X.K X.mg X.base X.A X.stack s H :=
 ⟨I.ok.frames,I.ok.mod,I.bs,zm I.ok.bsz I.sz,I.stack,I.stkFree,I.hok,I.bare⟩
theorem Inv.after{Q:VK}{u:Value}(I:Inv X pins σ H s)(h:CE X.stack X.prog X.w H s Q u s'):EP X pins σ Q u s':=by obtain⟨v,H',os,bare,un,hok,r,q⟩:=h;obtain⟨hh,g,d,t,os'⟩:=s';obtain rfl:os'=s.os:=os;exact⟨v,H',I.call (h':=hh) (g':=g) (d':=d) (t':=t) (ch:=[]) un hok bare (fun b z=>absurd z (by simp)),r,q⟩
end
def gQ(sp:Sp)(dvs:List V)(E:XK)(t:TA):TE:=fun σ H Q=>t σ H fun vs H1=>sp (vs++dvs) H1 Q E
inductive IsM(C:Addr)(m:Str)(x:V)(H:Hp)(R:Prop):Prop
 |mk (a dx:Addr) (fs:List (Str×V)) (h0:x=.ref a) (h1:H a=some (.ins C dx fs)) (h2:fs.lookup m=none) (q:R):IsM C m x H R
def gR(C:Addr)(m:Str)(sp:Sp)(dvs:List V)(E:XK)(ta:TE)(t:TA):TE:=fun σ H Q=>ta σ H fun x H1=>IsM C m x H1 (t σ H1 fun vs H2=>sp (x::(vs++dvs)) H2 Q E)
def se(C:Addr)(sp:Sp)(dvs:List V)(E:XK)(t:TA):TE:=fun σ H Q=>t σ H fun vs H1=>∀x dx,H1 x=none->H1 dx=none->dx≠x ->
 sp (.ref x::(vs++dvs)) (upd (upd H1 dx (.own x)) x (.ins C dx [])) (fun v H2=>v=.non/\Q (.ref x) H2) E
def Binds(K:PySem.W.Frag)(fd:FuncData)(ps:List Str)(ds:List Value):Prop :=
 ∀(s:Shared) (us:List Value),K.In s.heap->(us++ds).length=ps.length->BindsTo s fd ⟨us,[]⟩ (ps.zip (us++ds))
theorem Binds.all{K:PySem.W.Frag}{fd:FuncData}{ps:List Str}(h:∀us:List Value,us.length=ps.length->bindArgs fd ⟨us,[]⟩=pure (ps.zip us)):Binds K fd ps []:=fun s us _ hl=>by rw[zT]at hl ⊢;exact .of_eq (h us hl)
def bW(CX:CXT)(X:Cx)(E:XK):Prop:=∀(pins:List (Addr×Obj)) (σ:St) (H:Hp) (s:Shared) (e:Value) (s':Shared),Inv X pins σ H s->CX X.stack H s E e s'->X.xe e s'
section
variable{X:Cx}{CX:CXT}{k:Nat}{f C:Addr}{fd:FuncData}{ps:List Str}{sp:Sp}{dvs:List V}{ds:List Value}{E:XK}{x m:Str}{p pos apos:Pos}{e o:Expr}{es:List Expr}{ta:TE}{t:TA}
theorem lH{pins:List (Addr×Obj)}{σ:St}{H:Hp}{s:Shared}{Q:VK}{us:List Value}{vs:List V}(F:FnOk X.prog X.w X.K X.mg X.base CX k f fd ps sp)(hr:Room k X.A)(hb:Binds X.K fd ps ds)(hd:Vals dvs ds)(hx:bW CX X E)(I:Inv X pins σ H s)(r:Vals vs us)(h:sp (vs++dvs) H Q E):wpAny (model X.prog X.w) X.A (call (.ref f) us) (EP X pins σ Q) X.xe s:=by
 have r2:Vals (vs++dvs) (us++ds):=r.append hd;have hl:(us++ds).length=ps.length:=by rw[<-r2.length];exact F.len _ _ _ _ h
 refine wpAny_call (codeAny_mono (F.run X.A X.stack s H ⟨us,[]⟩ (us++ds) (vs++dvs) Q E hr I.env0 (hb s us I.kIn hl) r2 h) fun r s' hq=>?_);cases r with
 |error e=>exact hx pins σ H s e s' I hq
 |ok fl =>
  cases fl with
  |ret u=>exact I.after hq
  |next=>exact False.elim hq
  |brk=>exact False.elim hq
  |cont=>exact False.elim hq
theorem mH(F:FnOk X.prog X.w X.K X.mg X.base CX k f fd ps sp)(hr:Room k X.A)(hg:Gl X x)(hm:X.mg x=some (.ref f))(hk:PySem.W.keepIn X.K (.ref f)=true)(hb:Binds X.K fd ps ds)(hd:Vals dvs ds)(hx:bW CX X E)(ha:PA X (e::es) t)(hdb:(x==("__debug__":Str))=false:=by decide)(he:starEach (e::es) X.env=(false,eval e X.env)::starEach es X.env:=by rfl)(hpl:(backTo pos (starEach es X.env)).any (·.1)=false:=by rfl) :
  PE X (.Call (.Name x p) (e::es) [] pos) (gQ sp dvs E t):=by
 intro pins s σ H Q I h;refine wpAny_Call_Name_kw (dF I hg hm ?_ hdb);refine PySem.W.callWith_K (h₀:=X.base) I.ok.mod.kin hk (thn (ha pos pins s σ H _ I h) fun us s1 ⟨vs,H1,I1,r,q⟩=>⟨I1.kIn,?_⟩) he hpl;exact lH F hr hb hd hx I1 r q
theorem mI{pl:Sem Bool}(he:PE X o ta)(c:Cls X.K C)(hm:Meth X.K C m f)(F:FnOk X.prog X.w X.K X.mg X.base CX k f fd ps sp)(hr:Room k X.A)(hb:Binds X.K fd ps ds)(hd:Vals dvs ds)(hx:bW CX X E)(ha:PA X (e::es) t)(hst:starEach (e::es) X.env=(false,eval e X.env)::starEach es X.env:=by rfl)(hpl:(backTo pos (starEach es X.env)).any (·.1)=false:=by rfl)(ht:eval (.Call (.Attribute o m apos) (e::es) [] pos) X.env=(do
   let ov ←eval o X.env
   standAt apos.atName
   let(f,first) ←holding [ov] (getMethod ov m pl)
   callWith pos f first (backTo pos (starEach (e::es) X.env)) (backToKw pos (keywordEach [] X.env))):=by rfl) :
  PE X (.Call (.Attribute o m apos) (e::es) [] pos) (gR C m sp dvs E ta t):=by
 intro pins s σ H Q I h;refine PySem.W.methodCall_KW (pl:=pl) (thn (he pins s σ H _ I h) fun u s1 hz9=>?_) ht;obtain⟨x,H1,I1,rx,a,dx,fs,ex,ea,l,q⟩:=hz9;subst ex;obtain rfl:u=Value.ref a:=rx;refine iI I1 ea c hm l ?_;refine PySem.W.callWith_K (first:=[.ref a]) (h₀:=X.base) I.ok.mod.kin hm.kp (thn (ha pos pins s1 σ H1 _ I1 q) fun us s2 ⟨vs,H2,I2,r,q2⟩=>⟨I2.kIn,?_⟩) hst hpl;exact lH (us:=.ref a::us) (vs:=.ref a::vs) F hr hb hd hx I2 (.cons rfl r) q2
theorem qZ{pl:Sem Bool}(he:PE X o ta)(c:Cls X.K C)(hm:Meth X.K C m f)(F:FnOk X.prog X.w X.K X.mg X.base CX k f fd ps sp)(hr:Room k X.A)(hb:Binds X.K fd ps ds)(hd:Vals dvs ds)(hx:bW CX X E)(ht:eval (.Call (.Attribute o m apos) [] [] pos) X.env=(do
   let ov ←eval o X.env
   standAt apos.atName
   let(f,first) ←holding [ov] (getMethod ov m pl)
   callWith pos f first (backTo pos (starEach [] X.env)) (backToKw pos (keywordEach [] X.env))):=by rfl) :
  PE X (.Call (.Attribute o m apos) [] [] pos) (gR C m sp dvs E ta dj):=by
 intro pins s σ H Q I h;refine PySem.W.methodCall_KW (pl:=pl) (thn (he pins s σ H _ I h) fun u s1 hz9=>?_) ht;obtain⟨x,H1,I1,rx,a,dx,fs,ex,ea,l,q⟩:=hz9;subst ex;obtain rfl:u=Value.ref a:=rx;refine iI I1 ea c hm l ?_;exact PySem.W.callWith_K0 (first:=[.ref a]) I1.kIn hm.kp (lH (us:=[.ref a]) (vs:=[.ref a]) F hr hb hd hx I1 (.cons rfl .nil) q)
structure Mk(K:PySem.W.Frag)(C f:Addr):Prop where
 makes:PySem.W.makesIn K C=true
 init:PySem.W.findIn K (.ref C) "__init__" = some (some (.ref f))
 fn:PySem.W.isFn K (.ref f)=true
 kp:PySem.W.keepIn K (.ref C)=true
theorem rq{pins:List (Addr×Obj)}{σ:St}{H:Hp}{s:Shared}{Q:VK}{us:List Value}{vs:List V}(M:Mk X.K C f)(F:FnOk X.prog X.w X.K X.mg X.base CX k f fd ps sp)(hr:Room (k+1) X.A)(hb:Binds X.K fd ps ds)(hd:Vals dvs ds)(hx:bW CX X E)(I:Inv X pins σ H s)(r:Vals vs us)(h:∀x dx,H x=none->H dx=none->dx≠x->sp (.ref x::(vs++dvs)) (upd (upd H dx (.own x)) x (.ins C dx [])) (fun v H2=>v=.non/\Q (.ref x) H2) E) :
  wpAny (model X.prog X.w) X.A (call (.ref C) us) (EP X pins σ Q) X.xe s:=by
 have hq:=h (s.heap.objs.size+1) s.heap.objs.size (I.hok.fresh (Nat.le_succ _)) (I.hok.fresh (zd _)) (zC (Nat.lt_succ_self _));have I2:=Inv.made (C:=C) I;have r2:Vals (V.ref (s.heap.objs.size+1)::(vs++dvs)) (Value.ref (s.heap.objs.size+1)::(us++ds)):=.cons rfl (r.append hd);have hl:(Value.ref (s.heap.objs.size+1)::us++ds).length=ps.length:=by have e:=r2.length;rw[F.len _ _ _ _ hq]at e;exact e.symm
 refine wpAny_call (qN (f:=f) I.kIn M.makes M.init (zH.mp M.fn) (codeAny_mono (F.run _ X.stack _ _ ⟨Value.ref (s.heap.objs.size+1)::us,[]⟩ (Value.ref (s.heap.objs.size+1)::(us++ds)) _ _ E (hr.make C us [])
  (I2.env0.make C us []) (hb _ (Value.ref (s.heap.objs.size+1)::us) I2.kIn hl) r2 hq) fun r s' hq'=>?_))
 cases r with
 |error e=>exact hx pins σ _ _ e s' I2 hq'
 |ok fl =>
  cases fl with
  |ret u =>obtain⟨v,H',I3,rv,ev,q3⟩:=I2.after hq';subst ev;exact⟨rv,⟨V.ref (s.heap.objs.size+1),H',I3,rfl,q3⟩⟩
  |next=>exact False.elim hq'
  |brk=>exact False.elim hq'
  |cont=>exact False.elim hq'
theorem tM(M:Mk X.K C f)(F:FnOk X.prog X.w X.K X.mg X.base CX k f fd ps sp)(hr:Room (k+1) X.A)(hg:Gl X x)(hm:X.mg x=some (.ref C))(hb:Binds X.K fd ps ds)(hd:Vals dvs ds)(hx:bW CX X E)(ha:PA X (e::es) t)(hdb:(x==("__debug__":Str))=false:=by decide)(he:starEach (e::es) X.env=(false,eval e X.env)::starEach es X.env:=by rfl)(hpl:(backTo pos (starEach es X.env)).any (·.1)=false:=by rfl) :
  PE X (.Call (.Name x p) (e::es) [] pos) (se C sp dvs E t):=by
 intro pins s σ H Q I h;refine wpAny_Call_Name_kw (dF I hg hm ?_ hdb);refine PySem.W.callWith_K (h₀:=X.base) I.ok.mod.kin M.kp (thn (ha pos pins s σ H _ I h) fun us s1 ⟨vs,H1,I1,r,q⟩=>⟨I1.kIn,?_⟩) he hpl;exact rq M F hr hb hd hx I1 r q
end
section
variable{X:Cx}{CX:CXT}{k:Nat}{f C:Addr}{fd:FuncData}{ps ks:List Str}{sp:Sp}{E:XK}{x m:Str}{p pos apos kpos:Pos}{e o:Expr}{es:List Expr}{kws:List Keyword}{te ta:TE}{t tk:TA}{nm:Option Str}
structure KBinds(K:PySem.W.Frag)(fd:FuncData)(ps ks:List Str)(g:List Value->List Value->List Value)(gV:List V->List V->List V):Prop where
 to:∀(s:Shared) (us ws:List Value),K.In s.heap->(g us ws).length=ps.length->BindsTo s fd ⟨us,ks.zip ws⟩ (ps.zip (g us ws))
 rel:∀{vs:List V} {us:List Value} {zs:List V} {ws:List Value},Vals vs us->Vals zs ws->Vals (gV vs zs) (g us ws)
variable{g:List Value->List Value->List Value}{gV:List V->List V->List V}
end
structure FnScope(N P:List Str)(sc:Scope):Prop where
 kind:sc.kind=.function
 co:sc.isCoroutine=false
 gen:sc.isGenerator=false
 nd:N.Nodup
 pre:N.take P.length=P
 par:∀x∈P,sc.names.lookup x=some .local\/sc.names.lookup x=some .cell
 nofree:∀y∈sc.names,y.2≠.free
theorem jJ{kindOf:Str->Option NameKind}{x:Str}:∀{binds:List (Str×Value)} {m:Str->Option Value},(∀v,(x,v)∉binds)->bindL kindOf binds m x=m x
 | [],_,_=>rfl
 |(n,v)::r,m,h=>by
  unfold bindL;rw[jJ fun w hw=>h w (ze _ hw)];split
  ·have:x≠n:=by rintro rfl;exact h v zi
   simp[this]
  ·rfl
theorem jH{kindOf:Str->Option NameKind}{x:Str}:∀{binds:List (Str×Value)} {m:Str->Option Value},(∀v,(x,v)∉binds)->bindC kindOf binds m x=m x
 | [],_,_=>rfl
 |(n,v)::r,m,h=>by
  unfold bindC;rw[jH fun w hw=>h w (ze _ hw)];split
  ·rfl
  ·have:x≠n:=by rintro rfl;exact h v zi
   simp[this]
theorem jI{kindOf:Str->Option NameKind}{x:Str}{v:Value}:∀{P:List Str} {vs:List Value} {i:Nat} {m:Str->Option Value},P.Nodup->P[i]?=some x->vs[i]?=some v->kindOf x=some .local ->
  bindL kindOf (P.zip vs) m x=some v
 | [],_,_,_,_,h,_,_=>by simp at h
 |_::_,[],_,_,_,_,h,_=>by simp at h
 |p::P,w::vs,0,m,nd,h1,h2,hk=>by simp at h1 h2;subst h1;subst h2;show bindL kindOf ((p,w)::P.zip vs) m p=_;unfold bindL;rw[jJ fun v hv=>(List.nodup_cons.mp nd).1 (List.of_mem_zip hv).1,yn hk];simp
 |p::P,w::vs,i+1,m,nd,h1,h2,hk=>by show bindL kindOf ((p,w)::P.zip vs) m x=_;unfold bindL;exact jI (i:=i) (List.nodup_cons.mp nd).2 (by simpa using h1) (by simpa using h2) hk
theorem jG{kindOf:Str->Option NameKind}{x:Str}{v:Value}:∀{P:List Str} {vs:List Value} {i:Nat} {m:Str->Option Value},P.Nodup->P[i]?=some x->vs[i]?=some v->kindOf x≠some .local ->
  bindC kindOf (P.zip vs) m x=some v
 | [],_,_,_,_,h,_,_=>by simp at h
 |_::_,[],_,_,_,_,h,_=>by simp at h
 |p::P,w::vs,0,m,nd,h1,h2,hk=>by simp at h1 h2;subst h1;subst h2;show bindC kindOf ((p,w)::P.zip vs) m p=_;unfold bindC;rw[jH fun v hv=>(List.nodup_cons.mp nd).1 (List.of_mem_zip hv).1,ym hk];simp
 |p::P,w::vs,i+1,m,nd,h1,h2,hk=>by show bindC kindOf ((p,w)::P.zip vs) m x=_;unfold bindC;exact jG (i:=i) (List.nodup_cons.mp nd).2 (by simpa using h1) (by simpa using h2) hk
def cb(N:List Str)(vs:List V):St:=vs.map some++List.replicate (N.length-vs.length) none
def cX(CX:CXT)(P:Program)(w:World)(K:PySem.W.Frag)(mg:Str->Option Value)(base:Heap)(N:List Str)(qual:Str)(scope:Scope)(f:Addr)(cd:Value)(A:Around)(outer:List Env)(s:Shared)(H:Hp)(E:XK):Cx where
 prog:=P
 w:=w
 K:=K
 mg:=mg
 base:=base
 A:=A.deeper (envOfC qual scope s.heap.objs.size f cd)
 N:=N
 s₀:=s
 H₀:=H
 env:=envOfC qual scope s.heap.objs.size f cd
 outer:=outer
 stack:=envOfC qual scope s.heap.objs.size f cd::outer
 ex:=[]
 calm:=true
 fn:=fun _=>true
 pn:=[]
 xe:=fun e s'=>wpAny (model P w) (A.deeper (envOfC qual scope s.heap.objs.size f cd)) (leaving (envOfC qual scope s.heap.objs.size f cd) e) (fun _ s''=>CX outer H s E e s'') (fun e' s''=>CX outer H s E e' s'') s'
theorem kN{sc:Scope}{n:Nat}{x:Str}(h:sc.names.lookup x=some .cell):∃c,(cellsFrom n sc.names []).lookup x=some c:=by have q:=PySem.W.cellsFrom_some sc.names n [] (.inl h);exact Option.isSome_iff_exists.mp q
theorem oZ{CX:CXT}{P:Program}{w:World}{K:PySem.W.Frag}{mg:Str->Option Value}{base:Heap}{N ps:List Str}{qual:Str}{scope:Scope}{f:Addr}{cd:Value}{A:Around}{outer:List Env}{s s1:Shared}{H:Hp}{E:XK}{us:List Value}{vs:List V}(S:FnScope N ps scope)(hd:A.handled=none)(e0:Env0 P w K mg base A outer s H)(hl:vs.length=ps.length)(r:Vals vs us)(x:InCallC s s.heap.objs.size (bindL (envOfC qual scope s.heap.objs.size f cd).kindOf (ps.zip us) fun _=>none) (cellsFrom (s.heap.objs.size+1) scope.names []) (bindC (envOfC qual scope s.heap.objs.size f cd).kindOf (ps.zip us) fun _=>none) s1) :
  Inv (cX CX P w K mg base N qual scope f cd A outer s H E) [] (cb N vs) H s1:=by
 have hpl:ps.length<=N.length:=by have:=zS List.length S.pre;rw[z8]at this;omega
 obtain⟨h1,tk,rfl,hk⟩:=x.done;have noA:∀b:Addr,b∉(cX CX P w K mg base N qual scope f cd A outer s H E).ex:=fun b z=>absurd (show b∈([]:List Addr)from z) (by simp);refine⟨⟨e0.mod,S.kind,rfl,rfl,zd _,fun y z c h1 h2=>?_,fun y hy=>?_,fun y c _ h=>?_,fun _=>hd,Around.frames_deeper e0.frames,.inr ⟨rfl,rfl⟩,fun b z=>absurd z (noA b),e0.bs,e0.bsz,fun b _ _=>noA b,fun b z=>absurd z (noA b),e0.funs,e0.frf⟩,
  rfl,e0.bare,Un.kept hk,⟨_,x.toInCall.ns,fun i y v h1 h2 h3=>?_⟩,fun y c h=>⟨_,x.cell y c h⟩,e0.hok.fresh (zd _),fun y c h=>?_,fun p hp=>absurd (show p∈([]:List (Addr×Obj)) from hp) (by simp),e0.hok.kept hk,?_⟩
 ·exact name_of_addr x.apart (Za h1) (Za h2)
 ·have hy:scope.names.lookup y=some .cell\/scope.names.lookup y=some .free:=hy;rcases hy with hy|hy
  ·exact kN hy
  ·exact absurd rfl (S.nofree _ (Za hy))
 ·exact Zn (x.above y c (Za h))
 ·have hi:i<vs.length:=by
   unfold cb at h2;by_cases hi:i<vs.length
   ·exact hi
   ·rw[zQ (by simpa using hi)]at h2;rw[List.getElem?_replicate]at h2;split at h2<;>cases h2
  have ha:vs[i]?=some v:=by
   unfold cb at h2;rw[List.getElem?_append_left (by simpa using hi),zL]at h2;cases e:vs[i]? with
   |none=>rw[e]at h2;cases h2
   |some a=>rw[e]at h2;cases h2;rfl
  obtain⟨u,hu,rv⟩:=r.get ha;have hp:ps[i]?=some y:=by rw[<-S.pre,List.getElem?_take_of_lt (by omega)];exact h1
  have ndP:ps.Nodup:=by rw[<-S.pre];exact S.nd.sublist (List.take_sublist _ _)
  refine⟨u,rv,?_⟩;rcases S.par y (Zj hp)with k|k
  ·exact .inl ⟨k,jI ndP hp hu k⟩
  ·obtain⟨c,e⟩:=kN (n:=s.heap.objs.size+1) k;refine .inr ⟨.inl k,c,e,?_⟩;have q:=x.cell y c e;rw[jG ndP hp hu (by show scope.names.lookup y≠_;rw[k];decide)]at q;exact q
 ·exact e0.hok.fresh (Zn (x.above y c (Za h)))
 ·unfold cb;show _=N.length;rw[zb,za,Zq];omega
theorem rM{CX:CXT}{P:Program}{w:World}{K:PySem.W.Frag}{mg:Str->Option Value}{base:Heap}{k:Nat}{f:Addr}{name qual:Str}{params:Arguments}{body:List Stmt}{scope:Scope}{dV kV doc pm cdv ct oc:Value}{an od:Option Addr}{osl:Array (Option Value)}{N ps:List Str}{sp:Sp}(lk:K.lookup f=some ⟨oc,od,.func (PySem.W.fnOf name qual params body scope dV kV doc pm an cdv ct),osl⟩)(hcd:PySem.W.codeIn K cdv qual=true)(S:FnScope N ps scope)(len:∀ vs H Q E,sp vs H Q E->vs.length=ps.length)(hbody:∀ (A:Around) (outer:List Env) (s:Shared) (H:Hp) (vs:List V) (Q:VK) (E:XK),Room k (A.deeper (envOfC qual scope s.heap.objs.size f cdv))->sp vs H Q E ->
   ∃ t,PSs (cX CX P w K mg base N qual scope f cdv A outer s H E) body t/\t { nx:=fun _ H'=>Q .non H',rt:=Q } (cb N vs) H) :
  FnOk P w K mg base CX (k+1) f (PySem.W.fnOf name qual params body scope dV kV doc pm an cdv ct) ps sp:=by
 refine⟨len,fun A outer s H args us vs Q E hr e0 hb r hsp=>?_⟩;have hl:=len _ _ _ _ hsp;have KX:K.In s.heap:=e0.mod.kin.keeps fun b o e=>(e0.bs b o e).1;have lim:s.heap.NoLimit:=e0.mod.nolimit.keeps fun b o e=>(e0.bs b o e).1;have hkind:∀y∈ps.zip us,scope.names.lookup y.1=some .local\/(scope.names.lookup y.1=some .cell/\((cellsFrom (s.heap.objs.size+1) scope.names []).lookup y.1).isSome=true):=fun⟨n,v⟩ hy=>by
  rcases S.par n (List.of_mem_zip hy).1 with q|q
  ·exact .inl q
  ·exact .inr ⟨q,PySem.W.cellsFrom_some _ _ _ (.inl q)⟩
 refine codeAny_call_function hr.depth (KX _ _ lk) rfl S.co S.gen rfl (PySem.W.codeRec_of KX hcd) (hb _ _ _ _ ?_);refine wpAny_newFunctionEnv_cells S.kind hkind fun env he s1 x=>?_;subst he;refine⟨lim.keeps x.toInCall.keep,codeAny_func ?_⟩;obtain⟨t,ht,hq⟩:=hbody A outer s H vs Q E (hr.deeper _) hsp;have I:Inv (cX CX P w K mg base N qual scope f cdv A outer s H E) [] (cb N vs) H s1:=oZ S hr.hd e0 hl r x;refine zY (ht [] s1 (cb N vs) H _ I hq) (fun fl s' hs=>?_) fun e s' hs=>hs;have fin:∀{σ':St} {H':Hp} {v:V} {u:Value},Inv (cX CX P w K mg base N qual scope f cdv A outer s H E) [] σ' H' s'->RelV v u->Q v H'->CE outer P w H s Q u s' :=
  fun{σ' H' v u} J rv q=>⟨v,H',J.os,J.bare,J.base,J.hok,rv,q⟩
 cases fl with
 |ret u =>obtain⟨v,σ',H',J,rv,q⟩:=hs;exact fin J rv q
 |next =>obtain⟨σ',H',J,q⟩:=hs;exact fin (v:=V.non) (u:=Value.none) J rfl q
 |brk =>obtain⟨_,_,_,q⟩:=hs;exact False.elim q
 |cont =>obtain⟨_,_,_,q⟩:=hs;exact False.elim q
open PySem PySem.Spec PyProof.Rows
section
variable{X:Cx}{x:Str}{p pos:Pos}{e:Expr}{es:List Expr}{t:TA}{id T:String}{r:List V->Hp->VK->Prop}
def tCB(r:List V->Hp->VK->Prop)(t:TA):TE:=fun σ H Q=>t σ H fun vs H1=>r vs H1 Q
theorem qX(hc:dk X (.builtin id) r)(hg:Gl X x)(hm:X.mg x=none)(hv:bootBuiltins x=some (.builtin id))(ha:PA X (e::es) t)(hn:x≠"__name__":=by decide)(hdb:(x==("__debug__":Str))=false:=by decide)(he:starEach (e::es) X.env=(false,eval e X.env)::starEach es X.env:=by rfl)(hpl:(backTo pos (starEach es X.env)).any (·.1)=false:=by rfl):PE X (.Call (.Name x p) (e::es) [] pos) (tCB r t):=by intro pins s σ H Q I h;refine wpAny_Call_Name_kw (iN I hg hm hv ?_ hn hdb);exact PyProof.Rows.callWith_builtin1 (thn (ha pos pins s σ H _ I h) fun us s1 ⟨vs,H1,I1,r1,q1⟩=>hc pins s1 σ H1 vs us Q I1 r1 q1) he hpl
theorem pG(hc:dk X (.type T) r)(hg:Gl X x)(hm:X.mg x=none)(hv:bootBuiltins x=some (.type T))(ha:PA X (e::es) t)(hn:x≠"__name__":=by decide)(hdb:(x==("__debug__":Str))=false:=by decide)(he:starEach (e::es) X.env=(false,eval e X.env)::starEach es X.env:=by rfl)(hpl:(backTo pos (starEach es X.env)).any (·.1)=false:=by rfl):PE X (.Call (.Name x p) (e::es) [] pos) (tCB r t):=by intro pins s σ H Q I h;refine wpAny_Call_Name_kw (iN I hg hm hv ?_ hn hdb);exact PyProof.Rows.callWith_type1 (thn (ha pos pins s σ H _ I h) fun us s1 ⟨vs,H1,I1,r1,q1⟩=>hc pins s1 σ H1 vs us Q I1 r1 q1) he hpl
end
end L2
namespace HT
open PySem PyProof.Rows
section
variable{prog:Program}{w:World}{A:Around}{E:Value->Shared->Prop}{s:Shared}
def sIx(n d:Nat):Option Int->Nat
 |none=>d
 |some v=>if v<0 then(v+(n:Int)).toNat else min v.toNat n
theorem sIx_none(n d:Nat):sIx n d none=d:=rfl
theorem sIx_nat(n d k:Nat):sIx n d (some (k:Int))=min k n:=by show(if(k:Int)<0 then((k:Int)+(n:Int)).toNat else min (k:Int).toNat n)=min k n;rw[ym (by omega),Int.toNat_natCast]
end
end HT
namespace L2
open PySem PySem.Spec PyProof.Rows
abbrev TO:=St->Hp->(Option Int->Hp->Prop)->Prop
def PO(X:Cx)(e:Option Expr)(t:TO):Prop :=
 ∀(pins:List (Addr×Obj)) (s:Shared) (σ:St) (H:Hp) (Q:Option Int->Hp->Prop),Inv X pins σ H s->t σ H Q ->
  wpAny (model X.prog X.w) X.A (evalPart e X.env) (fun u s'=>∃o H',Inv X pins σ H' s'/\IsPart u o/\Q o H') X.xe s
def mO:TO:=fun _ H Q=>Q none H
inductive IsI(x:V)(R:Int->Prop):Prop
 |mk (i:Int) (h:x=.int i) (q:R i):IsI x R
def sf(t:TE):TO:=fun σ H Q=>t σ H fun x H1=>IsI x fun i=>Q (some i) H1
theorem fj{ns:List Int}:∀{us:List Value},Vals (ns.map V.int) us->IntsAre us ns:=by
 induction ns with
 |nil=>intro us r;rw[List.map_nil]at r;cases r;exact .nil
 |cons n ns ih =>
  intro us r;rw[zA]at r;cases r with
  |cons r1 r2 =>obtain⟨t,e⟩:=r1;subst e;exact .cons n t (ih r2)
section
variable{X:Cx}{e:Expr}{te:TE}{lo hi:Option Expr}{tl th:TO}{pos p2:Pos}
theorem tR:PO X none mO:=by intro pins s σ H Q I h;rw[evalPart_none];exact zu ⟨none,H,I,.none,h⟩
theorem tS(h:PE X e te):PO X (some e) (sf te):=by intro pins s σ H Q I hw;rw[evalPart_some];refine thn (h pins s σ H _ I hw) fun u s1 hz9=>?_;obtain⟨x,H1,I1,r1,q1⟩:=hz9;obtain⟨i,rfl,q⟩:=q1;obtain⟨t,rfl⟩:=r1;exact⟨some i,H1,I1,.int i t,q⟩
def SlR(X:Cx)(r:V->Option Int->Option Int->Hp->VK->Prop):Prop :=
 ∀(pins:List (Addr×Obj)) (s:Shared) (σ:St) (H:Hp) (x:V) (v vl vu:Value) (lo hi:Option Int) (sl:Addr) (Q:VK),Inv X pins σ H s->RelV x v->s.heap.IsSliceOf sl vl vu .none->IsPart vl lo->IsPart vu hi->r x lo hi H Q ->
  ∃T id,typeLookup (.type T) "__getitem__" = pure (some (.builtin id))/\s.TypeIs v T/\wpAny (model X.prog X.w) X.A (getItem v (.ref sl)) (EP X pins σ Q) X.xe s
def tSl(r:V->Option Int->Option Int->Hp->VK->Prop)(te:TE)(tl th:TO):TE:=fun σ H Q=>te σ H fun x H1=>tl σ H1 fun l H2=>th σ H2 fun u H3=>r x l u H3 Q
theorem ra{r:V->Option Int->Option Int->Hp->VK->Prop}(hr:SlR X r)(he:PE X e te)(hl:PO X lo tl)(hu:PO X hi th):PE X (.Subscript e (.Slice lo hi none p2) pos) (tSl r te tl th):=by intro pins s σ H Q I h;refine Subscript_ (thn (he pins s σ H _ I h) fun v s1 hz9=>?_);obtain⟨x,H1,I1,r1,q1⟩:=hz9;refine wpAny_Slice (thn (hl pins s1 σ H1 _ I1 q1) fun vl s2 ⟨l,H2,I2,pl,q2⟩=>thn (hu pins s2 σ H2 _ I2 q2) fun vu s3 hz9=>?_);obtain⟨u,H3,I3,pu,q3⟩:=hz9;rw[evalPart_none];refine zu ?_;have I4:Inv X pins σ H3 { s3 with heap:=s3.heap.push { cls:=.type "slice",data:=.fields #[vl,vu,.none] } }:=I3.kept (t':=s3.toks) fun b ob q=>zj _ q;obtain⟨T,id,hT,ht,hg⟩:=hr pins { s3 with heap:=s3.heap.push { cls:=.type "slice",data:=.fields #[vl,vu,.none] } } σ H3 x v vl vu l u s3.heap.objs.size Q I4 r1 (Heap.IsSliceOf.new ..) pl pu q3;show wpAny (model X.prog X.w) X.A (subscriptTail e (.Slice lo hi none p2) v (.ref s3.heap.objs.size)) (EP X pins σ Q) X.xe { s3 with heap:=s3.heap.push { cls:=.type "slice",data:=.fields #[vl,vu,.none] } };exact tail_any (ops:=[.ref s3.heap.objs.size,v]) ht hT hg (by with_unfolding_all rfl)
def bq(xs:List V)(lo hi:Option Int):List V:=(xs.drop (HT.sIx xs.length 0 lo)).take (HT.sIx xs.length xs.length hi-HT.sIx xs.length 0 lo)
theorem md(xs:List V)(lo hi:Option Int):(bq xs lo hi).length<=xs.length:=by unfold bq;rw[z8,zD];omega
inductive rSlT(K:PySem.W.Frag)(x:V)(lo:Option Int)(hi:Option Int)(H:Hp)(Q:VK):Prop
 |mk (a xs:_) (h0:x=.ref a) (h1:SqT K H a xs) (h2:¬(HT.sIx xs.length 0 lo=0/\HT.sIx xs.length xs.length hi=xs.length)) (h3:∀p,H p=none->Q (.ref p) (upd H p (.tup (bq xs lo hi)))):rSlT K x lo hi H Q
end
open PySem PySem.Spec PyProof.Rows
def ixN(n:Nat)(i:Int):Option Nat:=if 0<=i then(if i<n then some i.toNat else none)else if -(n:Int)<=i then some (i+n).toNat else none
def atI{α:Type}(xs:List α)(i:Int):Option α:=(ixN xs.length i).bind fun j=>xs[j]?
theorem sE{n:Nat}{i:Int}{j:Nat}(h:ixN n i=some j):seqIndex? i n=some j/\j<n/\-(n:Int)<=i/\i<n:=by
 unfold ixN at h;by_cases h0:0<=i
 ·rw[yn h0]at h;by_cases h1:i<n
  ·rw[yn h1]at h;have e:i.toNat=j:=zt h;exact⟨by rw[seqIndex_of h0 h1,e],by omega,by omega,h1⟩
  ·rw[ym h1]at h;cases h
 ·rw[ym h0]at h;by_cases h1:-(n:Int)<=i
  ·rw[yn h1]at h;have e:(i+n).toNat=j:=zt h;exact⟨by rw[seqIndex_neg (by omega) h1,e],by omega,h1,by omega⟩
  ·rw[ym h1]at h;cases h
theorem mm{α:Type}{xs:List α}{i:Int}{v:α}(h:atI xs i=some v):∃j,seqIndex? i xs.length=some j/\xs[j]?=some v/\j<xs.length/\-(xs.length:Int)<=i/\i<xs.length:=by
 unfold atI at h;cases e:ixN xs.length i with
 |none=>rw[e]at h;cases h
 |some j =>rw[e]at h;obtain⟨h1,h2,h3,h4⟩:=sE e;exact⟨j,h1,h,h2,h3,h4⟩
theorem dC{α:Type}{xs:List α}{j:Nat}{v:α}(h:xs[j]?=some v):atI xs (j:Int)=some v:=by
 have hj:j<xs.length:=(zr.mp h).1;have e:ixN xs.length (j:Int)=some j:=by unfold ixN;rw[yn (by omega),yn (by omega)];simp
 unfold atI;rw[e];exact h
def ml(b:Expr):Prop:=∀o i,subscripted b false o i=operate [o,i] (getItem o i)
def IxR(X:Cx)(r:R2):Prop :=
 ∀(value slice:Expr) (pins:List (Addr×Obj)) (s:Shared) (σ:St) (H:Hp) (x y:V) (v u:Value) (Q:VK),Inv X pins σ H s->RelV x v->RelV y u->r x y H Q ->
  subscripted slice false v u=operate [v,u] (getItem v u)->wpAny (model X.prog X.w) X.A (subscriptTail value slice v u) (EP X pins σ Q) X.xe s
def MtR(X:Cx)(id:String)(r:V->List V->Hp->VK->Prop):Prop :=
 ∀(pins:List (Addr×Obj)) (s:Shared) (σ:St) (H:Hp) (x:V) (xs:List V) (v:Value) (us:List Value) (Q:VK),Inv X pins σ H s->RelV x v->Vals xs us->r x xs H Q ->
  wpAny (model X.prog X.w) X.A (call (.builtin id) (v::us)) (EP X pins σ Q) X.xe s
section
variable{X:Cx}{a b:Expr}{ta tb:TE}{pos:Pos}
theorem xt{r:R2}(hr:IxR X r)(ha:PE X a ta)(hb:PE X b tb)(hs:ml b):PE X (.Subscript a b pos) (tOp r ta tb):=by intro pins s σ H Q I h;exact Subscript_ (qr ha hb I h fun v u s2 x y H2 I2 rx ry q=>hr a b pins s2 σ H2 x y v u Q I2 rx ry q (hs _ _))
inductive rIxL(K:PySem.W.Frag)(x:V)(y:V)(H:Hp)(Q:VK):Prop
 |mk (p xs i v:_) (h0:x=.ref p) (h1:y=.int i) (h2:SqL K H p xs) (h3:atI xs i=some v) (h4:Q v H):rIxL K x y H Q
inductive rIxT(K:PySem.W.Frag)(x:V)(y:V)(H:Hp)(Q:VK):Prop
 |mk (p xs i v:_) (h0:x=.ref p) (h1:y=.int i) (h2:SqT K H p xs) (h3:atI xs i=some v) (h4:Q v H):rIxT K x y H Q
theorem sI:IxR X (rIxL X.K):=by
 intro value slice pins s σ H x y v u Q I rx ry h hs;obtain⟨p,xs,i,z,rfl,rfl,hq,he,q⟩:=h;cases rx;obtain⟨t,rfl⟩:=ry;obtain⟨its,r,pl,hz⟩:=I.list hq;obtain⟨j,h1,h2,h3,h4,h5⟩:=mm he;obtain⟨w,ew,rw'⟩:=r.get h2;have hl:=r.length;have hn:=lu;have fin:EP X pins σ Q w s:=⟨z,H,I,rw',q⟩
 by_cases h0:0<=i
 ·have hj:i.toNat=j:=by rw[seqIndex_of h0 h5]at h1;exact zt h1
  exact item_listR pl.isList h0 (by omega) (by rw[hj];simpa using ew) fin hs
 ·have hj:(i+(its.toArray.size:Int)).toNat=j:=by rw[seqIndex_neg (by omega) h4]at h1;rw[zv,<-hl];exact zt h1
  exact subscriptTail_builtinR (x:=w) pl.isList.typeIs slot_list_getitem.lookup
   (wpAny_getItem_list_neg (Q:=fun r s'=>r=w/\EP X pins σ Q r s') pl.isList (by omega) (by rw[zv]<;>omega) (by omega) (by rw[hj];simpa using ew) ⟨rfl,fin⟩) hs
theorem uP:IxR X (rIxT X.K):=by
 intro value slice pins s σ H x y v u Q I rx ry h hs;obtain⟨p,xs,i,z,rfl,rfl,hq,he,q⟩:=h;cases rx;obtain⟨t,rfl⟩:=ry;obtain⟨its,r,pl,hz⟩:=I.tuple hq;obtain⟨j,h1,h2,h3,h4,h5⟩:=mm he;obtain⟨w,ew,rw'⟩:=r.get h2;have hl:=r.length;have hn:=lu;have fin:EP X pins σ Q w s:=⟨z,H,I,rw',q⟩
 exact subscriptTail_builtinR (x:=w) pl.typeIs slot_tuple_getitem.lookup
  (getItem_tuple (j:=j) (Q:=fun r s'=>r=w/\EP X pins σ Q r s') pl (by omega) (by omega) (by rw[zv,<-hl];exact h1) (by simpa using ew) ⟨rfl,fin⟩) hs
theorem lT(lo hi:Option Int)(n:Nat):(sliceBounds lo hi none n).1=((HT.sIx n 0 lo:Nat):Int)/\(sliceBounds lo hi none n).2.1=((HT.sIx n n hi:Nat):Int)/\(sliceBounds lo hi none n).2.2=1:=by
 refine⟨?_,?_,rfl⟩
 ·cases lo with
  |none=>simp[sliceBounds,HT.sIx]
  |some i =>
   simp only[sliceBounds,HT.sIx,Option.getD_none,show(1:Int)>0 by decide,if_true];by_cases h:i<0
   ·simp only[h,if_true]<;>omega
   ·simp only[h,if_false]<;>omega
 ·cases hi with
  |none=>simp[sliceBounds,HT.sIx]
  |some i =>
   simp only[sliceBounds,HT.sIx,Option.getD_none,show(1:Int)>0 by decide,if_true];by_cases h:i<0
   ·simp only[h,if_true]<;>omega
   ·simp only[h,if_false]<;>omega
theorem kj(its:List Value)(lo hi:Option Int):slicePick its.toArray lo hi none=((its.drop (HT.sIx its.length 0 lo)).take (HT.sIx its.length its.length hi-HT.sIx its.length 0 lo)).toArray:=by obtain⟨h1,h2,h3⟩:=lT lo hi its.toArray.size;unfold slicePick;rw[h1,h2,h3];simp only[sliceRange_one,pick_run,zv]<;>rfl
inductive rSlL(K:PySem.W.Frag)(x:V)(lo:Option Int)(hi:Option Int)(H:Hp)(Q:VK):Prop
 |mk (a xs:_) (h0:x=.ref a) (h1:SqL K H a xs) (h2:∀p,H p=none->Q (.ref p) (upd H p (.lst (bq xs lo hi)))):rSlL K x lo hi H Q
theorem ug:SlR X (rSlL X.K):=by intro pins s σ H x v vl vu lo hi sl Q I rx hs pl pu h;obtain⟨a,xs,rfl,hx,q⟩:=h;cases rx;obtain⟨its,r,ht,hz⟩:=I.list hx;have hlen:=r.length;refine⟨"list",_,slot_list_getitem.lookup,ht.isList.typeIs,?_⟩;refine wpAny_getItem_list_slice ht.isList hs pl pu .none (by simp) ?_ (by rw[zv]<;>omega);rw[kj,<-hlen];refine⟨.ref s.heap.objs.size,_,I.laid (t':=s.toks) (o:=.lst (bq xs lo hi)) (fun b ob q=>zj _ q) (zd _) ?_,rfl,q _ (I.hok.fresh (zd _))⟩;exact⟨zm (md xs lo hi) hz,_,0,(r.drop (HT.sIx xs.length 0 lo)).take (HT.sIx xs.length xs.length hi-HT.sIx xs.length 0 lo),zI _ rfl⟩
def dY:V->Bool
 |.non=>true
 |.bl _=>true
 |.int _=>true
 |.str _=>true
 |_=>false
def eqV:V->V->Bool
 |.non,.non=>true
 |.bl a,.bl b=>a==b
 |.bl a,.int b=>(if a then 1 else 0)==b
 |.int a,.bl b=>a==(if b then 1 else 0)
 |.int a,.int b=>a==b
 |.str a,.str b=>a==b
 |_,_=>false
theorem uG{A:Around}{s:Shared}{y x:V}{u v:Value}(ry:RelV y u)(rx:RelV x v)(fy:dY y=true)(fx:dY x=true):SeqAt.EqAt A s u v (eqV y x):=by
 cases y with
 |non =>
  cases ry;cases x with
  |non=>cases rx;exact SeqAt.EqAt.same _
  |bl b=>cases rx;exact SeqAt.EqAt.none_bool b
  |int b=>obtain⟨t,rfl⟩:=rx;exact SeqAt.EqAt.none_int b t
  |str b=>obtain⟨t,rfl⟩:=rx;exact SeqAt.EqAt.none_str b t
  |_=>exact absurd (show false=true from fx) zn
 |bl a =>
  cases ry;cases x with
  |non=>cases rx;exact SeqAt.EqAt.bool_none a
  |bl b=>cases rx;exact SeqAt.EqAt.bool_bool a b
  |int b=>obtain⟨t,rfl⟩:=rx;exact SeqAt.EqAt.bool_int a b t
  |str b=>obtain⟨t,rfl⟩:=rx;exact SeqAt.EqAt.bool_str a b t
  |_=>exact absurd (show false=true from fx) zn
 |int a =>
  obtain⟨t',rfl⟩:=ry;cases x with
  |non=>cases rx;exact SeqAt.EqAt.int_none a t'
  |bl b=>cases rx;exact SeqAt.EqAt.int_bool a t' b
  |int b=>obtain⟨t,rfl⟩:=rx;exact SeqAt.EqAt.int_int a t' b t
  |str b=>obtain⟨t,rfl⟩:=rx;exact SeqAt.EqAt.int_str a t' b t
  |_=>exact absurd (show false=true from fx) zn
 |str a =>
  obtain⟨t',rfl⟩:=ry;cases x with
  |non=>cases rx;exact SeqAt.EqAt.str_none a t'
  |bl b=>cases rx;exact SeqAt.EqAt.str_bool a t' b
  |int b=>obtain⟨t,rfl⟩:=rx;exact SeqAt.EqAt.str_int a t' b t
  |str b=>obtain⟨t,rfl⟩:=rx;exact SeqAt.EqAt.str_str a t' b t
  |_=>exact absurd (show false=true from fx) zn
 |_=>exact absurd (show false=true from fy) zn
def eqU(x:V)(u:Value):Bool:=match u with
 |.none=>eqV .non x
 |.bool b=>eqV (.bl b) x
 |.int i _=>eqV (.int i) x
 |.str z _=>eqV (.str z) x
 |_=>false
theorem oM{x y:V}{u:Value}(r:RelV y u)(f:dY y=true):eqU x u=eqV y x:=by
 cases y with
 |non=>cases r;rfl
 |bl b=>cases r;rfl
 |int i=>obtain⟨t,rfl⟩:=r;rfl
 |str z=>obtain⟨t,rfl⟩:=r;rfl
 |_=>exact absurd (show false=true from f) zn
theorem jg{x:V}:∀{xs:List V} {us:List Value},Vals xs us->xs.all dY=true->us.any (eqU x)=xs.any fun y=>eqV y x
 |_,_,.nil,_=>rfl
 |y::xs,u::us,.cons r t,f=>by rw[Zb,zw]at f;rw[List.any_cons,List.any_cons,oM r f.1,jg t f.2]
theorem ik{A:Around}{s:Shared}{x:V}{v:Value}(rx:RelV x v)(fx:dY x=true):∀{xs:List V} {us:List Value},Vals xs us->xs.all dY=true->∀u∈us,SeqAt.EqAt A s u v (eqU x u)
 |_,_,.nil,_=>fun u hu=>by cases hu
 |y::xs,u::us,.cons r t,f=>fun u' hu=>by
  rw[Zb,zw]at f;rcases zl.mp hu with rfl|hu
  ·rw[oM r f.1];exact uG r rx f.1 fx
  ·exact ik rx fx t f.2 u' hu
def inV(x:V)(xs:List V):Bool:=xs.any fun y=>eqV y x
def rIn(K:PySem.W.Frag)(neg:Bool):R2:=fun x y H Q=>∃p xs,y=.ref p/\(SqL K H p xs\/SqT K H p xs)/\dY x=true/\xs.all dY=true/\Q (.bl (if neg then !inV x xs else inV x xs)) H
theorem pF:OpR X (compareOp .In) (rIn X.K false):=by
 intro pins s σ H x y v u Q I rx ry h;obtain⟨p,xs,rfl,hq,fx,fs,q⟩:=h;cases ry;rcases hq with hq|hq
 ·obtain⟨its,r,pl,hz⟩:=I.list hq;refine SeqAt.in_listAt (eqU x) pl.isList (fun w hw=>ik rx fx r fs w (by simpa using hw)) ⟨.bl _,H,I,rfl,?_⟩;rw[show its.toArray.any (eqU x)=its.any (eqU x) by simp,jg r fs];exact q
 ·obtain⟨its,r,pl,hz⟩:=I.tuple hq;refine SeqAt.in_tupleAt (eqU x) pl (fun w hw=>ik rx fx r fs w (by simpa using hw)) ⟨.bl _,H,I,rfl,?_⟩;rw[show its.toArray.any (eqU x)=its.any (eqU x) by simp,jg r fs];exact q
theorem kM:dk X (.builtin "len") (fun xs H Q=>∃p ys,xs=[.ref p]/\(SqL X.K H p ys\/SqT X.K H p ys)/\Q (.int ys.length) H):=by
 intro pins s σ H xs us Q I r h;obtain⟨p,ys,rfl,hq,q⟩:=h;obtain⟨u,rfl,rx⟩:=bT r;cases rx;have hn:=lu;rcases hq with hq|hq
 ·obtain⟨its,r',pl,hz⟩:=I.list hq;have hlen:=r'.length;exact Calls.call_len_list pl.isList (by simp only[zv]<;>omega) ⟨.int ys.length,H,I.tok _,⟨s.toks+1,by rw[zv,hlen]⟩,q⟩
 ·obtain⟨its,r',pl,hz⟩:=I.tuple hq;have hlen:=r'.length;exact len_tuple pl (by simp only[zv]<;>omega) ⟨.int ys.length,H,I.tok _,⟨s.toks+1,by rw[zv,hlen]⟩,q⟩
theorem ka:dk X (.type "tuple") (fun xs H Q=>∃p ys,xs=[.ref p]/\((SqL X.K H p ys/\∀l,H l=none->Q (.ref l) (upd H l (.tup ys)))\/(SqT X.K H p ys/\Q (.ref p) H))):=by
 intro pins s σ H xs us Q I r h;obtain⟨p,ys,rfl,h⟩:=h;obtain⟨u,rfl,rx⟩:=bT r;cases rx;rcases h with⟨hq,q⟩|⟨hq,q⟩
 ·obtain⟨its,r',pl,hz⟩:=I.list hq;have hlen:=r'.length;refine call_tuple_list pl.isList (fun h' kp=>?_) (by simp only[zv]<;>omega);have I1:Inv X pins σ H { s with heap:=h' }:=I.kept (t':=s.toks) kp;have I2:Inv X pins σ (upd H h'.objs.size (.tup ys)) { s with heap:=h'.push { cls:=.type "tuple",data:=.seq its.toArray } } :=
   I1.laid (t':=s.toks) (fun b o e=>zj _ e) (zd _) (show ObjOk X.prog X.w _ _ _ (.tup ys)from⟨hz,its,r',IsTup.new _ _⟩)
  exact⟨.ref h'.objs.size,_,I2,rfl,q _ (I1.hok.fresh (zd _))⟩
 ·obtain⟨its,r',pl,hz⟩:=I.tuple hq;exact call_tuple_same pl ⟨.ref p,H,I,rfl,q⟩
def tyV(K:PySem.W.Frag)(T:String)(x:V)(H:Hp):Prop:=match x with
 |.str _=>T="str"
 |.int _=>T="int"
 |.ref p=>(T="list"/\∃xs,SqL K H p xs)\/(T="tuple"/\∃o,K.lookup p=some o/\o.cls=.type "tuple"/\o.dict=none) \/
   (T="dict"/\((∃kvs,H p=some (.dK kvs))\/∃kvs,H p=some (.dT kvs)))\/(T="set"/\∃S n,H p=some (.set S n))
 |_=>False
theorem wq{pins:List (Addr×Obj)}{σ:St}{H:Hp}{s:Shared}{T:String}{x:V}{v:Value}(I:Inv X pins σ H s)(r:RelV x v)(ty:tyV X.K T x H) :
  s.TypeIs v T/\∀a,v=.ref a->∃ob,s.heap.get? a=some ob/\ob.dict=none:=by
 cases x with
 |str z =>obtain⟨t,rfl⟩:=r;cases(show T="str" from ty);exact⟨typeIs_str s z t,fun _ e=>nomatch e⟩
 |int i =>obtain⟨t,rfl⟩:=r;cases(show T="int" from ty);exact⟨typeIs_int s i t,fun _ e=>nomatch e⟩
 |ref p =>
  cases r;rcases ty with⟨rfl,xs,hq⟩|⟨rfl,o,hk,hc,hd⟩|⟨rfl,hk⟩|⟨rfl,S,n,hk⟩
  ·obtain⟨its,_,pl,_⟩:=I.list hq;refine⟨pl.isList.typeIs,fun a e=>?_⟩;cases e;obtain⟨o,n,e,c,hd,_⟩:=pl;exact⟨o,e,hd⟩
  ·refine⟨⟨o,I.kIn p o hk,hc⟩,fun a e=>?_⟩;cases e;exact⟨o,I.kIn _ o hk,hd⟩
  ·have z:∃o,s.heap.get? p=some o/\o.ExactDict:=by
    rcases hk with⟨kvs,hk⟩|⟨kvs,hk⟩
    ·obtain⟨_,_,_,_,o,_,_,e,ex,_⟩:=I.hok p _ hk;exact⟨o,e,ex⟩
    ·obtain⟨_,_,_,_,o,_,_,e,ex,_⟩:=I.hok p _ hk;exact⟨o,e,ex⟩
   obtain⟨o,e,ex⟩:=z;refine⟨⟨o,e,ex.1⟩,fun a e2=>?_⟩;cases e2;exact⟨o,e,ex.2.1⟩
  ·obtain⟨o,_,_,_,e,ex,_⟩:=I.hok p _ hk;refine⟨⟨o,e,ex.1⟩,fun a e2=>?_⟩;cases e2;exact⟨o,e,ex.2.1⟩
 |_=>exact False.elim ty
def tBM(K:PySem.W.Frag)(T:String)(r:V->List V->Hp->VK->Prop)(to:TE)(t:TA):TE:=fun σ H Q=>to σ H fun x H1=>tyV K T x H1/\t σ H1 fun xs H2=>r x xs H2 Q
variable{o e:Expr}{es:List Expr}{to:TE}{t:TA}{name:Str}{apos cpos:Pos}{T id:String}{r:V->List V->Hp->VK->Prop}
theorem kz(pa:PlainAttrs T)(slot:Slot T name id)(hty:typeOf (.builtin id)=pure (.type "method_descriptor"))(hm:MtR X id r)(ho:PE X o to)(ha:PA X (e::es) t)(hbase:attributeBase o name X.env (eval o X.env)=eval o X.env:=by rfl)(hfew:((backTo cpos (starEach (e::es) X.env)).all (fun x=>!x.1)&&(backToKw cpos (keywordEach [] X.env)).all (fun x=>x.1.isSome)
  &&decide ((e::es).length+([]:List Keyword).length+(if ([]:List Keyword).isEmpty then 0 else 1)<30))=true:=by rfl)(hline:(apos.endLine == cpos.line)=true:=by rfl)(hs:starEach (e::es) X.env=(false,eval e X.env)::starEach es X.env:=by rfl)(hplain:(backTo cpos (starEach es X.env)).any (·.1)=false:=by rfl) :
  PE X (.Call (.Attribute o name apos) (e::es) [] cpos) (tBM X.K T r to t):=by
 intro pins s σ H Q I h;refine wpAny_Call_method_late hbase hfew hline rfl (thn (ho pins s σ H _ I h) fun v s1 hz9=>?_);obtain⟨x,H1,I1,r1,ty,q1⟩:=hz9;obtain⟨h1,h2⟩:=wq I1 r1 ty;refine⟨T,id,pa,slot,hty,h1,h2,?_⟩;have hA:=ha cpos pins s1 σ H1 _ I1 q1;rw[hs]at hA ⊢;refine Calls.callWith_builtin (by show(false ||(backTo cpos (starEach es X.env)).any (·.1))=false;rw[hplain]<;>rfl) (Calls.evalArgs_plain ?_);exact thn hA fun us s2 ⟨vs,H2,I2,r2,q2⟩=>hm pins s2 σ H2 x vs v us Q I2 r1 r2 q2
end
open PySem PySem.Spec PyProof.Rows
def MtM(X:Cx)(id:String)(r:V->List V->Hp->VK->Prop):Prop :=
 ∀(pins:List (Addr×Obj)) (s:Shared) (σ:St) (H:Hp) (x:V) (xs:List V) (v:Value) (us:List Value) (Q:VK),Inv X pins σ H s->RelV x v->Vals xs us->r x xs H Q ->
  wpAny (model X.prog X.w) X.A (call (.builtin id) (v::us)) (EP X pins σ Q) X.xe s
theorem Vals.one:∀{x:V} {us:List Value},Vals [x] us->∃u,us=[u]/\RelV x u
 |_,_,.cons r .nil=>⟨_,rfl,r⟩
section
variable{X:Cx}{pins:List (Addr×Obj)}{σ:St}{H:Hp}{s:Shared}{l b:Addr}{xs ys zs:List V}
theorem Inv.lset{its its':List Value}{n:Nat}{f:Array Value->Array Value}{t':Nat}(I:Inv X pins σ H s)(hH:H l=some (.lst xs))(e:s.heap.get? l=some { cls:=.type "list",data:=.seq its.toArray n })(hf:f its.toArray=its'.toArray)(hv:Vals ys its')(hz:ys.length<=sizeLine) :
  Inv X pins σ (upd H l (.lst ys)) { s with heap:=s.heap.update l (Obj.mapSeq f),toks:=t' }:=by
 have q:=PySem.IsL.update e f;rw[hf]at q;refine I.write (x:=l) (e:=l) (by rw[hH];exact trivial) (.inl rfl) (fun b' u hb hu=>(z7 s.heap (Obj.mapSeq f) (z5 hb)).trans hu) ⟨_,q⟩ ?_;exact⟨hz,its',_,hv,q⟩
theorem Inv.lnew{its:List Value}{t':Nat}(I:Inv X pins σ H s)(hv:Vals ys its)(hz:ys.length<=sizeLine) :
  Inv X pins σ (upd H s.heap.objs.size (.lst ys)) { s with heap:=s.heap.push { cls:=.type "list",data:=.seq its.toArray },toks:=t' } :=
 I.laid (fun _ _ q=>zj _ q) (zd _) ⟨hz,its,0,hv,zI _ rfl⟩
theorem Inv.fresh(I:Inv X pins σ H s):H s.heap.objs.size=none:=I.hok.fresh (zd _)
theorem Inv.lstM(I:Inv X pins σ H s)(hH:H l=some (.lst xs)):xs.length<=sizeLine/\∃(its:List Value) (n:Nat),Vals xs its/\xs.length=its.length/\s.heap.get? l=some { cls:=.type "list",data:=.seq its.toArray n }:=by obtain⟨z,its,n,r,e⟩:=I.hok l _ hH;exact⟨z,its,n,r,r.length,e⟩
end
section
variable{X:Cx}
inductive rAppend  (x:V)(vs:List V)(H:Hp)(Q:VK):Prop
 |mk (l xs y:_) (h0:x=.ref l) (h1:vs=[y]) (h2:H l=some (.lst xs)) (h3:xs.length<sizeLine) (h4:Q .non (upd H l (.lst (xs++[y])))):rAppend  x vs H Q
theorem pj:MtM X "list.append" rAppend:=by intro pins s σ H x vs v us Q I rx rv h;obtain⟨l,xs,y,rfl,rfl,hH,hz,q⟩:=h;cases rx;obtain⟨u,rfl,ru⟩:=rv.one;obtain⟨z,its,n,r,hl,e⟩:=I.lstM hH;refine call_meets F.slot_list_append ⟨_,e,rfl⟩ F.entry_list_append (F.args_list_append_2 _ _) (PySem.list_append l its.toArray n u (by rw[zv];omega)) ⟨e,?_⟩;refine⟨.non,_,I.lset (its':=its++[u]) hH e (by simp) (r.append (.cons ru .nil)) ?_,rfl,q⟩;rw[zb,List.length_singleton];omega
inductive rCat  (x:V)(y:V)(H:Hp)(Q:VK):Prop
 |mk (l b xs zs:_) (h0:x=.ref l) (h1:y=.ref b) (h2:H l=some (.lst xs)) (h3:H b=some (.lst zs)) (h4:xs.length+zs.length<=sizeLine) (h5:∀p,H p=none->Q (.ref p) (upd H p (.lst (xs++zs)))):rCat  x y H Q
theorem vc:OpR X (binaryOp .Add) rCat:=by
 intro pins s σ H x y v u Q I rx ry h;obtain⟨l,b,xs,zs,rfl,rfl,hH,hB,hz,q⟩:=h;cases rx;cases ry;obtain⟨z,its,n,r,hl,e⟩:=I.lstM hH;obtain⟨z2,its2,n2,r2,hl2,e2⟩:=I.lstM hB;refine PySem.P.add_list e e2 ?_ (by rw[zv,zv];omega);have ea:its.toArray++its2.toArray=(its++its2).toArray:=by simp
 rw[ea];exact⟨.ref _,_,I.lnew (t':=s.toks) (r.append r2) (by rw[zb];omega),rfl,q _ I.fresh⟩
end
open PySem PySem.Spec PyProof.Rows
section
variable{κ:Type}[DecidableEq κ]
def vO(kvs:List (κ×V))(k:κ)(v:V):List (κ×V) :=
 if(kvs.any fun kv=>decide (kv.1=k))=true then kvs.map (fun kv=>if kv.1=k then(kv.1,v)else kv)else kvs++[(k,v)]
end
def xG(H:Hp)(a:Addr)(y v:V)(H':Hp):Prop :=
 (∃kvs k,H a=some (.dK kvs)/\y=kV k/\kvs.length<sizeLine/\H'=upd H a (.dK (vO kvs k v))) \/
 ∃kvs k b,H a=some (.dT kvs)/\y=.ref b/\H b=some (.tup (k.map kV))/\kvs.length<sizeLine/\H'=upd H a (.dT (vO kvs k v))
inductive IsP(x y v:V)(H:Hp)(R:Hp->Prop):Prop
 |mk (a:Addr) (H':Hp) (h0:x=.ref a) (h1:xG H a y v H') (q:R H'):IsP x y v H R
def pZ:List (TE×TE)->St->Hp->(List (V×V)->Hp->Prop)->Prop
 | [],_,H,Q=>Q [] H
 |(tk,tv)::r,σ,H,Q=>tk σ H fun x H1=>tv σ H1 fun y H2=>pZ r σ H2 fun ps H3=>Q ((x,y)::ps) H3
abbrev VV:List (V×V)->List (Value×Value)->Prop:=Paired fun p q=>RelV p.1 q.1/\RelV p.2 q.2
def PPs(X:Cx)(pos:Pos)(keys:List (Option Expr))(values:List Expr)(trs:List (TE×TE)):Prop :=
 ∀(pins:List (Addr×Obj)) (s:Shared) (σ:St) (H:Hp) (Q:List (V×V)->Hp->Prop),Inv X pins σ H s->pZ trs σ H Q ->
  wpAny (model X.prog X.w) X.A (evalPairs (pairTrees keys values X.env pos)) (fun vs s'=>∃ps H',Inv X pins σ H' s'/\VV ps vs/\Q ps H') X.xe s
structure M1(X:Cx)(o:Expr)(m:Str)(apos:Pos)(e:Expr)(cpos:Pos):Prop where
 base:attributeBase o m X.env (eval o X.env)=eval o X.env
 few:((backTo cpos (starEach [e] X.env)).all (fun x=>!x.1)&&(backToKw cpos (keywordEach [] X.env)).all (fun x=>x.1.isSome)
 &&decide (([e]:List Expr).length+([]:List Keyword).length+(if ([]:List Keyword).isEmpty then 0 else 1)<30))=true
 line:(apos.endLine==cpos.line)=true
 trees:backTo cpos (starEach [e] X.env)=[(false,eval e X.env)]
structure M2(X:Cx)(o:Expr)(m:Str)(apos:Pos)(e f:Expr)(cpos:Pos):Prop where
 base:attributeBase o m X.env (eval o X.env)=eval o X.env
 few:((backTo cpos (starEach [e,f] X.env)).all (fun x=>!x.1)&&(backToKw cpos (keywordEach [] X.env)).all (fun x=>x.1.isSome)
 &&decide (([e,f]:List Expr).length+([]:List Keyword).length+(if ([]:List Keyword).isEmpty then 0 else 1)<30))=true
 line:(apos.endLine==cpos.line)=true
 trees:backTo cpos (starEach [e,f] X.env)=[(false,eval e X.env),(false,eval f X.env)]
end L2
namespace Att
open PySem PySem.W PySem.Calls PyProof.Rows
theorem iK{P:Params}{h:Heap}:∀(ns:List Int) (vs:List Value),WellAll P h vs (ns.map WData.int)->IntsAre vs ns:=by
 intro ns;induction ns with
 |nil =>intro vs w;rw[List.map_nil]at w;cases w;exact .nil
 |cons n ns ih =>
  intro vs w;rw[zA]at w;cases w with
  |cons a b =>cases a;exact .cons _ _ (ih _ b)
theorem pU{l:OpenLaw}{n:Nat}(hn:l.most=some n){P:Params}{h:Heap}{args:List WData}{vals:List Value}(hpre:l.row.toRowW.claim.pre args=true)(hwl:WellAll P h vals args) :
  ∃a vs ns,vals=[Value.ref a]/\args=[WData.list (ns.map WData.int)]/\h.get? a=some { cls:=.type "list",data:=.seq vs.toArray }/\IntsAre vs ns/\ns.length<=n:=by
 have hsh:WShape.hasAll [] args [.list .int]=true:=(pre_splitW hpre).1;have hc:l.pre.holds [] { args:=args }=true:=(pre_splitW hpre).2;obtain⟨d,r,rfl,h1,h2⟩:=hasAllW_cons hsh;obtain rfl:=hasAllW_nil h2;obtain⟨xs,rfl,h3⟩:=hasW_list h1;obtain⟨ns,rfl⟩:=items_int h3;have hlen:ns.length<=n:=by
  unfold OpenLaw.pre at hc;have h4:(WTm.not (.lt (.lit (.int (n:Int))) (.len (.arg 0)))).holds [] { args:=[.list (ns.map .int)] }=true:=by have h4:=(holds_andW hc).1;rw[hn]at h4;exact h4
  have h5:=condW_of h4 (w_not (w_lt w_lit (w_len_list (w_arg rfl))));rw[za]at h5;refine Nat.le_of_not_lt fun q=>?_;have q':(n:Int)<((ns.length:Nat):Int):=by omega
  first
   |(rw[decide_eq_true q']at h5;exact absurd h5 (by decide))
   |(simp at h5;omega)
 cases hwl with
 |cons w1 w2 =>
  cases w2;cases w1 with
  |list ho hall=>exact⟨_,_,ns,rfl,rfl,ho,iK ns _ hall,hlen⟩
theorem pJ(l:OpenLaw)(args:List WData):l.row.toRowW.claim.post args (.bool true) args=true :=
 postW_of (r:=l.row.toRowW) (X:=(true==true))
  (show WShape.has [] (.bool true) .bool=true by first|rfl|decide|simp[WShape.has,WShape.arms,WShape.armsAll])
  (show(WTm.eq .res (.lit (.bool true))).value [] { args:=args,res:=some (.bool true),after:=args }=some (.bool (true==true))from w_eq_bool (w_res rfl) w_lit) rfl
theorem attach_call{l:OpenLaw}{n:Nat}{q:Program}{loose:List Str}{XP:(Str->Option Value)->Heap->Prop}{YP:World->Heap->Prop}{d:DefRec}(hn:l.most=some n)(hdf:d.params.defaults=[])(call:∀ (w:World) (s₀ s₁:Shared) (mg mb:Str->Option Value) (fa:Addr) (o:Obj) (pm cd doc:Value) (a:Addr) (vs:List Value) (ns:List Int),
   Ground q loose [] XP w s₀ mg mb s₁.heap->YP w s₁.heap ->
   s₁.heap.get? fa=some o->o.data=.func (docDef d.name d.params d.body d.scope pm cd doc)->s₁.heap.CodeRec cd d.name->mg d.name=some (.ref fa) ->
   s₁.heap.get? a=some { cls:=.type "list",data:=.seq vs.toArray }->IntsAre vs ns->ns.length<=n->s₁.gens=#[] ->
   codeAny (model l.prog w) callerA (.call (.ref fa) ⟨[.ref a],[]⟩) (fun r s'=>r=.ok (.ret (.bool true))/\OldK s₁.heap s'.heap/\s'.os=s₁.os/\AllBare s'.gens) s₁) :
  WalkO q loose XP YP l.row.toRowW d [] (fun f vs=>PySem.call f vs):=by
 intro w s₀ s₁ mg mb G Y fa o pm cd doc dV kV ho hd hcd hD hmg hg args vals as hpre hlay hrd hwl hlo;obtain rfl:dV=.none:=Dflts.none hD hdf;obtain rfl:kV=.none:=Dflts.noKw hD;obtain⟨a,vs,ns,rfl,rfl,hobj,hints,hlen⟩:=pU hn hpre hwl;refine enter_call (codeAny_mono (call w s₀ s₁ mg mb fa o pm cd doc a vs ns G Y ho (fd_plain hd) hcd hmg hobj hints hlen hg) fun r s' hq=>?_);obtain⟨rfl,h2,h3,h4⟩:=hq;exact⟨.inl ⟨.bool true,.bool true,[],rfl,fun _=>rfl,.bool true,pJ l _,fun _=>⟨List.Pairwise.nil,fun _ hm=>(nomatch hm)⟩⟩,h2,h3,h4⟩
end Att
namespace L2
open PySem PySem.Spec PyProof.Rows
theorem jV:∀{vs:List Value} {ns:List Int},IntsAre vs ns->Vals (ns.map V.int) vs
 |_,_,.nil=>.nil
 |_,_,.cons n t h=>.cons ⟨t,rfl⟩ (jV h)
def qo(H:Hp):Prop:=∀b,H b=none\/∃o xs,H b=some (.frz o (.lst xs))
theorem qM{P:Program}{w:World}{K:PySem.W.Frag}{mg mb:Str->Option Value}{CX:CXT}{k:Nat}{fa a:Addr}{fd:FuncData}{x:Str}{sp:Sp}{s₁:Shared}{vs:List Value}{ns:List Int}(KX:K.In s₁.heap)(hns:s₁.heap.Ns mainGlobals mg)(hb:s₁.heap.Ns builtinsNs mb)(hbb:∀x:Str,x≠"__name__"->mb x=bootBuiltins x)(hlim:s₁.heap.NoLimit)(hg:s₁.gens=#[])(ha:s₁.heap.get? a=some { cls:=.type "list",data:=.seq vs.toArray })(hi:IntsAre vs ns)(hl:ns.length<=sizeLine)(hr:Room k callerA)(F:∀base:Heap,K.In base->base.Ns mainGlobals mg->FnOk P w K mg base CX k fa fd [x] sp)(hbind:∀(s:Shared) (u:Value),BindsTo s fd ⟨[u],[]⟩ [(x,u)])(hsp:∀H:Hp,qo H->SqL K H a (ns.map V.int)->sp [.ref a] H (fun v _=>v=.bl true) fun _ _ _=>False)(hCX:∀H e s',CX [] H s₁ (fun _ _ _=>False) e s'->False) :
  codeAny (model P w) callerA (.call (.ref fa) ⟨[.ref a],[]⟩) (fun r s'=>r=.ok (.ret (.bool true))/\OldK s₁.heap s'.heap/\s'.os=s₁.os/\AllBare s'.gens) s₁:=by
 have rv:=jV hi;have lenV:=hi.length;have core:∀H:Hp,qo H->SqL K H a (ns.map V.int)->HOk P w H s₁.heap->(∀b,H b≠none->b=a)->(H a≠none->K.lookup a=none) ->
   codeAny (model P w) callerA (.call (.ref fa) ⟨[.ref a],[]⟩) (fun r s'=>r=.ok (.ret (.bool true))/\OldK s₁.heap s'.heap/\s'.os=s₁.os/\AllBare s'.gens) s₁:=by
  intro H hO hS hok hA hK;have base_of:∀{b:Addr} {o:Obj},s₁.heap.get? b=some o->H b=none->(fh s₁.heap H).get? b=some o:=fun e n=>qH e n;have noA:∀{b:Addr} {o:Obj} {es:Array DictEntry} {ep:Nat},s₁.heap.get? b=some o->o.data=.dict es ep->H b=none:=fun{b o es ep} e d=>by
   cases q:H b with
   |none=>rfl
   |some u =>have e':b=a:=hA b (by rw[q];simp);subst e';rw[ha]at e;cases e;have d':Data.seq vs.toArray _=Data.dict es ep:=d;cases d'
  have nsK:∀{b:Addr} {m:Str->Option Value},s₁.heap.Ns b m->(fh s₁.heap H).Ns b m:=fun{b m} ⟨o,es,ep,e,d,r⟩=>⟨o,es,ep,base_of e (noA e d),d,r⟩
  have hKb:K.In (fh s₁.heap H):=fun b o e=>base_of (KX b o e) (by
   cases q:H b with
   |none=>rfl
   |some u =>
    have e':b=a:=hA b (by rw[q];simp);subst e';rw[hK (by rw[q];simp)]at e;cases e)
  have hM:Mod K mg (fh s₁.heap H):=⟨hKb,nsK hns,⟨mb,nsK hb,hbb⟩,let⟨mc,h1,h2⟩:=hlim;⟨mc,nsK h1,h2⟩⟩
  have e0:Env0 P w K mg (fh s₁.heap H) callerA [] s₁ H:=⟨rfl,hM,fun b o e=>sT e,Nat.le_of_eq (oX _ _),trivial,fun b hb=>absurd (show b∈([]:List Addr)from hb) (by simp),hok,.of_eq hg⟩
  refine codeAny_mono ((F _ hKb (nsK hns)).run callerA [] s₁ H ⟨[.ref a],[]⟩ [.ref a] [.ref a] _ _ hr e0 (hbind s₁ (.ref a)) (.cons rfl .nil) (hsp H hO hS)) fun r s' h=>?_;cases r with
  |error e=>exact(hCX H e s' h).elim
  |ok fl =>
   cases fl with
   |next=>exact False.elim h
   |brk=>exact False.elim h
   |cont=>exact False.elim h
   |ret u =>
    obtain⟨v,H',os,bare,un,hok',r',q⟩:=h;have q':v=.bl true:=q;subst q';obtain rfl:u=Value.bool true:=r';refine⟨rfl,OldK.of_keep fun b o e=>?_,os,bare⟩;cases q:H b with
    |none=>exact un.keep b o e q (by intro z;exact absurd (show b∈([]:List Addr)from z) (by simp)) (by simp)
    |some u =>
     rcases hO b with z|⟨ob,xs,z⟩
     ·rw[q]at z;cases z
     ·have z2:=un.frzs b ob _ z;obtain⟨e1,_⟩:=hok b _ z;obtain⟨e2,_⟩:=hok' b _ z2;rw[e]at e1;cases e1;exact e2
 cases hk:K.lookup a with
 |some o =>have e:=KX a o hk;rw[ha]at e;cases e;refine core (fun _=>none) (fun _=>.inl rfl) (.inr ⟨_,vs.toArray,_,hk,rfl,rfl,rfl,by rw[zv,lenV];exact hl,by simpa using rv⟩) (fun b u z=>by have z':(none:Option HO)=some u:=z;cases z') (fun b z=>absurd rfl z) fun z=>absurd rfl z
 |none =>
  refine core (fun b=>if b=a then some (.frz { cls:=.type "list",data:=.seq vs.toArray } (.lst (ns.map V.int)))else none) (fun b=>?_) (.inl (.inr ⟨{ cls:=.type "list",data:=.seq vs.toArray },yn rfl⟩)) (fun b u z=>?_) (fun b z=>?_) fun _=>hk
  ·by_cases hb:b=a
   ·exact .inr ⟨_,_,yn hb⟩
   ·exact .inl (ym hb)
  ·by_cases hb:b=a
   ·have z':=(yn hb).symm.trans z;cases z';subst hb;exact⟨ha,by rw[za];exact hl,vs,_,rv,ha⟩
   ·have z':=(ym hb).symm.trans z;cases z'
  ·by_cases hb:b=a
   ·exact hb
   ·exact absurd (ym hb) z
open PySem PySem.Spec PyProof.Rows
theorem uk{l:PySem.W.OpenLaw}{n k:Nat}{q:Program}{loose:List Str}{XP:(Str->Option Value)->Heap->Prop}{YP:World->Heap->Prop}{d:DefRec}{K:Params->PySem.W.Frag}{CX:World->CXT}{sp:World->Sp}{x:Str}(hn:l.most=some n)(hn2:n<=sizeLine)(hdf:d.params.defaults=[])(hr:Room k callerA)(hY:∀ (w:World) (h:Heap),YP w h->(K w.params).In h)(F:∀ (w:World) (mg:Str->Option Value) (fa:Addr) (h:Heap),(K w.params).In h->h.Ns mainGlobals mg->mg d.name=some (.ref fa) ->
   ∃fd:FuncData,(∀(s:Shared) (u:Value),BindsTo s fd ⟨[u],[]⟩ [(x,u)]) /\
    ∀ base:Heap,(K w.params).In base->base.Ns mainGlobals mg->FnOk l.prog w (K w.params) mg base (CX w) k fa fd [x] (sp w))(hsp:∀ (w:World) (H:Hp) (a:Addr) (ns:List Int),ns.length<=n->qo H->SqL (K w.params) H a (ns.map V.int)->sp w [.ref a] H (fun v _=>v=.bl true) fun _ _ _=>False)(hCX:∀ (w:World) (H:Hp) (s:Shared) (e:Value) (s':Shared),CX w [] H s (fun _ _ _=>False) e s'->False) :
  PySem.W.WalkO q loose XP YP l.row.toRowW d [] (fun f vs=>PySem.call f vs):=by
 refine Att.attach_call hn hdf fun w s₀ s₁ mg mb fa o pm cd doc a vs ns G Y ho hd hcd hmg hobj hints hlen hg=>?_;have KX:=hY w _ Y;obtain⟨fd,hb,hF⟩:=F w mg fa _ KX G.T.g hmg;exact qM KX G.T.g G.T.b G.T.builtins G.T.nolimit hg hobj hints (zm hlen hn2) hr hF hb (fun H hO hS=>hsp w H a ns hlen hO hS) fun H e s'=>hCX w H s₁ e s'
open PySem PySem.Spec PyProof.Rows
def dE(s:Stmt)(j:Nat):Stmt:=match s with
 |.ClassDef _ _ _ body _ _ _ _ _ _ _=>body.getD j (.Pass ⟨0,0,0,0⟩)
 |_=>.Pass ⟨0,0,0,0⟩
def bp(s:Stmt):Arguments:=match s with
 |.FunctionDef _ a _ _ _ _ _ _ _ _=>a
 |_=>{ posonlyargs:=[],args:=[],vararg:=none,kwonlyargs:=[],kw_defaults:=[],kwarg:=none,defaults:=[] }
def aY(s:Stmt):List Stmt:=match s with
 |.FunctionDef _ _ b _ _ _ _ _ _ _=>b
 |_=>[]
def ah(s:Stmt):Scope:=match s with
 |.FunctionDef _ _ _ _ _ _ sc _ _ _=>sc
 |_=>{ kind:=.function,names:=[],isGenerator:=false,isCoroutine:=false }
abbrev CX0:CXT:=fun _ _ _ _ _ _=>False
abbrev E0:XK:=fun _ _ _=>False
theorem ky{X:Cx}:bW CX0 X E0:=fun _ _ _ _ _ _ _ h=>h.elim
structure Fun(K:PySem.W.Frag)(x qual:Str)(st:Stmt)(f:Addr)(fd:FuncData):Prop where
 ex:∃(oc:Value) (od:Option Addr) (kV doc pm:Value) (an:Option Addr) (cdv ct:Value) (osl:Array (Option Value)),
  fd=PySem.W.fnOf x qual (bp st) (aY st) (ah st) .none kV doc pm an cdv ct/\K.lookup f=some ⟨oc,od,.func fd,osl⟩/\PySem.W.codeIn K cdv qual=true
 kp:PySem.W.keepIn K (.ref f)=true
section
variable{P:Program}{w:World}{K:PySem.W.Frag}{mg:Str->Option Value}{base:Heap}
theorem Fun.ok{x qual:Str}{st:Stmt}{f:Addr}{fd:FuncData}{N ps:List Str}{k:Nat}{sp:Sp}(F:Fun K x qual st f fd)(S:FnScope N ps (ah st))(len:∀ vs H Q E,sp vs H Q E->vs.length=ps.length)(hbody:∀ (cdv:Value) (A:Around) (outer:List Env) (s:Shared) (H:Hp) (vs:List V) (Q:VK) (E:XK),Room k (A.deeper (envOfC qual (ah st) s.heap.objs.size f cdv))->sp vs H Q E ->
   ∃ t,PSs (cX CX0 P w K mg base N qual (ah st) f cdv A outer s H E).nox (aY st) t/\t { nx:=fun _ H'=>Q .non H',rt:=Q } (cb N vs) H):FnOk P w K mg base CX0 (k+1) f fd ps sp:=by
 obtain⟨oc,od,kV,doc,pm,an,cdv,ct,osl,rfl,lk,hcd⟩:=F.ex;refine rM lk hcd S len fun A outer s H vs Q E hr hsp=>?_;obtain⟨t,h,q⟩:=hbody cdv A outer s H vs Q E hr hsp;exact⟨t,h.nox,q⟩
theorem Fun.binds{x qual:Str}{st:Stmt}{f:Addr}{fd:FuncData}{ps:List Str}(F:Fun K x qual st f fd)(h:∀(kV doc pm:Value) (an:Option Addr) (cdv ct:Value) (us:List Value),us.length=ps.length->bindArgs (PySem.W.fnOf x qual (bp st) (aY st) (ah st) .none kV doc pm an cdv ct) ⟨us,[]⟩=pure (ps.zip us)):Binds K fd ps []:=by obtain⟨oc,od,kV,doc,pm,an,cdv,ct,osl,rfl,lk,hcd⟩:=F.ex;exact .all (h kV doc pm an cdv ct)
theorem oU{x qual:Str}{st:Stmt}{f:Addr}{oc:Value}{od an:Option Addr}{osl:Array (Option Value)}{kV doc pm cdv ct:Value}(l:K.lookup f=some ⟨oc,od,.func (PySem.W.fnOf x qual (bp st) (aY st) (ah st) .none kV doc pm an cdv ct),osl⟩)(c:PySem.W.codeIn K cdv qual=true)(k:PySem.W.keepIn K (.ref f)=true):Fun K x qual st f (PySem.W.fnOf x qual (bp st) (aY st) (ah st) .none kV doc pm an cdv ct):=⟨⟨oc,od,kV,doc,pm,an,cdv,ct,osl,rfl,l,c⟩,k⟩
end
theorem gi{n:Nat}(h:n<=1000):n<sizeLine:=Nat.lt_of_le_of_lt h (by decide)
theorem aq{A B:Prop}(h:B):if false=true then A else B:=by rw[ym zn];exact h
theorem aX{A B:Prop}(h:A):if true=true then A else B:=by rw[yn rfl];exact h
theorem uO{c A B:Prop}[Decidable c](h1:c->A)(h2:¬c->B):if c then A else B:=by
 by_cases h:c
 ·rw[yn h];exact h1 h
 ·rw[ym h];exact h2 h
def Same(H H':Hp):Prop:=∀b o,H b=some o->H' b=some o
theorem Same.refl(H:Hp):Same H H:=fun _ _ h=>h
theorem Same.trans{H H1 H2:Hp}(a:Same H H1)(b:Same H1 H2):Same H H2:=fun c o h=>b c o (a c o h)
theorem Same.seq{K:PySem.W.Frag}{H H':Hp}{a:Addr}{xs:List V}(e:Same H H')(h:SqL K H a xs):SqL K H' a xs:=by
 rcases h with(h|⟨o,h⟩)|h
 ·exact .inl (.inl (e _ _ h))
 ·exact .inl (.inr ⟨o,e _ _ h⟩)
 ·exact .inr h
open PySem PySem.Spec PyProof.Rows
open PySem PySem.Spec PyProof.Rows
theorem eU{env:Env}:∀{names:List (Str×NameKind)} {x:Str} {k:NameKind},
  (names.map fun(n,k)=>if(k==NameKind.free&&env.scope.kind == .function&&env.kindOf n==some .cell)then(n,NameKind.cell)else(n,k)).lookup x=some k ->
  ∃k',names.lookup x=some k'/\(k=k'\/(k'=.free/\k=.cell))
 | [],_,_,h=>by simp at h
 |(n,k0)::r,x,k,h=>by
  have ih:=@eU env r x k;rw[zA]at h;by_cases hc:(k0==NameKind.free&&env.scope.kind == .function&&env.kindOf n==some .cell)=true
  ·have e:(if(k0==NameKind.free&&env.scope.kind == .function&&env.kindOf n==some .cell)=true then(n,NameKind.cell)else(n,k0))=(n,NameKind.cell):=yn hc;simp only[e]at h;cases hx:x==n with
   |true =>
    simp only[zE,hx]at h ⊢;have hf:k0=.free:=by have:=hc;simp only[zw,zH]at this;exact this.1.1
    exact⟨k0,rfl,.inr ⟨hf,(zt h).symm⟩⟩
   |false =>simp only[zE,hx]at h ⊢;exact ih h
  ·have e:(if(k0==NameKind.free&&env.scope.kind == .function&&env.kindOf n==some .cell)=true then(n,NameKind.cell)else(n,k0))=(n,k0):=ym hc;simp only[e]at h;cases hx:x==n with
   |true =>simp only[zE,hx]at h ⊢;exact⟨k0,rfl,.inl (zt h).symm⟩
   |false =>simp only[zE,hx]at h ⊢;exact ih h
theorem fW{env:Env}:∀{names:List (Str×NameKind)} {x:Str},names.lookup x=some .free ->
  (names.map fun(n,k)=>if(k==NameKind.free&&env.scope.kind == .function&&env.kindOf n==some .cell)then(n,NameKind.cell)else(n,k)).lookup x=some .cell \/
  (names.map fun(n,k)=>if(k==NameKind.free&&env.scope.kind == .function&&env.kindOf n==some .cell)then(n,NameKind.cell)else(n,k)).lookup x=some .free
 | [],_,h=>by simp at h
 |(n,k0)::r,x,h=>by
  have ih:=@fW env r x;rw[zA];by_cases hc:(k0==NameKind.free&&env.scope.kind == .function&&env.kindOf n==some .cell)=true
  ·have e:(if(k0==NameKind.free&&env.scope.kind == .function&&env.kindOf n==some .cell)=true then(n,NameKind.cell)else(n,k0))=(n,NameKind.cell):=yn hc;simp only[e];cases hx:x==n with
   |true =>
    simp only[zE,hx]at h ⊢
    first|exact .inl rfl|exact .inl trivial
   |false =>simp only[zE,hx]at h ⊢;exact ih h
  ·have e:(if(k0==NameKind.free&&env.scope.kind == .function&&env.kindOf n==some .cell)=true then(n,NameKind.cell)else(n,k0))=(n,k0):=ym hc;simp only[e];cases hx:x==n with
   |true =>simp only[zE,hx]at h ⊢;exact .inr h
   |false =>simp only[zE,hx]at h ⊢;exact ih h
def bb(env:Env):List (Str×NameKind)->List (Str×Addr)->List (Str×Addr)
 | [],acc=>acc
 |y::r,acc=>if(y.2==NameKind.free)=true then bb env r ((y.1,(env.cells.lookup y.1).getD 0)::acc)else bb env r acc
theorem jj{env:Env}:∀{names:List (Str×NameKind)} {acc:List (Str×Addr)},(∀y∈names,y.2=.free->∃c,env.cells.lookup y.1=some c) ->
  (forIn names acc fun(x:Str×NameKind) (cs:List (Str×Addr))=>if(x.2==NameKind.free)=true then do let c ←cellOf env x.1;pure (ForInStep.yield ((x.1,c)::cs))else pure (ForInStep.yield cs):Sem (List (Str×Addr)))=pure (bb env names acc)
 | [],_,_=>rfl
 |y::r,acc,h=>by
  rw[List.forIn_cons];by_cases hy:(y.2==NameKind.free)=true
  ·obtain⟨c,hc⟩:=h y zi (by simpa using hy);have e:cellOf env y.1=pure c:=by unfold cellOf;rw[hc]
   rw[yn hy,e,pure_bind,pure_bind];show(forIn r ((y.1,c)::acc) _:Sem (List (Str×Addr)))=_;rw[jj fun z hz=>h z (ze _ hz)];show _=pure (if(y.2==NameKind.free)=true then bb env r ((y.1,(env.cells.lookup y.1).getD 0)::acc)else bb env r acc);rw[yn hy,hc];rfl
  ·rw[ym hy,pure_bind];show(forIn r acc _:Sem (List (Str×Addr)))=_;rw[jj fun z hz=>h z (ze _ hz)];show _=pure (if(y.2==NameKind.free)=true then bb env r ((y.1,(env.cells.lookup y.1).getD 0)::acc)else bb env r acc);rw[ym hy]
theorem sr{scope:Scope}{env:Env}(h:∀y∈scope.names,y.2=.free->∃c,env.cells.lookup y.1=some c):closureFor scope env=pure (bb env scope.names []):=by have q:=jj (env:=env) (names:=scope.names) (acc:=[]) h;unfold closureFor;exact(by first|(simp only[bind_pure];exact q)|(rw[bind_pure];exact q)|exact q)
theorem jk{env:Env}:∀{names:List (Str×NameKind)} {acc:List (Str×Addr)},(∀y∈names,y.2=.free->∃c,env.cells.lookup y.1=some c)->(∀x c,acc.lookup x=some c->env.cells.lookup x=some c) ->
  ∀x c,(bb env names acc).lookup x=some c->env.cells.lookup x=some c
 | [],_,_,ha=>ha
 |y::r,acc,h,ha=>by
  have hr:∀z∈r,z.2=.free->∃c,env.cells.lookup z.1=some c:=fun z hz=>h z (ze _ hz);intro x c e;unfold bb at e;by_cases hy:(y.2==NameKind.free)=true
  ·rw[yn hy]at e;refine jk hr (fun x' c' e'=>?_) x c e;obtain⟨d,hd⟩:=h y zi (by simpa using hy);rw[hd,Option.getD_some]at e';cases hx:x'==y.1 with
   |true =>simp only[zE,hx]at e';have e1:x'=y.1:=eq_of_beq hx;rw[e1,hd];exact e'
   |false =>simp only[zE,hx]at e';exact ha x' c' e'
  ·rw[ym hy]at e;exact jk hr ha x c e
theorem hX{env:Env}:∀{names:List (Str×NameKind)} {acc:List (Str×Addr)} {x:Str},(∃c,acc.lookup x=some c)->∃c,(bb env names acc).lookup x=some c
 | [],_,_,h=>h
 |y::r,acc,x,h=>by
  unfold bb;by_cases hy:(y.2==NameKind.free)=true
  ·rw[yn hy];refine hX ?_;cases hx:x==y.1 with
   |true=>exact⟨(env.cells.lookup y.1).getD 0,by simp only[zE,hx]⟩
   |false =>obtain⟨c,e⟩:=h;exact⟨c,by simp only[zE,hx];exact e⟩
  ·rw[ym hy];exact hX h
theorem ji{env:Env}:∀{names:List (Str×NameKind)} {acc:List (Str×Addr)} {x:Str},names.lookup x=some .free->∃c,(bb env names acc).lookup x=some c
 | [],_,_,h=>by simp at h
 |(n,k)::r,acc,x,h=>by
  unfold bb;cases hx:x==n with
  |true =>
   simp only[zE,hx]at h;have hy:(k==NameKind.free)=true:=by rw[zt h];rfl
   rw[yn hy];exact hX ⟨(env.cells.lookup n).getD 0,by simp only[zE,hx]⟩
  |false =>
   simp only[zE,hx]at h;by_cases hy:(k==NameKind.free)=true
   ·rw[yn hy];exact ji h
   ·rw[ym hy];exact ji h
abbrev aC(X:Cx)(scope:Scope)(N':List Str)(C:Addr)(s0:Shared)(H0:Hp)(ex:List Addr):Cx where
 prog:=X.prog
 w:=X.w
 K:=X.K
 mg:=X.mg
 base:=X.base
 A:=X.A
 N:=N'
 s₀:=s0
 H₀:=H0
 env:=compEnvC scope (bb X.env scope.names []) C X.env
 outer:=X.stack
 stack:=X.stack
 ex:=ex
 fn:=fun _=>false
 calm:=X.calm
 pn:=[]
 xe:=fun _ _=>False
def CapOk(X:Cx)(sc:Scope):List Nat->List Str->Prop
 | [],[]=>True
 |j::js,x::xs=>X.N[j]?=some x/\sc.names.lookup x=some .free/\CapOk X sc js xs
 |_,_=>False
theorem CapOk.get{X:Cx}{sc:Scope}:∀{js:List Nat} {xs:List Str} {i:Nat} {x:Str},CapOk X sc js xs->xs[i]?=some x ->
  ∃j,js[i]?=some j/\X.N[j]?=some x/\sc.names.lookup x=some .free
 | [],[],_,_,_,e=>by simp at e
 |j::js,y::xs,0,x,h,e=>by
  obtain⟨h1,h2,_⟩:=h;have e':y=x:=by simpa using e
  subst e';exact⟨j,rfl,h1,h2⟩
 |j::js,y::xs,i+1,x,h,e=>by obtain⟨_,_,h6⟩:=h;obtain⟨j',q⟩:=CapOk.get (i:=i) (x:=x) h6 (by simpa using e);exact⟨j',by simpa using q.1,q.2⟩
 | [],_::_,_,_,h,_=>h.elim
 |_::_,[],_,_,h,_=>h.elim
theorem CapOk.len{X:Cx}{sc:Scope}:∀{js:List Nat} {xs:List Str},CapOk X sc js xs->js.length=xs.length
 | [],[],_=>rfl
 |j::js,y::xs,h=>by obtain⟨_,_,h6⟩:=h;simp[CapOk.len h6]
 | [],_::_,h=>h.elim
 |_::_,[],h=>h.elim
structure CompOk(X:Cx)(scope:Scope)(cap:List Nat)(capN:List Str):Prop where
 kind:scope.kind=.function
 names:∀x∈scope.names,x.2=.local->scope.names.lookup x.1=some .local
 nocell:∀y∈scope.names,y.2≠.cell
 frees:(scope.names.all fun y=>!(y.2==NameKind.free) ||(X.env.kindOf y.1==some .cell ||X.env.kindOf y.1==some .free))=true
 cap:CapOk X scope cap capN
section
variable{X:Cx}{scope:Scope}{cap:List Nat}{capN:List Str}
theorem CompOk.around(O:CompOk X scope cap capN){y:Str×NameKind}(hy:y∈scope.names)(hf:y.2=.free):X.env.kindOf y.1=some .cell\/X.env.kindOf y.1=some .free:=by have q:=zR.mp O.frees y hy;rw[hf]at q;simpa using q
theorem CompOk.cells(O:CompOk X scope cap capN)(ok:X.Ok):∀y∈scope.names,y.2=.free->∃c,X.env.cells.lookup y.1=some c:=fun y hy hf=>ok.has _ (O.around hy hf)
theorem CompOk.clos(O:CompOk X scope cap capN)(ok:X.Ok):closureFor scope X.env=pure (bb X.env scope.names []):=sr (O.cells ok)
theorem CompOk.sub(O:CompOk X scope cap capN)(ok:X.Ok):∀x c,(bb X.env scope.names []).lookup x=some c->X.env.cells.lookup x=some c:=jk (O.cells ok) fun x c e=>by simp at e
theorem CompOk.has(_O:CompOk X scope cap capN){x:Str}(h:scope.names.lookup x=some .free):∃c,(bb X.env scope.names []).lookup x=some c:=ji h
end
def be(n:Nat)(cap:List Nat)(σ:St):St:=List.replicate n none++cap.map (fun j=>(σ[j]?).join)
theorem ng{n:Nat}{cap:List Nat}{σ:St}:(be n cap σ).length=n+cap.length:=by unfold be;rw[zb,Zq,za]
theorem iD{n:Nat}{cap:List Nat}{σ:St}{i:Nat}{v:V}(h:(be n cap σ)[i]?=some (some v)):n<=i/\∃j,cap[i-n]?=some j/\σ[j]?=some (some v):=by
 unfold be at h;by_cases hi:i<n
 ·rw[List.getElem?_append_left (by simpa using hi),List.getElem?_replicate]at h;rw[yn hi]at h;cases h
 ·have hi':n<=i:=Nat.le_of_not_lt hi;rw[zQ (by simpa using hi'),Zq,zL]at h;refine⟨hi',?_⟩;cases e:cap[i-n]? with
  |none=>rw[e]at h;cases h
  |some j =>
   rw[e]at h;refine⟨j,rfl,?_⟩;have h':(σ[j]?).join=some v:=by simpa using h
   cases q:σ[j]? with
   |none=>rw[q]at h';cases h'
   |some o =>rw[q]at h';have:o=some v:=h';rw[this]
section
variable{X:Cx}{pins:List (Addr×Obj)}{σ:St}{H:Hp}{s:Shared}{scope:Scope}{cap:List Nat}{capN N':List Str}{C:Addr}{ex:List Addr}
theorem oG(I:Inv X pins σ H s)(O:CompOk X scope cap capN)(hC:s.heap.objs.size<=C)(hex:∀b∈ex,bG X pins H b/\b<s.heap.objs.size):(aC X scope N' C s H ex).Ok where
 mod:=I.ok.mod
 kind:=O.kind
 glob:=I.ok.glob
 blt:=I.ok.blt
 above:=hC
 inj:=fun x y c h1 h2=>I.ok.inj x y c (O.sub I.ok x c h1) (O.sub I.ok y c h2)
 has:=fun x hx=>by
  have hx':(relabel scope X.env).names.lookup x=some .cell\/(relabel scope X.env).names.lookup x=some .free:=hx;have key:∀k,(relabel scope X.env).names.lookup x=some k->(k=.cell\/k=.free)->scope.names.lookup x=some .free:=fun k e hk=>by
   obtain⟨k',e',q⟩:=eU (env:=X.env) e;rcases q with q|⟨q,_⟩
   ·subst q;rcases hk with z|z
    ·subst z;exact absurd rfl (O.nocell _ (Za e'))
    ·subst z;exact e'
   ·subst q;exact e'
  rcases hx' with e|e
  ·exact O.has (key _ e (.inl rfl))
  ·exact O.has (key _ e (.inr rfl))
 cab:=fun x c h _=>by cases h
 hd:=I.ok.hd
 frames:=I.ok.frames
 stk:=.inl rfl
 exf:=fun b hb=>by obtain⟨⟨f0,f1,f2,f3,f4,f5⟩,lt⟩:=hex b hb;exact⟨zC (zq lt hC),fun x c e=>f4 x c (O.sub I.ok x c e)⟩
 bs:=I.bs
 bsz:=zm I.ok.bsz I.sz
 noex:=fun b o e hb=>by
  obtain⟨⟨f0,f1,f2,f3,f4,f5⟩,lt⟩:=hex b hb;rcases f3 with z|z
  ·exact I.ok.noex b o e z
  ·exact absurd (zq (zo e) (zm I.ok.bsz z)) (Zt _)
 exfs:=fun b hb z=>by
  obtain⟨⟨f0,f1,f2,f3,f4,f5⟩,lt⟩:=hex b hb;rcases zl.mp (I.stkSub b z)with e|e
  ·exact f1 e
  ·exact f2 e
 funs:=I.stack
 frf:=I.stkFree
theorem pr(I:Inv X pins σ H s){b:Addr}(hb:s.heap.objs.size<=b):b∉frs X.stack:=fun z=>by
 rcases zl.mp (I.stkSub b z)with e|e
 ·exact absurd (zq I.lt hb) (by rw[e];exact Zt _)
 ·exact I.nofs hb e
theorem qR(I:Inv X pins σ H s){b:Addr}(hb:s.heap.objs.size<=b):∀x c,X.env.cells.lookup x=some c->c≠b:=fun x c e z=>by obtain⟨v,q⟩:=I.cell x c e;exact absurd (zq q.lt (by rw[z];exact hb)) (Zt _)
theorem nj{n:Nat}{h1:Heap}{m1:Str->Option Value}{tk:Nat}(I:Inv X pins σ H s)(O:CompOk X scope cap capN)(hN:N'.length=n+capN.length)(hN2:∀i x,n<=i->N'[i]?=some x->capN[i-n]?=some x)(hC:s.heap.objs.size<=C)(hex:∀b∈ex,bG X pins H b/\b<s.heap.objs.size)(hk:∀b o,s.heap.get? b=some o->h1.get? b=some o)(hn:h1.Ns C m1):Inv (aC X scope N' C s H ex) [] (be n cap σ) H { s with heap:=h1,toks:=tk }:=by
 refine⟨oG I O hC hex,rfl,I.bare,Un.kept hk,⟨m1,hn,fun i x v e1 e2 e3=>?_⟩,fun x c e=>?_,I.hok.fresh hC,fun x c e=>I.freeC x c (O.sub I.ok x c e),fun p hp=>absurd (show p∈([]:List (Addr×Obj))from hp) (by simp),I.hok.kept hk,?_⟩
 ·obtain⟨hi,j,ej,es⟩:=iD e2;obtain⟨j',q1,q2,qf⟩:=O.cap.get (hN2 i x hi e1);have q3:=O.around (Za qf) rfl;have q4:=fW (env:=X.env) qf;obtain⟨c,q5⟩:=O.has qf;have q6:=O.sub I.ok x c q5;rw[q1]at ej;cases ej;obtain⟨m0,hn0,hl0⟩:=I.loc;obtain⟨u,r,l⟩:=hl0 _ x v q2 es (by
   rcases q3 with z|z
   ·exact .inr (.inl z)
   ·exact .inr (.inr z))
  refine⟨u,r,.inr ⟨q4,c,q5,?_⟩⟩;rcases l with⟨k,_⟩|⟨_,c',e',z⟩
  ·rcases q3 with z|z
   ·have z':X.env.kindOf x=some .cell:=z;rw[z']at k;cases k
   ·have z':X.env.kindOf x=some .free:=z;rw[z']at k;cases k
  ·rw[q6]at e';cases e';obtain⟨o,ho,hd⟩:=z;exact⟨o,hk _ _ ho,hd⟩
 ·obtain⟨v,o,ho,hd⟩:=I.cell x c (O.sub I.ok x c e);exact⟨v,o,hk _ _ ho,hd⟩
 ·rw[ng,O.cap.len];exact hN.symm
end
def je(X:Cx)(ifs:List Expr)(t:TT):Prop :=
 ∀(pins:List (Addr×Obj)) (s:Shared) (σ:St) (H:Hp) (Q:Bool->Hp->Prop),Inv X pins σ H s->t σ H Q ->
  wpAny (model X.prog X.w) X.A (forIn ifs true fun c r=>if r=true then do let ok ←isTrue c X.env (eval c X.env);pure (ForInStep.yield ok)else pure (ForInStep.yield r)) (TP X pins σ Q) X.xe s
def eB:TT:=fun _ H Q=>Q true H
theorem re{X:Cx}:je X [] eB:=fun _ _ _ H _ I h=>wpAny_tests_nil ⟨H,I,h⟩
theorem rf{X:Cx}{c:Expr}{t:TT}(h:PT X c t):je X [c] t:=fun pins s σ H Q I hw=>wpAny_tests_one (h pins s σ H Q I hw)
def GK(n:Nat)(g:TG):Prop:=∀x σ H Q,g x σ H Q->g x σ H (fun σ2 H2=>(σ2.length=σ.length/\∀i,n<=i->σ2[i]?=σ[i]?)/\Q σ2 H2)
theorem cn{n i:Nat}(hi:i<n):GK n (bD i):=fun x σ H Q h=>⟨⟨List.length_set,fun j hj=>List.getElem?_set_ne (by omega)⟩,h⟩
def GKs(n:Nat)(g:TGs):Prop:=∀xs σ H Q,g xs σ H Q->g xs σ H (fun σ2 H2=>(σ2.length=σ.length/\∀i,n<=i->σ2[i]?=σ[i]?)/\Q σ2 H2)
theorem mC{n:Nat}:GKs n nw:=fun xs σ H Q h=>⟨h.1,⟨rfl,fun _ _=>rfl⟩,h.2⟩
def GM(g:TG):Prop:=∀x σ H Q Q',(∀σ2 H2,Q σ2 H2->Q' σ2 H2)->g x σ H Q->g x σ H Q'
def GMs(g:TGs):Prop:=∀xs σ H Q Q',(∀σ2 H2,Q σ2 H2->Q' σ2 H2)->g xs σ H Q->g xs σ H Q'
theorem dD{i:Nat}:GM (bD i):=fun _ _ _ _ _ f h=>f _ _ h
theorem gu:GMs nw:=fun _ _ _ _ _ f h=>⟨h.1,f _ _ h.2⟩
theorem la{t:TG}{u:TGs}(a:GM t)(b:GMs u):GMs (kn t u):=fun xs σ H Q Q' f h=>by obtain⟨v,r,e,h⟩:=h;exact⟨v,r,e,a _ _ _ _ _ (fun σ2 H2 z=>b _ _ _ _ _ f z) h⟩
theorem fg{n:Nat}{t:TG}{u:TGs}(a:GK n t)(m:GM t)(b:GKs n u)(mb:GMs u):GKs n (kn t u):=fun xs σ H Q h=>by obtain⟨v,r,e,h⟩:=h;refine⟨v,r,e,m _ _ _ _ _ (fun σ2 H2 z=>?_) (a _ _ _ _ h)⟩;obtain⟨⟨l1,k1⟩,z⟩:=z;refine mb _ _ _ _ _ (fun σ3 H3 w=>?_) (b _ _ _ _ z);obtain⟨⟨l2,k2⟩,w⟩:=w;exact⟨⟨l2.trans l1,fun i hi=>(k2 i hi).trans (k1 i hi)⟩,w⟩
theorem oW{n m:Nat}{K:PySem.W.Frag}{t:TGs}(a:GKs n t):GK n (ny K m t):=fun x σ H Q h=>by obtain⟨b,xs,e,h1,h2,h3⟩:=h;exact⟨b,xs,e,h1,h2,a _ _ _ _ h3⟩
def cG(n:Nat)(cap:List Nat)(g:TG)(tc:TT)(te:TE)(σ:St)(J:It)(H1:Hp)(Q:VK):Prop :=
 ∃W:Nat->Nat->List V->Hp->Prop,(∃m,W 0 m [] H1)/\∀i m ys H,W i m ys H ->
  (J.stop i H/\∀p,H p=none->Q (.ref p) (upd H p (.lst ys))) \/
  (J.go i H/\ys.length<sizeLine/\∀ x H',J.yld i H x H'->g x (be n cap σ) H' fun σ2 H2=>tc σ2 H2 fun b H3 =>
   if b=true then te σ2 H3 fun y H4=>∃ m',m'<m/\W (i+1) m' (ys++[y]) H4 else ∃ m',m'<m/\W (i+1) m' ys H3)
def kE(n:Nat)(cap:List Nat)(wi:TI)(g:TG)(tc:TT)(te:TE):TE:=fun σ H Q=>wi σ H fun J H1=>cG n cap g tc te σ J H1 Q
theorem eZ{prog:Program}{w:World}{A:Around}{R:Result->Shared->Prop}{s:Shared}{elt target iter:Expr}{ifs:List Expr}{scope:Scope}{pos:Pos}{it acc:Value}{env:Env}(I:Nat->Shared->Prop)(turn:∀ n s,I n s->wpAny (model prog w) A (pyNext it) (fun r s₁=>match r with
   |none=>R (.ok .next) s₁
   | some v=>wpAny (model prog w) A (letOwnedTupleGo target it v) (fun _ s₁'=>wpAny (model prog w) A (assign target env v) (fun _ s₂ =>
     wpAny (model prog w) A (forIn ifs true fun c r=>if r=true then do let ok ←isTrue c env (eval c env);pure (ForInStep.yield ok) else pure (ForInStep.yield r)) (fun ok s₃ =>
      if ok=true then wpAny (model prog w) A (eval elt env) (fun x s₄ =>
       wpAny (model prog w) A (call (.builtin "list.append") [acc,x]) (fun _ s₅=>∃ m,m<n/\I m s₅) (fun _ _=>False) s₄) (fun _ _=>False) s₃
      else ∃ m,m<n/\I m s₃) (fun _ _=>False) s₂) (fun _ _=>False) s₁') (fun _ _=>False) s₁) (fun _ _=>False) s)(n:Nat)(h:I n s) :
  codeAny (model prog w) A (.compLoop (.ListComp elt [⟨target,iter,ifs,0⟩] scope pos) 0 it acc env) R s:=by
 refine codeAny_loop rfl I (fun n s hI=>?_) n h;show wpAny _ A ((compTurn (.ListComp elt [⟨target,iter,ifs,0⟩] scope pos) 0 it acc env).onRaise (fun x=>do noteFrame x env;theTreesLotGoes x)) _ _ s;refine wpAny_noted (wpAny_noRaise ?_);rw[compTurn_list];refine zc (wpAny_standAt (zc (zY (turn n s hI) (fun r s₁ h₁=>?_) fun _ _ h'=>h')));cases r with
 |none=>exact zu h₁
 |some v =>
  refine zc (zY h₁ (fun _ s₁' h₁'=>?_) fun _ _ h'=>h');refine zc (zY h₁' (fun _ s₂ h₂=>zc (zY h₂ (fun ok s₃ h₃=>?_) fun _ _ h'=>h')) fun _ _ h'=>h');cases ok with
  |false=>exact zu ⟨rfl,h₃⟩
  |true =>exact zc (zc (zY h₃ (fun x s₄ h₄=>zc (zY h₄ (fun _ s₅ h₅=>zu (zu ⟨rfl,h₅⟩)) fun _ _ h'=>h')) fun _ _ h'=>h'))
theorem tz{own capN:List Str}:∀(i:Nat) (x:Str),own.length<=i->(own++capN)[i]?=some x->capN[i-own.length]?=some x:=fun i x hi e=>by rw[zQ hi]at e;exact e
section
variable{X:Cx}{pins:List (Addr×Obj)}{σ:St}{H2:Hp}{s2:Shared}{scope:Scope}{cap:List Nat}{capN own:List Str}
variable{elt tg iter:Expr}{ifs:List Expr}{pos:Pos}{g:TG}{tc:TT}{te:TE}{Q:VK}
abbrev cZ(its:List Value)(nn:Nat):Obj:={ cls:=.type "list",data:=.seq its.toArray nn }
theorem jK{J:It}{fp:List Addr}{it:Addr}{tn:Nat->Heap->Prop}{E:Value->Shared->Prop}{RR:Value->Addr->Result->Shared->Prop}(O:CompOk X scope cap capN)(hc:X.calm=true)(hg:∀C s0 H0 ex,PG (aC X scope (own++capN) C s0 H0 ex) tg g)(gk:GK own.length g)(ht:∀C s0 H0 ex,je (aC X scope (own++capN) C s0 H0 ex) ifs tc)(he:∀C s0 H0 ex,PE (aC X scope (own++capN) C s0 H0 ex) elt te)(I2:Inv X pins σ H2 s2)(T:Turn X.prog X.w X.K tg J fp it tn)(st2:tn 0 s2.heap)(f2:∀b∈fp,bG X pins H2 b)(hq:cG own.length cap g tc te σ J H2 Q)(fin:∀(D C:Addr) (s4:Shared) (H4:Hp) (ys:List V),Inv X pins σ (upd H4 D (.lst ys)) s4->(∃m,s4.heap.Ns C m)->bG X pins (upd H4 D (.lst ys)) C->Q (.ref D) (upd H4 D (.lst ys))->RR (.ref D) C (.ok .next) s4) :
  wpAny (model X.prog X.w) X.A (newList []) (fun acc s₃=>wpAny (model X.prog X.w) X.A (newFunctionEnv scope X.env.globals (bb X.env scope.names []) [] X.env.qual none .none (some X.env)) (fun cenv s₄ =>
   codeAny (model X.prog X.w) X.A (.compStart (.ListComp elt [⟨tg,iter,ifs,0⟩] scope pos) 0 (.ref it) acc { cenv with scope:=relabel scope X.env }) (RR acc cenv.locals) s₄) E s₃) E s2:=by
 obtain⟨W,⟨m0,w0⟩,turn⟩:=hq;refine wpAny_newObj_type (wpAny_newFunctionEnv O.nocell (by intro y hy;simp at hy) (fun h₁ hns₁ hsb₁=>?_) O.kind);dsimp only at hns₁ hsb₁ ⊢;generalize hHp:s2.heap.push { cls:=.type "list",dict:=none,data:=.seq ([]:List Value).toArray }=Hp2 at hns₁ hsb₁ ⊢;have hC:Hp2.objs.size=s2.heap.objs.size+1:=by rw[<-hHp,Heap.size_push]
 have hDC:s2.heap.objs.size≠Hp2.objs.size:=by rw[hC];exact zC (Nat.lt_succ_self _)
 have hCle:s2.heap.objs.size<=Hp2.objs.size:=by rw[hC];exact Nat.le_succ _
 have below:∀b,b<s2.heap.objs.size->b≠Hp2.objs.size/\b≠s2.heap.objs.size:=fun b hb=>⟨by rw[hC];exact zC (Nat.lt_succ_of_lt hb),zC hb⟩
 have old:∀b o,s2.heap.get? b=some o->h₁.get? b=some o:=fun b o e=>hsb₁.extBut b o (below b (zo e)).1 (zj _ (hHp▸zj _ e));have hacc:h₁.get? s2.heap.objs.size=some (cZ [] 0):=hsb₁.extBut _ _ hDC (zj _ (hHp▸zI _ rfl));generalize hDe:s2.heap.objs.size=D at *;generalize hCe:Hp2.objs.size=C at *;have hfpl:∀b∈fp,b<s2.heap.objs.size:=fun b hb=>by obtain⟨o,e,_⟩:=T.obj _ _ st2 b hb;exact zo e
 have hex:∀b∈fp,bG X pins H2 b/\b<s2.heap.objs.size:=fun b hb=>⟨f2 b hb,hfpl b hb⟩
 have hCle':s2.heap.objs.size<=C:=by rw[hDe];exact hCle
 have hDle:s2.heap.objs.size<=D:=by rw[hDe];exact zd _
 have hDfp:∀b∈fp,D≠b:=fun b hb z=>by have:=hfpl b hb;rw[<-z]at this;exact absurd this (Nat.not_lt.mpr hDle)
 have I0:∀tk,Inv (aC X scope (own++capN) C s2 H2 fp) [] (be own.length cap σ) H2 { s2 with heap:=h₁,toks:=tk }:=fun tk=>nj I2 O (by simp) tz hCle' hex old hns₁;have Dst:D∉frs X.stack:=pr I2 hDle;have Dcell:∀x c,(aC X scope (own++capN) C s2 H2 fp).env.cells.lookup x=some c->c≠D:=fun x c e=>qR I2 hDle x c (O.sub I2.ok x c e);have pinD:∀{σ':St} {H':Hp} {s':Shared} {its:List Value} {nn:Nat},Inv (aC X scope (own++capN) C s2 H2 fp) [] σ' H' s'->s'.heap.get? D=some (cZ its nn)->H' D=none->Inv (aC X scope (own++capN) C s2 H2 fp) [(D,cZ its nn)] σ' H' s':=fun{σ' H' s' its nn} I e hn =>
  I.pins_of fun p hp=>by
   have z:p=(D,cZ its nn):=by simpa using hp
   subst z;exact⟨e,hn,hDC,Dst,fun v q=>by cases q⟩
 have loop:∀s₃:Shared,s₃={ s2 with heap:=h₁,toks:=s2.toks+([]:List (Str×Value)).length } ->
   codeAny (model X.prog X.w) X.A (.compLoop (.ListComp elt [⟨tg,iter,ifs,0⟩] scope pos) 0 (.ref it) (.ref D) (compEnvC scope (bb X.env scope.names []) C X.env)) (RR (.ref D) C) s₃:=by
  rintro s₃ rfl;refine eZ (fun k s'=>∃(i:Nat) (ys:List V) (its:List Value) (nn:Nat) (H':Hp),Inv (aC X scope (own++capN) C s2 H2 fp) [(D,cZ its nn)] (be own.length cap σ) H' s'/\tn i s'.heap/\(∀b∈fp,H' b=none)/\Vals ys its/\ys.length<=sizeLine/\W i k ys H') ?_ m0
   ⟨0,[],[],0,H2,pinD (I0 _) hacc (I2.hok.fresh hDle),T.keep _ _ _ st2 (fun b hb o e=>old b o e),fun b hb=>(f2 b hb).1,.nil,zW _,w0⟩
  rintro k s3 ⟨i,ys,its,nn,H3,I3,st3,fr3,rv,hz,w3⟩;have oD3:s3.heap.get? D=some (cZ its nn):=(I3.pin (D,cZ its nn) (by simp)).1;have fpY:∀{H':Hp},(∀b∈fp,H' b=none)->∀b∈fp,bG (aC X scope (own++capN) C s2 H2 fp) [(D,cZ its nn)] H' b:=fun{H'} hn b hb=>by
   obtain⟨f0,f1,g2,f3,f4,f5⟩:=f2 b hb;refine⟨hn b hb,zC (zq (hfpl b hb) hCle'),fun z=>?_,.inl hb,fun x c e=>f4 x c (O.sub I2.ok x c e),fun p hp=>?_⟩
   ·rcases zl.mp (I2.stkSub b z)with e|e
    ·exact f1 e
    ·exact g2 e
   ·have z:p=(D,cZ its nn):=by simpa[aC]using hp
    subst z;exact hDfp b hb
  rcases turn i k ys H3 w3 with⟨stop,qn⟩|⟨go,hlt,step⟩
  ·refine thn (T.done (aC X scope (own++capN) C s2 H2 fp) rfl rfl rfl hc i _ s3 _ H3 _ I3 (fpY fr3) st3 stop) fun r s4 ⟨hr,I4⟩=>?_;subst hr;obtain⟨oD,nD,_⟩:=I4.pin (D,cZ its nn) (by simp);have neD:∀{b:Addr} {u:HO},H3 b=some u->b≠D:=fun{b u} e=>ax e nD;have JX:Inv X pins σ (upd H3 D (.lst ys)) s4:=by
    refine I2.call' (ch:=fp) I4.os ⟨I4.base.keep,I4.base.slot,fun b o e nb hx=>?_,I4.base.there,fun b xs e=>?_,fun b o u e=>?_,fun b ps e=>?_⟩ (fun b u e=>?_) I4.bare (fun b hb=>?_)
    ·rw[ag (by rw[<-hDe];exact zC (zo e))];exact I4.base.free b o e nb hx
    ·have q:=I4.base.tups b xs e;rw[ag (neD q)];exact q
    ·have q:=I4.base.frzs b o u e;rw[ag (neD q)];exact q
    ·obtain⟨more,q⟩:=I4.base.tbls b ps e;exact⟨more,by rw[ag (neD q)];exact q⟩
    ·by_cases hb:b=D
     ·subst hb;rw[aa]at e;cases e;exact⟨hz,its,nn,rv,oD⟩
     ·rw[ag hb]at e;exact(I4.hok b u e).stay (fun _ _ _ q=>q) (fun c q=>by rw[ag (neD q)];exact q) fun c xs q=>by rw[ag (neD q)];exact q
    ·obtain⟨f0,f1,g2,f3,f4,f5⟩:=f2 b hb;exact⟨f3,f1,f4,f5⟩
   obtain⟨m4,hn4,_⟩:=I4.loc;refine fin D C s4 H3 ys JX ⟨m4,hn4⟩ ?_ (qn D nD);refine I2.fpOk (b:=C) hCle' ?_;rw[ag (z5 hDC)];exact I4.free
  ·refine thn (T.item (aC X scope (own++capN) C s2 H2 fp) rfl rfl rfl hc i _ s3 _ H3 _ I3 (fpY fr3) st3 go) fun r s4 ⟨u,hr,h4⟩=>?_;subst hr;refine thn h4 fun _ s5 hz9=>?_;obtain⟨x,H5,I5,r5,y5,st5,fr5⟩:=hz9;have I5':=I5.pinned (fpY fr5) (T.obj _ _ st5);refine thn (hg C s2 H2 fp _ s5 _ H5 x u _ I5' r5 (gk _ _ _ _ (step x H5 y5))) fun _ s6 hz9=>?_;obtain⟨σ6,H6,I6,⟨l6,k6⟩,q6⟩:=hz9;refine thn (ht C s2 H2 fp _ s6 σ6 H6 _ I6 q6) fun ok s7 ⟨H7,I7,q7⟩=>?_;have wk:∀{H8:Hp} {s8:Shared} {pl:List (Addr×Obj)},Inv (aC X scope (own++capN) C s2 H2 fp) pl σ6 H8 s8->Inv (aC X scope (own++capN) C s2 H2 fp) pl (be own.length cap σ) H8 s8:=fun I=>I.weak l6.symm fun j v e=>by obtain⟨hj,_⟩:=iD e;rw[k6 j hj];exact e
   have tn8:∀{σ8:St} {H8:Hp} {s8:Shared},Inv (aC X scope (own++capN) C s2 H2 fp) ([(D,cZ its nn)]++fV fp s5.heap) σ8 H8 s8->(∀b∈fp,∀o,s5.heap.get? b=some o->s8.heap.get? b=some o)/\∀b∈fp,H8 b=none:=fun{σ8 H8 s8} I=>by refine⟨fun b hb o e=>(I.pin (b,o) (zO _ (zO _ (dv hb e)))).1,fun b hb=>?_⟩;obtain⟨o,e,d⟩:=T.obj _ _ st5 b hb;exact(I.pin (b,o) (zO _ (zO _ (dv hb e)))).2.1
   cases ok with
   |false =>rw[ym zn]at q7 ⊢;obtain⟨m',hm,w7⟩:=q7;obtain⟨t1,t2⟩:=tn8 I7;exact⟨m',hm,i+1,ys,its,nn,H7,wk I7.unpinned,T.keep _ _ _ st5 t1,t2,rv,hz,w7⟩
   |true =>
    rw[yn rfl]at q7 ⊢;refine thn (he C s2 H2 fp _ s7 σ6 H7 _ I7 q7) fun y s8 hz9=>?_;obtain⟨yv,H8,I8,r8,m',hm,w8⟩:=hz9;obtain⟨t1,t2⟩:=tn8 I8;obtain⟨oD,nD,_⟩:=I8.pin (D,cZ its nn) (by simp);have hil:=rv.length;refine call_meets F.slot_list_append ⟨_,oD,rfl⟩ F.entry_list_append (F.args_list_append_2 _ _) (PySem.list_append D its.toArray nn y (by rw[zv];omega)) ⟨oD,?_⟩;have q:=PySem.IsL.update oD (fun x_1=>x_1.push y);have hf:its.toArray.push y=(its++[y]).toArray:=by simp
    rw[hf]at q;have keepO:∀b o,b≠D->s8.heap.get? b=some o->(s8.heap.update D (Obj.mapSeq fun x_1=>x_1.push y)).get? b=some o:=fun b o hb e=>(z7 s8.heap (Obj.mapSeq fun x_1=>x_1.push y) (z5 hb)).trans e;have I9:Inv (aC X scope (own++capN) C s2 H2 fp) [] σ6 H8 { s8 with heap:=s8.heap.update D (Obj.mapSeq fun x_1=>x_1.push y),toks:=s8.toks } :=
     (I8.pins_of (pins':=[]) fun p hp=>absurd hp (by simp)).turned (it:=D) keepO nD hDC (.inr hDle) Dcell (fun p hp=>absurd (show p∈([]:List (Addr×Obj))from hp) (by simp))
    refine⟨m',hm,i+1,ys++[yv],its++[y],_,H8,wk (pinD I9 q nD),T.keep _ _ _ st5 (fun b hb o e=>keepO b o (z5 (hDfp b hb)) (t1 b hb o e)),t2,rv.append (.cons r8 .nil),?_,w8⟩;rw[zb,List.length_singleton];omega
 exact codeAny_compStart_list (loop _ rfl) (T.self _ 0 _ _ _ (T.keep _ _ _ st2 (fun b hb o e=>old b o e)) (loop _ rfl))
theorem tL{wi:TI}(O:CompOk X scope cap capN)(hc:X.calm=true)(hi:PI X tg iter wi)(hg:∀C s0 H0 ex,PG (aC X scope (own++capN) C s0 H0 ex) tg g)(gk:GK own.length g)(ht:∀C s0 H0 ex,je (aC X scope (own++capN) C s0 H0 ex) ifs tc)(he:∀C s0 H0 ex,PE (aC X scope (own++capN) C s0 H0 ex) elt te)(hs:∀x,foldedSetIterable iter X.env x=pure x:=by intro _;rfl):PE X (.ListComp elt [⟨tg,iter,ifs,0⟩] scope pos) (kE own.length cap wi g tc te):=by intro pins s σ H Q I h;rw[eval_ListComp];refine wpAny_comprehension_free (use:=none) rfl hs (O.clos I.ok) O.kind O.names (thn (hi pins s σ H _ I h) fun v s1 h1=>thn h1 fun itv s2 h2=>?_);obtain⟨it,fp,tn,J,H2,e,I2,T,st2,f2,hq⟩:=h2;subst e;refine jK (RR:=fun acc C=>compPost (model X.prog X.w) X.A X.xe none (EP X pins σ Q) acc C) O hc hg gk ht he I2 T st2 f2 hq fun D C s4 H4 ys J4 hn4 fC q4=>?_;obtain⟨m,hn⟩:=hn4;obtain⟨f0,f1,g2,f3,f4,f5⟩:=fC;exact⟨m,hn,fun h' sb=>⟨.ref D,_,J4.turned (t':=s4.toks) (fun b o hb e=>(sb.2 b hb).trans e) f0 f1 f3 f4 f5,rfl,q4⟩⟩
theorem tV{wi:TI}{j:Nat}{y:Str}{py spos:Pos}(hN0:X.N.Nodup)(hj:X.N[j]?=some y)(hy:Loc X.env.scope y)(O:CompOk X scope cap capN)(hc:X.calm=true)(hi:PI X tg iter wi)(hg:∀C s0 H0 ex,PG (aC X scope (own++capN) C s0 H0 ex) tg g)(gk:GK own.length g)(ht:∀C s0 H0 ex,je (aC X scope (own++capN) C s0 H0 ex) ifs tc)(he:∀C s0 H0 ex,PE (aC X scope (own++capN) C s0 H0 ex) elt te)(hsw:swapsWith (.ListComp elt [⟨tg,iter,ifs,0⟩] scope pos) (some (.Name y py)) spos.line X.env=pure true:=by rfl)(hs:∀x,foldedSetIterable iter X.env x=pure x:=by intro _;rfl)(hf:X.fn y=true\/X.env.scope.names.lookup y=some .local:=by first|exact .inl rfl|exact .inr rfl|assumption) :
  PS X (.Assign [.Name y py] (.ListComp elt [⟨tg,iter,ifs,0⟩] scope pos) spos) (jF (kE own.length cap wi g tc te) (bD j)):=by
 intro pins s σ H D0 I h;rw[exec_Assign_Name_used _ _ _ _ hsw];refine zc (wpAny_standAt (zc ?_));show wpAny _ X.A (do let _ ←comprehension (.ListComp elt [⟨tg,iter,ifs,0⟩] scope pos) scope X.env _ (newList []) false (eval iter X.env) (some (assign (.Name y py) X.env))) _ _ s;refine zc (zY (wpAny_comprehension_free (use:=some (assign (.Name y py) X.env)) (Q:=fun _ s'=>SP X pins D0 .next s') rfl hs (O.clos I.ok) O.kind O.names (thn (hi pins s σ H _ I h) fun v s1 h1=>thn h1 fun itv s2 h2=>?_)) (fun _ s' hq=>zu (zu hq)) fun _ _ e=>e);obtain⟨it,fp,tn,J,H2,e,I2,T,st2,f2,hq⟩:=h2;subst e;refine jK (RR:=fun acc C=>compPost (model X.prog X.w) X.A X.xe (some (assign (.Name y py) X.env)) (fun _ s'=>SP X pins D0 .next s') acc C) O hc hg gk ht he I2 T st2 f2 hq fun D C s4 H4 ys J4 hn4 fC q4=>?_;obtain⟨m,hn⟩:=hn4;obtain⟨f0,f1,g2,f3,f4,f5⟩:=fC;show wpAny _ X.A (assign (.Name y py) X.env (.ref D)) _ _ _;refine wpAny_assign_Name (jS J4 hN0 hj hy (v:=.ref D) rfl (fun s5 I5 ⟨a,sba,ha⟩=>?_) hf);have hCa:C≠a:=by
  rcases ha with z|z
  ·rw[z];exact f1
  ·exact z5 (f4 _ _ z)
 refine⟨m,hn.sameBut sba hCa,fun h' sb=>?_⟩;exact⟨_,_,I5.turned (t':=s5.toks) (fun b o hb e=>(sb.2 b hb).trans e) f0 f1 f3 f4 f5,q4⟩
end
open PySem PySem.Spec PyProof.Rows
structure Fn(P:Program)(w:World)(K:PySem.W.Frag)(mg:Str->Option Value)(base:Heap)(k:Nat)(x:Str)(ps:List Str)(sp:Sp):Prop where
 ex:∃f fd,FnOk P w K mg base CX0 k f fd ps sp/\mg x=some (.ref f)/\PySem.W.keepIn K (.ref f)=true/\Binds K fd ps []
section
variable{X:Cx}{k:Nat}{x:Str}{p pos:Pos}{e:Expr}{es:List Expr}{ps:List Str}{sp:Sp}{t:TA}
theorem xr(F:Fn X.prog X.w X.K X.mg X.base k x ps sp)(hr:Room k X.A)(ha:PA X (e::es) t)(hg:Gl X x:=by rfl)(hdb:(x==("__debug__":Str))=false:=by decide)(he:starEach (e::es) X.env=(false,eval e X.env)::starEach es X.env:=by rfl)(hpl:(backTo pos (starEach es X.env)).any (·.1)=false:=by rfl) :
  PE X (.Call (.Name x p) (e::es) [] pos) (gQ sp [] E0 t):=by
 obtain⟨f,fd,G,m,kp,b⟩:=F.ex;exact mH G hr hg m kp b .nil ky ha hdb he hpl
end
theorem au:bootBuiltins "isinstance" = some (.builtin "isinstance"):=by decide +kernel
theorem qs:bootBuiltins "max" = some (.builtin "max"):=by decide +kernel
theorem cg:bootBuiltins "int" = some (.type "int"):=by decide +kernel
theorem oA:bootBuiltins "bool" = some (.type "bool"):=by decide +kernel
theorem eY:bootBuiltins "tuple" = some (.type "tuple"):=by decide +kernel
theorem oz:bootBuiltins "all" = some (.builtin "all"):=by decide +kernel
section
variable{X:Cx}
theorem qt(hc:X.calm=true):dk X (.builtin "all") (fun xs H Q=>∃(p:Addr) (bs:List Bool),xs=[.ref p]/\SqL X.K H p (bs.map V.bl)/\Q (.bl (bs.all id)) H):=by
 intro pins s σ H xs us Q I r h;obtain⟨p,bs,rfl,hq,q⟩:=h;obtain⟨u,rfl,rx⟩:=bT r;cases rx;obtain⟨its,rv,pl,hz⟩:=I.list hq;have hl:=pl.isList;have hlt:p<s.heap.objs.size:=by obtain⟨_,e,_⟩:=hl;exact zo e
 have hh:=I.ok.hd hc;have hlen:bs.length=its.length:=by rw[<-rv.length,za]
 refine call_all_walk (wpAny_pyIter_list hl ?_);refine⟨s.heap.objs.size,[s.heap.objs.size,p],[s.heap.objs.size],its.toArray.size,_,_,fun i=>(bs[i]?).getD true,rfl,Walks.list (A:=X.A.in1) hh _ p (zC hlt) its.toArray,
  ⟨⟨_,zI _ rfl,rfl,rfl⟩,hl.push _⟩,fun i v s' Q' E' hP hQ=>?_,fun h' tk hk=>?_⟩
 ·have hv:its[i]?=some v:=by simpa using hP
  have hi:i<bs.length:=by rw[hlen];exact(zr.mp hv).1
  obtain⟨u,hu,ru⟩:=rv.get (i:=i) (x:=.bl bs[i]) (by rw[zL,zx hi];rfl);rw[hv]at hu;cases hu;cases ru;have hQ':Q' ((bs[i]?).getD true) s':=hQ;rw[zx hi]at hQ';exact zZ hQ'
 ·have e:((List.range its.toArray.size).all fun i=>(bs[i]?).getD true)=bs.all id:=by rw[zv,<-hlen];exact LSm.range_all bs
  rw[e];exact⟨.bl _,H,I.kept (t':=tk) (LSm.kept_iter hk),rfl,q⟩
def xQ(K:PySem.W.Frag):R2:=fun x y H Q=>∃(a b:Addr) (ns ms:List Int),x=.ref a/\y=.ref b/\SqL K H a (ns.map V.int)/\SqL K H b (ms.map V.int)/\Q (.bl (!decide (ns=ms))) H
theorem vn(hu:X.A.units+64<cLine):OpR X (compareOp .NotEq) (xQ X.K):=by intro pins s σ H x y v u Q I rx ry h;obtain⟨a,b,ns,ms,rfl,rfl,ha,hb,q⟩:=h;cases rx;cases ry;obtain⟨its,r1,p1,_⟩:=I.list ha;obtain⟨its2,r2,p2,_⟩:=I.list hb;exact PySem.W.ke_ne_ints p1.isList p2.isList (fj r1) (fj r2) hu ⟨.bl _,H,I,rfl,q⟩
end
def isI:V->Bool
 |.int _=>true
 |.bl _=>true
 |_=>false
def isB:V->Bool
 |.bl _=>true
 |_=>false
theorem li{K:PySem.W.Frag}{t T:String}{b:Bool}(h1:(Value.type t==Value.type T)=b)(h2:b=false->PySem.W.kitMeta T=true/\(PySem.fastBuiltinMro t).map (·.contains (Value.type T))=some false):PySem.W.kitOne K (.type t) (.type T)=some b:=by
 unfold PySem.W.kitOne;rw[h1];cases b with
 |true=>exact yn rfl
 |false =>rw[ym zn];obtain⟨m,q⟩:=h2 rfl;show(if PySem.W.kitMeta T=true then PySem.W.subIn K (.type t) (.type T)else none)=_;rw[yn m];exact q
theorem aS{K:PySem.W.Frag}{t T:String}{b:Bool}(h1:(Value.type t==Value.type T)=false)(h2:PySem.W.kitMeta T=true)(h3:(PySem.fastBuiltinMro t).map (·.contains (Value.type T))=some b):PySem.W.kitOne K (.type t) (.type T)=some b:=by unfold PySem.W.kitOne;rw[h1,ym zn];show(if PySem.W.kitMeta T=true then PySem.W.subIn K (.type t) (.type T)else none)=_;rw[yn h2];exact h3
theorem sO{K:PySem.W.Frag}{H:Hp}{v:V}{n:String}(h:TyOf K H v (.type n)):PySem.W.kitOne K (.type n) (.type "int")=some (isI v):=by
 cases h with
 |non=>exact aS (b:=false) (by decide +kernel) (by decide +kernel) (by decide +kernel)
 |bl x=>exact aS (b:=true) (by decide +kernel) (by decide +kernel) (by decide +kernel)
 |int i=>exact li (b:=true) (by decide +kernel) (fun z=>nomatch z)
 |str x=>exact aS (b:=false) (by decide +kernel) (by decide +kernel) (by decide +kernel)
 |flt x=>exact aS (b:=false) (by decide +kernel) (by decide +kernel) (by decide +kernel)
 |lst e=>exact aS (b:=false) (by decide +kernel) (by decide +kernel) (by decide +kernel)
 |frz e=>exact aS (b:=false) (by decide +kernel) (by decide +kernel) (by decide +kernel)
 |tup e=>exact aS (b:=false) (by decide +kernel) (by decide +kernel) (by decide +kernel)
 |dK e=>exact aS (b:=false) (by decide +kernel) (by decide +kernel) (by decide +kernel)
 |dT e=>exact aS (b:=false) (by decide +kernel) (by decide +kernel) (by decide +kernel)
theorem qL{K:PySem.W.Frag}{H:Hp}{v:V}{n:String}(h:TyOf K H v (.type n)):PySem.W.kitOne K (.type n) (.type "bool")=some (isB v):=by
 cases h with
 |non=>exact aS (b:=false) (by decide +kernel) (by decide +kernel) (by decide +kernel)
 |bl x=>exact li (b:=true) (by decide +kernel) (fun z=>nomatch z)
 |int i=>exact aS (b:=false) (by decide +kernel) (by decide +kernel) (by decide +kernel)
 |str x=>exact aS (b:=false) (by decide +kernel) (by decide +kernel) (by decide +kernel)
 |flt x=>exact aS (b:=false) (by decide +kernel) (by decide +kernel) (by decide +kernel)
 |lst e=>exact aS (b:=false) (by decide +kernel) (by decide +kernel) (by decide +kernel)
 |frz e=>exact aS (b:=false) (by decide +kernel) (by decide +kernel) (by decide +kernel)
 |tup e=>exact aS (b:=false) (by decide +kernel) (by decide +kernel) (by decide +kernel)
 |dK e=>exact aS (b:=false) (by decide +kernel) (by decide +kernel) (by decide +kernel)
 |dT e=>exact aS (b:=false) (by decide +kernel) (by decide +kernel) (by decide +kernel)
theorem ac{H:Hp}{p:Addr}(h:H p=none)(o:HO):Same H (upd H p o):=fun b u q=>by rw[ag (ax q h)];exact q
theorem iw{K:PySem.W.Frag}{H H':Hp}{a:Addr}{xs:List V}(e:Same H H')(h:SqT K H a xs):SqT K H' a xs:=by
 rcases h with(h|⟨o,h⟩)|h
 ·exact .inl (.inl (e _ _ h))
 ·exact .inl (.inr ⟨o,e _ _ h⟩)
 ·exact .inr h
theorem aV{n:Nat}(h:n<=1000):n<=sizeLine:=Zn (gi h)
theorem sz{n:Nat}(h:Nat.ble n 1000=true):n<=sizeLine:=aV (Nat.le_of_ble_eq_true h)
theorem fH{J:It}{N n:Nat}{cap:List Nat}{te:TE}{σ:St}{H0:Hp}{Q:VK}(x0 f:Nat->V)(hz:N<=1000)(hgo:∀i H,i<N->Same H0 H->J.go i H)(hst:∀H,Same H0 H->J.stop N H)(hy:∀i H x H',i<N->Same H0 H->J.yld i H x H'->H'=H/\x=x0 i)(he:∀i H,i<N->Same H0 H->∀R:VK,(∀H',Same H H'->R (f i) H')->te ((be n cap σ).set 0 (some (x0 i))) H R)(hq:∀p H,Same H0 H->H p=none->Q (.ref p) (upd H p (.lst ((List.range N).map f)))):cG n cap (bD 0) eB te σ J H0 Q:=by
 refine⟨fun i m ys H=>m=N-i/\i<=N/\Same H0 H/\ys=(List.range i).map f,⟨N,by simp,zW _,Same.refl _,rfl⟩,?_⟩;rintro i m ys H ⟨rfl,hi,sm,rfl⟩;by_cases hlt:i<N
 ·refine .inr ⟨hgo i H hlt sm,?_,fun x H' y=>?_⟩
  ·rw[za,List.length_range];exact gi (by omega)
  ·obtain⟨e1,e2⟩:=hy i H x H' hlt sm y;subst e1 e2;refine he i H' hlt sm _ fun H4 sm4=>⟨N-(i+1),by omega,rfl,hlt,sm.trans sm4,?_⟩
   rw[List.range_succ,zJ];rfl
 ·have e:i=N:=by omega
  subst e;exact .inl ⟨hst H sm,fun p hp=>hq p H sm hp⟩
theorem oH{K:PySem.W.Frag}{a:Addr}{xs:List V}{n:Nat}{cap:List Nat}{te:TE}{σ:St}{H0:Hp}{Q:VK}(f:Nat->V)(hz:xs.length<=1000)(hl:SqL K H0 a xs)(he:∀i x H,xs[i]?=some x->Same H0 H->∀R:VK,(∀H',Same H H'->R (f i) H')->te ((be n cap σ).set 0 (some x)) H R)(hq:∀p H,Same H0 H->H p=none->Q (.ref p) (upd H p (.lst ((List.range xs.length).map f)))):cG n cap (bD 0) eB te σ (Itl K a) H0 Q:=by
 refine fH (N:=xs.length) (fun i=>(xs[i]?).getD .non) f hz (fun i H hi sm=>⟨xs,xs[i],sm.seq hl,by simp[hi]⟩) (fun H sm=>⟨xs,sm.seq hl,zd _⟩) (fun i H x H' hi sm y=>⟨y.1,?_⟩) (fun i H hi sm R k=>?_) hq
 ·rw[y.2 xs (sm.seq hl)];rfl
 ·have e:xs[i]?=some xs[i]:=by simp[hi]
  rw[e];exact he i xs[i] H e sm R k
theorem qy{K:PySem.W.Frag}{a:Addr}{xs:List V}{n:Nat}{cap:List Nat}{te:TE}{σ:St}{H0:Hp}{Q:VK}(f:Nat->V)(hz:xs.length<=1000)(hl:SqT K H0 a xs)(he:∀i x H,xs[i]?=some x->Same H0 H->∀R:VK,(∀H',Same H H'->R (f i) H')->te ((be n cap σ).set 0 (some x)) H R)(hq:∀p H,Same H0 H->H p=none->Q (.ref p) (upd H p (.lst ((List.range xs.length).map f)))):cG n cap (bD 0) eB te σ (Itt K a) H0 Q:=by
 refine fH (N:=xs.length) (fun i=>(xs[i]?).getD .non) f hz (fun i H hi sm=>⟨xs,xs[i],iw sm hl,by simp[hi]⟩) (fun H sm=>⟨xs,iw sm hl,zd _⟩) (fun i H x H' hi sm y=>⟨y.1,?_⟩) (fun i H hi sm R k=>?_) hq
 ·rw[y.2 xs (iw sm hl)];rfl
 ·have e:xs[i]?=some xs[i]:=by simp[hi]
  rw[e];exact he i xs[i] H e sm R k
open PySem PySem.Spec PyProof.Rows
def aT:Expr->Bool
 |.Starred _ _=>false
 |_=>true
theorem aO{e:Expr}{es:List Expr}{env:Env}(h:aT e=true):starEach (e::es) env=(false,eval e env)::starEach es env:=by cases e<;>first|rfl|cases h
theorem bj{env:Env}{pos:Pos}:∀{es:List Expr},es.all aT=true->(backTo pos (starEach es env)).any (·.1)=false
 | [],_=>rfl
 |e::es,h=>by rw[Zb,zw]at h;rw[aO h.1];show(false ||(backTo pos (starEach es env)).any (·.1))=false;rw[Bool.false_or];exact bj h.2
section
variable{X:Cx}{x:Str}{p pos:Pos}{e:Expr}{es:List Expr}{te:TE}{t:TA}{id T:String}{r:List V->Hp->VK->Prop}{k:Nat}{ps:List Str}{sp:Sp}
theorem pa(ha:PE X e te)(hr:PA X es t)(hs:aT e=true:=by rfl):PA X (e::es) (cT te t):=gz ha hr (aO hs)
theorem pB(hc:dk X (.builtin id) r)(hm:X.mg x=none)(hv:bootBuiltins x=some (.builtin id))(ha:PA X (e::es) t)(hg:Gl X x:=by rfl)(hs:(e::es).all aT=true:=by rfl)(hn:x≠"__name__":=by decide)(hdb:(x==("__debug__":Str))=false:=by decide) :
  PE X (.Call (.Name x p) (e::es) [] pos) (tCB r t):=by
 rw[Zb,zw]at hs;exact qX hc hg hm hv ha hn hdb (aO hs.1) (bj hs.2)
theorem pTy(hc:dk X (.type T) r)(hm:X.mg x=none)(hv:bootBuiltins x=some (.type T))(ha:PA X (e::es) t)(hg:Gl X x:=by rfl)(hs:(e::es).all aT=true:=by rfl)(hn:x≠"__name__":=by decide)(hdb:(x==("__debug__":Str))=false:=by decide) :
  PE X (.Call (.Name x p) (e::es) [] pos) (tCB r t):=by
 rw[Zb,zw]at hs;exact pG hc hg hm hv ha hn hdb (aO hs.1) (bj hs.2)
theorem pfn(F:Fn X.prog X.w X.K X.mg X.base k x ps sp)(hr:Room k X.A)(ha:PA X (e::es) t)(hg:Gl X x:=by rfl)(hs:(e::es).all aT=true:=by rfl)(hdb:(x==("__debug__":Str))=false:=by decide) :
  PE X (.Call (.Name x p) (e::es) [] pos) (gQ sp [] E0 t):=by
 rw[Zb,zw]at hs;exact xr F hr ha hg hdb (aO hs.1) (bj hs.2)
end
open PySem PySem.Spec PyProof.Rows
structure QE(X:Cx)(e:Expr)(t:TE):Prop where
 h:PE X e t
structure QT(X:Cx)(e:Expr)(t:TT):Prop where
 h:PT X e t
structure QW(X:Cx)(e:Expr)(t:TT):Prop where
 h:PW X e t
structure QA(X:Cx)(es:List Expr)(t:TA):Prop where
 h:PA X es t
structure QS(X:Cx)(st:Stmt)(t:TS):Prop where
 h:PS X st t
structure QB(X:Cx)(st:List Stmt)(t:TS):Prop where
 h:PSs X st t
structure QG(X:Cx)(tg:Expr)(g:TG):Prop where
 h:PG X tg g
structure QGs(X:Cx)(ts:List Expr)(g:TGs):Prop where
 h:PGs X ts g
structure QI(X:Cx)(tg iter:Expr)(wi:TI):Prop where
 h:PI X tg iter wi
structure QIf(X:Cx)(ifs:List Expr)(t:TT):Prop where
 h:je X ifs t
structure QO(X:Cx)(e:Option Expr)(t:TO):Prop where
 h:PO X e t
structure QOp(X:Cx)(f:Value->Value->Sem Value)(r:R2):Prop where
 h:OpR X f r
structure QCall(X:Cx)(f:Value)(r:List V->Hp->VK->Prop):Prop where
 h:dk X f r
structure QIx(X:Cx)(r:R2):Prop where
 h:IxR X r
structure QSl(X:Cx)(r:V->Option Int->Option Int->Hp->VK->Prop):Prop where
 h:SlR X r
structure QSet(X:Cx)(t:uw):Prop where
 h:xI X t
structure QUn(X:Cx)(f:Value->Sem Value)(r:V->Hp->VK->Prop):Prop where
 h:UnR X f r
structure QIp(X:Cx)(op:Operator)(t:TIp):Prop where
 h:PIp X op t
section
variable{X:Cx}{pos p:Pos}{e a b c o:Expr}{es rest:List Expr}{te ta tb tc:TE}{t:TA}{tA tB':TT}{x:Str}
theorem q_v(i:Nat){x:Str}{pos:Pos}(hN:X.N[i]?=some x:=by rfl)(hv:Vis X.env.scope x:=by first|exact Or.inl rfl|exact Or.inr (Or.inl rfl)|exact Or.inr (Or.inr rfl))(hd:(x==("__debug__":Str))=false:=by decide)(hcd:(x==("__classdict__":Str))=false:=by decide):QE X (.Name x pos) (tVar i):=⟨vE hN hv hd hcd⟩
theorem af{i:Int}{j:Nat}:QE X (.Constant (.int i) j pos) (tC (.int i)):=⟨vw⟩
theorem bH{i:Bool}{j:Nat}:QE X (.Constant (.bool i) j pos) (tC (.bl i)):=⟨xq⟩
theorem fu{j:Nat}:QE X (.Constant .none j pos) (tC .non):=⟨vy⟩
theorem ad{i:Str}{j:Nat}:QE X (.Constant (.str i) j pos) (tC (.str i)):=⟨vC⟩
theorem rj{T:String}(hm:X.mg x=none)(hv:bootBuiltins x=some (.type T))(hg:Gl X x:=by rfl)(hn:x≠"__name__":=by decide)(hd:(x==("__debug__":Str))=false:=by decide):QE X (.Name x pos) (tC (.ty T)):=⟨tI hg hm hv rfl hn hd⟩
theorem rk{i:Int}{tk:Tok}(hm:X.mg x=some (.int i tk))(hg:Gl X x:=by rfl)(hd:(x==("__debug__":Str))=false:=by decide):QE X (.Name x pos) (tC (.int i)):=⟨jv hg hm ⟨_,rfl⟩ hd⟩
theorem ai{op:Operator}{r:R2}(ho:QOp X (binaryOp op) r)(ha:QE X a ta)(hb:QE X b tb):QE X (.BinOp a op b pos) (tOp r ta tb):=⟨xu ho.h ha.h hb.h⟩
theorem rn{op:UnaryOp}{r:V->Hp->VK->Prop}(ho:QUn X (unaryOp op) r)(ha:QE X a ta):QE X (.UnaryOp op a pos) (tUn r ta):=⟨xw ho.h ha.h⟩
theorem kB{op}(h:QE X a ta):QE X (.BoolOp op [a] pos) ta:=⟨vB h.h⟩
theorem kA(ha:QE X a ta)(hb:QE X (.BoolOp .And (b::rest) pos) tb):QE X (.BoolOp .And (a::b::rest) pos) (rY ta tb):=⟨vt ha.h hb.h⟩
theorem vT(ha:QE X a ta)(hb:QE X (.BoolOp .Or (b::rest) pos) tb):QE X (.BoolOp .Or (a::b::rest) pos) (rG ta tb):=⟨xv ha.h hb.h⟩
theorem rR(ha:QE X a ta):QE X (.UnaryOp .Not a pos) (oh ta):=⟨vA ha.h⟩
theorem bo{op:CmpOp}{r:R2}(ho:QOp X (compareOp op) r)(ha:QE X a ta)(hb:QE X b tb)(hm:behindInMarks op b=false:=by first|exact pq _|with_unfolding_all rfl):QE X (.Compare a [op] [b] pos) (tOp r ta tb):=⟨tJ ho.h ha.h hb.h hm⟩
theorem vR(hc:QT X c tA)(ha:QE X a ta)(hb:QE X b tb):QE X (.IfExp c a b pos) (tIf tA ta tb):=⟨qY hc.h ha.h hb.h⟩
theorem aA(h:QA X es t):QE X (.List es pos) (wl t):=⟨vx h.h⟩
theorem ap{x1}(h:QA X es t):QE X (.Tuple es x1 pos) (wn t):=⟨vD h.h⟩
theorem aD{r:R2}(hr:QIx X r)(ha:QE X a ta)(hb:QE X b tb)(hs:ml b:=by intro _ _;rfl):QE X (.Subscript a b pos) (tOp r ta tb):=⟨xt hr.h ha.h hb.h hs⟩
theorem cj{r:V->Option Int->Option Int->Hp->VK->Prop}{lo hi:Option Expr}{tl th:TO}{p2:Pos}(hr:QSl X r)(he:QE X e te)(hl:QO X lo tl)(hu:QO X hi th):QE X (.Subscript e (.Slice lo hi none p2) pos) (tSl r te tl th):=⟨ra hr.h he.h hl.h hu.h⟩
theorem cy:QO X none mO:=⟨tR⟩
theorem bU(h:QE X e te):QO X (some e) (sf te):=⟨tS h.h⟩
theorem ae:QA X [] dj:=⟨fU⟩
theorem q_a(ha:QE X e te)(hr:QA X es t)(hs:aT e=true:=by rfl):QA X (e::es) (cT te t):=⟨pa ha.h hr.h hs⟩
theorem q_B{id:String}{r:List V->Hp->VK->Prop}(hc:QCall X (.builtin id) r)(hm:X.mg x=none)(hv:bootBuiltins x=some (.builtin id))(ha:QA X (e::es) t)(hg:Gl X x:=by rfl)(hs:(e::es).all aT=true:=by rfl)(hn:x≠"__name__":=by decide)(hdb:(x==("__debug__":Str))=false:=by decide) :
  QE X (.Call (.Name x p) (e::es) [] pos) (tCB r t):=⟨pB hc.h hm hv ha.h hg hs hn hdb⟩
theorem db{T:String}{r:List V->Hp->VK->Prop}(hc:QCall X (.type T) r)(hm:X.mg x=none)(hv:bootBuiltins x=some (.type T))(ha:QA X (e::es) t)(hg:Gl X x:=by rfl)(hs:(e::es).all aT=true:=by rfl)(hn:x≠"__name__":=by decide)(hdb:(x==("__debug__":Str))=false:=by decide) :
  QE X (.Call (.Name x p) (e::es) [] pos) (tCB r t):=⟨pTy hc.h hm hv ha.h hg hs hn hdb⟩
theorem aH{k:Nat}{ps:List Str}{sp:Sp}(F:Fn X.prog X.w X.K X.mg X.base k x ps sp)(hr:Room k X.A)(ha:QA X (e::es) t)(hg:Gl X x:=by rfl)(hs:(e::es).all aT=true:=by rfl)(hdb:(x==("__debug__":Str))=false:=by decide) :
  QE X (.Call (.Name x p) (e::es) [] pos) (gQ sp [] E0 t):=⟨pfn F hr ha.h hg hs hdb⟩
theorem ak{op:CmpOp}{r:R2}(ho:QOp X (compareOp op) r)(ha:QE X a ta)(hb:QE X b tb)(hm:behindInMarks op b=false:=by first|exact pq _|with_unfolding_all rfl):QT X (.Compare a [op] [b] pos) (iY (tOp r ta tb)):=⟨tY ho.h ha.h hb.h hm⟩
theorem uh{op op':CmpOp}{r r':R2}(ho:QOp X (compareOp op) r)(ho':QOp X (compareOp op') r')(ha:QE X a ta)(hb:QE X b tb)(hc:QE X c tc)(hm:lastMarks [op,op'] [b,c]=false:=by with_unfolding_all rfl) :
  QT X (.Compare a [op,op'] [b,c] pos) (iY (pY r r' ta tb tc)):=⟨ri ho.h ho'.h ha.h hb.h hc.h hm⟩
theorem cU(ha:QT X a tA):QT X (.UnaryOp .Not a pos) (rF tA):=⟨vM ha.h⟩
theorem aR(h:QE X e te)(he:∀whole,isTrue e X.env whole=(do let v ←whole;standAt e.pos;holding [v] (truthy v)):=by intro _;rfl):QT X e (tB te):=⟨vN h.h he⟩
theorem cH(ha:QT X a tA):QW X (.BoolOp .And [a] pos) tA:=⟨tZ ha.h⟩
theorem dB(ha:QT X a tA):QW X (.BoolOp .Or [a] pos) tA:=⟨vQ ha.h⟩
theorem cV(ha:QT X a tA)(hb:QW X (.BoolOp .And (b::rest) pos) tB'):QW X (.BoolOp .And (a::b::rest) pos) (wf tA tB'):=⟨vP ha.h hb.h⟩
theorem cP(ha:QT X a tA)(hb:QW X (.BoolOp .Or (b::rest) pos) tB'):QW X (.BoolOp .Or (a::b::rest) pos) (tOr tA tB'):=⟨xy ha.h hb.h⟩
theorem t_w(h:QW X e tA):QT X e tA:=⟨h.h.pt⟩
end
section
variable{X:Cx}{pos:Pos}{tg iter elt:Expr}{ifs:List Expr}{g:TG}{gs:TGs}{tc:TT}{te:TE}{scope:Scope}{cap:List Nat}{capN own:List Str}{wi:TI}
theorem br{i:Nat}{x:Str}(hN:X.N.Nodup)(hi:X.N[i]?=some x:=by rfl)(hx:Loc X.env.scope x:=by first|exact Or.inl rfl|exact Or.inr rfl)(hf:X.fn x=true\/X.env.scope.names.lookup x=some .local:=by first|exact .inl rfl|exact .inr rfl):QG X (.Name x pos) (bD i):=⟨tN hN hi hx hf⟩
theorem nA:QGs X [] nw:=⟨tP⟩
theorem fM{e:Expr}{es:List Expr}(h1:QG X e g)(h2:QGs X es gs)(hs:(assignEach (e::es) X.env).map (·.2)=assign e X.env::(assignEach es X.env).map (·.2):=by rfl):QGs X (e::es) (kn g gs):=⟨rc h1.h h2.h hs⟩
theorem nz{es:List Expr}{k n:Nat}(hc:X.calm=true)(h:QGs X es gs)(hn:(assignEach es X.env).length=n:=by rfl)(hst:(assignEach es X.env).findIdx? (·.1)=none:=by rfl):QG X (.Tuple es k pos) (ny X.K n gs):=⟨vF hc h.h hn hst⟩
theorem eS{l:Expr}(hl:QE X l te):QI X tg l (rN X.K te):=⟨tQ hl.h⟩
theorem wU{l:Expr}(hl:QE X l te):QI X tg l (uK X.K te):=⟨vG hl.h⟩
theorem uL{a:Expr}{ta:TA}{p:Pos}(hm:X.mg "range" = none)(ha:QA X [a] ta)(hg:Gl X "range":=by rfl)(hs:aT a=true:=by rfl):QI X tg (.Call (.Name "range" p) [a] [] pos) (rO ta):=⟨pH hg hm ha.h (aO hs)⟩
theorem nB:QIf X [] eB:=⟨re⟩
theorem uM{c:Expr}{t:TT}(h:QT X c t):QIf X [c] t:=⟨rf h.h⟩
theorem iT(O:CompOk X scope cap capN)(hc:X.calm=true)(hi:QI X tg iter wi)(hg:∀C s0 H0 ex,QG (aC X scope (own++capN) C s0 H0 ex) tg g)(gk:GK own.length g)(ht:∀C s0 H0 ex,QIf (aC X scope (own++capN) C s0 H0 ex) ifs tc)(he:∀C s0 H0 ex,QE (aC X scope (own++capN) C s0 H0 ex) elt te)(hs:∀x,foldedSetIterable iter X.env x=pure x:=by intro _;rfl):QE X (.ListComp elt [⟨tg,iter,ifs,0⟩] scope pos) (kE own.length cap wi g tc te) :=
 ⟨tL O hc hi.h (fun C s0 H0 ex=>(hg C s0 H0 ex).h) gk (fun C s0 H0 ex=>(ht C s0 H0 ex).h) (fun C s0 H0 ex=>(he C s0 H0 ex).h) hs⟩
variable{st:Stmt}{rest:List Stmt}{t u:TS}{e c:Expr}
theorem b_0:QB X [] og:=⟨tW⟩
theorem b_1(h:QS X st t):QB X [st] t:=⟨tX h.h⟩
theorem b_c(h1:QS X st t)(h2:QB X rest u):QB X (st::rest) (oi t u):=⟨rh h1.h h2.h⟩
theorem aj(h:QE X e te):QS X (.Return (some e) pos) (wm te):=⟨vK h.h⟩
theorem cW(h:QE X e te)(hs:swapsWith e none pos.line X.env=pure false:=by rfl):QS X (.Expr e pos) (rZ te):=⟨tT h.h hs⟩
theorem ar{body els:List Stmt}(hc:QT X c tc)(ht:QB X body t)(hu:QB X els u):QS X (.If c body els pos) (rE tc t u):=⟨xx hc.h ht.h hu.h⟩
theorem am{i:Nat}{x:Str}{pos':Pos}(hN:X.N.Nodup)(he:QE X e te)(hi:X.N[i]?=some x:=by rfl)(hx:Loc X.env.scope x:=by first|exact Or.inl rfl|exact Or.inr rfl)(hs:swapsWith e (some (.Name x pos')) pos.line X.env=pure false:=by rfl)(hf:X.fn x=true\/X.env.scope.names.lookup x=some .local:=by first|exact .inl rfl|exact .inr rfl):QS X (.Assign [.Name x pos'] e pos) (jF te (bD i)):=⟨vL hN hi hx he.h hs hf⟩
theorem pS{j:Nat}{y:Str}{py spos:Pos}(hN0:X.N.Nodup)(O:CompOk X scope cap capN)(hc:X.calm=true)(hi:QI X tg iter wi)(hg:∀C s0 H0 ex,QG (aC X scope (own++capN) C s0 H0 ex) tg g)(gk:GK own.length g)(ht:∀C s0 H0 ex,QIf (aC X scope (own++capN) C s0 H0 ex) ifs tc)(he:∀C s0 H0 ex,QE (aC X scope (own++capN) C s0 H0 ex) elt te)(hj:X.N[j]?=some y:=by rfl)(hy:Loc X.env.scope y:=by first|exact Or.inl rfl|exact Or.inr rfl)(hsw:swapsWith (.ListComp elt [⟨tg,iter,ifs,0⟩] scope pos) (some (.Name y py)) spos.line X.env=pure true:=by rfl)(hs:∀x,foldedSetIterable iter X.env x=pure x:=by intro _;rfl)(hf:X.fn y=true\/X.env.scope.names.lookup y=some .local:=by first|exact .inl rfl|exact .inr rfl) :
  QS X (.Assign [.Name y py] (.ListComp elt [⟨tg,iter,ifs,0⟩] scope pos) spos) (jF (kE own.length cap wi g tc te) (bD j)) :=
 ⟨tV hN0 hj hy O hc hi.h (fun C s0 H0 ex=>(hg C s0 H0 ex).h) gk (fun C s0 H0 ex=>(ht C s0 H0 ex).h) (fun C s0 H0 ex=>(he C s0 H0 ex).h) hsw hs hf⟩
theorem rV(he:QE X e te)(hg:QG X tg g)(hs:swapsWithSole [tg] e pos.line X.env=pure false:=by rfl)(hw:swappedStores [tg] e X.env=pure none:=by rfl)(h1:(assignEach [tg] X.env).map (·.2)=[assign tg X.env]:=by rfl):QS X (.Assign [tg] e pos) (jF te g):=⟨vH he.h hg.h hs hw h1⟩
theorem nX{body:List Stmt}(hp:PassesOwn (model X.prog X.w) X.A X.env X.xe)(hc:X.calm=true)(hi:QI X tg iter wi)(hg:QG X tg g)(hb:QB X body t)(hs:∀x,foldedSetIterable iter X.env x=pure x:=by intro _;rfl):QS X (.For tg iter body [] pos) (wj wi g t):=⟨vJ hp hc hi.h hg.h hb.h hs⟩
theorem jB{body:List Stmt}(hp:PassesOwn (model X.prog X.w) X.A X.env X.xe)(hc:QT X c tc)(hb:QB X body t):QS X (.While c body [] pos) (qa tc t):=⟨rg hp hc.h hb.h⟩
end
theorem Fun.okQ{P:Program}{w:World}{K:PySem.W.Frag}{mg:Str->Option Value}{base:Heap}{x qual:Str}{st:Stmt}{f:Addr}{fd:FuncData}{N ps:List Str}{k:Nat}{sp:Sp}(F:Fun K x qual st f fd)(S:FnScope N ps (ah st))(len:∀ vs H Q E,sp vs H Q E->vs.length=ps.length)(hbody:∀ (cdv:Value) (A:Around) (outer:List Env) (s:Shared) (H:Hp) (vs:List V) (Q:VK) (E:XK),Room k (A.deeper (envOfC qual (ah st) s.heap.objs.size f cdv))->sp vs H Q E ->
   ∃ t,QB (cX CX0 P w K mg base N qual (ah st) f cdv A outer s H E).nox (aY st) t/\t { nx:=fun _ H'=>Q .non H',rt:=Q } (cb N vs) H):FnOk P w K mg base CX0 (k+1) f fd ps sp :=
 F.ok S len fun cdv A outer s H vs Q E hr hsp=>let⟨t,h,q⟩:=hbody cdv A outer s H vs Q E hr hsp;⟨t,h.h,q⟩
section
variable{X:Cx}
theorem bB:QOp X (binaryOp .Add) (rI0 fun i j=>.int (i+j)):=⟨vb⟩
theorem gy:QOp X (binaryOp .Sub) (rI0 fun i j=>.int (i-j)):=⟨vp⟩
theorem nL:QOp X (binaryOp .Mult) (rI CMul fun i j=>.int (i*j)):=⟨vk⟩
theorem bw:QOp X (binaryOp .FloorDiv) (rI ul fun i j=>.int (i / j)):=⟨sZ⟩
theorem aK:QOp X (binaryOp .Mod) (rI (fun _ j=>0<j) fun i j=>.int (i%j)):=⟨vh⟩
theorem kx:QOp X (binaryOp .Pow) (rI um fun i j=>.int (i^j.toNat)):=⟨vo⟩
theorem bg:QOp X (binaryOp .Add) rCat:=⟨vc⟩
theorem aI:QOp X (compareOp .Eq) rEq:=⟨xl⟩
theorem nM:QOp X (compareOp .NotEq) rNe:=⟨xp⟩
theorem fQ:QOp X (compareOp .Lt) (rI0 fun i j=>.bl (decide (i<j))):=⟨xo⟩
theorem nK:QOp X (compareOp .LtE) (rI0 fun i j=>.bl (decide (i<=j))):=⟨xn⟩
theorem lD:QOp X (compareOp .Gt) (rI0 fun i j=>.bl (decide (j<i))):=⟨xm⟩
theorem xk:QOp X (compareOp .Is) (fun x y H Q=>y=.non/\Q (.bl (decide (x=.non))) H):=⟨ve⟩
theorem uY:QOp X (compareOp .IsNot) (fun x y H Q=>y=.non/\Q (.bl (!decide (x=.non))) H):=⟨ti⟩
theorem om:QUn X (unaryOp .USub) (rU fun i=>.int (-i)):=⟨wr⟩
theorem aF:QIx X (rIxL X.K):=⟨sI⟩
theorem bK:QIx X (rIxT X.K):=⟨uP⟩
theorem bv:QSl X (rSlL X.K):=⟨ug⟩
theorem bf:QCall X (.builtin "len") (fun xs H Q=>∃p ys,xs=[.ref p]/\(SqL X.K H p ys\/SqT X.K H p ys)/\Q (.int ys.length) H):=⟨kM⟩
theorem wO(hc:X.calm=true):QCall X (.builtin "all") (fun xs H Q=>∃(p:Addr) (bs:List Bool),xs=[.ref p]/\SqL X.K H p (bs.map V.bl)/\Q (.bl (bs.all id)) H):=⟨qt hc⟩
theorem mY:QCall X (.type "tuple") (fun xs H Q=>∃p ys,xs=[.ref p]/\((SqL X.K H p ys/\∀l,H l=none->Q (.ref l) (upd H l (.tup ys)))\/(SqT X.K H p ys/\Q (.ref p) H))):=⟨ka⟩
theorem mX:QCall X (.type "int") (fun xs H Q=>(∃i,xs=[.int i]/\Q (.int i) H)\/∃k,xs=[.bl k]/\Q (.int (if k then 1 else 0)) H):=⟨oB⟩
end
open PySem PySem.Spec PyProof.Rows
mutual
def Dt(H:Hp):PyData->V->Prop
 |.none,v=>v=.non
 |.bool b,v=>v=.bl b
 |.int i,v=>v=.int i
 |.str x,v=>v=.str x
 |.list ds,v=>∃a xs,v=.ref a/\Rd H a (.lst xs)/\DtAll H ds xs
 |.tuple ds,v=>∃a xs,v=.ref a/\Rd H a (.tup xs)/\DtAll H ds xs
 |.dict _,_=>False
def DtAll(H:Hp):List PyData->List V->Prop
 | [],xs=>xs=[]
 |d::ds,xs=>∃y ys,xs=y::ys/\Dt H d y/\DtAll H ds ys
end
section
variable{P:Program}{w:World}{H:Hp}{h:Heap}
mutual
theorem Dt.reads(ok:HOk P w H h):∀(d:PyData) (x:V) (v:Value),Dt H d x->RelV x v->∃as,Reads h v d as
 |.none,x,v,e,r=>by
  have e':x=.non:=by simpa only[Dt]using e
  subst e';cases r;exact⟨_,.none⟩
 |.bool b,x,v,e,r=>by
  have e':x=.bl b:=by simpa only[Dt]using e
  subst e';cases r;exact⟨_,.bool b⟩
 |.int i,x,v,e,r=>by
  have e':x=.int i:=by simpa only[Dt]using e
  subst e';obtain⟨t,rfl⟩:=r;exact⟨_,.int i t⟩
 |.str z,x,v,e,r=>by
  have e':x=.str z:=by simpa only[Dt]using e
  subst e';obtain⟨t,rfl⟩:=r;exact⟨_,.str z t⟩
 |.list ds,x,v,e,r=>by
  have e':∃a xs,x=.ref a/\Rd H a (.lst xs)/\DtAll H ds xs:=by simpa only[Dt]using e
  obtain⟨a,xs,rfl,hr,hd⟩:=e';cases r;obtain⟨_,its,n,rv,eo⟩:=hr.ok ok;obtain⟨as,q⟩:=DtAll.reads ok ds xs its hd rv;exact⟨_,.list eo rfl rfl (by simpa using q)⟩
 |.tuple ds,x,v,e,r=>by
  have e':∃a xs,x=.ref a/\Rd H a (.tup xs)/\DtAll H ds xs:=by simpa only[Dt]using e
  obtain⟨a,xs,rfl,hr,hd⟩:=e';cases r;obtain⟨_,its,rv,o,eo,hc,n,hs⟩:=hr.ok ok;obtain⟨as,q⟩:=DtAll.reads ok ds xs its hd rv;exact⟨_,.tuple eo hc hs (by simpa using q)⟩
 |.dict kvs,x,v,e,r=>by
  have e':False:=by simpa only[Dt]using e
  exact e'.elim
theorem DtAll.reads(ok:HOk P w H h):∀(ds:List PyData) (xs:List V) (vs:List Value),DtAll H ds xs->Vals xs vs->∃as,ReadsAll h vs ds as
 | [],xs,vs,e,r=>by
  have e':xs=[]:=by simpa only[DtAll]using e
  subst e';cases r;exact⟨_,.nil⟩
 |d::ds,xs,vs,e,r=>by
  have e':∃y ys,xs=y::ys/\Dt H d y/\DtAll H ds ys:=by simpa only[DtAll]using e
  obtain⟨y,ys,rfl,h1,h2⟩:=e';cases r with
  |cons r1 r2 =>obtain⟨as,q1⟩:=Dt.reads ok d y _ h1 r1;obtain⟨bs,q2⟩:=DtAll.reads ok ds ys _ h2 r2;exact⟨_,.cons q1 q2⟩
end
end
section
variable{X:Cx}
inductive rEqD  (x:V)(y:V)(H:Hp)(Q:VK):Prop
 |mk (dx dy:_) (h0:Dt H dx x) (h1:Dt H dy y) (h2:SeqAt.shaped dx=true) (h3:SeqAt.shaped dy=true) (h4:Q (.bl (PyData.eqv dx dy)) H):rEqD  x y H Q
inductive rNeD  (x:V)(y:V)(H:Hp)(Q:VK):Prop
 |mk (dx dy:_) (h0:Dt H dx x) (h1:Dt H dy y) (h2:SeqAt.shaped dx=true) (h3:SeqAt.shaped dy=true) (h4:Q (.bl (!PyData.eqv dx dy)) H):rNeD  x y H Q
theorem vd(hu:X.A.units+64<cLine):OpR X (compareOp .Eq) rEqD:=by intro pins s σ H x y v u Q I rx ry h;obtain⟨dx,dy,h1,h2,s1,s2,q⟩:=h;obtain⟨as,r1⟩:=Dt.reads I.hok dx x v h1 rx;obtain⟨bs,r2⟩:=Dt.reads I.hok dy y u h2 ry;exact eq_dataH r1 r2 s1 s2 hu ⟨.bl _,H,I,rfl,q⟩
theorem vm(hu:X.A.units+64<cLine):OpR X (compareOp .NotEq) rNeD:=by intro pins s σ H x y v u Q I rx ry h;obtain⟨dx,dy,h1,h2,s1,s2,q⟩:=h;obtain⟨as,r1⟩:=Dt.reads I.hok dx x v h1 rx;obtain⟨bs,r2⟩:=Dt.reads I.hok dy y u h2 ry;exact ne_dataH r1 r2 s1 s2 hu ⟨.bl _,H,I,rfl,q⟩
theorem nI(hu:X.A.units+64<cLine):QOp X (compareOp .Eq) rEqD:=⟨vd hu⟩
theorem eg(hu:X.A.units+64<cLine):QOp X (compareOp .NotEq) rNeD:=⟨vm hu⟩
end
section
variable{X:Cx}
variable{o e:Expr}{to te:TE}{apos cpos:Pos}
theorem nU(ho:QE X o to)(he:QE X e te)(hs:aT e=true:=by rfl)(hbase:attributeBase o "append" X.env (eval o X.env)=eval o X.env:=by rfl)(hline:(apos.endLine==cpos.line)=true:=by rfl) :
  QE X (.Call (.Attribute o "append" apos) [e] [] cpos) (tBM X.K "list" rAppend to (cT te dj)):=by
 have h1:=aO (es:=[]) (env:=X.env) hs;have h2:starEach ([]:List Expr) X.env=[]:=rfl;refine⟨kz PySem.F.plainAttrs_list PySem.F.slot_list_append PySem.F.type_list_append pj ho.h (pa he.h fU hs) hbase ?_ hline h1 (by rw[h2];rfl)⟩;rw[h1,h2];rfl
end
open PySem PySem.Spec PyProof.Rows
theorem eI{i j:Int}{A B:Prop}(h1:i=j->A)(h2:i≠j->B):if decide (V.int i=V.int j)=true then A else B:=by
 by_cases h:i=j
 ·rw[yn (decide_eq_true (by rw[h]))];exact h1 h
 ·rw[ym (by rw[decide_eq_false (fun z=>h (by injection z))];exact zn)];exact h2 h
def bJ(ns:List Int)(k:Nat):Int:=(ns[k]?).getD 0
theorem qq{ns:List Int}{k:Int}(h0:0<=k)(h1:k<ns.length):atI (ns.map V.int) k=some (.int (bJ ns k.toNat)):=by
 have hk:k.toNat<ns.length:=by omega
 have ek:k=((k.toNat:Nat):Int):=by omega
 have q:atI (ns.map V.int) ((k.toNat:Nat):Int)=some (.int ns[k.toNat]):=dC (by rw[zL,zx hk]<;>rfl);rw[<-ek]at q;rw[q];unfold bJ;rw[zx hk];rfl
theorem qu{ns:List Int}{k:Int}(h0:0<=k)(h1:¬k<ns.length):bJ ns k.toNat=0:=by unfold bJ;rw[List.getElem?_eq_none (by omega)];rfl
open PySem PySem.Spec PyProof.Rows
structure ZAp(z u v i j:Addr)(f g:List Addr):Prop where
 uz:u≠z
 vz:v≠z
 uv:u≠v
 ui:u≠i
 uj:u≠j
 vi:v≠i
 vj:v≠j
 iz:i≠z
 jz:j≠z
 ij:i≠j
 zf:z∉f
 zg:z∉g
 vf:v∉f
 vg:v∉g
 jf:j∉f
 ig:i∉g
open PySem PySem.Spec PyProof.Rows
theorem qv{J:It}{N n:Nat}{cap:List Nat}{g:TG}{tc:TT}{te:TE}{σ:St}{H0:Hp}{Q:VK}(keep:Nat->Bool)(f:Nat->V)(hz:N<=1000)(hgo:∀ i H,i<N->Same H0 H->J.go i H)(hst:∀ H,Same H0 H->J.stop N H)(ht:∀ i H x H',i<N->Same H0 H->J.yld i H x H'->∀ (A:VK) (B:Hp->Prop),(keep i=true->∀ H4,Same H H4->A (f i) H4)->(keep i=false->∀ H4,Same H H4->B H4) ->
   g x (be n cap σ) H' fun σ2 H2=>tc σ2 H2 fun b H3=>if b=true then te σ2 H3 A else B H3)(hq:∀ p H,Same H0 H->H p=none->Q (.ref p) (upd H p (.lst (((List.range N).filter keep).map f)))):cG n cap g tc te σ J H0 Q:=by
 refine⟨fun i m ys H=>m=N-i/\i<=N/\Same H0 H/\ys=((List.range i).filter keep).map f,⟨N,by simp,zW _,Same.refl _,rfl⟩,?_⟩;rintro i m ys H ⟨rfl,hi,sm,rfl⟩;by_cases hlt:i<N
 ·refine .inr ⟨hgo i H hlt sm,?_,fun x H' y=>?_⟩
  ·rw[za];have:=List.length_filter_le keep (List.range i);rw[List.length_range]at this;exact gi (by omega)
  ·refine ht i H x H' hlt sm y _ _ (fun k H4 s4=>⟨N-(i+1),by omega,rfl,hlt,sm.trans s4,?_⟩) (fun k H4 s4=>⟨N-(i+1),by omega,rfl,hlt,sm.trans s4,?_⟩)
   ·rw[List.range_succ,List.filter_append,zJ];simp[k]
   ·rw[List.range_succ,List.filter_append,zJ];simp[k]
 ·have e:i=N:=by omega
  subst e;exact .inl ⟨hst H sm,fun p hp=>hq p H sm hp⟩
inductive rCatS  (x:V)(y:V)(H:Hp)(Q:VK):Prop
 |mk (a b xs ys:_) (h0:x=.ref a) (h1:y=.ref b) (h2:H a=some (.tup xs)) (h3:H b=some (.tup ys)) (h4:xs.length+ys.length<=sizeLine) (h5:∀p H',Same H H'->H' p=some (.tup (xs++ys))->Q (.ref p) H'):rCatS  x y H Q
section
variable{X:Cx}
theorem qJ{ns:List Int}{i:Nat}{x:V}(h:(ns.map V.int)[i]?=some x):x=.int (bJ ns i)/\i<ns.length:=by
 rw[zL]at h;unfold bJ;cases e:ns[i]? with
 |none=>rw[e]at h;cases h
 |some z =>rw[e]at h;cases h;exact⟨rfl,(zr.mp e).1⟩
theorem pR{n d:Nat}{h:Int}(h0:0<=h):HT.sIx n d (some h)=min h.toNat n:=by have e:=HT.sIx_nat n d h.toNat;rw[show((h.toNat:Nat):Int)=h by omega]at e;exact e
variable{K:PySem.W.Frag}(hK:X.K=K)
include hK
theorem wJ:QIx X (rIxT K):=by subst hK;exact bK
theorem oV{es:List Expr}{k n:Nat}{gs:TGs}{pos:Pos}(hc:X.calm=true)(h:QGs X es gs)(hn:(assignEach es X.env).length=n:=by rfl)(hst:(assignEach es X.env).findIdx? (·.1)=none:=by rfl):QG X (.Tuple es k pos) (ny K n gs):=by subst hK;exact nz hc h hn hst
omit hK
end
open PySem PySem.Spec PyProof.Rows PySem.W
section
variable{X:Cx}
theorem ub{st:Stmt}:QS X st (fun _ _ _=>False):=⟨fun _ _ _ _ _ _ h=>h.elim⟩
variable{o e d:Expr}{to te td:TE}{apos cpos:Pos}
end
section
variable{X:Cx}{pins:List (Addr×Obj)}{σ:St}{H:Hp}{s:Shared}{h':Heap}
theorem dM{P:Program}{w:World}{H:Hp}{h:Heap}{a:Addr}{o:HO}(x:ObjOk P w H h a o):∃ob,h.get? a=some ob:=by
 cases o with
 |lst xs =>obtain⟨_,_,_,_,e⟩:=x;exact⟨_,e⟩
 |tup xs =>obtain⟨_,_,_,ob,e,_⟩:=x;exact⟨ob,e⟩
 |dK kvs =>obtain⟨_,_,_,_,ob,_,_,e,_⟩:=x;exact⟨ob,e⟩
 |dT kvs =>obtain⟨_,_,_,_,ob,_,_,e,_⟩:=x;exact⟨ob,e⟩
 |set S n =>obtain⟨ob,_,_,_,e,_⟩:=x;exact⟨ob,e⟩
 |ins C dx fs =>obtain⟨_,_,_,e,_⟩:=x;exact⟨_,e⟩
 |own y=>exact x
 |xd fs =>obtain⟨_,⟨ob,_,_,e,_⟩,_⟩:=x;exact⟨ob,e⟩
 |rng lo hi =>obtain⟨_,_,_,e⟩:=x;exact⟨_,e⟩
 |frz ob u=>exact⟨ob,x.1⟩
 |tbl ps=>exact⟨_,x⟩
 |met f y=>exact⟨_,x⟩
 |ext φ=>exact x.2.1
theorem none_of(I:Inv X pins σ H s){a:Addr}(hg:s.heap.get? a=none):H a=none:=by
 cases q:H a with
 |none=>rfl
 |some u =>obtain⟨ob,e⟩:=dM (I.hok a u q);rw[hg]at e;cases e
theorem Inv.laidF{a:Addr}{o:HO}{t':Nat}(I:Inv X pins σ H s)(k:∀b u,b≠X.env.locals->s.heap.get? b=some u->h'.get? b=some u)(hn:∃m,s.heap.Ns X.env.locals m/\h'.Ns X.env.locals m)(hg:s.heap.get? a=none)(new:ObjOk X.prog X.w (upd H a o) h' a o):Inv X pins σ (upd H a o) { s with heap:=h',toks:=t' }:=by
 have fr:=none_of I hg;have ne:∀{b:Addr} {u:HO},H b=some u->b≠a:=fun{b u} e=>ax e fr;have lt:∀{b:Addr} {u:Obj},s.heap.get? b=some u->b≠a:=fun{b u} e z=>by rw[z,hg]at e;cases e
 have neL:∀{b:Addr} {u:HO},H b=some u->b≠X.env.locals:=fun{b u} e=>ax e I.free;refine I.step (g':=s.gens) (d':=s.drawn) (ch:=[]) (fun b hb=>by simp at hb) (fun b o hL _ _ e _=>k b o hL e) (fun b o hL _ _ e _=>⟨o.slots,k b o hL e⟩) (fun b o _ e n=>by rw[ag (lt e)];exact n) (fun b o _ e=>?_)
  (fun b xs e=>by rw[ag (ne e)];exact e) (fun b o u e=>by rw[ag (ne e)];exact e) (fun b ps e=>⟨#[],by rw[ag (ne e),e];simp⟩) (fun m' hm'=>?_) (fun b u e=>?_) I.bare
 ·by_cases hL:b=X.env.locals
  ·obtain⟨m,_,o',_,_,e',_⟩:=hn;exact⟨o',by rw[hL];exact e'⟩
  ·exact⟨o,k b o hL e⟩
 ·obtain⟨m,h1,h2⟩:=hn;rw[hm'.eq_nsMap,<-h1.eq_nsMap];exact h2
 ·by_cases hb:b=a
  ·subst hb;rw[aa]at e;cases e;exact new
  ·rw[ag hb]at e;refine(I.hok b u e).stay (fun c v hc q=>k c v ?_ q) (fun c q=>by rw[ag (ne q)];exact q) fun c ys q=>by rw[ag (ne q)];exact q
   rcases hc with z|z
   ·rw[z];exact neL e
   ·exact neL z
def pQ(base h:Heap)(L:Addr):List (Addr×Obj):=(List.range h.objs.size).filterMap fun b=>if b=L\/(base.get? b).isSome=true then none else(h.get? b).map fun o=>(b,o)
theorem mi(base h:Heap)(L:Addr):News base L h (pQ base h L):=fun p hp=>by
 obtain⟨b,_,e⟩:=List.mem_filterMap.mp hp;by_cases c:b=L\/(base.get? b).isSome=true
 ·rw[yn c]at e;cases e
 ·rw[ym c]at e;cases q:h.get? b with
  |none=>rw[q]at e;cases e
  |some o =>
   rw[q]at e;cases e;refine⟨q,fun z=>c (.inl z),?_⟩;cases z:base.get? b with
   |none=>rfl
   |some u=>exact absurd (.inr (by rw[z];rfl)) c
theorem nV{base h:Heap}{L b:Addr}{o:Obj}(e:h.get? b=some o)(hL:b≠L)(hb:base.get? b=none):(b,o)∈pQ base h L:=by refine List.mem_filterMap.mpr ⟨b,List.mem_range.mpr (zo e),?_⟩;rw[ym (by rintro(z|z);exact hL z;rw[hb]at z;cases z),e];rfl
end
theorem wX{x:V}{A B:Prop}(h:x≠.non)(hA:A):if(!decide (x=.non))=true then A else B:=by rw[decide_eq_false h];exact aX hA
theorem bO{c A B:Prop}[Decidable c](h:c)(hA:A):if decide c=true then A else B:=by rw[decide_eq_true h];exact aX hA
theorem aZ{c A B:Prop}[Decidable c](h1:c->A)(h2:¬c->B):if decide c=true then A else B:=by
 by_cases h:c
 ·exact bO h (h1 h)
 ·rw[decide_eq_false h];exact aq (h2 h)
open PySem PySem.Spec PyProof.Rows
structure CompOk1(X:Cx)(scope:Scope)(cx:Str)(cap:List Nat)(capN:List Str):Prop where
 kind:scope.kind=.function
 names:∀x∈scope.names,x.2=.local->scope.names.lookup x.1=some .local
 onecell:∀y∈scope.names,y.2=.cell->y.1=cx
 own:scope.names.lookup cx=some .cell
 cf:∀(n:Nat) (acc:List (Str×Addr)),cellsFrom n scope.names acc=(cx,n)::acc
 pc:∀h:Heap,pushCells h scope.names=h.push { cls:=.type "cell",data:=.cell none }
 frees:(scope.names.all fun y=>!(y.2==NameKind.free) ||(X.env.kindOf y.1==some .cell ||X.env.kindOf y.1==some .free))=true
 cap:CapOk X scope cap capN
theorem iJ:∀{vs:List Value} {ns:List Int},IntsAre vs ns->∃xs:List (Int×Tok),vs=xs.map (fun p=>.int p.1 p.2)/\ns=xs.map (·.1)
 |_,_,.nil=>⟨[],rfl,rfl⟩
 |_,_,.cons n t h=>by obtain⟨xs,e1,e2⟩:=iJ h;exact⟨(n,t)::xs,by rw[e1];rfl,by rw[e2];rfl⟩
section
variable{X:Cx}
theorem uF{K:PySem.W.Frag}(hK:X.K=K)(hc:X.calm=true):QCall X (.builtin "max") (fun xs H Q=>∃(p:Addr) (ns:List Int),xs=[.ref p]/\SqL K H p (ns.map V.int)/\ns≠[]/\∀M,M∈ns->(∀x∈ns,x<=M)->Q (.int M) H):=by
 subst hK;refine⟨?_⟩;intro pins s σ H xs us Q I r h;obtain⟨p,ns,rfl,hS,hne,q⟩:=h;obtain⟨u,rfl,ru⟩:=bT r;cases ru;obtain⟨its,rv,pl,hz⟩:=I.list hS;obtain⟨ys,e1,e2⟩:=iJ (fj rv);have hl:s.heap.IsList p (intItems ys.toArray):=by have:=pl.isList;rw[e1]at this;simpa[intItems]using this
 have hpos:0<ys.toArray.size:=by rw[zv];refine List.length_pos_iff.mpr fun z=>hne ?_;rw[e2,z];rfl
 refine max_intList (I.ok.hd hc) hl hpos fun v h' tk hv hk=>?_;obtain⟨b1,b2⟩:=argBest_gt (numAt ys.toArray) (ys.toArray.size-1);obtain⟨t,rfl⟩:=intItems_at hv;generalize argBest (fun i j=>decide (numAt ys.toArray i>numAt ys.toArray j)) (ys.toArray.size-1)=k at b1 b2 ⊢;have num:∀j (hj:j<ys.length),numAt ys.toArray j=(ys[j]).1:=fun j hj=>by simp[numAt,hj]
 rw[zv]at b1 b2 hpos;have hk':k<ys.length:=by omega
 refine⟨.int (numAt ys.toArray k),H,I.kept (t':=tk) hk,⟨t,rfl⟩,q _ ?_ fun x hx=>?_⟩
 ·rw[e2,num k hk'];exact Zo.mpr ⟨ys[k],List.getElem_mem hk',rfl⟩
 ·rw[e2]at hx;obtain⟨y,hy,rfl⟩:=Zo.mp hx;obtain⟨j,hj,rfl⟩:=List.getElem_of_mem hy;have:=b2 j (by omega);rw[num j hj]at this;exact this
end
open PySem PySem.Spec PyProof.Rows PySem.W
def bM(h:Heap)(e:Addr)(dc:Option Addr):Prop:=∃o,h.get? e=some o/\o.dict=dc
theorem jn(f:Array Value->Array Value)(o:Obj):(Obj.mapFields f o).dict=o.dict:=by unfold Obj.mapFields;split<;>rfl
section
variable{M:Model}{A:Around}{E:Value->Shared->Prop}{s:Shared}{base:Heap}{env:Env}{outer l:List Env}{L e:Addr}
theorem gY{oe:Obj}{vs:Array Value}{hd0 a0:Value}{nx:Bool}{Q:Unit->Shared->Prop}(fr:A.frames=some (env::outer))(ff:s.heap.FunFrames base (env::outer))(ef:env.frame=some L)(he:s.heap.get? e=some oe)(kb:base.StaysIn s.heap)(en:base.get? e=none)(dt:oe.data=.fields vs)(sz:1<vs.size)(v0:vs[0]?=some a0)(k:∀h',Heap.NotedW base (env::outer) e oe.cls a0 (rawInt L) s.heap h'->bM h' e oe.dict->Q () { s with heap:=h' }) :
  wpAny M A (do let a ←frameOf env;let pl ←entryPlaceOf L nx;let b ←EntryCells.newEntry hd0 a .none (rawInt L) .none pl;setField (.ref e) 1 b) Q E s:=by
 have nf:e∉(env::outer).filterMap (·.frame):=fun hm=>by obtain⟨_,o,ho,hn⟩:=ff.mem hm;cases zt (he.symm.trans ho);exact hn vs dt
 refine zc (wpAny_frameOf_fun fr ff ef fun h1 k1=>zc (wpAny_entryPlaceOf fun pl hpl=>?_));unfold EntryCells.newEntry newFields;refine zc (wpAny_newObj_type ?_ (hpl.sizeOk5 _ _ _ _ _));have t3:([hd0,.ref L,.none,rawInt L,.none]++(if pl.isEmpty then List.replicate 6 Value.none else pl)).toArray[3]?=some (rawInt L):=by simp
 generalize([hd0,.ref L,.none,rawInt L,.none]++(if pl.isEmpty then List.replicate 6 Value.none else pl)).toArray=ts at t3 ⊢;have g1:h1.get? e=some oe:=(k1.2.1 e nf).trans he;have st1:base.StaysIn h1:=fun b o hb=>(k1.2.1 b fun hm=>nomatch(hb.symm.trans (ff.mem hm).1)).trans (kb b o hb);have gp:(h1.push { cls:=.type "traceback",data:=.fields ts }).get? e=some oe:=zj _ g1;have ne:h1.objs.size≠e:=Nat.ne_of_gt (zo g1);have dm:=Obj.data_mapFields dt (·.setIfInBounds 1 (Value.ref h1.objs.size));have self:=Heap.get?_update_self (Obj.mapFields (·.setIfInBounds 1 (Value.ref h1.objs.size))) gp (Obj.isFreed_of_fields dm);have atT:=(z7 (h1.push { cls:=.type "traceback",data:=.fields ts }) (Obj.mapFields (·.setIfInBounds 1 (Value.ref h1.objs.size))) (z5 ne)).trans (zI h1 rfl);have oth:∀b o,b≠e->h1.get? b=some o->((h1.push { cls:=.type "traceback",data:=.fields ts }).update e (Obj.mapFields (·.setIfInBounds 1 (Value.ref h1.objs.size)))).get? b=some o:=fun b o n q=>(z7 _ _ (z5 n)).trans (zj _ q);have nrec:∀b o,s.heap.get? b=some o->(∀ws,o.data≠.fields ws)->b≠e:=fun b o q hn z=>by subst z;cases zt (he.symm.trans q);exact hn vs dt
 refine wpAny_setField gp dt sz (k _ ⟨fun b o q=>oth b o (fun z=>nomatch((z▸q).symm.trans en)) (st1 b o q),ff.of_keeps fun b o q hn=>?_,?_,fun b o q hn=>?_⟩ ⟨_,self,jn _ _⟩)
 ·obtain⟨sl,hs⟩:=k1.2.2 b o q;exact⟨_,oth b _ (nrec b o q hn) hs,rfl⟩
 ·exact⟨_,_,h1.objs.size,_,ts,self,⟨Obj.cls_mapFields _ _,by rw[Array.getElem?_setIfInBounds_ne (by decide)];exact v0⟩,dm,by simp[sz],st1.fresh,ne,atT,rfl,t3⟩
 ·obtain⟨sl,hs⟩:=k1.2.2 b o q;exact⟨sl,oth b _ (nrec b o q hn) hs⟩
theorem fe{cls a0 fl:Value}{dc:Option Addr}{Q:Unit->Shared->Prop}(kb:base.StaysIn s.heap)(ff:s.heap.FunFrames base l)(tr:s.heap.TracedAtW base e cls a0 fl)(dd:bM s.heap e dc)(k:∀h',base.StaysIn h'->h'.FunFrames base l->h'.TracedW base e cls a0->s.heap.UpToSlots h'->bM h' e dc->Q () { s with heap:=h' }):wpAny M A (setFlight (.ref e) none) Q E s:=by
 obtain⟨oe,vs,T,oT,ts,he,hc,dt,v1,nT,ne,hT,dT,t3⟩:=tr;have z3:3<ts.size:=(Array.getElem?_eq_some_iff.mp t3).1;have oth:∀b,b≠T->(s.heap.update T (Obj.mapFields (·.setIfInBounds 3 ((none:Option Addr).elim Value.none fun f=>rawInt f)))).get? b=s.heap.get? b:=fun b n=>z7 _ _ (z5 n);have nrec:∀b o,s.heap.get? b=some o->(∀ws,o.data≠.fields ws)->b≠T:=fun b o q hn z=>by subst z;cases zt (hT.symm.trans q);exact hn ts dT
 unfold setFlight;refine zc (wpAny_field he dt v1 ?_);rw[yn (by simp:(Value.ref T != Value.none)=true)];refine wpAny_setField hT dT z3 (k _ (fun b o q=>(oth b fun z=>nomatch((z▸q).symm.trans nT)).trans (kb b o q)) (ff.of_keeps fun b o q hn=>⟨o,(oth b (nrec b o q hn)).trans q,rfl⟩) ?_ (fun b o q hn=>⟨o.slots,(oth b (nrec b o q hn)).trans q⟩) ?_)
 ·exact⟨oe,vs,T,_,_,(oth e (z5 ne)).trans he,hc,dt,v1,nT,ne,Heap.get?_update_self _ hT (Obj.isFreed_of_fields (Obj.data_mapFields dT _)),Obj.data_mapFields dT _,by simp[z3]⟩
 ·obtain⟨o,q,d⟩:=dd;exact⟨o,(oth e (z5 ne)).trans q,d⟩
theorem iO{cls a0:Value}{dc:Option Addr}{Q:Unit->Shared->Prop}(fr:A.frames=some (env::outer))(ef:env.frame=some L)(fl:Heap.FlyingW base (env::outer) e cls a0 s.heap)(dd:bM s.heap e dc)(k:∀h',Heap.HeldW base (env::outer) e cls a0 L h'->s.heap.UpToSlots h'->bM h' e dc->Q () { s with heap:=h' }):wpAny M A (noteFrame (.ref e) env) Q E s:=by
 obtain⟨f1,f2,f3,oe,vs,T,oT,ts,he,hc,dt,v1,nT,ne,hT,dT,t3⟩:=fl;obtain⟨o2,q2,d2⟩:=dd;cases zt (he.symm.trans q2);have z3:3<ts.size:=(Array.getElem?_eq_some_iff.mp t3).1;unfold noteFrame;simp only[ef];refine zc (wpAny_field he dt v1 ?_);rw[yn (by simp:(Value.ref T != Value.none)=true)];refine zc (wpAny_field hT dT t3 ?_);rw[ym (by simp[rawInt]:¬(Value.none==rawInt L)=true)];refine zc (wpAny_setField hT dT z3 ?_);have oth:∀b,b≠T->(s.heap.update T (Obj.mapFields (·.setIfInBounds 3 Value.none))).get? b=s.heap.get? b:=fun b n=>z7 _ _ (z5 n);have nrec:∀b o,s.heap.get? b=some o->(∀ws,o.data≠.fields ws)->b≠T:=fun b o q hn z=>by subst z;cases zt (hT.symm.trans q);exact hn ts dT
 have sz:1<vs.size:=(Array.getElem?_eq_some_iff.mp v1).1;refine gY (s:={ s with heap:=s.heap.update T (Obj.mapFields (·.setIfInBounds 3 Value.none)) }) fr (f3.of_keeps fun b o q hn=>⟨o,(oth b (nrec b o q hn)).trans q,rfl⟩) ef ((oth e (z5 ne)).trans he) (fun b o q=>(oth b fun z=>nomatch((z▸q).symm.trans nT)).trans (f1 b o q)) f2 dt sz hc.2 fun h' nt dd=>?_;obtain⟨n1,n2,n3,n4⟩:=nt;rw[hc.1]at n3;rw[d2]at dd;exact k h' ⟨n1,f2,n2,n3⟩ (fun b o q hn=>n4 b o ((oth b (nrec b o q hn)).trans q) hn) dd
end
open PySem PySem.Spec PyProof.Rows PySem.W
def Its(x:Str):It:=⟨fun i _=>i<x.cps.size,fun i H v H'=>H'=H/\∃c,x.cps[i]?=some c/\v=.str ⟨#[c]⟩,fun i _=>x.cps.size<=i⟩
theorem rJ{P:Program}{w:World}{K:PySem.W.Frag}{tg:Expr}(it:Addr)(x:Str)(t:Tok):Turn P w K tg (Its x) [it] it (fun i h=>h.IsStrIter it "str_ascii_iterator" x t i) where
 mem:=zk.mpr rfl
 obj:=fun i h st b hb=>by cases zk.mp hb;obtain⟨o,e,c,d⟩:=st;exact⟨o,e,fun v z=>nomatch d.symm.trans z⟩
 keep:=fun i h h' st k=>by obtain⟨o,ho,r⟩:=st;exact⟨o,k it (zk.mpr rfl) o ho,r⟩
 item:=by intro X eP ew eK hc i pins s σ H E I hf st hg;cases eP;cases ew;cases eK;have hi:i<x.cps.size:=hg;have fo:=hf it (zk.mpr rfl);refine(Walks.strAscii (prog:=X.prog) (w:=X.w) (I.ok.hd hc) it x t).item i s _ _ hi st fun v h' tk hv st' kk=>?_;obtain⟨c,u,hc',rfl⟩:=hv;have I1:Inv X pins σ H { s with heap:=h',toks:=tk }:=I.turned (fun b o hb e=>kk b o (fun z=>hb (zk.mp z)) e) fo.1 fo.2.1 fo.2.2.2.1 fo.2.2.2.2.1 fo.2.2.2.2.2;obtain⟨o,e,c1,d1⟩:=id st';exact⟨_,rfl,kr (s:={ s with heap:=h',toks:=tk }) e c1 d1 (by decide) ⟨.str ⟨#[c]⟩,H,I1,⟨u,rfl⟩,⟨rfl,c,hc',rfl⟩,st',fun b hb=>(hf b hb).1⟩⟩
 done:=by intro X eP ew eK hc i pins s σ H E I hf st hg;cases eP;cases ew;cases eK;have hi:x.cps.size<=i:=hg;have fo:=hf it (zk.mpr rfl);exact wpAny_pyNext_ascii_end (I.ok.hd hc) st (by simp;omega) fun h' eb=>⟨rfl,I.turned (t':=s.toks) (fun b o hb e=>eb b o hb e) fo.1 fo.2.1 fo.2.2.2.1 fo.2.2.2.2.1 fo.2.2.2.2.2⟩
 self:=fun _ _ _ _ _ st h=>wpAny_pyIter_striter_ascii st h
def xL(tl:TE):TI:=fun σ H R=>tl σ H fun v H1=>∃x,v=.str x/\x.cps.all (·<128)=true/\R (Its x) H1
section
variable{X:Cx}{tg l:Expr}{tl:TE}
theorem wT(hl:QE X l tl):QI X tg l (xL tl):=by refine⟨?_⟩;intro pins s σ H R I h;refine thn (hl.h pins s σ H _ I h) fun v s1 hz9=>?_;obtain⟨y,H1,I1,r1,q1⟩:=hz9;obtain⟨x,rfl,ha,q⟩:=q1;obtain⟨t,rfl⟩:=r1;refine wpAny_pyIter_ascii ha ⟨s1.heap.objs.size,[s1.heap.objs.size],_,_,H1,rfl,I1.kept (t':=s1.toks) (fun b o e=>zj _ e),rJ _ x t,⟨_,zI _ rfl,rfl,rfl⟩,fun b hb=>?_,q⟩;cases zk.mp hb;exact I1.fpOk (zd _) (I1.hok.fresh (zd _))
end
theorem qw{x:Str}{n:Nat}{cap:List Nat}{te:TE}{σ:St}{H0:Hp}{Q:VK}(f:Nat->V)(hz:x.cps.size<=1000)(he:∀i c H,x.cps[i]?=some c->Same H0 H->∀R:VK,(∀H',Same H H'->R (f i) H')->te ((be n cap σ).set 0 (some (.str ⟨#[c]⟩))) H R)(hq:∀p H,Same H0 H->H p=none->Q (.ref p) (upd H p (.lst ((List.range x.cps.size).map f)))):cG n cap (bD 0) eB te σ (Its x) H0 Q:=by
 refine fH (N:=x.cps.size) (fun i=>.str ⟨#[x.cps.getD i 0]⟩) f hz (fun i H hi sm=>hi) (fun H sm=>zd _) (fun i H v H' hi sm y=>?_) (fun i H hi sm R k=>?_) hq
 ·obtain⟨y1,c,hc,rfl⟩:=y;refine⟨y1,?_⟩;simp[z9,hc]
 ·have e:x.cps[i]?=some x.cps[i]:=by simp[hi]
  have:=he i _ H e sm R k;simpa[z9,e]using this
section
variable{X:Cx}
theorem uE:QCall X (.builtin "len") (fun xs H Q=>∃x:Str,xs=[.str x]/\x.length<=1000/\Q (.int (x.length:Int)) H):=by refine⟨?_⟩;intro pins s σ H xs us Q I r h;obtain⟨x,rfl,hz,q⟩:=h;obtain⟨u,rfl,rx⟩:=bT r;obtain⟨t,rfl⟩:=rx;exact PyProof.Rows.len_str (by omega) ⟨.int x.length,H,I.tok _,⟨_,rfl⟩,q⟩
end
theorem xM{v u:V}{A B:Prop}(h:v≠u)(hB:B):if decide (v=u)=true then A else B:=by rw[decide_eq_false h];exact aq hB
theorem hW:bootBuiltins "str" = some (.type "str"):=by decide +kernel
inductive TV where
 |flat (v:V)
 |tup (xs:List V)
def kF:V->Value->Bool
 |.non,.none=>true
 |.bl b,.bool c=>b==c
 |.int i,.int j _=>i==j
 |.str x,.str y _=>x==y
 |_,_=>false
theorem jU:∀{v:V} {u:Value},kF v u=true->RelV v u:=by
 intro v u h;unfold kF at h;split at h
 ·exact rfl
 ·obtain rfl:=zH.mp h;exact rfl
 ·obtain rfl:=zH.mp h;exact⟨_,rfl⟩
 ·obtain rfl:=zH.mp h;exact⟨_,rfl⟩
 ·cases h
def lV:List V->List Value->Bool
 | [],[]=>true
 |v::vs,u::us=>kF v u&&lV vs us
 |_,_=>false
theorem hU:∀{vs:List V} {us:List Value},lV vs us=true->Vals vs us
 | [],[],_=>.nil
 |_::_,_::_,h=>by have h:=(zw _ _).mp h;exact .cons (jU h.1) (hU h.2)
 | [],_::_,h=>nomatch h
 |_::_,[],h=>nomatch h
def iZ(K:PySem.W.Frag):TV->Value->Bool
 |.flat v,u=>kF v u
 | .tup xs,.ref a=>(match K.lookup a with
  |some o=>o.cls == .type "tuple"&&(match o.data with|.seq its _=>decide (its.size<=1000)&&lV xs its.toList|_=>false)
  | none=>false)
 |_,_=>false
def ux(K:PySem.W.Frag):TV->Value->Prop
 |.flat v,u=>RelV v u
 |.tup xs,u=>∃a,u=.ref a/\∀H,SqT K H a xs
theorem xB{K:PySem.W.Frag}(d:TV)(u:Value)(h:iZ K d u=true):ux K d u:=by
 unfold iZ at h;split at h
 ·exact jU h
 ·rename_i xs a;split at h
  ·rename_i o ho;obtain⟨e1,e2⟩:=(zw _ _).mp h;split at e2
   ·rename_i its n hd;obtain⟨e3,e4⟩:=(zw _ _).mp e2;exact⟨a,rfl,fun H=>.inr ⟨o,its,n,ho,zH.mp e1,hd,aV (of_decide_eq_true e3),hU e4⟩⟩
   ·cases e2
  ·cases h
 ·cases h
structure Tab(K:PySem.W.Frag)(a:Addr)(D:List (Str×TV)):Prop where
 look:KTD.tabLook (iZ K) (fun b=>K.lookup b) a D=true
theorem Tab.at{K:PySem.W.Frag}{a:Addr}{D:List (Str×TV)}(T:Tab K a D){h:Heap}(X:K.In h):KTD.TabOf (ux K) h a D:=KTD.tab_of_look xB (fun b o e=>X b o e) T.look
section
variable{prog:Program}{w:World}{A:Around}{E:Value->Shared->Prop}{s:Shared}{d:Addr}{o:Obj}{es:Array DictEntry}{ep:Nat}{x:Str}{tx:Tok}
theorem mQ{Q:Option Value->Shared->Prop}(ho:s.heap.get? d=some o)(hd:o.data=.dict es ep)(hall:(es.all fun e=>isExactStrKey e.key)=true)(h:Q ((es.toList.find? fun e=>e.key.isStr x).map (·.val)) { s with toks:=s.toks+1 }) :
  wpAny (model prog w) A (dictGet d (.str x tx)) Q E s:=by
 unfold dictGet;(try with_reducible (refine wpAny_holding ?_))
 refine zc (wpAny_pyHash_str (zc (KTD.kt_dictFind_strs (s:={ s with toks:=s.toks+1 }) ho hd hall ?_)));have hq:Q (findBy (fun y v=>v.isStr y) es x) { s with toks:=s.toks+1 }:=by
  have hf:findBy (fun y v=>v.isStr y) es x=(es.toList.find? fun e=>e.key.isStr x).map (·.val):=by obtain⟨l⟩:=es;simp[findBy]
  rw[hf];exact h
 rw[findBy_of_findIdx?]at hq;cases hi:es.findIdx? fun e=>e.key.isStr x<;>rw[hi]at hq
 ·exact zu hq
 ·exact zc (wpAny_dictEntries (s:={ s with toks:=s.toks+1 }) ho hd (zu hq))
theorem wo{Q:Value->Shared->Prop}(sy:(d==sysModules)=false)(ex:o.ExactDict)(ho:s.heap.get? d=some o)(hd:o.data=.dict es ep)(hall:(es.all fun e=>isExactStrKey e.key)=true)(h:Q (.bool ((es.toList.find? fun e=>e.key.isStr x).map (·.val)).isSome) { s with toks:=s.toks+1 }):wpAny (model prog w) A (compareOp .In (.str x tx) (.ref d)) Q E s:=by
 have T:s.TypeIs (.ref d) "dict":=⟨o,ho,ex.1⟩
 show wpAny _ _ (do return .bool (←contains (.ref d) (.str x tx))) Q E s;refine zc ?_;unfold contains;(try with_reducible (refine wpAny_holding ?_))
 refine zc (wpAny_specialOf T slot_dict_contains.lookup ?_);show wpAny _ _ (if(some (Value.builtin "dict.__contains__")==some Value.none)=true then _ else _) _ _ _;rw[ym (by rw[beq_builtin_none];decide)];refine zc (wpAny_callSpecialUnlessNone?_slot (name:=Str.ofString "__contains__") T slot_dict_contains (wpAny_call_entry slot_dict_contains T entry_dict_contains ?_ (args_dict_contains _ _)));show wpAny _ _ (dictGet d (.str x tx) >>= _) _ _ _;refine zc (mQ ho hd hall ?_);cases hv:(es.toList.find? fun e=>e.key.isStr x).map (·.val)with
 |some v =>rw[hv]at h;show wpAny _ _ (ret (.bool true)) _ _ _;exact zu ⟨_,rfl,zZ (zu h)⟩
 |none =>rw[hv]at h;show wpAny _ _ (Builtin.Dict.pendingKey? d (.str x tx) >>= _) _ _ _;exact zc (wpAny_pendingKey_other sy (zu ⟨_,rfl,zZ (zu h)⟩))
theorem rH{Q:Value->Shared->Prop}{v:Value}(ex:o.ExactDict)(ho:s.heap.get? d=some o)(hd:o.data=.dict es ep)(hall:(es.all fun e=>isExactStrKey e.key)=true)(hv:(es.toList.find? fun e=>e.key.isStr x).map (·.val)=some v)(h:Q v { s with toks:=s.toks+1 }):wpAny (model prog w) A (getItem (.ref d) (.str x tx)) Q E s:=by
 have T:s.TypeIs (.ref d) "dict":=⟨o,ho,ex.1⟩
 unfold getItem;(try with_reducible (refine wpAny_holding ?_))
 refine zc (wpAny_sequenceKey T (by decide) (zc (wpAny_callSpecial?_slot (name:=Str.ofString "__getitem__") T slot_dict_getitem (wpAny_call_entry slot_dict_getitem T entry_dict_getitem ?_ (args_dict_getitem _ _)))));show wpAny _ _ (dictGet d (.str x tx) >>= _) _ _ _;refine zc (mQ ho hd hall ?_);rw[hv];exact zu ⟨v,rfl,zu h⟩
end
section
variable{X:Cx}
def vU(K:PySem.W.Frag):R2:=fun x y H Q=>∃a k D,x=.str k/\y=.ref a/\Tab K a D/\Q (.bl (KTD.datumAt k D).isSome) H
theorem sR:QOp X (compareOp .In) (vU X.K):=by
 refine⟨?_⟩;intro pins s σ H x y v u Q I rx ry h;obtain⟨a,k,D,rfl,rfl,T,q⟩:=h;obtain⟨t,rfl⟩:=rx;cases ry;obtain⟨sy,o,es,ep,ho,ex,hd,hr⟩:=T.at I.kIn;refine wo sy ex ho hd (by obtain⟨l⟩:=es;simpa using hr.exact) ⟨.bl (KTD.datumAt k D).isSome,H,I.tok _,?_,q⟩;cases e:KTD.datumAt k D with
 |none=>rw[hr.find_none e];rfl
 |some d=>obtain⟨v,hv,_⟩:=hr.find_some e;rw[hv];rfl
def vV(K:PySem.W.Frag):R2:=fun x y H Q=>∃a k D d,x=.ref a/\y=.str k/\Tab K a D/\KTD.datumAt k D=some d/\(match d with|.flat v=>Q v H|.tup xs=>∀t,(∀H',SqT K H' t xs)->Q (.ref t) H)
theorem xF:QIx X (vV X.K):=by
 refine⟨?_⟩;intro value slice pins s σ H x y v u Q I rx ry h hs;obtain⟨a,k,D,d,rfl,rfl,T,hk,q⟩:=h;obtain⟨t,rfl⟩:=ry;cases rx;obtain⟨sy,o,es,ep,ho,ex,hd,hr⟩:=T.at I.kIn;obtain⟨v,hv,ok⟩:=hr.find_some hk;have fin:EP X pins σ Q v { s with toks:=s.toks+1 }:=by
  cases d with
  |flat z=>exact⟨z,H,I.tok _,ok,q⟩
  |tup xs =>obtain⟨t,rfl,e⟩:=ok;exact⟨.ref t,H,I.tok _,rfl,q t e⟩
 exact subscriptTail_builtinR (x:=v) (⟨o,ho,ex.1⟩:s.TypeIs (.ref a) "dict") slot_dict_getitem.lookup (rH (Q:=fun r s'=>r=v/\EP X pins σ Q r s') ex ho hd (by obtain⟨l⟩:=es;simpa using hr.exact) hv ⟨rfl,fin⟩) hs
theorem cK{x:Str}{a:Addr}{pos:Pos}(hm:X.mg x=some (.ref a))(hg:Gl X x:=by rfl)(hd:(x==("__debug__":Str))=false:=by decide):QE X (.Name x pos) (tC (.ref a)):=⟨jv hg hm rfl hd⟩
end
open PySem PySem.Spec PyProof.Rows PySem.W
def CXr(P:Program)(w:World):CXT:=fun outer H s E e s' =>
 ∃(ea t:Addr) (C:Value) (vs:List Value) (B:Heap) (H':Hp) (dc:Option Addr),e=.ref ea/\s'.os=s.os/\AllBare s'.gens/\Un (frs outer) [] H H' s.heap s'.heap/\HOk P w H' s'.heap /\
  Heap.FlyingW B outer ea C (.ref t) s'.heap/\s'.heap.TupAt t vs/\B.get? t=none/\(∀b o,b∉frs outer->((∃u,H' b=some u)\/∃o0,s.heap.get? b=some o0)->s'.heap.get? b=some o->B.get? b=some o)/\bM s'.heap ea dc/\E C dc H'
structure ExCls(K:PySem.W.Frag)(C:Addr):Prop where
 cls:∀h,K.In h->∃nm q N bs bm hdct sn sub ab col dd k0 k1 k2 k3 k5 mN,h.get? C=some (excClassObj nm q C N bs bm hdct sn sub ab col dd k0 k1 k2 k3 k5 "ValueError.__new__")/\h.Ns N mN/\mN "__init__" = none/\bm.contains (.type "BaseException")=true /\
  OwnTail h [.type "ValueError",.type "Exception",.type "BaseException",.type "object"] bm
open PySem PySem.Spec PyProof.Rows PySem.W
theorem Fun.okX{P:Program}{w:World}{K:PySem.W.Frag}{mg:Str->Option Value}{base:Heap}{x qual:Str}{st:Stmt}{f:Addr}{fd:FuncData}{N ps:List Str}{k:Nat}{sp:Sp}(F:Fun K x qual st f fd)(S:FnScope N ps (ah st))(len:∀ vs H Q E,sp vs H Q E->vs.length=ps.length)(hb:∀ (cdv:Value) (A:Around) (outer:List Env) (s:Shared) (H:Hp) (vs:List V) (Q:VK) (E:XK),Room k (A.deeper (envOfC qual (ah st) s.heap.objs.size f cdv))->sp vs H Q E ->
   ∃ t,QB (cX (CXr P w) P w K mg base N qual (ah st) f cdv A outer s H E) (aY st) t/\t { nx:=fun _ H'=>Q .non H',rt:=Q } (cb N vs) H):FnOk P w K mg base (CXr P w) (k+1) f fd ps sp:=by
 obtain⟨oc,od,kV,doc,pm,an,cdv,ct,osl,rfl,lk,hcd⟩:=F.ex;exact rM lk hcd S len fun A outer s H vs Q E hr hsp=>let⟨t,h,q⟩:=hb cdv A outer s H vs Q E hr hsp;⟨t,h.h,q⟩
structure FnX(P:Program)(w:World)(K:PySem.W.Frag)(mg:Str->Option Value)(base:Heap)(k:Nat)(x:Str)(ps:List Str)(sp:Sp):Prop where
 ex:∃f fd,FnOk P w K mg base (CXr P w) k f fd ps sp/\mg x=some (.ref f)/\PySem.W.keepIn K (.ref f)=true/\Binds K fd ps []
def XP(X:Cx)(pins:List (Addr×Obj))(σ:St)(E:XK)(e:Value)(s':Shared):Prop:=∃s0 H0,Inv X pins σ H0 s0/\CXr X.prog X.w X.stack H0 s0 E e s'
abbrev TX:=St->Hp->VK->XK->Prop
structure QX(X:Cx)(e:Expr)(t:TX):Prop where
 h:∀(pins:List (Addr×Obj)) (s:Shared) (σ:St) (H:Hp) (Q:VK) (E:XK),Inv X pins σ H s->t σ H Q E->wpAny (model X.prog X.w) X.A (eval e X.env) (EP X pins σ Q) (XP X pins σ E) s
def wg(sp:Sp)(t:TA):TX:=fun σ H Q E=>t σ H fun vs H1=>sp vs H1 Q E
section
variable{X:Cx}{k:Nat}{x:Str}{p pos:Pos}{e:Expr}{es:List Expr}{ps:List Str}{sp:Sp}{t:TA}
theorem wL(F:FnX X.prog X.w X.K X.mg X.base k x ps sp)(hr:Room k X.A)(ha:QA X.nox (e::es) t)(hg:Gl X x:=by rfl)(hdb:(x==("__debug__":Str))=false:=by decide)(he:starEach (e::es) X.env=(false,eval e X.env)::starEach es X.env:=by rfl)(hpl:(backTo pos (starEach es X.env)).any (·.1)=false:=by rfl) :
  QX X (.Call (.Name x p) (e::es) [] pos) (wg sp t):=by
 refine⟨?_⟩;intro pins s σ H Q E I h;obtain⟨f,fd,G,m,kp,b⟩:=F.ex;refine wpAny_Call_Name_kw (dF I hg m ?_ hdb);refine PySem.W.callWith_K (h₀:=X.base) I.ok.mod.kin kp (zY (ha.h pos pins s σ H _ (I.wish _) h) (fun us s1 ⟨vs,H1,I1,r,q⟩=>⟨I1.kIn,?_⟩) (fun _ _ z=>False.elim z)) he hpl;have I2:=I1.unwish;have hb:=b s1 us I2.kIn (by rw[zT,<-r.length];exact G.len _ _ _ _ q);rw[zT]at hb;refine wpAny_call (codeAny_mono (G.run X.A X.stack s1 H1 ⟨us,[]⟩ us vs Q E hr I2.env0 hb r q) fun r s' hq=>?_);cases r with
 |error e=>exact⟨s1,H1,I2,hq⟩
 |ok fl =>
  cases fl with
  |ret u=>exact I2.after hq
  |next=>exact False.elim hq
  |brk=>exact False.elim hq
  |cont=>exact False.elim hq
end
abbrev TSX:=Ends->St->Hp->XK->Prop
structure QSX(X:Cx)(st:Stmt)(t:TSX):Prop where
 h:∀(pins:List (Addr×Obj)) (s:Shared) (σ:St) (H:Hp) (D:Ends) (E:XK),Inv X pins σ H s->t D σ H E->wpAny (model X.prog X.w) X.A (exec st X.env) (SP X pins D) (XP X pins σ E) s
section
variable{X:Cx}{e:Expr}{tx:TX}{pos pos':Pos}{x:Str}
theorem wc{i:Nat}(hN:X.N.Nodup)(he:QX X e tx)(hi:X.N[i]?=some x:=by rfl)(hx:Loc X.env.scope x:=by first|exact Or.inl rfl|exact Or.inr rfl)(hs:swapsWith e (some (.Name x pos')) pos.line X.env=pure false:=by rfl)(hf:X.fn x=true\/X.env.scope.names.lookup x=some .local:=by first|exact .inl rfl|exact .inr rfl):QSX X (.Assign [.Name x pos'] e pos) (fun D σ H E=>tx σ H (fun v H1=>D.nx (σ.set i (some v)) H1) E):=by refine⟨?_⟩;intro pins s σ H D E I h;exact wpAny_Assign_Name (thn (he.h pins s σ H _ E I h) fun v s1 ⟨y,H1,I1,r1,q1⟩=>fB I1 hN hi hx r1 (fun s2 I2=>⟨_,H1,I2,q1⟩) hf) hs
end
structure Fl(X:Cx)(H0 H':Hp)(s0 s':Shared)(B:Heap):Prop where
 os:s'.os=s0.os
 bare:AllBare s'.gens
 un:Un (frs X.stack) [] H0 H' s0.heap s'.heap
 hok:HOk X.prog X.w H' s'.heap
 kb:∀b o,b∉frs X.stack->((∃u,H' b=some u)\/∃o0,s0.heap.get? b=some o0)->s'.heap.get? b=some o->B.get? b=some o
section
variable{X:Cx}{pins:List (Addr×Obj)}{σ:St}{H0 H':Hp}{s0 s':Shared}{B h':Heap}
theorem Fl.inv(F:Fl X H0 H' s0 s' B)(I:Inv X pins σ H0 s0):Inv X pins σ H' s':=I.call' F.os F.un F.hok F.bare fun _ z=>nomatch z
theorem Fl.nf(F:Fl X H0 H' s0 s' B)(I:Inv X pins σ H0 s0){b:Addr}{u:HO}(h:H' b=some u):b∉frs X.stack:=fun hm=>by have:=(F.inv I).stkFree b hm;rw[h]at this;cases this
theorem Fl.move{tk:Nat}(F:Fl X H0 H' s0 s' B)(I:Inv X pins σ H0 s0)(st:B.StaysIn h')(up:s'.heap.UpToSlots h'):Fl X H0 H' s0 { s' with heap:=h',toks:=tk } B:=by
 have kp:∀b o,b∉frs X.stack->((∃u,H' b=some u)\/∃o0,s0.heap.get? b=some o0)->s'.heap.get? b=some o->h'.get? b=some o:=fun b o h1 h2 h3=>st b o (F.kb b o h1 h2 h3);have sl:∀b o,b∈frs X.stack->s'.heap.get? b=some o->∃sl,h'.get? b=some { o with slots:=sl }:=fun b o hm q=>by obtain⟨_,o',ho',hd⟩:=(F.inv I).stack.mem hm;have e:s'.heap.get? b=some o':=ho';rw[q]at e;cases e;exact up b o q hd
 refine⟨F.os,F.bare,⟨fun b o q n hb hx=>kp b o hb (.inr ⟨o,q⟩) (F.un.keep b o q n hb hx),fun b o q n hb hx=>?_,F.un.free,fun b o q hx=>?_,F.un.tups,F.un.frzs,F.un.tbls⟩,fun b u q=>?_,fun b o hb ho q=>?_⟩
 ·obtain⟨s1,e1⟩:=F.un.slot b o q n hb hx;obtain⟨s2,e2⟩:=sl b _ hb e1;exact⟨s2,e2⟩
 ·obtain⟨o',e1⟩:=F.un.there b o q hx;by_cases hb:b∈frs X.stack
  ·obtain⟨s2,e2⟩:=sl b o' hb e1;exact⟨_,e2⟩
  ·exact⟨o',kp b o' hb (.inr ⟨o,q⟩) e1⟩
 ·refine(F.hok b u q).stay (fun c v hc z=>kp c v ?_ ?_ z) (fun _ z=>z) fun _ _ z=>z
  ·rcases hc with z'|z'
   ·rw[z'];exact F.nf I q
   ·exact F.nf I z'
  ·rcases hc with z'|z'
   ·rw[z'];exact .inl ⟨u,q⟩
   ·exact .inl ⟨_,z'⟩
 ·obtain⟨o1,q1⟩:∃o1,s'.heap.get? b=some o1:=by
   rcases ho with⟨u,z⟩|⟨o0,z⟩
   ·exact dM (F.hok b u z)
   ·exact F.un.there b o0 z (by simp)
  have q2:=kp b o1 hb ho q1;have q':h'.get? b=some o:=q;rw[q']at q2;cases q2;exact F.kb b o hb ho q1
end
structure ExC(K:PySem.W.Frag)(C:Addr)(bm:List Value):Prop where
 cls:∀h,K.In h->∃nm q N bs hdct sn sub ab col dd k0 k1 k2 k3 k5 ni,h.get? C=some (excClassObj nm q C N bs bm hdct sn sub ab col dd k0 k1 k2 k3 k5 ni)
 exc:bm.contains (.type "BaseException")=true
theorem me{M:Model}{A:Around}{E:Value->Shared->Prop}{s:Shared}{e C T:Addr}{oe:Obj}{bmC bmT:List Value}{K:PySem.W.Frag}{Q:Bool->Shared->Prop}(hC:ExC K C bmC)(hT:ExC K T bmT)(hk:K.In s.heap)(he:s.heap.get? e=some oe)(hcls:oe.cls=.ref C)(hq:Q ((Value.ref C::bmC).contains (.ref T)) s):wpAny M A (excMatches (.ref e) (.ref T)) Q E s:=by
 obtain⟨nm,q,N,bs,hdct,sn,sub,ab,col,dd,k0,k1,k2,k3,k5,ni,oC⟩:=hC.cls _ hk;obtain⟨nm',q',N',bs',hdct',sn',sub',ab',col',dd',k0',k1',k2',k3',k5',ni',oT⟩:=hT.cls _ hk;obtain⟨hp,g,d,tk,os⟩:=s;have hcB:(Value.ref T::bmT).contains (.type "BaseException")=true:=by rw[List.contains_cons,hT.exc,Bool.or_true]
 have f:=tc_notTuple;unfold excMatches;generalize hr:(Value.ref C::bmC).contains (Value.ref T)=r at hq
 repeat(first|(with_reducible refine Zk he ?_;rw[hcls])|with_reducible refine Zk oT ?_|(with_reducible refine wpAny_isSubtype_exc oT ?_;rw[hcB])|(with_reducible refine wpAny_isSubtype_exc oC ?_;rw[hr])|wp_step)
 cases r<;>(first|exact hq|(wp_walk;exact hq))
theorem dZ{X:Cx}{pins:List (Addr×Obj)}{σ:St}{H:Hp}{s:Shared}{M:Model}{A:Around}{E:Value->Shared->Prop}{i:Nat}{n:Str}{pos:Pos}{Q:Unit->Shared->Prop}(I:Inv X pins σ H s)(hN:X.N.Nodup)(hi:X.N[i]?=some n)(hl:X.env.kindOf n=some .local)(h:∀s',Inv X pins (σ.set i none) H s'->Q () s'):wpAny M A (do bindName X.env n .none;unbindBehindTheSuite X.env n pos) Q E s:=by
 obtain⟨m,hn,hv⟩:=id I.loc;refine wpAny_nameGoes_keeps hl hn (by rw[I.ok.kind];rfl) fun h' v hn' hs=>h _ ?_;obtain⟨oL,_,_,hoL,_⟩:=id hn;have cne:=I.cne;have lt:∀b o,X.s₀.heap.get? b=some o->b≠X.env.locals:=fun b o q=>zC (zq (zo q) I.ok.above);refine⟨I.ok,I.os,I.bare,⟨fun b o e n hb hx=>(hs.2 b (lt b o e)).trans (I.base.keep b o e n hb hx),fun b o e n hb hx=>?_,I.base.free,fun b o e hx=>?_,I.base.tups,I.base.frzs,I.base.tbls⟩,⟨_,hn',fun j y v' e1 e2 e3=>?_⟩,fun y c e=>?_,I.free,I.freeC,fun p hp=>?_,fun b u q=>?_,by simpa using I.len⟩
 ·obtain⟨sl,e1⟩:=I.base.slot b o e n hb hx;exact⟨sl,(hs.2 b (lt b o e)).trans e1⟩
 ·obtain⟨o',e1⟩:=I.base.there b o e hx;exact⟨o',(hs.2 b (lt b o e)).trans e1⟩
 ·have hj:j≠i:=fun z=>by
   subst z;have hz:j<σ.length:=by have:=(zr.mp e2).1;simpa using this
   rw[List.getElem?_set_self hz]at e2;cases e2
  rw[List.getElem?_set_ne (z5 hj)]at e2;obtain⟨u',r',q⟩:=hv j y v' e1 e2 e3;refine⟨u',r',?_⟩;rcases q with⟨k,e⟩|⟨k,c,e,z⟩
  ·refine .inl ⟨k,?_⟩;have:y≠n:=fun e=>hj (im hN e1 (e▸hi));simp[this,e]
  ·exact .inr ⟨k,c,e,z.sameBut hs (cne y c e)⟩
 ·obtain⟨w',z⟩:=I.cell y c e;exact⟨w',z.sameBut hs (cne y c e)⟩
 ·obtain⟨e,n,ne,nf,d⟩:=I.pin p hp;exact⟨(hs.2 p.1 ne).trans e,n,ne,nf,d⟩
 ·refine(I.hok b u q).stay (fun c w' hc z=>(hs.2 c ?_).trans z) (fun _ z=>z) fun _ _ z=>z;rintro rfl;rcases hc with z'|z'
  ·rw[<-z',I.free]at q;cases q
  ·rw[I.free]at z';cases z'
def Cx.exc(X:Cx)(e:Value):Cx:={ X with A:=X.A.mark (some e),calm:=false,xe:=fun _ _=>False }
section
variable{X:Cx}{pins:List (Addr×Obj)}{σ:St}{H:Hp}{s:Shared}{e:Value}
theorem Inv.exc(I:Inv X pins σ H s)(e:Value):Inv (X.exc e) pins σ H s :=
 ⟨⟨I.ok.mod,I.ok.kind,I.ok.glob,I.ok.blt,I.ok.above,I.ok.inj,I.ok.has,I.ok.cab,fun z=>(nomatch z),I.ok.frames,I.ok.stk,I.ok.exf,I.ok.bs,I.ok.bsz,I.ok.noex,I.ok.exfs,I.ok.funs,I.ok.frf⟩,I.os,I.bare,I.base,I.loc,I.cell,I.free,I.freeC,I.pin,I.hok,I.len⟩
theorem Inv.unexc(ok:X.Ok)(I:Inv (X.exc e) pins σ H s):Inv X pins σ H s:=⟨ok,I.os,I.bare,I.base,I.loc,I.cell,I.free,I.freeC,I.pin,I.hok,I.len⟩
end
abbrev TH:=Ends->St->Value->Option Addr->Hp->Prop
structure QH(X:Cx)(hs:List ExceptHandler)(th:TH):Prop where
 h:∀(pins:List (Addr×Obj)) (s0:Shared) (H0:Hp) (σ:St) (D:Ends) (ea t:Addr) (C:Value) (B:Heap) (H':Hp) (dc:Option Addr) (s':Shared),Inv X pins σ H0 s0->Fl X H0 H' s0 s' B->Heap.FlyingW B X.stack ea C (.ref t) s'.heap->bM s'.heap ea dc->th D σ C dc H' ->
  wpAny (model X.prog X.w) X.A (handleBy (.ref ea) X.env hs) (SP X pins D) X.xe s'
section
variable{X:Cx}
def xS(tb:TSX)(th:TH):TS:=fun D σ H=>tb D σ H fun C dc H1=>th D σ C dc H1
theorem vY{st:Stmt}{tb:TSX}{th:TH}{h0:ExceptHandler}{hs:List ExceptHandler}{pos:Pos}(hst:X.stack=X.env::X.outer)(hfr:X.env.frame=some X.env.locals)(hb:QSX X st tb)(hh:QH X (h0::hs) th) :
  QS X (.Try [st] (h0::hs) [] [] pos) (xS tb th):=by
 refine⟨?_⟩;intro pins s σ H D I h;refine wpAny_Try_except (wpAny_execs_cons (zY (hb.h pins s σ H D _ I h) (fun f s1 q=>?_) (fun e s1 x=>?_)))
 ·cases f with
  |next=>exact wpAny_execs_nil (wpAny_execs_nil q)
  |brk=>exact q
  |cont=>exact q
  |ret v=>exact q
 ·obtain⟨s0,H0,I0,ea,t,C,vs,B,H',dc,rfl,os,bare,un,hok,fly,tup,hBt,kb,dd,q⟩:=x;have F:Fl X H0 H' s0 s1 B:=⟨os,bare,un,hok,kb⟩
  have fr:X.A.frames=some (X.env::X.outer):=by rw[<-hst];exact I.ok.frames
  rw[hst]at fly;refine iO fr hfr fly dd fun h4 held up4 dd4=>?_;obtain⟨f1,f2,f3,f4⟩:=held;refine fe f1 f3 f4 dd4 fun h5 k1 k2 k3 up5 dd5=>?_;have F5:=(F.move (tk:=s1.toks) I0 k1 (up4.trans up5))
  rw[<-hst]at k2;exact hh.h pins s0 H0 σ D ea t C B H' dc _ I0 F5 ⟨k1,f2,k2,k3⟩ dd5 q
end
open PySem PySem.Spec PyProof.Rows PySem.W
abbrev VE:List Value:=[.type "ValueError",.type "Exception",.type "BaseException",.type "object"]
structure ExcAt(K:PySem.W.Frag)(C:Addr)(bm:List Value):Prop where
 isIn:excIn K C VE "ValueError.__new__" = true
 mro:∃c d cd sl,K.lookup C=some ⟨c,d,.cls cd,sl⟩/\cd.mro=Value.ref C::bm
 exc:bm.contains (.type "BaseException")=true
theorem oP{K:PySem.W.Frag}{C:Addr}{bm:List Value}(q:ExcAt K C bm){h:Heap}(X:K.In h) :
  ∃nm qn N bs hdct sn sub ab col dd k0 k1 k2 k3 k5 mN,h.get? C=some (excClassObj nm qn C N bs bm hdct sn sub ab col dd k0 k1 k2 k3 k5 "ValueError.__new__")/\h.Ns N mN/\mN "__init__" = none/\OwnTail h VE bm:=by
 have q1:=q.isIn;obtain⟨c9,d9,cd9,sl9,l9,m9⟩:=q.mro;unfold excIn at q1;split at q1
 ·rename_i dd cd sl ho;split at q1
  ·rename_i C' bm' k0 k1 k2 k3 n k5 hm hs;have q2:cd.mro=Value.ref C::bm:=by have z:=ho.symm.trans l9;cases z;exact m9
   rw[hm]at q2;injection q2 with z1 z2;injection z1 with z1;cases z1;cases z2;simp only[zw,zH,Bool.not_eq_true']at q1;obtain⟨⟨⟨⟨⟨_,rfl⟩,nd⟩,ht⟩,ok⟩,ni⟩:=q1;have es:sl=#[k0,k1,k2,k3,some (.builtin "ValueError.__new__"),k5]:=by obtain⟨l⟩:=sl;simp only at hs;rw[hs]
   cases es;obtain⟨nm,bs,mro,ns,qn,hd,sn,sub,ab,col,del⟩:=cd;dsimp only at hm nd ok ni;cases hm;cases nd;exact⟨nm,qn,ns,bs,hd,sn,sub,ab,col,dd,k0,k1,k2,k3,k5,_,X _ _ ho,.of_isNs (isNs_of_in X ok),nsMap_none_of_in X ok ni,tail_of_in X ht⟩
  ·cases q1
 ·cases q1
theorem uH{K:PySem.W.Frag}{C:Addr}{bm:List Value}(q:ExcAt K C bm):ExC K C bm where
 cls:=fun h X=>by obtain⟨nm,qn,N,bs,hdct,sn,sub,ab,col,dd,k0,k1,k2,k3,k5,mN,e,_⟩:=oP q X;exact⟨nm,qn,N,bs,hdct,sn,sub,ab,col,dd,k0,k1,k2,k3,k5,_,e⟩
 exc:=q.exc
theorem iC:bootBuiltins "ValueError" = some (.type "ValueError"):=by decide +kernel
structure ExK(K:PySem.W.Frag)(c:Addr):Prop where
 hc:(clsIn K c).isSome=true
 hga:findIn K (.ref c) "__getattribute__" = some (some (.builtin "BaseException.__getattribute__"))
 hgh:findIn K (.ref c) "__getattr__" = some none
 ha:findIn K (.ref c) "__class__" = some (some (.builtin "object.__class__"))
 hb:mroIn K c (.type "BaseException")=some true
 hm:mroIn K c (.type "object")=some true
open PySem PySem.Spec PyProof.Rows PySem.W
def az(i:Int):Str:=Str.ofString (toString i)
theorem kR:∀(f k n:Nat) (ds:List Char),n<10^(k+1)->(Nat.toDigitsCore 10 f n ds).length<=k+1+ds.length
 |0,k,n,ds,_=>by unfold Nat.toDigitsCore;omega
 |f+1,k,n,ds,h=>by
  unfold Nat.toDigitsCore;dsimp only;split
  ·rw[zh];omega
  ·rename_i hz;cases k with
   |zero =>have:n / 10=0:=Nat.div_eq_of_lt (by simpa using h);exact absurd this hz
   |succ k =>
    have h':n / 10<10^(k+1):=by rw[Nat.div_lt_iff_lt_mul (by decide)];rw[Nat.pow_succ]at h;exact h
    have:=kR f k (n / 10) (Nat.digitChar (n%10)::ds) h';rw[zh]at this;omega
theorem qI{i:Int}{k:Nat}(h:i.natAbs<10^(k+1)):(az i).length<=k+2:=by
 unfold az;rw[ofString_len];have nat:∀n:Nat,n<10^(k+1)->(Nat.repr n).length<=k+1:=fun n hn=>by unfold Nat.repr;rw[String.length_ofList];have:=kR (n+1) k n [] hn;exact this
 cases i with
 |ofNat n =>have:=nat n h;show(Nat.repr n).length<=_;omega
 |negSucc n =>have:=nat (n+1) h;show("-"++Nat.repr (n+1)).length<=_;rw[String.length_append];have:("-":String).length=1:=rfl;omega
section
variable{X:Cx}{K:PySem.W.Frag}
theorem sq(hK:X.K=K)(hc:X.calm=true)(dg:nsIn K cStatics "sys.int_max_str_digits" = some none):QCall X (.type "str") (fun xs H Q=>∃i:Int,xs=[.int i]/\i.natAbs<10^4300/\Q (.str (az i)) H):=by refine⟨?_⟩;subst hK;intro pins s σ H xs us Q I r h;obtain⟨i,rfl,hi,q⟩:=h;obtain⟨u,rfl,rx⟩:=bT r;obtain⟨t,rfl⟩:=rx;obtain⟨mc,hn,_⟩:=I.nolimit;exact str_of_int_or (I.ok.hd hc) ⟨mc,hn,ns_none_of I.kIn hn dg⟩ (fun _=>⟨.str (az i),H,I.tok _,⟨_,rfl⟩,q⟩) (fun z=>absurd hi (Nat.not_lt.mpr z))
def rT(K:PySem.W.Frag):V->List V->Hp->VK->Prop:=fun x xs H Q=>∃(sep:Str) (p:Addr) (ys:List Str),x=.str sep/\xs=[.ref p]/\SqL K H p (ys.map V.str)/\(ys.map (·.length)).sum+ys.length*sep.length<=16777216/\Q (.str (Txt.join sep ys)) H
theorem mM:∀{ys:List Str} {us:List Value},Vals (ys.map V.str) us->StrsAre us ys
 | [],_,h=>by cases h;exact .nil
 |y::ys,_,h=>by
  cases h with
  |cons r1 r2 =>obtain⟨t,rfl⟩:=r1;exact .cons _ _ (mM r2)
theorem sQ:MtR X "str.join" (rT X.K):=by intro pins s σ H x xs v us Q I rx r h;obtain⟨sep,p,ys,rfl,rfl,hl,hz,q⟩:=h;obtain⟨t,rfl⟩:=rx;obtain⟨u,rfl,ru⟩:=bT r;cases ru;obtain⟨its,rv,pl,_⟩:=I.list hl;exact join_list pl.isList (by simpa using mM rv) hz fun t' k=>⟨.str _,H,I.tok _,⟨_,rfl⟩,q⟩
theorem pM{o e:Expr}{to te:TE}{apos cpos:Pos}(ho:QE X o to)(he:QE X e te)(hs:aT e=true:=by rfl)(hbase:attributeBase o "join" X.env (eval o X.env)=eval o X.env:=by rfl)(hline:(apos.endLine==cpos.line)=true:=by rfl) :
  QE X (.Call (.Attribute o "join" apos) [e] [] cpos) (tBM X.K "str" (rT X.K) to (cT te dj)):=by
 have h1:=aO (es:=[]) (env:=X.env) hs;have h2:starEach ([]:List Expr) X.env=[]:=rfl;refine⟨kz PySem.F.plainAttrs_str PySem.F.slot_str_join PySem.F.type_str_join sQ ho.h (gz he.h fU (hs:=h1)) (hbase:=hbase) (hfew:=?_) (hline:=hline) (hs:=h1) (hplain:=by rw[h2];rfl)⟩;rw[h1,h2];rfl
theorem bN:QOp X (binaryOp .Add) (fun x y H Q=>∃i j,x=.str i/\y=.str j/\i.length+j.length<=sizeLine/\Q (.str (i++j)) H):=⟨nR⟩
theorem xj:QOp X (compareOp .In) (fun x y H Q=>∃i j,x=.str i/\y=.str j/\Q (.bl (!(Builtin.Str.occurrences j i 0 j.length 1).isEmpty)) H):=by refine⟨?_⟩;intro pins s σ H x y v u Q I rx ry h;obtain⟨i,j,rfl,rfl,q⟩:=h;obtain⟨t,rfl⟩:=rx;obtain⟨t',rfl⟩:=ry;exact in_str ⟨.bl _,H,I,rfl,q⟩
end
open PySem PySem.Spec PyProof.Rows PySem.W
section
variable{X:Cx}{K:PySem.W.Frag}
theorem lE:QOp X (binaryOp .Mult) (fun x y H Q=>∃(z:Str) (n:Int),x=.str z/\y=.int n/\z.length=1/\1<=n/\n<=1000/\∀y:Str,y.length=n.toNat->(∀c∈y.cps.toList,c∈z.cps.toList)->Q (.str y) H):=by
 refine⟨?_⟩;intro pins s σ H x y v u Q I rx ry h;obtain⟨z,n,rfl,rfl,hz,n1,n2,q⟩:=h;obtain⟨t,rfl⟩:=rx;obtain⟨t',rfl⟩:=ry;have fl:∀(k:Nat) (acc:Array Nat),((List.replicate k z.cps).foldl (·++·) acc)=acc++(List.replicate k z.cps.toList).flatten.toArray:=fun k=>by
  induction k with
  |zero=>intro acc;simp
  |succ k ih =>intro acc;rw[List.replicate_succ,List.foldl_cons,ih,List.replicate_succ,List.flatten_cons,Array.append_assoc];congr 1;apply Array.toList_inj.mp;rw[Array.toList_append]
 have ln:∀k:Nat,((List.replicate k z.cps.toList).flatten).length=k:=fun k=>by
  have e:z.cps.toList.length=1:=hz;induction k with
  |zero=>rfl
  |succ k ih =>rw[List.replicate_succ,List.flatten_cons,zb,ih,e];omega
 refine PySem.P.mul_str ?_ (fun _ _=>?_) (fun _ _=>?_) ?_
 ·have h1:¬n < -(2^63:Int):=by omega
  have h2:¬n>=2^63:=by omega
  rw[decide_eq_false h1,decide_eq_false h2];rfl
 ·rw[hz];have:(1:Int)<=(2^63-1) / n:=by rw[Int.le_ediv_iff_mul_le (by omega)];omega
  omega
 ·rw[hz];unfold Builtin.Str.tooLong;have:=aV (show 1*n.toNat<=1000 by omega);simp only[decide_eq_false_iff_not];omega
 ·rw[ym (by omega)];split
  ·rename_i hc;rw[hz]at hc;have:n=1:=by simpa using hc
   subst this;exact⟨.str z,H,I,⟨_,rfl⟩,q z hz (fun c hc=>hc)⟩
  ·rw[fl];have e:((#[]:Array Nat)++(List.replicate n.toNat z.cps.toList).flatten.toArray)=(List.replicate n.toNat z.cps.toList).flatten.toArray:=by simp
   rw[e];refine⟨aV (by show(List.flatten _).toArray.size<=1000;rw[zv,ln];omega),.str _,H,I.tok _,⟨_,rfl⟩,q _ (by show(List.flatten _).toArray.size=_;rw[zv,ln]) (fun c hc=>?_)⟩;have hc':c∈(List.replicate n.toNat z.cps.toList).flatten:=hc;obtain⟨l,hl,hm⟩:=List.mem_flatten.mp hc';rw[(List.mem_replicate.mp hl).2]at hm;exact hm
end
open PySem PySem.Spec PyProof.Rows PySem.W
open PySem PySem.Spec PyProof.Rows PySem.W
section
variable{X:Cx}
theorem nJ{K:PySem.W.Frag}(hK:X.K=K):QOp X (compareOp .In) (rIn K false):=by subst hK;exact⟨pF⟩
end
open PySem PySem.Spec PyProof.Rows PySem.W
structure LtOk(lt:Nat->Nat->Bool):Prop where
 as:∀{a b},lt a b=true->lt b a=false
 tr:∀{a b c},lt b a=false->lt c b=false->lt c a=false
def gA(p:Array Nat)(k:Nat):Nat:=p.getD k 0
def Lx(lt:Nat->Nat->Bool)(a b:Nat):Prop:=lt b a=false/\(lt a b=true\/a<b)
section
variable{lt:Nat->Nat->Bool}(O:LtOk lt)
include O
end
structure Fx(N:Nat)(p:Array Nat)(m:Nat):Prop where
 sz:p.size=N
 hi:∀k,m<=k->k<N->gA p k=k
 lo:∀i,i<m->gA p i<m
section
variable{lt:Nat->Nat->Bool}(O:LtOk lt){N:Nat}
include O
structure Dn(lt:Nat->Nat->Bool)(p:Array Nat)(n q:Nat):Prop where
 hq:q+1<=n
 up:∀i j,i<j->j<n-(q+1)->Lx lt (gA p j) (gA p i)
 cr:∀i j,i<n-(q+1)->n-(q+1)<=j->j<n->lt (gA p j) (gA p i)=true
 eq:∀i j,n-(q+1)<=i->i<j->j<n->lt (gA p i) (gA p j)=false/\lt (gA p j) (gA p i)=false/\gA p i<gA p j
end
open PySem PySem.Spec PyProof.Rows PySem.W
open PySem PySem.Spec PyProof.Rows PySem.W
section
variable{X:Cx}{pins:List (Addr×Obj)}{σ:St}{H:Hp}{s:Shared}{h':Heap}
structure SK(X:Cx)(pins:List (Addr×Obj))(σ:St)(H1:Hp)(m:Str->Option Value)(kS D:Addr)(e1:Nat)(ks:List (List Int))(as:List Addr)(e:Nat)(H:Hp)(s:Shared):Prop where
 I:Inv X pins σ H s
 sm:Same H1 H
 fk:bG X pins H kS
 fd:bG X pins H D
 bk:X.base.get? kS=none
 bd:X.base.get? D=none
 hk:s.heap.get? kS=some (seqObj "list" (List.toArray (as.map Value.ref)) e)
 hd:s.heap.get? D=some (seqObj "list" #[] e1)
 ns:s.heap.Ns X.env.locals m
 keys:∀(i:Nat) (a:Addr) (k:List Int),as[i]?=some a->ks[i]?=some k->H a=some (.tup (k.map V.int))
end
open PySem PySem.Spec PyProof.Rows PySem.W
section
variable{X:Cx}{pins:List (Addr×Obj)}{σ:St}{H:Hp}{s:Shared}
structure ExOk(X:Cx)(b:Addr):Prop where
 old:b∈X.ex\/X.s₀.heap.get? b=none
 loc:b≠X.env.locals
 cel:∀x c,X.env.cells.lookup x=some c->c≠b
 bas:X.base.get? b=none
 fs:b∉X.fs
end
open PySem PySem.Spec PyProof.Rows PySem.W
open PySem PySem.Spec PyProof.Rows PySem.W
open PySem PySem.Spec PyProof.Rows PySem.W
open PySem PySem.Spec PyProof.Rows PySem.W
open PySem PySem.Spec PyProof.Rows PySem.W
section
variable{X:Cx}
structure QPs(X:Cx)(pos:Pos)(keys:List (Option Expr))(values:List Expr)(trs:List (TE×TE)):Prop where
 h:PPs X pos keys values trs
end
open PySem PySem.Spec PyProof.Rows PySem.W
open PySem PySem.Spec PyProof.Rows PySem.W
structure MFn(P:Program)(w:World)(K:PySem.W.Frag)(mg:Str->Option Value)(base:Heap)(k:Nat)(C:Addr)(m:Str)(ps:List Str)(sp:Sp):Prop where
 cl:Cls K C
 ex:∃f fd,FnOk P w K mg base CX0 k f fd ps sp/\Meth K C m f/\Binds K fd ps []
structure MkFn(P:Program)(w:World)(K:PySem.W.Frag)(mg:Str->Option Value)(base:Heap)(k:Nat)(C:Addr)(x:Str)(ps:List Str)(sp:Sp):Prop where
 cl:Cls K C
 mgC:mg x=some (.ref C)
 ex:∃f fd,FnOk P w K mg base CX0 k f fd ps sp/\Mk K C f/\Binds K fd ps []
section
variable{X:Cx}{k:Nat}{C:Addr}{m x f:Str}{p pos pos' apos:Pos}{o e value:Expr}{es:List Expr}{ps:List Str}{sp:Sp}{t:TA}{ta tv:TE}
theorem gJ(he:QE X e ta)(hb:attributeBase e f X.env (eval e X.env)=eval e X.env:=by rfl):QE X (.Attribute e f pos) (rD X.K ta f):=⟨vv he.h hb⟩
theorem rW(ha:QE X o ta)(hv:QE X value tv)(hs:swapsWith value (some (.Attribute o f pos')) pos.line X.env=pure false:=by rfl):QS X (.Assign [.Attribute o f pos'] value pos) (vW X.K ta tv f):=⟨vI ha.h hv.h hs⟩
theorem dO{pl:Sem Bool}(F:MFn X.prog X.w X.K X.mg X.base k C m ps sp)(hr:Room k X.A)(he:QE X o ta)(ha:QA X (e::es) t)(hs:(e::es).all aT=true:=by rfl)(ht:eval (.Call (.Attribute o m apos) (e::es) [] pos) X.env=(do
   let ov ←eval o X.env
   standAt apos.atName
   let(f,first) ←holding [ov] (getMethod ov m pl)
   callWith pos f first (backTo pos (starEach (e::es) X.env)) (backToKw pos (keywordEach [] X.env))):=by rfl) :
  QE X (.Call (.Attribute o m apos) (e::es) [] pos) (gR C m sp [] E0 ta t):=by
 obtain⟨f,fd,G,hm,b⟩:=F.ex;rw[Zb,zw]at hs;exact⟨mI (pl:=pl) he.h F.cl hm G hr b .nil ky ha.h (aO hs.1) (bj hs.2) ht⟩
theorem cM{pl:Sem Bool}(F:MFn X.prog X.w X.K X.mg X.base k C m ps sp)(hr:Room k X.A)(he:QE X o ta)(ht:eval (.Call (.Attribute o m apos) [] [] pos) X.env=(do
   let ov ←eval o X.env
   standAt apos.atName
   let(f,first) ←holding [ov] (getMethod ov m pl)
   callWith pos f first (backTo pos (starEach [] X.env)) (backToKw pos (keywordEach [] X.env))):=by rfl) :
  QE X (.Call (.Attribute o m apos) [] [] pos) (gR C m sp [] E0 ta dj):=by
 obtain⟨f,fd,G,hm,b⟩:=F.ex;exact⟨qZ (pl:=pl) he.h F.cl hm G hr b .nil ky ht⟩
theorem vS(F:MkFn X.prog X.w X.K X.mg X.base k C x ps sp)(hr:Room (k+1) X.A)(ha:QA X (e::es) t)(hg:Gl X x:=by rfl)(hs:(e::es).all aT=true:=by rfl)(hdb:(x==("__debug__":Str))=false:=by decide) :
  QE X (.Call (.Name x p) (e::es) [] pos) (se C sp [] E0 t):=by
 obtain⟨f,fd,G,hm,b⟩:=F.ex;rw[Zb,zw]at hs;exact⟨tM hm G hr hg F.mgC b .nil ky ha.h hdb (aO hs.1) (bj hs.2)⟩
end
open PySem PySem.Spec PyProof.Rows PySem.W
open PySem PySem.Spec PyProof.Rows PySem.W
section
variable{prog:Program}{w:World}{A:Around}{E:Value->Shared->Prop}{h:Heap}{g:Array GenState}{d:Drawn}{t:Nat}{os:OsState}
variable{nm q:Str}{C N:Addr}{bs bm bmB:List Value}{hdct:Bool}{sn:List Str}{sub:List Value}{ab:Bool}{col:Option Bool}{dd:Option Addr}{k0 k1 k2 k3 k5:Option Value}{B newId initId:String}
theorem ja(F:ExcBaseFacts B newId initId bmB)(T:OwnTail h bmB bm){mN:Str->Option Value}{rest:List Value}{fI:Addr}{oI:Obj}{Q:PySem.Fin->Shared->Prop}(hC:h.get? C=some (excClassObj nm q C N bs bm hdct sn sub ab col dd k0 k1 k2 k3 k5 newId))(hn:h.Ns N mN)(hi:mN "__init__" = some (.ref fI))(hfI:h.get? fI=some oI)(hfc:oI.cls=.type "function")(hq:∀h' e,Heap.MadeExcOf h h' e (.ref C) rest->wpAny (model prog w) A (call (.ref fI) (.ref e::rest)) (fun r s'=>r=.none/\Q (.done (.ret (.ref e))) s') E ⟨h',g,d,t,os⟩)(hrest:rest.length<=sizeLine) :
  wpAny (model prog w) A (Builtin.«type.__call__» ⟨.ref C::rest,[]⟩) Q E ⟨h,g,d,t,os⟩:=by
 repeat(first|with_reducible refine Zk hC ?_|with_reducible refine wpAny_madeBy_exc hC ?_|wp_step)
 refine codeAny_call_builtin_code (Code.quiet_builtin _ F.quiet) (wpAny_check_new_subT F T hC ?_);refine codeAny_exc_new_subT F T hC ?_ hrest;show wpAny _ _ _ _ _ _;have kp:∀b o,h.get? b=some o->((h.push { cls:=.type "tuple",data:=.seq rest.toArray }).push { cls:=.ref C,data:=.fields #[.ref h.objs.size,.none,.none,.none,.bool false,.none] }).get? b=some o :=
  fun b o e=>zj _ (zj _ e)
 have hn₁:((h.push { cls:=.type "tuple",data:=.seq rest.toArray }).push { cls:=.ref C,data:=.fields #[.ref h.objs.size,.none,.none,.none,.bool false,.none] }).Ns N mN:=hn.keeps kp;have hget:((h.push { cls:=.type "tuple",data:=.seq rest.toArray }).push { cls:=.ref C,data:=.fields #[.ref h.objs.size,.none,.none,.none,.bool false,.none] }).get? (h.objs.size+1) =
   some { cls:=.ref C,data:=.fields #[.ref h.objs.size,.none,.none,.none,.bool false,.none] }:=by heap_get
 have hcC:(Value.ref C::bm).contains (.ref C)=true:=by simp
 unfold isInstance
 repeat(first|with_reducible refine Zk hget ?_|(with_reducible refine wpAny_isSubtype_exc (kp _ _ hC) ?_;rw[hcC])|wp_step)
 show wpAny _ _ (typeLookup (.ref C) _) _ _ _;refine wpAny_typeLookup_tail (kp _ _ hC) hn₁ (T.keeps kp) F.mroIs F.init.lookup ?_;rw[hi];refine wpAny_holding (zc ?_);unfold bindSpecial;refine zc (wpAny_typeOf (T:="function") ⟨_,kp _ _ hfI,hfc⟩ ?_);rw[yn (by decide)];refine zu (zc (zY (hq _ (h.objs.size+1) ⟨kp,Heap.get?_none_of_le (Nat.le_succ _),h.objs.size,hget,Heap.get?_none_of_le (zd _),?_⟩) (fun r s' hr=>?_) fun _ _ x=>x))
 ·exact zj _ (Heap.get?_push_at rfl rfl)
 ·obtain⟨rfl,hQ⟩:=hr
  wp_walk
  exact hQ
theorem mZ(F:ExcBaseFacts B newId initId bmB)(T:OwnTail h bmB bm){mN:Str->Option Value}{rest:List Value}{fI:Addr}{oI:Obj}{Q:Value->Shared->Prop}(hC:h.get? C=some (excClassObj nm q C N bs bm hdct sn sub ab col dd k0 k1 k2 k3 k5 newId))(hn:h.Ns N mN)(hi:mN "__init__" = some (.ref fI))(hfI:h.get? fI=some oI)(hfc:oI.cls=.type "function")(hq:∀h' e,Heap.MadeExcOf h h' e (.ref C) rest->wpAny (model prog w) (A.under (.builtin "type.__call__" ⟨.ref C::rest,[]⟩)) (call (.ref fI) (.ref e::rest)) (fun r s'=>r=.none/\Q (.ref e) s') E ⟨h',g,d,t,os⟩)(hrest:rest.length<=sizeLine) :
  wpAny (model prog w) A (call (.ref C) rest) Q E ⟨h,g,d,t,os⟩:=by
 have f1:=tc_lookup;have f2:=tc_bind (.ref C);have hT:(⟨h,g,d,t,os⟩:Shared).TypeIs (.ref C) "type":=⟨_,hC,rfl⟩
 refine wpAny_call (codeAny_of_tree ?_);show wpAny _ _ (callAny (.ref C) _) _ _ _
 repeat(any_goals(first|assumption|with_reducible refine Zk hC ?_|wp_step))
 refine⟨rfl,?_⟩;exact codeAny_call_builtin_at (Code.quiet_builtin _ (by decide +kernel)) entry_typeCall (wpAny_check_type_call_sub hC (ja F T hC hn hi hfI hfc (fun h' e hm=>hq h' e hm) hrest))
end
section
variable{M:Model}{A:Around}{E:Value->Shared->Prop}{env:Env}{K:PySem.W.Frag}
theorem pO{C:Addr}{bm:List Value}{s:Shared}{x:Sem Value}{Q:Flow->Shared->Prop}(hC:ExC K C bm)(hh:A.handled=none)(h:wpAny M A x (fun v s₁=>∃e oe,v=.ref e/\K.In s₁.heap/\s₁.heap.get? e=some oe/\oe.cls=.ref C/\(∃t,oe.data=.fields #[.ref t,.none,.none,.none,.bool false,.none])/\E (.ref e) s₁) E s):wpAny M A (raiseStmt env (some x) none) Q E s:=by
 have hcB:(Value.ref C::bm).contains (.type "BaseException")=true:=by rw[List.contains_cons,hC.exc,Bool.or_true]
 unfold raiseStmt;refine zc (zY h (fun v s₁ h₁=>?_) fun _ _ x=>x);obtain⟨e,oe,rfl,hk,he,hcl,⟨vs,hd⟩,hE⟩:=h₁;obtain⟨nm,q,N,bs,hdct,sn,sub,ab,col,dd,k0,k1,k2,k3,k5,ni,oC⟩:=hC.cls _ hk;obtain⟨hp,g,d,tk,os⟩:=s₁;obtain⟨oc,od,odt,osl⟩:=oe;cases hcl;cases hd
 repeat(first|with_reducible refine Zk he ?_|with_reducible refine Zk oC ?_|(with_reducible refine wpAny_isSubtype_exc oC ?_;rw[hcB])|wp_step)
 exact wpAny_raiseNew_none hh hE
end
open PySem PySem.Spec PyProof.Rows PySem.W PySem.Builtin PySem.Builtin.ObjectAttr
theorem pP(self:Value):refuseLoop self "__setattr__" VE=pure ():=by kernel_rfl
def iR:List Value->Bool
 |.ref _::r=>iR r
 |l=>l==VE
theorem hG(self:Value):∀{l:List Value},iR l=true->refuseLoop self "__setattr__" l=pure ()
 |.ref c::r,e=>by rw[refuseLoop_ref];exact hG self e
 | [],e=>nomatch e
 |.type n::r,e=>by rw[show(Value.type n::r)=VE from zH.mp e];exact pP self
 |.none::r,e=>by have:=(zH (α:=List Value)).mp e;cases this
 |.bool b::r,e=>by have:=(zH (α:=List Value)).mp e;cases this
 |.int b t::r,e=>by have:=(zH (α:=List Value)).mp e;cases this
 |.str b t::r,e=>by have:=(zH (α:=List Value)).mp e;cases this
 |.bytes b t::r,e=>by have:=(zH (α:=List Value)).mp e;cases this
 |.float b t::r,e=>by have:=(zH (α:=List Value)).mp e;cases this
 |.builtin b::r,e=>by have:=(zH (α:=List Value)).mp e;cases this
 |.ellipsis::r,e=>by have:=(zH (α:=List Value)).mp e;cases this
 |.notImplemented::r,e=>by have:=(zH (α:=List Value)).mp e;cases this
structure ExS(K:PySem.W.Frag)(c:Addr):Prop where
 sa:findIn K (.ref c) "__setattr__" = some (some (.builtin "object.__setattr__"))
 ov:((clsIn K c).any fun cd=>iR cd.mro&&cd.hasDict)=true
 ob:mroIn K c (.type "object")=some true
section
variable{prog:Program}{w:World}{K:PySem.W.Frag}{A:Around}{R:Result->Shared->Prop}{s:Shared}{x C:Addr}
theorem tm{ox:Obj}{od:Option Obj}{name:Str}{tk:Tok}{v:Value}(X:K.In s.heap)(I:InstAt s.heap x ox C od)(S:ExS K C)(hn:findIn K (.ref C) name=some none)(h:wpAny (model prog w) A.in1 (storeInOwnDict (.ref x) (.ref C) (.str name tk) name v false)
   (fun fin s'=>match fin with|.done f=>R (.ok f) s'|.again c'=>c'.quiet=true/\codeAny (model prog w) A c' R s') (fun e s'=>R (.error e) s') s) :
  codeAny (model prog w) A (.call (.builtin "object.__setattr__") ⟨[.ref x,.str name tk,v],[]⟩) R s:=by
 have SF:=PySem.F.store_object;obtain⟨cd,hc,ho⟩:=any_some S.ov;rw[zw]at ho;have sub:Looks (model prog w) s.heap (isInstance (.ref x) (.type "object")) true:=I.type.andThen (looks_mroIn X S.ob);refine codeAny_call_builtin SF.slot.plain SF.entry (@check_slot (model prog w) _ _ s "object.__setattr__" "object" "__setattr__" (.ref x) [.str name tk,v] [] _ SF.kind SF.split sub (SF.args (.ref x) (.str name tk) v) ?_);have hm:Looks (model prog w) s.heap (mroOf (.ref C)) cd.mro:=(looks_clsIn X hc).andThen .now;rw[osa_eq,refuse_eq];refine zc (zc (I.type.here (zc (hm.here ?_))));rw[hG _ ho.1];refine zu (zc (I.type.here (zc ((looks_findIn X hn).here (zc (Looks.now.here ?_))))));exact h
end
def exN(ea c t:Addr)(dc:Option Addr):HO:=.ext fun h=>h.get? ea=some { cls:=.ref c,dict:=dc,data:=.fields #[.ref t,.none,.none,.none,.bool false,.none] }
theorem oN{P:Program}{w:World}{H:Hp}{h:Heap}{ea c t:Addr}{dc:Option Addr}(e:h.get? ea=some { cls:=.ref c,dict:=dc,data:=.fields #[.ref t,.none,.none,.none,.bool false,.none] }):ObjOk P w H h ea (exN ea c t dc) :=
 ⟨e,⟨_,e⟩,fun _ _ p k=>k _ p⟩
section
variable{X:Cx}{pins:List (Addr×Obj)}{σ:St}{H:Hp}{s:Shared}{a c t:Addr}{f:Str}{y:V}{u:Value}{A:Around}{E:Value->Shared->Prop}
theorem ue{Q:Unit->Shared->Prop}(I:Inv X pins σ H s)(e:H a=some (exN a c t none))(S:ExS X.K c)(n:NoAttr X.K c f)(ry:RelV y u)(h:∀d s',H d=none->Inv X pins σ (upd (upd H d (.xd [(f,y)])) a (exN a c t (some d))) s'->Q () s'):wpAny (model X.prog X.w) A (setAttr (.ref a) f u) Q E s:=by
 have hx:s.heap.get? a=some { cls:=.ref c,dict:=none,data:=.fields #[.ref t,.none,.none,.none,.bool false,.none] }:=(show ObjOk X.prog X.w H s.heap a (exN a c t none)from I.hok a _ e).1;have J:InstAt s.heap a { cls:=.ref c,dict:=none,data:=.fields #[.ref t,.none,.none,.none,.bool false,.none] } c none:=⟨hx,rfl,rfl,True.intro⟩
 obtain⟨cd,hc,ho⟩:=any_some S.ov;rw[zw]at ho;refine PySem.W.set_plain I.kIn J S.sa (tm (s:={ s with toks:=s.toks+1 }) I.kIn J S n ?_);refine zc (zu (zc (zc (wpAny_loadPart hx (zc (PySem.W.Looks.here (s:={ s with toks:=s.toks+1 }) (PySem.W.looks_clsIn I.kIn hc) ?_))))));rw[ho.2];have hxs:a≠s.heap.objs.size:=zC (zo hx);have hx1:(s.heap.push { cls:=.type "dict",data:=.dict #[] }).get? a=some { cls:=.ref c,dict:=none,data:=.fields #[.ref t,.none,.none,.none,.bool false,.none] }:=zj _ hx;show wpAny _ _ (alloc { cls:=.type "dict",data:=.dict #[] } >>= fun d=>update a (fun o=>{ cls:=o.cls,dict:=some d,data:=o.data,slots:=o.slots }) >>= fun _=>dictMade (.ref c) a d) _ _ _;refine zc (wpAny_alloc' ?_);refine zc (wpAny_update' hx1 ?_);refine zu ?_;have hgd:((s.heap.push { cls:=.type "dict",data:=.dict #[] }).update a fun o=>{ cls:=o.cls,dict:=some s.heap.objs.size,data:=o.data,slots:=o.slots }).get? s.heap.objs.size=some { cls:=.type "dict",data:=.dict #[] } :=
  (Heap.get?_update_ne _ _ _ _ hxs.symm).trans (Heap.get?_push_at rfl rfl)
 have hnd:((s.heap.push { cls:=.type "dict",data:=.dict #[] }).update a fun o=>{ cls:=o.cls,dict:=some s.heap.objs.size,data:=o.data,slots:=o.slots }).Ns s.heap.objs.size (fun _=>none) :=
  ⟨_,#[],_,hgd,rfl,fun e he=>absurd he (by simp),fun _=>rfl⟩
 refine zc (zu (zc (wpAny_nsSet1 (Heap.Ns1.of_empty hnd) fun h' hn' hs=>?_)));obtain⟨oD,esD,epD,hoD,hdD,hcD⟩:=hn'.count (Within.cons f u Within.nil);refine zc (wpAny_lookBehind hoD (by rw[hdD];exact pastItsLine_dict (zm hcD (by rw[zh,List.length_nil,sizeLine_eq];omega))) ?_);have hx':h'.get? a=some { cls:=.ref c,dict:=some s.heap.objs.size,data:=.fields #[.ref t,.none,.none,.none,.bool false,.none] }:=(hs.2 a hxs).trans (Heap.get?_update_self _ hx1 rfl);have kp:∀b o,b≠a->s.heap.get? b=some o->h'.get? b=some o:=fun b o hb q=>(hs.2 b (zC (zo q))).trans ((Heap.get?_update_ne _ _ _ _ hb).trans (zj _ q));have hd0:H s.heap.objs.size=none:=I.hok.fresh (zd _);have nd:∀b o,s.heap.get? b=some o->b≠s.heap.objs.size:=fun b o q=>zC (zo q);have ne1:∀b v,H b=some v->v≠exN a c t none->b≠a:=fun b v q hv z=>by rw[z,e]at q;exact hv (zt q).symm
 have ne2:∀b v,H b=some v->b≠s.heap.objs.size:=fun b v q=>ax q hd0;have un:Un X.fs [] H (upd (upd H s.heap.objs.size (.xd [(f,y)])) a (exN a c t (some s.heap.objs.size))) s.heap h':=by
  refine⟨fun b o q m _ _=>kp b o (fun z=>by rw[z,e]at m;cases m) q,fun b o q m _ _=>⟨o.slots,kp b o (fun z=>by rw[z,e]at m;cases m) q⟩,fun b o q m _=>?_,fun b o q _=>?_,fun b xs q=>?_,fun b o v q=>?_,fun b ps q=>⟨#[],?_⟩⟩
  ·rw[ag (fun z=>by rw[z,e]at m;cases m),ag (nd b o q)];exact m
  ·by_cases hb:b=a
   ·exact⟨_,hb▸hx'⟩
   ·exact⟨o,kp b o hb q⟩
  ·rw[ag (ne1 _ _ q (by intro z;cases z)),ag (ne2 _ _ q)];exact q
  ·rw[ag (ne1 _ _ q (by intro z;cases z)),ag (ne2 _ _ q)];exact q
  ·rw[ag (ne1 _ _ q (by intro z;cases z)),ag (ne2 _ _ q),q];simp
 have hok:HOk X.prog X.w (upd (upd H s.heap.objs.size (.xd [(f,y)])) a (exN a c t (some s.heap.objs.size))) h':=fun b v q=>by
  by_cases hb:b=a
  ·subst hb;rw[aa]at q;cases q;exact oN hx'
  ·rw[ag hb]at q;by_cases hbd:b=s.heap.objs.size
   ·subst hbd;rw[aa]at q;cases q;refine⟨_,hn',fun g=>?_⟩;by_cases hg:g=f
    ·subst hg;rw[yn rfl];show RelO ([(g,y)].lookup g) (some u);rw[zE,show(g==g)=true by simp];exact ry
    ·rw[ym hg];show RelO ([(f,y)].lookup g) none;rw[zE,show(g==f)=false by simpa using hg];exact True.intro
   ·rw[ag hbd]at q;refine(I.hok b v q).stay (fun b' v' hb' q'=>kp b' v' ?_ q') (fun b' q'=>?_) fun b' xs q'=>?_
    ·rcases hb' with rfl|z
     ·exact hb
     ·exact ne1 _ _ z (by intro z;cases z)
    ·rw[ag (ne1 _ _ q' (by intro z;cases z)),ag (ne2 _ _ q')];exact q'
    ·rw[ag (ne1 _ _ q' (by intro z;cases z)),ag (ne2 _ _ q')];exact q'
 exact zu (h _ _ hd0 (I.un un hok))
end
def xA(K:PySem.W.Frag)(ta tv:TE)(f:Str):TS:=fun D σ H=>tv σ H fun y H1=>ta σ H1 fun x H2=>∃a c t,x=.ref a/\H2 a=some (exN a c t none)/\ExS K c/\NoAttr K c f/\∀d,H2 d=none ->
 D.nx σ (upd (upd H2 d (.xd [(f,y)])) a (exN a c t (some d)))
theorem vX{X:Cx}{o value:Expr}{f:Str}{pos pos':Pos}{ta tv:TE}(ha:QE X o ta)(hv:QE X value tv)(hs:swapsWith value (some (.Attribute o f pos')) pos.line X.env=pure false:=by rfl):QS X (.Assign [.Attribute o f pos'] value pos) (xA X.K ta tv f):=by refine⟨?_⟩;intro pins s σ H D I h;refine plainObj_wpAny_Assign_Attribute (thn (hv.h pins s σ H _ I h) fun u s1 ⟨y,H1,I1,ry,q⟩=>thn (ha.h pins s1 σ H1 _ I1 q) fun ov s2 hz9=>?_) hs;obtain⟨x,H2,I2,rx,a,c,t,ex,ea,S,n,q2⟩:=hz9;subst ex;obtain rfl:ov=Value.ref a:=rx;exact ue I2 ea S n ry fun d s3 hd I3=>⟨σ,_,I3,q2 d hd⟩
open PySem PySem.Spec PyProof.Rows PySem.W
def del(H:Hp)(a:Addr):Hp:=fun b=>if b=a then none else H b
theorem qB{H:Hp}{a:Addr}:del H a a=none:=by unfold del;rw[yn rfl]
theorem cw{H:Hp}{a b:Addr}(h:b≠a):del H a b=H b:=by unfold del;rw[ym h]
theorem pv{H:Hp}{a b:Addr}{u:HO}(h:del H a b=some u):b≠a/\H b=some u:=by
 by_cases c:b=a
 ·rw[c,qB]at h;cases h
 ·rw[cw c]at h;exact⟨c,h⟩
open PySem PySem.Spec PyProof.Rows PySem.W
def kZ(K:PySem.W.Frag)(C fI:Addr):Bool:=match K.lookup C with
 | some ⟨.type "type",_,.cls cd,sl⟩=>(match cd.mro,sl.toList with
  |.ref C'::bm,[_,_,_,_,some (.builtin n),_]=>C'==C&&n=="ValueError.__new__"&&!cd.hasDel&&tailIn K VE bm&&nsOkIn K cd.ns&&nsIn K cd.ns "__init__" == some (some (.ref fI))
  | _,_=>false)
 |_=>false
theorem nG{K:PySem.W.Frag}{h:Heap}{N:Addr}{m:Str->Option Value}{n:Str}{v:Value}(X:K.In h)(G:h.Ns N m)(e:nsIn K N n=some (some v)):m n=some v:=by
 obtain⟨o,es,ep,ho,hd,_,hf⟩:=G;unfold nsIn at e;split at e
 ·rename_i c d es' n' sl q;have:=X _ _ q;rw[ho]at this;cases this;cases hd;split at e
  ·rename_i en he;cases e;rw[<-hf];unfold nsFind findBy;rw[<-Array.find?_toList,he];rfl
  ·split at e<;>cases e
 ·cases e
structure ExcAtI(K:PySem.W.Frag)(C fI:Addr)(bm:List Value):Prop where
 isIn:kZ K C fI=true
 mro:∃c d cd sl,K.lookup C=some ⟨c,d,.cls cd,sl⟩/\cd.mro=Value.ref C::bm
 exc:bm.contains (.type "BaseException")=true
 fn:∃oI,K.lookup fI=some oI/\oI.cls=.type "function"
theorem iG{K:PySem.W.Frag}{C fI:Addr}{bm:List Value}(q:ExcAtI K C fI bm){h:Heap}(X:K.In h) :
  ∃nm qn N bs hdct sn sub ab col dd k0 k1 k2 k3 k5 mN,h.get? C=some (excClassObj nm qn C N bs bm hdct sn sub ab col dd k0 k1 k2 k3 k5 "ValueError.__new__")/\h.Ns N mN/\mN "__init__" = some (.ref fI)/\OwnTail h VE bm:=by
 have q1:=q.isIn;obtain⟨c9,d9,cd9,sl9,l9,m9⟩:=q.mro;unfold kZ at q1;split at q1
 ·rename_i dd cd sl ho;split at q1
  ·rename_i C' bm' k0 k1 k2 k3 n k5 hm hs;have q2:cd.mro=Value.ref C::bm:=by have z:=ho.symm.trans l9;cases z;exact m9
   rw[hm]at q2;injection q2 with z1 z2;injection z1 with z1;cases z1;cases z2;simp only[zw,zH,Bool.not_eq_true']at q1;obtain⟨⟨⟨⟨⟨_,rfl⟩,nd⟩,ht⟩,ok⟩,ni⟩:=q1;have es:sl=#[k0,k1,k2,k3,some (.builtin "ValueError.__new__"),k5]:=by obtain⟨l⟩:=sl;simp only at hs;rw[hs]
   cases es;obtain⟨nm,bs,mro,ns,qn,hd,sn,sub,ab,col,del⟩:=cd;dsimp only at hm nd ok ni;cases hm;cases nd;have G:h.Ns ns _:=.of_isNs (isNs_of_in X ok);exact⟨nm,qn,ns,bs,hd,sn,sub,ab,col,dd,k0,k1,k2,k3,k5,_,X _ _ ho,G,nG X G ni,tail_of_in X ht⟩
  ·cases q1
 ·cases q1
theorem mB{K:PySem.W.Frag}{C fI:Addr}{bm:List Value}(q:ExcAtI K C fI bm):ExC K C bm where
 cls:=fun h X=>by obtain⟨nm,qn,N,bs,hdct,sn,sub,ab,col,dd,k0,k1,k2,k3,k5,mN,e,_⟩:=iG q X;exact⟨nm,qn,N,bs,hdct,sn,sub,ab,col,dd,k0,k1,k2,k3,k5,_,e⟩
 exc:=q.exc
structure ExI(P:Program)(w:World)(K:PySem.W.Frag)(mg:Str->Option Value)(base:Heap)(k:Nat)(C:Addr)(bm:List Value)(ps:List Str)(sp:Sp):Prop where
 ex:∃fI fd,ExcAtI K C fI bm/\FnOk P w K mg base CX0 k fI fd ps sp/\Binds K fd ps []
section
variable{X:Cx}{pins:List (Addr×Obj)}{σ:St}{H:Hp}{s:Shared}
theorem Inv.excMade{h':Heap}{e c t:Addr}(I:Inv X pins σ H s)(kp:∀b o,s.heap.get? b=some o->h'.get? b=some o)(hn:s.heap.get? e=none)(he:h'.get? e=some { cls:=.ref c,data:=.fields #[.ref t,.none,.none,.none,.bool false,.none] }) :
  H e=none/\Inv X pins σ (upd H e (exN e c t none)) { s with heap:=h' }:=by
 have h0:H e=none:=by
  cases q:H e with
  |none=>rfl
  |some u =>obtain⟨o,z⟩:=dM (I.hok e u q);rw[hn]at z;cases z
 have nb:∀b o,s.heap.get? b=some o->b≠e:=fun b o q z=>by rw[z,hn]at q;cases q
 refine⟨h0,I.un (t':=s.toks) ⟨fun b o q _ _ _=>kp b o q,fun b o q _ _ _=>⟨o.slots,kp b o q⟩,fun b o q m _=>by rw[ag (nb b o q)];exact m,fun b o q _=>⟨o,kp b o q⟩,fun b xs q=>by rw[ag (ax q h0)];exact q,fun b o v q=>by rw[ag (ax q h0)];exact q,fun b ps q=>⟨#[],by rw[ag (ax q h0),q];simp⟩⟩ fun b u q=>?_⟩;by_cases hb:b=e
 ·subst hb;rw[aa]at q;cases q;exact oN he
 ·rw[ag hb]at q;exact(I.hok b u q).stay (fun b' v _ q'=>kp b' v q') (fun b' z=>by rw[ag (ax z h0)];exact z) fun b' xs z=>by rw[ag (ax z h0)];exact z
end
section
variable{X:Cx}{EC:Value->Option Addr->Hp->Prop}{C:Addr}{bm:List Value}{k:Nat}{ps:List Str}{sp:Sp}{x:Str}{np cpos pos:Pos}{e:Expr}{es:List Expr}{ta:TA}
def mP(sp:Sp)(C:Addr)(EC:Value->Option Addr->Hp->Prop)(ta:TA):TS:=fun _ σ H=>ta σ H fun vs H1=>vs.length<=sizeLine/\∀ea t,H1 ea=none->H1 t=none->t≠ea ->
 sp (.ref ea::vs) (upd H1 ea (exN ea C t none)) (fun v H2=>v=.non/\∃dc,H2 ea=some (exN ea C t dc)/\EC (.ref C) dc (del H2 ea)) E0
end
open PySem PySem.Spec PyProof.Rows PySem.W
structure MFnX(P:Program)(w:World)(K:PySem.W.Frag)(mg:Str->Option Value)(base:Heap)(k:Nat)(C:Addr)(m:Str)(ps:List Str)(sp:Sp):Prop where
 cl:Cls K C
 ex:∃f fd,FnOk P w K mg base (CXr P w) k f fd ps sp/\Meth K C m f/\Binds K fd ps []
section
variable{X:Cx}{k:Nat}{C:Addr}{m x:Str}{p pos apos:Pos}{o e:Expr}{es:List Expr}{ps:List Str}{sp:Sp}{t:TA}{ta:TE}{E:XK}
theorem gM{pl:Sem Bool}(F:MFnX X.prog X.w X.K X.mg X.base k C m ps sp)(hx:bW (CXr X.prog X.w) X E)(hr:Room k X.A)(he:QE X o ta)(ha:QA X (e::es) t)(hs:(e::es).all aT=true:=by rfl)(ht:eval (.Call (.Attribute o m apos) (e::es) [] pos) X.env=(do
   let ov ←eval o X.env
   standAt apos.atName
   let(f,first) ←holding [ov] (getMethod ov m pl)
   callWith pos f first (backTo pos (starEach (e::es) X.env)) (backToKw pos (keywordEach [] X.env))):=by rfl) :
  QE X (.Call (.Attribute o m apos) (e::es) [] pos) (gR C m sp [] E ta t):=by
 obtain⟨f,fd,G,hm,b⟩:=F.ex;rw[Zb,zw]at hs;exact⟨mI (pl:=pl) he.h F.cl hm G hr b .nil hx ha.h (aO hs.1) (bj hs.2) ht⟩
theorem eh(F:FnX X.prog X.w X.K X.mg X.base k x ps sp)(hx:bW (CXr X.prog X.w) X E)(hr:Room k X.A)(ha:QA X (e::es) t)(hg:Gl X x:=by rfl)(hs:(e::es).all aT=true:=by rfl)(hdb:(x==("__debug__":Str))=false:=by decide) :
  QE X (.Call (.Name x p) (e::es) [] pos) (gQ sp [] E t):=by
 obtain⟨f,fd,G,hm,kp,b⟩:=F.ex;rw[Zb,zw]at hs;exact⟨mH G hr hg hm kp b .nil hx ha.h hdb (aO hs.1) (bj hs.2)⟩
end
def exD(ea c:Addr)(dc:Option Addr):HO:=.ext fun h=>∃oe,h.get? ea=some oe/\oe.cls=.ref c/\oe.dict=dc/\notCls oe=true
theorem Fl.trackD{X:Cx}{pins:List (Addr×Obj)}{σ:St}{H0 H':Hp}{s0 s':Shared}{B:Heap}{ea t c:Addr}{dc:Option Addr}(F:Fl X H0 H' s0 s' B)(I0:Inv X pins σ H0 s0)(fly:Heap.FlyingW B X.stack ea (.ref c) (.ref t) s'.heap)(hd:∃oe,s'.heap.get? ea=some oe/\oe.cls=.ref c/\oe.dict=dc/\notCls oe=true) :
  H' ea=none/\Inv X pins σ (upd H' ea (exD ea c dc)) s':=by
 have I:=F.inv I0;obtain⟨oe,vs,he,hc,hf,_⟩:=fly.first;have nfr:ea∉frs X.stack:=fun hm=>by obtain⟨_,o',ho',hd'⟩:=I.stack.mem hm;have e:s'.heap.get? ea=some o':=ho';rw[he]at e;cases e;exact hd' vs hf
 have hB:B.get? ea=none:=fly.2.1;have hn:H' ea=none:=by
  cases q:H' ea with
  |none=>rfl
  |some u =>have:=F.kb ea oe nfr (.inl ⟨u,q⟩) he;rw[hB]at this;cases this
 have h0:s0.heap.get? ea=none:=by
  cases q:s0.heap.get? ea with
  |none=>rfl
  |some o0 =>have:=F.kb ea oe nfr (.inr ⟨o0,q⟩) he;rw[hB]at this;cases this
 have ne0:∀b o,s0.heap.get? b=some o->b≠ea:=fun b o q z=>by rw[z,h0]at q;cases q
 have neH:∀b u,H' b=some u->b≠ea:=fun b u q z=>by rw[z,hn]at q;cases q
 refine⟨hn,⟨I.ok,I.os,I.bare,⟨I.base.keep,I.base.slot,fun b o q n hx=>?_,I.base.there,fun b xs q=>?_,fun b o u q=>?_,fun b ps q=>?_⟩,I.loc,I.cell,?_,fun x c' q=>?_,fun p hp=>?_,fun b u q=>?_,I.len⟩⟩
 ·obtain⟨o',q'⟩:=I0.base.there b o q hx;rw[ag (ne0 b o' q')];exact I.base.free b o q n hx
 ·have:=I.base.tups b xs q;rw[ag (neH _ _ this)];exact this
 ·have:=I.base.frzs b o u q;rw[ag (neH _ _ this)];exact this
 ·obtain⟨more,this⟩:=I.base.tbls b ps q;exact⟨more,by rw[ag (neH _ _ this)];exact this⟩
 ·obtain⟨m,⟨o,_,_,ho,_⟩,_⟩:=I0.loc;rw[ag (ne0 _ o ho)];exact I.free
 ·obtain⟨v,o,ho,_⟩:=I0.cell x c' q;rw[ag (ne0 _ o ho)];exact I.freeC x c' q
 ·obtain⟨e,n,ne,nf,d⟩:=I.pin p hp;refine⟨e,?_,ne,nf,d⟩;rw[ag (ne0 _ _ (I0.pin p hp).1)];exact n
 ·by_cases hb:b=ea
  ·subst hb;rw[aa]at q;cases q;obtain⟨o1,a1,a2,a3,a4⟩:=hd;exact⟨⟨o1,a1,a2,a3,a4⟩,⟨o1,a1⟩,fun h1 h2 ⟨o2,b1,b2,b3,b4⟩ k=>⟨o2,k o2 b1,b2,b3,b4⟩⟩
  ·rw[ag hb]at q;refine(I.hok b u q).stay (fun _ _ _ z=>z) (fun d z=>?_) fun d xs z=>?_
   ·rw[ag (neH _ _ z)];exact z
   ·rw[ag (neH _ _ z)];exact z
def xR(K:PySem.W.Frag)(i:Nat)(Ch:Addr)(ts:TS):TH:=fun D σ C dc H'=>∃c bm,C=.ref c/\ExC K c bm/\(Value.ref c::bm).contains (.ref Ch)=true/\∀ea,H' ea=none ->
 ts { nx:=fun σ2 H2=>D.nx (σ2.set i none) H2,rt:=D.rt,bk:=fun σ2 H2=>D.bk (σ2.set i none) H2,ct:=fun σ2 H2=>D.ct (σ2.set i none) H2 } (σ.set i (some (.ref ea))) (upd H' ea (exD ea c dc))
section
variable{X:Cx}
theorem wR{i:Nat}{x n:Str}{Ch:Addr}{bmh:List Value}{b0:Stmt}{suite:List Stmt}{ts:TS}{np pos:Pos}{rest:List ExceptHandler}(hN:X.N.Nodup)(cl:ExC X.K Ch bmh)(hm:X.mg x=some (.ref Ch))(hs:∀e,QB (X.exc e) (b0::suite) ts)(hi:X.N[i]?=some n:=by rfl)(hl:X.env.kindOf n=some .local:=by rfl)(hg:Gl X x:=by rfl)(hdb:(x==("__debug__":Str))=false:=by decide) :
  QH X (.ExceptHandler (some (.Name x np)) (some n) (b0::suite) pos::rest) (xR X.K i Ch ts):=by
 refine⟨?_⟩;rintro pins s0 H0 σ D ea t C B H' dc s' I0 F fly hd ⟨c,bm,rfl,ec,hc,q⟩;have I:=F.inv I0;refine wpAny_handleBy_cons (codeAny_handlers_test ?_) (by intro z;cases z);refine dF (X:=X.exc (.ref ea)) (I.exc _) hg hm ?_ hdb;obtain⟨oe,he,hcl⟩:=fly.there;refine me ec cl I.kIn he hcl ?_;rw[hc];refine codeAny_handlers_suite_as ?_;obtain⟨f1,f2,f3,f4⟩:=fly;refine fe f1 f3 f4.at hd fun h6 k1 k2 k3 up6 hd6=>?_;have fly6:Heap.FlyingW B X.stack ea (.ref c) (.ref t) h6:=⟨k1,f2,k2,k3⟩
 have F6:=F.move (tk:=s'.toks) I0 fly6.1 up6;have hx6:∃oe,h6.get? ea=some oe/\oe.cls=.ref c/\oe.dict=dc/\notCls oe=true:=by obtain⟨oe,vs,z1,z2,z3,_⟩:=fly6.first;obtain⟨o2,y1,y2⟩:=hd6;cases zt (z1.symm.trans y1);exact⟨oe,z1,z2,y2,by unfold notCls;rw[z3]⟩
 obtain⟨hn,I6⟩:=F6.trackD I0 fly6 hx6;refine fB I6 hN hi (.inl hl) (v:=.ref ea) (u:=.ref ea) rfl (fun s7 I7=>?_) (.inr hl);refine zY ((hs (.ref ea)).h pins s7 _ _ _ (I7.exc _) (q ea hn)) (fun f s8 sp=>?_) (fun _ _ z=>False.elim z);cases f with
 |next =>obtain⟨σ2,H2,I8,q8⟩:=sp;exact dZ (I8.unexc I0.ok) hN hi hl fun s9 I9=>⟨_,H2,I9,q8⟩
 |brk =>obtain⟨σ2,H2,I8,q8⟩:=sp;exact dZ (I8.unexc I0.ok) hN hi hl fun s9 I9=>⟨_,H2,I9,q8⟩
 |cont =>obtain⟨σ2,H2,I8,q8⟩:=sp;exact dZ (I8.unexc I0.ok) hN hi hl fun s9 I9=>⟨_,H2,I9,q8⟩
 |ret u =>obtain⟨v,σ2,H2,I8,r8,q8⟩:=sp;exact dZ (I8.unexc I0.ok) hN hi hl fun s9 I9=>⟨v,_,H2,I9,r8,q8⟩
end
open PySem PySem.Spec PyProof.Rows PySem.W
section
variable{K:PySem.W.Frag}{prog:Program}{w:World}{A:Around}{E:Value->Shared->Prop}{h:Heap}{g:Array GenState}{d:Drawn}{t:Nat}{os:OsState}{x D:Addr}{ox:Obj}{od:Option Obj}
theorem iF{tk:Tok}{Q:PySem.Fin->Shared->Prop}(X:K.In h)(I:InstAt h x ox D od)(ha:findIn K (.ref D) "__class__" = some (some (.builtin "object.__class__")))(hm:mroIn K D (.type "object")=some true)(hq:Q (.done (.ret (.ref D))) ⟨h,g,d,t,os⟩):wpAny (model prog w) A (Builtin.«object.__getattribute__» ⟨[.ref x,.str "__class__" tk],[]⟩) Q E ⟨h,g,d,t,os⟩:=by
 have hT5:(⟨h,g,d,t,os⟩:Shared).TypeIs (.builtin "object.__class__") "getset_descriptor":=F.typeOf_object_class;have L0:=I.type (M:=model prog w);have L3:=looks_findIn (M:=model prog w) X ha;have f5:=F.typeOf_object_class;have f6:=F.slot_gs_get.lookup;have f7:=F.slot_gs_set.lookup
 repeat(any_goals(first|assumption|with_reducible refine L0.at ?_|with_reducible refine L3.at ?_|wp_step))
 refine class_get (s:=⟨h,g,d,t,os⟩) X I hm ?_
 repeat(any_goals(first|assumption|wp_step))
theorem iE{M:Model}{nv:Value}{Q:Unit->Shared->Prop}(X:K.In h)(I:InstAt h x ox D od)(hb:mroIn K D (.type "BaseException")=some true)(hq:Q () ⟨h,g,d,t,os⟩) :
  wpAny M A (checkBuiltinCall "BaseException.__getattribute__" ⟨[.ref x,nv],[]⟩) Q E ⟨h,g,d,t,os⟩:=by
 have hk:builtinKind "BaseException.__getattribute__" = some .slot:=by decide +kernel
 have hs:splitId "BaseException.__getattribute__" = some ("BaseException","__getattribute__"):=by decide +kernel
 have ao:=F.args_bexc_ga (.ref x) nv;have L0:=I.type (M:=M);have L1:=looks_mroIn (M:=M) X hb;simp only[checkBuiltinCall,hk,hs];refine zc ?_;unfold isInstance
 repeat(first|with_reducible refine L0.at ?_|with_reducible refine L1.at ?_|wp_step)
 exact hq
theorem nq{Q:Option Value->Shared->Prop}(X:K.In h)(I:InstAt h x ox D od)(hga:findIn K (.ref D) "__getattribute__" = some (some (.builtin "BaseException.__getattribute__")))(hgh:findIn K (.ref D) "__getattr__" = some none)(ha:findIn K (.ref D) "__class__" = some (some (.builtin "object.__class__")))(hb:mroIn K D (.type "BaseException")=some true)(hm:mroIn K D (.type "object")=some true)(hq:Q (some (.ref D)) ⟨h,g,d,t+1,os⟩) :
  wpAny (model prog w) A (getAttr? (.ref x) "__class__") Q E ⟨h,g,d,t,os⟩:=by
 have L0:=I.type (M:=model prog w);have L1:=looks_findIn (M:=model prog w) X hga;have L2:=looks_findIn (M:=model prog w) X hgh;have f3:=F.excAttr_ValueError.ga.bind (.ref x);have ne:(Value.builtin "BaseException.__getattribute__" == Value.builtin "object.__getattribute__")=false:=by decide +kernel
 have ne1:(onTheHeap (Value.ref D)&&Value.builtin "BaseException.__getattribute__" == Value.builtin "object.__getattribute__")=false:=by rw[ne];rfl
 have ne2:(false&&onTheHeap (Value.builtin "BaseException.__getattribute__"))=false:=rfl;unfold getAttr? getAttrBy?
 repeat(any_goals(first|assumption|with_reducible refine L0.at ?_|with_reducible refine L1.at ?_|with_reducible refine L2.at ?_|wp_step))
 refine codeAny_call_builtin F.excAttr_ValueError.ga.plain F.entry_bexc_ga (iE X I hb (iF X I ha hm ?_))
 repeat(any_goals(first|assumption|wp_step))
theorem oO{tk:Tok}{name:Str}{v:Value}{Q:PySem.Fin->Shared->Prop}(X:K.In h)(I:InstAt h x ox D od)(hf:findObj K D od name=some (.value v))(hq:Q (.done (.ret v)) ⟨h,g,d,t,os⟩):wpAny (model prog w) A (Builtin.«object.__getattribute__» ⟨[.ref x,.str name tk],[]⟩) Q E ⟨h,g,d,t,os⟩:=by have L0:=I.type (M:=model prog w);have L3:=looks_find (M:=model prog w) X I hf;refine zc (zu (zc (zu (zc (L0.at (zc (L3.at ?_)))))));exact zu hq
theorem qC{name:Str}{v:Value}{expr:Bool}{Q:Value->Shared->Prop}(X:K.In h)(I:InstAt h x ox D od)(hga:findIn K (.ref D) "__getattribute__" = some (some (.builtin "BaseException.__getattribute__")))(hgh:findIn K (.ref D) "__getattr__" = some none)(hb:mroIn K D (.type "BaseException")=some true)(hf:findObj K D od name=some (.value v))(hv:handedIn v=true)(hq:Q v ⟨h,g,d,t+1,os⟩) :
  wpAny (model prog w) A (getAttr (.ref x) name expr) Q E ⟨h,g,d,t,os⟩:=by
 have L0:=I.type (M:=model prog w);have L1:=looks_findIn (M:=model prog w) X hga;have L2:=looks_findIn (M:=model prog w) X hgh;have f3:=F.excAttr_ValueError.ga.bind (.ref x);have hx0:(expr&&onTheHeap (Value.builtin "BaseException.__getattribute__"))=false:=by cases expr<;>rfl
 have ne:(Value.builtin "BaseException.__getattribute__" == Value.builtin "object.__getattribute__")=false:=by decide +kernel
 have ne1:(onTheHeap (Value.ref D)&&Value.builtin "BaseException.__getattribute__" == Value.builtin "object.__getattribute__")=false:=by rw[ne];rfl
 have hh:=handedOut_of hv;unfold getAttr getAttrBy
 repeat(any_goals(first|assumption|with_reducible refine L0.at ?_|with_reducible refine L1.at ?_|with_reducible refine L2.at ?_|wp_step))
 refine codeAny_call_builtin F.excAttr_ValueError.ga.plain F.entry_bexc_ga (iE X I hb (oO X I hf ?_))
 repeat(any_goals(first|assumption|wp_step))
end
theorem ph{K:PySem.W.Frag}{x c:Addr}{ox:Obj}{od:Option Obj}(k:ExK K c):KitX K (.ref x) (.ref c) (fun h=>InstAt h x ox c od) where
 ty:=fun _ _ _ I=>I.type
 it:=fun _ _ X _=>by
  obtain⟨cd,hc⟩:=Option.isSome_iff_exists.mp k.hc;unfold clsIn at hc;split at hc
  ·rename_i ho;intro A' Q' E' s' kp q;unfold isType loadHead;exact zc (wpAny_loadPart (kp _ _ (X _ _ ho)) (zu q))
  ·cases hc
 ne:=fun h tp dd its n sl X htp=>by
  obtain⟨cd,hc⟩:=Option.isSome_iff_exists.mp k.hc;refine Bool.eq_false_iff.mpr fun q=>?_;have e:c=tp:=Value.ref.inj (zH.mp q);cases e;unfold clsIn at hc;split at hc
  ·rename_i ho;exact nomatch((X _ _ ho).symm.trans htp)
  ·cases hc
 ca:=fun{_ _ _ _ _ s} X I kq=>by obtain⟨hp,g,d,tt,os⟩:=s;exact nq X I k.hga k.hgh k.ha k.hb k.hm kq
def qi(H:Hp):Option Addr->Prop
 |none=>True
 |some d=>∃fs,H d=some (.xd fs)
section
variable{X:Cx}{pins:List (Addr×Obj)}{σ:St}{H:Hp}{s:Shared}
theorem jL{a c:Addr}{dc:Option Addr}(I:Inv X pins σ H s)(ha:H a=some (exD a c dc))(hd:qi H dc):∃oe od,InstAt s.heap a oe c od/\∀d,dc=some d->∃o,od=some o/\s.heap.get? d=some o:=by
 obtain⟨⟨oe,h1,h2,h3,h4⟩,_⟩:=(show ObjOk X.prog X.w H s.heap a (exD a c dc)from I.hok a _ ha)
 cases dc with
 |none=>exact⟨oe,none,⟨h1,h2,h4,by rw[h3];exact True.intro⟩,fun d z=>nomatch z⟩
 |some d =>obtain⟨fs,hf⟩:=hd;obtain⟨o,ho⟩:=dM (I.hok d _ hf);exact⟨oe,some o,⟨h1,h2,h4,by rw[h3];exact ho⟩,fun d' z=>by cases z;exact⟨o,rfl,ho⟩⟩
def sd(K:PySem.W.Frag)(ta:TE)(f:Str):TE:=fun σ H Q=>ta σ H fun x H1=>∃a c d fs v,x=.ref a/\H1 a=some (exD a c (some d))/\H1 d=some (.xd fs)/\ExK K c/\hasDictIn K c=true/\NoAttr K c f/\fs.lookup f=some v/\Q v H1
theorem lF{e:Expr}{f:Str}{pos:Pos}{ta:TE}(he:QE X e ta)(hb:attributeBase e f X.env (eval e X.env)=eval e X.env:=by rfl):QE X (.Attribute e f pos) (sd X.K ta f):=by
 refine⟨?_⟩;intro pins s σ H Q I h;refine mq hb (thn (he.h pins s σ H _ I h) fun u s1 hz9=>?_);obtain⟨x,H1,I1,rx,a,c,d,fs,v,ex,ea,ed,k,hh,n,l,q⟩:=hz9;subst ex;obtain rfl:u=Value.ref a:=rx;obtain⟨oe,od,ia,hod⟩:=jL I1 ea ⟨fs,ed⟩;obtain⟨o,rfl,ho⟩:=hod d rfl;obtain⟨mA,hn,hr⟩:=(show ObjOk X.prog X.w H1 s1.heap d (.xd fs)from I1.hok d _ ed)
 obtain⟨o2,ho2,hl⟩:=jQ hn;cases zt (ho.symm.trans ho2);obtain⟨u',hu,ru⟩:=RelO.some_of (v:=v) (o:=mA f) (by rw[<-l];exact hr f);obtain⟨hp,g,dr,tk,os⟩:=s1;exact qC I1.kIn ia k.hga k.hgh k.hb (findObj_own hh n rfl (by rw[hl,hu])) (jN ru) ⟨v,H1,I1.tok (tk+1),ru,q⟩
end
open PySem PySem.Spec PyProof.Rows PySem.W
def sk(X:Cx)(B:Heap)(ea:Addr)(C:Value)(t:Addr)(h:Heap):Prop :=
 (B.StaysIn h/\B.get? ea=none/\h.FunFrames B X.stack/\∃oe,h.get? ea=some oe/\oe.cls=C/\oe.data=.fields #[.ref t,.none,.none,.none,.bool false,.none]) \/
 Heap.FlyingW B X.stack ea C (.ref t) h\/Heap.HeldW B X.stack ea C (.ref t) X.env.locals h
def mU(X:Cx)(E:XK)(ea:Addr)(s':Shared):Prop:=∃(pins:List (Addr×Obj)) (σ:St) (H0 H':Hp) (s0:Shared) (B:Heap) (t:Addr) (C:Value) (vs:List Value) (dc:Option Addr),
 Inv X pins σ H0 s0/\Fl X H0 H' s0 s' B/\sk X B ea C t s'.heap/\s'.heap.TupAt t vs/\B.get? t=none/\bM s'.heap ea dc/\E C dc H'
section
variable{M:Model}{A:Around}{E:Value->Shared->Prop}{s:Shared}{base:Heap}{l:List Env}{L e:Addr}
theorem oQ{cls a0 fl:Value}{dc:Option Addr}{Q:Unit->Shared->Prop}(kb:base.StaysIn s.heap)(ff:s.heap.FunFrames base l)(tr:s.heap.TracedAtW base e cls a0 fl)(dd:bM s.heap e dc)(k:∀h',base.StaysIn h'->h'.FunFrames base l->h'.TracedAtW base e cls a0 (rawInt L)->s.heap.UpToSlots h'->bM h' e dc->Q () { s with heap:=h' }):wpAny M A (setFlight (.ref e) (some L)) Q E s:=by
 obtain⟨oe,vs,T,oT,ts,he,hc,dt,v1,nT,ne,hT,dT,t3⟩:=tr;have z3:3<ts.size:=(Array.getElem?_eq_some_iff.mp t3).1;have oth:∀b,b≠T->(s.heap.update T (Obj.mapFields (·.setIfInBounds 3 ((some L:Option Addr).elim Value.none fun f=>rawInt f)))).get? b=s.heap.get? b:=fun b n=>z7 _ _ (z5 n);have nrec:∀b o,s.heap.get? b=some o->(∀ws,o.data≠.fields ws)->b≠T:=fun b o q hn z=>by subst z;cases zt (hT.symm.trans q);exact hn ts dT
 unfold setFlight;refine zc (wpAny_field he dt v1 ?_);rw[yn (by simp:(Value.ref T != Value.none)=true)];refine wpAny_setField hT dT z3 (k _ (fun b o q=>(oth b fun z=>nomatch((z▸q).symm.trans nT)).trans (kb b o q)) (ff.of_keeps fun b o q hn=>⟨o,(oth b (nrec b o q hn)).trans q,rfl⟩) ?_ (fun b o q hn=>⟨o.slots,(oth b (nrec b o q hn)).trans q⟩) ?_)
 ·exact⟨oe,vs,T,_,_,(oth e (z5 ne)).trans he,hc,dt,v1,nT,ne,Heap.get?_update_self _ hT (Obj.isFreed_of_fields (Obj.data_mapFields dT _)),Obj.data_mapFields dT _,by simp[z3]⟩
 ·obtain⟨o,q,d⟩:=dd;exact⟨o,(oth e (z5 ne)).trans q,d⟩
end
section
variable{X:Cx}{E:XK}{ea:Addr}{s':Shared}{EE:Value->Shared->Prop}
theorem iB{Q:Unit->Shared->Prop}(hst:X.stack=X.env::X.outer)(hfr:X.env.frame=some X.env.locals)(x:mU X E ea s')(k:∀ h',(∃ (pins:List (Addr×Obj)) (σ:St) (H0 H':Hp) (s0:Shared) (B:Heap) (t:Addr) (C:Value) (vs:List Value) (dc:Option Addr),
   Inv X pins σ H0 s0/\Fl X H0 H' s0 { s' with heap:=h' } B/\Heap.HeldW B X.stack ea C (.ref t) X.env.locals h'/\h'.TupAt t vs/\B.get? t=none/\bM h' ea dc/\E C dc H')->Q () { s' with heap:=h' }) :
  wpAny (model X.prog X.w) X.A (noteFrame (.ref ea) X.env) Q EE s':=by
 obtain⟨pins,σ,H0,H',s0,B,t,C,vs,dc,I0,F,st,tup,hBt,dd,q⟩:=x;have fr:X.A.frames=some (X.env::X.outer):=by rw[<-hst];exact I0.ok.frames
 rcases st with⟨f1,f2,f3,oe,he,rfl,hd⟩|fly|held
 ·unfold noteFrame;simp only[hfr];refine zc (wpAny_field he hd (show _=some Value.none from rfl) ?_);rw[ym (by decide)];rw[hst]at f3;refine gY (a0:=.ref t) fr f3 hfr he f1 f2 hd (by simp) rfl fun h1 nt dd1=>?_;obtain⟨n1,n2,n3,n4⟩:=nt;rw[<-hst]at n2;obtain⟨o9,q9,d9⟩:=dd;cases zt (he.symm.trans q9);rw[d9]at dd1;exact k h1 ⟨pins,σ,H0,H',s0,B,t,_,vs,dc,I0,F.move (tk:=s'.toks) I0 n1 n4,⟨n1,f2,n2,n3⟩,tup.of_slots n4,hBt,dd1,q⟩
 ·rw[hst]at fly;refine iO fr hfr fly dd fun h1 held up dd1=>?_;rw[<-hst]at held;exact k h1 ⟨pins,σ,H0,H',s0,B,t,C,vs,dc,I0,F.move (tk:=s'.toks) I0 held.1 up,held,tup.of_slots up,hBt,dd1,q⟩
 ·exact wpAny_noteFrame_againW hfr held.2.2.2 (k s'.heap ⟨pins,σ,H0,H',s0,B,t,C,vs,dc,I0,F,held,tup,hBt,dd,q⟩)
def Mid(X:Cx)(E:XK):Value->Shared->Prop:=fun e s'=>∃ea,e=.ref ea/\mU X E ea s'
theorem iS(hst:X.stack=X.env::X.outer)(hfr:X.env.frame=some X.env.locals):PassesOwn (model X.prog X.w) X.A X.env (Mid X E):=by rintro e s' ⟨ea,rfl,x⟩;refine iB hst hfr x ?_;rintro h1 ⟨pins,σ,H0,H',s0,B,t,C,vs,dc,I0,F,held,tup,hBt,dd,q⟩;obtain⟨f1,f2,f3,f4⟩:=held;obtain⟨oe,us,T,oT,ts,he,hc,dt,v1,nT,ne,hT,dT,t3⟩:=id f4;unfold cameBackBy;refine zc (wpAny_field he dt v1 ?_);rw[ym (by simp)];rw[hfr];refine oQ (s:={ s' with heap:=h1 }) f1 f3 f4 dd fun h2 k1 k2 k3 up dd2=>?_;exact⟨ea,rfl,pins,σ,H0,H',s0,B,t,C,vs,dc,I0,F.move (tk:=s'.toks) I0 k1 up,.inr (.inr ⟨k1,f2,k2,k3⟩),tup.of_slots up,hBt,dd2,q⟩
end
def eO(X:Cx)(E:XK):Prop:=∀ea s',mU X E ea s'->X.xe (.ref ea) s'
theorem gZ{X:Cx}{E:XK}:eO (X.wish (Mid X E)) E:=by rintro ea s' ⟨pins,σ,H0,H',s0,B,t,C,vs,dc,I0,F,st,r⟩;exact⟨ea,rfl,pins,σ,H0,H',s0,B,t,C,vs,dc,I0.unwish,⟨F.os,F.bare,F.un,F.hok,F.kb⟩,st,r⟩
section
variable{P:Program}{w:World}{K:PySem.W.Frag}{mg:Str->Option Value}{base:Heap}{N:List Str}{qual:Str}{scope:Scope}{f:Addr}{cd:Value}{A:Around}{outer:List Env}{s:Shared}{H:Hp}{E:XK}
theorem aM:eO (cX (CXr P w) P w K mg base N qual scope f cd A outer s H E) E:=by
 intro ea s' x;show wpAny (model P w) (A.deeper (envOfC qual scope s.heap.objs.size f cd)) (leaving (envOfC qual scope s.heap.objs.size f cd) (.ref ea)) _ _ _;unfold leaving;refine zc (iB (X:=cX (CXr P w) P w K mg base N qual scope f cd A outer s H E) rfl rfl x ?_);rintro h1 ⟨pins,σ,H0,H',s0,B,t,C,vs,dc,I,F,held,tup,hBt,dd,q⟩;obtain⟨f1,f2,f3,f4⟩:=held;refine fe (s:={ s' with heap:=h1 }) f1 f3 f4 dd fun h2 k1 k2 k3 up dd2=>?_;have F2:=F.move (tk:=s'.toks) I k1 up;have I2:=F2.inv I;have hL:∀b o,s.heap.get? b=some o->b≠s.heap.objs.size:=fun b o q=>zC (zo q);have nfr:∀b,b∉frs outer->b≠s.heap.objs.size->b∉frs (envOfC qual scope s.heap.objs.size f cd::outer):=fun b h1 h2 hm=>by
  rcases zl.mp (I.stkSub b hm)with z|z
  ·exact h2 z
  ·exact h1 z
 obtain⟨_,_,k2'⟩:=k2;refine⟨ea,t,C,vs,B,H',dc,rfl,I2.os,F2.bare,⟨fun b o q n hb _=>?_,fun b o q n hb _=>?_,fun b o q n _=>?_,fun b o q _=>?_,I2.base.tups,I2.base.frzs,I2.base.tbls⟩,F2.hok,⟨k1,f2,k2',k3⟩,tup.of_slots up,hBt,fun b o hb ho q=>?_,dd2,q⟩
 ·exact I2.base.keep b o q n hb (by intro z;cases z)
 ·exact I2.base.slot b o q n hb (by intro z;cases z)
 ·exact I2.base.free b o q n (by intro z;cases z)
 ·exact I2.base.there b o q (by intro z;cases z)
 ·refine F2.kb b o ?_ ?_ q
  ·rcases ho with⟨u,z⟩|⟨o0,z⟩
   ·exact F2.nf I z
   ·exact nfr b hb (hL b o0 z)
  ·rcases ho with⟨u,z⟩|⟨o0,z⟩
   ·exact .inl ⟨u,z⟩
   ·exact .inr (I.base.there b o0 z (by intro z;cases z))
end
section
variable{X:Cx}{E:XK}
theorem bY(hR:eO X E):bW (CXr X.prog X.w) X E:=fun pins σ H s e s' I x=>by obtain⟨ea,t,C,vs,B,H',dc,rfl,os,bare,un,hok,fly,tup,hBt,kb,dd,q⟩:=x;exact hR ea s' ⟨pins,σ,H,H',s,B,t,C,vs,dc,I,⟨os,bare,un,hok,kb⟩,.inr (.inl fly),tup,hBt,dd,q⟩
end
section
variable{X:Cx}{E:XK}{st:Stmt}{t:TS}
theorem rX(hR:eO X E)(h:QS (X.wish (Mid X E)) st t):QS X st t:=⟨fun pins s σ H D I q=>zY (h.h pins s σ H D (I.wish _) q) (fun _ _ z=>z.unwish) fun _ _ ⟨ea,e,x⟩=>by rw[e];exact hR ea _ x⟩
end
section
variable{X:Cx}{E:XK}{C:Addr}{bm:List Value}{k:Nat}{ps:List Str}{sp:Sp}{x:Str}{np cpos pos:Pos}{e:Expr}{es:List Expr}{ta:TA}
theorem lO(hR:eO X E)(hc:X.calm=true)(F:ExI X.prog X.w X.K X.mg X.base k C bm ps sp)(hr:Room (k+1) X.A)(hm:X.mg x=some (.ref C))(ha:QA X (e::es) ta)(hg:Gl X x:=by rfl)(hs:(e::es).all aT=true:=by rfl)(hdb:(x==("__debug__":Str))=false:=by decide) :
  QS X (.Raise (some (.Call (.Name x np) (e::es) [] cpos)) none pos) (mP sp C E ta):=by
 refine⟨?_⟩;intro pins s σ H D I h;obtain⟨fI,fd,xc,G,hb⟩:=F.ex;have hs1:aT e=true:=zR.mp hs e (by simp);have he:=aO (es:=es) (env:=X.env) hs1;have hpl:(backTo cpos (starEach es X.env)).any (·.1)=false:=bj (by
  rw[zR];intro y hy;exact zR.mp hs y (ze _ hy))
 have hpl':(backTo cpos (starEach (e::es) X.env)).any (·.1)=false:=by rw[he];show(false ||(backTo cpos (starEach es X.env)).any (·.1))=false;rw[hpl];rfl
 rw[arm_exec_Raise];refine zc (wpAny_standAt (pO (K:=X.K) (mB xc) (I.ok.hd hc) (zc (zY (wpAny_Call_ofName (dF I hg hm ?_ hdb)) (fun v s₃ h₃=>zc (wpAny_standAt (zu h₃))) fun _ _ x=>x))));unfold callWith;have hA:=ha.h cpos pins s σ H _ I h;rw[he]at hA ⊢;refine zc (wpAny_holding (Calls.evalArgs_plain (thn hA fun us s1 ⟨vs,H1,I1,r1,hz,hE⟩=>zc (wpAny_standAt ?_))));obtain⟨nm,q,N,bs,hdct,sn,sub,ab,col,dd,k0,k1,k2,k3,k5,mN,oC,hN,hi,T⟩:=iG xc I1.kIn;obtain⟨oI,lI,cI⟩:=xc.fn;obtain⟨hp,g,d,tk,os⟩:=s1;rw[<-he];simp only[hpl'];refine zc (wpAny_keeperOf_exc oC ?_);refine zc (mZ PySem.F.excBase_ValueError T oC hN hi (I1.kIn _ _ lI) cI (fun h' ea mx=>?_) (show us.length<=sizeLine by rw[<-r1.length];exact hz));obtain⟨t,ht,tn,tt⟩:=mx.there;obtain⟨hea0,I2⟩:=I1.excMade mx.keeps mx.new ht;have nt:t≠ea:=fun z=>by rw[z,ht]at tt;cases tt
 have ht0:H1 t=none:=by
  cases q:H1 t with
  |none=>rfl
  |some u =>obtain⟨o,z⟩:=dM (I1.hok t u q);exact nomatch tn.symm.trans z
 have hq:=hE ea t hea0 ht0 nt;have hl:(Value.ref ea::us).length=ps.length:=by rw[<-G.len _ _ _ _ hq,zh,zh,r1.length]
 refine wpAny_call (codeAny_mono (G.run _ X.stack _ _ ⟨Value.ref ea::us,[]⟩ (Value.ref ea::us) (V.ref ea::vs) _ _ (hr.make C us []) (I2.env0.make C us []) (by have:=hb _ (Value.ref ea::us) I2.kIn (by rw[zT];exact hl);rw[zT]at this;exact this) (.cons rfl r1) hq) fun r s' hq'=>?_);cases r with
 |error e'=>exact False.elim hq'
 |ok fl =>
  cases fl with
  |next=>exact False.elim hq'
  |brk=>exact False.elim hq'
  |cont=>exact False.elim hq'
  |ret u =>
   obtain⟨v,H',os',bare,un,hok,r,rfl,dc,hd,hE'⟩:=hq';obtain rfl:u=Value.none:=r;have I3:Inv X pins σ H' s':=I2.call' os' un hok bare fun _ z=>nomatch z;have notin:∀b,hp.get? b=none->b∉frs X.stack:=fun b hb hm=>by obtain⟨_,o',ho',_⟩:=I1.stack.mem hm;exact nomatch hb.symm.trans ho'
   have hx:s'.heap.get? ea=some { cls:=.ref C,dict:=dc,data:=.fields #[.ref t,.none,.none,.none,.bool false,.none] }:=(show ObjOk X.prog X.w H' s'.heap ea (exN ea C t dc)from I3.hok ea _ hd).1;have ut:upd H1 ea (exN ea C t none) t=none:=by rw[ag nt];exact ht0
   have tt':=un.keep t _ tt ut (notin t tn) (by intro z;cases z);refine⟨rfl,zc (wpAny_holding (wpAny_point (zu ⟨ea,_,rfl,I3.kIn,hx,rfl,⟨t,rfl⟩,?_⟩)))⟩;have hy:s'.heap.get? ea=some { cls:=.ref C,dict:=dc,data:=.fields #[.ref t,.none,.none,.none,.bool false,.none] }:=hx;have ne:∀b v,H' b=some v->v≠exN ea C t dc->b≠ea:=fun b v q hv z=>by rw[z,hd]at q;exact hv (zt q).symm
   have ft:=un.free t _ tt ut (by intro z;cases z);have tr2:∀b v,H' b=some v->b≠t:=fun b v q z=>by rw[z,ft]at q;cases q
   have tfr:∀b v,H' b=some v->b∉frs X.stack:=fun b v q hm=>by have:=I3.stkFree b hm;rw[q]at this;cases this
   have oe:∀b o,hp.get? b=some o->b≠ea:=fun b o q z=>by rw[z]at q;exact nomatch mx.new.symm.trans q
   have ot:∀b o,hp.get? b=some o->b≠t:=fun b o q z=>by rw[z]at q;exact nomatch tn.symm.trans q
   have un1:Un (frs X.stack) [] H1 (del H' ea) hp s'.heap:=by
    refine⟨fun b o q n hb hx'=>un.keep b o (mx.keeps b o q) (by rw[ag (oe b o q)];exact n) hb hx',fun b o q n hb hx'=>un.slot b o (mx.keeps b o q) (by rw[ag (oe b o q)];exact n) hb hx',fun b o q n hx'=>?_,fun b o q hx'=>un.there b o (mx.keeps b o q) hx',fun b xs q=>?_,fun b o v q=>?_,fun b ps' q=>?_⟩
    ·rw[cw (oe b o q)];exact un.free b o (mx.keeps b o q) (by rw[ag (oe b o q)];exact n) hx'
    ·have:=un.tups b xs (by rw[ag (ax q hea0)];exact q);rw[cw (ne _ _ this (by intro z;cases z))];exact this
    ·have:=un.frzs b o v (by rw[ag (ax q hea0)];exact q);rw[cw (ne _ _ this (by intro z;cases z))];exact this
    ·obtain⟨more,this⟩:=un.tbls b ps' (by rw[ag (ax q hea0)];exact q);exact⟨more,by rw[cw (ne _ _ this (by intro z;cases z))];exact this⟩
   have hok1:HOk X.prog X.w (del H' ea) s'.heap:=fun b v q=>by obtain⟨hb,q⟩:=pv q;exact(I3.hok b v q).stay (fun _ _ _ z=>z) (fun b' z=>by rw[cw (ne _ _ z (by intro z;cases z))];exact z) fun b' xs z=>by rw[cw (ne _ _ z (by intro z;cases z))];exact z
   have hid:∀b o,s'.heap.get? b=some o->b≠ea->b≠t->b∉frs X.stack->(hideAll s'.heap (ea::t::frs X.stack)).get? b=some o:=fun b o q h1 h2 h3 =>
    hideAll_get _ q fun hm=>by
     rcases zl.mp hm with z|hm
     ·exact h1 z
     rcases zl.mp hm with z|hm
     ·exact h2 z
     ·exact h3 hm
   have Fx:Fl X H1 (del H' ea) ⟨hp,g,d,tk,os⟩ s' (hideAll s'.heap (ea::t::frs X.stack)):=⟨os',bare,un1,hok1,fun b o hb ho q=>by
    rcases ho with⟨v,z⟩|⟨o0,z⟩
    ·obtain⟨hb',z⟩:=pv z;exact hid b o q hb' (tr2 _ _ z) hb
    ·exact hid b o q (oe b o0 z) (ot b o0 z) hb⟩
   exact hR ea s' ⟨pins,σ,H1,del H' ea,_,_,t,.ref C,us,dc,I1,Fx,.inl ⟨fun b o q=>of_hideAll _ q,hideAll_none _ zi,
    funFrames_hide I3.stack fun env he b hb=>ze _ (ze _ (List.mem_filterMap.mpr ⟨env,he,hb⟩)),_,hy,rfl,rfl⟩,⟨_,_,tt',rfl,rfl⟩,hideAll_none _ (ze _ zi),⟨_,hy,rfl⟩,hE'⟩
end
open PySem PySem.Spec PyProof.Rows PySem.W
theorem bC{X:Cx}:QCall X (.builtin "isinstance") (fun xs H Q=>∃ (x T:V) (u:Value) (b:Bool),xs=[x,T]/\(∀ v,RelV T v->v=u) /\
  ((∃ t,TyOf X.K H x t/\PySem.W.kitOne X.K t u=some b)\/∃ (a c:Addr) (dc:Option Addr),x=.ref a/\H a=some (exD a c dc)/\qi H dc/\ExK X.K c/\PySem.W.kitOne X.K (.ref c) u=some b)/\Q (.bl b) H):=by
 refine⟨?_⟩;intro pins s σ H xs us Q I r h;obtain⟨x,T,u,b,rfl,ht,hh,q⟩:=h;obtain⟨v,w',rfl,rx,ry⟩:=xC r;cases ht w' ry;rcases hh with⟨t,ty,e⟩|⟨a,c,dc,rfl,ha,hd,k,e⟩
 ·exact pb I rx ty e fun tk=>⟨.bl b,H,I.tok tk,rfl,q⟩
 ·cases rx;obtain⟨oe,od,ia,_⟩:=jL I ha hd;exact zV (ph k) I.kIn ia e (fun z=>nomatch z) fun tk=>⟨.bl b,H,I.tok tk,rfl,q⟩
open PySem PySem.Spec PyProof.Rows PySem.W
structure LamOk(P:Program)(w:World)(K:PySem.W.Frag)(mg:Str->Option Value)(base:Heap)(k:Nat)(qual:Str)(body:Expr)(scope:Scope)(x:Str)(sp:Sp):Prop where
 ex:∃N:List Str,FnScope N [x] scope/\(∀vs H Q E,sp vs H Q E->vs.length=1)/\∀(f c':Addr) (A:Around) (outer:List Env) (s:Shared) (H:Hp) (vs:List V) (Q:VK) (E:XK),Room k (A.deeper (envOfC qual scope s.heap.objs.size f (.ref c')))->sp vs H Q E ->
  ∃t,QE (cX CX0 P w K mg base N qual scope f (.ref c') A outer s H E) body t/\t (cb N vs) H Q
open PySem PySem.Spec PyProof.Rows PySem.W
open PySem PySem.Spec PyProof.Rows PySem.W
inductive SKey where
 |i (n:Int)|s (t:Str)|bi (b:Bool)(n:Int)
def SKey.at(H:Hp):SKey->V->Prop
 |.i n,v=>v=.int n
 |.s t,v=>v=.str t
 |.bi b n,v=>∃a,v=.ref a/\H a=some (.tup [.bl b,.int n])
section
variable{X:Cx}{pins:List (Addr×Obj)}{σ:St}{H:Hp}{s:Shared}{h':Heap}
structure SG(X:Cx)(pins:List (Addr×Obj))(σ:St)(H1:Hp)(m:Str->Option Value)(kS D:Addr)(e1:Nat)(ks:List SKey)(as:List V)(us:List Value)(e:Nat)(H:Hp)(s:Shared):Prop where
 I:Inv X pins σ H s
 sm:Same H1 H
 fk:bG X pins H kS
 fd:bG X pins H D
 bk:X.base.get? kS=none
 bd:X.base.get? D=none
 hk:s.heap.get? kS=some (seqObj "list" (List.toArray us) e)
 hd:s.heap.get? D=some (seqObj "list" #[] e1)
 ns:s.heap.Ns X.env.locals m
 vals:Vals as us
 keys:∀(i:Nat) (a:V) (k:SKey),as[i]?=some a->ks[i]?=some k->k.at H a
end
open PySem PySem.Spec PyProof.Rows PySem.W
structure LamScope(x y:Str)(sc:Scope):Prop where
 kind:sc.kind=.function
 co:sc.isCoroutine=false
 gen:sc.isGenerator=false
 lx:sc.names.lookup x=some .local
 ly:sc.names.lookup y=some .free
 nc:∀z∈sc.names,z.2≠.cell
 nf:∀z∈sc.names,z.2=.free->z.1=y
 ne:x≠y
def cxX(CX:CXT)(P:Program)(w:World)(K:PySem.W.Frag)(mg:Str->Option Value)(base:Heap)(N:List Str)(qual:Str)(scope:Scope)(f:Addr)(cd:Value)(cl:List (Str×Addr))(A:Around)(outer:List Env)(s:Shared)(H:Hp)(E:XK):Cx where
 prog:=P
 w:=w
 K:=K
 mg:=mg
 base:=base
 A:=A.deeper (envX qual scope s.heap.objs.size f cd cl)
 N:=N
 s₀:=s
 H₀:=H
 env:=envX qual scope s.heap.objs.size f cd cl
 outer:=outer
 stack:=envX qual scope s.heap.objs.size f cd cl::outer
 ex:=[]
 calm:=true
 fn:=fun _=>false
 pn:=[]
 xe:=fun e s'=>wpAny (model P w) (A.deeper (envX qual scope s.heap.objs.size f cd cl)) (leaving (envX qual scope s.heap.objs.size f cd cl) e) (fun _ s''=>CX outer H s E e s'') (fun e' s''=>CX outer H s E e' s'') s'
open PySem PySem.Spec PyProof.Rows PySem.W
section
variable{X:Cx}{c P:Addr}{params:Arguments}{body:Expr}{scope:Scope}{pos:Pos}{cl:List (Str×Addr)}
structure LamOkX(P:Program)(w:World)(K:PySem.W.Frag)(mg:Str->Option Value)(base:Heap)(k:Nat)(qual:Str)(body:Expr)(scope:Scope)(x y:Str)(sp:V->Sp):Prop where
 sc:LamScope x y scope
 ex:∀(f c' c:Addr) (kv:V) (A:Around) (outer:List Env) (s:Shared) (H:Hp) (v:V) (Q:VK),Room k (A.deeper (envX qual scope s.heap.objs.size f (.ref c') [(y,c)]))->sp kv [v] H Q E0 ->
  ∃t,QE (cxX CX0 P w K mg base [x,y] qual scope f (.ref c') [(y,c)] A outer s H E0) body t/\t [some v,some kv] H Q
end
open PySem PySem.Spec PyProof.Rows PySem.W
open PySem PyProof.Rows PySem.W
open PySem PyProof.Rows PySem.W
section
variable{prog:Program}{w:World}{A:Around}{E:Value->Shared->Prop}{s:Shared}{κ:SortKind}{it:Array Keyed}{lt:Nat->Nat->Bool}{N:Nat}{st:SortSt}
def Zc(prog:Program)(w:World)(A:Around)(s:Shared)(κ:SortKind)(it:Array Keyed)(lt:Nat->Nat->Bool)(N:Nat):Prop :=
 ∀i j (C:Bool->Shared->Prop),i<N->j<N->C (lt i j) s->kas_cmp prog w A κ it i j C s
end
open PySem PyProof.Rows PySem.W
section
variable{lt:Nat->Nat->Bool}
structure MF(lt:Nat->Nat->Bool)(N:Nat)(a b:Array Nat):Prop where
 sa:∀i j,i<j->j<a.size->Lx lt (gA a i) (gA a j)
 sb:∀i j,i<j->j<b.size->Lx lt (gA b i) (gA b j)
 cr:∀i j,i<a.size->j<b.size->lt (gA b j) (gA a i)=false->Lx lt (gA a i) (gA b j)
 na:∀i,i<a.size->gA a i<N
 nb:∀i,i<b.size->gA b i<N
 a0:0<a.size
 b0:0<b.size
 fst:lt (gA b 0) (gA a 0)=true
 lst:∀j,j<b.size->lt (gA b j) (gA a (a.size-1))=true
variable{N:Nat}{a b:Array Nat}{f:Nat->Keyed}
end
open PySem PyProof.Rows PySem.W
open PySem PyProof.Rows PySem.W
open PySem PyProof.Rows PySem.W
open PySem PyProof.Rows PySem.W
section
variable{prog:Program}{w:World}{A:Around}{E:Value->Shared->Prop}{s:Shared}{κ:SortKind}{it:Array Keyed}{lt:Nat->Nat->Bool}{N:Nat}{st:SortSt}{pre u:Array Nat}
structure Zp(prog:Program)(w:World)(A:Around)(s:Shared)(κ:SortKind)(it:Array Keyed)(lt:Nat->Nat->Bool)(N:Nat)(st:SortSt)(pre:Array Nat)(n:Nat):Prop where
 Z:Zc prog w A s κ it lt N
 hk:kindOf st=κ
 hN:pre.size+n=N
 n0:0<n
end
open PySem PyProof.Rows PySem.W
section
variable{lt:Nat->Nat->Bool}(O:LtOk lt){N:Nat}
include O
end
open PySem PyProof.Rows PySem.W
section
variable{lt:Nat->Nat->Bool}
def rK(lt:Nat->Nat->Bool):Nat->List (List Nat)->List (Nat×Nat×Nat)->Prop
 |_,[],[]=>True
 |b,r::rs,t::ts=>t.1=b/\t.2.1=r.length/\0<r.length/\r.Pairwise (Lx lt)/\r.Perm (List.range' b r.length)/\rK lt (b+r.length) rs ts
 |_,_,_=>False
variable{prog:Program}{w:World}{A:Around}{E:Value->Shared->Prop}{s:Shared}{κ:SortKind}{it:Array Keyed}{N:Nat}{st:SortSt}
structure RI(κ:SortKind)(it:Array Keyed)(lt:Nat->Nat->Bool)(N lo:Nat)(T:List Nat)(p:Array Nat)(rs:List (List Nat))(st:SortSt):Prop where
 hk:kindOf st=κ
 hf:failedOf st=none
 ha:arrOf st=p.map (kas_item it)
 hp:p.toList=rs.flatten++T
 pm:p.toList.Perm (List.range N)
 rl:rK lt 0 rs (pendingOf st).toList
 hl:rs.flatten.length=lo
end
open PySem PyProof.Rows PySem.W
open PySem PySem.Spec PyProof.Rows PySem.W
open PySem PySem.Spec PyProof.Rows PySem.W
inductive ZKey where
 |i (n:Int)|t (ns:List Int)|p (ps ns:List Int)
def ZKey.at(H:Hp):ZKey->V->Prop
 |.i n,v=>v=.int n
 |.t ns,v=>∃a,v=.ref a/\H a=some (.tup (ns.map V.int))
 |.p ps ns,v=>∃a b c,v=.ref a/\H a=some (.tup [.ref b,.ref c])/\H b=some (.tup (ps.map V.int))/\H c=some (.tup (ns.map V.int))
section
variable{X:Cx}{pins:List (Addr×Obj)}{σ:St}{H:Hp}{s:Shared}{h':Heap}
structure SGZ(X:Cx)(pins:List (Addr×Obj))(σ:St)(H1:Hp)(m:Str->Option Value)(kS D:Addr)(e1:Nat)(ks:List ZKey)(as:List V)(us:List Value)(e:Nat)(H:Hp)(s:Shared):Prop where
 I:Inv X pins σ H s
 sm:Same H1 H
 fk:bG X pins H kS
 fd:bG X pins H D
 bk:X.base.get? kS=none
 bd:X.base.get? D=none
 hk:s.heap.get? kS=some (seqObj "list" (List.toArray us) e)
 hd:s.heap.get? D=some (seqObj "list" #[] e1)
 ns:s.heap.Ns X.env.locals m
 vals:Vals as us
 keys:∀(i:Nat) (a:V) (k:ZKey),as[i]?=some a->ks[i]?=some k->k.at H a
end
open PySem PySem.Spec PyProof.Rows PySem.W
open PySem PySem.Spec PyProof.Rows PySem.W
open PySem PySem.Spec PyProof.Rows PySem.W
open PySem PySem.Spec PyProof.Rows PySem.W
end L2
set_option maxHeartbeats 4000000
namespace PySem
open Sem (wp)
section
variable{prog:Program}{w:World}{K:Type}[DecidableEq K]{knd:KeyKind prog w K}
structure PairAt(knd:KeyKind prog w K)(h:Heap)(p:Addr×List K×Addr×Value):Prop where
 tup:∃o n,h.get? p.1=some o/\o.cls=.type "tuple"/\o.data=.seq #[.ref p.2.2.1,p.2.2.2] n
 key:IsTupleKey knd h p.2.1 p.2.2.1
variable{A:Around}{R:Result->Shared->Prop}
end
end PySem
namespace L2
open PySem PySem.Spec PyProof.Rows PySem.W
open PySem PySem.Spec PyProof.Rows PySem.W
open PySem PySem.Spec PyProof.Rows PySem.W
open PySem PySem.Spec PyProof.Rows PySem.W
open PySem PySem.Spec PyProof.Rows PySem.W
open PySem PySem.Spec PyProof.Rows PySem.W
open PySem PySem.Spec PyProof.Rows PySem.W
open PySem PySem.Spec PyProof.Rows PySem.W
open PySem PySem.Spec PyProof.Rows PySem.W
section
variable{X:Cx}{K:PySem.W.Frag}
def pN:V->List V->Hp->VK->Prop:=fun x xs H Q=>∃(z y:Str),x=.str z/\xs=[.str y]/\y.length=1/\z.length<=100000/\∀D,H D=none->Q (.ref D) (upd H D (.lst ((Txt.split z y).map V.str)))
theorem jT:∀{l:List (Str×Tok)} {ys:List Str},l.map (·.1)=ys->Vals (ys.map V.str) (strValues l)
 | [],ys,e=>by subst e;exact .nil
 |p::l,ys,e=>by subst e;exact .cons ⟨p.2,rfl⟩ (jT (l:=l) rfl)
theorem pW(x y:Str):(Txt.split x y).length<=x.length+2:=by
 unfold Txt.split;split
 ·simp
 ·split
  ·simp
  ·rw[length_partsBetween];have:=StrLaws.occ_length_le x y 0 x.length (x.length+1);omega
theorem qQ:MtR X "str.split" pN:=by
 intro pins s σ H x xs v us Q I rx r h;obtain⟨z,y,rfl,rfl,hy,hz,q⟩:=h;obtain⟨t,rfl⟩:=rx;obtain⟨u,rfl,ru⟩:=bT r;obtain⟨t2,rfl⟩:=ru;obtain⟨m,F0⟩:=I.fr;refine splitN1A F0 (mi X.base s.heap X.env.locals) (by rw[hy];rfl) (fun l h' k e1 sa sh il F1 N1=>?_) (by rw[sizeLine_eq];omega);have hDs:s.heap.get? s.heap.objs.size=none:=Heap.get?_none_of_le (zd _);have lz:=pW z y;refine⟨.ref s.heap.objs.size,_,I.laidF (t':=k) (o:=.lst ((Txt.split z y).map V.str)) (fun b o hL g=>?_) ⟨m,F0.ns,F1.ns⟩ hDs ⟨by rw[za,sizeLine_eq];omega,_,0,jT e1,(N1 (s.heap.objs.size,_) (.head _)).1⟩,rfl,q _ (none_of I hDs)⟩;cases qb:X.base.get? b with
 |none=>exact(N1 (b,o) (.tail _ (nV g hL qb))).1
 |some o' =>have e':=I.bk b o' qb;rw[g]at e';cases e';exact F1.keep b o qb
theorem gN{o e:Expr}{to te:TE}{apos cpos:Pos}(ho:QE X o to)(he:QE X e te)(hs:aT e=true:=by rfl)(hbase:attributeBase o "split" X.env (eval o X.env)=eval o X.env:=by rfl)(hline:(apos.endLine==cpos.line)=true:=by rfl) :
  QE X (.Call (.Attribute o "split" apos) [e] [] cpos) (tBM X.K "str" pN to (cT te dj)):=by
 have h1:=aO (es:=[]) (env:=X.env) hs;have h2:starEach ([]:List Expr) X.env=[]:=rfl;refine⟨kz PySem.F.plainAttrs_str PySem.F.slot_str_split PySem.F.type_str_split qQ ho.h (gz he.h fU (hs:=h1)) (hbase:=hbase) (hfew:=?_) (hline:=hline) (hs:=h1) (hplain:=by rw[h2];rfl)⟩;rw[h1,h2];rfl
def jw:V->List V->Hp->VK->Prop:=fun x xs H Q=>∃(z y:Str),x=.str z/\xs=[.str y]/\Q (.bl (Txt.startswith z y)) H
theorem pp:MtR X "str.startswith" jw:=by intro pins s σ H x xs v us Q I rx r h;obtain⟨z,y,rfl,rfl,q⟩:=h;obtain⟨t,rfl⟩:=rx;obtain⟨u,rfl,ru⟩:=bT r;obtain⟨t2,rfl⟩:=ru;exact SC.startswith ⟨.bl _,H,I,rfl,q⟩
theorem rm{o e:Expr}{to te:TE}{apos cpos:Pos}(ho:QE X o to)(he:QE X e te)(hs:aT e=true:=by rfl)(hbase:attributeBase o "startswith" X.env (eval o X.env)=eval o X.env:=by rfl)(hline:(apos.endLine==cpos.line)=true:=by rfl) :
  QE X (.Call (.Attribute o "startswith" apos) [e] [] cpos) (tBM X.K "str" jw to (cT te dj)):=by
 have h1:=aO (es:=[]) (env:=X.env) hs;have h2:starEach ([]:List Expr) X.env=[]:=rfl;refine⟨kz PySem.F.plainAttrs_str PySem.F.slot_str_startswith PySem.F.type_str_startswith pp ho.h (gz he.h fU (hs:=h1)) (hbase:=hbase) (hfew:=?_) (hline:=hline) (hs:=h1) (hplain:=by rw[h2];rfl)⟩;rw[h1,h2];rfl
theorem kL:QCall X (.type "int") (fun xs H Q=>∃(x:Str) (n:Int),xs=[.str x]/\PySem.intText? x=some n/\x.length<=640/\Q (.int n) H):=by refine⟨?_⟩;intro pins s σ H xs us Q I r h;obtain⟨x,n,rfl,hn,hl,q⟩:=h;obtain⟨u,rfl,rx⟩:=bT r;obtain⟨t,rfl⟩:=rx;exact KIN.call_text hn hl ⟨.int n,H,I.tok _,⟨_,rfl⟩,q⟩
end
open PySem PySem.Spec PyProof.Rows PySem.W
theorem cF{x y:Str}(h:x.cps.toList=y.cps.toList):x=y:=by cases x;cases y;congr 1;exact Array.toList_inj.mp h
theorem aE(x y:Str):(x++y).cps.toList=x.cps.toList++y.cps.toList:=by show(x.cps++y.cps).toList=_;rw[Array.toList_append]
def ch1(c:Nat):Str:=⟨#[c]⟩
theorem wP(c:Nat):(ch1 c).cps.toList=[c]:=rfl
theorem kU{c:Nat}:∀{a b x y:List Nat},c∉a->c∉b->a++c::x=b++c::y->a=b/\x=y
 | [],[],x,y,_,_,h=>by injection h with _ h;exact⟨rfl,h⟩
 | [],d::b,x,y,_,hb,h=>by injection h with h _;exact absurd (by rw[h];exact zi) hb
 |d::a,[],x,y,ha,_,h=>by injection h with h _;exact absurd (by rw[<-h];exact zi) ha
 |d::a,e::b,x,y,ha,hb,h=>by injection h with h1 h2;rw[zl,not_or]at ha hb;obtain⟨e1,e2⟩:=kU ha.2 hb.2 h2;exact⟨by rw[h1,e1],e2⟩
theorem dL(c:Nat)(a b:Str)(r:List Str):(Str.join (ch1 c) (a::b::r)).cps.toList=a.cps.toList++c::(Str.join (ch1 c) (b::r)).cps.toList:=by have e:Str.join (ch1 c) (a::b::r)=a++ch1 c++Str.join (ch1 c) (b::r):=rfl;rw[e,aE,aE,wP];simp
theorem jP{c:Nat}:∀{l m:List Str},l≠[]->m≠[]->(∀p∈l,c∉p.cps.toList)->(∀p∈m,c∉p.cps.toList)->Str.join (ch1 c) l=Str.join (ch1 c) m->l=m
 | [],_,h,_,_,_,_=>absurd rfl h
 |_,[],_,h,_,_,_=>absurd rfl h
 | [a],[b],_,_,_,_,h=>by rw[show a=b from h]
 | [a],b::b2::r,_,_,ha,_,h=>by have:=zS Str.cps h;have:=zS Array.toList this;rw[dL]at this;exact absurd (show c∈a.cps.toList by rw[show a.cps.toList=_ from this];simp) (ha a (by simp))
 |a::a2::r,[b],_,_,_,hb,h=>by have:=zS Str.cps h;have:=zS Array.toList this;rw[dL]at this;exact absurd (show c∈b.cps.toList by rw[show b.cps.toList=_ from this.symm];simp) (hb b (by simp))
 |a::a2::r,b::b2::r2,_,_,ha,hb,h=>by have:=zS Str.cps h;have:=zS Array.toList this;rw[dL,dL]at this;obtain⟨e1,e2⟩:=kU (ha a (by simp)) (hb b (by simp)) this;have ih:=jP (l:=a2::r) (m:=b2::r2) (by simp) (by simp) (fun p hp=>ha p (ze _ hp)) (fun p hp=>hb p (ze _ hp)) (cF e2);rw[cF e1,ih]
theorem rC(x y:Str):Txt.split x y≠[]:=by
 unfold Txt.split;split
 ·simp
 ·split
  ·simp
  ·intro h;have:=zS List.length h;rw[length_partsBetween]at this;simp at this
theorem dA{c:Nat}{l:List Str}(h:l≠[])(hf:∀p∈l,c∉p.cps.toList):Txt.split (Str.join (ch1 c) l) (ch1 c)=l :=
 jP (rC _ _) h (StrLaws.split_free _ c) hf (StrLaws.join_split _ _)
open PySem PySem.Spec PyProof.Rows PySem.W
section
variable{X:Cx}{x:Str}{pos:Pos}
theorem xO{s:Str}{tk:Tok}(hm:X.mg x=some (.str s tk))(hg:Gl X x:=by rfl)(hd:(x==("__debug__":Str))=false:=by decide):QE X (.Name x pos) (tC (.str s)):=⟨jv hg hm ⟨_,rfl⟩ hd⟩
end
open PySem PySem.Spec PyProof.Rows PySem.W
def dg(n:Nat):List Nat:=(Nat.toDigits 10 n).map Char.toNat
theorem dch{d:Nat}(h:d<10):(Nat.digitChar d).toNat=48+d:=by
 have:∀d:Nat,d<10->(Nat.digitChar d).toNat=48+d:=by decide
 exact this d h
theorem gl{n:Nat}(h:n<10):dg n=[48+n]:=by unfold dg;rw[Nat.toDigits_of_lt_base h,zA,dch h];rfl
theorem gq{n:Nat}(h:¬n<10):dg n=dg (n / 10)++[48+n%10]:=by have hm:n%10<10:=Nat.mod_lt n (by decide);have t:Nat.toDigits 10 (n / 10)++Nat.toDigits 10 (n%10)=Nat.toDigits 10 (10*(n / 10)+n%10):=Nat.toDigits_append_toDigits (by decide) (by omega) hm;rw[Nat.div_add_mod]at t;unfold dg;rw[<-t,zJ,Nat.toDigits_of_lt_base hm,zA,dch hm];rfl
theorem fJ(n:Nat):∀c∈dg n,48<=c/\c<=57:=by
 induction n using Nat.strongRecOn with
 |_ n ih =>
  intro c hc;by_cases h:n<10
  ·rw[gl h]at hc;have:=zk.mp hc;omega
  ·rw[gq h]at hc;have hm:n%10<10:=Nat.mod_lt n (by decide);rcases zy.mp hc with hc|hc
   ·exact ih (n / 10) (by omega) c hc
   ·have:=zk.mp hc;omega
theorem km(n:Nat):dg n≠[]:=by
 by_cases h:n<10
 ·rw[gl h];simp
 ·rw[gq h];simp
theorem kY:∀(k:Nat) {n:Nat},n<10^(k+1)->(dg n).length<=k+1
 |0,n,h=>by rw[gl (by simpa using h)];simp
 |k+1,n,h=>by
  by_cases c:n<10
  ·rw[gl c];simp
  ·rw[gq c,zb];have:=kY k (n:=n / 10) (by rw[Nat.div_lt_iff_lt_mul (by decide)];rw[Nat.pow_succ]at h;exact h);simp;omega
theorem ss(n:Nat):n≠0->(dg n).head?≠some 48:=by
 induction n using Nat.strongRecOn with
 |_ n ih =>
  intro h0;by_cases h:n<10
  ·rw[gl h];intro z;have:48+n=48:=zt z;omega
  ·rw[gq h];have:=ih (n / 10) (by omega) (by omega);cases e:dg (n / 10)with
   |nil=>exact absurd e (km _)
   |cons a r =>rw[e]at this;exact this
theorem ic{i:Int}(h:0<=i):(az i).cps.toList=dg i.toNat:=by have:=KIN.signs_num i.toNat;rw[show((i.toNat:Nat):Int)=i by omega]at this;exact this
theorem lc{i:Int}(h:i<0):(az i).cps.toList=45::dg i.natAbs:=by
 obtain⟨n,rfl⟩:∃n,i=Int.negSucc n:=⟨(-i-1).toNat,by omega⟩
 have e:toString (Int.negSucc n)="-"++Nat.repr (n+1):=rfl;unfold az;rw[e,signs_ofString,String.toList_append,zJ];have e2:(Nat.repr (n+1)).toList=Nat.toDigits 10 (n+1):=by simp[Nat.repr]
 rw[e2];rfl
theorem dq{i:Int}(h:i.natAbs<10^60):PySem.intText? (az i)=some i:=by
 have hl:=kY 59 h;by_cases c:0<=i
 ·have e:=ic c;have e2:i.toNat=i.natAbs:=by omega
  have ln:(az i).length<=4300:=by show(az i).cps.size<=_;rw[<-zP,e,e2];omega
  have:=intText_digits (x:=az i) (by rw[e];exact fJ _) (by rw[e];exact km _) ln;rw[this,e];have v:=KIN.val_back i.toNat;show some ((NumText.digitsVal ((Nat.toDigits 10 i.toNat).map Char.toNat):Nat):Int)=_;rw[v];congr 1;omega
 ·have e:=lc (i:=i) (by omega);have ln:(az i).length<=4300:=by show(az i).cps.size<=_;rw[<-zP,e,zh];omega
  have:=intText_neg (x:=az i) e (fJ _) (km _) ln;rw[this];have v:=KIN.val_back i.natAbs;show some (-((NumText.digitsVal ((Nat.toDigits 10 i.natAbs).map Char.toNat):Nat):Int))=_;rw[v];congr 1;omega
theorem fi(i:Int):∀c∈(az i).cps.toList,c=45\/(48<=c/\c<=57):=fun c hc=>by
 by_cases h:0<=i
 ·rw[ic h]at hc;exact .inr (fJ _ c hc)
 ·rw[lc (by omega)]at hc;rcases zl.mp hc with h|h
  ·exact .inl h
  ·exact .inr (fJ _ c h)
theorem pX{x:Str}{c:Nat}:Txt.startswith x (ch1 c)=decide (x.cps.toList.head?=some c):=by
 obtain⟨a⟩:=x;show(decide (0+1<=a.size)&&(a.extract 0 (0+1) == #[c]))=_;rw[Zi,zw,Zf,Zf,zH];constructor
 ·rintro⟨h1,h2⟩;have:=zS Array.toList h2;rw[Array.toList_extract]at this;cases e:a.toList with
  |nil =>
   have:a.size=0:=by rw[<-zP,e];rfl
   omega
  |cons b r =>rw[e]at this;simp at this;rw[List.head?_cons,this]
 ·intro h;cases e:a.toList with
  |nil=>rw[e]at h;cases h
  |cons b r =>
   rw[e,List.head?_cons]at h;have hb:b=c:=zt h;have hs:a.size=r.length+1:=by rw[<-zP,e];rfl
   refine⟨by omega,?_⟩;apply Array.toList_inj.mp;rw[Array.toList_extract,e,hb];simp
theorem sS(x:Str)(c:Nat):(!(Builtin.Str.occurrences x (ch1 c) 0 x.length 1).isEmpty)=decide (c∈x.cps.toList):=by
 have h:=StrLaws.occ_head x (ch1 c) 1 (zd _);have at_:∀k,StrLaws.At x (ch1 c) x.length k↔x.cps.toList[k]?=some c:=fun k=>by
  show(k+1<=x.cps.size/\(x.cps.extract k (k+1) == #[c])=true)↔_;rw[zH];constructor
  ·rintro⟨h1,h2⟩;have:=zS Array.toList h2;rw[Array.toList_extract]at this;have hk:k<x.cps.toList.length:=by rw[zP];omega
   rw[zx hk];have e:(x.cps.toList.extract k (k+1))=[x.cps.toList[k]]:=by rw[List.extract_eq_drop_take,Zh hk];simp
   rw[e]at this;simpa using this
  ·intro h;have hk:=(zr.mp h).1;rw[zP]at hk;refine⟨by omega,?_⟩;apply Array.toList_inj.mp;rw[Array.toList_extract,List.extract_eq_drop_take,Zh (by rw[zP];exact hk)];have:=(zr.mp h).2;rw[this];simp
 rcases h with⟨e,no⟩|⟨i,r,e,a,_⟩
 ·rw[e];refine(decide_eq_false fun hm=>?_).symm;obtain⟨k,hk⟩:=List.getElem?_of_mem hm;exact no k ((at_ k).mpr hk)
 ·rw[e];exact(decide_eq_true (Zj ((at_ i).mp a))).symm
open PySem PySem.Spec PyProof.Rows PySem.W
open PySem PySem.Spec PyProof.Rows PySem.W
open PySem PySem.Spec PyProof.Rows PySem.W
section
variable{prog:Program}{w:World}{A:Around}{E:Value->Shared->Prop}{s:Shared}
def xi(prog:Program)(w:World):Option (List Key)->Int
 |none=>0xFCA86420
 |some k=>(tupleKind (gw prog w)).hash k
def OIs(prog:Program)(w:World)(h:Heap):Option (List Key)->Value->Prop
 |none,v=>v=.none
 |some k,v=>∃a,v=.ref a/\(tupleKind (gw prog w)).is h k a
abbrev qm:=Option (List Key)×Value×Value
def uX(prog:Program)(w:World)(x:qm):DictEntry:=⟨xi prog w x.1,x.2.1,x.2.2⟩
structure ODict(prog:Program)(w:World)(h:Heap)(d:Addr)(o:Obj)(es:Array DictEntry)(ep:Nat)(xs:List qm):Prop where
 ho:h.get? d=some o
 hd:o.data=.dict es ep
 he:es.toList=xs.map (uX prog w)
 his:∀x∈xs,OIs prog w h x.1 x.2.1
 hn:(xs.map (·.1)).Nodup
end
open PySem PySem.Spec PyProof.Rows PySem.W
abbrev OK1:=Option (List Key×Addr)
def okD:OK1->Option (List Key)
 |none=>none
 |some p=>some p.1
def okV:OK1->Value
 |none=>.none
 |some p=>.ref p.2
def oE(e:OK1×Addr):qm:=(okD e.1,okV e.1,.ref e.2)
def odO(P:Program)(w:World)(d:Addr)(kls:List (OK1×Addr)):HO:=.ext fun h=>(d==sysModules)=false/\∃(o:Obj) (es:Array DictEntry) (ep:Nat),h.get? d=some o/\o.ExactDict/\o.data=.dict es ep/\es.toList=(kls.map oE).map (uX P w)
structure OdAt(P:Program)(w:World)(H:Hp)(d:Addr)(kls:List (OK1×Addr)):Prop where
 ob:H d=some (odO P w d kls)
 ks:∀e∈kls,∀p,e.1=some p->H p.2=some (.tup (p.1.map kV))
 nd:(kls.map fun e=>okD e.1).Nodup
open PySem PySem.Spec PyProof.Rows PySem.W
open PySem PySem.Spec PyProof.Rows PySem.W
open PySem PySem.Spec PyProof.Rows PySem.W
open PySem PySem.Spec PyProof.Rows
open PySem PySem.Spec PyProof.Rows PySem.W
open PySem PySem.Spec PyProof.Rows PySem.W
open PySem PySem.Spec PyProof.Rows PySem.W
inductive IsF(a b:Str)(x:V)(R:V->Prop):Prop
 |mk (z:Str) (h0:x=.str z) (h1:a.length+z.length+b.length<=sizeLine) (q:R (.str (a++z++b))):IsF a b x R
section
variable{X:Cx}
theorem lM{o value:Expr}{f:Str}{op:Operator}{rd:V->V->Hp->VK->Prop}{tpos pos:Pos}{ta tv:TE}(ha:QE X o ta)(hv:QE X value tv)(hop:qj X op rd):QS X (.AugAssign (.Attribute o f tpos) op value pos) (mJ X.K ta tv rd f):=⟨pK ha.h hv.h hop⟩
end
open PySem PySem.Spec PyProof.Rows PySem.W
inductive rStrA(xs:List V)(H:Hp)(Q:VK):Prop
 |int (i:Int) (h0:xs=[.int i]) (h1:i.natAbs<10^4300) (q:Q (.str (az i)) H):rStrA xs H Q
 |str (z:Str) (h0:xs=[.str z]) (q:Q (.str z) H):rStrA xs H Q
section
variable{X:Cx}{K:PySem.W.Frag}
theorem jh(hK:X.K=K)(hc:X.calm=true)(dg:nsIn K cStatics "sys.int_max_str_digits" = some none):QCall X (.type "str") rStrA:=by
 refine⟨?_⟩;intro pins s σ H xs us Q I r h;cases h with
 |int i h0 hi q=>exact(sq hK hc dg).h pins s σ H xs us Q I r ⟨i,h0,hi,q⟩
 |str z h0 q =>subst h0;obtain⟨u,rfl,rx⟩:=bT r;obtain⟨t,rfl⟩:=rx;exact P.str_of_str ⟨.str z,H,I,⟨_,rfl⟩,q⟩
inductive rNeNil(K:PySem.W.Frag)(x y:V)(H:Hp)(Q:VK):Prop
 |mk (a b:Addr) (xs:List V) (h0:x=.ref a) (h1:y=.ref b) (ha:SqL K H a xs) (hb:SqL K H b []) (q:Q (.bl (!xs.isEmpty)) H):rNeNil K x y H Q
theorem mG(hK:X.K=K)(hu:X.A.units+64<cLine):QOp X (compareOp .NotEq) (rNeNil K):=by
 refine⟨?_⟩;subst hK;intro pins s σ H x y v u Q I rx ry h;obtain⟨a,b,xs,rfl,rfl,ha,hb,q⟩:=h;cases xs with
 |nil=>exact vn hu pins s σ H _ _ v u Q I rx ry ⟨a,b,[],[],rfl,rfl,ha,hb,q⟩
 |cons x xs =>cases rx;cases ry;obtain⟨its,r1,p1,_⟩:=I.list ha;obtain⟨its2,r2,p2,_⟩:=I.list hb;have l1:its.length=xs.length+1:=r1.length.symm;have l2:its2.length=0:=r2.length.symm;exact SeqAt.RcNeAt.lists_lengths p1.isList p2.isList (by simp[l1,l2]) (by omega) X.prog X.w X.xe _ ⟨.bl true,H,I,rfl,q⟩
end
end L2
set_option maxRecDepth 100000
set_option maxHeartbeats 4000000
namespace K53
open PySem L2
open PyProof.Rows (envOfC)
def top(i:Nat):Stmt:=PySem.Challenge.pw_limb_k53_no_question.main.body.getD i (.Pass ⟨0,0,0,0⟩)
section
variable{P:Program}{w:World}{K:PySem.W.Frag}{mg:Str->Option Value}{base:Heap}
theorem cxK{CX:CXT}{N:List Str}{qual:Str}{scope:Scope}{f:Addr}{cd:Value}{A:Around}{outer:List Env}{s:Shared}{H:Hp}{E:XK}:(cX CX P w K mg base N qual scope f cd A outer s H E).nox.K=K:=rfl
theorem oR{K:PySem.W.Frag}{a:Addr}{xs:List V}{g:TG}{tb:L2.TS}{D:Ends}{σ:St}{H:Hp}(Pv:Nat->St->Hp->Prop)(h0:Pv 0 σ H)(hl:∀i σ H,i<=xs.length->Pv i σ H->SqL K H a xs)(hs:∀i x σ H,xs[i]?=some x->Pv i σ H->∀D':Ends,(∀σ' H',Pv (i+1) σ' H'->D'.nx σ' H')->g x σ H fun σ2 H2=>tb D' σ2 H2)(hd:∀σ H,Pv xs.length σ H->D.nx σ H) :
  ∃W:Nat->Nat->St->Hp->Prop,(∃m,W 0 m σ H)/\∀i m σ H,W i m σ H ->
   ((Itl K a).stop i H/\D.nx σ H)\/((Itl K a).go i H/\∃N:St->Hp->Prop,(∀σ' H',N σ' H'->∃m',m'<m/\W (i+1) m' σ' H')/\∀x H',(Itl K a).yld i H x H'->g x σ H' fun σ2 H2=>tb { D with nx:=N,ct:=N,bk:=D.nx } σ2 H2) :=
 qF Pv h0 hl (fun i x σ H a b=>hs i x σ H a b _ fun _ _ z=>z) hd
theorem jM{K:PySem.W.Frag}{a:Addr}{xs:List V}{j:Nat}{tb:L2.TS}{D:Ends}{σ:St}{H:Hp}(Pv:Nat->St->Hp->Prop)(h0:Pv 0 σ H)(hl:∀i σ H,i<=xs.length->Pv i σ H->SqL K H a xs)(hs:∀i x σ H,xs[i]?=some x->Pv i σ H->∀D':Ends,(∀σ' H',Pv (i+1) σ' H'->D'.nx σ' H')->tb D' (σ.set j (some x)) H)(hd:∀σ H,Pv xs.length σ H->D.nx σ H) :
  ∃W:Nat->Nat->St->Hp->Prop,(∃m,W 0 m σ H)/\∀i m σ H,W i m σ H ->
   ((Itl K a).stop i H/\D.nx σ H)\/((Itl K a).go i H/\∃N:St->Hp->Prop,(∀σ' H',N σ' H'->∃m',m'<m/\W (i+1) m' σ' H')/\∀x H',(Itl K a).yld i H x H'->bD j x σ H' fun σ2 H2=>tb { D with nx:=N,ct:=N,bk:=D.nx } σ2 H2) :=
 oR Pv h0 hl hs hd
theorem nu{lo:Int}{n:Nat}{g:TG}{tb:L2.TS}{D:Ends}{σ:St}{H:Hp}(Pv:Nat->St->Hp->Prop)(h0:Pv 0 σ H)(hs:∀i σ H,i<n->Pv i σ H->∀D':Ends,(∀σ' H',Pv (i+1) σ' H'->D'.nx σ' H')->g (.int (lo+i)) σ H fun σ2 H2=>tb D' σ2 H2)(hd:∀σ H,Pv n σ H->D.nx σ H) :
  ∃W:Nat->Nat->St->Hp->Prop,(∃m,W 0 m σ H)/\∀i m σ H,W i m σ H ->
   ((Itr lo n).stop i H/\D.nx σ H)\/((Itr lo n).go i H/\∃N:St->Hp->Prop,(∀σ' H',N σ' H'->∃m',m'<m/\W (i+1) m' σ' H')/\∀x H',(Itr lo n).yld i H x H'->g x σ H' fun σ2 H2=>tb { D with nx:=N,ct:=N,bk:=D.nx } σ2 H2) :=
 oS Pv h0 (fun i σ H a b=>hs i σ H a b _ fun _ _ z=>z) hd
theorem at0{x:V}{r:List V}:atI (x::r) 0=some x:=dC (xs:=x::r) (j:=0) rfl
theorem at1{x y:V}{r:List V}:atI (x::y::r) 1=some y:=dC (xs:=x::y::r) (j:=1) rfl
theorem bA{c A B:Prop}[Decidable c](h:¬c)(hB:B):if decide c=true then A else B:=by rw[decide_eq_false h];exact aq hB
theorem mL{t u:L2.TS}{D:Ends}{σ:St}{H:Hp}(J:St->Hp->Prop)(h1:∀R:Ends,(∀σ' H',J σ' H'->R.nx σ' H')->t R σ H)(h2:∀σ' H',J σ' H'->u D σ' H'):oi t u D σ H:=h1 { D with nx:=u D } h2
end
def Sm(i:Int):Prop:=i.natAbs<10^60
theorem Sm.big{i:Int}(h:Sm i):i.natAbs<10^4300:=zq h (Nat.pow_le_pow_right (by decide) (by decide))
theorem Sm.len{i:Int}(h:Sm i):(az i).length<=62:=zm (qI (k:=59) h) (by decide)
def pV(K:PySem.W.Frag):Sp:=fun vs H Q _=>∃(a:Addr) (ns:List Int) (k:Int),vs=[.ref a,.int k]/\SqL K H a (ns.map V.int)/\0<=k/\Q (.int (bJ ns k.toNat)) H
def kD(K:PySem.W.Frag):Sp:=fun vs H Q _=>∃(a:Addr) (ns:List Int),vs=[.ref a]/\SqL K H a (ns.map V.int)/\ns.length<=63/\∀H',Q (.bl true) H'
section
variable{P:Program}{w:World}{K:PySem.W.Frag}{mg:Str->Option Value}{base:Heap}
def cY(c:Nat):Bool:=decide (48<=c)&&decide (c<=57)
def aW(l:List Nat):Bool:=(decide (1<=l.length)&&decide (l.length<=60))&&l.all cY&&(decide (l=[48]) ||!decide (l.head?=some 48))
def FIG:Str:="0123456789"
theorem uI(c:Nat):decide (c∈FIG.cps.toList)=cY c:=by
 have e:FIG.cps.toList=[48,49,50,51,52,53,54,55,56,57]:=by decide +kernel
 rw[e];unfold cY;rw[Zi,Zf,zw,Zf,Zf];simp only[zl,zK,Zl];omega
def nZ:Sp:=fun vs H Q _=>∃x:Str,vs=[.str x]/\x.length<=1000/\x.cps.all (·<128)=true/\∀H',Same H H'->Q (.bl (aW x.cps.toList)) H'
theorem qD(x:Str):(((List.range x.cps.size).map fun i=>cY (x.cps.getD i 0)).all id)=x.cps.toList.all cY:=by
 rw[List.all_map,Zi,zR,zR];constructor
 ·intro h c hc;obtain⟨i,hi,rfl⟩:=List.getElem_of_mem hc;have hi':i<x.cps.size:=by simpa using hi
  have:=h i (List.mem_range.mpr hi');simpa[z9,hi']using this
 ·intro h i hi;have hi':=List.mem_range.mp hi;have:=h x.cps[i] (by simp);simpa[z9,hi']using this
theorem xK(x:Str):decide (V.str x=V.str "0")=decide (x.cps.toList=[48]):=by
 rw[decide_eq_decide];constructor
 ·intro h;injection h with h;rw[h];decide +kernel
 ·intro h;have:x="0":=cF (by rw[h];decide +kernel);rw[this]
abbrev dR:Stmt:=top 15
abbrev kH:List Str:=["text"]
theorem kh:FnScope kH ["text"] (ah dR):=⟨rfl,rfl,rfl,by decide +kernel,rfl,by decide +kernel,by decide +kernel⟩
theorem ke{f:Addr}{fd:FuncData}{t1 t2:Tok}(F:Fun K "is_figures" "is_figures" dR f fd)(a5:mg "len" = none)(yh:mg "all" = none)(d7:mg "MOST_FIGURES" = some (.int 60 t1))(l8:mg "FIGURES" = some (.str FIG t2)):FnOk P w K mg base CX0 1 f fd ["text"] nZ:=by
 refine F.okQ kh (fun vs H Q E h=>?_) (fun cdv A outer s H vs Q E hr h=>?_)
 ·obtain⟨x,rfl,_⟩:=h;rfl
 obtain⟨x,rfl,hl,ha,q⟩:=h;refine⟨_,(b_c (ar (t_w (cP (cU (uh nK nK af (q_B uE a5 zB (q_a (q_v 0) ae)) (rk d7))) (dB (cU (aR (q_B (wO rfl) yh oz (q_a (iT (own:=["sign"]) (⟨rfl,by decide +kernel,by decide +kernel,rfl,trivial⟩:CompOk _ _ [] []) rfl (wT (q_v 0)) (fun _ _ _ _=>br (i:=0) (show (["sign"]:List Str).Nodup by decide +kernel)) (cn (by decide)) (fun _ _ _ _=>nB) (fun _ _ _ _=>(bo xj (q_v 0) (xO l8)))) ae))))))) (b_1 (aj bH)) b_0)
   (b_1 (aj (vT (bo aI (q_v 0) ad) (kB (rR (rm (q_v 0) ad))))))),?_⟩
 have lx:x.cps.toList.length=x.length:=zP;have fin:∀H',Same H H'->x.cps.toList.all cY=true->1<=x.length->x.length<=60->∀R:VK,(∀b,b=aW x.cps.toList->R (.bl b) H')->rG (tOp rEq (tVar 0) (tC (.str "0"))) (oh (tBM K "str" jw (tVar 0) (cT (tC (.str "0")) dj))) [some (.str x)] H' R:=fun H' s' h1 h2 h3 R hR=>by
  have fb:aW x.cps.toList=(decide (x.cps.toList=[48]) ||!decide (x.cps.toList.head?=some 48)):=by unfold aW;rw[h1,lx,decide_eq_true h2,decide_eq_true h3];rfl
  refine⟨_,rfl,rfl,_,rfl,?_⟩;rw[xK];cases e:decide (x.cps.toList=[48])with
  |true=>exact aX (hR _ (by rw[fb,e];rfl))
  |false =>refine aq ⟨_,rfl,rfl,x,"0",rfl,rfl,_,rfl,?_⟩;have es:Txt.startswith x "0" = decide (x.cps.toList.head?=some 48):=pX (c:=48);rw[es];exact hR _ (by rw[fb,e];rfl)
 refine⟨_,rfl,x,rfl,hl,_,_,rfl,rfl,_,rfl,?_⟩;refine uO (fun c=>?_) (fun c=>?_)
 ·have c1:1<=x.length:=by have:=of_decide_eq_true c;omega
  refine⟨_,_,rfl,rfl,_,rfl,?_⟩;by_cases c2:x.length<=60
  ·rw[decide_eq_true (show(x.length:Int)<=60 by omega)];refine aq ⟨_,rfl,x,rfl,ha,?_⟩;refine qw (x:=x) (fun i=>.bl (cY (x.cps.getD i 0))) hl (fun i c' H1 hi sm R k=>?_) (fun p H1 sm hp=>?_)
   ·have e:x.cps.getD i 0=c':=by rw[z9,hi];rfl
    rw[e]at k;have k':=k H1 (Same.refl H1);rw[<-uI,<-sS]at k';exact⟨_,rfl,⟨#[c']⟩,FIG,rfl,rfl,k'⟩
   ·refine⟨p,(List.range x.cps.size).map (fun i=>cY (x.cps.getD i 0)),rfl,SqL.of (by rw[aa,List.map_map];rfl),_,rfl,?_⟩;rw[qD];have sp:=sm.trans (ac hp (.lst ((List.range x.cps.size).map fun i=>V.bl (cY (x.cps.getD i 0)))));cases e:x.cps.toList.all cY with
    |true=>exact aq (fin _ sp e c1 c2 _ fun b hb=>by rw[hb];exact q _ sp)
    |false =>refine aX ?_;have q':=q _ sp;rw[show aW x.cps.toList=false by unfold aW;rw[e];simp]at q';exact q'
  ·rw[decide_eq_false (show¬(x.length:Int)<=60 by omega)];refine aX (aX ?_);have q':=q H (Same.refl H);rw[show aW x.cps.toList=false by unfold aW;rw[lx,decide_eq_false c2];simp]at q';exact q'
 ·have c1:¬1<=x.length:=fun z=>c (decide_eq_true (by omega));refine⟨_,rfl,aX (aX ?_)⟩;have q':=q H (Same.refl H);rw[show aW x.cps.toList=false by unfold aW;rw[lx,decide_eq_false c1];simp]at q';exact q'
end
theorem xE:¬(("words":Str)="spot"):=by decide +kernel
def dz(l:Addr)(i:Nat):List (Str×V):=bE "spot" (.int (i:Int)) (bE "words" (.ref l) [])
theorem lG(l:Addr)(i:Nat):(dz l i).lookup ("words":Str)=some (.ref l):=by unfold dz;rw[bx,ym xE,bx,yn rfl]
theorem dG(l:Addr)(i:Nat):(dz l i).lookup ("spot":Str)=some (.int (i:Int)):=by unfold dz;rw[bx,yn rfl]
theorem aB(l:Addr)(i:Nat){m:Str}(h1:¬m="spot")(h2:¬m="words"):(dz l i).lookup m=none:=by
 unfold dz;rw[bx,ym h1,bx,ym h2]
 all_goals rfl
inductive RdAt(C:Addr)(H:Hp)(p l:Addr)(ws:List Str)(i:Nat):Prop
 |mk (dx:Addr) (h0:H p=some (.ins C dx (dz l i))) (h1:H l=some (.lst (ws.map V.str))) (h2:i<=ws.length) (h3:ws.length<=100000):RdAt C H p l ws i
structure Txt(K:PySem.W.Frag)(C:Addr):Prop where
 cl:Cls K C
 nW:NoAttr K C "words"
 nS:NoAttr K C "spot"
inductive spThrough(C:Addr)(vs:List V)(H:Hp)(Q:VK)(E_:XK):Prop
 |mk (p l:Addr) (ws:List Str) (i:Nat) (h0:vs=[.ref p]) (h1:RdAt C H p l ws i) (h2:Q (.bl (decide (i=ws.length))) H):spThrough C vs H Q E_
inductive spHere(C:Addr)(vs:List V)(H:Hp)(Q:VK)(E_:XK):Prop
 |mk (p l:Addr) (ws:List Str) (i:Nat) (h0:vs=[.ref p]) (h1:RdAt C H p l ws i) (h2:Q (.str (ws.getD i "")) H):spHere C vs H Q E_
inductive spGoOn(C:Addr)(vs:List V)(H:Hp)(Q:VK)(E_:XK):Prop
 |mk (p l:Addr) (ws:List Str) (i:Nat) (h0:vs=[.ref p,.bl true]) (h1:RdAt C H p l ws i) (h2:i<ws.length) (h3:∀H',(∀b o,H b=some o->b≠p->H' b=some o)->RdAt C H' p l ws (i+1)->Q .non H'):spGoOn C vs H Q E_
inductive spPasses(C:Addr)(vs:List V)(H:Hp)(Q:VK)(E_:XK):Prop
 |mk (p l:Addr) (ws:List Str) (i:Nat) (t:Str) (h0:vs=[.ref p,.str t]) (h1:RdAt C H p l ws i) (h2:t≠"") (h3:ws.getD i ""≠t->Q (.bl false) H) (h4:ws[i]?=some t->∀H',(∀b o,H b=some o->b≠p->H' b=some o)->RdAt C H' p l ws (i+1)->Q (.bl true) H'):spPasses C vs H Q E_
inductive spRInit(C:Addr)(vs:List V)(H:Hp)(Q:VK)(E_:XK):Prop
 |mk (p dx l:Addr) (ws:List Str) (h0:vs=[.ref p,.ref l]) (h1:H p=some (.ins C dx [])) (h2:H l=some (.lst (ws.map V.str))) (h3:ws.length<=100000) (h4:∀H',(∀b o,H b=some o->b≠p->H' b=some o)->RdAt C H' p l ws 0->Q .non H'):spRInit C vs H Q E_
section
variable{P:Program}{w:World}{K:PySem.W.Frag}{mg:Str->Option Value}{base:Heap}
abbrev bI:Stmt:=dE (top 22) 1
abbrev fF:List Str:=["self"]
theorem fz:FnScope fF ["self"] (ah bI):=⟨rfl,rfl,rfl,by decide +kernel,rfl,by decide +kernel,by decide +kernel⟩
theorem fq{f C:Addr}{fd:FuncData}(F:Fun K "is_through" "Reader.is_through" bI f fd)(T:Txt K C)(a5:mg "len" = none):FnOk P w K mg base CX0 1 f fd ["self"] (spThrough C):=by
 refine F.okQ fz (fun vs H Q E h=>?_) (fun cdv A outer s H vs Q E hr h=>?_)
 ·obtain⟨p,l,ws,i,rfl,_⟩:=h;rfl
 obtain⟨p,l,ws,i,rfl,⟨dx,e0,e1,hi,hz⟩,q⟩:=h;refine⟨_,(b_1 (aj (bo aI (gJ (q_v 0)) (q_B bf a5 zB (q_a (gJ (q_v 0)) ae))))),?_⟩;have hd:decide (V.int (i:Int)=V.int ((ws.map V.str).length:Int))=decide (i=ws.length):=by
  rw[za];by_cases c:i=ws.length
  ·rw[decide_eq_true c,c,decide_eq_true rfl]
  ·rw[decide_eq_false c,decide_eq_false fun z=>c (by injection z with z;omega)]
 rw[<-hd]at q;exact⟨_,rfl,p,C,dx,_,_,rfl,e0,T.cl,T.nS,dG l i,⟨_,rfl,p,C,dx,_,_,rfl,e0,T.cl,T.nW,lG l i,l,_,rfl,.inl (SqL.of e1),rfl,q⟩⟩
abbrev de:Stmt:=dE (top 22) 2
abbrev jX:List Str:=["self"]
theorem jC:FnScope jX ["self"] (ah de):=⟨rfl,rfl,rfl,by decide +kernel,rfl,by decide +kernel,by decide +kernel⟩
theorem jr{f C:Addr}{fd:FuncData}(F:Fun K "here" "Reader.here" de f fd)(T:Txt K C)(c6:MFn P w K mg base 1 C "is_through" ["self"] (spThrough C)):FnOk P w K mg base CX0 2 f fd ["self"] (spHere C):=by
 refine F.okQ jC (fun vs H Q E h=>?_) (fun cdv A outer s H vs Q E hr h=>?_)
 ·obtain⟨p,l,ws,i,rfl,_⟩:=h;rfl
 obtain⟨p,l,ws,i,rfl,R,q⟩:=h;obtain⟨dx,e0,e1,hi,hz⟩:=id R;refine⟨_,(b_1 (aj (vR (aR (cM c6 (hr.mono (by decide)) (q_v 0))) ad (aD aF (gJ (q_v 0)) (gJ (q_v 0)))))),?_⟩;refine⟨_,rfl,p,dx,_,rfl,e0,aB l i (by decide +kernel) (by decide +kernel),⟨p,l,ws,i,rfl,R,⟨_,rfl,aZ (fun c=>?_) (fun c=>?_)⟩⟩⟩
 ·rw[Zd,List.getElem?_eq_none (by omega)]at q;exact q
 ·have hl:i<ws.length:=by omega
  have ha:atI (ws.map V.str) (i:Int)=some (.str (ws.getD i "")):=dC (by rw[zL,Zd,zx hl];rfl);exact⟨_,rfl,p,C,dx,_,_,rfl,e0,T.cl,T.nW,lG l i,⟨_,rfl,p,C,dx,_,_,rfl,e0,T.cl,T.nS,dG l i,⟨l,_,_,_,rfl,rfl,SqL.of e1,ha,q⟩⟩⟩
abbrev bR:Stmt:=dE (top 22) 3
abbrev jc:List Str:=["self","good"]
theorem eu:FnScope jc ["self","good"] (ah bR):=⟨rfl,rfl,rfl,by decide +kernel,rfl,by decide +kernel,by decide +kernel⟩
theorem iP{f C:Addr}{fd:FuncData}(F:Fun K "go_on" "Reader.go_on" bR f fd)(T:Txt K C):FnOk P w K mg base CX0 1 f fd ["self","good"] (spGoOn C):=by
 refine F.okQ eu (fun vs H Q E h=>?_) (fun cdv A outer s H vs Q E hr h=>?_)
 ·obtain⟨p,l,ws,i,rfl,_⟩:=h;rfl
 obtain⟨p,l,ws,i,rfl,R,hlt,q⟩:=h;obtain⟨dx,e0,e1,hi,hz⟩:=id R;refine⟨_,(b_c (ar (cU (aR (q_v 1))) (b_1 ub) b_0)
   (b_1 (lM (q_v 0) af oY))),?_⟩
 refine⟨_,rfl,⟨_,rfl,aq ?_⟩⟩;have npl:l≠p:=fun z=>by rw[z,e0]at e1;cases e1
 refine⟨_,rfl,p,C,dx,_,_,rfl,e0,T.cl,T.nS,dG l i,_,_,rfl,rfl,dx,_,e0,?_,?_⟩
 ·show 2<1000;decide
 ·exact q _ (fun b o e n=>by rw[ag n];exact e) ⟨dx,aa,by rw[ag npl];exact e1,hlt,hz⟩
abbrev cB:Stmt:=dE (top 22) 4
abbrev iy:List Str:=["self","word","found"]
theorem dW:FnScope iy ["self","word"] (ah cB):=⟨rfl,rfl,rfl,by decide +kernel,rfl,by decide +kernel,by decide +kernel⟩
theorem ip{f C:Addr}{fd:FuncData}(F:Fun K "passes" "Reader.passes" cB f fd)(c7:MFn P w K mg base 2 C "here" ["self"] (spHere C))(v8:MFn P w K mg base 1 C "go_on" ["self","good"] (spGoOn C)):FnOk P w K mg base CX0 3 f fd ["self","word"] (spPasses C):=by
 refine F.okQ dW (fun vs H Q E h=>?_) (fun cdv A outer s H vs Q E hr h=>?_)
 ·obtain⟨p,l,ws,i,t,rfl,_⟩:=h;rfl
 obtain⟨p,l,ws,i,t,rfl,R,ht,q1,q2⟩:=h;obtain⟨dx,e0,e1,hi,hz⟩:=id R;refine⟨_,(b_c (am (i:=2) dW.nd (bo aI (cM c7 (hr.mono (by decide)) (q_v 0)) (q_v 1)))
   (b_c (ar (aR (q_v 2)) (b_1 (cW (dO v8 (hr.mono (by decide)) (q_v 0) (q_a bH ae)))) b_0)
   (b_1 (aj (q_v 2))))),?_⟩
 refine⟨_,rfl,p,dx,_,rfl,e0,aB l i (by decide +kernel) (by decide +kernel),⟨p,l,ws,i,rfl,R,⟨_,rfl,rfl,?_⟩⟩⟩;by_cases c:ws.getD i "" = t
 ·have hw:ws[i]?=some t:=by
   rw[Zd]at c;cases e:ws[i]? with
   |none=>rw[e]at c;exact absurd c.symm ht
   |some x=>rw[e]at c;exact zS some c
  have hl:i<ws.length:=(zr.mp hw).1;rw[c,decide_eq_true rfl];refine⟨_,rfl,⟨_,rfl,aX ⟨_,rfl,p,dx,_,rfl,e0,aB l i (by decide +kernel) (by decide +kernel),⟨p,l,ws,i,rfl,R,hl,fun H' b R'=>⟨_,rfl,q2 hw H' b R'⟩⟩⟩⟩⟩
 ·rw[decide_eq_false fun z=>c (by injection z)];exact⟨_,rfl,⟨_,rfl,aq ⟨_,rfl,q1 c⟩⟩⟩
abbrev df:Stmt:=dE (top 22) 0
abbrev jY:List Str:=["self","words"]
theorem jD:FnScope jY ["self","words"] (ah df):=⟨rfl,rfl,rfl,by decide +kernel,rfl,by decide +kernel,by decide +kernel⟩
theorem jt{f C:Addr}{fd:FuncData}(F:Fun K "__init__" "Reader.__init__" df f fd)(T:Txt K C):FnOk P w K mg base CX0 1 f fd ["self","words"] (spRInit C):=by
 refine F.okQ jD (fun vs H Q E h=>?_) (fun cdv A outer s H vs Q E hr h=>?_)
 ·obtain⟨p,dx,l,ws,rfl,_⟩:=h;rfl
 obtain⟨p,dx,l,ws,rfl,e0,e1,hz,q⟩:=h;refine⟨_,(b_c (rW (q_v 0) (q_v 1))
   (b_1 (rW (q_v 0) af))),?_⟩
 have npl:l≠p:=fun z=>by rw[z,e0]at e1;cases e1
 refine⟨_,rfl,_,rfl,p,C,dx,[],rfl,e0,T.cl,T.nW,(by show 0<1000;decide),?_⟩;refine⟨_,rfl,p,C,dx,_,rfl,aa,T.cl,T.nS,(by show 1<1000;decide),?_⟩;exact q _ (fun b o e n=>by rw[ag n,ag n];exact e) ⟨dx,aa,by rw[ag npl,ag npl];exact e1,zW _,hz⟩
end
inductive spAlone(vs:List V)(H:Hp)(Q:VK)(E_:XK):Prop
 |mk (t:Str) (L:Addr) (ps:List V) (h0:vs=[.str t,.ref L]) (h1:H L=some (.lst ps)) (h2:ps≠[]) (h3:ps.length<=900) (h4:∀v,ps=[v]->Q v H) (h5:ps.length≠1->∀a b H',Same H H'->H' b=some (.tup ps)->H' a=some (.tup [.str t,.ref b])->Q (.ref a) H'):spAlone vs H Q E_
section
variable{P:Program}{w:World}{K:PySem.W.Frag}{mg:Str->Option Value}{base:Heap}
abbrev fv:Stmt:=top 26
abbrev mV:List Str:=["word","parts"]
theorem mj:FnScope mV ["word","parts"] (ah fv):=⟨rfl,rfl,rfl,by decide +kernel,rfl,by decide +kernel,by decide +kernel⟩
theorem mf{f:Addr}{fd:FuncData}(F:Fun K "alone_or" "alone_or" fv f fd)(a5:mg "len" = none)(d4:mg "tuple" = none):FnOk P w K mg base CX0 1 f fd ["word","parts"] spAlone:=by
 refine F.okQ mj (fun vs H Q E h=>?_) (fun cdv A outer s H vs Q E hr h=>?_)
 ·obtain⟨t,L,ps,rfl,_⟩:=h;rfl
 obtain⟨t,L,ps,rfl,e,hne,hz,q1,q2⟩:=h;refine⟨_,(b_1 (aj (vR (ak aI (q_B bf a5 zB (q_a (q_v 1) ae)) af) (aD aF (q_v 1) af) (ap (q_a (q_v 0) (q_a (db mY d4 eY (q_a (q_v 1) ae)) ae)))))),?_⟩;refine⟨_,rfl,L,ps,rfl,.inl (SqL.of e),rfl,⟨_,rfl,aZ (fun c=>?_) (fun c=>?_)⟩⟩
 ·obtain⟨v,rfl⟩:∃v,ps=[v]:=by
   have c:(ps.length:Int)=1:=by injection c
   exact List.length_eq_one_iff.mp (by omega)
  exact⟨_,rfl,L,_,_,v,rfl,rfl,SqL.of e,at0,q1 v rfl⟩
 ·have c1:ps.length≠1:=fun z=>c (by rw[z];rfl);refine⟨_,rfl,_,rfl,L,ps,rfl,.inl ⟨SqL.of e,fun b gb=>?_⟩⟩;have wb:=ac gb (.tup ps);refine⟨sz rfl,fun a ga=>q2 c1 a b _ (wb.trans (ac ga _)) (ac ga _ _ _ aa) aa⟩
end
inductive Cq where
 |w (s:Str)
 |num (s:Str)(n:Int)
 |item (x y:Int)
 |says (t:Str)
 |no (c:Cq)
 |many (o:Bool)(cs:List Cq)
def orW(o:Bool):Str:=if o then"or" else"and"
def Cq.hd:Cq->Str
 |.w s=>s
 |.num s _=>s
 |.item _ _=>"beneath"
 |.says _=>"says"
 |.no _=>"not"
 |.many o _=>orW o
mutual
inductive CqAt(H:Hp):V->Cq->Prop
 |w {a:Addr} {s:Str} (h:H a=some (.tup [.str s])):CqAt H (.ref a) (.w s)
 |num {a:Addr} {s:Str} {n:Int} (h:H a=some (.tup [.str s,.int n])):CqAt H (.ref a) (.num s n)
 |item {a b:Addr} {x y:Int} (h:H a=some (.tup [.str "beneath",.ref b])) (h1:H b=some (.tup [.int x,.int y])):CqAt H (.ref a) (.item x y)
 |says {a:Addr} {t:Str} (h:H a=some (.tup [.str "says",.str t])):CqAt H (.ref a) (.says t)
 |no {a:Addr} {v:V} {c:Cq} (h:H a=some (.tup [.str "not",v])) (h1:CqAt H v c):CqAt H (.ref a) (.no c)
 |many {a b:Addr} {o:Bool} {vs:List V} {cs:List Cq} (h:H a=some (.tup [.str (orW o),.ref b])) (h1:H b=some (.tup vs)) (h2:CqsAt H vs cs):CqAt H (.ref a) (.many o cs)
inductive CqsAt(H:Hp):List V->List Cq->Prop
 |nil:CqsAt H [] []
 |cons {v:V} {vs:List V} {c:Cq} {cs:List Cq} (h:CqAt H v c) (t:CqsAt H vs cs):CqsAt H (v::vs) (c::cs)
end
def TS2(H H':Hp):Prop:=∀a zs,H a=some (.tup zs)->H' a=some (.tup zs)
mutual
theorem CqAt.ts{H H':Hp}(s:TS2 H H'):∀{v:V} {c:Cq},CqAt H v c->CqAt H' v c
 |_,_,.w h=>.w (s _ _ h)
 |_,_,.num h=>.num (s _ _ h)
 |_,_,.item h h1=>.item (s _ _ h) (s _ _ h1)
 |_,_,.says h=>.says (s _ _ h)
 |_,_,.no h h1=>.no (s _ _ h) (CqAt.ts s h1)
 |_,_,.many h h1 h2=>.many (s _ _ h) (s _ _ h1) (CqsAt.ts s h2)
theorem CqsAt.ts{H H':Hp}(s:TS2 H H'):∀{vs:List V} {cs:List Cq},CqsAt H vs cs->CqsAt H' vs cs
 |_,_,.nil=>.nil
 |_,_,.cons h t=>.cons (CqAt.ts s h) (CqsAt.ts s t)
end
theorem CqAt.head{H:Hp}{v:V}{c:Cq}(h:CqAt H v c):∃a xs,v=.ref a/\H a=some (.tup (.str c.hd::xs)):=by
 cases h with
 |w h=>exact⟨_,_,rfl,h⟩
 |num h=>exact⟨_,_,rfl,h⟩
 |item h _=>exact⟨_,_,rfl,h⟩
 |says h=>exact⟨_,_,rfl,h⟩
 |no h _=>exact⟨_,_,rfl,h⟩
 |many h _ _=>exact⟨_,_,rfl,h⟩
def brk(c:Cq)(t:Str):Bool:=decide (c.hd="or") ||(decide (c.hd="and")&&!decide (t="or"))
inductive spDeep(vs:List V)(H:Hp)(Q:VK)(E_:XK):Prop
 |mk (v:V) (c:Cq) (d:Int) (t:Str) (h0:vs=[v,.int d,.str t]) (h1:CqAt H v c) (h2:Q (.int (if brk c t then d+1 else d)) H):spDeep vs H Q E_
section
variable{P:Program}{w:World}{K:PySem.W.Frag}{mg:Str->Option Value}{base:Heap}
abbrev lK:Stmt:=top 34
abbrev oo:List Str:=["_law_condition","_law_deep_here","_law_word"]
theorem uc:FnScope oo ["_law_condition","_law_deep_here","_law_word"] (ah lK):=⟨rfl,rfl,rfl,by decide +kernel,rfl,by decide +kernel,by decide +kernel⟩
theorem sV{f:Addr}{fd:FuncData}(F:Fun K "_law_deep" "_law_deep" lK f fd):FnOk P w K mg base CX0 1 f fd ["_law_condition","_law_deep_here","_law_word"] spDeep:=by
 refine F.okQ uc (fun vs H Q E h=>?_) (fun cdv A outer s H vs Q E hr h=>?_)
 ·obtain⟨v,c,d,t,rfl,_⟩:=h;rfl
 obtain⟨v,c,d,t,rfl,hc,q⟩:=h;obtain⟨a,xs,rfl,e⟩:=hc.head;refine⟨_,(b_c (ar (t_w (cP (ak aI (aD bK (q_v 0) af) ad) (dB (t_w (cV (ak aI (aD bK (q_v 0) af) ad) (cH (ak nM (q_v 2) ad))))))) (b_1 (aj (ai bB (q_v 1) af))) b_0)
   (b_1 (aj (q_v 1)))),?_⟩
 have hix:∀{R:VK},R (.str c.hd) H->tOp (rIxT K) (tVar 0) (tC (.int 0)) (L2.cb oo [V.ref a,V.int d,V.str t]) H R:=fun r=>⟨_,rfl,a,_,_,_,rfl,rfl,SqT.of e,at0,r⟩
 have hb:brk c t=(decide (c.hd="or") ||(decide (c.hd="and")&&!decide (t="or"))):=rfl;rw[hb]at q;refine hix ⟨rfl,⟨_,rfl,aZ (fun c1=>?_) (fun c1=>?_)⟩⟩
 ·rw[decide_eq_true (show c.hd="or" by injection c1)]at q;exact aX ⟨_,rfl,_,_,rfl,rfl,q⟩
 rw[decide_eq_false (fun z=>c1 (by rw[z]))]at q;refine hix ⟨rfl,⟨_,rfl,aZ (fun c2=>?_) (fun c2=>?_)⟩⟩
 ·rw[decide_eq_true (show c.hd="and" by injection c2)]at q;refine⟨_,rfl,⟨rfl,⟨_,rfl,?_⟩⟩⟩;by_cases c3:t="or"
  ·rw[decide_eq_true c3]at q;rw[c3,decide_eq_true rfl];exact aq ⟨_,rfl,q⟩
  ·rw[decide_eq_false c3]at q;rw[decide_eq_false (fun z=>c3 (by injection z))];exact aX ⟨_,rfl,_,_,rfl,rfl,q⟩
 ·rw[decide_eq_false (fun z=>c2 (by rw[z]))]at q;exact aq ⟨_,rfl,q⟩
end
def aP:Str:=" "
def opn:Str:="("
def cls:Str:=")"
def aw:Str:="not"
def bt(b:Bool)(ws:List Str):List Str:=if b then opn::(ws++[cls])else ws
mutual
def Cq.ws:Cq->List Str
 |.w s=>[s]
 |.num s n=>[s,az n]
 |.item x y=>["beneath",az x++"."++az y]
 |.says t=>["says",t]
 |.no c=>aw::bt (brk c aw) (Cq.ws c)
 |.many o cs=>Cq.wsL o cs
def Cq.wsL(o:Bool):List Cq->List Str
 | []=>[]
 | [c]=>bt (brk c (orW o)) (Cq.ws c)
 |c::d::cs=>bt (brk c (orW o)) (Cq.ws c)++orW o::Cq.wsL o (d::cs)
end
def Cq.line(c:Cq):Str:=Str.join aP c.ws
section
variable{P:Program}{w:World}{K:PySem.W.Frag}{mg:Str->Option Value}{base:Heap}
def oa(cN:Addr):Sp:=fun vs H Q _=>∃(e t:Addr) (v:V),vs=[.ref e,v]/\H e=some (exN e cN t none)/\∀d,H d=none->Q .non (upd (upd H d (.xd [("at",v)])) e (exN e cN t (some d)))
abbrev bV:Stmt:=dE (top 10) 0
abbrev gT:List Str:=["self","at"]
theorem gd:FnScope gT ["self","at"] (ah bV):=⟨rfl,rfl,rfl,by decide +kernel,rfl,by decide +kernel,by decide +kernel⟩
theorem fR{f cN:Addr}{fd:FuncData}(F:Fun K "__init__" "NoQuestion.__init__" bV f fd)(S:ExS K cN)(n:NoAttr K cN "at"):FnOk P w K mg base CX0 1 f fd ["self","at"] (oa cN):=by
 refine F.okQ gd (fun vs H Q E h=>?_) (fun cdv A outer s H vs Q E hr h=>?_)
 ·obtain⟨e,t,v,rfl,_⟩:=h;rfl
 obtain⟨e,t,v,rfl,he,q⟩:=h;refine⟨_,(b_1 (vX (q_v 0) (q_v 1))),?_⟩
 try rw[cxK]
 exact⟨_,rfl,_,rfl,e,cN,t,rfl,he,S,n,q⟩
theorem kK{H1:Hp}{ea t d cN:Addr}{v:V}(h1:H1 ea=none)(hd:upd H1 ea (exN ea cN t none) d=none) :
  Same H1 (del (upd (upd (upd H1 ea (exN ea cN t none)) d (.xd [("at",v)])) ea (exN ea cN t (some d))) ea)/\del (upd (upd (upd H1 ea (exN ea cN t none)) d (.xd [("at",v)])) ea (exN ea cN t (some d))) ea d=some (.xd [("at",v)]):=by
 have nde:d≠ea:=fun z=>by rw[z,aa]at hd;cases hd
 refine⟨fun b o e=>?_,?_⟩
 ·have hb:b≠ea:=ax e h1;have hbd:b≠d:=fun z=>by rw[<-z,ag hb,e]at hd;cases hd
  rw[cw hb,ag hb,ag hbd,ag hb];exact e
 ·rw[cw nde,ag nde,aa]
inductive spGoX(C cQ:Addr)(vs:List V)(H:Hp)(Q:VK)(E_:XK):Prop
 |mk (p l:Addr) (ws:List Str) (i:Nat) (b:Bool) (h0:vs=[.ref p,.bl b]) (h1:RdAt C H p l ws i) (h2:b=true->i<ws.length) (h3:b=true->∀H',(∀b o,H b=some o->b≠p->H' b=some o)->RdAt C H' p l ws (i+1)->Q .non H') (h4:b=false->∀H' dd,Same H H'->H' dd=some (.xd [("at",.int (i:Int))])->E_ (.ref cQ) (some dd) H'):spGoX C cQ vs H Q E_
theorem io{f C cQ:Addr}{fd:FuncData}{bm:List Value}(F:Fun K "go_on" "Reader.go_on" bR f fd)(T:Txt K C)(b6:ExI P w K mg base 1 cQ bm ["self","at"] (oa cQ))(a8:mg "NoQuestion" = some (.ref cQ)):FnOk P w K mg base (CXr P w) 3 f fd ["self","good"] (spGoX C cQ):=by
 refine F.okX eu (fun vs H Q E h=>?_) (fun cdv A outer s H vs Q E hr h=>?_)
 ·obtain⟨p,l,ws,i,b,rfl,_⟩:=h;rfl
 obtain⟨p,l,ws,i,b,rfl,R,hlt,q,q2⟩:=h;obtain⟨dx,e0,e1,hi,hz⟩:=id R;refine⟨_,(b_c (ar (cU (aR (q_v 1))) (b_1 (lO aM rfl b6 (hr.mono (by decide)) a8 (q_a (gJ (q_v 0)) ae))) b_0)
   (b_1 (lM (q_v 0) af oY))),?_⟩
 try rw[cxK]
 cases b with
 |true =>
  refine⟨_,rfl,⟨_,rfl,aq ?_⟩⟩;have npl:l≠p:=fun z=>by rw[z,e0]at e1;cases e1
  refine⟨_,rfl,p,C,dx,_,_,rfl,e0,T.cl,T.nS,dG l i,_,_,rfl,rfl,dx,_,e0,?_,?_⟩
  ·show 2<1000;decide
  ·exact q rfl _ (fun b o e n=>by rw[ag n];exact e) ⟨dx,aa,by rw[ag npl];exact e1,hlt rfl,hz⟩
 |false =>refine⟨_,rfl,⟨_,rfl,aX ?_⟩⟩;refine⟨_,rfl,p,C,dx,_,_,rfl,e0,T.cl,T.nS,dG l i,?_⟩;refine⟨sz rfl,fun ea t hea ht nt=>⟨ea,t,_,rfl,aa,fun dd hdd=>⟨rfl,some dd,aa,?_⟩⟩⟩;obtain⟨a1,a2⟩:=kK hea hdd;exact q2 rfl _ dd a1 a2
def W6:List Str:=["all","done","folded","free","leaf","seen"]
def tf(s:Str):TV:=.flat (.str s)
def FT:List (Str×TV):=[("all",tf "nothing"),("done",tf "nothing"),("folded",tf "nothing"),("free",tf "nothing"),("leaf",tf "nothing"),("seen",tf "nothing"),("due",tf "number"),("depth",tf "number"),("beneath",tf "item"),("says",tf "word")]
def bX(x y:Int):Str:=az x++"."++az y
inductive AtOk:Cq->Prop
 |w {s:Str} (h:s∈W6):AtOk (.w s)
 |num {s:Str} {n:Int} (h:s="due"\/s="depth") (h0:0<=n) (h1:Sm n):AtOk (.num s n)
 |item {x y:Int} (h0:0<=x) (h1:1<=y) (h2:Sm x) (h3:Sm y):AtOk (.item x y)
 |says {t:Str} (h0:t≠"") (h1:t.length<=100) (h2:32∉t.cps.toList) (h3:t.cps.all (·<128)=true):AtOk (.says t)
theorem ib{i:Int}(c:0<=i)(h:Sm i):aW (az i).cps.toList=true:=by
 have dl:=kY 59 h;have da:=fJ i.natAbs;have dn:=km i.natAbs;have al:(dg i.natAbs).all cY=true:=by rw[zR];intro c hc;have:=da c hc;unfold cY;rw[decide_eq_true this.1,decide_eq_true this.2];rfl
 have l1:1<=(dg i.natAbs).length:=List.length_pos_iff.mpr dn;have h0:(decide (dg i.natAbs=[48]) ||!decide ((dg i.natAbs).head?=some 48))=true:=by
  by_cases c:i.natAbs=0
  ·rw[c,show dg 0=[48]from gl (by decide)];rfl
  ·rw[decide_eq_false (ss _ c)];simp
 have e:(az i).cps.toList=dg i.natAbs:=by rw[ic c,show i.toNat=i.natAbs by omega]
 rw[e];unfold aW;rw[al,h0,decide_eq_true l1,decide_eq_true dl];rfl
theorem fK(i:Int):(az i).cps.all (·<128)=true:=by rw[<-z6,zR];intro c hc;have:=fi i c hc;exact decide_eq_true (by omega)
theorem pf(x y:Int):bX x y=Str.join (ch1 46) [az x,az y]:=by refine cF ?_;rw[dL];unfold bX;rw[aE,aE,zp];rfl
theorem iM(x y:Int):Txt.split (bX x y) "." = [az x,az y]:=by rw[pf];refine dA (c:=46) (by simp) fun p hp hm=>?_;simp only[zl,zK,Zl]at hp;rcases hp with rfl|rfl<;>(have:=fi _ _ hm;omega)
theorem ii{x y:Int}(h1:Sm x)(h2:Sm y):(bX x y).length<=125:=by have:=h1.len;have:=h2.len;unfold bX;rw[z4,z4];have:(".":Str).length=1:=rfl;omega
theorem sC{y:Int}(h:1<=y)(h1:Sm y):V.str (az y)≠V.str "0":=fun z=>by
 injection z with z;have e:=dq (i:=y) h1;rw[z]at e;have:PySem.intText? "0" = some 0:=by decide +kernel
 rw[this]at e;injection e with e;omega
inductive spItemIn(vs:List V)(H:Hp)(Q:VK)(E_:XK):Prop
 |mk (x y:Int) (h0:vs=[.str (bX x y)]) (h1:AtOk (.item x y)) (h2:∀a H',Same H H'->H' a=some (.tup [.int x,.int y])->Q (.ref a) H'):spItemIn vs H Q E_
abbrev fZ:Stmt:=top 17
abbrev ou:List Str:=["word","halves"]
theorem iW:FnScope ou ["word"] (ah fZ):=⟨rfl,rfl,rfl,by decide +kernel,rfl,by decide +kernel,by decide +kernel⟩
theorem nP{f:Addr}{fd:FuncData}(F:Fun K "item_in" "item_in" fZ f fd)(b7:mg "int" = none):FnOk P w K mg base CX0 1 f fd ["word"] spItemIn:=by
 refine F.okQ iW (fun vs H Q E h=>?_) (fun cdv A outer s H vs Q E hr h=>?_)
 ·obtain⟨x,y,rfl,_⟩:=h;rfl
 obtain⟨x,y,rfl,ok,q⟩:=h;refine⟨_,(b_c (am (i:=1) iW.nd (gN (q_v 0) ad))
   (b_1 (aj (ap (q_a (db kL b7 cg (q_a (aD aF (q_v 1) af) ae)) (q_a (db kL b7 cg (q_a (aD aF (q_v 1) af) ae)) ae)))))),?_⟩
 cases ok with
 |item x0 y0 sx sy =>
 refine⟨_,rfl,rfl,_,".",rfl,rfl,rfl,zm (ii sx sy) (by decide),fun D gD=>?_⟩;rw[iM];have wD:=ac gD (.lst ([az x,az y].map V.str));have eD:upd H D (.lst ([az x,az y].map V.str)) D=some (.lst ([az x,az y].map V.str)):=aa;generalize upd H D (.lst ([az x,az y].map V.str))=H1 at wD eD ⊢;refine⟨_,rfl,D,_,_,_,rfl,rfl,SqL.of eD,at0,az x,x,rfl,dq sx,zm sx.len (by decide),?_⟩;refine⟨_,rfl,D,_,_,_,rfl,rfl,SqL.of eD,at1,az y,y,rfl,dq sy,zm sy.len (by decide),?_⟩;exact⟨sz rfl,fun a ga=>q a _ (wD.trans (ac ga _)) aa⟩
def Cq.kind:Cq->Str
 |.num _ _=>"number"
 |.item _ _=>"item"
 |.says _=>"word"
 |_=>"nothing"
def Cq.arg:Cq->Str
 |.num _ n=>az n
 |.item x y=>bX x y
 |.says t=>t
 |_=>""
inductive ArgAt(H:Hp):V->Cq->Prop
 |num {s:Str} {n:Int}:ArgAt H (.int n) (.num s n)
 |item {b:Addr} {x y:Int} (h:H b=some (.tup [.int x,.int y])):ArgAt H (.ref b) (.item x y)
 |says {t:Str}:ArgAt H (.str t) (.says t)
inductive spFollowing(vs:List V)(H:Hp)(Q:VK)(E_:XK):Prop
 |mk (c:Cq) (h0:vs=[.str c.kind,.str c.arg]) (h1:AtOk c) (h2:c.kind≠"nothing") (h3:∀v H',Same H H'->ArgAt H' v c->Q v H'):spFollowing vs H Q E_
theorem wZ:¬(V.str "item" = V.str "number"):=by decide +kernel
theorem xf:¬(V.str "word" = V.str "number"):=by decide +kernel
theorem xa:¬(V.str "word" = V.str "item"):=by decide +kernel
abbrev cm:Stmt:=top 30
abbrev hV:List Str:=["kind","word"]
theorem gW:FnScope hV ["kind","word"] (ah cm):=⟨rfl,rfl,rfl,by decide +kernel,rfl,by decide +kernel,by decide +kernel⟩
theorem gU{f:Addr}{fd:FuncData}(F:Fun K "read_following" "read_following" cm f fd)(m7:Fn P w K mg base 1 "item_in" ["word"] spItemIn)(b7:mg "int" = none):FnOk P w K mg base CX0 2 f fd ["kind","word"] spFollowing:=by
 refine F.okQ gW (fun vs H Q E h=>?_) (fun cdv A outer s H vs Q E hr h=>?_)
 ·obtain⟨c,rfl,_⟩:=h;rfl
 obtain⟨c,rfl,ok,nn,q⟩:=h;refine⟨_,(b_c (ar (ak aI (q_v 0) ad) (b_1 (aj (db kL b7 cg (q_a (q_v 1) ae)))) b_0)
   (b_c (ar (ak aI (q_v 0) ad) (b_1 (aj (aH m7 (hr.mono (by decide)) (q_a (q_v 1) ae)))) b_0)
   (b_1 (aj (q_v 1))))),?_⟩
 cases id ok with
 |w h=>exact absurd rfl nn
 |@num s n h h0 h1 =>exact⟨_,rfl,rfl,_,rfl,bO rfl ⟨_,rfl,az n,n,rfl,dq h1,zm h1.len (by decide),q _ _ (Same.refl _) .num⟩⟩
 |@item x y h0 h1 h2 h3 =>exact⟨_,rfl,rfl,_,rfl,bA wZ ⟨_,rfl,rfl,_,rfl,bO rfl ⟨_,rfl,x,y,rfl,ok,fun a H' s' e=>q _ _ s' (.item e)⟩⟩⟩
 |@says t h0 h1 h2 =>exact⟨_,rfl,rfl,_,rfl,bA xf ⟨_,rfl,rfl,_,rfl,bA xa ⟨_,rfl,q _ _ (Same.refl _) .says⟩⟩⟩
theorem lB{s:Str}:∀{l:List Str} {p:Str} {c:Nat},p∈l->c∈p.cps.toList->c∈(Str.join s l).cps.toList
 | [a],p,c,h,hc=>by rw[zk.mp h]at hc;exact hc
 |a::b::r,p,c,h,hc=>by
  show c∈(a++s++Str.join s (b::r)).cps.toList;rw[aE,aE];rcases zl.mp h with rfl|h
  ·simp[hc]
  ·have:=lB (s:=s) h hc;simp[this]
theorem lj{s:Str}:∀{l:List Str} {p:Str},p∈l->p.length<=(Str.join s l).length
 | [a],p,h=>by rw[zk.mp h];exact zd _
 |a::b::r,p,h=>by
  show p.length<=(a++s++Str.join s (b::r)).length;rw[z4,z4];rcases zl.mp h with rfl|h
  ·omega
  ·have:=lj (s:=s) h;omega
def Asc(x:Str):Prop:=x.length<=300/\x.cps.all (·<128)=true
theorem Asc.part{x y p:Str}(hy:y.length=1)(h:Asc x)(hp:p∈Txt.split x y):Asc p:=by
 have e:Str.join y (Txt.split x y)=x:=StrLaws.join_split x y;refine⟨?_,?_⟩
 ·have:=lj (s:=y) hp;rw[e]at this;exact zm this h.1
 ·have a:=h.2;rw[<-z6,zR]at a ⊢;intro c hc;have:=lB (s:=y) hp hc;rw[e]at this;exact a c this
def iL:List Str->Bool
 | [a,b]=>aW a.cps.toList&&(aW b.cps.toList&&!decide (b="0"))
 |_=>false
def du(x:Str):Bool:=iL (Txt.split x ".")
def lA(k x:Str):Bool:=if k="number" then aW x.cps.toList else if k="item" then du x else !decide (x="")
inductive spItemG(vs:List V)(H:Hp)(Q:VK)(E_:XK):Prop
 |mk (x:Str) (h0:vs=[.str x]) (h1:Asc x) (h2:∀H',Same H H'->Q (.bl (du x)) H'):spItemG vs H Q E_
abbrev cO:Stmt:=top 16
abbrev jd:List Str:=["word","halves"]
theorem ey:FnScope jd ["word"] (ah cO):=⟨rfl,rfl,rfl,by decide +kernel,rfl,by decide +kernel,by decide +kernel⟩
theorem iQ{f:Addr}{fd:FuncData}(F:Fun K "is_item_word" "is_item_word" cO f fd)(b5:Fn P w K mg base 1 "is_figures" ["text"] nZ)(a5:mg "len" = none):FnOk P w K mg base CX0 2 f fd ["word"] spItemG:=by
 refine F.okQ ey (fun vs H Q E h=>?_) (fun cdv A outer s H vs Q E hr h=>?_)
 ·obtain⟨x,rfl,_⟩:=h;rfl
 obtain⟨x,rfl,as,q⟩:=h;refine⟨_,(b_c (am (i:=1) ey.nd (gN (q_v 0) ad))
   (b_1 (aj (kA (bo aI (q_B bf a5 zB (q_a (q_v 1) ae)) af) (kA (aH b5 (hr.mono (by decide)) (q_a (aD aF (q_v 1) af) ae)) (kA (aH b5 (hr.mono (by decide)) (q_a (aD aF (q_v 1) af) ae)) (kB (bo nM (aD aF (q_v 1) af) ad)))))))),?_⟩
 refine⟨_,rfl,rfl,_,".",rfl,rfl,rfl,zm as.1 (by decide),fun D gD=>?_⟩;have pa:∀p∈Txt.split x ".",Asc p:=fun p hp=>as.part rfl hp;have q:∀H',Same H H'->Q (.bl (iL (Txt.split x "."))) H':=q;generalize Txt.split x "." = hs at pa q ⊢;have wD:=ac gD (.lst (hs.map V.str));have eD:upd H D (.lst (hs.map V.str)) D=some (.lst (hs.map V.str)):=aa;generalize upd H D (.lst (hs.map V.str))=H1 at wD eD ⊢;refine⟨_,rfl,D,_,rfl,.inl (SqL.of eD),rfl,_,rfl,aZ (fun c=>?_) (fun c=>?_)⟩
 ·obtain⟨a,b,rfl⟩:∃a b,hs=[a,b]:=by
   have c:((hs.map V.str).length:Int)=2:=by injection c
   rw[za]at c
   match hs,c with
   | [a,b],_=>exact⟨a,b,rfl⟩
   | [],c=>simp at c
   | [_],c=>simp at c
   |_::_::_::_,c=>simp at c;omega
  have ha:=pa a (by simp);have hb:=pa b (by simp);refine⟨_,rfl,D,_,_,_,rfl,rfl,SqL.of eD,at0,a,rfl,zm ha.1 (by decide),ha.2,fun H2 s2=>⟨_,rfl,?_⟩⟩;have q2:Q (.bl (aW a.cps.toList&&(aW b.cps.toList&&!decide (b="0")))) H2:=q _ (wD.trans s2);cases ea:aW a.cps.toList with
  |false =>rw[ea]at q2;exact aq q2
  |true =>
   rw[ea,Bool.true_and]at q2;refine aX ⟨_,rfl,D,_,_,_,rfl,rfl,SqL.of (s2 _ _ eD),at1,b,rfl,zm hb.1 (by decide),hb.2,fun H3 s3=>⟨_,rfl,?_⟩⟩;have q3:Q (.bl (aW a.cps.toList&&(aW b.cps.toList&&!decide (b="0")))) H3:=q _ (wD.trans (s2.trans s3));rw[ea,Bool.true_and]at q3;cases eb:aW b.cps.toList with
   |false =>rw[eb]at q3;exact aq q3
   |true =>
    rw[eb,Bool.true_and]at q3;refine aX ⟨_,rfl,D,_,_,_,rfl,rfl,SqL.of (s3 _ _ (s2 _ _ eD)),at1,rfl,?_⟩;have:decide (V.str b=V.str "0")=decide (b="0"):=by rw[decide_eq_decide];exact⟨fun z=>by injection z,fun z=>by rw[z]⟩
    rw[this];exact q3
 ·have q2:=q _ wD;have:iL hs=false:=by
   clear q q2 eD pa
   match hs,c with
   | [a,b],c=>exact absurd rfl c
   | [],_=>rfl
   | [_],_=>rfl
   |_::_::_::_,_=>rfl
  rw[this]at q2;exact q2
inductive spMayG(vs:List V)(H:Hp)(Q:VK)(E_:XK):Prop
 |mk (k x:Str) (h0:vs=[.str k,.str x]) (h1:Asc x) (h3:∀H',Same H H'->Q (.bl (lA k x)) H'):spMayG vs H Q E_
abbrev dS:Stmt:=top 29
abbrev kI:List Str:=["kind","word"]
theorem ki:FnScope kI ["kind","word"] (ah dS):=⟨rfl,rfl,rfl,by decide +kernel,rfl,by decide +kernel,by decide +kernel⟩
theorem kf{f:Addr}{fd:FuncData}(F:Fun K "may_follow" "may_follow" dS f fd)(b5:Fn P w K mg base 1 "is_figures" ["text"] nZ)(d8:Fn P w K mg base 2 "is_item_word" ["word"] spItemG):FnOk P w K mg base CX0 3 f fd ["kind","word"] spMayG:=by
 refine F.okQ ki (fun vs H Q E h=>?_) (fun cdv A outer s H vs Q E hr h=>?_)
 ·obtain⟨k,x,rfl,_⟩:=h;rfl
 obtain⟨k,x,rfl,as,q⟩:=h;refine⟨_,(b_c (ar (ak aI (q_v 0) ad) (b_1 (aj (aH b5 (hr.mono (by decide)) (q_a (q_v 1) ae)))) b_0)
   (b_c (ar (ak aI (q_v 0) ad) (b_1 (aj (aH d8 (hr.mono (by decide)) (q_a (q_v 1) ae)))) b_0)
   (b_1 (aj (bo nM (q_v 1) ad))))),?_⟩
 unfold lA at q;refine⟨_,rfl,rfl,_,rfl,aZ (fun c=>?_) (fun c=>?_)⟩
 ·have c:k="number":=by injection c
  rw[yn c]at q;exact⟨_,rfl,x,rfl,zm as.1 (by decide),as.2,q⟩
 rw[ym (fun z=>c (by rw[z]))]at q;refine⟨_,rfl,rfl,_,rfl,aZ (fun c=>?_) (fun c=>?_)⟩
 ·have c:k="item":=by injection c
  rw[yn c]at q;exact⟨_,rfl,x,rfl,as,q⟩
 rw[ym (fun z=>c (by rw[z]))]at q;refine⟨_,rfl,rfl,?_⟩;have:decide (V.str x=V.str "")=decide (x=""):=by rw[decide_eq_decide];exact⟨fun z=>by injection z,fun z=>by rw[z]⟩
 rw[this];exact q _ (Same.refl _)
theorem qP{c:Cq}(ok:AtOk c)(n:c.kind≠"nothing"):lA c.kind c.arg=true:=by
 cases ok with
 |w=>exact absurd rfl n
 |num h h0 h1=>exact ib h0 h1
 |@item x y h0 h1 h2 h3 =>show du (bX x y)=true;unfold du;rw[iM];show(aW (az x).cps.toList&&(aW (az y).cps.toList&&!decide (az y="0")))=true;rw[ib h0 h2,ib (by omega) h3,decide_eq_false (fun z=>sC h1 h3 (by rw[z]))];rfl
 |@says t h0 h1 h2 =>show(!decide (t=""))=true;rw[decide_eq_false h0];rfl
def KpR(p:Addr)(H H':Hp):Prop:=∀b o,H b=some o->b≠p->H' b=some o
theorem KpR.trans{p:Addr}{H H1 H2:Hp}(a:KpR p H H1)(b:KpR p H1 H2):KpR p H H2:=fun _ _ e n=>b _ _ (a _ _ e n) n
theorem KpR.same{p:Addr}{H H1:Hp}(a:Same H H1):KpR p H H1:=fun _ _ e _=>a _ _ e
inductive RdL(C:Addr)(H:Hp)(p l:Addr)(ws us:List Str):Prop
 |mk (pre:List Str) (h0:ws=pre++us) (h1:RdAt C H p l ws pre.length):RdL C H p l ws us
section
variable{C p l:Addr}{H H':Hp}{ws us r:List Str}{t x:Str}{Q:VK}{E:XK}
theorem RdL.obj(R:RdL C H p l ws us):∃dx i,H p=some (.ins C dx (dz l i)):=by obtain⟨pre,_,dx,h,_⟩:=R;exact⟨dx,_,h⟩
theorem RdL.lst(R:RdL C H p l ws us):H l=some (.lst (ws.map V.str)):=by obtain⟨pre,_,dx,_,h,_⟩:=R;exact h
theorem RdL.tup(R:RdL C H p l ws us){a:Addr}{zs:List V}(e:H a=some (.tup zs)):a≠p:=by obtain⟨dx,i,h⟩:=R.obj;rintro rfl;rw[h]at e;cases e
theorem RdL.ts(R:RdL C H p l ws us)(k:KpR p H H'):TS2 H H':=fun _ _ e=>k _ _ e (R.tup e)
theorem RdL.same(R:RdL C H p l ws us)(s:Same H H'):RdL C H' p l ws us:=by obtain⟨pre,h,dx,h1,h2,h3,h4⟩:=R;exact⟨pre,h,dx,s _ _ h1,s _ _ h2,h3,h4⟩
theorem RdL.upd(R:RdL C H p l ws us){a:Addr}{o:HO}(n1:a≠p)(n2:a≠l):RdL C (upd H a o) p l ws us:=by obtain⟨pre,h,dx,h1,h2,h3,h4⟩:=R;exact⟨pre,h,dx,by rw[ag (z5 n1)];exact h1,by rw[ag (z5 n2)];exact h2,h3,h4⟩
theorem RdL.here(R:RdL C H p l ws us)(q:Q (.str (us.headD "")) H):spHere C [.ref p] H Q E:=by
 obtain⟨pre,rfl,h⟩:=R;refine⟨p,l,_,_,rfl,h,?_⟩;rw[Zd,zQ (zd _),Nat.sub_self];cases us with
 |nil=>exact q
 |cons=>exact q
theorem RdL.through(R:RdL C H p l ws us)(q:Q (.bl us.isEmpty) H):spThrough C [.ref p] H Q E:=by
 obtain⟨pre,rfl,h⟩:=R;refine⟨p,l,_,_,rfl,h,?_⟩;cases us with
 |nil =>rw[decide_eq_true (by simp)];exact q
 |cons =>rw[decide_eq_false (by simp)];exact q
theorem RdL.next{pre:List Str}(h:RdAt C H' p l (pre++x::r) (pre.length+1)):RdL C H' p l (pre++x::r) r :=
 ⟨pre++[x],by simp,by rw[zb];exact h⟩
theorem RdL.no(R:RdL C H p l ws us)(ht:t≠"")(n:us.headD ""≠t)(q:Q (.bl false) H):spPasses C [.ref p,.str t] H Q E:=by
 obtain⟨pre,rfl,h⟩:=R;have e:(pre++us)[pre.length]?=us.head?:=by rw[zQ (zd _),Nat.sub_self];cases us<;>rfl
 refine⟨p,l,_,_,t,rfl,h,ht,fun _=>q,fun z=>?_⟩;rw[e]at z;exact absurd (by rw[List.headD_eq_head?_getD,z];rfl) n
theorem RdL.yes(R:RdL C H p l ws (t::r))(ht:t≠"")(q:∀H',KpR p H H'->RdL C H' p l ws r->Q (.bl true) H'):spPasses C [.ref p,.str t] H Q E:=by obtain⟨pre,rfl,h⟩:=R;refine⟨p,l,_,_,t,rfl,h,ht,fun z=>?_,fun _ H' k h'=>q H' k (RdL.next h')⟩;rw[Zd,zQ (zd _),Nat.sub_self]at z;exact absurd rfl z
end
theorem RdL.goX{C p l cQ:Addr}{H:Hp}{ws us:List Str}{b:Bool}{Q:VK}{E:XK}(R:RdL C H p l ws us)(hb:b=true->us≠[])(q:b=true->∀x r H',us=x::r->KpR p H H'->RdL C H' p l ws r->Q .non H')(e:b=false->∀H' dd,Same H H'->RdL C H' p l ws us->H' dd=some (.xd [("at",.int ((ws.length:Int)-us.length))])->E (.ref cQ) (some dd) H'):spGoX C cQ [.ref p,.bl b] H Q E:=by
 have R':=R;obtain⟨pre,rfl,h⟩:=R;refine⟨p,l,_,_,b,rfl,h,fun z=>?_,fun z H' k h'=>?_,fun z H' dd s1 hd=>?_⟩
 ·cases us with
  |nil=>exact absurd rfl (hb z)
  |cons=>simp
 ·cases us with
  |nil=>exact absurd rfl (hb z)
  |cons x r=>exact q z x r H' rfl k (RdL.next h')
 ·refine e z H' dd s1 (R'.same s1) ?_;rw[hd,zb];congr 6;omega
inductive Res where
 |ok (c:Cq)(r:List Str)
 |bad (r:List Str)
abbrev RX:=Int->List Str->Res->Prop
inductive spX(C cQ:Addr)(R:RX)(vs:List V)(H:Hp)(Q:VK)(E_:XK):Prop
 |mk (p l:Addr) (ws us:List Str) (d:Int) (res:Res) (h0:vs=[.ref p,.int d]) (h1:RdL C H p l ws us) (h2:R d us res) (h3:∀c r,res=.ok c r->∀v H',KpR p H H'->CqAt H' v c->RdL C H' p l ws r->Q v H')
   (h4:∀r,res=.bad r->∀H' dd,KpR p H H'->RdL C H' p l ws r->H' dd=some (.xd [("at",.int ((ws.length:Int)-r.length))])->E_ (.ref cQ) (some dd) H'):spX C cQ R vs H Q E_
inductive XL(R:List Str->Res->Prop)(t:Str):List Str->List Cq->List Str->Prop
 |nil {us:List Str} (h:us.headD ""≠t):XL R t us [] us
 |cons {us r1 r:List Str} {c:Cq} {cs:List Cq} (h:R us (.ok c r1)) (h2:XL R t r1 cs r):XL R t (t::us) (c::cs) r
inductive XB(R:List Str->Res->Prop)(t:Str):List Str->List Cq->List Str->Prop
 |here {us r:List Str} (h:R us (.bad r)):XB R t (t::us) [] r
 |cons {us r1 r:List Str} {c:Cq} {cs:List Cq} (h:R us (.ok c r1)) (h2:XB R t r1 cs r):XB R t (t::us) (c::cs) r
def cR(o:Bool)(c:Cq):List Cq->Cq
 | []=>c
 |d::cs=>.many o (c::d::cs)
inductive XM(o:Bool)(R:RX)(d:Int)(us:List Str):Res->Prop
 |ok (c0:Cq) (r0:List Str) (cs:List Cq) (r:List Str) (h0:R d us (.ok c0 r0)) (h1:XL (R d) (orW o) r0 cs r) (h2:cs.length<=800):XM o R d us (.ok (cR o c0 cs) r)
 |bad0 (r:List Str) (h0:R d us (.bad r)):XM o R d us (.bad r)
 |bad (c0:Cq) (r0:List Str) (cs:List Cq) (r:List Str) (h0:R d us (.ok c0 r0)) (h1:XB (R d) (orW o) r0 cs r) (h2:cs.length<=800):XM o R d us (.bad r)
def noR:Res->Res
 |.ok c r=>.ok (.no c) r
 |.bad r=>.bad r
inductive CloseR:Res->Res->Prop
 |ok (c:Cq) (r:List Str):CloseR (.ok c (cls::r)) (.ok c r)
 |no (c:Cq) (r:List Str) (h:r.headD ""≠cls):CloseR (.ok c r) (.bad r)
 |bad (r:List Str):CloseR (.bad r) (.bad r)
inductive XPl(us:List Str):Res->Prop
 |ok (c:Cq) (r:List Str) (h:AtOk c) (h1:us=c.ws++r):XPl us (.ok c r)
 |bad1 (h:PyProof.Rows.KTD.datumAt (us.headD "") FT=none):XPl us (.bad us)
 |bad2 (hd k:Str) (us':List Str) (h:us=hd::us') (h1:PyProof.Rows.KTD.datumAt hd FT=some (tf k)) (h2:k≠"nothing") (h3:Asc (us'.headD "")) (h4:lA k (us'.headD "")=false):XPl us (.bad us')
def XO:Nat->RX
 |0=>fun _ _ _=>False
 |n+1=>fun d us res=>(d<12/\∃us' r0,us=aw::us'/\XO n (d+1) us' r0/\res=noR r0)\/(d<12/\∃us' r0,us=opn::us'/\XM true (XM false (XO n)) (d+1) us' r0/\CloseR r0 res)\/((d<12->us.headD ""≠aw/\us.headD ""≠opn)/\XPl us res)
theorem CqsAt.app{H:Hp}:∀{vs:List V} {cs:List Cq} {v:V} {c:Cq},CqsAt H vs cs->CqAt H v c->CqsAt H (vs++[v]) (cs++[c])
 |_,_,_,_,.nil,h=>.cons h .nil
 |_,_,_,_,.cons g t,h=>.cons g (t.app h)
theorem CqsAt.len{H:Hp}:∀{vs:List V} {cs:List Cq},CqsAt H vs cs->vs.length=cs.length
 |_,_,.nil=>rfl
 |_,_,.cons _ t=>zS (·+1) t.len
theorem qc{H:Hp}{a:Addr}{xs:List V}{o:HO}(e:H a=some (.lst xs)):TS2 H (upd H a o):=fun b zs h=>by
 rw[ag]
 ·exact h
 ·rintro rfl;rw[e]at h;cases h
abbrev eJ:Stmt:=top 25
abbrev lZ:List Str:=["reader","depth","parts"]
theorem ge:FnScope lZ ["reader","depth"] (ah eJ):=⟨rfl,rfl,rfl,by decide +kernel,rfl,by decide +kernel,by decide +kernel⟩
theorem fS{k:Nat}{R:RX}{f C cQ:Addr}{fd:FuncData}(hk:3<=k)(F:Fun K "read_each" "read_each" eJ f fd)(FX_read_one:FnX P w K mg base k "read_one" ["reader","depth"] (spX C cQ R))(a7:MFn P w K mg base 3 C "passes" ["self","word"] (spPasses C))(b8:Fn P w K mg base 1 "alone_or" ["word","parts"] spAlone):FnOk P w K mg base (CXr P w) (k+1) f fd ["reader","depth"] (spX C cQ (XM false R)):=by
 refine F.okX ge (fun vs H Q E h=>?_) (fun cdv A outer s H vs Q E hr h=>?_)
 ·obtain⟨p,l,ws,us,d,res,rfl,_⟩:=h;rfl
 obtain⟨p,l,ws,us,d,res,rfl,R0,hm,q,qe⟩:=h;refine⟨_,(b_c (am (i:=2) ge.nd (aA (q_a (eh FX_read_one (bY aM) (hr.mono (by omega)) (q_a (q_v 0) (q_a (q_v 1) ae))) ae)))
   (b_c (rX aM (jB (iS rfl rfl) (aR (dO a7 (hr.mono (by omega)) (q_v 0) (q_a ad ae))) (b_1 (cW (nU (q_v 2) (eh FX_read_one (bY gZ) (hr.mono (by omega)) (q_a (q_v 0) (q_a (q_v 1) ae))))))))
   (b_1 (aj (aH b8 (hr.mono (by omega)) (q_a ad (q_a (q_v 2) ae))))))),?_⟩
 try rw[cxK]
 have npl:l≠p:=fun z=>by obtain⟨dx,i,e⟩:=R0.obj;have:=R0.lst;rw[z,e]at this;cases this
 obtain⟨r1,h1,hg⟩:∃r1,R d us r1/\((∃r,r1=.bad r/\res=.bad r)\/∃(c0:Cq) (r0:List Str) (cs:List Cq) (r:List Str),r1=.ok c0 r0/\cs.length<=800/\((XL (R d) (orW false) r0 cs r/\res=.ok (cR false c0 cs) r)\/(XB (R d) (orW false) r0 cs r/\res=.bad r))):=by
  cases hm with
  |ok c0 r0 cs r h0 h1 h2=>exact⟨_,h0,.inr ⟨c0,r0,cs,r,rfl,h2,.inl ⟨h1,rfl⟩⟩⟩
  |bad0 r h0=>exact⟨_,h0,.inl ⟨r,rfl,rfl⟩⟩
  |bad c0 r0 cs r h0 h1 h2=>exact⟨_,h0,.inr ⟨c0,r0,cs,r,rfl,h2,.inr ⟨h1,rfl⟩⟩⟩
 clear hm;refine⟨_,rfl,_,rfl,p,l,ws,us,d,r1,rfl,R0,h1,fun c0' r0' e1 v H1 k1 cv R1=>⟨sz rfl,fun L gL=>?_⟩,fun r e1 H1 dd k1 R1 hd=>?_⟩
 rotate_left
 ·rcases hg with⟨r',e2,e3⟩|⟨c0,r0,cs,r',e2,_⟩
  ·rw[e1]at e2;cases e2;exact qe _ e3 H1 dd k1 R1 hd
  ·rw[e1]at e2;cases e2
 rcases hg with⟨r',e2,e3⟩|⟨c0,r0,cs,r,e2,h3,hg⟩
 ·rw[e1]at e2;cases e2
 rw[e1]at e2;cases e2;have n1:L≠p:=fun z=>by obtain⟨dx,i,e⟩:=R1.obj;rw[z,e]at gL;cases gL
 have n2:L≠l:=fun z=>by rw[z,R1.lst]at gL;cases gL
 have nH:H L=none:=by
  cases e:H L with
  |none=>rfl
  |some o=>rw[k1 _ _ e n1]at gL;cases gL
 refine⟨fun m σ H'=>∃(done todo:List Cq) (vs:List V) (rr:List Str),σ=[some (.ref p),some (.int d),some (.ref L)]/\H' L=some (.lst vs)/\CqsAt H' vs done/\c0'::cs=done++todo/\done≠[]/\((XL (R d) (orW false) rr todo r/\res=.ok (cR false c0' cs) r)\/(XB (R d) (orW false) rr todo r/\res=.bad r))/\KpR p H H'/\RdL C H' p l ws rr/\m=todo.length,⟨cs.length,[c0'],cs,[v],r0',rfl,aa,.cons (cv.ts (fun a zs e=>ac gL _ _ _ e)) .nil,rfl,by simp,hg,k1.trans (KpR.same (ac gL _)),R1.same (ac gL _),rfl⟩,?_⟩;clear hg;rintro m σ H' ⟨done,todo,vs,rr,rfl,eL,ca,ed,nd,hl,kp,RR1,rfl⟩;obtain⟨dx,i,e0⟩:=RR1.obj;refine⟨_,rfl,p,dx,_,rfl,e0,aB l i (by decide +kernel) (by decide +kernel),?_⟩;have cs':(rr.headD ""≠orW false/\todo=[]/\res=.ok (cR false c0' cs) r/\rr=r)\/∃us1 r2,rr=orW false::us1/\R d us1 r2/\((∃rb,r2=.bad rb/\res=.bad rb)\/∃c1 todo' r1,r2=.ok c1 r1/\todo=c1::todo'/\((XL (R d) (orW false) r1 todo' r/\res=.ok (cR false c0' cs) r)\/(XB (R d) (orW false) r1 todo' r/\res=.bad r))):=by
  rcases hl with⟨hl,e⟩|⟨hl,e⟩
  ·cases hl with
   |nil h=>exact .inl ⟨h,rfl,e,rfl⟩
   |cons h hl=>exact .inr ⟨_,_,rfl,h,.inr ⟨_,_,_,rfl,rfl,.inl ⟨hl,e⟩⟩⟩
  ·cases hl with
   |here h=>exact .inr ⟨_,_,rfl,h,.inl ⟨_,rfl,e⟩⟩
   |cons h hl=>exact .inr ⟨_,_,rfl,h,.inr ⟨_,_,_,rfl,rfl,.inr ⟨hl,e⟩⟩⟩
 clear hl;rcases cs' with⟨h,rfl,er,rfl⟩|⟨us1,r2,rfl,h,hg⟩
 ·refine RR1.no (by decide +kernel) h ⟨_,rfl,aq ?_⟩;rw[zT]at ed;have lv:=ca.len;rw[<-ed]at ca;refine⟨_,rfl,_,L,vs,rfl,eL,fun z=>?_,?_,fun v' e1=>?_,fun n1 a b H2 s2 eb ea=>?_⟩
  ·rw[z]at lv;exact nd (List.length_eq_zero_iff.mp lv.symm)
  ·rw[lv,<-ed,zh];omega
  ·subst e1;cases ca with
   |cons g t =>cases t;exact q _ _ er _ _ kp g RR1
  ·cases cs with
   |nil=>exact absurd (by rw[lv,<-ed];rfl) n1
   |cons c1 cs =>exact q _ _ er _ _ (kp.trans (KpR.same s2)) (.many (o:=false) ea eb (ca.ts fun a zs e=>s2 _ _ e)) (RR1.same s2)
 refine RR1.yes (by decide +kernel) fun H2 k2 R2=>⟨_,rfl,aX ⟨_,fun _ _ z=>z,?_⟩⟩
 have eL2:=k2 _ _ eL n1;refine⟨_,rfl,.inl ⟨rfl,_,SqL.of eL2⟩,_,rfl,_,rfl,p,l,ws,us1,d,r2,rfl,R2,h,fun c1 r1 e2 v3 H3 k3 cv3 R3=>?_,fun rb e2 H3 dd k3 R3 hd=>?_⟩
 rotate_left
 ·rcases hg with⟨rb',e4,e5⟩|⟨_,_,_,e4,_⟩
  ·rw[e2]at e4;cases e4;exact qe _ e5 H3 dd (kp.trans (k2.trans k3)) R3 hd
  ·rw[e2]at e4;cases e4
 rcases hg with⟨rb',e4,e5⟩|⟨c1',todo',r1',e4,rfl,hg⟩
 ·rw[e2]at e4;cases e4
 rw[e2]at e4;cases e4;have eL3:=k3 _ _ eL2 n1;have lv:=ca.len;have ca3:=(ca.ts (RR1.ts k2)).ts (R2.ts k3);refine⟨L,vs,v3,rfl,rfl,eL3,Nat.lt_of_le_of_lt (m:=1000) ?_ (by decide),?_⟩
 ·have:(c0'::cs).length=done.length+(c1::todo').length:=by rw[ed,zb]
  simp only[zh]at this;omega
 ·have tu:=qc (o:=.lst (vs++[v3])) eL3;refine⟨todo'.length,Nat.lt_succ_self _,done++[c1],todo',vs++[v3],r1,rfl,aa,(ca3.app cv3).ts tu,by rw[ed,zp];rfl,by simp,hg,fun b o e n=>?_,R3.upd n1 n2,rfl⟩;rw[ag]
  ·exact k3 _ _ (k2 _ _ (kp _ _ e n) n) n
  ·rintro rfl;rw[nH]at e;cases e
abbrev eM:Stmt:=top 24
abbrev ma:List Str:=["reader","depth","parts"]
theorem gh:FnScope ma ["reader","depth"] (ah eM):=⟨rfl,rfl,rfl,by decide +kernel,rfl,by decide +kernel,by decide +kernel⟩
theorem fT{k:Nat}{R:RX}{f C cQ:Addr}{fd:FuncData}(hk:3<=k)(F:Fun K "read_some" "read_some" eM f fd)(FX_read_each:FnX P w K mg base k "read_each" ["reader","depth"] (spX C cQ R))(a7:MFn P w K mg base 3 C "passes" ["self","word"] (spPasses C))(b8:Fn P w K mg base 1 "alone_or" ["word","parts"] spAlone):FnOk P w K mg base (CXr P w) (k+1) f fd ["reader","depth"] (spX C cQ (XM true R)):=by
 refine F.okX gh (fun vs H Q E h=>?_) (fun cdv A outer s H vs Q E hr h=>?_)
 ·obtain⟨p,l,ws,us,d,res,rfl,_⟩:=h;rfl
 obtain⟨p,l,ws,us,d,res,rfl,R0,hm,q,qe⟩:=h;refine⟨_,(b_c (am (i:=2) gh.nd (aA (q_a (eh FX_read_each (bY aM) (hr.mono (by omega)) (q_a (q_v 0) (q_a (q_v 1) ae))) ae)))
   (b_c (rX aM (jB (iS rfl rfl) (aR (dO a7 (hr.mono (by omega)) (q_v 0) (q_a ad ae))) (b_1 (cW (nU (q_v 2) (eh FX_read_each (bY gZ) (hr.mono (by omega)) (q_a (q_v 0) (q_a (q_v 1) ae))))))))
   (b_1 (aj (aH b8 (hr.mono (by omega)) (q_a ad (q_a (q_v 2) ae))))))),?_⟩
 try rw[cxK]
 have npl:l≠p:=fun z=>by obtain⟨dx,i,e⟩:=R0.obj;have:=R0.lst;rw[z,e]at this;cases this
 obtain⟨r1,h1,hg⟩:∃r1,R d us r1/\((∃r,r1=.bad r/\res=.bad r)\/∃(c0:Cq) (r0:List Str) (cs:List Cq) (r:List Str),r1=.ok c0 r0/\cs.length<=800/\((XL (R d) (orW true) r0 cs r/\res=.ok (cR true c0 cs) r)\/(XB (R d) (orW true) r0 cs r/\res=.bad r))):=by
  cases hm with
  |ok c0 r0 cs r h0 h1 h2=>exact⟨_,h0,.inr ⟨c0,r0,cs,r,rfl,h2,.inl ⟨h1,rfl⟩⟩⟩
  |bad0 r h0=>exact⟨_,h0,.inl ⟨r,rfl,rfl⟩⟩
  |bad c0 r0 cs r h0 h1 h2=>exact⟨_,h0,.inr ⟨c0,r0,cs,r,rfl,h2,.inr ⟨h1,rfl⟩⟩⟩
 clear hm;refine⟨_,rfl,_,rfl,p,l,ws,us,d,r1,rfl,R0,h1,fun c0' r0' e1 v H1 k1 cv R1=>⟨sz rfl,fun L gL=>?_⟩,fun r e1 H1 dd k1 R1 hd=>?_⟩
 rotate_left
 ·rcases hg with⟨r',e2,e3⟩|⟨c0,r0,cs,r',e2,_⟩
  ·rw[e1]at e2;cases e2;exact qe _ e3 H1 dd k1 R1 hd
  ·rw[e1]at e2;cases e2
 rcases hg with⟨r',e2,e3⟩|⟨c0,r0,cs,r,e2,h3,hg⟩
 ·rw[e1]at e2;cases e2
 rw[e1]at e2;cases e2;have n1:L≠p:=fun z=>by obtain⟨dx,i,e⟩:=R1.obj;rw[z,e]at gL;cases gL
 have n2:L≠l:=fun z=>by rw[z,R1.lst]at gL;cases gL
 have nH:H L=none:=by
  cases e:H L with
  |none=>rfl
  |some o=>rw[k1 _ _ e n1]at gL;cases gL
 refine⟨fun m σ H'=>∃(done todo:List Cq) (vs:List V) (rr:List Str),σ=[some (.ref p),some (.int d),some (.ref L)]/\H' L=some (.lst vs)/\CqsAt H' vs done/\c0'::cs=done++todo/\done≠[]/\((XL (R d) (orW true) rr todo r/\res=.ok (cR true c0' cs) r)\/(XB (R d) (orW true) rr todo r/\res=.bad r))/\KpR p H H'/\RdL C H' p l ws rr/\m=todo.length,⟨cs.length,[c0'],cs,[v],r0',rfl,aa,.cons (cv.ts (fun a zs e=>ac gL _ _ _ e)) .nil,rfl,by simp,hg,k1.trans (KpR.same (ac gL _)),R1.same (ac gL _),rfl⟩,?_⟩;clear hg;rintro m σ H' ⟨done,todo,vs,rr,rfl,eL,ca,ed,nd,hl,kp,RR1,rfl⟩;obtain⟨dx,i,e0⟩:=RR1.obj;refine⟨_,rfl,p,dx,_,rfl,e0,aB l i (by decide +kernel) (by decide +kernel),?_⟩;have cs':(rr.headD ""≠orW true/\todo=[]/\res=.ok (cR true c0' cs) r/\rr=r)\/∃us1 r2,rr=orW true::us1/\R d us1 r2/\((∃rb,r2=.bad rb/\res=.bad rb)\/∃c1 todo' r1,r2=.ok c1 r1/\todo=c1::todo'/\((XL (R d) (orW true) r1 todo' r/\res=.ok (cR true c0' cs) r)\/(XB (R d) (orW true) r1 todo' r/\res=.bad r))):=by
  rcases hl with⟨hl,e⟩|⟨hl,e⟩
  ·cases hl with
   |nil h=>exact .inl ⟨h,rfl,e,rfl⟩
   |cons h hl=>exact .inr ⟨_,_,rfl,h,.inr ⟨_,_,_,rfl,rfl,.inl ⟨hl,e⟩⟩⟩
  ·cases hl with
   |here h=>exact .inr ⟨_,_,rfl,h,.inl ⟨_,rfl,e⟩⟩
   |cons h hl=>exact .inr ⟨_,_,rfl,h,.inr ⟨_,_,_,rfl,rfl,.inr ⟨hl,e⟩⟩⟩
 clear hl;rcases cs' with⟨h,rfl,er,rfl⟩|⟨us1,r2,rfl,h,hg⟩
 ·refine RR1.no (by decide +kernel) h ⟨_,rfl,aq ?_⟩;rw[zT]at ed;have lv:=ca.len;rw[<-ed]at ca;refine⟨_,rfl,_,L,vs,rfl,eL,fun z=>?_,?_,fun v' e1=>?_,fun n1 a b H2 s2 eb ea=>?_⟩
  ·rw[z]at lv;exact nd (List.length_eq_zero_iff.mp lv.symm)
  ·rw[lv,<-ed,zh];omega
  ·subst e1;cases ca with
   |cons g t =>cases t;exact q _ _ er _ _ kp g RR1
  ·cases cs with
   |nil=>exact absurd (by rw[lv,<-ed];rfl) n1
   |cons c1 cs =>exact q _ _ er _ _ (kp.trans (KpR.same s2)) (.many (o:=true) ea eb (ca.ts fun a zs e=>s2 _ _ e)) (RR1.same s2)
 refine RR1.yes (by decide +kernel) fun H2 k2 R2=>⟨_,rfl,aX ⟨_,fun _ _ z=>z,?_⟩⟩
 have eL2:=k2 _ _ eL n1;refine⟨_,rfl,.inl ⟨rfl,_,SqL.of eL2⟩,_,rfl,_,rfl,p,l,ws,us1,d,r2,rfl,R2,h,fun c1 r1 e2 v3 H3 k3 cv3 R3=>?_,fun rb e2 H3 dd k3 R3 hd=>?_⟩
 rotate_left
 ·rcases hg with⟨rb',e4,e5⟩|⟨_,_,_,e4,_⟩
  ·rw[e2]at e4;cases e4;exact qe _ e5 H3 dd (kp.trans (k2.trans k3)) R3 hd
  ·rw[e2]at e4;cases e4
 rcases hg with⟨rb',e4,e5⟩|⟨c1',todo',r1',e4,rfl,hg⟩
 ·rw[e2]at e4;cases e4
 rw[e2]at e4;cases e4;have eL3:=k3 _ _ eL2 n1;have lv:=ca.len;have ca3:=(ca.ts (RR1.ts k2)).ts (R2.ts k3);refine⟨L,vs,v3,rfl,rfl,eL3,Nat.lt_of_le_of_lt (m:=1000) ?_ (by decide),?_⟩
 ·have:(c0'::cs).length=done.length+(c1::todo').length:=by rw[ed,zb]
  simp only[zh]at this;omega
 ·have tu:=qc (o:=.lst (vs++[v3])) eL3;refine⟨todo'.length,Nat.lt_succ_self _,done++[c1],todo',vs++[v3],r1,rfl,aa,(ca3.app cv3).ts tu,by rw[ed,zp];rfl,by simp,hg,fun b o e n=>?_,R3.upd n1 n2,rfl⟩;rw[ag]
  ·exact k3 _ _ (k2 _ _ (kp _ _ e n) n) n
  ·rintro rfl;rw[nH]at e;cases e
theorem kl{c:Cq}(h:AtOk c):c.ws=c.hd::(if c.kind="nothing" then[]else[c.arg]):=by cases h<;>first|rfl|(simp only[Cq.ws,Cq.hd,Cq.kind,Cq.arg];rfl)
theorem rL{c:Cq}(h:AtOk c):PyProof.Rows.KTD.datumAt c.hd FT=some (tf c.kind):=by
 cases h with
 |w h =>simp only[W6,zl,zK,Zl]at h;rcases h with rfl|rfl|rfl|rfl|rfl|rfl<;>rfl
 |num h=>rcases h with rfl|rfl<;>rfl
 |item=>rfl
 |says=>rfl
theorem dX{c:Cq}(h:AtOk c):c.hd≠"not"/\c.hd≠"("/\c.hd≠"or"/\c.hd≠"and":=by
 cases h with
 |w h =>
  have:∀s∈W6,s≠"not"/\s≠"("/\s≠"or"/\s≠"and":=by decide +kernel
  exact this _ h
 |num h =>
  rcases h with rfl|rfl
  ·show("due":Str)≠"not"/\("due":Str)≠"("/\("due":Str)≠"or"/\("due":Str)≠"and";decide +kernel
  ·show("depth":Str)≠"not"/\("depth":Str)≠"("/\("depth":Str)≠"or"/\("depth":Str)≠"and";decide +kernel
 |item=>show("beneath":Str)≠"not"/\("beneath":Str)≠"("/\("beneath":Str)≠"or"/\("beneath":Str)≠"and";decide +kernel
 |says=>show("says":Str)≠"not"/\("says":Str)≠"("/\("says":Str)≠"or"/\("says":Str)≠"and";decide +kernel
theorem wN{H:Hp}{a:Addr}{v:V}{c:Cq}(ok:AtOk c)(e:H a=some (.tup [.str c.hd,v]))(h:ArgAt H v c):CqAt H (.ref a) c:=by
 cases h with
 |num=>exact .num e
 |item h=>exact .item e h
 |says=>exact .says e
theorem uD{H:Hp}{a:Addr}{c:Cq}(ok:AtOk c)(n:c.kind="nothing")(e:H a=some (.tup [.str c.hd])):CqAt H (.ref a) c:=by
 cases ok with
 |w=>exact .w e
 |num=>exact absurd n (by show¬(("number":Str)="nothing");decide +kernel)
 |item=>exact absurd n (by show¬(("item":Str)="nothing");decide +kernel)
 |says=>exact absurd n (by show¬(("word":Str)="nothing");decide +kernel)
inductive spPlX(C cQ:Addr)(vs:List V)(H:Hp)(Q:VK)(E_:XK):Prop
 |mk (p l:Addr) (ws us:List Str) (res:Res) (h0:vs=[.ref p]) (h1:RdL C H p l ws us) (h2:XPl us res) (h3:∀c r,res=.ok c r->∀v H',KpR p H H'->CqAt H' v c->RdL C H' p l ws r->Q v H')
   (h4:∀r,res=.bad r->∀H' dd,KpR p H H'->RdL C H' p l ws r->H' dd=some (.xd [("at",.int ((ws.length:Int)-r.length))])->E_ (.ref cQ) (some dd) H'):spPlX C cQ vs H Q E_
theorem so{c:Cq}(ok:AtOk c):Asc c.arg:=by
 cases ok with
 |w=>exact⟨by show(0:Nat)<=300;decide,by show("":Str).cps.all (·<128)=true;decide +kernel⟩
 |num h h0 h1=>exact⟨zm h1.len (by decide),fK _⟩
 |@item x y h0 h1 h2 h3 =>refine⟨zm (ii h2 h3) (by decide),?_⟩;show(bX x y).cps.all (·<128)=true;unfold bX;rw[<-z6,aE,aE,List.all_append,List.all_append,z6,z6,z6,fK,fK];decide +kernel
 |says h0 h1 h2 h3=>exact⟨zm h1 (by decide),h3⟩
abbrev dU:Stmt:=top 28
abbrev kJ:List Str:=["reader","word","kind","following"]
theorem bZ:FnScope kJ ["reader"] (ah dU):=⟨rfl,rfl,rfl,by decide +kernel,rfl,by decide +kernel,by decide +kernel⟩
theorem kg{f C cQ ff:Addr}{fd:FuncData}(F:Fun K "read_plain" "read_plain" dU f fd)(j0:Fn P w K mg base 3 "may_follow" ["kind","word"] spMayG)(d5:Fn P w K mg base 2 "read_following" ["kind","word"] spFollowing)(c7:MFn P w K mg base 2 C "here" ["self"] (spHere C))(b9:MFnX P w K mg base 3 C "go_on" ["self","good"] (spGoX C cQ))(i3:mg "FOLLOWING" = some (.ref ff))(T:Tab K ff FT):FnOk P w K mg base (CXr P w) 4 f fd ["reader"] (spPlX C cQ):=by
 refine F.okX bZ (fun vs H Q E h=>?_) (fun cdv A outer s H vs Q E hr h=>?_)
 ·obtain⟨p,l,ws,us,res,rfl,_⟩:=h;rfl
 obtain⟨p,l,ws,us,res,rfl,R0,hx,q,qe⟩:=h;refine⟨_,(b_c (am (i:=1) bZ.nd (cM c7 (hr.mono (by decide)) (q_v 0)))
   (b_c (cW (gM b9 (bY aM) (hr.mono (by decide)) (q_v 0) (q_a (bo sR (q_v 1) (cK i3)) ae)))
   (b_c (am (i:=2) bZ.nd (aD xF (cK i3) (q_v 1)))
   (b_c (ar (ak aI (q_v 2) ad) (b_1 (aj (ap (q_a (q_v 1) ae)))) b_0)
   (b_c (am (i:=3) bZ.nd (cM c7 (hr.mono (by decide)) (q_v 0)))
   (b_c (cW (gM b9 (bY aM) (hr.mono (by decide)) (q_v 0) (q_a (aH j0 (hr.mono (by decide)) (q_a (q_v 2) (q_a (q_v 3) ae))) ae)))
   (b_1 (aj (ap (q_a (q_v 1) (q_a (aH d5 (hr.mono (by decide)) (q_a (q_v 2) (q_a (q_v 3) ae))) ae))))))))))),?_⟩
 try rw[cxK]
 obtain⟨dx,i,e0⟩:=R0.obj;refine⟨_,rfl,p,dx,_,rfl,e0,aB l i (by decide +kernel) (by decide +kernel),R0.here ?_⟩;refine⟨_,rfl,p,dx,_,rfl,e0,aB l i (by decide +kernel) (by decide +kernel),⟨_,rfl,ff,us.headD "",FT,rfl,rfl,T,?_⟩⟩;cases hx with
 |bad1 h =>rw[h];exact R0.goX (fun z=>by cases z) (fun z=>by cases z) fun _ H1 dd s1 R1 hd=>qe _ rfl H1 dd (KpR.same s1) R1 hd
 |bad2 hd k us' h h1 h2 h3 h4 =>subst h;have h1':PyProof.Rows.KTD.datumAt ((hd::us').headD "") FT=some (tf k):=h1;rw[h1'];refine R0.goX (fun _=>by simp) (fun _ x r H1 e k1 R1=>?_) (fun z=>by cases z);cases e;refine⟨_,rfl,ff,_,FT,_,rfl,rfl,T,h1,?_⟩;refine⟨_,rfl,rfl,_,rfl,bA (fun z=>h2 (by injection z)) ?_⟩;obtain⟨dx,i,e1⟩:=R1.obj;refine⟨_,rfl,p,dx,_,rfl,e1,aB l i (by decide +kernel) (by decide +kernel),R1.here ?_⟩;refine⟨_,rfl,p,dx,_,rfl,e1,aB l i (by decide +kernel) (by decide +kernel),⟨_,rfl,_,rfl,k,_,rfl,h3,fun H2 s2=>?_⟩⟩;rw[h4];exact(R1.same s2).goX (fun z=>by cases z) (fun z=>by cases z) fun _ H3 dd s3 R3 hd=>qe _ rfl H3 dd (k1.trans (KpR.same (s2.trans s3))) R3 hd
 |ok c r ok hu =>
  subst hu;have ft:=rL ok;have hh:(c.ws++r).headD "" = c.hd:=by rw[kl ok];rfl
  rw[kl ok]at R0;rw[hh,ft];refine R0.goX (fun _=>by simp) (fun _ x r' H1 e k1 R1=>?_) (fun z=>by cases z);cases e;refine⟨_,rfl,ff,c.hd,FT,_,rfl,rfl,T,ft,?_⟩;refine⟨_,rfl,rfl,_,rfl,aZ (fun n=>?_) (fun n=>?_)⟩
  ·have n':c.kind="nothing":=by injection n
   rw[yn n']at R1;refine⟨_,rfl,sz rfl,fun a ga=>?_⟩;have w1:=ac ga (.tup [.str c.hd]);exact q _ _ rfl _ _ (k1.trans (KpR.same w1)) (uD ok n' aa) (R1.same w1)
  ·have n':c.kind≠"nothing":=fun z=>n (by rw[z]);rw[ym n']at R1;obtain⟨dx,i,e1⟩:=R1.obj;refine⟨_,rfl,p,dx,_,rfl,e1,aB l i (by decide +kernel) (by decide +kernel),R1.here ?_⟩;refine⟨_,rfl,p,dx,_,rfl,e1,aB l i (by decide +kernel) (by decide +kernel),⟨_,rfl,_,rfl,c.kind,c.arg,rfl,so ok,fun H2 s2=>?_⟩⟩;rw[qP ok n'];have R2:RdL C H2 p l ws (c.arg::r):=R1.same s2;refine R2.goX (fun _=>by simp) (fun _ x r' H3 e k3 R3=>?_) (fun z=>by cases z);cases e;refine⟨_,rfl,_,rfl,_,rfl,c,rfl,ok,n',fun v H4 s4 av=>⟨sz rfl,fun a ga=>?_⟩⟩;have w1:=ac ga (.tup [.str c.hd,v]);refine q _ _ rfl _ _ (k1.trans ((KpR.same s2).trans (k3.trans (KpR.same (s4.trans w1))))) (wN ok aa ?_) (R3.same (s4.trans w1));cases av with
   |num=>exact .num
   |item h=>exact .item (w1 _ _ h)
   |says=>exact .says
abbrev fw:Stmt:=top 27
abbrev mW:List Str:=["reader","depth","condition"]
theorem hJ:FnScope mW ["reader","depth"] (ah fw):=⟨rfl,rfl,rfl,by decide +kernel,rfl,by decide +kernel,by decide +kernel⟩
theorem mh{k n:Nat}{f C cQ:Addr}{fd:FuncData}{t1:Tok}(hk:3<=k)(F:Fun K "read_one" "read_one" fw f fd)(FX_read_one:FnX P w K mg base k "read_one" ["reader","depth"] (spX C cQ (XO n)))(FX_read_some:FnX P w K mg base (k+2) "read_some" ["reader","depth"] (spX C cQ (XM true (XM false (XO n)))))(FX_read_plain:FnX P w K mg base 4 "read_plain" ["reader"] (spPlX C cQ))(a7:MFn P w K mg base 3 C "passes" ["self","word"] (spPasses C))(c7:MFn P w K mg base 2 C "here" ["self"] (spHere C))(b9:MFnX P w K mg base 3 C "go_on" ["self","good"] (spGoX C cQ))(i4:mg "MOST_DEEP" = some (.int 12 t1)):FnOk P w K mg base (CXr P w) (k+3) f fd ["reader","depth"] (spX C cQ (XO (n+1))):=by
 refine F.okX hJ (fun vs H Q E h=>?_) (fun cdv A outer s H vs Q E hr h=>?_)
 ·obtain⟨p,l,ws,us,d,res,rfl,_⟩:=h;rfl
 obtain⟨p,l,ws,us,d,res,rfl,R0,h,q,qe⟩:=h;refine⟨_,(b_c (ar (t_w (cV (ak fQ (q_v 1) (rk i4)) (cH (aR (dO a7 (hr.mono (by omega)) (q_v 0) (q_a ad ae)))))) (b_1 (aj (ap (q_a ad (q_a (eh FX_read_one (bY aM) (hr.mono (by omega)) (q_a (q_v 0) (q_a (ai bB (q_v 1) af) ae))) ae))))) b_0)
   (b_c (ar (t_w (cV (ak fQ (q_v 1) (rk i4)) (cH (aR (dO a7 (hr.mono (by omega)) (q_v 0) (q_a ad ae)))))) (b_c (am (i:=2) hJ.nd (eh FX_read_some (bY aM) (hr.mono (by omega)) (q_a (q_v 0) (q_a (ai bB (q_v 1) af) ae))))
   (b_c (cW (gM b9 (bY aM) (hr.mono (by omega)) (q_v 0) (q_a (bo aI (cM c7 (hr.mono (by omega)) (q_v 0)) ad) ae)))
   (b_1 (aj (q_v 2))))) b_0)
   (b_1 (aj (eh FX_read_plain (bY aM) (hr.mono (by omega)) (q_a (q_v 0) ae)))))),?_⟩
 try rw[cxK]
 obtain⟨dx,i,e0⟩:=R0.obj;rcases h with⟨d12,us',r0,rfl,h,rfl⟩|⟨d12,us',r0,rfl,h,hc⟩|⟨hh,hx⟩
 ·refine⟨_,rfl,_,_,rfl,rfl,⟨_,rfl,bO d12 ⟨_,rfl,p,dx,_,rfl,e0,aB l i (by decide +kernel) (by decide +kernel),RdL.yes (t:="not") R0 (by decide +kernel) fun H1 k1 R1=>⟨_,rfl,aX ?_⟩⟩⟩⟩;refine⟨_,rfl,_,rfl,_,_,rfl,rfl,p,l,ws,us',d+1,r0,rfl,R1,h,fun c r e v H2 k2 cv R2=>⟨sz rfl,fun a ga=>?_⟩,fun r e H2 dd k2 R2 hd=>qe r (by rw[e];rfl) H2 dd (k1.trans k2) R2 hd⟩;have w1:=ac ga (.tup [.str "not",v]);exact q (.no c) r (by rw[e];rfl) _ _ (k1.trans (k2.trans (KpR.same w1))) (.no aa (cv.ts fun a zs e=>w1 _ _ e)) (R2.same w1)
 ·refine⟨_,rfl,_,_,rfl,rfl,⟨_,rfl,bO d12 ⟨_,rfl,p,dx,_,rfl,e0,aB l i (by decide +kernel) (by decide +kernel),RdL.no (t:="not") R0 (by decide +kernel) (by show¬(opn="not");decide +kernel) ⟨_,rfl,aq ?_⟩⟩⟩⟩;refine⟨_,rfl,_,_,rfl,rfl,⟨_,rfl,bO d12 ⟨_,rfl,p,dx,_,rfl,e0,aB l i (by decide +kernel) (by decide +kernel),RdL.yes (t:="(") R0 (by decide +kernel) fun H1 k1 R1=>⟨_,rfl,aX ?_⟩⟩⟩⟩;refine⟨_,rfl,_,rfl,_,_,rfl,rfl,p,l,ws,us',d+1,r0,rfl,R1,h,fun c r e v H2 k2 cv R2=>?_,fun r e H2 dd k2 R2 hd=>?_⟩
  rotate_left
  ·subst e;cases hc;exact qe r rfl H2 dd (k1.trans k2) R2 hd
  subst e;obtain⟨dx,i,e2⟩:=R2.obj;refine⟨_,rfl,p,dx,_,rfl,e2,aB l i (by decide +kernel) (by decide +kernel),⟨_,rfl,p,dx,_,rfl,e2,aB l i (by decide +kernel) (by decide +kernel),R2.here ⟨rfl,?_⟩⟩⟩;cases hc with
  |ok _ r =>rw[decide_eq_true (show V.str ((cls::r).headD "")=V.str ")" from rfl)];refine R2.goX (fun _=>by simp) (fun _ x r' H3 e k3 R3=>?_) (fun z=>by cases z);cases e;exact⟨_,rfl,q _ _ rfl _ _ (k1.trans (k2.trans k3)) (cv.ts (R2.ts k3)) R3⟩
  |no _ _ hn =>rw[decide_eq_false (show¬V.str (r.headD "")=V.str ")" from fun z=>hn (by injection z))];exact R2.goX (fun z=>by cases z) (fun z=>by cases z) fun _ H3 dd s3 R3 hd=>qe _ rfl H3 dd (k1.trans (k2.trans (KpR.same s3))) R3 hd
 ·refine⟨_,rfl,_,_,rfl,rfl,⟨_,rfl,aZ (fun d12=>?_) (fun d12=>?_)⟩⟩
  ·have hh:=hh d12;refine⟨_,rfl,p,dx,_,rfl,e0,aB l i (by decide +kernel) (by decide +kernel),RdL.no (t:="not") R0 (by decide +kernel) hh.1 ⟨_,rfl,aq ?_⟩⟩;refine⟨_,rfl,_,_,rfl,rfl,⟨_,rfl,bO d12 ⟨_,rfl,p,dx,_,rfl,e0,aB l i (by decide +kernel) (by decide +kernel),RdL.no (t:="(") R0 (by decide +kernel) hh.2 ⟨_,rfl,aq ?_⟩⟩⟩⟩;exact⟨_,rfl,p,l,ws,us,res,rfl,R0,hx,q,qe⟩
  ·refine aq ⟨_,rfl,_,_,rfl,rfl,⟨_,rfl,bA d12 (aq ?_)⟩⟩;exact⟨_,rfl,p,l,ws,us,res,rfl,R0,hx,q,qe⟩
def aJ:List Str:=["place","text","size","depth","due"]
inductive QTl:List Str->Str->Bool->Prop
 |none:QTl [] "place" false
 |key {k:Str} (h:k∈aJ):QTl ["by",k] k false
 |back {k:Str} (h:k∈aJ):QTl ["by",k,"back"] k true
inductive QRes where
 |ok (c:Cq)(key:Str)(back:Bool)
 |bad (r:List Str)
inductive XQ(R:RX)(ws:List Str):QRes->Prop
 |bad0 (r:List Str) (h:R 0 ws (.bad r)):XQ R ws (.bad r)
 |ok (c:Cq) (r:List Str) (key:Str) (back:Bool) (h:R 0 ws (.ok c r)) (h1:QTl r key back):XQ R ws (.ok c key back)
 |more (c:Cq) (r:List Str) (h:R 0 ws (.ok c r)) (h1:r.headD ""≠"by") (h2:r≠[]):XQ R ws (.bad r)
 |key (c:Cq) (r:List Str) (h:R 0 ws (.ok c ("by"::r))) (h1:inV (.str (r.headD "")) (aJ.map V.str)=false):XQ R ws (.bad r)
 |key2 (c:Cq) (k:Str) (r:List Str) (h:R 0 ws (.ok c ("by"::k::r))) (h0:k∈aJ) (h1:r.headD ""≠"back") (h2:r≠[]):XQ R ws (.bad r)
 |back2 (c:Cq) (k:Str) (r:List Str) (h:R 0 ws (.ok c ("by"::k::"back"::r))) (h0:k∈aJ) (h2:r≠[]):XQ R ws (.bad r)
inductive spQX(cQ:Addr)(R:RX)(vs:List V)(H:Hp)(Q:VK)(E_:XK):Prop
 |mk (ws:List Str) (res:QRes) (h0:vs=[.str (Str.join aP ws)]) (h1:ws≠[]) (h2:∀x∈ws,32∉x.cps.toList) (h3:(Str.join aP ws).length<=100000) (h4:ws.length<=100000) (h5:XQ R ws res)
   (h6:∀c key back,res=.ok c key back->∀a v H',Same H H'->H' a=some (.tup [v,.str key,.bl back])->CqAt H' v c->Q (.ref a) H')
   (h7:∀r,res=.bad r->∀H' dd,Same H H'->H' dd=some (.xd [("at",.int ((ws.length:Int)-r.length))])->E_ (.ref cQ) (some dd) H'):spQX cQ R vs H Q E_
theorem RdL.spot{C p l:Addr}{H:Hp}{ws us:List Str}(R:RdL C H p l ws us):∃dx i,H p=some (.ins C dx (dz l i))/\(i:Int)=(ws.length:Int)-us.length:=by obtain⟨pre,rfl,dx,h,_⟩:=R;refine⟨dx,_,h,?_⟩;rw[zb];omega
theorem lh{k:Str}(h:k∈aJ):inV (.str k) (aJ.map V.str)=true:=by simp only[aJ,zl,zK,Zl]at h;rcases h with rfl|rfl|rfl|rfl|rfl<;>decide +kernel
abbrev cC:Stmt:=top 23
abbrev iA:List Str:=["text","reader","condition","key","back"]
theorem aU:FnScope iA ["text"] (ah cC):=⟨rfl,rfl,rfl,by decide +kernel,rfl,by decide +kernel,by decide +kernel⟩
theorem iq{R:RX}{f C cQ kk:Addr}{fd:FuncData}{bm:List Value}(F:Fun K "read_question" "read_question" cC f fd)(m8:MkFn P w K mg base 1 C "Reader" ["self","words"] (spRInit C))(T:Txt K C)(FX_read_some:FnX P w K mg base 44 "read_some" ["reader","depth"] (spX C cQ R))(a7:MFn P w K mg base 3 C "passes" ["self","word"] (spPasses C))(c7:MFn P w K mg base 2 C "here" ["self"] (spHere C))(b9:MFnX P w K mg base 3 C "go_on" ["self","good"] (spGoX C cQ))(c6:MFn P w K mg base 1 C "is_through" ["self"] (spThrough C))(x3:mg "KEYS" = some (.ref kk))(hK:∀H,SqT K H kk (aJ.map V.str))(b6:ExI P w K mg base 1 cQ bm ["self","at"] (oa cQ))(a8:mg "NoQuestion" = some (.ref cQ)):FnOk P w K mg base (CXr P w) 45 f fd ["text"] (spQX cQ R):=by
 refine F.okX aU (fun vs H Q E h=>?_) (fun cdv A outer s H vs Q E hr h=>?_)
 ·obtain⟨ws,res,rfl,_⟩:=h;rfl
 obtain⟨ws,res,rfl,ne,nb,l1,l2,h1,q,qe⟩:=h;refine⟨_,(b_c (am (i:=1) aU.nd (vS m8 (hr.mono (by decide)) (q_a (gN (q_v 0) ad) ae)))
   (b_c (am (i:=2) aU.nd (eh FX_read_some (bY aM) (hr.mono (by decide)) (q_a (q_v 1) (q_a af ae))))
   (b_c (am (i:=3) aU.nd ad)
   (b_c (am (i:=4) aU.nd bH)
   (b_c (ar (aR (dO a7 (hr.mono (by decide)) (q_v 1) (q_a ad ae))) (b_c (am (i:=3) aU.nd (cM c7 (hr.mono (by decide)) (q_v 1)))
   (b_c (cW (gM b9 (bY aM) (hr.mono (by decide)) (q_v 1) (q_a (bo (nJ (K:=K) rfl) (q_v 3) (cK x3)) ae)))
   (b_1 (am (i:=4) aU.nd (dO a7 (hr.mono (by decide)) (q_v 1) (q_a ad ae)))))) b_0)
   (b_c (ar (cU (aR (cM c6 (hr.mono (by decide)) (q_v 1)))) (b_1 (lO aM rfl b6 (hr.mono (by decide)) a8 (q_a (gJ (q_v 1)) ae))) b_0)
   (b_1 (aj (ap (q_a (q_v 2) (q_a (q_v 3) (q_a (q_v 4) ae)))))))))))),?_⟩
 try rw[cxK]
 refine⟨_,rfl,rfl,_," ",rfl,rfl,rfl,l1,fun D gD=>?_⟩;rw[show Txt.split (Str.join aP ws) " " = ws from dA (c:=32) ne nb];have wD:=ac gD (.lst (ws.map V.str));have eD:upd H D (.lst (ws.map V.str)) D=some (.lst (ws.map V.str)):=aa;generalize upd H D (.lst (ws.map V.str))=H1 at wD eD ⊢;intro x dx gx gdx nx;have nDx:D≠x:=fun z=>by rw[z,gx]at eD;cases eD
 have nDdx:D≠dx:=fun z=>by rw[z,gdx]at eD;cases eD
 refine⟨x,dx,D,ws,rfl,aa,by rw[ag nDx,ag nDdx];exact eD,l2,fun H2 k2 R2=>⟨rfl,?_⟩⟩;have w2:Same H H2:=fun b o e=>by
  have e1:=wD _ _ e;have n1:b≠x:=fun z=>by rw[z,gx]at e1;cases e1
  have n2:b≠dx:=fun z=>by rw[z,gdx]at e1;cases e1
  exact k2 _ _ (by rw[ag n1,ag n2];exact e1) n1
 have R2:RdL C H2 x D ws ws:=⟨[],rfl,R2⟩
 have nHx:H x=none:=by
  cases e:H x with
  |none=>rfl
  |some o=>rw[wD _ _ e]at gx;cases gx
 have fs:∀{H3:Hp},KpR x H2 H3->Same H H3:=fun k b o e=>k _ _ (w2 _ _ e) fun z=>by rw[z,nHx]at e;cases e
 have fin:∀(r:List Str) (H5:Hp) (σ:St) (D':Ends),res=.bad r->r≠[]->KpR x H2 H5->RdL C H5 x D ws r->σ[1]?=some (some (.ref x))->rE (rF (iY (gR C "is_through" (spThrough C) [] E0 (tVar 1) dj))) (mP (oa cQ) cQ E (cT (rD K (tVar 1) "spot") dj)) og D' σ H5:=by intro r H5 σ D' er nr k5 R5 hσ;obtain⟨dy,i,e5,ei⟩:=R5.spot;refine⟨_,hσ,x,dy,_,rfl,e5,aB D i (by decide +kernel) (by decide +kernel),R5.through ⟨_,rfl,?_⟩⟩;rw[show r.isEmpty=false by cases r with|nil=>exact absurd rfl nr|cons=>rfl];refine aX ⟨_,hσ,x,C,dy,_,_,rfl,e5,T.cl,T.nS,dG D i,?_⟩;refine⟨sz rfl,fun ea t hea ht nt=>⟨ea,t,_,rfl,aa,fun dd hdd=>⟨rfl,some dd,aa,?_⟩⟩⟩;obtain⟨a1,a2⟩:=kK hea hdd;exact qe r er _ dd ((fs k5).trans a1) (by rw[a2,ei])
 have r1:∃r1,R 0 ws r1/\(∀r,r1=.bad r->res=.bad r)/\∀c r,r1=.ok c r->(∃key back,QTl r key back/\res=.ok c key back)\/(r.headD ""≠"by"/\r≠[]/\res=.bad r)\/∃r':List Str,r=("by":Str)::r'/\((inV (.str (r'.headD "")) (aJ.map V.str)=false/\res=.bad r')\/∃(k:Str) (r2:List Str),r'=k::r2/\k∈aJ/\((r2.headD ""≠"back"/\r2≠[]/\res=.bad r2)\/∃r3:List Str,r2=("back":Str)::r3/\r3≠[]/\res=.bad r3)):=by
  cases h1 with
  |bad0 r h=>exact⟨_,h,fun _ e=>by cases e;rfl,fun _ _ e=>by cases e⟩
  |ok c r key back h h1=>exact⟨_,h,fun _ e=>(by cases e),fun _ _ e=>by cases e;exact .inl ⟨key,back,h1,rfl⟩⟩
  |more c r h h1 h2=>exact⟨_,h,fun _ e=>(by cases e),fun _ _ e=>by cases e;exact .inr (.inl ⟨h1,h2,rfl⟩)⟩
  |key c r h h1=>exact⟨_,h,fun _ e=>(by cases e),fun _ _ e=>by cases e;exact .inr (.inr ⟨r,rfl,.inl ⟨h1,rfl⟩⟩)⟩
  |key2 c k r h h0 h1 h2=>exact⟨_,h,fun _ e=>(by cases e),fun _ _ e=>by cases e;exact .inr (.inr ⟨_,rfl,.inr ⟨k,r,rfl,h0,.inl ⟨h1,h2,rfl⟩⟩⟩)⟩
  |back2 c k r h h0 h2=>exact⟨_,h,fun _ e=>(by cases e),fun _ _ e=>by cases e;exact .inr (.inr ⟨_,rfl,.inr ⟨k,_,rfl,h0,.inr ⟨r,rfl,h2,rfl⟩⟩⟩)⟩
 clear h1;obtain⟨r1,h1,hb,ho⟩:=r1;refine⟨_,rfl,x,D,ws,ws,0,r1,rfl,R2,h1,fun c r e1 v H3 k3 cv R3=>?_,fun r e1 H3 dd k3 R3 hd=>qe r (hb r e1) H3 dd (fs k3) hd⟩;have ho:=ho c r e1;clear hb h1 e1;obtain⟨dy,i,e3⟩:=R3.obj;rcases ho with⟨key,back,h2,er⟩|⟨hn,nr,er⟩|⟨r',rfl,ho⟩
 ·have q:=q c key back er;clear er qe fin;cases h2 with
  |none =>refine⟨_,rfl,x,dy,_,rfl,e3,aB D i (by decide +kernel) (by decide +kernel),RdL.no (t:="by") R3 (by decide +kernel) (by decide +kernel) ⟨_,rfl,aq ?_⟩⟩;refine⟨_,rfl,x,dy,_,rfl,e3,aB D i (by decide +kernel) (by decide +kernel),R3.through ⟨_,rfl,aq ?_⟩⟩;refine⟨_,rfl,_,rfl,_,rfl,sz rfl,fun a ga=>?_⟩;exact q a v _ ((fs k3).trans (ac ga _)) aa (cv.ts fun a zs e=>ac ga _ _ _ e)
  |key h =>refine⟨_,rfl,x,dy,_,rfl,e3,aB D i (by decide +kernel) (by decide +kernel),RdL.yes (t:="by") R3 (by decide +kernel) fun H4 k4 R4=>⟨_,rfl,aX ?_⟩⟩;obtain⟨dy,i,e4⟩:=R4.obj;refine⟨_,rfl,x,dy,_,rfl,e4,aB D i (by decide +kernel) (by decide +kernel),R4.here ?_⟩;refine⟨_,rfl,x,dy,_,rfl,e4,aB D i (by decide +kernel) (by decide +kernel),⟨_,rfl,kk,_,rfl,.inr (hK _),rfl,rfl,?_⟩⟩;rw[show(if false=true then !inV (.str (List.headD [key] "")) (aJ.map V.str)else inV (.str (List.headD [key] "")) (aJ.map V.str))=true from lh h];refine R4.goX (fun _=>by simp) (fun _ x' r' H5 e k5 R5=>?_) (fun z=>by cases z);cases e;obtain⟨dy,i,e5⟩:=R5.obj;refine⟨_,rfl,x,dy,_,rfl,e5,aB D i (by decide +kernel) (by decide +kernel),RdL.no (t:="back") R5 (by decide +kernel) (by decide +kernel) ?_⟩;refine⟨_,rfl,x,dy,_,rfl,e5,aB D i (by decide +kernel) (by decide +kernel),R5.through ⟨_,rfl,aq ?_⟩⟩;refine⟨_,rfl,_,rfl,_,rfl,sz rfl,fun a ga=>?_⟩;exact q a v _ ((fs (k3.trans (k4.trans k5))).trans (ac ga _)) aa (((cv.ts (R3.ts k4)).ts (R4.ts k5)).ts fun a zs e=>ac ga _ _ _ e)
  |back h =>refine⟨_,rfl,x,dy,_,rfl,e3,aB D i (by decide +kernel) (by decide +kernel),RdL.yes (t:="by") R3 (by decide +kernel) fun H4 k4 R4=>⟨_,rfl,aX ?_⟩⟩;obtain⟨dy,i,e4⟩:=R4.obj;refine⟨_,rfl,x,dy,_,rfl,e4,aB D i (by decide +kernel) (by decide +kernel),R4.here ?_⟩;refine⟨_,rfl,x,dy,_,rfl,e4,aB D i (by decide +kernel) (by decide +kernel),⟨_,rfl,kk,_,rfl,.inr (hK _),rfl,rfl,?_⟩⟩;rw[show(if false=true then !inV (.str (List.headD [key,"back"] "")) (aJ.map V.str)else inV (.str (List.headD [key,"back"] "")) (aJ.map V.str))=true from lh h];refine R4.goX (fun _=>by simp) (fun _ x' r' H5 e k5 R5=>?_) (fun z=>by cases z);cases e;obtain⟨dy,i,e5⟩:=R5.obj;refine⟨_,rfl,x,dy,_,rfl,e5,aB D i (by decide +kernel) (by decide +kernel),RdL.yes (t:="back") R5 (by decide +kernel) fun H6 k6 R6=>?_⟩;obtain⟨dy,i,e6⟩:=R6.obj;refine⟨_,rfl,x,dy,_,rfl,e6,aB D i (by decide +kernel) (by decide +kernel),R6.through ⟨_,rfl,aq ?_⟩⟩;refine⟨_,rfl,_,rfl,_,rfl,sz rfl,fun a ga=>?_⟩;exact q a v _ ((fs (k3.trans (k4.trans (k5.trans k6)))).trans (ac ga _)) aa ((((cv.ts (R3.ts k4)).ts (R4.ts k5)).ts (R5.ts k6)).ts fun a zs e=>ac ga _ _ _ e)
 ·refine⟨_,rfl,x,dy,_,rfl,e3,aB D i (by decide +kernel) (by decide +kernel),RdL.no (t:="by") R3 (by decide +kernel) hn ⟨_,rfl,aq ?_⟩⟩;exact fin r H3 _ _ er nr k3 R3 rfl
 ·refine⟨_,rfl,x,dy,_,rfl,e3,aB D i (by decide +kernel) (by decide +kernel),RdL.yes (t:="by") R3 (by decide +kernel) fun H4 k4 R4=>⟨_,rfl,aX ?_⟩⟩;obtain⟨dy,i,e4⟩:=R4.obj;refine⟨_,rfl,x,dy,_,rfl,e4,aB D i (by decide +kernel) (by decide +kernel),R4.here ?_⟩;refine⟨_,rfl,x,dy,_,rfl,e4,aB D i (by decide +kernel) (by decide +kernel),⟨_,rfl,kk,_,rfl,.inr (hK _),rfl,rfl,?_⟩⟩;rcases ho with⟨hf,er⟩|⟨k,r2,rfl,hk,ho⟩
  ·rw[show(if false=true then !inV (.str (r'.headD "")) (aJ.map V.str)else inV (.str (r'.headD "")) (aJ.map V.str))=false from hf];exact R4.goX (fun z=>by cases z) (fun z=>by cases z) fun _ H5 dd s5 R5 hd=>qe r' er H5 dd (fs (k3.trans (k4.trans (KpR.same s5)))) hd
  ·rw[show(if false=true then !inV (.str ((k::r2).headD "")) (aJ.map V.str)else inV (.str ((k::r2).headD "")) (aJ.map V.str))=true from lh hk];refine R4.goX (fun _=>by simp) (fun _ x' r' H5 e k5 R5=>?_) (fun z=>by cases z);cases e;obtain⟨dy,i,e5⟩:=R5.obj;rcases ho with⟨hn,nr,er⟩|⟨r3,rfl,nr,er⟩
   ·refine⟨_,rfl,x,dy,_,rfl,e5,aB D i (by decide +kernel) (by decide +kernel),RdL.no (t:="back") R5 (by decide +kernel) hn ?_⟩;exact fin r2 H5 _ _ er nr (k3.trans (k4.trans k5)) R5 rfl
   ·refine⟨_,rfl,x,dy,_,rfl,e5,aB D i (by decide +kernel) (by decide +kernel),RdL.yes (t:="back") R5 (by decide +kernel) fun H6 k6 R6=>?_⟩;exact fin r3 H6 _ _ er nr (k3.trans (k4.trans (k5.trans k6))) R6 rfl
def Cq.mny:Cq->Bool
 |.many _ _=>true
 |_=>false
def Cq.isOr:Cq->Bool
 |.many o _=>o
 |_=>false
inductive Good:Nat->Nat->Cq->Prop
 |at{h d:Nat} {c:Cq} (ok:AtOk c):Good (h+1) d c
 |no {h d d':Nat} {c:Cq} (g:Good h d c) (hd:d+(if c.mny then 2 else 1)<=d'):Good (h+1) d' (.no c)
 |many {h d:Nat} {o:Bool} {cs:List Cq} (h1:2<=cs.length) (h2:cs.length<=90) (g:∀c∈cs,Good h (d-(if brk c (orW o)then 1 else 0)) c) (hd:∀c∈cs,brk c (orW o)=true->1<=d):Good (h+1) d (.many o cs)
theorem Good.mono{h d:Nat}{c:Cq}(g:Good h d c):∀{h' d':Nat},h<=h'->d<=d'->Good h' d' c:=by
 induction g with
 |@«at» h d c ok =>
  intro h' d' hh hd;obtain⟨h',rfl⟩:∃x,h'=x+1:=⟨h'-1,by omega⟩
  exact .at ok
 |@no h d e c g hd ih =>
  intro h' d' hh hd';obtain⟨h',rfl⟩:∃x,h'=x+1:=⟨h'-1,by omega⟩
  exact .no (ih (by omega) (zd _)) (by omega)
 |@many h d o cs h1 h2 g hd ih =>
  intro h' d' hh hd';obtain⟨h',rfl⟩:∃x,h'=x+1:=⟨h'-1,by omega⟩
  exact .many h1 h2 (fun c hc=>ih c hc (by omega) (by split<;>omega)) (fun c hc z=>zm (hd c hc z) hd')
theorem Good.hds{h d:Nat}{c:Cq}(g:Good h d c):decide (c.hd="or")=c.isOr/\decide (c.hd="and")=(c.mny&&!c.isOr)/\(c.mny=false->c.isOr=false):=by
 cases g with
 | «at» ok =>
  have a:=dX ok;have b:c.isOr=false/\c.mny=false:=by cases ok<;>exact⟨rfl,rfl⟩
  rw[b.1,b.2,decide_eq_false a.2.2.1,decide_eq_false a.2.2.2];exact⟨rfl,rfl,fun _=>rfl⟩
 |no g hd =>
  refine⟨decide_eq_false ?_,decide_eq_false ?_,fun _=>rfl⟩
  ·show¬(("not":Str)="or");decide +kernel
  ·show¬(("not":Str)="and");decide +kernel
 |@many h d o cs =>show decide (orW o="or")=o/\decide (orW o="and")=!o/\_;cases o<;>refine⟨by decide +kernel,by decide +kernel,fun z=>by cases z⟩
theorem Good.brkA{h d:Nat}{c:Cq}(g:Good h d c){t:Str}(n:t≠"or"):brk c t=c.mny:=by
 obtain⟨a,b,e⟩:=g.hds;unfold brk;rw[a,b,decide_eq_false n];cases c with
 |many o=>cases o<;>rfl
 |_=>rfl
theorem Good.brkO{h d:Nat}{c:Cq}(g:Good h d c):brk c "or" = c.isOr:=by obtain⟨a,b,e⟩:=g.hds;unfold brk;rw[a,b,decide_eq_true rfl];cases c.isOr<;>cases c.mny<;>rfl
theorem kP{R:List Str->Res->Prop}{o:Bool}{r:List Str}(hr:r.headD ""≠orW o):∀(cs:List Cq) (c:Cq),(∀x∈c::cs,∀r',(r'=r\/∃z,r'=orW o::z)->R (bt (brk x (orW o)) x.ws++r') (.ok x r')) ->
  ∃r0,R (Cq.wsL o (c::cs)++r) (.ok c r0)/\XL R (orW o) r0 cs r
 | [],c,h=>⟨r,h c zi r (.inl rfl),.nil hr⟩
 |d::cs,c,h=>by obtain⟨r1,a,b⟩:=kP hr cs d fun x hx=>h x (ze _ hx);refine⟨orW o::(Cq.wsL o (d::cs)++r),?_,.cons a b⟩;have:=h c zi (orW o::(Cq.wsL o (d::cs)++r)) (.inr ⟨_,rfl⟩);rw[Cq.wsL,zp];exact this
theorem oF{R:List Str->Res->Prop}{o:Bool}{us r:List Str}(hb:R us (.bad r)):∀(cs:List Cq) (c:Cq),(∀x∈c::cs,∀z,R (bt (brk x (orW o)) x.ws++orW o::z) (.ok x (orW o::z))) ->
  ∃r0,R (Cq.wsL o (c::cs)++orW o::us) (.ok c r0)/\XB R (orW o) r0 cs r
 | [],c,h=>⟨orW o::us,h c zi us,.here hb⟩
 |d::cs,c,h=>by obtain⟨r1,a,b⟩:=oF hb cs d fun x hx=>h x (ze _ hx);refine⟨orW o::(Cq.wsL o (d::cs)++orW o::us),?_,.cons a b⟩;have:=h c zi (Cq.wsL o (d::cs)++orW o::us);rw[Cq.wsL,zp];exact this
theorem qp{o:Bool}{c:Cq}{cs:List Cq}(h:2<=(c::cs).length):cR o c cs=.many o (c::cs):=by
 cases cs with
 |nil=>simp at h
 |cons=>rfl
theorem XM1{o:Bool}{R:RX}{d:Int}{us:List Str}{c:Cq}{r:List Str}(h:R d us (.ok c r))(hr:r.headD ""≠orW o):XM o R d us (.ok c r):=.ok c r [] r h (.nil hr) (by simp)
theorem uy{o:Bool}{R:RX}{d:Int}{us:List Str}{c:Cq}{cs:List Cq}{r r0:List Str}(h:R d us (.ok c r0))(hl:XL (R d) (orW o) r0 cs r)(h1:2<=(c::cs).length)(h2:(c::cs).length<=90):XM o R d us (.ok (.many o (c::cs)) r):=by have:=XM.ok (o:=o) c r0 cs r h hl (by simp at h2;omega);rw[qp h1]at this;exact this
theorem cA:∀(h d:Nat) (c:Cq),Good h d c ->
  (∀(n:Nat) (D:Int) (r:List Str),(13:Int)<=n+D->D+d+(if c.mny then 1 else 0)<=12->XO n D (bt c.mny c.ws++r) (.ok c r)) /\
  (c.isOr=false->∀(n:Nat) (D:Int) (r:List Str),(13:Int)<=n+D->D+d<=12->r.headD ""≠"and"->XM false (XO n) D (c.ws++r) (.ok c r)) /\
  (∀(n:Nat) (D:Int) (r:List Str),(13:Int)<=n+D->D+d<=12->r.headD ""≠"and"->r.headD ""≠"or"->XM true (XM false (XO n)) D (c.ws++r) (.ok c r))
 |0,d,c,g=>by cases g
 |h+1,d,c,g=>by
  have E:c.isOr=false->∀(n:Nat) (D:Int) (r:List Str),(13:Int)<=n+D->D+d<=12->r.headD ""≠"and"->(c.mny=false->XO n D (c.ws++r) (.ok c r))->XM false (XO n) D (c.ws++r) (.ok c r):=fun no n D r hn hD hr hu=>by
   cases hm:c.mny with
   |false=>exact XM1 (o:=false) (hu hm) hr
   |true =>
    cases g with
    | «at» ok=>cases ok<;>cases hm
    |no=>cases hm
    |@many _ _ o cs h1 h2 g hd =>
     have no:o=false:=no;subst no;cases cs with
     |nil=>simp at h1
     |cons c1 cs =>
      obtain⟨r0,a,b⟩:=kP (R:=XO n D) (o:=false) (r:=r) hr cs c1 fun x hx r' hr'=>by have gx:=g x hx;have hb:=gx.brkA (t:=orW false) (by decide +kernel);have dx:=hd x hx;have:=(cA h _ x gx).1 n D r' hn (by rw[hb]at dx ⊢;split<;>(rename_i z;first|(have:=dx z;omega)|omega));rw[hb];exact this
      exact uy a b h1 h2
  have S:∀(n:Nat) (D:Int) (r:List Str),(13:Int)<=n+D->D+d<=12->r.headD ""≠"and"->r.headD ""≠"or"->(c.isOr=false->XM false (XO n) D (c.ws++r) (.ok c r))->XM true (XM false (XO n)) D (c.ws++r) (.ok c r):=fun n D r hn hD hr hr2 hE=>by
   cases ho:c.isOr with
   |false=>exact XM1 (o:=true) (hE ho) hr2
   |true =>
    cases g with
    | «at» ok=>cases ok<;>cases ho
    |no=>cases ho
    |@many _ _ o cs h1 h2 g hd =>
     have ho:o=true:=ho;subst ho;cases cs with
     |nil=>simp at h1
     |cons c1 cs =>
      obtain⟨r0,a,b⟩:=kP (R:=XM false (XO n) D) (o:=true) (r:=r) hr2 cs c1 fun x hx r' hr'=>by
       have gx:=g x hx;have hb:brk x (orW true)=x.isOr:=gx.brkO;have dx:=hd x hx;have hra:r'.headD ""≠"and":=by
        rcases hr' with rfl|⟨z,rfl⟩
        ·exact hr
        ·show¬(orW true="and");decide +kernel
       obtain⟨u,e,_⟩:=cA h _ x gx;rw[hb]at dx u e ⊢;cases hx:x.isOr with
       |false =>rw[hx]at u e;exact e rfl n D r' hn (by simp;omega) hra
       |true =>
        have hm:x.mny=true:=by
         cases hq:x.mny with
         |true=>rfl
         |false=>rw[gx.hds.2.2 hq]at hx;cases hx
        rw[hx]at u;rw[hm]at u;have:=dx hx;exact XM1 (o:=false) (u n D r' hn (by simp;omega)) hra
      exact uy a b h1 h2
  have U:∀(n:Nat) (D:Int) (r:List Str),(13:Int)<=n+D->D+d+(if c.mny then 1 else 0)<=12->c.mny=false->XO n D (c.ws++r) (.ok c r):=fun n D r hn hD hm=>by
   rw[hm]at hD;simp at hD;obtain⟨n,rfl⟩:∃x,n=x+1:=⟨n-1,by omega⟩
   have hn':(13:Int)<=n+(D+1):=by omega
   cases g with
   | «at» ok =>
    have hh:(c.ws++r).headD "" = c.hd:=by rw[kl ok];rfl
    exact .inr (.inr ⟨fun _=>by rw[hh];exact⟨(dX ok).1,(dX ok).2.1⟩,.ok c r ok rfl⟩)
   |@no _ e _ c' g he =>have hb:brk c' aw=c'.mny:=g.brkA (by decide +kernel);refine .inl ⟨by split at he<;>omega,bt (brk c' aw) c'.ws++r,.ok c' r,rfl,?_,rfl⟩;rw[hb];exact(cA h _ c' g).1 n (D+1) r hn' (by split at he<;>simp_all<;>omega)
   |many=>cases hm
  refine⟨fun n D r hn hD=>?_,fun no n D r hn hD hr=>E no n D r hn hD hr fun hm=>U n D r hn (by rw[hm];simpa using hD) hm,fun n D r hn hD hr hr2=>S n D r hn hD hr hr2 fun no=>E no n D r hn hD hr fun hm=>U n D r hn (by rw[hm];simpa using hD) hm⟩;cases hm:c.mny with
  |false=>exact U n D r hn hD hm
  |true =>
   rw[hm]at hD;simp at hD;obtain⟨n,rfl⟩:∃x,n=x+1:=⟨n-1,by omega⟩
   have nc:∀t:Str,t="and"\/t="or"->(cls::r).headD ""≠t:=by
    rintro t (rfl|rfl)
    ·show¬(cls="and");decide +kernel
    ·show¬(cls="or");decide +kernel
   refine .inr (.inl ⟨by omega,c.ws++cls::r,.ok c (cls::r),?_,S n (D+1) (cls::r) (by omega) (by omega) (nc _ (.inl rfl)) (nc _ (.inr rfl)) fun no=>E no n (D+1) (cls::r) (by omega) (by omega) (nc _ (.inl rfl)) fun hm'=>(by rw[hm]at hm';cases hm'),.ok c r⟩);show(opn::(c.ws++[cls]))++r=opn::(c.ws++cls::r);rw[zU,zp];rfl
structure DeadW(x:Str):Prop where
 ft:PyProof.Rows.KTD.datumAt x FT=none
 n1:x≠aw
 n2:x≠opn
 n3:x≠cls
 n4:x≠"and"
 n5:x≠"or"
 n6:x≠"by"
 n7:x≠"back"
 asc:Asc x
 fig:aW x.cps.toList=false
 itm:du x=false
 key:inV (.str x) (aJ.map V.str)=false
structure Dead(pre t:List Str):Prop where
 w:DeadW (t.headD "")
 s:t.headD "" = ""\/pre.getLast?≠some "says"
theorem Dead.app{a b t:List Str}(h:Dead (a++b) t):Dead b t:=by
 refine⟨h.w,?_⟩;rcases h.s with z|z
 ·exact .inl z
 ·refine .inr fun e=>?_;cases b with
  |nil=>cases e
  |cons x b =>rw[List.getLast?_append,e]at z;exact z rfl
theorem Dead.tl{x:Str}{b t:List Str}(h:Dead (x::b) t):Dead b t:=Dead.app (a:=[x]) h
def cu(t:List Str)(res:Res):Prop:=res=.bad t\/∃c,res=.ok c t
theorem fc{t:List Str}(h:DeadW (t.headD "")){n:Nat}{D:Int}:XO (n+1) D t (.bad t):=.inr (.inr ⟨fun _=>⟨h.n1,h.n2⟩,.bad1 h.ft⟩)
theorem gj{o:Bool}{R:RX}{d:Int}{us t:List Str}{res:Res}(h:R d us res)(s:cu t res)(hr:t.headD ""≠orW o):∃res,XM o R d us res/\cu t res:=by
 rcases s with rfl|⟨c,rfl⟩
 ·exact⟨_,.bad0 _ h,.inl rfl⟩
 ·exact⟨_,XM1 h hr,.inr ⟨c,rfl⟩⟩
def Lp(R:List Str->Res->Prop)(o:Bool)(us t:List Str)(n:Nat):Prop:=R us (.bad t)\/∃c r0 cs,cs.length<=n/\R us (.ok c r0)/\(XL R (orW o) r0 cs t\/XB R (orW o) r0 cs t)
theorem Lp.m{o:Bool}{R:RX}{d:Int}{us t:List Str}{n:Nat}(h:Lp (R d) o us t n)(hn:n<=800):∃res,XM o R d us res/\cu t res:=by
 rcases h with h|⟨c,r0,cs,l,h,g|g⟩
 ·exact⟨_,.bad0 _ h,.inl rfl⟩
 ·exact⟨_,.ok c r0 cs t h g (by omega),.inr ⟨_,rfl⟩⟩
 ·exact⟨_,.bad c r0 cs t h g (by omega),.inl rfl⟩
theorem ix{w s pre post:List Str}{x:Str}(e:w++x::s=pre++post)(hp:post≠[]):(∃p,w=pre++p/\p≠[])\/pre=w\/∃p,pre=w++x::p/\s=p++post:=by
 rcases List.append_eq_append_iff.mp e with⟨a,e1,e2⟩|⟨a,e1,e2⟩
 ·cases a with
  |nil=>exact .inr (.inl (by rw[e1,zT]))
  |cons y a =>rw[zU]at e2;injection e2 with h1 h2;subst h1;exact .inr (.inr ⟨a,e1,h2⟩)
 ·cases a with
  |nil=>exact .inr (.inl (by rw[e1,zT]))
  |cons y a=>exact .inl ⟨_,e1,by simp⟩
theorem kO{R:List Str->Res->Prop}{o:Bool}{t:List Str}(ht:t.headD ""≠orW o):∀(cs:List Cq) (c:Cq) (pre post:List Str),Cq.wsL o (c::cs)=pre++post->post≠[]->Dead pre t ->
  (∀x∈c::cs,(∀r',(r'=t\/∃z,r'=orW o::z)->R (bt (brk x (orW o)) x.ws++r') (.ok x r'))/\∀pre post,bt (brk x (orW o)) x.ws=pre++post->post≠[]->Dead pre t->∃res,R (pre++t) res/\cu t res)->Lp R o (pre++t) t cs.length
 | [],c,pre,post,e,hp,dd,h=>by
  rw[Cq.wsL]at e;obtain⟨res,a,s⟩:=(h c zi).2 pre post e hp dd;rcases s with rfl|⟨c',rfl⟩
  ·exact .inl a
  ·exact .inr ⟨c',t,[],zd _,a,.inl (.nil ht)⟩
 |d::cs,c,pre,post,e,hp,dd,h=>by
  rw[Cq.wsL]at e;rcases ix e hp with⟨p,e1,np⟩|rfl|⟨p,rfl,e2⟩
  ·obtain⟨res,a,s⟩:=(h c zi).2 pre p e1 np dd;rcases s with rfl|⟨c',rfl⟩
   ·exact .inl a
   ·exact .inr ⟨c',t,[],zW _,a,.inl (.nil ht)⟩
  ·exact .inr ⟨c,t,[],zW _,(h c zi).1 t (.inl rfl),.inl (.nil ht)⟩
  ·have ih:=kO ht cs d p post e2 hp dd.app.tl fun x hx=>h x (ze _ hx);have first:=(h c zi).1 (orW o::(p++t)) (.inr ⟨_,rfl⟩)
   rw[zp,zU];rcases ih with ih|⟨c',r0,cs',l,a,g|g⟩
   ·exact .inr ⟨c,_,[],zW _,first,.inr (.here ih)⟩
   ·exact .inr ⟨c,_,c'::cs',by simpa using l,first,.inl (.cons a g)⟩
   ·exact .inr ⟨c,_,c'::cs',by simpa using l,first,.inr (.cons a g)⟩
theorem nl{t:List Str}(dw:DeadW (t.headD "")):∀(h d:Nat) (c:Cq),Good h d c ->
  (∀(n:Nat) (D:Int) (pre post:List Str),(13:Int)<=n+D->D+d+(if c.mny then 1 else 0)<=12->bt c.mny c.ws=pre++post->post≠[]->Dead pre t->∃res,XO n D (pre++t) res/\cu t res) /\
  (c.isOr=false->∀(n:Nat) (D:Int) (pre post:List Str),(13:Int)<=n+D->D+d<=12->c.ws=pre++post->post≠[]->Dead pre t->∃res,XM false (XO n) D (pre++t) res/\cu t res) /\
  (∀(n:Nat) (D:Int) (pre post:List Str),(13:Int)<=n+D->D+d<=12->c.ws=pre++post->post≠[]->Dead pre t->∃res,XM true (XM false (XO n)) D (pre++t) res/\cu t res)
 |0,d,c,g=>by cases g
 |h+1,d,c,g=>by
  have tA:t.headD ""≠orW false:=dw.n4;have tO:t.headD ""≠orW true:=dw.n5;have E:c.isOr=false->∀(n:Nat) (D:Int) (pre post:List Str),(13:Int)<=n+D->D+d<=12->c.ws=pre++post->post≠[]->Dead pre t->(c.mny=false->∃res,XO n D (pre++t) res/\cu t res)->∃res,XM false (XO n) D (pre++t) res/\cu t res:=fun no n D pre post hn hD e hp dd hu=>by
   cases hm:c.mny with
   |false =>obtain⟨res,a,s⟩:=hu hm;exact gj a s tA
   |true =>
    cases g with
    | «at» ok=>cases ok<;>cases hm
    |no=>cases hm
    |@many _ _ o cs h1 h2 g hd =>
     have no:o=false:=no;subst no;cases cs with
     |nil=>simp at h1
     |cons c1 cs =>
      rw[Cq.ws]at e;refine(kO (R:=XO n D) (o:=false) tA cs c1 pre post e hp dd fun x hx=>?_).m (by simp at h2;omega);have gx:=g x hx;have hb:=gx.brkA (t:=orW false) (by decide +kernel);have dx:=hd x hx;have hD':D+((d-(if brk x (orW false)then 1 else 0):Nat):Int)+(if x.mny then 1 else 0)<=12:=by rw[hb]at dx ⊢;split<;>(rename_i z;first|(have:=dx z;omega)|omega)
      rw[hb];rw[hb]at gx hD';exact⟨fun r' _=>(cA h _ x gx).1 n D r' hn hD',fun pre post e hp dd=>(nl dw h _ x gx).1 n D pre post hn hD' e hp dd⟩
  have S:∀(n:Nat) (D:Int) (pre post:List Str),(13:Int)<=n+D->D+d<=12->c.ws=pre++post->post≠[]->Dead pre t->(c.isOr=false->∃res,XM false (XO n) D (pre++t) res/\cu t res)->∃res,XM true (XM false (XO n)) D (pre++t) res/\cu t res:=fun n D pre post hn hD e hp dd hE=>by
   cases ho:c.isOr with
   |false =>obtain⟨res,a,s⟩:=hE ho;exact gj a s tO
   |true =>
    cases g with
    | «at» ok=>cases ok<;>cases ho
    |no=>cases ho
    |@many _ _ o cs h1 h2 g hd =>
     have ho:o=true:=ho;subst ho;cases cs with
     |nil=>simp at h1
     |cons c1 cs =>
      rw[Cq.ws]at e;refine(kO (R:=XM false (XO n) D) (o:=true) tO cs c1 pre post e hp dd fun x hx=>?_).m (by simp at h2;omega);have gx:=g x hx;have hb:brk x (orW true)=x.isOr:=gx.brkO;have dx:=hd x hx;have hra:∀r':List Str,(r'=t\/∃z,r'=orW true::z)->r'.headD ""≠"and":=by
       rintro r' (rfl|⟨z,rfl⟩)
       ·exact tA
       ·show¬(orW true="and");decide +kernel
      rw[hb]at dx gx ⊢;obtain⟨u,e1,_⟩:=cA h _ x gx;obtain⟨u',e1',_⟩:=nl dw h _ x gx;cases hx:x.isOr with
      |false =>rw[hx]at gx e1 e1';exact⟨fun r' hr'=>e1 rfl n D r' hn (by simp;omega) (hra r' hr'),fun pre post e hp dd=>e1' rfl n D pre post hn (by simp;omega) e hp dd⟩
      |true =>
       have hm:x.mny=true:=by
        cases hq:x.mny with
        |true=>rfl
        |false=>rw[gx.hds.2.2 hq]at hx;cases hx
       have:=dx hx;rw[hx]at u u';rw[hm]at u u';refine⟨fun r' hr'=>XM1 (o:=false) (u n D r' hn (by simp;omega)) (hra r' hr'),fun pre post e hp dd=>?_⟩;obtain⟨res,a,s⟩:=u' n D pre post hn (by simp;omega) e hp dd;exact gj a s tA
  have U:∀(n:Nat) (D:Int) (pre post:List Str),(13:Int)<=n+D->D+d<=12->c.mny=false->c.ws=pre++post->post≠[]->Dead pre t->∃res,XO n D (pre++t) res/\cu t res:=fun n D pre post hn hD hm e hp dd=>by
   obtain⟨n,rfl⟩:∃x,n=x+1:=⟨n-1,by omega⟩
   have hn':(13:Int)<=n+(D+1):=by omega
   cases pre with
   |nil=>exact⟨_,fc dw,.inl rfl⟩
   |cons y pre =>
    cases g with
    | «at» ok =>
     rw[kl ok,zU]at e;injection e with e1 e2;subst e1;by_cases nk:c.kind="nothing"
     ·rw[yn nk]at e2;exact absurd (zX.mp e2.symm).2 hp
     ·rw[ym nk]at e2;cases pre with
      |cons z pre =>rw[zU]at e2;injection e2 with _ e2;exact absurd (zX.mp e2.symm).2 hp
      |nil =>
       refine⟨.bad t,.inr (.inr ⟨fun _=>(dX ok).imp id fun z=>z.1,.bad2 c.hd c.kind t rfl (rL ok) nk dw.asc ?_⟩),.inl rfl⟩;cases ok with
       |w=>exact absurd rfl nk
       |num=>exact dw.fig
       |item=>exact dw.itm
       |says =>
        show(!decide (t.headD "" = ""))=false;rcases dd.s with z|z
        ·rw[decide_eq_true z];rfl
        ·exact absurd rfl z
    |@no _ e0 _ c' g he =>
     rw[Cq.ws,zU]at e;injection e with e1 e2;subst e1;have hb:brk c' aw=c'.mny:=g.brkA (by decide +kernel);rw[hb]at e2;obtain⟨res,a,s⟩:=(nl dw h _ c' g).1 n (D+1) pre post hn' (by split at he<;>simp_all<;>omega) e2 hp dd.tl;refine⟨noR res,.inl ⟨by split at he<;>omega,pre++t,res,rfl,a,rfl⟩,?_⟩;rcases s with rfl|⟨c2,rfl⟩
     ·exact .inl rfl
     ·exact .inr ⟨_,rfl⟩
    |many=>cases hm
  refine⟨fun n D pre post hn hD e hp dd=>?_,fun no n D pre post hn hD e hp dd=>E no n D pre post hn hD e hp dd fun hm=>U n D pre post hn hD hm e hp dd,fun n D pre post hn hD e hp dd=>S n D pre post hn hD e hp dd fun no=>E no n D pre post hn hD e hp dd fun hm=>U n D pre post hn hD hm e hp dd⟩;cases hm:c.mny with
  |false =>rw[hm]at e hD;exact U n D pre post hn (by simpa using hD) hm e hp dd
  |true =>
   rw[hm]at hD e;simp at hD;obtain⟨n,rfl⟩:∃x,n=x+1:=⟨n-1,by omega⟩
   cases pre with
   |nil=>exact⟨_,fc dw,.inl rfl⟩
   |cons y pre =>
    have e:opn::(c.ws++[cls])=y::(pre++post):=e;injection e with e1 e2;subst e1;have dd':=dd.tl;have fin:∀r0,XM true (XM false (XO n)) (D+1) (pre++t) r0->cu t r0->∃res,XO (n+1) D (opn::pre++t) res/\cu t res:=by
     intro r0 a s;refine⟨.bad t,.inr (.inl ⟨by omega,pre++t,r0,rfl,a,?_⟩),.inl rfl⟩;rcases s with rfl|⟨c2,rfl⟩
     ·exact .bad t
     ·exact .no c2 t dw.n3
    rcases ix (x:=cls) (s:=[]) e2 hp with⟨p,e3,np⟩|rfl|⟨p,_,e4⟩
    ·obtain⟨r0,a,s⟩:=S n (D+1) pre p (by omega) (by omega) e3 np dd' fun no=>E no n (D+1) pre p (by omega) (by omega) e3 np dd' fun hm'=>by rw[hm]at hm';cases hm'
     exact fin r0 a s
    ·exact fin _ ((cA (h+1) d c g).2.2 n (D+1) t (by omega) (by omega) tA tO) (.inr ⟨c,rfl⟩)
    ·exact absurd (zX.mp e4.symm).2 hp
def FW4:List Str:=["due","depth","beneath","says"]
def OP3:List Str:=["and","or","not"]
def aG:List Str->Bool->Int->Bool
 | [],w,d=>decide (d=0)&&!w
 | [x],w,d=>if x="by" then false else if x∈FW4 then false else if x=opn then decide (d+1=0)&&!w else if x=cls then decide (d-1=0)&&!w else decide (d=0)&&!decide (x∈OP3)
 |x::y::r,w,d=>if x="by" then true else if x∈FW4 then aG r false d else if x=opn then aG (y::r) w (d+1)else if x=cls then aG (y::r) w (d-1)else aG (y::r) (decide (x∈OP3)) d
theorem le{y:Str}{r:List Str}{w:Bool}{d:Int}:aG ("by"::y::r) w d=true:=by rw[aG,yn rfl]
theorem fm{x y:Str}{r:List Str}{w:Bool}{d:Int}(h:x∈FW4):aG (x::y::r) w d=aG r false d:=by rw[aG,ym,yn h];rintro rfl;revert h;decide +kernel
theorem lf{r:List Str}{w:Bool}{d:Int}:aG (opn::r) w d=aG r w (d+1):=by
 have a:opn≠"by":=by decide +kernel
 have b:opn∉FW4:=by decide +kernel
 cases r with
 |nil=>show(if opn="by" then false else if opn∈FW4 then false else if opn=opn then decide (d+1=0)&&!w else if opn=cls then decide (d-1=0)&&!w else decide (d=0)&&!decide (opn∈OP3))=(decide (d+1=0)&&!w);rw[ym a,ym b,yn rfl]
 |cons=>rw[aG,ym a,ym b,yn rfl]
theorem jO{r:List Str}{w:Bool}{d:Int}:aG (cls::r) w d=aG r w (d-1):=by
 have a:cls≠"by":=by decide +kernel
 have b:cls∉FW4:=by decide +kernel
 have c:cls≠opn:=by decide +kernel
 cases r with
 |nil=>show(if cls="by" then false else if cls∈FW4 then false else if cls=opn then decide (d+1=0)&&!w else if cls=cls then decide (d-1=0)&&!w else decide (d=0)&&!decide (cls∈OP3))=(decide (d-1=0)&&!w);rw[ym a,ym b,ym c,yn rfl]
 |cons=>rw[aG,ym a,ym b,ym c,yn rfl]
theorem ie{x:Str}{r:List Str}{w:Bool}{d:Int}(a:x≠"by")(b:x∉FW4)(c:x≠opn)(e:x≠cls):aG (x::r) w d=aG r (decide (x∈OP3)) d:=by
 cases r with
 |nil=>show(if x="by" then false else if x∈FW4 then false else if x=opn then decide (d+1=0)&&!w else if x=cls then decide (d-1=0)&&!w else decide (d=0)&&!decide (x∈OP3))=(decide (d=0)&&!decide (x∈OP3));rw[ym a,ym b,ym c,ym e]
 |cons=>rw[aG,ym a,ym b,ym c,ym e]
theorem pe{x:Str}{r:List Str}{w:Bool}{d:Int}(h:x∈OP3):aG (x::r) w d=aG r true d:=by
 have:∀x∈OP3,x≠"by"/\x∉FW4/\x≠opn/\x≠cls:=by decide +kernel
 obtain⟨a,b,c,e⟩:=this x h;rw[ie a b c e,decide_eq_true h]
theorem uN{c:Cq}{r:List Str}{w:Bool}{d:Int}(ok:AtOk c):aG (c.ws++r) w d=aG r false d:=by
 cases ok with
 |@w s h =>
  have:∀x∈W6,x≠"by"/\x∉FW4/\x≠opn/\x≠cls/\x∉OP3:=by decide +kernel
  obtain⟨a,b,c,e,f⟩:=this s h;rw[Cq.ws];show aG (s::r) w d=_;rw[ie a b c e,decide_eq_false f]
 |@num s n h =>rw[Cq.ws];exact fm (by rcases h with rfl|rfl<;>decide +kernel)
 |item =>rw[Cq.ws];exact fm (by decide +kernel)
 |says =>rw[Cq.ws];exact fm (by decide +kernel)
theorem rP{R:List Str->Res->Prop}{o:Bool}(hR:∀us c r w d,R us (.ok c r)->aG us w d=aG r false d):∀{us:List Str} {cs:List Cq} {r:List Str} {d:Int},XL R (orW o) us cs r->aG us false d=aG r false d
 |_,_,_,_,.nil _=>rfl
 |_,_,_,_,.cons h g=>by rw[pe (by cases o<;>decide +kernel),hR _ _ _ _ _ h];exact rP hR g
theorem kt{R:RX}{o:Bool}(hR:∀D us c r w d,R D us (.ok c r)->aG us w d=aG r false d){D:Int}{us:List Str}{c:Cq}{r:List Str}{w:Bool}{d:Int}(h:XM o R D us (.ok c r)):aG us w d=aG r false d:=by
 cases h with
 |ok c0 r0 cs _ h0 h1 h2 =>rw[hR _ _ _ _ _ _ h0];exact rP (fun us c r w d z=>hR _ us c r w d z) h1
theorem nC:∀(n:Nat) (D:Int) (us:List Str) (c:Cq) (r:List Str) (w:Bool) (d:Int),XO n D us (.ok c r)->aG us w d=aG r false d
 |0,_,_,_,_,_,_,h=>h.elim
 |n+1,D,us,c,r,w,d,h=>by
  rcases h with⟨_,us',r0,rfl,h,e⟩|⟨_,us',r0,rfl,h,e⟩|⟨_,h⟩
  ·rw[pe (by decide +kernel)];cases r0 with
   |bad=>cases e
   |ok c' r' =>cases e;exact nC n _ _ _ _ _ _ h
  ·cases e with
   |ok =>rw[lf,kt (fun D us c r w d z=>kt (fun D us c r w d z=>nC n D us c r w d z) z) h,jO];congr 1;omega
  ·cases h with
   |ok _ _ ok e=>rw[e];exact uN ok
abbrev XS:RX:=XM true (XM false (XO 13))
theorem wW{ws:List Str}{c:Cq}{key:Str}{back:Bool}(h:XQ XS ws (.ok c key back)):aG ws true 0=true:=by
 cases h with
 |ok _ r _ _ h t =>
  rw[kt (fun D us c r w d z=>kt (fun D us c r w d z=>nC 13 D us c r w d z) z) h];cases t with
  |none=>rfl
  |key=>exact le
  |back=>exact le
theorem pL{r:List Str}{key:Str}{back:Bool}(h:QTl r key back):r.headD ""≠"and"/\r.headD ""≠"or":=by cases h<;>(constructor<;>(simp only[List.headD_cons,List.headD_nil];decide +kernel))
theorem eR{h:Nat}{c:Cq}{r:List Str}(g:Good h 12 c)(h1:r.headD ""≠"and")(h2:r.headD ""≠"or"):XS 0 (c.ws++r) (.ok c r):=(cA h 12 c g).2.2 13 0 r (by decide) (by decide) h1 h2
theorem uJ{h:Nat}{c:Cq}{r:List Str}{key:Str}{back:Bool}(g:Good h 12 c)(t:QTl r key back):XQ XS (c.ws++r) (.ok c key back):=.ok c r key back (eR g (pL t).1 (pL t).2) t
theorem wQ{h:Nat}{c:Cq}{tl pre post t:List Str}{key:Str}{back:Bool}(g:Good h 12 c)(tq:QTl tl key back)(hk:tl≠[])(e:c.ws++tl=pre++post)(hp:post≠[])(dd:Dead pre t):XQ XS (pre++t) (.bad t)\/(t=[]/\∃c k b,XQ XS (pre++t) (.ok c k b)):=by
 have dw:=dd.w;have whole:XS 0 (c.ws++t) (.ok c t):=eR g dw.n4 dw.n5;have more:∀c',XS 0 (pre++t) (.ok c' t)->XQ XS (pre++t) (.bad t)\/(t=[]/\∃c k b,XQ XS (pre++t) (.ok c k b)):=fun c' a=>by
  by_cases z:t=[]
  ·refine .inr ⟨z,c',"place",false,.ok c' t _ _ a ?_⟩;rw[z];exact .none
  ·exact .inl (.more c' t a dw.n6 z)
 cases tl with
 |nil=>exact absurd rfl hk
 |cons x tl =>
  rcases ix e hp with⟨p,e1,np⟩|rfl|⟨p,rfl,e2⟩
  ·obtain⟨res,a,s⟩:=(nl dw h 12 c g).2.2 13 0 pre p (by decide) (by decide) e1 np dd;rcases s with rfl|⟨c',rfl⟩
   ·exact .inl (.bad0 t a)
   ·exact more c' a
  ·exact more c whole
  ·have xb:x="by":=by cases tq<;>rfl
   subst xb;have a:XS 0 (c.ws++("by":Str)::(p++t)) (.ok c (("by":Str)::(p++t))):=eR g (by show¬(("by":Str)="and");decide +kernel) (by show¬(("by":Str)="or");decide +kernel);rw[zp,zU];cases p with
   |nil=>exact .inl (.key c t a dw.key)
   |cons k p =>
    have hk5:k∈aJ:=by
     cases tq with
     |key h=>rw[zU]at e2;injection e2 with e2 _;rw[<-e2];exact h
     |back h=>rw[zU]at e2;injection e2 with e2 _;rw[<-e2];exact h
    have p0:p=[]:=by
     cases tq with
     |key h =>rw[zU]at e2;injection e2 with _ e2;exact absurd (zX.mp e2.symm).2 hp
     |back h =>
      rw[zU]at e2;injection e2 with _ e2;cases p with
      |nil=>rfl
      |cons y p =>rw[zU]at e2;injection e2 with _ e2;exact absurd (zX.mp e2.symm).2 hp
    subst p0;by_cases z:t=[]
    ·refine .inr ⟨z,c,k,false,.ok c _ _ _ a ?_⟩;rw[z];exact .key hk5
    ·exact .inl (.key2 c k t a hk5 dw.n7 z)
theorem uV{h:Nat}{c:Cq}{tl:List Str}{key x:Str}{back:Bool}(g:Good h 12 c)(tq:QTl tl key back)(hk:tl≠[])(hx:x≠"back"):XQ XS (c.ws++tl++[x]) (.bad [x]):=by
 cases tq with
 |none=>exact absurd rfl hk
 |key h =>rw[zp];exact .key2 c key [x] (eR g (by show¬(("by":Str)="and");decide +kernel) (by show¬(("by":Str)="or");decide +kernel)) h hx (by simp)
 |back h =>rw[zp];exact .back2 c key [x] (eR g (by show¬(("by":Str)="and");decide +kernel) (by show¬(("by":Str)="or");decide +kernel)) h (by simp)
theorem vq{h d:Nat}{c:Cq}{us r:List Str}(g:Good h d c)(hd:d<=12)(hb:XM false (XO 13) 0 us (.bad r)):XS 0 (c.ws++("or":Str)::us) (.bad r):=by
 have one:∀z,c.isOr=false->XM false (XO 13) 0 (c.ws++orW true::z) (.ok c (orW true::z)):=fun z no=>(cA h d c g).2.1 no 13 0 _ (by decide) (by omega) (by show¬(orW true="and");decide +kernel);cases ho:c.isOr with
 |false=>exact .bad c _ [] r (one us ho) (.here hb) (by simp)
 |true =>
  cases g with
  | «at» ok=>cases ok<;>cases ho
  |no=>cases ho
  |@many h _ o cs h1 h2 g hdd =>
   have ho:o=true:=ho;subst ho;cases cs with
   |nil=>simp at h1
   |cons c1 cs =>
    rw[Cq.ws];obtain⟨r0,a,b⟩:=oF (R:=XM false (XO 13) 0) (o:=true) hb cs c1 fun x hx z=>by
     have gx:=g x hx;have hbx:brk x (orW true)=x.isOr:=gx.brkO;have dx:=hdd x hx;have hra:(orW true::z).headD ""≠"and":=by show¬(orW true="and");decide +kernel
     rw[hbx]at dx gx ⊢;obtain⟨u,e1,_⟩:=cA h _ x gx;cases hx:x.isOr with
     |false =>rw[hx]at e1;exact e1 rfl 13 0 _ (by decide) (by simp;omega) hra
     |true =>
      have hm:x.mny=true:=by
       cases hq:x.mny with
       |true=>rfl
       |false=>rw[gx.hds.2.2 hq]at hx;cases hx
      have:=dx hx;rw[hx,hm]at u;exact XM1 (o:=false) (u 13 0 _ (by decide) (by simp;omega)) hra
    exact .bad c1 r0 cs r a b (by simp at h2;omega)
def jb(ns:List Str):Prop:=∀x∈ns,x=aw\/x=opn
theorem kX{us r:List Str}:∀(ns:List Str) (m:Nat) (D:Int),jb ns->D+ns.length<=12->XO m (D+ns.length) us (.bad r)->XO (m+ns.length) D (ns++us) (.bad r)
 | [],m,D,_,_,h=>by
  have e:D+(([]:List Str).length:Int)=D:=by simp
  rw[e]at h;exact h
 |x::ns,m,D,hn,hD,h=>by
  rw[zh]at hD h ⊢;have ih:=kX ns m (D+1) (fun y hy=>hn y (ze _ hy)) (by omega) (by rw[show D+1+(ns.length:Int)=D+((ns.length+1:Nat):Int) by omega];exact h);rcases hn x zi with rfl|rfl
  ·exact .inl ⟨by omega,ns++us,_,rfl,ih,rfl⟩
  ·exact .inr (.inl ⟨by omega,ns++us,_,rfl,.bad0 _ (.bad0 _ ih),.bad r⟩)
def bc:List Str->Cq->Cq
 | [],c=>c
 |x::ns,c=>if x=aw then .no (bc ns c)else bc ns c
def bh(ns:List Str):Nat:=(ns.filter fun x=>decide (x=opn)).length
theorem jm:∀(ns:List Str) (m:Nat) (D:Int) (r:List Str),jb ns->D+ns.length<=12->r.headD ""≠"and"->r.headD ""≠"or"->XO (m+1+ns.length) D (ns++(("all":Str)::(List.replicate (bh ns) cls++r))) (.ok (bc ns (.w "all")) r)
 | [],m,D,r,_,_,_,_=>.inr (.inr ⟨fun _=>by show¬(("all":Str)=aw)/\¬(("all":Str)=opn);decide +kernel,.ok (.w "all") r (.w (by decide +kernel)) rfl⟩)
 |x::ns,m,D,r,hn,hD,h1,h2=>by
  rw[zh]at hD ⊢;have hns:jb ns:=fun y hy=>hn y (ze _ hy);rcases hn x zi with rfl|rfl
  ·have e:bh (aw::ns)=bh ns:=by unfold bh;rw[Zm,ym (by decide +kernel)]
   have e2:bc (aw::ns) (.w "all")=.no (bc ns (.w "all")):=by show(if aw=aw then _ else _)=_;rw[yn rfl]
   rw[e,e2];exact .inl ⟨by omega,_,_,rfl,jm ns m (D+1) r hns (by omega) h1 h2,rfl⟩
  ·have e:bh (opn::ns)=bh ns+1:=by unfold bh;rw[Zm,yn (by decide +kernel)];rfl
   have e2:bc (opn::ns) (.w "all")=bc ns (.w "all"):=by show(if opn=aw then _ else _)=_;rw[ym (by decide +kernel)]
   have c1:(cls::r).headD ""≠"and":=by show¬(cls="and");decide +kernel
   have c2:(cls::r).headD ""≠"or":=by show¬(cls="or");decide +kernel
   have e3:List.replicate (bh ns+1) cls++r=List.replicate (bh ns) cls++cls::r:=by rw[List.replicate_succ',zp];rfl
   rw[e,e2,e3];refine .inr (.inl ⟨by omega,_,_,rfl,XM1 (o:=true) (XM1 (o:=false) (jm ns m (D+1) (cls::r) hns (by omega) c1 c2) c1) c2,?_⟩);exact .ok _ r
theorem eT{s:Str}:∀{a b:List Str},a≠[]->b≠[]->(Str.join s (a++b)).cps.toList=(Str.join s a).cps.toList++(s.cps.toList++(Str.join s b).cps.toList)
 | [],_,h,_=>absurd rfl h
 |_,[],_,h=>absurd rfl h
 | [x],y::b,_,_=>by show(x++s++Str.join s (y::b)).cps.toList=_;rw[aE,aE,zp];rfl
 |x::x2::a,y::b,_,_=>by have ih:=eT (s:=s) (a:=x2::a) (b:=y::b) (by simp) (by simp);show(x++s++Str.join s (x2::a++y::b)).cps.toList=(x++s++Str.join s (x2::a)).cps.toList++_;rw[aE,aE,ih,aE,aE];simp only[zp]
theorem sB{ws:List Str}(h:ws≠[]):Str.join aP (bt true ws)=("( ":Str)++Str.join aP ws++(" )":Str):=by
 refine cF ?_;show(Str.join aP ([opn]++(ws++[cls]))).cps.toList=_;rw[eT (by simp) (by simp),eT h (by simp),aE,aE];have e1:("( ":Str).cps.toList=opn.cps.toList++aP.cps.toList:=by decide +kernel
 have e2:(" )":Str).cps.toList=aP.cps.toList++cls.cps.toList:=by decide +kernel
 rw[e1,e2];show opn.cps.toList++_=_;simp only[zp];rfl
theorem qS{ws:List Str}(h:ws≠[]):Str.join aP (aw::ws)=("not ":Str)++Str.join aP ws:=by
 refine cF ?_;show(Str.join aP ([aw]++ws)).cps.toList=_;rw[eT (by simp) h,aE];have e1:("not ":Str).cps.toList=aw.cps.toList++aP.cps.toList:=by decide +kernel
 rw[e1,zp];rfl
def Cq.lineIn(t:Str)(c:Cq):Str:=Str.join aP (bt (brk c t) c.ws)
theorem jo{b:Bool}{ws:List Str}(h:ws≠[]):bt b ws≠[]:=by
 cases b
 ·exact h
 ·exact List.cons_ne_nil _ _
theorem qg{o:Bool}:∀{cs:List Cq},cs≠[]->(∀c∈cs,c.ws≠[])->Cq.wsL o cs≠[]
 | [],h,_=>absurd rfl h
 | [c],_,h=>by rw[Cq.wsL];exact jo (h c zi)
 |c::d::cs,_,h=>by rw[Cq.wsL];simp
theorem lX{o:Bool}:∀{cs:List Cq},cs≠[]->(∀c∈cs,c.ws≠[])->Str.join aP (Cq.wsL o cs)=Str.join ((" ":Str)++orW o++(" ":Str)) (cs.map (Cq.lineIn (orW o)))
 | [],h,_=>absurd rfl h
 | [c],_,h=>by rw[Cq.wsL];rfl
 |c::d::cs,_,h=>by have ih:=lX (o:=o) (cs:=d::cs) (by simp) fun x hx=>h x (ze _ hx);have n:=qg (o:=o) (cs:=d::cs) (by simp) fun x hx=>h x (ze _ hx);rw[Cq.wsL];refine cF ?_;rw[eT (jo (h c zi)) (by simp)];rw[show orW o::Cq.wsL o (d::cs)=[orW o]++Cq.wsL o (d::cs)from rfl,eT (by simp) n,ih];show _=(Cq.lineIn (orW o) c++((" ":Str)++orW o++(" ":Str))++Str.join ((" ":Str)++orW o++(" ":Str)) ((d::cs).map (Cq.lineIn (orW o)))).cps.toList;rw[aE,aE,aE,aE];simp only[zp];rfl
def Wd(x:Str):Prop:=x.length<=130/\32∉x.cps.toList
theorem dJ:∀{ws:List Str},(∀x∈ws,Wd x)->(Str.join aP ws).length<=131*ws.length
 | [],_=>zd 0
 | [x],h=>by have:x.length<=130:=(h x zi).1;show x.length<=131*1;omega
 |x::y::ws,h=>by have ih:=dJ (ws:=y::ws) fun z hz=>h z (ze _ hz);have:x.length<=130:=(h x zi).1;show(x++aP++Str.join aP (y::ws)).length<=131*(ws.length+1+1);rw[z4,z4];have:aP.length=1:=rfl;simp only[zh]at ih;omega
theorem gS{b:Bool}{ws:List Str}(h:∀x∈ws,Wd x):∀x∈bt b ws,Wd x:=by
 intro x hx;cases b with
 |false=>exact h x hx
 |true =>
  have hx:x∈opn::(ws++[cls]):=hx;rcases zl.mp hx with rfl|hx
  ·exact⟨by decide +kernel,by decide +kernel⟩
  ·rcases zy.mp hx with hx|hx
   ·exact h x hx
   ·rw[zk.mp hx];exact⟨by decide +kernel,by decide +kernel⟩
theorem xD(o:Bool):Wd (orW o):=by cases o<;>exact⟨by decide +kernel,by decide +kernel⟩
theorem wu{o:Bool}:∀{cs:List Cq},(∀c∈cs,∀x∈c.ws,Wd x)->∀x∈Cq.wsL o cs,Wd x
 | [],_,x,hx=>by rw[Cq.wsL]at hx;cases hx
 | [c],h,x,hx=>by rw[Cq.wsL]at hx;exact gS (h c zi) x hx
 |c::d::cs,h,x,hx=>by
  rw[Cq.wsL]at hx;rcases zy.mp hx with hx|hx
  ·exact gS (h c zi) x hx
  ·rcases zl.mp hx with rfl|hx
   ·exact xD o
   ·exact wu (fun z hz=>h z (ze _ hz)) x hx
theorem jq(i:Int){k:Nat}(h:k≠45)(h1:k<48\/57<k):k∉(az i).cps.toList:=fun z=>by have:=fi i k z;omega
theorem AtOk.words{c:Cq}(ok:AtOk c):c.ws≠[]/\∀x∈c.ws,Wd x:=by
 cases ok with
 |@w s h =>
  have:∀s∈W6,s.length<=130/\32∉s.cps.toList:=by decide +kernel
  exact⟨by simp[Cq.ws],fun x hx=>by rw[Cq.ws]at hx;rw[zk.mp hx];exact this s h⟩
 |@num s n h h0 h1 =>
  refine⟨by simp[Cq.ws],fun x hx=>?_⟩;rw[Cq.ws]at hx;simp only[zl,zK,Zl]at hx;rcases hx with rfl|rfl
  ·rcases h with rfl|rfl<;>exact⟨by decide +kernel,by decide +kernel⟩
  ·exact⟨zm h1.len (by decide),jq n (by decide) (by decide)⟩
 |@item x y h0 h1 h2 h3 =>
  refine⟨by simp[Cq.ws],fun z hz=>?_⟩;rw[Cq.ws]at hz;simp only[zl,zK,Zl]at hz;rcases hz with rfl|rfl
  ·exact⟨by decide +kernel,by decide +kernel⟩
  ·refine⟨zm (ii h2 h3) (by decide),?_⟩;rw[aE,aE];intro q;rcases zy.mp q with q|q
   ·rcases zy.mp q with q|q
    ·exact jq x (by decide) (by decide) q
    ·revert q;decide +kernel
   ·exact jq y (by decide) (by decide) q
 |@says t h0 h1 h2 =>
  refine⟨by simp[Cq.ws],fun z hz=>?_⟩;rw[Cq.ws]at hz;simp only[zl,zK,Zl]at hz;rcases hz with rfl|rfl
  ·exact⟨by decide +kernel,by decide +kernel⟩
  ·exact⟨zm h1 (by decide),h2⟩
theorem Good.words{h d:Nat}{c:Cq}(g:Good h d c):c.ws≠[]/\∀x∈c.ws,Wd x:=by
 induction g with
 | «at» ok=>exact ok.words
 |no g hd ih =>
  rw[Cq.ws];refine⟨by simp,fun x hx=>?_⟩;rcases zl.mp hx with rfl|hx
  ·exact⟨by decide +kernel,by decide +kernel⟩
  ·exact gS ih.2 x hx
 |many h1 h2 g hd ih =>rw[Cq.ws];exact⟨qg (fun z=>by rw[z]at h1;simp at h1) fun c hc=>(ih c hc).1,wu fun c hc=>(ih c hc).2⟩
theorem mT{o:Bool}:∀{cs:List Cq},(∀c∈cs,∀x∈c.ws,Wd x)->((cs.map (Cq.lineIn (orW o))).map (·.length)).sum<=131*(Cq.wsL o cs).length
 | [],_=>by simp
 | [c],h=>by have:=dJ (gS (b:=brk c (orW o)) (h c zi));rw[Cq.wsL];simp only[zA,List.map_nil,List.sum_cons,List.sum_nil];exact this
 |c::d::cs,h=>by have a:=dJ (gS (b:=brk c (orW o)) (h c zi));have ih:=mT (o:=o) (cs:=d::cs) fun z hz=>h z (ze _ hz);rw[Cq.wsL,zb,zh,zA,zA,List.sum_cons];have a:(Cq.lineIn (orW o) c).length<=_:=a;omega
theorem mS{o:Bool}:∀{cs:List Cq} {c:Cq},c∈cs->(bt (brk c (orW o)) c.ws).length<=(Cq.wsL o cs).length
 | [],_,h=>by cases h
 | [c],x,h=>by rw[Cq.wsL,zk.mp h];exact zd _
 |c::d::cs,x,h=>by
  rw[Cq.wsL,zb,zh];rcases zl.mp h with rfl|h
  ·omega
  ·have:=mS (o:=o) h;omega
theorem mD{b:Bool}{ws:List Str}:ws.length<=(bt b ws).length:=by
 cases b
 ·exact zd _
 ·show ws.length<=(ws++[cls]).length+1;rw[zb];omega
theorem CqsAt.get{H:Hp}:∀{vs:List V} {cs:List Cq} {i:Nat} {v:V},CqsAt H vs cs->vs[i]?=some v->∃c,cs[i]?=some c/\CqAt H v c
 |_,_,0,_,.cons h t,e=>by cases e;exact⟨_,rfl,h⟩
 |_,_,i+1,_,.cons h t,e=>t.get (i:=i) e
 |_,_,_,_,.nil,e=>by cases e
theorem rp(l:List Str):(List.range l.length).map (fun i=>V.str ((l[i]?).getD ""))=l.map V.str:=by refine List.ext_getElem (by simp) fun i h1 h2=>?_;rw[za]at h2;simp[h2]
inductive spWC(n:Nat)(vs:List V)(H:Hp)(Q:VK)(E_:XK):Prop
 |mk (v:V) (c:Cq) (d:Nat) (h0:vs=[v]) (h1:CqAt H v c) (h2:Good n d c) (h3:c.ws.length<=2000) (h4:∀H',Same H H'->Q (.str c.line) H'):spWC n vs H Q E_
inductive spWW(n:Nat)(vs:List V)(H:Hp)(Q:VK)(E_:XK):Prop
 |mk (v:V) (c:Cq) (d:Nat) (t:Str) (h0:vs=[v,.str t]) (h1:CqAt H v c) (h2:Good n d c) (h3:c.ws.length<=2000) (h4:∀H',Same H H'->Q (.str (c.lineIn t)) H'):spWW n vs H Q E_
theorem Good.lineLen{h d:Nat}{c:Cq}(g:Good h d c)(l:c.ws.length<=2000):c.line.length<=262000:=by have:=dJ g.words.2;have e:c.line.length<=131*c.ws.length:=this;omega
theorem Good.inLen{h d:Nat}{c:Cq}{t:Str}(g:Good h d c)(l:c.ws.length<=2000):(c.lineIn t).length<=262300:=by
 have:=dJ (gS (b:=brk c t) g.words.2);have e:(c.lineIn t).length<=131*(bt (brk c t) c.ws).length:=this;have:(bt (brk c t) c.ws).length<=c.ws.length+2:=by
  cases brk c t
  ·exact Nat.le_add_right _ 2
  ·show(c.ws++[cls]).length+1<=_;rw[zb];exact zd _
 omega
theorem bF{n:Nat}(h:n<=1000000):n<=sizeLine:=zm h (by rw[sizeLine_eq];decide)
abbrev jy:Stmt:=top 37
abbrev si:List Str:=["_law_condition","_law_around","_law_line_here"]
theorem lR:FnScope si ["_law_condition","_law_around"] (ah jy):=⟨rfl,rfl,rfl,by decide +kernel,rfl,by decide +kernel,by decide +kernel⟩
theorem qU{k n:Nat}{f:Addr}{fd:FuncData}(F:Fun K "_law_inner" "_law_inner" jy f fd)(n8:Fn P w K mg base k "_law_line" ["_law_condition"] (spWC n)):FnOk P w K mg base CX0 (k+1) f fd ["_law_condition","_law_around"] (spWW n):=by
 refine F.okQ lR (fun vs H Q E h=>?_) (fun cdv A outer s H vs Q E hr h=>?_)
 ·obtain⟨v,c,d,t,rfl,_⟩:=h;rfl
 obtain⟨v,c,d,t,rfl,hc,g,hl,q⟩:=h;refine⟨_,(b_c (am (i:=2) lR.nd (aH n8 (hr.mono (by omega)) (q_a (q_v 0) ae)))
   (b_c (ar (t_w (cP (ak aI (aD bK (q_v 0) af) ad) (dB (t_w (cV (ak aI (aD bK (q_v 0) af) ad) (cH (ak nM (q_v 1) ad))))))) (b_1 (aj (ai bN (ai bN ad (q_v 2)) ad))) b_0)
   (b_1 (aj (q_v 2))))),?_⟩
 obtain⟨a,xs,rfl,e⟩:=hc.head;refine⟨_,rfl,_,c,d,rfl,hc,g,hl,fun H1 s1=>?_⟩;have e1:=s1 _ _ e;have q:=q _ s1;have hb:c.lineIn t=Str.join aP (bt (decide (c.hd="or") ||(decide (c.hd="and")&&!decide (t="or"))) c.ws):=rfl;rw[hb]at q;have fin:Q (.str (Str.join aP (bt true c.ws))) H1->∀R:VK,R=Q->tOp (fun x y H Q=>∃i j,x=.str i/\y=.str j/\i.length+j.length<=sizeLine/\Q (.str (i++j)) H) (tOp (fun x y H Q=>∃i j,x=.str i/\y=.str j/\i.length+j.length<=sizeLine/\Q (.str (i++j)) H) (tC (.str "( ")) (tVar 2)) (tC (.str " )")) [some (.ref a),some (.str t),some (.str c.line)] H1 R:=by
  rintro z R rfl;have l1:=g.lineLen hl;refine⟨_,rfl,_,_,rfl,rfl,bF ?_,_,_,rfl,rfl,bF ?_,?_⟩
  ·have:("( ":Str).length=2:=rfl;omega
  ·have:("( ":Str).length=2:=rfl;have:(" )":Str).length=2:=rfl;rw[z4];omega
  ·rw[sB g.words.1]at z;exact z
 refine⟨_,rfl,a,_,_,_,rfl,rfl,SqT.of e1,at0,⟨rfl,⟨_,rfl,aZ (fun c1=>?_) (fun c1=>?_)⟩⟩⟩
 ·rw[decide_eq_true (show c.hd="or" by injection c1)]at q;exact aX (fin q _ rfl)
 rw[decide_eq_false (fun z=>c1 (by rw[z]))]at q;refine⟨_,rfl,a,_,_,_,rfl,rfl,SqT.of e1,at0,⟨rfl,⟨_,rfl,aZ (fun c2=>?_) (fun c2=>?_)⟩⟩⟩
 ·rw[decide_eq_true (show c.hd="and" by injection c2)]at q;refine⟨_,rfl,⟨rfl,⟨_,rfl,?_⟩⟩⟩;by_cases c3:t="or"
  ·rw[decide_eq_true c3]at q;rw[c3,decide_eq_true rfl];exact aq ⟨_,rfl,q⟩
  ·rw[decide_eq_false c3]at q;rw[decide_eq_false (fun z=>c3 (by injection z))];exact aX (fin q _ rfl)
 ·rw[decide_eq_false (fun z=>c2 (by rw[z]))]at q;exact aq ⟨_,rfl,q⟩
theorem tj(s:Str)(l:List Str):Txt.join s l=Str.join s l:=StrLaws.glued_eq_join _ _
theorem qO{h d:Nat}{o:Bool}{cs:List Cq}{sep:Str}(g:Good h d (.many o cs))(hl:(Cq.many o cs).ws.length<=2000)(hs:sep.length<=10):((cs.map (Cq.lineIn (orW o))).map (·.length)).sum+(cs.map (Cq.lineIn (orW o))).length*sep.length<=16777216:=by
 cases g with
 | «at» ok=>cases ok
 |many h1 h2 g hd =>have a:=mT (o:=o) (cs:=cs) fun c hc=>(g c hc).words.2;rw[Cq.ws]at hl;rw[za];have:cs.length*sep.length<=90*10:=Nat.mul_le_mul h2 hs;omega
theorem Good.parts{h d:Nat}{o:Bool}{cs:List Cq}(g:Good (h+1) d (.many o cs))(hl:(Cq.many o cs).ws.length<=2000):cs≠[]/\cs.length<=90/\∀c∈cs,(∃e,Good h e c)/\c.ws.length<=2000:=by
 cases g with
 | «at» ok=>cases ok
 |many h1 h2 g hd =>refine⟨fun z=>by rw[z]at h1;simp at h1,h2,fun c hc=>⟨⟨_,g c hc⟩,?_⟩⟩;rw[Cq.ws]at hl;exact zm mD (zm (mS (o:=o) hc) hl)
theorem Good.manyLine{h d:Nat}{o:Bool}{cs:List Cq}(g:Good (h+1) d (.many o cs)):(Cq.many o cs).line=Str.join ((" ":Str)++orW o++(" ":Str)) (cs.map (Cq.lineIn (orW o))):=by
 have w:=g.words;cases g with
 | «at» ok=>cases ok
 |many h1 h2 g hd =>unfold Cq.line;rw[Cq.ws];exact lX (fun z=>by rw[z]at h1;simp at h1) fun c hc=>(g c hc).words.1
theorem ud(o:Bool):((" ":Str)++orW o++(" ":Str)).length<=10:=by cases o<;>decide +kernel
theorem Good.noPart{h d:Nat}{c:Cq}(g:Good (h+1) d (.no c))(hl:(Cq.no c).ws.length<=2000):(∃e,Good h e c)/\c.ws.length<=2000/\(Cq.no c).line=("not ":Str)++c.lineIn aw:=by
 cases g with
 | «at» ok=>cases ok
 |no g hd =>
  refine⟨⟨_,g⟩,?_,?_⟩
  ·rw[Cq.ws,zh]at hl;have:=mD (b:=brk c aw) (ws:=c.ws);omega
  ·unfold Cq.line;rw[Cq.ws];exact qS (jo g.words.1)
theorem Good.w6{h d:Nat}{s:Str}(g:Good h d (.w s)):s∈W6:=by
 cases g with
 | «at» ok=>cases ok;assumption
theorem Good.at'{h d:Nat}{c:Cq}(g:Good h d c)(h1:c.mny=false)(h2:c.hd≠"not"):AtOk c:=by
 cases g with
 | «at» ok=>exact ok
 |no=>exact absurd rfl h2
 |many=>cases h1
theorem uB:¬(V.str (orW false)=V.str "or"):=by decide +kernel
theorem rA(o:Bool):(" ":Str).length+(orW o).length<=sizeLine:=by cases o<;>decide +kernel
theorem rB(o:Bool):((" ":Str)++orW o).length+(" ":Str).length<=sizeLine:=by cases o<;>decide +kernel
theorem xh:¬(V.str aw=V.str "or"):=by decide +kernel
theorem uW:¬(V.str aw=V.str "and"):=by decide +kernel
theorem wY:¬(V.str "says" = V.str "beneath"):=by decide +kernel
abbrev lN:Stmt:=top 38
abbrev uq:List Str:=["_law_condition","_law_word"]
theorem mK:FnScope uq ["_law_condition"] (ah lN):=⟨rfl,rfl,rfl,by decide +kernel,rfl,by decide +kernel,by decide +kernel⟩
theorem sW{k n:Nat}{f:Addr}{fd:FuncData}(hk:1<=k)(F:Fun K "_law_line" "_law_line" lN f fd)(yg:Fn P w K mg base k "_law_inner" ["_law_condition","_law_around"] (spWW n))(dg:PySem.W.nsIn K cStatics "sys.int_max_str_digits" = some none)(v5:mg "str" = none)(a5:mg "len" = none):FnOk P w K mg base CX0 (k+1) f fd ["_law_condition"] (spWC (n+1)):=by
 refine F.okQ mK (fun vs H Q E h=>?_) (fun cdv A outer s H vs Q E hr h=>?_)
 ·obtain⟨v,c,d,rfl,_⟩:=h;rfl
 obtain⟨v,c,d,rfl,hc,g,hl,q⟩:=h;refine⟨_,(b_c (am (i:=1) mK.nd (aD bK (q_v 0) af))
   (b_c (ar (t_w (cP (ak aI (q_v 1) ad) (dB (ak aI (q_v 1) ad)))) (b_1 (aj (pM (ai bN (ai bN ad (q_v 1)) ad) (iT (own:=["_law_part"]) (⟨rfl,by decide +kernel,by decide +kernel,rfl,⟨rfl,rfl,trivial⟩⟩:CompOk _ _ [1] ["_law_word"]) rfl (wU (aD bK (q_v 0) af)) (fun _ _ _ _=>br (i:=0) (show (["_law_part","_law_word"]:List Str).Nodup by decide +kernel)) (cn (by decide)) (fun _ _ _ _=>nB) (fun _ _ _ _=>(aH yg (hr.mono (by omega)) (q_a (q_v 0) (q_a (q_v 1) ae)))))))) b_0)
   (b_c (ar (ak aI (q_v 1) ad) (b_1 (aj (ai bN ad (aH yg (hr.mono (by omega)) (q_a (aD bK (q_v 0) af) (q_a (q_v 1) ae)))))) b_0)
   (b_c (ar (ak aI (q_B bf a5 zB (q_a (q_v 0) ae)) af) (b_1 (aj (q_v 1))) b_0)
   (b_c (ar (ak aI (q_v 1) ad) (b_1 (aj (ai bN (ai bN (ai bN ad (db (jh (K:=K) rfl rfl dg) v5 hW (q_a (aD bK (aD bK (q_v 0) af) af) ae))) ad) (db (jh (K:=K) rfl rfl dg) v5 hW (q_a (aD bK (aD bK (q_v 0) af) af) ae))))) b_0)
   (b_1 (aj (ai bN (ai bN (q_v 1) ad) (db (jh (K:=K) rfl rfl dg) v5 hW (q_a (aD bK (q_v 0) af) ae)))))))))),?_⟩
 obtain⟨a,xs,rfl,e⟩:=hc.head;refine⟨_,rfl,a,_,_,_,rfl,rfl,SqT.of e,at0,?_⟩;have atom:AtOk c->∀{A B:Prop},B->if decide (V.str c.hd=V.str "or")=true then A else B:=fun ok _ _ hB=>bA (fun z=>(dX ok).2.2.1 (by injection z)) hB
 have atom2:AtOk c->∀{A B:Prop},B->if decide (V.str c.hd=V.str "and")=true then A else B:=fun ok _ _ hB=>bA (fun z=>(dX ok).2.2.2 (by injection z)) hB
 have atom3:AtOk c->∀{A B:Prop},B->if decide (V.str c.hd=V.str "not")=true then A else B:=fun ok _ _ hB=>bA (fun z=>(dX ok).1 (by injection z)) hB
 cases hc with
 |@w _ s h =>have ok:AtOk (.w s):=.w g.w6;refine⟨_,rfl,rfl,⟨_,rfl,atom ok ⟨_,rfl,rfl,⟨_,rfl,atom2 ok ⟨_,rfl,rfl,⟨_,rfl,atom3 ok ?_⟩⟩⟩⟩⟩⟩;exact⟨_,rfl,a,_,rfl,.inr (SqT.of h),rfl,⟨_,rfl,bO rfl ⟨_,rfl,q _ (Same.refl _)⟩⟩⟩
 |@num _ s m h =>
  have ok:AtOk (.num s m):=g.at' rfl (by cases g with|«at» ok=>exact(dX ok).1);refine⟨_,rfl,rfl,⟨_,rfl,atom ok ⟨_,rfl,rfl,⟨_,rfl,atom2 ok ⟨_,rfl,rfl,⟨_,rfl,atom3 ok ?_⟩⟩⟩⟩⟩⟩;refine⟨_,rfl,a,_,rfl,.inr (SqT.of h),rfl,⟨_,rfl,bA (by show¬(V.int 2=V.int 1);decide) ?_⟩⟩;cases ok with
  |num hs h0 h1 =>
  refine⟨_,rfl,rfl,⟨_,rfl,bA ?_ ?_⟩⟩
  ·rcases hs with rfl|rfl
   ·show¬(V.str "due" = V.str "beneath");decide +kernel
   ·show¬(V.str "depth" = V.str "beneath");decide +kernel
  have ls:s.length<=5:=by rcases hs with rfl|rfl<;>decide +kernel
  have:=h1.len;refine⟨_,rfl,_,_,rfl,rfl,bF ?_,_,rfl,a,_,_,_,rfl,rfl,SqT.of h,at1,.int m rfl h1.big ⟨_,_,rfl,rfl,bF ?_,q _ (Same.refl _)⟩⟩
  ·show s.length+1<=_;omega
  ·rw[z4];show s.length+1+_<=_;omega
 |@item _ b x y h h1 =>
  have ok:AtOk (.item x y):=g.at' rfl (by show¬(("beneath":Str)="not");decide +kernel);refine⟨_,rfl,rfl,⟨_,rfl,atom ok ⟨_,rfl,rfl,⟨_,rfl,atom2 ok ⟨_,rfl,rfl,⟨_,rfl,atom3 ok ?_⟩⟩⟩⟩⟩⟩;refine⟨_,rfl,a,_,rfl,.inr (SqT.of h),rfl,⟨_,rfl,bA (by show¬(V.int 2=V.int 1);decide) ?_⟩⟩;cases ok with
  |item h2 h3 h4 h5 =>
  have lx:=h4.len;have ly:=h5.len;have lb:("beneath ":Str).length=8:=by decide +kernel
  have ld:(".":Str).length=1:=rfl;refine⟨_,rfl,rfl,⟨_,rfl,bO rfl ?_⟩⟩;refine⟨_,rfl,a,_,_,_,rfl,rfl,SqT.of h,at1,b,_,_,_,rfl,rfl,SqT.of h1,at0,.int x rfl h4.big ⟨_,_,rfl,rfl,bF (by omega),_,_,rfl,rfl,bF (by rw[z4];omega),?_⟩⟩;refine⟨_,rfl,a,_,_,_,rfl,rfl,SqT.of h,at1,b,_,_,_,rfl,rfl,SqT.of h1,at1,.int y rfl h5.big ⟨_,_,rfl,rfl,bF (by rw[z4,z4];omega),?_⟩⟩;have el:(Cq.item x y).line=("beneath ":Str)++az x++"."++az y:=by
   refine cF ?_;show(("beneath":Str)++(" ":Str)++bX x y).cps.toList=_;unfold bX;simp only[aE,zp];have:("beneath ":Str).cps.toList=("beneath":Str).cps.toList++(" ":Str).cps.toList:=by decide +kernel
   rw[this,zp]
  rw[el]at q;exact q _ (Same.refl _)
 |@says _ t h =>
  have ok:AtOk (.says t):=g.at' rfl (by show¬(("says":Str)="not");decide +kernel);refine⟨_,rfl,rfl,⟨_,rfl,atom ok ⟨_,rfl,rfl,⟨_,rfl,atom2 ok ⟨_,rfl,rfl,⟨_,rfl,atom3 ok ?_⟩⟩⟩⟩⟩⟩;refine⟨_,rfl,a,_,rfl,.inr (SqT.of h),rfl,⟨_,rfl,bA (by show¬(V.int 2=V.int 1);decide) ?_⟩⟩;cases ok with
  |says h2 h3 h4 =>
  refine⟨_,rfl,rfl,⟨_,rfl,bA wY ?_⟩⟩;refine⟨_,rfl,_,_,rfl,rfl,(show("says":Str).length+(" ":Str).length<=sizeLine by decide +kernel),_,rfl,a,_,_,_,rfl,rfl,SqT.of h,at1,.str t rfl ⟨_,_,rfl,rfl,bF ?_,q _ (Same.refl _)⟩⟩;have:(("says":Str)++(" ":Str)).length=5:=by decide +kernel
  show(("says":Str)++(" ":Str)).length+_<=_;omega
 |@no _ v c h h1 =>obtain⟨⟨e',g'⟩,hl',el⟩:=g.noPart hl;refine⟨_,rfl,rfl,⟨_,rfl,bA xh ⟨_,rfl,rfl,⟨_,rfl,bA uW ⟨_,rfl,rfl,⟨_,rfl,bO rfl ?_⟩⟩⟩⟩⟩⟩;refine⟨_,rfl,a,_,_,_,rfl,rfl,SqT.of h,at1,_,rfl,v,c,e',aw,rfl,h1,g',hl',fun H1 s1=>?_⟩;have:=g'.inLen (t:=aw) hl';rw[el]at q;exact⟨_,_,rfl,rfl,bF (by show 4+_<=_;omega),q _ s1⟩
 |@many _ b o vs cs h h1 h2 =>
  obtain⟨ne,l90,hp⟩:=g.parts hl;rw[g.manyLine]at q;have lv:=h2.len;have fit:=qO g hl (ud o);have lL:(cs.map (Cq.lineIn (orW o))).length=cs.length:=za _;have eL:∀i c,cs[i]?=some c->((cs.map (Cq.lineIn (orW o)))[i]?).getD ("":Str)=Cq.lineIn (orW o) c:=fun i c ec=>by rw[zL,ec];rfl
  generalize cs.map (Cq.lineIn (orW o))=L at q fit lL eL;refine⟨_,rfl,rfl,⟨_,rfl,?_⟩⟩;cases o
  case' true=>refine bO rfl (aX ?_)
  case' false=>refine bA uB ⟨_,rfl,rfl,⟨_,rfl,bO rfl ?_⟩⟩
  case true|false =>
   refine⟨_,rfl,_,_,rfl,rfl,rA _,_,_,rfl,rfl,rB _,rfl,_,rfl,a,_,_,_,rfl,rfl,SqT.of h,at1,b,rfl,⟨_,SqT.of h1⟩,?_⟩;refine qy (fun i=>.str ((L[i]?).getD ("":Str))) (by omega) (SqT.of h1) (fun i x H1 hi sm R k=>?_) (fun p H1 sm hp'=>?_)
   ·obtain⟨c,ec,hc⟩:=h2.get hi;obtain⟨⟨e',g'⟩,hl'⟩:=hp c (Zj ec);rw[eL i c ec]at k;exact⟨_,rfl,_,rfl,x,c,e',_,rfl,hc.ts fun a zs e=>sm _ _ e,g',hl',k⟩
   ·rw[show vs.length=L.length by rw[lL,lv],rp];refine⟨_,p,L,rfl,rfl,SqL.of aa,fit,?_⟩;rw[tj];exact q _ (sm.trans (ac hp' _))
abbrev fX:Stmt:=top 32
abbrev on:List Str:=["_law_script","_law_k"]
theorem nY:FnScope on ["_law_script","_law_k"] (ah fX):=⟨rfl,rfl,rfl,by decide +kernel,rfl,by decide +kernel,by decide +kernel⟩
theorem nN{f:Addr}{fd:FuncData}(F:Fun K "_law_cell_at" "_law_cell_at" fX f fd)(a5:mg "len" = none):FnOk P w K mg base CX0 1 f fd ["_law_script","_law_k"] (pV K):=by
 refine F.okQ nY (fun vs H Q E h=>?_) (fun cdv A outer s H vs Q E hr h=>?_)
 ·obtain⟨a,ns,k,rfl,_⟩:=h;rfl
 obtain⟨a,ns,k,rfl,hS,h0,q⟩:=h;refine⟨_,(b_c (ar (ak fQ (q_v 1) (q_B bf a5 zB (q_a (q_v 0) ae))) (b_1 (aj (aD aF (q_v 0) (q_v 1)))) b_0)
   (b_1 (aj af))),?_⟩
 refine⟨_,rfl,_,rfl,a,_,rfl,.inl hS,_,_,rfl,rfl,_,rfl,?_⟩;refine uO (fun c=>?_) (fun c=>?_)
 ·have c':k<((ns.map V.int).length:Int):=of_decide_eq_true c;rw[za]at c';exact⟨_,rfl,_,rfl,a,_,_,_,rfl,rfl,hS,qq h0 c',q⟩
 ·have c':¬k<((ns.map V.int).length:Int):=of_decide_eq_false (Bool.eq_false_iff.mpr c);rw[za]at c';rw[qu h0 c']at q;exact q
inductive spAtom(vs:List V)(H:Hp)(Q:VK)(E_:XK):Prop
 |mk (n:Int) (l:Addr) (h0:vs=[.int n,.ref l]) (h1:H l=some (.lst [])) (h2:∀v c H',Same H H'->AtOk c->CqAt H' v c->Q v H'):spAtom vs H Q E_
theorem gP{i:Int}(h0:0<=i)(h1:i<=10^20):Sm i:=by
 unfold Sm;have:i.natAbs<=10^20:=by omega
 exact Nat.lt_of_le_of_lt this (by decide)
abbrev lJ:Stmt:=top 33
abbrev uo:List Str:=["_law_number","_law_names","_law_way","_law_more"]
theorem jE:FnScope uo ["_law_number","_law_names"] (ah lJ):=⟨rfl,rfl,rfl,by decide +kernel,rfl,by decide +kernel,by decide +kernel⟩
theorem sU{f:Addr}{fd:FuncData}(F:Fun K "_law_atom" "_law_atom" lJ f fd)(a5:mg "len" = none)(b7:mg "int" = none):FnOk P w K mg base CX0 1 f fd ["_law_number","_law_names"] spAtom:=by
 refine F.okQ jE (fun vs H Q E h=>?_) (fun cdv A outer s H vs Q E hr h=>?_)
 ·obtain⟨n,l,rfl,_⟩:=h;rfl
 obtain⟨n,l,rfl,hN,q⟩:=h;refine⟨_,(b_c (am (i:=2) jE.nd (ai aK (q_v 0) af))
   (b_c (am (i:=3) jE.nd (ai bw (q_v 0) af))
   (b_c (ar (ak fQ (q_v 2) af) (b_1 (aj (ap (q_a (aD aF (aA (q_a ad (q_a ad (q_a ad (q_a ad (q_a ad (q_a ad ae))))))) (q_v 2)) ae)))) b_0)
   (b_c (ar (ak aI (q_v 2) af) (b_1 (aj (ap (q_a ad (q_a (aD aF (aA (q_a (ai aK (q_v 3) af) (q_a (ai aK (q_v 3) (ai kx af af)) ae))) (db mX b7 cg (q_a (bo aI (ai aK (ai bw (q_v 3) af) af) af) ae))) ae))))) b_0)
   (b_c (ar (ak aI (q_v 2) af) (b_1 (aj (ap (q_a ad (q_a (aD aF (aA (q_a (ai aK (q_v 3) af) (q_a (ai aK (q_v 3) (ai kx af af)) ae))) (db mX b7 cg (q_a (bo aI (ai aK (ai bw (q_v 3) af) af) af) ae))) ae))))) b_0)
   (b_c (ar (t_w (cV (ak aI (q_v 2) af) (cV (ak (mG (K:=K) rfl hr.units) (q_v 1) (aA ae)) (cH (ak lD (ai aK (q_v 3) af) af))))) (b_1 (aj (ap (q_a ad (q_a (aD aF (q_v 1) (ai aK (ai bw (q_v 3) af) (q_B bf a5 zB (q_a (q_v 1) ae)))) ae))))) b_0)
   (b_c (ar (ak aI (q_v 2) af) (b_1 (aj (ap (q_a ad (q_a (ap (q_a (ai aK (ai bw (q_v 3) af) af) (q_a (ai bB af (ai aK (ai bw (q_v 3) af) (ai kx af af))) ae))) ae))))) b_0)
   (b_1 (aj (ap (q_a ad (q_a (aD aF (aA (q_a ad (q_a ad (q_a ad (q_a ad (q_a ad (q_a ad (q_a ad (q_a ad (q_a ad (q_a ad (q_a ad (q_a ad ae))))))))))))) (ai aK (q_v 3) af)) ae)))))))))))),?_⟩
 refine⟨_,rfl,_,_,rfl,rfl,(by show(0:Int)<10;decide),?_⟩;refine⟨_,rfl,_,_,rfl,rfl,⟨by decide,by decide⟩,?_⟩;have w0:=Zr n (show(10:Int)≠0 by decide);have w1:=Zg n (show(0:Int)<10 by decide)
 try dsimp(config:={ proj:=false,iota:=false,eta:=false,zeta:=false }) only
 generalize n%10=wy at w0 w1 ⊢;generalize n / 10=mo;have two:∀x y:Int,0<=x->x<=10^20->0<=y->y<=10^20->∃i:Int,0<=i/\Sm i/\atI [V.int x,V.int y] (if decide (V.int (mo / 8%4)=V.int 3)=true then 1 else 0)=some (.int i):=fun x y a b c d=>by
  split
  ·exact⟨y,c,gP c d,rfl⟩
  ·exact⟨x,a,gP a b,rfl⟩
 have m20:=Zr mo (show(10^20:Int)≠0 by decide);have m21:=Zg mo (show(0:Int)<10^20 by decide);refine⟨_,rfl,_,_,rfl,rfl,_,rfl,aZ (fun c1=>?_) (fun c1=>?_)⟩
 ·refine⟨sz rfl,fun p g=>?_⟩;have v1:=ac g (.lst [.str "all",.str "done",.str "folded",.str "free",.str "leaf",.str "seen"]);obtain⟨cd,h1,h2⟩:∃cd:Str,atI [V.str "all",.str "done",.str "folded",.str "free",.str "leaf",.str "seen"] wy=some (.str cd)/\cd∈W6:=by
   have:wy=0\/wy=1\/wy=2\/wy=3\/wy=4\/wy=5:=by omega
   rcases this with rfl|rfl|rfl|rfl|rfl|rfl
   ·exact⟨"all",rfl,by decide +kernel⟩
   ·exact⟨"done",rfl,by decide +kernel⟩
   ·exact⟨"folded",rfl,by decide +kernel⟩
   ·exact⟨"free",rfl,by decide +kernel⟩
   ·exact⟨"leaf",rfl,by decide +kernel⟩
   ·exact⟨"seen",rfl,by decide +kernel⟩
  refine⟨_,rfl,p,_,_,_,rfl,rfl,SqL.of aa,h1,sz rfl,fun p2 g2=>?_⟩;exact q _ _ _ (v1.trans (ac g2 _)) (.w h2) (.w aa)
 refine⟨_,rfl,rfl,_,rfl,eI (fun c2=>?_) (fun c2=>?_)⟩
 ·refine⟨_,rfl,_,_,rfl,rfl,(by show(0:Int)<8;decide),_,rfl,_,_,rfl,rfl,⟨by decide,by decide,by decide⟩,_,_,rfl,rfl,(by show(0:Int)<10^20;decide),sz rfl,fun p g=>?_⟩;obtain⟨i,i0,i1,hi⟩:=two (mo%8) (mo%10^20) (by omega) (by omega) m20 (by omega);refine⟨_,rfl,_,_,rfl,rfl,⟨by decide,by decide⟩,_,_,rfl,rfl,(by show(0:Int)<4;decide),rfl,.inr ⟨_,rfl,p,_,_,_,rfl,rfl,SqL.of aa,hi,sz rfl,fun p2 g2=>?_⟩⟩;exact q _ _ _ ((ac g _).trans (ac g2 _)) (.num (.inl rfl) i0 i1) (.num aa)
 refine⟨_,rfl,rfl,_,rfl,eI (fun c3=>?_) (fun c3=>?_)⟩
 ·refine⟨_,rfl,_,_,rfl,rfl,(by show(0:Int)<4;decide),_,rfl,_,_,rfl,rfl,⟨by decide,by decide,by decide⟩,_,_,rfl,rfl,(by show(0:Int)<10^20;decide),sz rfl,fun p g=>?_⟩;obtain⟨i,i0,i1,hi⟩:=two (mo%4) (mo%10^20) (by omega) (by omega) m20 (by omega);refine⟨_,rfl,_,_,rfl,rfl,⟨by decide,by decide⟩,_,_,rfl,rfl,(by show(0:Int)<4;decide),rfl,.inr ⟨_,rfl,p,_,_,_,rfl,rfl,SqL.of aa,hi,sz rfl,fun p2 g2=>?_⟩⟩;exact q _ _ _ ((ac g _).trans (ac g2 _)) (.num (.inr rfl) i0 i1) (.num aa)
 refine⟨_,rfl,rfl,_,rfl,eI (fun c4=>?_) (fun c4=>?_)⟩
 ·refine⟨_,rfl,sz rfl,fun p g=>?_⟩;have v1:=ac g (.lst []);refine⟨l,p,[],rfl,rfl,SqL.of (v1 _ _ hN),SqL.of aa,_,rfl,aq ?_⟩;refine⟨_,rfl,rfl,_,rfl,eI (fun _=>?_) (fun c=>absurd c4 c)⟩;have y0:=Zr (mo / 36) (show(10^20:Int)≠0 by decide);have y1:=Zg (mo / 36) (show(0:Int)<10^20 by decide);refine⟨_,rfl,_,_,rfl,rfl,⟨by decide,by decide⟩,_,_,rfl,rfl,(by show(0:Int)<9;decide),_,rfl,_,_,rfl,rfl,⟨by decide,by decide⟩,_,_,rfl,rfl,⟨by decide,by decide,by decide⟩,_,_,rfl,rfl,(by show(0:Int)<10^20;decide),_,_,rfl,rfl,sz rfl,fun p3 g3=>⟨sz rfl,fun p4 g4=>?_⟩⟩;exact q _ (.item (mo / 4%9) (1+mo / 36%10^20)) _ (v1.trans ((ac g3 _).trans (ac g4 _))) (.item (by omega) (by omega) (gP (by omega) (by omega)) (gP (by omega) (by omega))) (.item aa (ac g4 _ _ _ aa))
 ·refine⟨_,rfl,rfl,_,rfl,eI (fun c5=>absurd c5 c4) (fun c5=>?_)⟩;refine⟨sz rfl,fun p g=>?_⟩;have k0:=Zr mo (show(12:Int)≠0 by decide);have k1:=Zg mo (show(0:Int)<12 by decide);obtain⟨t,ht,hw⟩:∃t:Str,atI [V.str "a",.str "b",.str "ab",.str "or",.str "A",.str "not",.str "(",.str "aa",.str "B",.str ")",.str "by",.str "x"] (mo%12)=some (.str t)/\(t≠""/\t.length<=100/\32∉t.cps.toList/\t.cps.all (·<128)=true):=by
   have:mo%12=0\/mo%12=1\/mo%12=2\/mo%12=3\/mo%12=4\/mo%12=5\/mo%12=6\/mo%12=7\/mo%12=8\/mo%12=9\/mo%12=10\/mo%12=11:=by omega
   rcases this with e|e|e|e|e|e|e|e|e|e|e|e<;>rw[e]<;>exact⟨_,rfl,by decide +kernel⟩
  refine⟨_,rfl,_,_,rfl,rfl,(by show(0:Int)<12;decide),p,_,_,_,rfl,rfl,SqL.of aa,ht,sz rfl,fun p2 g2=>?_⟩;exact q _ _ _ ((ac g _).trans (ac g2 _)) (.says hw.1 hw.2.1 hw.2.2.1 hw.2.2.2) (.says aa)
theorem hZ{xs:List V}{k:Int}(h0:0<=k)(h1:k<=xs.length):bq xs (some k) none=xs.drop k.toNat:=by unfold bq;rw[pR h0,HT.sIx_none];rw[show min k.toNat xs.length=k.toNat by omega];exact List.take_of_length_le (by rw[zD];exact zd _)
theorem kT{xs:List V}{k:Int}(h0:0<=k)(h1:k<=xs.length):bq xs none (some k)=xs.take k.toNat:=by unfold bq;rw[pR h0,HT.sIx_none,show min k.toNat xs.length=k.toNat by omega];rfl
theorem qz(xs:List V):bq xs none (some (-1))=xs.take (xs.length-1):=by
 unfold bq;rw[HT.sIx_none];have:HT.sIx xs.length xs.length (some (-1))=xs.length-1:=by show(if(-1:Int)<0 then((-1:Int)+(xs.length:Int)).toNat else min (-1:Int).toNat xs.length)=_;rw[yn (by decide)];omega
 rw[this];rfl
theorem eH{K:PySem.W.Frag}{a:Addr}{xs:List V}{n:Nat}{cap:List Nat}{g:TG}{tc:TT}{te:TE}{σ:St}{H0:Hp}{Q:VK}(keep:Nat->Bool)(f:Nat->V)(hz:xs.length<=1000)(hl:SqL K H0 a xs)(he:∀i x H,xs[i]?=some x->Same H0 H->∀(A:VK) (B:Hp->Prop),(keep i=true->∀H4,Same H H4->A (f i) H4)->(keep i=false->∀H4,Same H H4->B H4)->g x (be n cap σ) H fun σ2 H2=>tc σ2 H2 fun b H3=>if b=true then te σ2 H3 A else B H3)(hq:∀p H,Same H0 H->H p=none->Q (.ref p) (upd H p (.lst (((List.range xs.length).filter keep).map f)))):cG n cap g tc te σ (Itl K a) H0 Q :=
 qv (N:=xs.length) keep f hz (fun i H hi sm=>⟨xs,xs[i],sm.seq hl,by simp[hi]⟩) (fun H sm=>⟨xs,sm.seq hl,zd _⟩) (fun i H x H' hi sm y=>by
  obtain⟨e,y⟩:=y;subst e;exact he i x _ (y xs (sm.seq hl)) sm) hq
theorem nh{K:PySem.W.Frag}{a:Addr}{xs:List V}{n:Nat}{cap:List Nat}{g:TG}{te:TE}{σ:St}{H0:Hp}{Q:VK}(f:Nat->V)(hz:xs.length<=1000)(hl:SqL K H0 a xs)(he:∀i x H,xs[i]?=some x->Same H0 H->∀R:VK,(∀H',Same H H'->R (f i) H')->g x (be n cap σ) H fun σ2 H2=>te σ2 H2 R)(hq:∀p H,Same H0 H->H p=none->Q (.ref p) (upd H p (.lst ((List.range xs.length).map f)))):cG n cap g eB te σ (Itl K a) H0 Q:=by
 refine eH (fun _=>true) f hz hl (fun i x H hx sm A B hA _=>?_) (fun p H sm hp=>?_)
 ·have:=he i x H hx sm A (hA rfl);unfold eB;simpa using this
 ·rw[List.filter_eq_self.mpr fun _ _=>rfl];exact hq p H sm hp
theorem fA{t u:L2.TS}{D:Ends}{σ:St}{H:Hp}(J:St->Hp->Prop)(h1:∀R:Ends,(∀σ' H',J σ' H'->R.nx σ' H')->R.rt=D.rt->t R σ H)(h2:∀σ' H',J σ' H'->u D σ' H'):oi t u D σ H:=h1 { D with nx:=u D } h2 rfl
inductive PAt(H:Hp):V->Cq×Nat->Prop
 |mk {a:Addr} {v:V} {c:Cq} {d:Nat} (h:H a=some (.tup [v,.int (d:Int)])) (h1:CqAt H v c):PAt H (.ref a) (c,d)
def PsAt(H:Hp)(vs:List V)(ps:List (Cq×Nat)):Prop:=vs.length=ps.length/\∀(i:Nat) (v:V) (x:Cq×Nat),vs[i]?=some v->ps[i]?=some x->PAt H v x
theorem PAt.same{H H':Hp}{v:V}{x:Cq×Nat}(p:PAt H v x)(s:Same H H'):PAt H' v x:=by
 cases p with
 |mk h h1=>exact .mk (s _ _ h) (h1.ts fun a zs e=>s _ _ e)
theorem PsAt.same{H H':Hp}{vs:List V}{ps:List (Cq×Nat)}(p:PsAt H vs ps)(s:Same H H'):PsAt H' vs ps:=⟨p.1,fun i v x a b=>(p.2 i v x a b).same s⟩
theorem PsAt.take{H:Hp}{vs:List V}{ps:List (Cq×Nat)}(p:PsAt H vs ps)(n:Nat):PsAt H (vs.take n) (ps.take n):=by
 refine⟨by rw[z8,z8,p.1],fun i v x a b=>?_⟩;rw[List.getElem?_take]at a b;split at a
 ·rename_i z;rw[yn z]at b;exact p.2 i v x a b
 ·cases a
theorem PsAt.drop{H:Hp}{vs:List V}{ps:List (Cq×Nat)}(p:PsAt H vs ps)(n:Nat):PsAt H (vs.drop n) (ps.drop n):=by refine⟨by rw[zD,zD,p.1],fun i v x a b=>?_⟩;rw[List.getElem?_drop]at a b;exact p.2 _ v x a b
theorem PsAt.snoc{H:Hp}{vs:List V}{ps:List (Cq×Nat)}{v:V}{x:Cq×Nat}(p:PsAt H vs ps)(q:PAt H v x):PsAt H (vs++[v]) (ps++[x]):=by
 refine⟨by rw[zb,zb,p.1];rfl,fun i v' x' a b=>?_⟩;by_cases z:i<vs.length
 ·rw[List.getElem?_append_left z]at a;rw[List.getElem?_append_left (by rw[<-p.1];exact z)]at b;exact p.2 i _ _ a b
 ·rw[zQ (by omega)]at a;rw[zQ (by rw[<-p.1];omega),<-p.1]at b;have z0:i-vs.length=0:=by have:=(zr.mp a).1;simp at this;omega
  rw[z0]at a b;cases a;cases b;exact q
def wt(ps:List (Cq×Nat)):Nat:=(ps.map fun x=>x.1.ws.length+4).sum
theorem eX(a b:List (Cq×Nat)):wt (a++b)=wt a+wt b:=by unfold wt;rw[zJ,List.sum_append]
def PsOk(h B:Nat)(ps:List (Cq×Nat)):Prop:=(∀x∈ps,Good h x.2 x.1/\x.2<=12)/\wt ps<=B
theorem lY{o:Bool}:∀(ps:List (Cq×Nat)),(Cq.wsL o (ps.map (·.1))).length<=wt ps
 | []=>by rw[List.map_nil,Cq.wsL];exact zW _
 | [x]=>by
  rw[zA,List.map_nil,Cq.wsL];have:(bt (brk x.1 (orW o)) x.1.ws).length<=x.1.ws.length+2:=by
   cases brk x.1 (orW o)
   ·exact Nat.le_add_right _ 2
   ·show(x.1.ws++[cls]).length+1<=_;rw[zb];exact zd _
  unfold wt;simp only[zA,List.map_nil,List.sum_cons,List.sum_nil];omega
 |x::y::ps=>by
  have ih:=lY (o:=o) (y::ps);rw[zA,zA,Cq.wsL,zb,zh];rw[zA]at ih;have:(bt (brk x.1 (orW o)) x.1.ws).length<=x.1.ws.length+2:=by
   cases brk x.1 (orW o)
   ·exact Nat.le_add_right _ 2
   ·show(x.1.ws++[cls]).length+1<=_;rw[zb];exact zd _
  have e:wt (x::y::ps)=x.1.ws.length+4+wt (y::ps):=by unfold wt;rw[zA,List.sum_cons]
  rw[e];omega
theorem oy{c:Cq}(ok:AtOk c):c.ws.length<=2:=by cases ok<;>(rw[Cq.ws];simp)
theorem PsAt.get{H:Hp}{vs:List V}{ps:List (Cq×Nat)}(p:PsAt H vs ps){i:Nat}{v:V}(e:vs[i]?=some v):∃c d a u,ps[i]?=some (c,d)/\v=.ref a/\H a=some (.tup [u,.int (d:Int)])/\CqAt H u c:=by
 have hi:i<ps.length:=by rw[<-p.1];exact(zr.mp e).1
 have:=p.2 i v ps[i] e (zx hi);obtain⟨c,d⟩:Cq×Nat:=ps[i];generalize hx:ps[i]=x at this;cases this with
 |mk h h1=>exact⟨_,_,_,_,by rw[zx hi,hx],rfl,h,h1⟩
theorem mn{xs:List V}{v:V}(e:xs[xs.length-1]?=some v):atI xs (-1)=some v:=by have hl:xs.length-1<xs.length:=(zr.mp e).1;unfold atI ixN;rw[ym (by decide),yn (by omega)];show xs[((-1:Int)+xs.length).toNat]?=_;rw[show((-1:Int)+xs.length).toNat=xs.length-1 by omega];exact e
def ci(H:Hp):V->V
 |.ref a=>(match H a with|some (.tup (u::_))=>u|_=>.non)
 |_=>.non
theorem gr{H:Hp}{a:Addr}{u:V}{r:List V}(e:H a=some (.tup (u::r))):ci H (.ref a)=u:=by show(match H a with|some (.tup (u::_))=>u|_=>V.non)=u;rw[e]
theorem ua(H:Hp)(vs:List V):(List.range vs.length).map (fun i=>ci H ((vs[i]?).getD .non))=vs.map (ci H):=by refine List.ext_getElem (by simp) fun i h1 h2=>?_;rw[za]at h2;simp[h2]
theorem PsAt.fsts{H:Hp}:∀{vs:List V} {ps:List (Cq×Nat)},PsAt H vs ps->CqsAt H (vs.map (ci H)) (ps.map (·.1))
 | [],[],_=>.nil
 | [],_::_,h=>by have:=h.1;simp at this
 |_::_,[],h=>by have:=h.1;simp at this
 |v::vs,x::ps,h=>by
  refine .cons ?_ (PsAt.fsts ⟨by have:=h.1;simpa using this,fun i v x a b=>h.2 (i+1) v x a b⟩);have:=h.2 0 v x rfl rfl;cases this with
  |mk h1 h2=>rw[gr h1];exact h2
def dpI(t:Str)(x:Cq×Nat):Nat:=if brk x.1 t then x.2+1 else x.2
theorem mw(t:Str)(c:Cq)(d:Nat):(if brk c t then(d:Int)+1 else(d:Int))=(dpI t (c,d):Int):=by unfold dpI;split<;>simp_all
theorem tU{ps:List (Cq×Nat)}{x:Cq×Nat}(e:ps[ps.length-1]?=some x):ps=ps.take (ps.length-1)++[x]:=by have hl:ps.length-1<ps.length:=(zr.mp e).1;have:ps=ps.take (ps.length-1)++ps.drop (ps.length-1):=(Zs _ _).symm;rw[Zh hl,List.drop_of_length_le (by omega),show ps[ps.length-1]=x from zt ((zx hl).symm.trans e)]at this;exact this
inductive spGrown(vs:List V)(H:Hp)(Q:VK)(E_:XK):Prop
 |mk (L N:Addr) (cell:Int) (ws:List V) (ps:List (Cq×Nat)) (h B:Nat) (h0:vs=[.ref L,.int cell,.ref N]) (h1:H L=some (.lst ws)) (h2:H N=some (.lst [])) (h3:PsAt H ws ps) (h4:PsOk h B ps) (h5:ps.length<=70)
   (h7:∀L' ws' ps' H',Same H H'->H' L'=some (.lst ws')->PsAt H' ws' ps'->PsOk (h+1) (B+6) ps'->ps'.length<=ps.length+1->ps'≠[]->Q (.ref L') H'):spGrown vs H Q E_
abbrev jx:Stmt:=top 35
abbrev sg:List Str:=["_law_some","_law_cell","_law_names","_law_number","_law_way","_law_parts","_law_condition","_law_deep_here","_law_word"]
theorem bz:FnScope sg ["_law_some","_law_cell","_law_names"] (ah jx):=⟨rfl,rfl,rfl,by decide +kernel,rfl,by decide +kernel,by decide +kernel⟩
theorem qT{f:Addr}{fd:FuncData}(F:Fun K "_law_grown" "_law_grown" jx f fd)(v6:Fn P w K mg base 1 "_law_deep" ["_law_condition","_law_deep_here","_law_word"] spDeep)(k8:Fn P w K mg base 1 "_law_atom" ["_law_number","_law_names"] spAtom)(a5:mg "len" = none)(yi:mg "max" = none)(d4:mg "tuple" = none):FnOk P w K mg base CX0 2 f fd ["_law_some","_law_cell","_law_names"] spGrown:=by
 refine F.okQ bz (fun vs H Q E h=>?_) (fun cdv A outer s H vs Q E hr h=>?_)
 ·obtain⟨L,N,cell,ws,ps,h,B,rfl,_⟩:=h;rfl
 obtain⟨L,N,cell,ws,ps,h,B,rfl,eL,eN,pa,pk,l70,q⟩:=h;refine⟨_,(b_c (am (i:=3) bz.nd (ai aK (ai nL (ai aK (q_v 1) af) af) af))
   (b_c (am (i:=4) bz.nd (ai aK (q_v 1) af))
   (b_c (am (i:=5) bz.nd (cj bv (q_v 0) (bU (ai gy (ai gy (q_B bf a5 zB (q_a (q_v 0) ae)) af) (ai aK (ai bw (q_v 1) af) af))) cy))
   (b_c (ar (ak fQ (q_B bf a5 zB (q_a (q_v 0) ae)) (ai bB af (ai aK (ai bw (q_v 1) af) af))) (b_1 (am (i:=5) bz.nd (q_v 0))) b_0)
   (b_c (ar (t_w (cV (ak aI (q_v 4) af) (cH (ak (mG (K:=K) rfl hr.units) (q_v 0) (aA ae))))) (b_c (rV (aD aF (q_v 0) (rn om af)) (nz rfl (fM (br (i:=6) bz.nd) (fM (br (i:=7) bz.nd) nA))))
   (b_c (am (i:=7) bz.nd (ai bB af (aH v6 (hr.mono (by decide)) (q_a (q_v 6) (q_a (q_v 7) (q_a ad ae))))))
   (b_1 (ar (ak nK (q_v 7) af) (b_1 (aj (ai bg (cj bv (q_v 0) cy (bU (rn om af))) (aA (q_a (ap (q_a (ap (q_a ad (q_a (q_v 6) ae))) (q_a (q_v 7) ae))) ae))))) b_0)))) b_0)
   (b_c (ar (t_w (cV (ak lD (q_v 4) af) (cH (ak lD (q_B bf a5 zB (q_a (q_v 5) ae)) af)))) (b_c (am (i:=8) bz.nd (aD aF (aA (q_a ad (q_a ad ae))) (ai gy (q_v 4) af)))
   (b_c (am (i:=7) bz.nd (q_B (uF (K:=K) rfl rfl) yi qs (q_a (iT (own:=["_law_condition","_law_deep_here"]) (⟨rfl,by decide +kernel,by decide +kernel,rfl,⟨rfl,rfl,trivial⟩⟩:CompOk _ _ [8] ["_law_word"]) rfl (eS (q_v 5)) (fun _ _ _ _=>oV (K:=K) (n:=2) rfl rfl (fM (br (i:=0) (show (["_law_condition","_law_deep_here","_law_word"]:List Str).Nodup by decide +kernel)) (fM (br (i:=1) (show (["_law_condition","_law_deep_here","_law_word"]:List Str).Nodup by decide +kernel)) nA))) (oW (fg (cn (by decide)) dD (fg (cn (by decide)) dD mC gu) (la dD gu))) (fun _ _ _ _=>nB) (fun _ _ _ _=>(aH v6 (hr.mono (by decide)) (q_a (q_v 0) (q_a (q_v 1) (q_a (q_v 2) ae)))))) ae)))
   (b_1 (ar (ak nK (q_v 7) af) (b_1 (aj (ai bg (cj bv (q_v 0) cy (bU (ai gy (q_B bf a5 zB (q_a (q_v 0) ae)) (q_B bf a5 zB (q_a (q_v 5) ae))))) (aA (q_a (ap (q_a (ap (q_a (q_v 8) (q_a (db mY d4 eY (q_a (iT (own:=["_law_part"]) (⟨rfl,by decide +kernel,by decide +kernel,rfl,trivial⟩:CompOk _ _ [] []) rfl (eS (q_v 5)) (fun _ _ _ _=>br (i:=0) (show (["_law_part"]:List Str).Nodup by decide +kernel)) (cn (by decide)) (fun _ _ _ _=>nB) (fun _ _ _ _=>(aD (wJ (K:=K) rfl) (q_v 0) af))) ae)) ae))) (q_a (q_v 7) ae))) ae))))) b_0)))) b_0)
   (b_1 (aj (ai bg (q_v 0) (aA (q_a (ap (q_a (aH k8 (hr.mono (by decide)) (q_a (q_v 3) (q_a (q_v 2) ae))) (q_a af ae))) ae))))))))))),?_⟩
 have k0:=Zr (cell / 7) (show(3:Int)≠0 by decide);have k1:=Zg (cell / 7) (show(0:Int)<3 by decide);have lw:ws.length=ps.length:=pa.1;refine⟨_,rfl,_,_,rfl,rfl,(by show(0:Int)<1000003;decide),_,_,rfl,rfl,.inr ⟨by decide,by decide⟩,_,_,rfl,rfl,(by show(0:Int)<2147483647;decide),?_⟩;refine⟨_,rfl,_,_,rfl,rfl,(by show(0:Int)<7;decide),?_⟩;refine⟨_,rfl,_,rfl,L,ws,rfl,.inl (SqL.of eL),_,_,rfl,rfl,_,rfl,_,_,rfl,rfl,⟨by decide,by decide⟩,_,_,rfl,rfl,(by show(0:Int)<3;decide),_,_,rfl,rfl,_,rfl,L,ws,rfl,SqL.of eL,fun p gp=>?_⟩;generalize cell%1000003*48271%2147483647=num;dsimp only[bD];refine mL (fun σ' H'=>∃(P:Addr) (m:Nat),σ'=[some (.ref L),some (.int cell),some (.ref N),some (.int num),some (.int (cell%7)),some (.ref P),none,none,none]/\Same H H'/\H' P=some (.lst (ws.drop m))/\m<=ws.length) (fun R hR=>?_) ?_
 ·have w1:=ac gp (.lst (bq ws (some ((ws.length:Int)-2-cell / 7%3)) none));refine⟨_,rfl,L,ws,rfl,.inl (SqL.of (w1 _ _ eL)),_,rfl,_,_,rfl,rfl,⟨by decide,by decide⟩,_,_,rfl,rfl,(by show(0:Int)<3;decide),_,_,rfl,rfl,_,_,rfl,rfl,⟨_,rfl,aZ (fun c=>?_) (fun c=>?_)⟩⟩
  ·exact⟨_,rfl,hR _ _ ⟨L,0,rfl,w1,w1 _ _ eL,zW _⟩⟩
  ·have c:¬(ws.length:Int)<2+cell / 7%3:=c;refine hR _ _ ⟨p,((ws.length:Int)-2-cell / 7%3).toNat,rfl,w1,?_,by omega⟩;rw[aa,hZ (by omega) (by omega)]
 rintro σ' H1 ⟨P,m,rfl,s1,eP,hm⟩;have gtake:∀n,∀x∈ps.take n,Good (h+1) x.2 x.1/\x.2<=12:=fun n x hx=>by obtain⟨a,b⟩:=pk.1 x (List.mem_of_mem_take hx);exact⟨a.mono (Nat.le_succ h) (zd _),b⟩
 refine fA (fun σ' H'=>∃x6 x7,σ'=[some (.ref L),some (.int cell),some (.ref N),some (.int num),some (.int (cell%7)),some (.ref P),x6,x7,none]/\Same H H'/\H' P=some (.lst (ws.drop m))) (fun R hR hrt=>?_) ?_
 ·refine⟨_,rfl,rfl,⟨_,rfl,eI (fun c4=>?_) (fun c4=>aq (hR _ _ ⟨_,_,rfl,s1,eP⟩))⟩⟩;refine⟨_,rfl,sz rfl,fun p2 g2=>⟨L,p2,ws,rfl,rfl,SqL.of (ac g2 _ _ _ (s1 _ _ eL)),SqL.of aa,⟨_,rfl,?_⟩⟩⟩;have w2:=s1.trans (ac g2 (.lst []));have eP2:=ac g2 (.lst []) _ _ eP;generalize upd H1 p2 (.lst [])=H2 at w2 eP2 ⊢;by_cases hw:ws=[]
  ·rw[hw];exact aq (hR _ _ ⟨_,_,rfl,w2,by rw[eP2,hw]⟩)
  have hlen:0<ws.length:=List.length_pos_iff.mpr hw;rw[show(!ws.isEmpty)=true by cases ws with|nil=>exact absurd rfl hw|cons=>rfl];refine aX ?_;have elast:ws[ws.length-1]?=some ws[ws.length-1]:=zx (by omega);obtain⟨c,d,a,u,ep,ev,ea,hc⟩:=pa.get elast;rw[ev]at elast;refine⟨_,rfl,1,rfl,L,ws,_,_,rfl,rfl,SqL.of (w2 _ _ eL),mn elast,a,_,rfl,SqT.of (w2 _ _ ea),rfl,u,_,rfl,_,_,rfl,rfl,?_⟩;refine⟨_,rfl,_,rfl,u,c,d,aw,rfl,hc.ts fun a zs e=>w2 _ _ e,⟨_,_,rfl,rfl,?_⟩⟩;rw[mw];refine⟨_,rfl,_,_,rfl,rfl,⟨_,rfl,aZ (fun c12=>?_) (fun c12=>hR _ _ ⟨_,_,rfl,w2,eP2⟩)⟩⟩;have c12:1+(dpI aw (c,d):Int)<=12:=c12;refine⟨_,rfl,1,rfl,_,rfl,L,ws,rfl,SqL.of (w2 _ _ eL),fun p3 g3=>?_⟩;rw[qz];have w3:=w2.trans (ac g3 (.lst (ws.take (ws.length-1))));have e3:upd H2 p3 (.lst (ws.take (ws.length-1))) p3=some (.lst (ws.take (ws.length-1))):=aa;generalize upd H2 p3 (.lst (ws.take (ws.length-1)))=H3 at w3 e3 ⊢;refine⟨_,rfl,sz rfl,fun t1 g4=>⟨_,rfl,sz rfl,fun t2 g5=>⟨sz rfl,fun p6 g6=>?_⟩⟩⟩;have w4:=ac g4 (.tup [.str "not",u]);have e4:upd H3 t1 (.tup [.str "not",u]) t1=some (.tup [.str "not",u]):=aa;generalize upd H3 t1 (.tup [.str "not",u])=H4 at w4 e4 g5 g6 ⊢;have w5:=ac g5 (.tup [.ref t1,.int (1+(dpI aw (c,d):Int))]);have e5:upd H4 t2 (.tup [.ref t1,.int (1+(dpI aw (c,d):Int))]) t2=some (.tup [.ref t1,.int (1+(dpI aw (c,d):Int))]):=aa;generalize upd H4 t2 (.tup [.ref t1,.int (1+(dpI aw (c,d):Int))])=H5 at w5 e5 g6 ⊢;have w6:=ac g6 (.lst [.ref t2]);have e6:upd H5 p6 (.lst [.ref t2]) p6=some (.lst [.ref t2]):=aa;generalize upd H5 p6 (.lst [.ref t2])=H6 at w6 e6 ⊢;refine⟨p3,p6,_,_,rfl,rfl,w6 _ _ (w5 _ _ (w4 _ _ e3)),e6,aV (by simp;omega),fun p7 g7=>?_⟩;rw[hrt];have w7:=ac g7 (.lst (ws.take (ws.length-1)++[.ref t2]));have wa:Same H3 (upd H6 p7 (.lst (ws.take (ws.length-1)++[.ref t2]))):=w4.trans (w5.trans (w6.trans w7));have hb:brk c aw=c.mny:=(pk.1 _ (Zj ep)).1.brkA (by decide +kernel);rw[lw]at ep;have el:=tU ep;refine q p7 _ (ps.take (ws.length-1)++[(.no c,1+dpI aw (c,d))]) _ (w3.trans wa) aa (((pa.take _).same (w3.trans wa)).snoc (.mk (v:=.ref t1) ?_ (.no (w7 _ _ (w6 _ _ (w5 _ _ e4))) (hc.ts fun a zs e=>wa _ _ (w3 _ _ e))))) ⟨fun x hx=>?_,?_⟩ ?_ (by simp)
  ·rw[w7 _ _ (w6 _ _ e5)];rfl
  ·rcases zy.mp hx with hx|hx
   ·exact gtake _ x hx
   ·rw[zk.mp hx];refine⟨.no (pk.1 _ (Zj ep)).1 ?_,?_⟩
    ·show d+_<=1+dpI aw (c,d);unfold dpI;show d+_<=1+(if brk c aw=true then d+1 else d);rw[hb];cases c.mny
     ·show d+1<=1+d;omega
     ·show d+2<=1+(d+1);omega
    ·show 1+dpI aw (c,d)<=12;omega
  ·have h1:wt ps=wt (ps.take (ps.length-1))+wt [(c,d)]:=by rw[<-eX,<-el]
   have h2:=pk.2;rw[eX,lw];have h3:wt [(Cq.no c,1+dpI aw (c,d))]<=wt [(c,d)]+3:=by
    show(Cq.no c).ws.length+4+0<=c.ws.length+4+0+3;rw[Cq.ws,zh];have:(bt (brk c aw) c.ws).length<=c.ws.length+2:=by
     cases brk c aw
     ·exact Nat.le_add_right _ 2
     ·show(c.ws++[cls]).length+1<=_;rw[zb];exact zd _
    omega
   omega
  ·rw[zb,z8];simp;omega
 rintro σ' H2 ⟨x6,x7,rfl,s2,eP⟩;have eLen:(ws.drop m).length=ws.length-m:=zD;have pd:=(pa.drop m).same s2;refine fA (fun σ' H'=>∃x6 x7 x8,σ'=[some (.ref L),some (.int cell),some (.ref N),some (.int num),some (.int (cell%7)),some (.ref P),x6,x7,x8]/\Same H H') (fun R hR hrt=>?_) ?_
 ·refine⟨_,rfl,_,_,rfl,rfl,⟨_,rfl,aZ (fun c4=>?_) (fun c4=>aq (hR _ _ ⟨_,_,_,rfl,s2⟩))⟩⟩;refine⟨_,rfl,P,_,rfl,.inl (SqL.of eP),_,_,rfl,rfl,⟨_,rfl,aZ (fun c1=>?_) (fun c1=>hR _ _ ⟨_,_,_,rfl,s2⟩)⟩⟩;have c4:cell%7>4:=c4;have c1:((ws.drop m).length:Int)>1:=c1;rw[eLen]at c1;obtain⟨o,ho⟩:∃o:Bool,atI [V.str "and",V.str "or"] (cell%7-5)=some (.str (orW o)):=by
   have:cell%7=5\/cell%7=6:=by omega
   rcases this with e|e
   ·exact⟨false,by rw[e];rfl⟩
   ·exact⟨true,by rw[e];rfl⟩
  refine⟨sz rfl,fun p3 g3=>⟨_,rfl,_,_,rfl,rfl,p3,_,_,_,rfl,rfl,SqL.of aa,ho,?_⟩⟩;have w3:=ac g3 (.lst [.str "and",.str "or"]);generalize upd H2 p3 (.lst [.str "and",.str "or"])=H3 at w3 ⊢;have eP3:=w3 _ _ eP;have pd3:=pd.same w3;have lp:(ws.drop m).length=(ps.drop m).length:=pd.1;refine⟨_,rfl,P,rfl,⟨_,SqL.of eP3⟩,?_⟩;refine nh (fun i=>.int (bJ ((ps.drop m).map fun x=>(dpI (orW o) x:Int)) i)) (by omega) (SqL.of eP3) (fun i x H4 hi sm R' k=>?_) (fun p4 H4 s4 g4=>?_)
  ·obtain⟨c,d,a,u,ep,rfl,ea,hc⟩:=pd3.get hi;have ek:bJ ((ps.drop m).map fun x=>(dpI (orW o) x:Int)) i=(dpI (orW o) (c,d):Int):=by unfold bJ;rw[zL,ep];rfl
   rw[ek,<-mw]at k;exact⟨a,_,rfl,SqT.of (sm _ _ ea),rfl,u,_,rfl,_,_,rfl,rfl,⟨_,rfl,_,rfl,_,rfl,u,c,d,orW o,rfl,hc.ts fun a zs e=>sm _ _ e,k _ (Same.refl _)⟩⟩
  have em:(List.range (ws.drop m).length).map (fun i=>V.int (bJ ((ps.drop m).map fun x=>(dpI (orW o) x:Int)) i))=((ps.drop m).map fun x=>(dpI (orW o) x:Int)).map V.int:=by rw[lp];refine List.ext_getElem (by simp) fun i h1 h2=>?_;rw[za,za]at h2;simp only[List.getElem_map,List.getElem_range];unfold bJ;rw[zL,zx h2];rfl
  rw[em];refine⟨p4,_,rfl,SqL.of aa,fun z=>?_,fun M hM hmx=>?_⟩
  ·have:=zS List.length z;rw[za]at this;simp only[List.length_nil]at this;omega
  have w4:=s4.trans (ac g4 (.lst (((ps.drop m).map fun x=>(dpI (orW o) x:Int)).map V.int)));generalize upd H4 p4 (.lst (((ps.drop m).map fun x=>(dpI (orW o) x:Int)).map V.int))=H5 at w4 ⊢;obtain⟨Mn,rfl⟩:∃Mn:Nat,M=(Mn:Int):=by obtain⟨x,_,rfl⟩:=Zo.mp hM;exact⟨_,rfl⟩
  have hmx:∀x∈ps.drop m,dpI (orW o) x<=Mn:=fun x hx=>by have:=hmx _ (Zo.mpr ⟨x,hx,rfl⟩);omega
  refine⟨_,rfl,_,_,rfl,rfl,⟨_,rfl,aZ (fun c12=>?_) (fun c12=>hR _ _ ⟨_,_,_,rfl,s2.trans (w3.trans w4)⟩)⟩⟩;have c12:(Mn:Int)<=12:=c12;have s5:=s2.trans (w3.trans w4);have eP5:=w4 _ _ eP3;have pd5:=pd3.same w4;refine⟨_,rfl,_,rfl,L,ws,rfl,.inl (SqL.of (s5 _ _ eL)),_,rfl,P,_,rfl,.inl (SqL.of eP5),_,_,rfl,rfl,_,rfl,L,ws,rfl,SqL.of (s5 _ _ eL),fun p6 g6=>?_⟩;rw[show bq ws none (some ((ws.length:Int)-((ws.drop m).length:Int)))=ws.take m by rw[eLen,kT (by omega) (by omega)];congr 1;omega];have w6:=ac g6 (.lst (ws.take m));have e6:upd H5 p6 (.lst (ws.take m)) p6=some (.lst (ws.take m)):=aa;generalize upd H5 p6 (.lst (ws.take m))=H6 at w6 e6 ⊢;have eP6:=w6 _ _ eP5;have pd6:=pd5.same w6;refine⟨_,rfl,_,rfl,P,rfl,⟨_,SqL.of eP6⟩,?_⟩;refine oH (fun i=>ci H6 (((ws.drop m)[i]?).getD .non)) (by omega) (SqL.of eP6) (fun i x H7 hi sm R' k=>?_) (fun p7 H7 s7 g7=>?_)
  ·obtain⟨c,d,a,u,ep,rfl,ea,hc⟩:=pd6.get hi;rw[hi]at k;have:ci H6 (Option.getD (some (V.ref a)) V.non)=u:=gr ea;rw[this]at k;exact⟨_,rfl,a,_,_,_,rfl,rfl,SqT.of (sm _ _ ea),at0,k _ (Same.refl _)⟩
  rw[ua];have cq:=pd6.fsts;have l1:((ws.drop m).map (ci H6)).length=ws.length-m:=by rw[za,eLen]
  generalize(ws.drop m).map (ci H6)=us at cq l1 ⊢;have w7:=s7.trans (ac g7 (.lst us));have e7:upd H7 p7 (.lst us) p7=some (.lst us):=aa;generalize upd H7 p7 (.lst us)=H8 at w7 e7 ⊢;refine⟨p7,us,rfl,.inl ⟨SqL.of e7,fun b gb=>⟨sz rfl,fun t1 g1=>⟨_,rfl,sz rfl,fun t2 g2=>⟨sz rfl,fun p9 g9=>?_⟩⟩⟩⟩⟩;have wb:=ac gb (.tup us);have eb:upd H8 b (.tup us) b=some (.tup us):=aa;generalize upd H8 b (.tup us)=H9 at wb eb g1 g2 g9 ⊢;have wt1:=ac g1 (.tup [.str (orW o),.ref b]);have et1:upd H9 t1 (.tup [.str (orW o),.ref b]) t1=some (.tup [.str (orW o),.ref b]):=aa;generalize upd H9 t1 (.tup [.str (orW o),.ref b])=HA at wt1 et1 g2 g9 ⊢;have wt2:=ac g2 (.tup [.ref t1,.int (Mn:Int)]);have et2:upd HA t2 (.tup [.ref t1,.int (Mn:Int)]) t2=some (.tup [.ref t1,.int (Mn:Int)]):=aa;generalize upd HA t2 (.tup [.ref t1,.int (Mn:Int)])=HB at wt2 et2 g9 ⊢;have w9:=ac g9 (.lst [.ref t2]);have e9:upd HB p9 (.lst [.ref t2]) p9=some (.lst [.ref t2]):=aa;generalize upd HB p9 (.lst [.ref t2])=HC at w9 e9 ⊢;have w69:Same H6 HC:=w7.trans (wb.trans (wt1.trans (wt2.trans w9)));refine⟨p6,p9,_,_,rfl,rfl,w69 _ _ e6,e9,aV (by simp;omega),fun pA gA=>?_⟩;rw[hrt];have wA:=ac gA (.lst (ws.take m++[.ref t2]));have wz:Same H _:=s5.trans (w6.trans (w69.trans wA));refine q pA _ (ps.take m++[(.many o ((ps.drop m).map (·.1)),Mn)]) _ wz aa (((pa.take m).same wz).snoc (.mk (v:=.ref t1) (wA _ _ (w9 _ _ et2)) (.many (wA _ _ (w9 _ _ (wt2 _ _ et1))) (wA _ _ (w9 _ _ (wt2 _ _ (wt1 _ _ eb)))) (cq.ts fun a zs e=>wA _ _ (w69 _ _ e))))) ⟨fun x hx=>?_,?_⟩ ?_ (by simp)
  ·rcases zy.mp hx with hx|hx
   ·exact gtake _ x hx
   ·rw[zk.mp hx];refine⟨.many (by rw[za,<-lp,eLen];omega) (by rw[za,<-lp,eLen];omega) (fun c hc=>?_) (fun c hc hb=>?_),by show Mn<=12;omega⟩
    ·obtain⟨x,hx,rfl⟩:=Zo.mp hc;have g1:=(pk.1 x (List.mem_of_mem_drop hx)).1;have g2:=hmx x hx;refine g1.mono (zd _) ?_;show x.2<=Mn-_;unfold dpI at g2;split at g2<;>simp_all<;>omega
    ·obtain⟨x,hx,rfl⟩:=Zo.mp hc;have g2:=hmx x hx;unfold dpI at g2;rw[yn hb]at g2;show 1<=Mn;omega
  ·have h1:wt ps=wt (ps.take m)+wt (ps.drop m):=by rw[<-eX,Zs]
   have h2:=pk.2;have h3:wt [(Cq.many o ((ps.drop m).map (·.1)),Mn)]<=wt (ps.drop m)+4:=by show(Cq.many o ((ps.drop m).map (·.1))).ws.length+4+0<=_;rw[Cq.ws];have:=lY (o:=o) (ps.drop m);omega
   rw[eX];omega
  ·rw[zb,z8];simp;omega
 rintro σ' H3 ⟨x6,x7,x8,rfl,s3⟩;refine⟨_,rfl,_,rfl,_,rfl,num,N,rfl,s3 _ _ eN,fun v c H4 s4 ok hc=>⟨sz rfl,fun t2 g5=>⟨sz rfl,fun p6 g6=>?_⟩⟩⟩;have w5:=ac g5 (.tup [v,.int 0]);have e5:upd H4 t2 (.tup [v,.int 0]) t2=some (.tup [v,.int 0]):=aa;generalize upd H4 t2 (.tup [v,.int 0])=H5 at w5 e5 g6 ⊢;have w6:=ac g6 (.lst [.ref t2]);have e6:upd H5 p6 (.lst [.ref t2]) p6=some (.lst [.ref t2]):=aa;generalize upd H5 p6 (.lst [.ref t2])=H6 at w6 e6 ⊢;refine⟨L,p6,_,_,rfl,rfl,w6 _ _ (w5 _ _ (s4 _ _ (s3 _ _ eL))),e6,aV (by simp;omega),fun p7 g7=>?_⟩;have w7:=ac g7 (.lst (ws++[.ref t2]));refine q p7 _ (ps++[(c,0)]) _ (s3.trans (s4.trans (w5.trans (w6.trans w7)))) aa ((pa.same (s3.trans (s4.trans (w5.trans (w6.trans w7))))).snoc (.mk (v:=v) (w7 _ _ (w6 _ _ e5)) (hc.ts fun a zs e=>w7 _ _ (w6 _ _ (w5 _ _ e))))) ⟨fun x hx=>?_,?_⟩ (by simp) (by simp)
 ·rcases zy.mp hx with hx|hx
  ·obtain⟨a,b⟩:=pk.1 x hx;exact⟨a.mono (Nat.le_succ h) (zd _),b⟩
  ·rw[zk.mp hx];exact⟨.at ok,zW _⟩
 ·rw[eX];have:=pk.2;have:wt [(c,0)]<=6:=by show c.ws.length+4+0<=6;have:=oy ok;omega
  omega
inductive spTree(K:PySem.W.Frag)(vs:List V)(H:Hp)(Q:VK)(E_:XK):Prop
 |mk (L N:Addr) (ns:List Int) (h0:vs=[.ref L,.ref N]) (h1:SqL K H L (ns.map V.int)) (h2:H N=some (.lst [])) (h3:ns.length<=60) (h7:∀v c H',Same H H'->CqAt H' v c->Good 63 12 c->c.ws.length<=400->Q v H'):spTree K vs H Q E_
theorem PsOk.mono{h h' B B':Nat}{ps:List (Cq×Nat)}(p:PsOk h B ps)(a:h<=h')(b:B<=B'):PsOk h' B' ps:=⟨fun x hx=>⟨(p.1 x hx).1.mono a (zd _),(p.1 x hx).2⟩,zm p.2 b⟩
theorem qh:∀{ps:List (Cq×Nat)} {x:Cq×Nat},x∈ps->x.1.ws.length+4<=wt ps
 |y::ps,x,h=>by
  have e:wt (y::ps)=y.1.ws.length+4+wt ps:=by unfold wt;rw[zA,List.sum_cons]
  rcases zl.mp h with rfl|h
  ·omega
  ·have:=qh h;omega
theorem jW(k:Cq×Nat->Bool):∀ps:List (Cq×Nat),wt (ps.filter k)<=wt ps
 | []=>zd _
 |y::ps=>by
  have ih:=jW k ps;have e:∀ps,wt (y::ps)=y.1.ws.length+4+wt ps:=fun ps=>by unfold wt;rw[zA,List.sum_cons]
  rw[Zm];split
  ·rw[e,e];omega
  ·rw[e];omega
theorem PsOk.len{h B:Nat}{ps:List (Cq×Nat)}(p:PsOk h B ps){x:Cq×Nat}(hx:x∈ps):x.1.ws.length<=B:=by have:=qh hx;have:=p.2;omega
def fO(ps:List (Cq×Nat)):List (Cq×Nat):=ps.filter fun x=>decide (x.2<12)
theorem PsAt.keep{H:Hp}(h':Hp):∀{vs:List V} {ps:List (Cq×Nat)},PsAt H vs ps->∀k:Nat->Bool,(∀i x,ps[i]?=some x->k i=decide (x.2<12))->CqsAt H (((List.range vs.length).filter k).map fun i=>ci H ((vs[i]?).getD .non)) ((fO ps).map (·.1))
 | [],[],_,_,_=>.nil
 | [],_::_,h,_,_=>by have:=h.1;simp at this
 |_::_,[],h,_,_=>by have:=h.1;simp at this
 |v::vs,x::ps,h,k,hk=>by
  have ih:=PsAt.keep h' (vs:=vs) (ps:=ps) ⟨by have:=h.1;simpa using this,fun i v x a b=>h.2 (i+1) v x a b⟩ (fun i=>k (i+1)) (fun i y e=>hk (i+1) y e);have e:((List.range (v::vs).length).filter k).map (fun i=>ci H (((v::vs)[i]?).getD .non))=(if k 0 then[ci H v]else[])++((List.range vs.length).filter fun i=>k (i+1)).map fun i=>ci H ((vs[i]?).getD .non):=by
   rw[zh,List.range_succ_eq_map,Zm];have e2:((List.range vs.length).map Nat.succ).filter k=((List.range vs.length).filter fun i=>k (i+1)).map Nat.succ:=by rw[List.filter_map];rfl
   rw[e2];split
   ·rw[zA,List.map_map];rfl
   ·rw[List.map_map];rfl
  rw[e];have k0:=hk 0 x rfl;unfold fO;rw[Zm,k0];have p0:=h.2 0 v x rfl rfl;split
  ·cases p0 with
   |mk h1 h2 =>rw[gr h1];exact .cons h2 ih
  ·exact ih
abbrev lQ:Stmt:=top 36
abbrev uu:List Str:=["_law_cells","_law_names","_law_some","_law_cell","_law_parts"]
theorem eV:FnScope uu ["_law_cells","_law_names"] (ah lQ):=⟨rfl,rfl,rfl,by decide +kernel,rfl,by decide +kernel,by decide +kernel⟩
theorem sY{f:Addr}{fd:FuncData}(F:Fun K "_law_tree" "_law_tree" lQ f fd)(v9:Fn P w K mg base 2 "_law_grown" ["_law_some","_law_cell","_law_names"] spGrown)(k8:Fn P w K mg base 1 "_law_atom" ["_law_number","_law_names"] spAtom)(a5:mg "len" = none)(d4:mg "tuple" = none):FnOk P w K mg base CX0 3 f fd ["_law_cells","_law_names"] (spTree K):=by
 refine F.okQ eV (fun vs H Q E h=>?_) (fun cdv A outer s H vs Q E hr h=>?_)
 ·obtain⟨L,N,ns,rfl,_⟩:=h;rfl
 obtain⟨L,N,ns,rfl,eC,eN,l60,q⟩:=h;refine⟨_,(b_c (am (i:=2) eV.nd (aA (q_a (ap (q_a (aH k8 (hr.mono (by decide)) (q_a af (q_a (q_v 1) ae))) (q_a af ae))) ae)))
   (b_c (nX PassesOwn.never rfl (eS (q_v 0)) (br (i:=3) eV.nd) (b_1 (am (i:=2) eV.nd (aH v9 (hr.mono (by decide)) (q_a (q_v 2) (q_a (q_v 3) (q_a (q_v 1) ae)))))))
   (b_c (pS (j:=4) eV.nd (own:=["_law_condition","_law_deep_here"]) (⟨rfl,by decide +kernel,by decide +kernel,rfl,trivial⟩:CompOk _ _ [] []) rfl (eS (cj bv (q_v 2) (bU af) cy)) (fun _ _ _ _=>oV (K:=K) (n:=2) rfl rfl (fM (br (i:=0) (show (["_law_condition","_law_deep_here"]:List Str).Nodup by decide +kernel)) (fM (br (i:=1) (show (["_law_condition","_law_deep_here"]:List Str).Nodup by decide +kernel)) nA))) (oW (fg (cn (by decide)) dD (fg (cn (by decide)) dD mC gu) (la dD gu))) (fun _ _ _ _=>(uM (ak fQ (q_v 1) af))) (fun _ _ _ _=>(q_v 0)))
   (b_c (ar (ak lD (q_B bf a5 zB (q_a (q_v 4) ae)) af) (b_1 (aj (ap (q_a ad (q_a (db mY d4 eY (q_a (q_v 4) ae)) ae))))) b_0)
   (b_1 (aj (aD bK (aD aF (q_v 2) (rn om af)) af))))))),?_⟩
 try rw[cxK]
 refine⟨_,rfl,0,N,rfl,eN,fun v c H1 s1 ok hc=>⟨sz rfl,fun t1 g1=>⟨sz rfl,fun p1 g2=>?_⟩⟩⟩;have w1:=ac g1 (.tup [v,.int 0]);have e1:upd H1 t1 (.tup [v,.int 0]) t1=some (.tup [v,.int 0]):=aa;generalize upd H1 t1 (.tup [v,.int 0])=H2 at w1 e1 g2 ⊢;have w2:=ac g2 (.lst [.ref t1]);have e2:upd H2 p1 (.lst [.ref t1]) p1=some (.lst [.ref t1]):=aa;generalize upd H2 p1 (.lst [.ref t1])=H3 at w2 e2 ⊢;have s3:=s1.trans (w1.trans w2);have eC3:=s3.seq eC;refine⟨_,rfl,L,rfl,⟨_,eC3⟩,?_⟩;refine jM (xs:=ns.map V.int) (fun i σ' H'=>∃(p:Addr) (x:Option V) (ws:List V) (ps:List (Cq×Nat)),σ'=[some (.ref L),some (.ref N),some (.ref p),x,none]/\Same H H'/\H' p=some (.lst ws)/\PsAt H' ws ps/\PsOk (i+1) (6*(i+1)) ps/\ps.length<=i+1/\ps≠[]) ?_ ?_ ?_ ?_
 ·refine⟨p1,none,[.ref t1],[(c,0)],rfl,s3,e2,⟨rfl,fun i v' x a b=>?_⟩,⟨fun x hx=>?_,?_⟩,by simp,by simp⟩
  ·have i0:i=0:=by have:=(zr.mp a).1;simp at this;exact this
   subst i0;cases a;cases b;exact .mk (w2 _ _ e1) (hc.ts fun a zs e=>w2 _ _ (w1 _ _ e))
  ·rw[zk.mp hx];exact⟨.at ok,zW _⟩
  ·show c.ws.length+4+0<=6;have:=oy ok;omega
 ·rintro i σ' H' hi ⟨p,x,ws,ps,rfl,s',_⟩;exact s'.seq eC
 ·rintro i x σ' H' hx ⟨p,x0,ws,ps,rfl,s',e',pa,pk,l1,ne⟩ D' hD;obtain⟨rfl,hj⟩:=qJ hx;refine⟨_,rfl,_,rfl,_,rfl,p,N,_,ws,ps,i+1,6*(i+1),rfl,e',s' _ _ eN,pa,pk,by omega,fun L' ws' ps' H4 s4 e4 pa4 pk4 l4 ne4=>?_⟩;exact hD _ _ ⟨L',_,ws',ps',rfl,s'.trans s4,e4,pa4,pk4,by omega,ne4⟩
 rintro σ' H4 ⟨p,x,ws,ps,rfl,s4,e4,pa,pk,l1,ne⟩;rw[za]at pk l1;have pk:=pk.mono (h':=62) (B':=372) (by omega) (by omega);have lw:=pa.1;have lpos:0<ps.length:=List.length_pos_iff.mpr ne;refine⟨_,rfl,_,rfl,p,ws,rfl,SqL.of e4,fun p5 g5=>⟨p5,rfl,⟨_,SqL.of aa⟩,?_⟩⟩;rw[show bq ws (some 1) none=ws.drop 1 from hZ (k:=1) (by decide) (by omega)];have w5:=ac g5 (.lst (ws.drop 1));have e5:upd H4 p5 (.lst (ws.drop 1)) p5=some (.lst (ws.drop 1)):=aa;generalize upd H4 p5 (.lst (ws.drop 1))=H5 at w5 e5 ⊢;have pd:=(pa.drop 1).same w5;have ld:(ws.drop 1).length=ws.length-1:=zD;refine eH (fun i=>decide ((((ps.drop 1)[i]?).getD (c,0)).2<12)) (fun i=>ci H5 (((ws.drop 1)[i]?).getD .non)) (by omega) (SqL.of e5) (fun i x H6 hx sm A B hA hB=>?_) (fun p6 H6 s6 g6=>?_)
 ·obtain⟨c',d',a,u,ep,rfl,ea,hc'⟩:=pd.get hx;rw[ep]at hA hB;rw[hx]at hA;have:ci H5 (Option.getD (some (V.ref a)) V.non)=u:=gr ea;rw[this]at hA;refine⟨a,_,rfl,SqT.of (sm _ _ ea),rfl,u,_,rfl,_,_,rfl,rfl,⟨_,rfl,_,_,rfl,rfl,⟨_,rfl,?_⟩⟩⟩;by_cases z:d'<12
  ·rw[decide_eq_true (show(d':Int)<12 by omega)];exact aX ⟨_,rfl,hA (decide_eq_true z) _ (Same.refl _)⟩
  ·rw[decide_eq_false (show¬(d':Int)<12 by omega)];exact aq (hB (decide_eq_false z) _ (Same.refl _))
 have cq:=PsAt.keep H5 pd (fun i=>decide ((((ps.drop 1)[i]?).getD (c,0)).2<12)) fun i x e=>by rw[e];rfl
 generalize((List.range (ws.drop 1).length).filter fun i=>decide ((((ps.drop 1)[i]?).getD (c,0)).2<12)).map (fun i=>ci H5 (((ws.drop 1)[i]?).getD .non))=us at cq ⊢;have lq:=cq.len;rw[za]at lq;have lk:(fO (ps.drop 1)).length<=ps.length:=by unfold fO;exact zm (List.length_filter_le _ _) (by rw[zD];omega)
 have w6:=s6.trans (ac g6 (.lst us));have e6:upd H6 p6 (.lst us) p6=some (.lst us):=aa;generalize upd H6 p6 (.lst us)=H7 at w6 e6 ⊢;have s7:=s4.trans (w5.trans w6);refine⟨_,rfl,p6,us,rfl,.inl (SqL.of e6),_,_,rfl,rfl,⟨_,rfl,aZ (fun c1=>?_) (fun c1=>?_)⟩⟩
 ·have c1:(us.length:Int)>1:=c1;refine⟨_,rfl,p6,us,rfl,.inl ⟨SqL.of e6,fun b gb=>⟨sz rfl,fun t2 gt2=>?_⟩⟩⟩;have wb:=ac gb (.tup us);have eb:upd H7 b (.tup us) b=some (.tup us):=aa;generalize upd H7 b (.tup us)=H8 at wb eb gt2 ⊢;have wt2:=ac gt2 (.tup [.str "or",.ref b]);have mem:∀x∈fO (ps.drop 1),x∈ps/\x.2<12:=fun x hx=>by unfold fO at hx;obtain⟨a,b⟩:=List.mem_filter.mp hx;exact⟨List.mem_of_mem_drop a,of_decide_eq_true b⟩
  refine q _ (.many true ((fO (ps.drop 1)).map (·.1))) _ (s7.trans (wb.trans wt2)) (.many (o:=true) aa (wt2 _ _ eb) (cq.ts fun a zs e=>wt2 _ _ (wb _ _ (w6 _ _ e)))) (.many (by rw[za];omega) (by rw[za];omega) (fun c' hc'=>?_) (fun _ _ _=>by omega)) ?_
  ·obtain⟨x,hx,rfl⟩:=Zo.mp hc';obtain⟨m1,m2⟩:=mem x hx;exact(pk.1 x m1).1.mono (zd _) (by split<;>omega)
  ·rw[Cq.ws];refine zm (lY _) ?_;have a:wt (fO (ps.drop 1))<=wt (ps.drop 1):=jW _ _;have b:wt ps=wt (ps.take 1)+wt (ps.drop 1):=by rw[<-eX,Zs]
   have:=pk.2;omega
 ·have elast:ws[ws.length-1]?=some ws[ws.length-1]:=zx (by omega);obtain⟨c',d',a,u,ep,ev,ea,hc'⟩:=pa.get elast;rw[ev]at elast;refine⟨_,rfl,1,rfl,p,ws,_,_,rfl,rfl,SqL.of (w6 _ _ (w5 _ _ e4)),mn elast,a,_,_,_,rfl,rfl,SqT.of (w6 _ _ (w5 _ _ ea)),at0,?_⟩;have m1:=Zj ep;obtain⟨g,d12⟩:=pk.1 _ m1;exact q _ c' _ s7 (hc'.ts fun a zs e=>w6 _ _ (w5 _ _ e)) (g.mono (by decide) d12) (zm (pk.len m1) (by decide))
mutual
def Cq.dt:Cq->PyData
 |.w s=>.tuple [.str s]
 |.num s n=>.tuple [.str s,.int n]
 |.item x y=>.tuple [.str "beneath",.tuple [.int x,.int y]]
 |.says t=>.tuple [.str "says",.str t]
 |.no c=>.tuple [.str "not",Cq.dt c]
 |.many o cs=>.tuple [.str (orW o),.tuple (Cq.dtL cs)]
def Cq.dtL:List Cq->List PyData
 | []=>[]
 |c::cs=>Cq.dt c::Cq.dtL cs
end
theorem dt1{H:Hp}{a:Addr}{x:V}{d:PyData}(e:H a=some (.tup [x]))(h:Dt H d x):Dt H (.tuple [d]) (.ref a):=by simp only[Dt,DtAll];exact⟨a,_,rfl,.inl e,x,[],rfl,h,rfl⟩
theorem dt2{H:Hp}{a:Addr}{x y:V}{d e':PyData}(e:H a=some (.tup [x,y]))(h:Dt H d x)(h':Dt H e' y):Dt H (.tuple [d,e']) (.ref a):=by simp only[Dt,DtAll];exact⟨a,_,rfl,.inl e,x,[y],rfl,h,y,[],rfl,h',rfl⟩
theorem dt3{H:Hp}{a:Addr}{x y z:V}{d e' f:PyData}(e:H a=some (.tup [x,y,z]))(h:Dt H d x)(h':Dt H e' y)(h2:Dt H f z):Dt H (.tuple [d,e',f]) (.ref a):=by simp only[Dt,DtAll];exact⟨a,_,rfl,.inl e,x,[y,z],rfl,h,y,[z],rfl,h',z,[],rfl,h2,rfl⟩
theorem dtS{H:Hp}{s:Str}:Dt H (.str s) (.str s):=by simp only[Dt]
theorem dtI{H:Hp}{i:Int}:Dt H (.int i) (.int i):=by simp only[Dt]
theorem dtB{H:Hp}{b:Bool}:Dt H (.bool b) (.bl b):=by simp only[Dt]
mutual
theorem CqAt.data{H:Hp}:∀{v:V} {c:Cq},CqAt H v c->Dt H c.dt v
 |_,_,.w h=>by rw[Cq.dt];exact dt1 h dtS
 |_,_,.num h=>by rw[Cq.dt];exact dt2 h dtS dtI
 |_,_,.item h h1=>by rw[Cq.dt];exact dt2 h dtS (dt2 h1 dtI dtI)
 |_,_,.says h=>by rw[Cq.dt];exact dt2 h dtS dtS
 |_,_,.no h h1=>by rw[Cq.dt];exact dt2 h dtS h1.data
 |_,_,.many h h1 h2=>by rw[Cq.dt];refine dt2 h dtS ?_;simp only[Dt];exact⟨_,_,rfl,.inl h1,h2.data⟩
theorem CqsAt.data{H:Hp}:∀{vs:List V} {cs:List Cq},CqsAt H vs cs->DtAll H (Cq.dtL cs) vs
 |_,_,.nil=>by simp only[Cq.dtL,DtAll]
 |_,_,.cons h t=>by simp only[Cq.dtL,DtAll];exact⟨_,_,rfl,h.data,t.data⟩
end
theorem uC{x:Str}(h:x.cps.all (·<128)=true):PyData.strOk x=true:=by unfold PyData.strOk;rw[<-z6,zR]at h ⊢;intro c hc;have:=of_decide_eq_true (h c hc);exact decide_eq_true (by omega)
theorem wS{c:Cq}(ok:AtOk c):PyData.strOk c.hd=true:=by
 cases ok with
 |w h =>
  have:∀s∈W6,PyData.strOk s=true:=by decide +kernel
  exact this _ h
 |num h =>
  rcases h with rfl|rfl
  ·exact(by decide +kernel:PyData.strOk "due" = true)
  ·exact(by decide +kernel:PyData.strOk "depth" = true)
 |item=>exact(by decide +kernel:PyData.strOk "beneath" = true)
 |says=>exact(by decide +kernel:PyData.strOk "says" = true)
theorem mz:∀{cs:List Cq},(∀c∈cs,c.dt.canLay0=true)->PyData.canLayAll0 (Cq.dtL cs)=true
 | [],_=>by rw[Cq.dtL];rfl
 |c::cs,h=>by rw[Cq.dtL,PyData.canLayAll0,h c zi,mz fun x hx=>h x (ze _ hx)];rfl
theorem my{n:Nat}:∀{cs:List Cq},(∀c∈cs,c.dt.depth<=n)->PyData.depthAll (Cq.dtL cs)<=n
 | [],_=>by rw[Cq.dtL];exact zW _
 |c::cs,h=>by rw[Cq.dtL,PyData.depthAll];have:=h c zi;have:=my (n:=n) fun x hx=>h x (ze c hx);omega
theorem Good.lay{h d:Nat}{c:Cq}(g:Good h d c):c.dt.canLay0=true:=by
 induction g with
 | «at» ok =>
  have a:=wS ok;cases ok with
  |w=>rw[Cq.dt];simp only[PyData.canLay0,PyData.canLayAll0,Ze];exact a
  |num=>rw[Cq.dt];simp only[PyData.canLay0,PyData.canLayAll0,Ze];exact a
  |item=>rw[Cq.dt];simp only[PyData.canLay0,PyData.canLayAll0,Ze];exact a
  |says h0 h1 h2 h3=>rw[Cq.dt];simp only[PyData.canLay0,PyData.canLayAll0,Ze];rw[uC h3,Ze];exact a
 |no g hd ih =>rw[Cq.dt];simp only[PyData.canLay0,PyData.canLayAll0,Ze];rw[ih];decide +kernel
 |@many h d o cs h1 h2 g hd ih =>rw[Cq.dt];simp only[PyData.canLay0,PyData.canLayAll0,Ze];rw[mz ih,Ze];cases o<;>decide +kernel
theorem Good.dep{h d:Nat}{c:Cq}(g:Good h d c):c.dt.depth<=4*d+(if c.isOr then 6 else if c.mny then 4 else 2):=by
 induction g with
 | «at» ok=>cases ok<;>(rw[Cq.dt];simp only[PyData.depth,PyData.depthAll,Cq.isOr,Cq.mny];simp)
 |@no h d d' c g hd ih =>
  rw[Cq.dt];simp only[PyData.depth,PyData.depthAll,Cq.isOr,Cq.mny];have:=g.hds.2.2;cases hm:c.mny with
  |false =>rw[hm]at hd ih;rw[this hm]at ih;simp at hd ih ⊢;omega
  |true =>
   rw[hm]at hd ih;simp at hd ⊢;have:c.dt.depth<=4*d+6:=by refine zm ih ?_;split<;>simp
   omega
 |@many h d o cs h1 h2 g hd ih =>
  rw[Cq.dt];simp only[PyData.depth,PyData.depthAll,Cq.isOr,Cq.mny];have key:PyData.depthAll (Cq.dtL cs)<=4*d+(if o then 4 else 2):=my fun c hc=>by
   have a:=ih c hc;have b:=hd c hc;have e:=(g c hc).hds.2.2;cases o with
   |true =>
    have hb:brk c (orW true)=c.isOr:=(g c hc).brkO;rw[hb]at a b;cases ho:c.isOr with
    |true =>have:=b ho;rw[ho]at a;simp at a ⊢;omega
    |false =>rw[ho]at a;simp at a ⊢;split at a<;>omega
   |false =>
    have hb:brk c (orW false)=c.mny:=(g c hc).brkA (by decide +kernel);rw[hb]at a b;cases hm:c.mny with
    |true =>have:=b hm;rw[hm]at a;simp at a ⊢;split at a<;>omega
    |false =>rw[hm,e hm]at a;simp at a ⊢;omega
  cases o
  ·simp at key ⊢;omega
  ·simp at key ⊢;omega
def quD(c:Cq)(key:Str)(back:Bool):PyData:=.tuple [.str "question",.tuple [c.dt,.str key,.bool back]]
def noD(n:Int):PyData:=.tuple [.str "no question",.int n]
theorem bP(n:Int):SeqAt.shaped (noD n)=true:=by unfold SeqAt.shaped noD;simp only[PyData.canLay0,PyData.canLayAll0,PyData.depth,PyData.depthAll,Ze];exact(by decide +kernel:(PyData.strOk "no question"&&decide (max 0 (max 0 0)+1<=64))=true)
theorem uS{key:Str}(hk:key∈aJ):PyData.strOk key=true:=by
 have:∀s∈aJ,PyData.strOk s=true:=by decide +kernel
 exact this key hk
theorem iU{h:Nat}{c:Cq}{key:Str}{back:Bool}(g:Good h 12 c)(hk:key∈aJ):SeqAt.shaped (quD c key back)=true:=by
 have a:=g.lay;have b:=g.dep;unfold SeqAt.shaped quD;simp only[PyData.canLay0,PyData.canLayAll0,PyData.depth,PyData.depthAll,Ze];rw[a,uS hk,zw];refine⟨by decide +kernel,decide_eq_true ?_⟩;have:c.dt.depth<=54:=by
  refine zm b ?_;split
  ·omega
  ·split<;>omega
 omega
theorem xg{H:Hp}{x y:Addr}{n m:Int}{Q:VK}(e:n=m)(hx:H x=some (.tup [.str "no question",.int n]))(hy:H y=some (.tup [.str "no question",.int m]))(q:Q (.bl true) H):rEqD (.ref x) (.ref y) H Q:=by subst e;refine⟨noD n,noD n,dt2 hx dtS dtI,dt2 hy dtS dtI,bP n,bP n,?_⟩;rw[SeqAt.eqv_refl _ (SeqAt.canLay_of_shaped (bP n))];exact q
theorem ku{H:Hp}{x y:Addr}{n m:Int}{Q:VK}(e:n=m)(hx:H x=some (.tup [.str "no question",.int n]))(hy:H y=some (.tup [.str "no question",.int m]))(q:Q (.bl false) H):rNeD (.ref x) (.ref y) H Q:=by subst e;refine⟨noD n,noD n,dt2 hx dtS dtI,dt2 hy dtS dtI,bP n,bP n,?_⟩;rw[SeqAt.eqv_refl _ (SeqAt.canLay_of_shaped (bP n))];exact q
theorem kC{H:Hp}{x a:Addr}{v:V}{c:Cq}{key:Str}{back:Bool}(hx:H x=some (.tup [.str "question",.ref a]))(ha:H a=some (.tup [v,.str key,.bl back]))(hc:CqAt H v c):Dt H (quD c key back) (.ref x):=dt2 hx dtS (dt3 ha hc.data dtS dtB)
theorem rS{H:Hp}{x y a b:Addr}{v u:V}{h:Nat}{c:Cq}{key:Str}{back:Bool}{Q:VK}(g:Good h 12 c)(hk:key∈aJ)(hx:H x=some (.tup [.str "question",.ref a]))(ha:H a=some (.tup [v,.str key,.bl back]))(hc:CqAt H v c)(hy:H y=some (.tup [.str "question",.ref b]))(hb:H b=some (.tup [u,.str key,.bl back]))(hd:CqAt H u c)(q:Q (.bl true) H):rEqD (.ref x) (.ref y) H Q:=by have s:=iU (back:=back) g hk;refine⟨_,_,kC hx ha hc,kC hy hb hd,s,s,?_⟩;rw[SeqAt.eqv_refl _ (SeqAt.canLay_of_shaped s)];exact q
theorem xz{H:Hp}{x y a b:Addr}{v u:V}{h:Nat}{c:Cq}{key:Str}{back:Bool}{Q:VK}(g:Good h 12 c)(hk:key∈aJ)(hx:H x=some (.tup [.str "question",.ref a]))(ha:H a=some (.tup [v,.str key,.bl back]))(hc:CqAt H v c)(hy:H y=some (.tup [.str "question",.ref b]))(hb:H b=some (.tup [u,.str key,.bl back]))(hd:CqAt H u c)(q:Q (.bl false) H):rNeD (.ref x) (.ref y) H Q:=by have s:=iU (back:=back) g hk;refine⟨_,_,kC hx ha hc,kC hy hb hd,s,s,?_⟩;rw[SeqAt.eqv_refl _ (SeqAt.canLay_of_shaped s)];exact q
structure ErQ(K:PySem.W.Frag)(cL cQ:Addr)(bQ:List Value)(os:List Addr):Prop where
 eQ:ExC K cQ bQ
 hQ:(Value.ref cQ::bQ).contains (.ref cL)=true
 ek:ExK K cQ
 kv:PySem.W.kitOne K (.ref cQ) (.type "ValueError")=some true
 kQ:PySem.W.kitOne K (.ref cQ) (.ref cQ)=some true
 ko:∀o∈os,PySem.W.kitOne K (.ref cQ) (.ref o)=some false
 dQ:PySem.W.hasDictIn K cQ=true
 aQ:NoAttr K cQ "at"
inductive spOthers(cQ:Addr)(vs:List V)(H:Hp)(Q:VK)(E_:XK):Prop
 |mk (e dd:Addr) (fs:List (Str×V)) (h0:vs=[.ref e]) (h1:H e=some (exD e cQ (some dd))) (h2:H dd=some (.xd fs)) (h3:Q (.bl false) H):spOthers cQ vs H Q E_
abbrev iu:Stmt:=top 39
abbrev ql:List Str:=["_law_e"]
theorem pT:FnScope ql ["_law_e"] (ah iu):=⟨rfl,rfl,rfl,by decide +kernel,rfl,by decide +kernel,by decide +kernel⟩
theorem pz{f cL cQ o1 o2 o3 o4 o5 o6 o7 o8 o9:Addr}{fd:FuncData}{bQ:List Value}(F:Fun K "_law_others" "_law_others" iu f fd)(R:ErQ K cL cQ bQ [o1,o2,o3,o4,o5,o6,o7,o8,o9])(u4:mg "NoDeed" = some (.ref o1))(u5:mg "NoText" = some (.ref o2))(x4:mg "Twin" = some (.ref o3))(xU:mg "Taken" = some (.ref o4))(u6:mg "NoItem" = some (.ref o5))(n9:mg "Beneath" = some (.ref o6))(yj:mg "Far" = some (.ref o7))(pi:mg "NoPlace" = some (.ref o8))(xV:mg "NoRow" = some (.ref o9))(a6:mg "isinstance" = none):FnOk P w K mg base CX0 1 f fd ["_law_e"] (spOthers cQ):=by
 refine F.okQ pT (fun vs H Q E h=>?_) (fun cdv A outer s H vs Q E hr h=>?_)
 ·obtain⟨e,dd,fs,rfl,_⟩:=h;rfl
 obtain⟨e,dd,fs,rfl,he,hd,q⟩:=h;refine⟨_,(b_c (ar (t_w (cP (aR (q_B bC a6 au (q_a (q_v 0) (q_a (cK u4) ae)))) (cP (aR (q_B bC a6 au (q_a (q_v 0) (q_a (cK u5) ae)))) (cP (aR (q_B bC a6 au (q_a (q_v 0) (q_a (cK x4) ae)))) (dB (aR (q_B bC a6 au (q_a (q_v 0) (q_a (cK xU) ae))))))))) (b_1 (aj bH)) b_0)
   (b_c (ar (t_w (cP (aR (q_B bC a6 au (q_a (q_v 0) (q_a (cK u6) ae)))) (cP (aR (q_B bC a6 au (q_a (q_v 0) (q_a (cK n9) ae)))) (dB (aR (q_B bC a6 au (q_a (q_v 0) (q_a (cK yj) ae)))))))) (b_1 (aj bH)) b_0)
   (b_1 (aj (vT (q_B bC a6 au (q_a (q_v 0) (q_a (cK pi) ae))) (kB (q_B bC a6 au (q_a (q_v 0) (q_a (cK xV) ae))))))))),?_⟩
 try rw[cxK]
 have one:∀{o:Addr},o∈[o1,o2,o3,o4,o5,o6,o7,o8,o9]->∃e' c dc,V.ref e=.ref e'/\H e'=some (exD e' c dc)/\qi H dc/\ExK K c/\PySem.W.kitOne K (.ref c) (.ref o)=some false:=fun ho=>⟨e,cQ,some dd,rfl,he,⟨fs,hd⟩,R.ek,R.ko _ ho⟩
 refine⟨_,rfl,_,_,_,_,rfl,(fun v hv=>hv),.inr (one (by simp)),⟨_,rfl,aq ⟨_,rfl,_,_,_,_,rfl,(fun v hv=>hv),.inr (one (by simp)),⟨_,rfl,aq ⟨_,rfl,_,_,_,_,rfl,(fun v hv=>hv),.inr (one (by simp)),⟨_,rfl,aq ⟨_,rfl,_,_,_,_,rfl,(fun v hv=>hv),.inr (one (by simp)),⟨_,rfl,aq ?_⟩⟩⟩⟩⟩⟩⟩⟩;refine⟨_,rfl,_,_,_,_,rfl,(fun v hv=>hv),.inr (one (by simp)),⟨_,rfl,aq ⟨_,rfl,_,_,_,_,rfl,(fun v hv=>hv),.inr (one (by simp)),⟨_,rfl,aq ⟨_,rfl,_,_,_,_,rfl,(fun v hv=>hv),.inr (one (by simp)),⟨_,rfl,aq ?_⟩⟩⟩⟩⟩⟩;exact⟨_,rfl,_,_,_,_,rfl,(fun v hv=>hv),.inr (one (by simp)),⟨_,rfl,aq ⟨_,rfl,_,_,_,_,rfl,(fun v hv=>hv),.inr (one (by simp)),q⟩⟩⟩
def WsOk(ws:List Str):Prop:=ws≠[]/\(∀x∈ws,Wd x)/\ws.length<=500
inductive spTold(vs:List V)(H:Hp)(Q:VK)(E_:XK):Prop
 |mk (L:Addr) (ws ws':List Str) (res:QRes) (h0:vs=[.ref L]) (h1:H L=some (.lst (ws.map V.str))) (hj:Str.join aP ws=Str.join aP ws') (hl:ws.length<=500) (hw:∀x∈ws,Wd x) (h2:WsOk ws') (h3:XQ XS ws' res)
   (h4:∀c key back,res=.ok c key back->∀t a v H',Same H H'->H' t=some (.tup [.str "question",.ref a])->H' a=some (.tup [v,.str key,.bl back])->CqAt H' v c->Q (.ref t) H')
   (h5:∀r,res=.bad r->∀t H',Same H H'->H' t=some (.tup [.str "no question",.int ((ws'.length:Int)-r.length)])->Q (.ref t) H'):spTold vs H Q E_
abbrev lP:Stmt:=top 40
abbrev ur:List Str:=["_law_words","_law_wrong","_law_found","_law_e"]
theorem dH:FnScope ur ["_law_words"] (ah lP):=⟨rfl,rfl,rfl,by decide +kernel,rfl,by decide +kernel,by decide +kernel⟩
theorem sX{f cL cQ:Addr}{fd:FuncData}{bL bQ:List Value}{os:List Addr}(F:Fun K "_law_told" "_law_told" lP f fd)(FX_read_question:FnX P w K mg base 45 "read_question" ["text"] (spQX cQ XS))(R:ErQ K cL cQ bQ os)(x5:ExC K cL bL)(j8:mg "LimbError" = some (.ref cL))(a8:mg "NoQuestion" = some (.ref cQ))(u7:Fn P w K mg base 1 "_law_others" ["_law_e"] (spOthers cQ))(a6:mg "isinstance" = none)(j1:mg "ValueError" = none)(b7:mg "int" = none)(x9:mg "bool" = none):FnOk P w K mg base CX0 46 f fd ["_law_words"] spTold:=by
 refine F.okQ dH (fun vs H Q E h=>?_) (fun cdv A outer s H vs Q E hr h=>?_)
 ·obtain⟨L,ws,ws',res,rfl,_⟩:=h;rfl
 obtain⟨L,ws,ws',res,rfl,eL,hj,hl,hw,⟨ne,hw',hl'⟩,hx,q,qe⟩:=h;refine⟨_,(b_c (am (i:=1) dH.nd fu)
   (b_c (am (i:=2) dH.nd fu)
   (b_c (vY rfl rfl (wc (i:=2) dH.nd (wL FX_read_question (hr.mono (by decide)) (q_a (pM ad (q_v 0)) ae))) (wR (i:=3) dH.nd x5 j8 (fun _=>(b_1 (am (i:=1) dH.nd (q_v 3))))))
   (b_c (ar (ak xk (q_v 1) fu) (b_1 (aj (ap (q_a ad (q_a (q_v 2) ae))))) b_0)
   (b_c (ar (t_w (cP (cU (aR (q_B bC a6 au (q_a (q_v 1) (q_a (cK a8) ae))))) (cP (cU (aR (q_B bC a6 au (q_a (q_v 1) (q_a (rj j1 iC) ae))))) (dB (aR (aH u7 (hr.mono (by decide)) (q_a (q_v 1) ae))))))) (b_1 (aj (ap (q_a ad (q_a fu ae))))) b_0)
   (b_c (ar (t_w (cP (cU (aR (q_B bC a6 au (q_a (lF (q_v 1)) (q_a (rj b7 cg) ae))))) (dB (aR (q_B bC a6 au (q_a (lF (q_v 1)) (q_a (rj x9 oA) ae))))))) (b_1 (aj (ap (q_a ad (q_a fu ae))))) b_0)
   (b_1 (aj (ap (q_a ad (q_a (lF (q_v 1)) ae))))))))))),?_⟩
 try rw[cxK]
 have fit:(ws.map (·.length)).sum+ws.length*(" ":Str).length<=16777216:=by
  have:∀{l:List Str},(∀x∈l,Wd x)->(l.map (·.length)).sum<=130*l.length:=fun{l} h=>by
   induction l with
   |nil=>simp
   |cons x l ih =>have a:=ih fun y hy=>h y (ze _ hy);have b:=(h x zi).1;simp only[zA,List.sum_cons,zh];omega
  have:=this hw;have e:(" ":Str).length=1:=rfl;rw[e];omega
 refine⟨rfl,_,rfl," ",L,ws,rfl,rfl,SqL.of eL,fit,?_⟩;rw[tj,show Str.join " " ws=Str.join aP ws' from hj];have jl:=dJ hw';refine⟨ws',res,rfl,ne,fun x hx=>(hw' x hx).2,by omega,by omega,hx,fun c key back er a v H1 s1 ea hc=>?_,fun r er H1 dd s1 hd=>?_⟩
 ·refine⟨_,rfl,rfl,⟨_,rfl,bO rfl ?_⟩⟩;refine⟨_,rfl,sz rfl,fun t gt=>?_⟩;have wt:=ac gt (.tup [.str "question",.ref a]);exact q c key back er t a v _ (s1.trans wt) aa (wt _ _ ea) (hc.ts fun a zs e=>wt _ _ e)
 ·refine⟨cQ,bQ,rfl,R.eQ,R.hQ,fun ea he=>⟨_,rfl,?_⟩⟩;have we:=ac he (exD ea cQ (some dd));have ee:upd H1 ea (exD ea cQ (some dd)) ea=some (exD ea cQ (some dd)):=aa;have s2:=s1.trans we;have hd2:=we _ _ hd;generalize upd H1 ea (exD ea cQ (some dd))=H2 at ee s2 hd2 ⊢;refine⟨_,rfl,rfl,_,rfl,xM (by intro z;cases z) ?_⟩;refine⟨_,rfl,_,_,_,_,rfl,(fun v hv=>hv),.inr ⟨ea,cQ,some dd,rfl,ee,⟨_,hd2⟩,R.ek,R.kQ⟩,_,rfl,aq ?_⟩;refine⟨_,rfl,_,_,_,_,rfl,(fun v hv=>hv),.inr ⟨ea,cQ,some dd,rfl,ee,⟨_,hd2⟩,R.ek,R.kv⟩,_,rfl,aq ?_⟩;refine⟨_,rfl,ea,dd,_,rfl,ee,hd2,_,rfl,aq ?_⟩;have fld:∀{Qf:VK},Qf (.int ((ws'.length:Int)-r.length)) H2->sd K (tVar 1) "at" [some (.ref L),some (.ref ea),some .non,none] H2 Qf:=fun qf=>⟨_,rfl,ea,cQ,dd,_,_,rfl,ee,hd2,R.ek,R.dQ,R.aQ,rfl,qf⟩
  refine fld ⟨.int ((ws'.length:Int)-r.length),.ty "int",.type "int",true,rfl,(fun v hv=>hv),.inl ⟨_,.int _,sO (H:=H2) (.int ((ws'.length:Int)-r.length))⟩,_,rfl,aq ?_⟩;refine fld ⟨.int ((ws'.length:Int)-r.length),.ty "bool",.type "bool",false,rfl,(fun v hv=>hv),.inl ⟨_,.int _,qL (H:=H2) (.int ((ws'.length:Int)-r.length))⟩,_,rfl,aq ?_⟩;refine fld ⟨sz rfl,fun t gt=>?_⟩;exact qe r er t _ (s2.trans (ac gt _)) aa
theorem jp(x:Str)(l:List Str):inV (.str x) (l.map V.str)=decide (x∈l):=by
 unfold inV;rw[Zi,Zf,List.any_eq_true];constructor
 ·rintro⟨v,hv,e⟩;obtain⟨y,hy,rfl⟩:=Zo.mp hv;have:y=x:=by simpa[eqV]using e
  rw[<-this];exact hy
 ·intro h;exact⟨.str x,Zo.mpr ⟨x,h,rfl⟩,by simp[eqV]⟩
inductive spIsq(vs:List V)(H:Hp)(Q:VK)(E_:XK):Prop
 |mk (L:Addr) (ws:List Str) (h0:vs=[.ref L]) (h1:H L=some (.lst (ws.map V.str))) (h2:∀H',Same H H'->Q (.bl (aG ws true 0)) H'):spIsq vs H Q E_
theorem wV{x:Str}{w:Bool}{d:Int}(h:x∈FW4):aG [x] w d=false:=by
 have:x≠"by":=by rintro rfl;revert h;decide +kernel
 show(if x="by" then false else if x∈FW4 then false else _)=false;rw[ym this,yn h]
abbrev dh:Stmt:=top 41
abbrev jZ:List Str:=["_law_words","_law_wanted","_law_depth","_law_k"]
theorem aL:FnScope jZ ["_law_words"] (ah dh):=⟨rfl,rfl,rfl,by decide +kernel,rfl,by decide +kernel,by decide +kernel⟩
theorem ju{f:Addr}{fd:FuncData}(F:Fun K "_law_is_question" "_law_is_question" dh f fd)(a5:mg "len" = none):FnOk P w K mg base CX0 1 f fd ["_law_words"] spIsq:=by
 refine F.okQ aL (fun vs H Q E h=>?_) (fun cdv A outer s H vs Q E hr h=>?_)
 ·obtain⟨L,ws,rfl,_⟩:=h;rfl
 obtain⟨L,ws,rfl,eL,q⟩:=h;refine⟨_,(b_c (am (i:=1) aL.nd bH)
   (b_c (am (i:=2) aL.nd af)
   (b_c (am (i:=3) aL.nd af)
   (b_c (jB PassesOwn.never (ak fQ (q_v 3) (q_B bf a5 zB (q_a (q_v 0) ae))) (b_c (ar (ak aI (aD aF (q_v 0) (q_v 3)) ad) (b_1 (aj (bo fQ (ai bB (q_v 3) af) (q_B bf a5 zB (q_a (q_v 0) ae))))) b_0)
   (b_c (ar (ak (nJ (K:=K) rfl) (aD aF (q_v 0) (q_v 3)) (ap (q_a ad (q_a ad (q_a ad (q_a ad ae)))))) (b_c (am (i:=1) aL.nd bH)
   (b_c (am (i:=3) aL.nd (ai bB (q_v 3) af))
   (b_1 (ar (ak aI (q_v 3) (q_B bf a5 zB (q_a (q_v 0) ae))) (b_1 (aj bH)) b_0)))) (b_1 (ar (ak aI (aD aF (q_v 0) (q_v 3)) ad) (b_1 (am (i:=2) aL.nd (ai bB (q_v 2) af))) (b_1 (ar (ak aI (aD aF (q_v 0) (q_v 3)) ad) (b_1 (am (i:=2) aL.nd (ai gy (q_v 2) af))) (b_1 (am (i:=1) aL.nd (bo (nJ (K:=K) rfl) (aD aF (q_v 0) (q_v 3)) (ap (q_a ad (q_a ad (q_a ad ae))))))))))))
   (b_1 (am (i:=3) aL.nd (ai bB (q_v 3) af))))))
   (b_1 (aj (kA (bo aI (q_v 2) af) (kB (rR (q_v 1)))))))))),?_⟩
 try rw[cxK]
 have ln:(ws.map V.str).length=ws.length:=za _;refine⟨fun m σ H'=>∃(k:Nat) (w:Bool) (d:Int),σ=[some (.ref L),some (.bl w),some (.int d),some (.int (k:Int))]/\k<=ws.length/\aG (ws.drop k) w d=aG ws true 0/\m=ws.length-k/\Same H H',⟨ws.length,0,true,0,rfl,zW _,rfl,rfl,Same.refl _⟩,?_⟩;rintro m σ H1 ⟨k,w,d,rfl,hk,ei,rfl,s1⟩;have eL1:=s1 _ _ eL;refine⟨_,rfl,_,rfl,L,_,rfl,.inl (SqL.of eL1),_,_,rfl,rfl,⟨_,rfl,aZ (fun c=>?_) (fun c=>?_)⟩⟩
 rotate_left
 ·have c:¬(k:Int)<((ws.map V.str).length:Int):=c;rw[ln]at c;have e:ws.drop k=[]:=List.drop_eq_nil_iff.mpr (by omega);rw[e]at ei;have q1:=q _ s1;rw[<-ei]at q1;have q1:Q (.bl (decide (d=0)&&!w)) H1:=q1;refine⟨_,rfl,rfl,_,rfl,?_⟩;by_cases z:d=0
  ·rw[decide_eq_true z]at q1;rw[decide_eq_true (show V.int d=V.int 0 by rw[z])];exact aX ⟨_,rfl,_,rfl,q1⟩
  ·rw[decide_eq_false z]at q1;rw[decide_eq_false (show¬V.int d=V.int 0 from fun y=>z (by injection y))];exact aq q1
 have c:(k:Int)<((ws.map V.str).length:Int):=c;rw[ln]at c;have hlt:k<ws.length:=by omega
 obtain⟨x,r,ex,er⟩:∃x r,ws.drop k=x::r/\ws.drop (k+1)=r:=⟨ws[k],ws.drop (k+1),Zh hlt,rfl⟩
 have hx:ws[k]?=some x:=by
  have:(ws.drop k)[0]?=some x:=by rw[ex];rfl
  rw[List.getElem?_drop]at this;exact this
 have hat:atI (ws.map V.str) (k:Int)=some (.str x):=dC (by rw[zL,hx];rfl);have lr:r.length=ws.length-(k+1):=by rw[<-er,zD]
 rw[ex]at ei;refine⟨_,fun σ' H' z=>z,?_⟩;have hix:∀{Hz:Hp} {Qx:VK} {a2 a3:Option V},Same H Hz->Qx (.str x) Hz->tOp (rIxL K) (tVar 0) (tVar 3) [some (.ref L),a2,a3,some (.int (k:Int))] Hz Qx:=fun sz qx=>⟨_,rfl,_,rfl,L,_,_,_,rfl,rfl,SqL.of (sz _ _ eL),hat,qx⟩
 refine fA (fun σ' H'=>∃(w':Bool) (d':Int),σ'=[some (.ref L),some (.bl w'),some (.int d'),some (.int (k:Int))]/\aG (x::r) w' d'=aG ws true 0/\Same H H'/\x≠"by") (fun R hR hrt=>?_) ?_
 ·refine hix s1 ⟨rfl,⟨_,rfl,aZ (fun cx=>?_) (fun cx=>hR _ _ ⟨w,d,rfl,ei,s1,fun z=>cx (by rw[z])⟩)⟩⟩;have cx:x="by":=by injection cx
  refine⟨_,rfl,_,_,rfl,rfl,_,rfl,L,_,rfl,.inl (SqL.of eL1),_,_,rfl,rfl,?_⟩;rw[hrt];have q1:=q _ s1;rw[<-ei,cx]at q1;show Q (.bl (decide ((k:Int)+1<((ws.map V.str).length:Int)))) H1;rw[ln];cases r with
  |nil =>rw[decide_eq_false (by simp at lr;omega)];exact q1
  |cons y r =>rw[le]at q1;rw[decide_eq_true (by simp at lr;omega)];exact q1
 rintro σ' H2 ⟨w',d',rfl,ei,s2,nby⟩;refine fA (fun σ' H'=>∃(w':Bool) (d':Int) (k':Nat),σ'=[some (.ref L),some (.bl w'),some (.int d'),some (.int (k':Int))]/\k<=k'/\k'<ws.length/\aG (ws.drop (k'+1)) w' d'=aG ws true 0/\Same H H') (fun R hR hrt=>?_) ?_
 rotate_left
 ·rintro σ' H3 ⟨w3,d3,k3,rfl,h1,h2,e3,s3⟩;refine⟨_,rfl,_,_,rfl,rfl,?_⟩;exact⟨ws.length-(k3+1),by omega,k3+1,w3,d3,rfl,by omega,e3,rfl,s3⟩
 refine hix s2 ⟨sz rfl,fun p2 g2=>?_⟩;have w2:=ac g2 (.tup [V.str "due",V.str "depth",V.str "beneath",V.str "says"]);have s3:=s2.trans w2;refine⟨p2,FW4.map V.str,rfl,.inr (SqT.of aa),rfl,rfl,⟨_,rfl,?_⟩⟩;generalize upd H2 p2 (.tup [V.str "due",V.str "depth",V.str "beneath",V.str "says"])=H3 at s3 ⊢;show if inV (.str x) (FW4.map V.str)=true then _ else _
 rw[jp];refine aZ (fun c4=>?_) (fun c4=>?_)
 ·refine⟨_,rfl,_,_,rfl,rfl,?_⟩;refine⟨_,rfl,_,rfl,L,_,rfl,.inl (SqL.of (s3 _ _ eL)),rfl,⟨_,rfl,aZ (fun ce=>?_) (fun ce=>?_)⟩⟩
  ·have ce:(k:Int)+1=((ws.map V.str).length:Int):=by injection ce
   rw[ln]at ce;have r0:r=[]:=List.length_eq_zero_iff.mp (by omega);rw[r0,wV c4]at ei;show R.rt (.bl false) H3;rw[hrt];have:=q _ s3;rw[<-ei]at this;exact this
  ·have ce:¬(k:Int)+1=(ws.length:Int):=fun z=>ce (by rw[ln,z]);refine hR _ _ ⟨false,d',k+1,rfl,by omega,by omega,?_,s3⟩;cases r with
   |nil=>simp at lr;omega
   |cons y r =>rw[fm c4]at ei;rw[<-ei];congr 1;rw[show k+1+1=(k+1)+1 from rfl,<-List.drop_drop (i:=1) (j:=k+1),er];rfl
 ·refine hix s3 ⟨rfl,⟨_,rfl,aZ (fun co=>?_) (fun co=>?_)⟩⟩
  ·have co:x=opn:=by injection co
   subst co;rw[lf]at ei;exact⟨_,rfl,_,_,rfl,rfl,hR _ _ ⟨w',d'+1,k,rfl,zd _,hlt,by rw[er];exact ei,s3⟩⟩
  ·have no:x≠opn:=fun z=>co (by rw[z];rfl);refine hix s3 ⟨rfl,⟨_,rfl,aZ (fun cc=>?_) (fun cc=>?_)⟩⟩
   ·have cc:x=cls:=by injection cc
    subst cc;rw[jO]at ei;exact⟨_,rfl,_,_,rfl,rfl,hR _ _ ⟨w',d'-1,k,rfl,zd _,hlt,by rw[er];exact ei,s3⟩⟩
   ·have nc:x≠cls:=fun z=>cc (by rw[z];rfl);rw[ie nby c4 no nc]at ei;refine hix s3 ⟨sz rfl,fun p4 g4=>?_⟩;have w4:=ac g4 (.tup [V.str "and",V.str "or",V.str "not"]);have s4:=s3.trans w4;refine⟨p4,OP3.map V.str,rfl,.inr (SqT.of aa),rfl,rfl,?_⟩;generalize upd H3 p4 (.tup [V.str "and",V.str "or",V.str "not"])=H4 at s4 ⊢;refine hR _ _ ⟨decide (x∈OP3),d',k,?_,zd _,hlt,by rw[er];exact ei,s4⟩;rw[show(if false=true then !inV (.str x) (OP3.map V.str)else inV (.str x) (OP3.map V.str))=decide (x∈OP3)from jp x OP3];rfl
theorem mE{l:List Str}(h:l≠[])(hf:∀p∈l,46∉p.cps.toList):du (Str.join (ch1 46) l)=iL l:=by unfold du;rw[show Txt.split (Str.join (ch1 46) l) "." = l from dA (c:=46) h hf]
theorem lg{x:Str}(h:46∉x.cps.toList):du x=false:=by
 have:=mE (l:=[x]) (by simp) fun p hp=>by rw[zk.mp hp];exact h
 exact this
theorem kW{x:Str}:∀{D:List (Str×TV)},(∀p∈D,p.1≠x)->PyProof.Rows.KTD.datumAt x D=none
 | [],_=>rfl
 |(y,d)::D,h=>by show(if decide (x=y)=true then some d else PyProof.Rows.KTD.datumAt x D)=none;rw[ym (by rw[Zf];exact fun z=>h (y,d) zi z.symm)];exact kW fun p hp=>h p (ze _ hp)
theorem sv{x:Str}(h:∀p∈FT,p.1≠x):PyProof.Rows.KTD.datumAt x FT=none:=kW h
theorem dI{x:Str}(h:x∈(["","zz","All","-1","07"]:List Str)):DeadW x:=by
 simp only[zl,zK,Zl]at h;rcases h with rfl|rfl|rfl|rfl|rfl
 all_goals exact⟨rfl,by decide +kernel,by decide +kernel,by decide +kernel,by decide +kernel,by decide +kernel,by decide +kernel,by decide +kernel,⟨by decide +kernel,by decide +kernel⟩,by decide +kernel,lg (by decide +kernel),by decide +kernel⟩
theorem sP{y x:Str}(h:20<y.length)(hx:x.length<=20):y≠x:=fun z=>by rw[z]at h;omega
theorem fL{y:Str}(h:60<y.length):aW y.cps.toList=false:=by unfold aW;have:y.cps.toList.length=y.length:=zP;rw[this,decide_eq_false (show¬y.length<=60 by omega)];simp
theorem oJ{y:Str}(h:60<y.length)(h2:y.length<=300)(h3:∀c∈y.cps.toList,c=49):DeadW y:=by
 have ne:∀x:Str,x.length<=20->y≠x:=fun x hx=>sP (by omega) hx;refine⟨sv ?_,ne _ (by decide +kernel),ne _ (by decide +kernel),ne _ (by decide +kernel),ne _ (by decide +kernel),ne _ (by decide +kernel),ne _ (by decide +kernel),ne _ (by decide +kernel),⟨h2,?_⟩,fL h,lg fun z=>?_,?_⟩
 ·have:∀p∈FT,p.1.length<=20:=by simp only[FT,zl,zK,Zl];rintro p (rfl|rfl|rfl|rfl|rfl|rfl|rfl|rfl|rfl|rfl)<;>decide +kernel
  exact fun p hp z=>ne p.1 (this p hp) z.symm
 ·rw[<-z6,zR];intro c hc;rw[h3 c hc];decide
 ·have:=h3 46 z;omega
 ·rw[jp];refine decide_eq_false fun z=>?_;have:∀k∈aJ,k.length<=20:=by decide +kernel
  exact ne y (this y z) rfl
structure BadN(w x:Str):Prop where
 k:∃k,PyProof.Rows.KTD.datumAt w FT=some (tf k)/\k≠"nothing"/\lA k x=false
 asc:Asc x
 ww:Wd w
 wx:Wd x
 hw:w≠aw/\w≠opn
inductive spBad(vs:List V)(H:Hp)(Q:VK)(E_:XK):Prop
 |mk (i:Int) (h0:vs=[.int i]) (h1:∀L w x H',Same H H'->H' L=some (.lst [.str w,.str x])->BadN w x->Q (.ref L) H'):spBad vs H Q E_
theorem bu{l:List Str}{x:Str}(e:x=Str.join (ch1 46) l)(h:l≠[])(hf:∀p∈l,46∉p.cps.toList)(hi:iL l=false)(asc:Asc x)(wx:Wd x):BadN "beneath" x :=
 ⟨⟨"item",rfl,by decide +kernel,by show du x=false;rw[e,mE h hf];exact hi⟩,asc,⟨by decide +kernel,by decide +kernel⟩,wx,by decide +kernel,by decide +kernel⟩
theorem mF{w x:Str}(hw:w="due"\/w="depth")(hx:aW x.cps.toList=false)(asc:Asc x)(wx:Wd x):BadN w x:=by
 rcases hw with rfl|rfl
 ·exact⟨⟨"number",rfl,by decide +kernel,hx⟩,asc,⟨by decide +kernel,by decide +kernel⟩,wx,by decide +kernel,by decide +kernel⟩
 ·exact⟨⟨"number",rfl,by decide +kernel,hx⟩,asc,⟨by decide +kernel,by decide +kernel⟩,wx,by decide +kernel,by decide +kernel⟩
theorem j2(a b:Str):Str.join (ch1 46) [a,b]=a++ch1 46++b:=rfl
abbrev dP:Stmt:=top 43
abbrev kG:List Str:=["_law_cell","_law_some","_law_other"]
theorem di:FnScope kG ["_law_cell"] (ah dP):=⟨rfl,rfl,rfl,by decide +kernel,rfl,by decide +kernel,by decide +kernel⟩
theorem kd{f:Addr}{fd:FuncData}(F:Fun K "_law_bad_number" "_law_bad_number" dP f fd):FnOk P w K mg base CX0 1 f fd ["_law_cell"] spBad:=by
 refine F.okQ di (fun vs H Q E h=>?_) (fun cdv A outer s H vs Q E hr h=>?_)
 ·obtain⟨i,rfl,_⟩:=h;rfl
 obtain⟨i,rfl,q⟩:=h;refine⟨_,(b_c (am (i:=1) di.nd (aA (q_a ad (q_a ad (q_a ad (q_a ad (q_a ad (q_a ad (q_a ad (q_a ad (q_a (ai bN ad (ai lE ad af)) (q_a ad (q_a ad ae)))))))))))))
   (b_c (am (i:=2) di.nd (aA (q_a ad (q_a ad (q_a (ai lE ad af) (q_a ad (q_a ad (q_a ad (q_a ad (q_a ad ae))))))))))
   (b_c (ar (ak aI (ai aK (q_v 0) af) af) (b_1 (aj (aA (q_a ad (q_a (aD aF (q_v 1) (ai aK (ai bw (q_v 0) af) af)) ae))))) b_0)
   (b_1 (aj (aA (q_a (aD aF (aA (q_a ad (q_a ad ae))) (ai aK (ai bw (q_v 0) af) af)) (q_a (aD aF (q_v 2) (ai aK (ai bw (q_v 0) af) af)) ae)))))))),?_⟩
 refine⟨"0",60,rfl,rfl,rfl,by decide,by decide,fun z lz hz=>?_⟩;have lz:z.length=60:=lz;have hz:∀c∈z.cps.toList,c=48:=fun c hc=>zk.mp (show c∈[48]from hz c hc);refine⟨_,_,rfl,rfl,bF ?_,sz rfl,fun p1 g1=>?_⟩
 ·rw[lz];decide +kernel
 refine⟨"1",61,rfl,rfl,rfl,by decide,by decide,fun y ly hy=>?_⟩;have ly:y.length=61:=ly;have hy:∀c∈y.cps.toList,c=49:=fun c hc=>zk.mp (show c∈[49]from hy c hc);refine⟨sz rfl,fun p2 g2=>?_⟩;have w1:=ac g1 (.lst [.str "0.07",.str "00.1",.str "0.0",.str "0.1.1",.str "0.",.str ".1",.str "1",.str "0.-1",.str ("0.1"++z),.str "x.1",.str ""]);have e1:upd H p1 (.lst [.str "0.07",.str "00.1",.str "0.0",.str "0.1.1",.str "0.",.str ".1",.str "1",.str "0.-1",.str ("0.1"++z),.str "x.1",.str ""]) p1=some (.lst [.str "0.07",.str "00.1",.str "0.0",.str "0.1.1",.str "0.",.str ".1",.str "1",.str "0.-1",.str ("0.1"++z),.str "x.1",.str ""]):=aa;generalize upd H p1 (.lst [.str "0.07",.str "00.1",.str "0.0",.str "0.1.1",.str "0.",.str ".1",.str "1",.str "0.-1",.str ("0.1"++z),.str "x.1",.str ""])=H1 at w1 e1 g2 ⊢;have w2:=ac g2 (.lst [.str "07",.str "-1",.str y,.str "",.str "x",.str "0.1",.str "+1",.str "00"]);have e2:upd H1 p2 (.lst [.str "07",.str "-1",.str y,.str "",.str "x",.str "0.1",.str "+1",.str "00"]) p2=some (.lst [.str "07",.str "-1",.str y,.str "",.str "x",.str "0.1",.str "+1",.str "00"]):=aa;generalize upd H1 p2 (.lst [.str "07",.str "-1",.str y,.str "",.str "x",.str "0.1",.str "+1",.str "00"])=H2 at w2 e2 ⊢;refine⟨_,rfl,_,_,rfl,rfl,(by show(0:Int)<2;decide),rfl,⟨_,rfl,eI (fun _=>?_) (fun _=>?_)⟩⟩
 ·obtain⟨x,hx,hb⟩:∃x:Str,atI [V.str "0.07",.str "00.1",.str "0.0",.str "0.1.1",.str "0.",.str ".1",.str "1",.str "0.-1",.str ("0.1"++z),.str "x.1",.str ""] (i / 2%11)=some (.str x)/\BadN "beneath" x:=by
   have:i / 2%11=0\/i / 2%11=1\/i / 2%11=2\/i / 2%11=3\/i / 2%11=4\/i / 2%11=5\/i / 2%11=6\/i / 2%11=7\/i / 2%11=8\/i / 2%11=9\/i / 2%11=10:=by omega
   rcases this with e|e|e|e|e|e|e|e|e|e|e<;>rw[e]
   ·exact⟨_,rfl,bu (l:=["0","07"]) (by decide +kernel) (by simp) (by decide +kernel) (by decide +kernel) ⟨by decide +kernel,by decide +kernel⟩ ⟨by decide +kernel,by decide +kernel⟩⟩
   ·exact⟨_,rfl,bu (l:=["00","1"]) (by decide +kernel) (by simp) (by decide +kernel) (by decide +kernel) ⟨by decide +kernel,by decide +kernel⟩ ⟨by decide +kernel,by decide +kernel⟩⟩
   ·exact⟨_,rfl,bu (l:=["0","0"]) (by decide +kernel) (by simp) (by decide +kernel) (by decide +kernel) ⟨by decide +kernel,by decide +kernel⟩ ⟨by decide +kernel,by decide +kernel⟩⟩
   ·exact⟨_,rfl,bu (l:=["0","1","1"]) (by decide +kernel) (by simp) (by decide +kernel) (by decide +kernel) ⟨by decide +kernel,by decide +kernel⟩ ⟨by decide +kernel,by decide +kernel⟩⟩
   ·exact⟨_,rfl,bu (l:=["0",""]) (by decide +kernel) (by simp) (by decide +kernel) (by decide +kernel) ⟨by decide +kernel,by decide +kernel⟩ ⟨by decide +kernel,by decide +kernel⟩⟩
   ·exact⟨_,rfl,bu (l:=["","1"]) (by decide +kernel) (by simp) (by decide +kernel) (by decide +kernel) ⟨by decide +kernel,by decide +kernel⟩ ⟨by decide +kernel,by decide +kernel⟩⟩
   ·exact⟨_,rfl,bu (l:=["1"]) (by decide +kernel) (by simp) (by decide +kernel) (by decide +kernel) ⟨by decide +kernel,by decide +kernel⟩ ⟨by decide +kernel,by decide +kernel⟩⟩
   ·exact⟨_,rfl,bu (l:=["0","-1"]) (by decide +kernel) (by simp) (by decide +kernel) (by decide +kernel) ⟨by decide +kernel,by decide +kernel⟩ ⟨by decide +kernel,by decide +kernel⟩⟩
   ·have l1:(("1":Str)++z).length=61:=by rw[z4,lz];decide +kernel
    have l3:(("0.1":Str)++z).length=63:=by rw[z4,lz];decide +kernel
    have e3:(("0.1":Str)++z).cps.toList=[48,46,49]++z.cps.toList:=by rw[aE];rfl
    refine⟨_,rfl,bu (l:=["0","1"++z]) ?_ (by simp) ?_ ?_ ⟨by rw[l3];decide,?_⟩ ⟨by rw[l3];decide,?_⟩⟩
    ·refine cF ?_;rw[e3,j2,aE,aE,aE];rfl
    ·intro p hp hm;simp only[zl,zK,Zl]at hp;rcases hp with rfl|rfl
     ·revert hm;decide +kernel
     ·rw[aE]at hm;rcases zy.mp hm with hm|hm
      ·revert hm;decide +kernel
      ·have:=hz 46 hm;omega
    ·show(aW ("0":Str).cps.toList&&(aW (("1":Str)++z).cps.toList&&!decide (("1":Str)++z="0")))=false;rw[fL (y:=("1":Str)++z) (by rw[l1];decide)];simp
    ·rw[<-z6,e3,zR];intro c hc;rcases zy.mp hc with hc|hc
     ·have:∀c∈[48,46,49],decide (c<128)=true:=by decide
      exact this c hc
     ·rw[hz c hc];decide
    ·rw[e3];intro hm;rcases zy.mp hm with hm|hm
     ·revert hm;decide
     ·have:=hz 32 hm;omega
   ·exact⟨_,rfl,bu (l:=["x","1"]) (by decide +kernel) (by simp) (by decide +kernel) (by decide +kernel) ⟨by decide +kernel,by decide +kernel⟩ ⟨by decide +kernel,by decide +kernel⟩⟩
   ·exact⟨_,rfl,bu (l:=[""]) (by decide +kernel) (by simp) (by decide +kernel) (by decide +kernel) ⟨by decide +kernel,by decide +kernel⟩ ⟨by decide +kernel,by decide +kernel⟩⟩
  refine⟨_,rfl,_,rfl,_,_,rfl,rfl,⟨by decide,by decide⟩,_,_,rfl,rfl,(by show(0:Int)<11;decide),p1,_,_,_,rfl,rfl,SqL.of (w2 _ _ e1),hx,sz rfl,fun p3 g3=>?_⟩;exact q p3 _ x _ (w1.trans (w2.trans (ac g3 _))) aa hb
 ·obtain⟨wd,hw,hwd⟩:∃wd:Str,atI [V.str "due",.str "depth"] (i / 2%2)=some (.str wd)/\(wd="due"\/wd="depth"):=by
   have:i / 2%2=0\/i / 2%2=1:=by omega
   rcases this with e|e<;>rw[e]
   ·exact⟨_,rfl,.inl rfl⟩
   ·exact⟨_,rfl,.inr rfl⟩
  obtain⟨x,hx,hb⟩:∃x:Str,atI [V.str "07",.str "-1",.str y,.str "",.str "x",.str "0.1",.str "+1",.str "00"] (i / 4%8)=some (.str x)/\BadN wd x:=by
   have:i / 4%8=0\/i / 4%8=1\/i / 4%8=2\/i / 4%8=3\/i / 4%8=4\/i / 4%8=5\/i / 4%8=6\/i / 4%8=7:=by omega
   rcases this with e|e|e|e|e|e|e|e<;>rw[e]
   rotate_left 2
   ·refine⟨y,rfl,mF hwd (fL (by omega)) ⟨by omega,?_⟩ ⟨by omega,fun z=>?_⟩⟩
    ·rw[<-z6,zR];intro c hc;rw[hy c hc];decide
    ·have:=hy 32 z;omega
   all_goals exact⟨_,rfl,mF hwd (by decide +kernel) ⟨by decide +kernel,by decide +kernel⟩ ⟨by decide +kernel,by decide +kernel⟩⟩
  refine⟨sz rfl,fun p3 g3=>?_⟩;have w3:=ac g3 (.lst [.str "due",.str "depth"]);refine⟨_,rfl,_,_,rfl,rfl,⟨by decide,by decide⟩,_,_,rfl,rfl,(by show(0:Int)<2;decide),p3,_,_,_,rfl,rfl,SqL.of aa,hw,?_⟩;refine⟨_,rfl,_,rfl,_,_,rfl,rfl,⟨by decide,by decide⟩,_,_,rfl,rfl,(by show(0:Int)<8;decide),p2,_,_,_,rfl,rfl,SqL.of (w3 _ _ e2),hx,sz rfl,fun p4 g4=>?_⟩;exact q p4 wd x _ (w1.trans (w2.trans (w3.trans (ac g4 _)))) aa hb
inductive spNested(vs:List V)(H:Hp)(Q:VK)(E_:XK):Prop
 |mk (i:Int) (m:Nat) (h0:vs=[.int i,.int (m:Int)]) (hm:m<=13) (h1:∀L ns H',Same H H'->H' L=some (.lst (ns.map V.str))->jb ns->ns.length=m->Q (.ref L) H'):spNested vs H Q E_
abbrev ir:Stmt:=top 45
abbrev qk:List Str:=["_law_cell","_law_many","_law_words","_law_k"]
theorem ez:FnScope qk ["_law_cell","_law_many"] (ah ir):=⟨rfl,rfl,rfl,by decide +kernel,rfl,by decide +kernel,by decide +kernel⟩
theorem px{f:Addr}{fd:FuncData}(F:Fun K "_law_nested" "_law_nested" ir f fd)(xW:mg "range" = none):FnOk P w K mg base CX0 1 f fd ["_law_cell","_law_many"] spNested:=by
 refine F.okQ ez (fun vs H Q E h=>?_) (fun cdv A outer s H vs Q E hr h=>?_)
 ·obtain⟨i,m,rfl,_⟩:=h;rfl
 obtain⟨i,m,rfl,hm,q⟩:=h;refine⟨_,(b_c (am (i:=2) ez.nd (aA ae))
   (b_c (nX PassesOwn.never rfl (uL xW (q_a (q_v 1) ae)) (br (i:=3) ez.nd) (b_c (cW (nU (q_v 2) (aD aF (aA (q_a ad (q_a ad ae))) (ai aK (ai bw (q_v 0) (ai kx af af)) af))))
   (b_1 (am (i:=0) ez.nd (ai bB (ai bw (q_v 0) af) (ai nL af (ai aK (ai nL (ai aK (q_v 0) af) af) af)))))))
   (b_1 (aj (q_v 2))))),?_⟩
 refine⟨sz rfl,fun L gL=>?_⟩;refine⟨_,rfl,_,rfl,by omega,by omega,?_⟩;rw[show(m:Int).toNat=m from Int.toNat_natCast _];refine nu (fun k σ' H'=>∃(c:Int) (ns:List Str) (x:Option V),σ'=[some (.int c),some (.int (m:Int)),some (.ref L),x]/\H' L=some (.lst (ns.map V.str))/\jb ns/\ns.length=k/\(∀b o,H b=some o->H' b=some o)) ?_ ?_ ?_
 ·exact⟨i,[],none,rfl,aa,fun _ h=>(by cases h),rfl,ac gL _⟩
 ·rintro k σ' H' hk ⟨c,ns,x,rfl,eL,hn,ln,s'⟩ D' hD;obtain⟨t,ht,hto⟩:∃t:Str,atI [V.str "not",.str "("] (c / 2^5%2)=some (.str t)/\(t=aw\/t=opn):=by
   have:c / 2^5%2=0\/c / 2^5%2=1:=by omega
   rcases this with e|e<;>rw[e]
   ·exact⟨_,rfl,.inl rfl⟩
   ·exact⟨_,rfl,.inr rfl⟩
  refine⟨_,rfl,.inl ⟨rfl,_,SqL.of eL⟩,sz rfl,fun p1 g1=>?_⟩;have w1:=ac g1 (.lst [.str "not",.str "("]);refine⟨_,rfl,_,_,rfl,rfl,⟨by decide,by decide,by decide⟩,_,_,rfl,rfl,⟨by decide,by decide⟩,_,_,rfl,rfl,(by show(0:Int)<2;decide),p1,_,_,_,rfl,rfl,SqL.of aa,ht,?_⟩;have eL1:=w1 _ _ eL;refine⟨L,_,.str t,rfl,rfl,eL1,Nat.lt_of_le_of_lt (m:=1000) (by rw[za];omega) (by decide),?_⟩;refine⟨_,rfl,_,_,rfl,rfl,⟨by decide,by decide⟩,_,rfl,_,_,rfl,rfl,(by show(0:Int)<32;decide),_,_,rfl,rfl,.inr ⟨by decide,by decide⟩,_,_,rfl,rfl,(by show(0:Int)<13;decide),_,_,rfl,rfl,.inl ⟨by decide,by decide⟩,_,_,rfl,rfl,?_⟩;refine hD _ _ ⟨_,ns++[t],_,rfl,by rw[aa,zJ];rfl,?_,by rw[zb,ln];rfl,fun b o e=>?_⟩
  ·intro y hy;rcases zy.mp hy with hy|hy
   ·exact hn y hy
   ·rw[zk.mp hy];exact hto
  ·rw[ag]
   ·exact w1 _ _ (s' _ _ e)
   ·rintro rfl;rw[gL]at e;cases e
 ·rintro σ' H' ⟨c,ns,x,rfl,eL,hn,ln,s'⟩;exact⟨_,rfl,q L ns H' s' eL hn ln⟩
theorem wv{x:Str}(h:x=aw\/x=opn):Wd x:=by rcases h with rfl|rfl<;>exact⟨by decide +kernel,by decide +kernel⟩
inductive spTails(vs:List V)(H:Hp)(Q:VK)(E_:XK):Prop
 |mk (L:Addr) (i:Int) (c:Cq) (h:Nat) (h0:vs=[.ref L,.int i]) (h1:H L=some (.lst (c.ws.map V.str))) (g:Good h 12 c) (hl:c.ws.length<=400) (h2:∀H',Same H H'->Q (.bl true) H'):spTails vs H Q E_
theorem WsOk.app{a b:List Str}(ha:∀x∈a,Wd x)(hb:∀x∈b,Wd x)(n:a≠[])(hl:a.length<=400)(hl2:b.length<=10):WsOk (a++b):=by
 refine⟨fun z=>n (zX.mp z).1,fun x hx=>?_,by rw[zb];omega⟩;rcases zy.mp hx with hx|hx
 ·exact ha x hx
 ·exact hb x hx
theorem fD{H:Hp}{L:Addr}{ws r:List Str}{Q:VK}{E:XK}(eL:H L=some (.lst (ws.map V.str)))(ok:WsOk ws)(hx:XQ XS ws (.bad r))(q:∀t H',Same H H'->H' t=some (.tup [.str "no question",.int ((ws.length:Int)-r.length)])->Q (.ref t) H'):spTold [.ref L] H Q E :=
 ⟨L,ws,ws,.bad r,rfl,eL,rfl,ok.2.2,ok.2.1,ok,hx,fun _ _ _ e=>(by cases e),fun r' e=>by cases e;exact q⟩
theorem wd4{l:List Str}(h:∀x∈l,x∈(["back","by","size","text","name","or"]:List Str)):∀x∈l,Wd x:=fun x hx=>by
 have:∀x∈(["back","by","size","text","name","or"]:List Str),x.length<=130/\32∉x.cps.toList:=by decide +kernel
 exact this x (h x hx)
abbrev jA:Stmt:=top 44
abbrev sj:List Str:=["_law_words","_law_cell","_law_many"]
theorem lS:FnScope sj ["_law_words","_law_cell"] (ah jA):=⟨rfl,rfl,rfl,by decide +kernel,rfl,by decide +kernel,by decide +kernel⟩
theorem qV{f:Addr}{fd:FuncData}(F:Fun K "_law_tails" "_law_tails" jA f fd)(a9:Fn P w K mg base 46 "_law_told" ["_law_words"] spTold)(j3:Fn P w K mg base 1 "_law_bad_number" ["_law_cell"] spBad)(a5:mg "len" = none):FnOk P w K mg base CX0 47 f fd ["_law_words","_law_cell"] spTails:=by
 refine F.okQ lS (fun vs H Q E h=>?_) (fun cdv A outer s H vs Q E hr h=>?_)
 ·obtain⟨L,i,c,h,rfl,_⟩:=h;rfl
 obtain⟨L,i,c,h,rfl,eL,g,hl,q⟩:=h;refine⟨_,(b_c (am (i:=2) lS.nd (q_B bf a5 zB (q_a (q_v 0) ae)))
   (b_c (ar (ak (eg hr.units) (aH a9 (hr.mono (by decide)) (q_a (ai bg (q_v 0) (aA (q_a ad ae))) ae)) (ap (q_a ad (q_a (q_v 2) ae)))) (b_1 (aj bH)) b_0)
   (b_c (ar (ak (eg hr.units) (aH a9 (hr.mono (by decide)) (q_a (ai bg (q_v 0) (aA (q_a ad (q_a ad (q_a ad (q_a ad ae)))))) ae)) (ap (q_a ad (q_a (ai bB (q_v 2) af) ae)))) (b_1 (aj bH)) b_0)
   (b_c (ar (ak (eg hr.units) (aH a9 (hr.mono (by decide)) (q_a (ai bg (q_v 0) (aA (q_a ad (q_a ad (q_a ad (q_a ad ae)))))) ae)) (ap (q_a ad (q_a (ai bB (q_v 2) af) ae)))) (b_1 (aj bH)) b_0)
   (b_c (ar (ak (eg hr.units) (aH a9 (hr.mono (by decide)) (q_a (ai bg (q_v 0) (aA (q_a ad (q_a ad ae)))) ae)) (ap (q_a ad (q_a (ai bB (q_v 2) af) ae)))) (b_1 (aj bH)) b_0)
   (b_1 (aj (bo (nI hr.units) (aH a9 (hr.mono (by decide)) (q_a (ai bg (ai bg (q_v 0) (aA (q_a ad ae))) (aH j3 (hr.mono (by decide)) (q_a (q_v 1) ae))) ae)) (ap (q_a ad (q_a (ai bB (q_v 2) af) ae))))))))))),?_⟩
 try rw[cxK]
 have wd:=g.words;have lm:(c.ws.map V.str).length=c.ws.length:=za _;have good:∀{r:List Str},r.headD ""≠"and"->r.headD ""≠"or"->XS 0 (c.ws++r) (.ok c r):=fun a b=>eR g a b;refine⟨_,rfl,L,_,rfl,.inl (SqL.of eL),?_⟩;rw[lm];have one:∀(ts r:List Str) (H1:Hp) (t1:Addr) (k:Int) (Q1:VK),Same H H1->(∀x∈ts,Wd x)->ts.length<=10->XQ XS (c.ws++ts) (.bad r)->(c.ws.length:Int)+ts.length-r.length=k->H1 t1=some (.lst (ts.map V.str))->(∀t H',Same H H'->H' t=some (.tup [.str "no question",.int k])->Q1 (.ref t) H')->rCat (.ref L) (.ref t1) H1 (fun v H2=>spTold [v] H2 Q1 E0):=by intro ts r H1 t1 k Q1 s1 wt lt hx ek et q1;refine⟨L,t1,_,_,rfl,rfl,s1 _ _ eL,et,aV (by rw[lm,za];omega),fun p2 g2=>?_⟩;have w2:=ac g2 (.lst (c.ws.map V.str++ts.map V.str));refine fD (ws:=c.ws++ts) (r:=r) (by rw[aa,zJ]) (WsOk.app wd.2 wt wd.1 hl lt) hx fun t H' s' et'=>q1 t H' (s1.trans (w2.trans s')) ?_;rw[et',zb,<-ek];congr 6
 have cmp:∀{t t':Addr} {H1:Hp} {k:Int} {Q1:VK},H1 t=some (.tup [.str "no question",.int k])->H1 t'=none->(∀H2,Same H1 H2->Q1 (.bl false) H2)->rNeD (.ref t) (.ref t') (upd H1 t' (.tup [.str "no question",.int k])) Q1:=fun e g q=>ku rfl (ac g _ _ _ e) aa (q _ (ac g _));refine⟨_,rfl,sz rfl,fun t1 g1=>one ["back"] ["back"] _ t1 c.ws.length _ (ac g1 _) (wd4 (by decide +kernel)) (by simp) (.more c _ (good (by decide +kernel) (by decide +kernel)) (by decide +kernel) (by simp)) (by simp) aa fun t H1 s1 e1=>?_⟩;refine⟨_,rfl,sz rfl,fun t' g'=>cmp e1 g' fun H2 s2=>⟨_,rfl,aq ?_⟩⟩;have s2:=s1.trans s2;clear e1 g' s1 g1;refine⟨_,rfl,sz rfl,fun t1 g1=>one ["by","size","back","back"] ["back"] _ t1 (c.ws.length+3) _ (s2.trans (ac g1 _)) (wd4 (by decide +kernel)) (by simp) (.back2 c "size" _ (good (by decide +kernel) (by decide +kernel)) (by decide +kernel) (by simp)) (by simp;omega) aa fun t H1 s1 e1=>?_⟩;refine⟨_,rfl,_,_,rfl,rfl,sz rfl,fun t' g'=>cmp e1 g' fun H3 s3=>⟨_,rfl,aq ?_⟩⟩;have s3:=s1.trans s3;clear e1 g' s1 g1 s2;refine⟨_,rfl,sz rfl,fun t1 g1=>one ["by","text","by","size"] ["by","size"] _ t1 (c.ws.length+2) _ (s3.trans (ac g1 _)) (wd4 (by decide +kernel)) (by simp) (.key2 c "text" _ (good (by decide +kernel) (by decide +kernel)) (by decide +kernel) (by decide +kernel) (by simp)) (by simp;omega) aa fun t H1 s1 e1=>?_⟩;refine⟨_,rfl,_,_,rfl,rfl,sz rfl,fun t' g'=>cmp e1 g' fun H4 s4=>⟨_,rfl,aq ?_⟩⟩;have s4:=s1.trans s4;clear e1 g' s1 g1 s3;refine⟨_,rfl,sz rfl,fun t1 g1=>one ["by","name"] ["name"] _ t1 (c.ws.length+1) _ (s4.trans (ac g1 _)) (wd4 (by decide +kernel)) (by simp) (.key c _ (good (by decide +kernel) (by decide +kernel)) (by decide +kernel)) (by simp;omega) aa fun t H1 s1 e1=>?_⟩;refine⟨_,rfl,_,_,rfl,rfl,sz rfl,fun t' g'=>cmp e1 g' fun H5 s5=>⟨_,rfl,aq ?_⟩⟩;have s5:=s1.trans s5;clear e1 g' s1 g1 s4;refine⟨_,rfl,sz rfl,fun t1 g1=>?_⟩;have w1:=ac g1 (.lst [.str "or"]);refine⟨L,t1,_,_,rfl,rfl,w1 _ _ (s5 _ _ eL),aa,aV (by rw[lm];simp;omega),fun p2 g2=>?_⟩;have w2:=ac g2 (.lst (c.ws.map V.str++[.str "or"]));have s6:=s5.trans (w1.trans w2);have e2:upd (upd H5 t1 (.lst [.str "or"])) p2 (.lst (c.ws.map V.str++[.str "or"])) p2=some (.lst (c.ws.map V.str++[.str "or"])):=aa;generalize upd (upd H5 t1 (.lst [.str "or"])) p2 (.lst (c.ws.map V.str++[.str "or"]))=H6 at s6 e2 ⊢;refine⟨_,rfl,i,rfl,fun L2 wb xb H7 s7 eb bn=>?_⟩;refine⟨p2,L2,_,_,rfl,rfl,s7 _ _ e2,eb,aV (by rw[zb,lm];simp;omega),fun p3 g3=>?_⟩;have w3:=ac g3 (.lst (c.ws.map V.str++[.str "or"]++[.str wb,.str xb]));obtain⟨⟨k,k1,k2,k3⟩,asc,ww,wx,hw⟩:=bn;refine fD (ws:=c.ws++[("or":Str),wb,xb]) (r:=[xb]) (by rw[aa,zJ,zp];rfl) (WsOk.app wd.2 (fun x hx=>?_) wd.1 hl (by simp)) (.bad0 _ (vq g (zd _) (.bad0 _ (.inr (.inr ⟨fun _=>hw,.bad2 wb k [xb] rfl k1 k2 asc k3⟩))))) fun t H8 s8 e8=>?_
 ·simp only[zl,zK,Zl]at hx;rcases hx with rfl|rfl|rfl
  ·exact⟨by decide +kernel,by decide +kernel⟩
  ·exact ww
  ·exact wx
 refine⟨_,rfl,_,_,rfl,rfl,sz rfl,fun t' g'=>?_⟩;refine xg ?_ (ac g' _ _ _ e8) aa (q _ (s6.trans (s7.trans (w3.trans (s8.trans (ac g' _))))));rw[zb];simp;omega
theorem fP(c:Cq)(x:Str):∀ns:List Str,bc (ns++[x]) c=if x=aw then .no (bc ns c)else bc ns c
 | []=>rfl
 |y::ns=>by
  show(if y=aw then Cq.no (bc (ns++[x]) c)else bc (ns++[x]) c)=if x=aw then Cq.no (if y=aw then .no (bc ns c)else bc ns c)else(if y=aw then .no (bc ns c)else bc ns c)
  rw[fP c x ns];split<;>split<;>rfl
theorem lC:∀ns:List Str,(bc ns (.w "all")).mny=false
 | []=>rfl
 |x::ns=>by
  show Cq.mny (if x=aw then .no (bc ns (.w "all"))else bc ns (.w "all"))=false;split
  ·rfl
  ·exact lC ns
theorem jR:∀ns:List Str,Good (ns.length+1) ns.length (bc ns (.w "all"))
 | []=>.at (.w (by decide +kernel))
 |x::ns=>by
  have ih:=jR ns;show Good _ _ (if x=aw then .no (bc ns (.w "all"))else bc ns (.w "all"));split
  ·exact .no ih (by rw[lC];simp)
  ·exact ih.mono (Nat.le_succ _) (Nat.le_succ _)
theorem iV(p:Str->Bool):∀l:List Str,((List.range l.length).filter fun i=>p ((l[i]?).getD "")).length=(l.filter p).length
 | []=>rfl
 |x::l=>by
  have ih:=iV p l;rw[zh,List.range_succ_eq_map,Zm,Zm];have e2:(((List.range l.length).map Nat.succ).filter fun i=>p (((x::l)[i]?).getD "")).length=((List.range l.length).filter fun i=>p ((l[i]?).getD "")).length:=by rw[List.filter_map,za];rfl
  show(if p x=true then _ else _:List Nat).length=(if p x=true then _ else _:List Str).length;split
  ·rw[zh,zh,e2,ih]
  ·rw[e2,ih]
inductive spDeepest(vs:List V)(H:Hp)(Q:VK)(E_:XK):Prop
 |mk (i:Int) (h0:vs=[.int i]) (h1:∀H',Same H H'->Q (.bl true) H'):spDeepest vs H Q E_
abbrev fY:Stmt:=top 46
abbrev oq:List Str:=["_law_cell","_law_words","_law_due","_law_word","_law_closed"]
theorem bS:FnScope oq ["_law_cell"] (ah fY):=⟨rfl,rfl,rfl,by decide +kernel,rfl,by decide +kernel,by decide +kernel⟩
theorem nO{f:Addr}{fd:FuncData}(F:Fun K "_law_deepest" "_law_deepest" fY f fd)(a9:Fn P w K mg base 46 "_law_told" ["_law_words"] spTold)(u8:Fn P w K mg base 1 "_law_nested" ["_law_cell","_law_many"] spNested):FnOk P w K mg base CX0 47 f fd ["_law_cell"] spDeepest:=by
 refine F.okQ bS (fun vs H Q E h=>?_) (fun cdv A outer s H vs Q E hr h=>?_)
 ·obtain⟨i,rfl,_⟩:=h;rfl
 obtain⟨i,rfl,q⟩:=h;refine⟨_,(b_c (am (i:=1) bS.nd (aH u8 (hr.mono (by decide)) (q_a (q_v 0) (q_a af ae))))
   (b_c (ar (ak (eg hr.units) (aH a9 (hr.mono (by decide)) (q_a (ai bg (q_v 1) (aA (q_a ad ae))) ae)) (ap (q_a ad (q_a af ae)))) (b_1 (aj bH)) b_0)
   (b_c (am (i:=2) bS.nd (ap (q_a ad ae)))
   (b_c (nX PassesOwn.never rfl (eS (cj bv (q_v 1) cy (bU af))) (br (i:=3) bS.nd) (b_1 (ar (ak aI (q_v 3) ad) (b_1 (am (i:=2) bS.nd (ap (q_a ad (q_a (q_v 2) ae))))) b_0)))
   (b_c (pS (j:=4) bS.nd (own:=["_law_word"]) (⟨rfl,by decide +kernel,by decide +kernel,rfl,trivial⟩:CompOk _ _ [] []) rfl (eS (cj bv (q_v 1) cy (bU af))) (fun _ _ _ _=>br (i:=0) (show (["_law_word"]:List Str).Nodup by decide +kernel)) (cn (by decide)) (fun _ _ _ _=>(uM (ak aI (q_v 0) ad))) (fun _ _ _ _=>ad))
   (b_1 (aj (bo (nI hr.units) (aH a9 (hr.mono (by decide)) (q_a (ai bg (ai bg (cj bv (q_v 1) cy (bU af)) (aA (q_a ad ae))) (q_v 4)) ae)) (ap (q_a ad (q_a (ap (q_a (q_v 2) (q_a ad (q_a bH ae)))) ae))))))))))),?_⟩
 try rw[cxK]
 refine⟨_,rfl,i,13,rfl,by decide,fun L ns H1 s1 eL hn ln=>?_⟩;obtain⟨x,ex⟩:∃x,ns=ns.take 12++[x]:=by
  have h12:12<ns.length:=by omega
  refine⟨ns[12],?_⟩;have:ns=ns.take 12++ns.drop 12:=(Zs _ _).symm;rw[Zh h12,List.drop_of_length_le (by omega)]at this;exact this
 have hx:x=aw\/x=opn:=hn x (by rw[ex];simp);have l12:(ns.take 12).length=12:=by rw[z8];omega
 have h12:jb (ns.take 12):=fun y hy=>hn y (List.mem_of_mem_take hy);have wdn:∀y∈ns,Wd y:=fun y hy=>wv (hn y hy);have wall:Wd "all":=⟨by decide +kernel,by decide +kernel⟩
 refine⟨_,rfl,sz rfl,fun t1 g1=>?_⟩;have w1:=ac g1 (.lst [.str "all"]);refine⟨L,t1,_,_,rfl,rfl,w1 _ _ eL,aa,aV (by rw[za];simp;omega),fun p2 g2=>?_⟩;have w2:=ac g2 (.lst (ns.map V.str++[.str "all"]));have bad:XQ XS (ns++[("all":Str)]) (.bad [x,"all"]):=by
  have b:=kX (us:=[x,"all"]) (r:=[x,"all"]) (ns.take 12) 1 0 h12 (by rw[l12];decide) (.inr (.inr ⟨fun z=>by rw[l12]at z;exact absurd z (by decide),.bad1 (by rcases hx with rfl|rfl<;>rfl)⟩));rw[l12]at b;have e:ns++[("all":Str)]=ns.take 12++[x,"all"]:=by have:=zS (·++[("all":Str)]) ex;refine this.trans ?_;show(ns.take 12++[x])++[("all":Str)]=_;rw[zp];rfl
  rw[e];exact .bad0 _ (.bad0 _ (.bad0 _ b))
 refine fD (ws:=ns++[("all":Str)]) (r:=[x,"all"]) (by rw[aa,zJ];rfl) (WsOk.app wdn (fun y hy=>by rw[zk.mp hy];exact wall) (fun z=>by rw[z]at ln;cases ln) (by omega) (by simp)) bad fun t H3 s3 e3=>?_;refine⟨sz rfl,fun t' g'=>?_⟩;have w4:=ac g' (.tup [.str "no question",.int 12]);refine ku ?_ (w4 _ _ e3) aa ⟨_,rfl,aq ?_⟩
 ·rw[zb];simp;omega
 have s4:=s1.trans (w1.trans (w2.trans (s3.trans w4)));have eL4:=(w1.trans (w2.trans (s3.trans w4))) _ _ eL;generalize upd H3 t' (.tup [.str "no question",.int 12])=H4 at s4 eL4 ⊢;clear w4 e3 s3 w2 w1 bad g' g1 g2;refine⟨sz rfl,fun t5 g5=>?_⟩;have w5:=ac g5 (.tup [.str "all"]);have e5:upd H4 t5 (.tup [.str "all"]) t5=some (.tup [.str "all"]):=aa;generalize upd H4 t5 (.tup [.str "all"])=H5 at w5 e5 ⊢;have cut12:bq (ns.map V.str) none (some 12)=(ns.take 12).map V.str:=by rw[kT (k:=12) (by decide) (by rw[za];omega),List.map_take];rfl
 refine⟨_,rfl,_,rfl,L,_,rfl,SqL.of (w5 _ _ eL4),fun p6 g6=>⟨p6,rfl,⟨_,SqL.of aa⟩,?_⟩⟩;rw[cut12];have w6:=ac g6 (.lst ((ns.take 12).map V.str));have e6:upd H5 p6 (.lst ((ns.take 12).map V.str)) p6=some (.lst ((ns.take 12).map V.str)):=aa;generalize upd H5 p6 (.lst ((ns.take 12).map V.str))=H6 at w6 e6 ⊢;refine jM (xs:=(ns.take 12).map V.str) (fun k σ' H'=>∃(v:V) (x:Option V),σ'=[some (.int i),some (.ref L),some v,x,none]/\Same H6 H'/\CqAt H' v (bc ((ns.take 12).take k) (.w "all"))) ?_ ?_ ?_ ?_
 ·exact⟨.ref t5,none,rfl,Same.refl _,.w (w6 _ _ e5)⟩
 ·rintro k σ' H' hk ⟨v,x,rfl,s',_⟩;exact SqL.of (s' _ _ e6)
 ·rintro k y σ' H' hy ⟨v,x0,rfl,s',hc⟩ D' hD;rw[zL]at hy;obtain⟨z,hz,rfl⟩:=Option.map_eq_some_iff.mp hy;have et:(ns.take 12).take (k+1)=(ns.take 12).take k++[z]:=by rw[List.take_succ,hz];rfl
  refine⟨_,rfl,rfl,⟨_,rfl,aZ (fun cz=>?_) (fun cz=>?_)⟩⟩
  ·have cz:z=aw:=by injection cz
   refine⟨_,rfl,sz rfl,fun t7 g7=>?_⟩;have w7:=ac g7 (.tup [.str "not",v]);refine hD _ _ ⟨.ref t7,_,rfl,s'.trans w7,?_⟩;rw[et,fP,yn cz];exact .no aa (hc.ts fun a zs e=>w7 _ _ e)
  ·refine hD _ _ ⟨v,_,rfl,s',?_⟩;rw[et,fP,ym (fun y=>cz (by rw[y];rfl))];exact hc
 rintro σ' H7 ⟨v,x1,rfl,s7,hc⟩;rw[za,List.take_length]at hc;have eL7:=s7 _ _ (w6 _ _ (w5 _ _ eL4));have s7':=s4.trans (w5.trans (w6.trans s7));clear s4 w5 w6 s7 e5 e6;refine⟨_,rfl,_,rfl,L,_,rfl,SqL.of eL7,fun p8 g8=>⟨p8,rfl,⟨_,SqL.of aa⟩,?_⟩⟩;rw[cut12];have w8:=ac g8 (.lst ((ns.take 12).map V.str));have e8:upd H7 p8 (.lst ((ns.take 12).map V.str)) p8=some (.lst ((ns.take 12).map V.str)):=aa;generalize upd H7 p8 (.lst ((ns.take 12).map V.str))=H8 at w8 e8 ⊢;refine eH (fun k=>decide ((((ns.take 12)[k]?).getD ("":Str))=opn)) (fun _=>.str ")") (by rw[za];omega) (SqL.of e8) (fun k y H9 hy sm A B hA hB=>?_) (fun p9 H9 s9 g9=>?_)
 ·rw[zL]at hy;obtain⟨z,hz,rfl⟩:=Option.map_eq_some_iff.mp hy;rw[hz]at hA hB;refine⟨_,rfl,rfl,⟨_,rfl,aZ (fun cz=>?_) (fun cz=>?_)⟩⟩
  ·exact hA (decide_eq_true (by injection cz)) _ (Same.refl _)
  ·exact hB (decide_eq_false fun y=>cz (by rw[show z=opn from y];rfl)) _ (Same.refl _)
 have ecl:((List.range ((ns.take 12).map V.str).length).filter fun k=>decide ((((ns.take 12)[k]?).getD ("":Str))=opn)).map (fun _=>V.str ")")=(List.replicate (bh (ns.take 12)) cls).map V.str:=by rw[List.map_const',List.map_replicate,za,iV fun x=>decide (x=opn)];rfl
 rw[ecl];have w9:=s9.trans (ac g9 (.lst ((List.replicate (bh (ns.take 12)) cls).map V.str)));have e9:upd H9 p9 (.lst ((List.replicate (bh (ns.take 12)) cls).map V.str)) p9=some (.lst ((List.replicate (bh (ns.take 12)) cls).map V.str)):=aa;generalize upd H9 p9 (.lst ((List.replicate (bh (ns.take 12)) cls).map V.str))=HA at w9 e9 ⊢;have eLA:=w9 _ _ (w8 _ _ eL7);have sA:=s7'.trans (w8.trans w9);have hcA:=(hc.ts fun a zs e=>w8 _ _ e).ts fun a zs e=>w9 _ _ e;have l9:bh (ns.take 12)<=12:=by unfold bh;exact zm (List.length_filter_le _ _) (by rw[l12];exact zd _)
 refine⟨_,rfl,_,rfl,L,_,rfl,SqL.of eLA,fun pB gB=>⟨sz rfl,fun pC gC=>?_⟩⟩;rw[cut12]at gC ⊢;have wB:=ac gB (.lst ((ns.take 12).map V.str));have wC:=ac gC (.lst [.str "all"]);refine⟨pB,pC,_,_,rfl,rfl,wC _ _ aa,aa,aV (by rw[za,l12];simp),fun pD gD=>?_⟩;have wD:=ac gD (.lst ((ns.take 12).map V.str++[.str "all"]));have sBD:=wB.trans (wC.trans wD);have eD:upd (upd (upd HA pB (.lst ((ns.take 12).map V.str))) pC (.lst [.str "all"])) pD (.lst ((ns.take 12).map V.str++[.str "all"])) pD=some (.lst ((ns.take 12).map V.str++[.str "all"])):=aa;generalize upd (upd (upd HA pB (.lst ((ns.take 12).map V.str))) pC (.lst [.str "all"])) pD (.lst ((ns.take 12).map V.str++[.str "all"]))=HD at sBD eD ⊢;refine⟨_,rfl,pD,p9,_,_,rfl,rfl,eD,sBD _ _ e9,aV (by rw[zb,za,za,Zq,l12];simp;omega),fun pE gE=>?_⟩;have wE:=ac gE (.lst ((ns.take 12).map V.str++[.str "all"]++(List.replicate (bh (ns.take 12)) cls).map V.str));have okq:XQ XS (ns.take 12++(("all":Str)::(List.replicate (bh (ns.take 12)) cls++[]))) (.ok (bc (ns.take 12) (.w "all")) "place" false):=by have b:=jm (ns.take 12) 0 0 [] h12 (by rw[l12];decide) (by decide +kernel) (by decide +kernel);rw[l12]at b;exact .ok _ [] _ _ (XM1 (o:=true) (XM1 (o:=false) b (by decide +kernel)) (by decide +kernel)) .none
 have wsok:WsOk (ns.take 12++(("all":Str)::(List.replicate (bh (ns.take 12)) cls++[]))):=by
  refine⟨by simp,fun y hy=>?_,by rw[zb,zh,zb,Zq,l12];simp;omega⟩;rcases zy.mp hy with hy|hy
  ·exact wdn y (List.mem_of_mem_take hy)
  ·rcases zl.mp hy with rfl|hy
   ·exact wall
   ·rw[zT]at hy;rw[(List.mem_replicate.mp hy).2];exact⟨by decide +kernel,by decide +kernel⟩
 refine⟨pE,_,_,_,rfl,?_,rfl,wsok.2.2,wsok.2.1,wsok,okq,fun c key back er t a u HF sF et ea hu=>?_,fun _ er=>by cases er⟩
 ·rw[aa,zJ,zA,zT,zp];rfl
 cases er;have hcF:=(((hcA.ts fun a zs e=>sBD _ _ e).ts fun a zs e=>wE _ _ e).ts fun a zs e=>sF _ _ e)
 refine⟨_,rfl,sz rfl,fun tG gG=>⟨sz rfl,fun tH gH=>?_⟩⟩;have wG:=ac gG (.tup [v,.str "place",.bl false]);have eG:upd HF tG (.tup [v,.str "place",.bl false]) tG=some (.tup [v,.str "place",.bl false]):=aa;generalize upd HF tG (.tup [v,.str "place",.bl false])=HG at wG eG gH ⊢;have wH:=ac gH (.tup [.str "question",.ref tG]);have gg:Good 13 12 (bc (ns.take 12) (.w "all")):=by have:=jR (ns.take 12);rw[l12]at this;exact this
 exact rS gg (by decide +kernel) (wH _ _ (wG _ _ et)) (wH _ _ (wG _ _ ea)) ((hu.ts fun a zs e=>wG _ _ e).ts fun a zs e=>wH _ _ e) aa (wH _ _ eG) ((hcF.ts fun a zs e=>wG _ _ e).ts fun a zs e=>wH _ _ e) (q _ (sA.trans (sBD.trans (wE.trans (sF.trans (wG.trans wH))))))
inductive SpAt(H:Hp)(t:Addr):Prop
 |none (L2:Addr) (h:H t=some (.tup [.ref L2,.non])):SpAt H t
 |bad (L2 p:Addr) (ws ws' r:List Str) (h:H t=some (.tup [.ref L2,.ref p])) (h1:H L2=some (.lst (ws.map V.str))) (hj:Str.join aP ws=Str.join aP ws') (hl:ws.length<=500) (hw:∀x∈ws,Wd x) (ok:WsOk ws') (hx:XQ XS ws' (.bad r)) (hp:H p=some (.tup [.str "no question",.int ((ws'.length:Int)-r.length)])):SpAt H t
inductive spSpoiled(vs:List V)(H:Hp)(Q:VK)(E_:XK):Prop
 |mk (L:Addr) (way cell:Int) (c:Cq) (h:Nat) (tl:List Str) (key:Str) (back:Bool) (h0:vs=[.ref L,.int way,.int cell]) (h1:H L=some (.lst ((c.ws++tl).map V.str))) (g:Good h 12 c) (hl:c.ws.length<=400) (tq:QTl tl key back) (hk:tl≠[]) (hw:0<=way/\way<4) (h2:∀t H',Same H H'->SpAt H' t->Q (.ref t) H'):spSpoiled vs H Q E_
theorem mR{r:List Str}{key:Str}{back:Bool}(h:QTl r key back):∀x∈r,Wd x:=by
 have kw:∀k∈aJ,k.length<=130/\32∉k.cps.toList:=by decide +kernel
 have b1:Wd "by":=⟨by decide +kernel,by decide +kernel⟩
 have b2:Wd "back":=⟨by decide +kernel,by decide +kernel⟩
 intro x hx;cases h with
 |none=>cases hx
 |key hk =>
  simp only[zl,zK,Zl]at hx;rcases hx with rfl|rfl
  ·exact b1
  ·exact kw _ hk
 |back hk =>
  simp only[zl,zK,Zl]at hx;rcases hx with rfl|rfl|rfl
  ·exact b1
  ·exact kw _ hk
  ·exact b2
theorem lU{r:List Str}{key:Str}{back:Bool}(h:QTl r key back):r.length<=3:=by cases h<;>simp
theorem cS{ws:List Str}{k:Nat}(h:k<=ws.length):bq (ws.map V.str) none (some (k:Int))=(ws.take k).map V.str:=by rw[kT (k:=(k:Int)) (by omega) (by rw[za];omega),List.map_take];rfl
theorem fE{ws:List Str}{k:Nat}(h:k<=ws.length):bq (ws.map V.str) (some (k:Int)) none=(ws.drop k).map V.str:=by rw[hZ (k:=(k:Int)) (by omega) (by rw[za];omega),List.map_drop];rfl
abbrev gc:Stmt:=top 42
abbrev ow:List Str:=["_law_words","_law_way","_law_cell","_law_at","_law_more","_law_word"]
theorem cE:FnScope ow ["_law_words","_law_way","_law_cell"] (ah gc):=⟨rfl,rfl,rfl,by decide +kernel,rfl,by decide +kernel,by decide +kernel⟩
theorem nQ{f:Addr}{fd:FuncData}(F:Fun K "_law_spoiled" "_law_spoiled" gc f fd)(i5:Fn P w K mg base 1 "_law_is_question" ["_law_words"] spIsq)(a5:mg "len" = none):FnOk P w K mg base CX0 2 f fd ["_law_words","_law_way","_law_cell"] spSpoiled:=by
 refine F.okQ cE (fun vs H Q E h=>?_) (fun cdv A outer s H vs Q E hr h=>?_)
 ·obtain⟨L,way,cell,c,h,tl,key,back,rfl,_⟩:=h;rfl
 obtain⟨L,way,cell,c,h,tl,key,back,rfl,eL,g,hl,tq,hk,hw,q⟩:=h;refine⟨_,(b_c (am (i:=3) cE.nd (ai aK (q_v 2) (q_B bf a5 zB (q_a (q_v 0) ae))))
   (b_c (am (i:=4) cE.nd (ai bw (q_v 2) (q_B bf a5 zB (q_a (q_v 0) ae))))
   (b_c (ar (ak aI (q_v 1) af) (b_c (am (i:=5) cE.nd (aD aF (aA (q_a ad (q_a ad (q_a ad (q_a ad (q_a ad (q_a (ai lE ad af) ae))))))) (ai aK (q_v 4) af)))
   (b_c (ar (t_w (cV (ak lD (q_v 3) af) (cH (ak aI (aD aF (q_v 0) (ai gy (q_v 3) af)) ad)))) (b_1 (am (i:=5) cE.nd ad)) b_0)
   (b_1 (aj (ap (q_a (ai bg (ai bg (cj bv (q_v 0) cy (bU (q_v 3))) (aA (q_a (q_v 5) ae))) (cj bv (q_v 0) (bU (ai bB (q_v 3) af)) cy)) (q_a (ap (q_a ad (q_a (q_v 3) ae))) ae))))))) b_0)
   (b_c (ar (ak aI (q_v 1) af) (b_1 (aj (ap (q_a (ai bg (ai bg (cj bv (q_v 0) cy (bU (q_v 3))) (aA (q_a ad ae))) (cj bv (q_v 0) (bU (q_v 3)) cy)) (q_a (ap (q_a ad (q_a (q_v 3) ae))) ae))))) b_0)
   (b_c (ar (ak aI (q_v 1) af) (b_1 (aj (ap (q_a (ai bg (q_v 0) (aA (q_a (aD aF (aA (q_a ad (q_a ad (q_a ad (q_a ad (q_a ad ae)))))) (ai aK (q_v 4) af)) ae))) (q_a (ap (q_a ad (q_a (q_B bf a5 zB (q_a (q_v 0) ae)) ae))) ae))))) b_0)
   (b_c (ar (aR (aH i5 (hr.mono (by decide)) (q_a (cj bv (q_v 0) cy (bU (q_v 3))) ae))) (b_1 (aj (ap (q_a (q_v 0) (q_a fu ae))))) b_0)
   (b_1 (aj (ap (q_a (cj bv (q_v 0) cy (bU (q_v 3))) (q_a (ap (q_a ad (q_a (q_v 3) ae))) ae))))))))))),?_⟩
 try rw[cxK]
 have wd:=g.words;have tw:=mR tq;have lt:=lU tq;have wdW:∀x∈c.ws++tl,Wd x:=fun x hx=>by
  rcases zy.mp hx with hx|hx
  ·exact wd.2 x hx
  ·exact tw x hx
 have neW:c.ws++tl≠[]:=fun z=>wd.1 (zX.mp z).1;have lW:(c.ws++tl).length<=403:=by rw[zb];omega
 have cutq:∀{pre post t:List Str},c.ws++tl=pre++post->post≠[]->Dead pre t->XQ XS (pre++t) (.bad t)\/(t=[]/\∃c k b,XQ XS (pre++t) (.ok c k b)):=fun e hp dd=>wQ g tq hk e hp dd;have moreq:∀{x:Str},x≠"back"->XQ XS (c.ws++tl++[x]) (.bad [x]):=fun hx=>uV g tq hk hx;generalize c.ws++tl=W at eL wdW neW lW cutq moreq;clear g hl tq hk wd tw lt;have lm:(W.map V.str).length=W.length:=za _;have pos:0<W.length:=List.length_pos_iff.mpr neW;have posI:(0:Int)<(W.length:Int):=by omega
 refine⟨_,rfl,_,rfl,L,_,rfl,.inl (SqL.of eL),_,_,rfl,rfl,(by show(0:Int)<((W.map V.str).length:Int);rw[lm];exact posI),?_⟩;refine⟨_,rfl,_,rfl,L,_,rfl,.inl (SqL.of eL),_,_,rfl,rfl,⟨by rw[lm];exact posI,by rw[lm];omega⟩,?_⟩;rw[lm];obtain⟨k,hk,hkl⟩:∃k:Nat,cell%(W.length:Int)=(k:Int)/\k<W.length:=by have a:=Zr cell (show(W.length:Int)≠0 by omega);have b:=Zg cell posI;exact⟨(cell%(W.length:Int)).toNat,by omega,by omega⟩
 rw[hk];generalize cell / (W.length:Int)=more;have eW:W=W.take k++W.drop k:=(Zs _ _).symm;have nd:W.drop k≠[]:=fun z=>by have:=zS List.length z;rw[zD]at this;simp at this;omega
 have lk:(W.take k).length=k:=by rw[z8];omega
 have wsk:∀ {t:List Str},(∀ x∈t,Wd x)->t.length<=410->W.take k++t≠[]->(W.take k++t).length<=500->WsOk (W.take k++t):=fun ht hl hn hz=>⟨hn,fun x hx=>by
  rcases zy.mp hx with hx|hx
  ·exact wdW x (List.mem_of_mem_take hx)
  ·exact ht x hx,hz⟩
 have tD:∀x∈W.drop (k+1),Wd x:=fun x hx=>wdW x (List.mem_of_mem_drop hx);have tD0:∀x∈W.drop k,Wd x:=fun x hx=>wdW x (List.mem_of_mem_drop hx);refine⟨_,rfl,rfl,⟨_,rfl,eI (fun c0=>?_) (fun c0=>?_)⟩⟩
 ·
  refine⟨"1",61,rfl,rfl,rfl,by decide,by decide,fun y ly hy=>?_⟩;have ly:y.length=61:=ly;have hy:∀c∈y.cps.toList,c=49:=fun c hc=>zk.mp (show c∈[49]from hy c hc);obtain⟨x0,hx0,dx0,wx0⟩:∃x0:Str,atI [V.str "",.str "zz",.str "All",.str "-1",.str "07",.str y] (more%6)=some (.str x0)/\DeadW x0/\Wd x0:=by
   have:more%6=0\/more%6=1\/more%6=2\/more%6=3\/more%6=4\/more%6=5:=by omega
   rcases this with e|e|e|e|e|e<;>rw[e]
   rotate_left 5
   ·refine⟨y,rfl,oJ (by omega) (by omega) hy,by omega,fun z=>?_⟩;have:=hy 32 z;omega
   all_goals exact⟨_,rfl,dI (by decide +kernel),by decide +kernel,by decide +kernel⟩
  refine⟨sz rfl,fun p1 g1=>?_⟩;have w1:=ac g1 (.lst [.str "",.str "zz",.str "All",.str "-1",.str "07",.str y]);refine⟨_,rfl,_,_,rfl,rfl,(by show(0:Int)<6;decide),p1,_,_,_,rfl,rfl,SqL.of aa,hx0,?_⟩;generalize upd H p1 (.lst [.str "",.str "zz",.str "All",.str "-1",.str "07",.str y])=H1 at w1 ⊢;have eL1:=w1 _ _ eL;dsimp only[bD];refine mL (fun σ' H'=>∃x:Str,σ'=[some (.ref L),some (.int way),some (.int cell),some (.int (k:Int)),some (.int more),some (.str x)]/\H'=H1/\DeadW x/\Wd x/\(x=""\/(W.take k).getLast?≠some "says")) (fun R hR=>?_) ?_
  ·have d0:DeadW "":=dI (by decide +kernel);refine⟨_,rfl,_,_,rfl,rfl,⟨_,rfl,aZ (fun ck=>?_) (fun ck=>aq (hR _ _ ⟨x0,rfl,rfl,dx0,wx0,.inr ?_⟩))⟩⟩
   ·have ck:(k:Int)>0:=ck;have hp:W[k-1]?=some W[k-1]:=zx (by omega);refine⟨_,rfl,_,rfl,_,_,rfl,rfl,L,_,_,.str W[k-1],rfl,rfl,SqL.of eL1,?_,rfl,⟨_,rfl,aZ (fun cs=>?_) (fun cs=>hR _ _ ⟨x0,rfl,rfl,dx0,wx0,.inr fun z=>cs ?_⟩)⟩⟩
    ·rw[show(k:Int)-1=((k-1:Nat):Int) by omega];exact dC (by rw[zL,hp];rfl)
    ·exact hR _ _ ⟨"",rfl,rfl,d0,⟨by decide +kernel,by decide +kernel⟩,.inl rfl⟩
    ·rw[List.getLast?_eq_getElem?,lk,List.getElem?_take,yn (by omega),hp]at z;injection z with z;rw[z]
   ·have ck:¬(k:Int)>0:=ck;have k0:k=0:=by omega
    rw[k0];intro z;cases z
  rintro σ' H' ⟨x,rfl,rfl,dx,wx,hs⟩;have bad:XQ XS (W.take k++x::W.drop (k+1)) (.bad (x::W.drop (k+1))):=by
   rcases cutq eW nd (t:=x::W.drop (k+1)) ⟨dx,hs⟩with b|⟨z,_⟩
   ·exact b
   ·cases z
  refine⟨_,rfl,_,rfl,_,rfl,L,_,rfl,SqL.of eL1,fun p2 g2=>?_⟩;rw[cS (Zn hkl)];have w2:=ac g2 (.lst ((W.take k).map V.str));have e2:upd H' p2 (.lst ((W.take k).map V.str)) p2=some (.lst ((W.take k).map V.str)):=aa;generalize upd H' p2 (.lst ((W.take k).map V.str))=H2 at w2 e2 ⊢;refine⟨_,rfl,sz rfl,fun p3 g3=>?_⟩;have w3:=ac g3 (.lst [.str x]);refine⟨p2,p3,_,_,rfl,rfl,w3 _ _ e2,aa,aV (by rw[za,lk];simp;omega),fun p4 g4=>?_⟩;have w4:=ac g4 (.lst ((W.take k).map V.str++[.str x]));have s4:=w2.trans (w3.trans w4);have e4:upd (upd H2 p3 (.lst [.str x])) p4 (.lst ((W.take k).map V.str++[.str x])) p4=some (.lst ((W.take k).map V.str++[.str x])):=aa;generalize upd (upd H2 p3 (.lst [.str x])) p4 (.lst ((W.take k).map V.str++[.str x]))=H4 at s4 e4 ⊢;refine⟨_,rfl,_,rfl,_,_,rfl,rfl,_,rfl,L,_,rfl,SqL.of (s4 _ _ eL1),fun p5 g5=>?_⟩;rw[show(k:Int)+1=((k+1:Nat):Int) by omega,fE (show k+1<=W.length by omega)];have w5:=ac g5 (.lst ((W.drop (k+1)).map V.str));refine⟨p4,p5,_,_,rfl,rfl,w5 _ _ e4,aa,aV (by rw[zb,za,za,zD,lk];simp;omega),fun p6 g6=>?_⟩;have w6:=ac g6 (.lst ((W.take k).map V.str++[.str x]++(W.drop (k+1)).map V.str));have s6:=w5.trans w6;have e6:upd (upd H4 p5 (.lst ((W.drop (k+1)).map V.str))) p6 (.lst ((W.take k).map V.str++[.str x]++(W.drop (k+1)).map V.str)) p6=some (.lst ((W.take k++x::W.drop (k+1)).map V.str)):=by rw[aa,zJ,zp];rfl
  generalize upd (upd H4 p5 (.lst ((W.drop (k+1)).map V.str))) p6 (.lst ((W.take k).map V.str++[.str x]++(W.drop (k+1)).map V.str))=H6 at s6 e6 ⊢;refine⟨_,rfl,sz rfl,fun p7 g7=>⟨sz rfl,fun p8 g8=>?_⟩⟩;have w7:=ac g7 (.tup [.str "no question",.int (k:Int)]);have e7:upd H6 p7 (.tup [.str "no question",.int (k:Int)]) p7=some (.tup [.str "no question",.int (k:Int)]):=aa;generalize upd H6 p7 (.tup [.str "no question",.int (k:Int)])=H7 at w7 e7 g8 ⊢;have w8:=ac g8 (.tup [.ref p6,.ref p7]);have lz:(W.take k++x::W.drop (k+1)).length=W.length:=by rw[zb,zh,zD,lk];omega
  have ok:WsOk (W.take k++x::W.drop (k+1)):=wsk (fun y hy=>by
   rcases zl.mp hy with rfl|hy
   ·exact wx
   ·exact tD y hy) (by rw[zh,zD];omega) (by simp) (by omega)
  refine q p8 _ (w1.trans (s4.trans (s6.trans (w7.trans w8)))) (.bad p6 p7 _ _ _ aa (w8 _ _ (w7 _ _ e6)) rfl ok.2.2 ok.2.1 ok bad ?_);rw[w8 _ _ e7,lz,zh,zD];congr 6;omega
 refine⟨_,rfl,rfl,⟨_,rfl,eI (fun c1=>?_) (fun c1=>?_)⟩⟩
 ·
  have bad:XQ XS (W.take k++("":Str)::W.drop k) (.bad (""::W.drop k)):=by
   rcases cutq eW nd (t:=""::W.drop k) ⟨dI (x:="") (by decide +kernel),.inl rfl⟩with b|⟨z,_⟩
   ·exact b
   ·cases z
  refine⟨_,rfl,_,rfl,_,rfl,L,_,rfl,SqL.of eL,fun p2 g2=>?_⟩;rw[cS (Zn hkl)];have w2:=ac g2 (.lst ((W.take k).map V.str));have e2:upd H p2 (.lst ((W.take k).map V.str)) p2=some (.lst ((W.take k).map V.str)):=aa;generalize upd H p2 (.lst ((W.take k).map V.str))=H2 at w2 e2 ⊢;refine⟨sz rfl,fun p3 g3=>?_⟩;have w3:=ac g3 (.lst [.str ""]);refine⟨p2,p3,_,_,rfl,rfl,w3 _ _ e2,aa,aV (by rw[za,lk];simp;omega),fun p4 g4=>?_⟩;have w4:=ac g4 (.lst ((W.take k).map V.str++[.str ""]));have s4:=w2.trans (w3.trans w4);have e4:upd (upd H2 p3 (.lst [.str ""])) p4 (.lst ((W.take k).map V.str++[.str ""])) p4=some (.lst ((W.take k).map V.str++[.str ""])):=aa;generalize upd (upd H2 p3 (.lst [.str ""])) p4 (.lst ((W.take k).map V.str++[.str ""]))=H4 at s4 e4 ⊢;refine⟨_,rfl,_,rfl,_,rfl,L,_,rfl,SqL.of (s4 _ _ eL),fun p5 g5=>?_⟩;rw[fE (Zn hkl)];have w5:=ac g5 (.lst ((W.drop k).map V.str));refine⟨p4,p5,_,_,rfl,rfl,w5 _ _ e4,aa,aV (by rw[zb,za,za,zD,lk];simp;omega),fun p6 g6=>?_⟩;have w6:=ac g6 (.lst ((W.take k).map V.str++[.str ""]++(W.drop k).map V.str));have s6:=w5.trans w6;have e6:upd (upd H4 p5 (.lst ((W.drop k).map V.str))) p6 (.lst ((W.take k).map V.str++[.str ""]++(W.drop k).map V.str)) p6=some (.lst ((W.take k++("":Str)::W.drop k).map V.str)):=by rw[aa,zJ,zp];rfl
  generalize upd (upd H4 p5 (.lst ((W.drop k).map V.str))) p6 (.lst ((W.take k).map V.str++[.str ""]++(W.drop k).map V.str))=H6 at s6 e6 ⊢;refine⟨_,rfl,sz rfl,fun p7 g7=>⟨sz rfl,fun p8 g8=>?_⟩⟩;have w7:=ac g7 (.tup [.str "no question",.int (k:Int)]);have e7:upd H6 p7 (.tup [.str "no question",.int (k:Int)]) p7=some (.tup [.str "no question",.int (k:Int)]):=aa;generalize upd H6 p7 (.tup [.str "no question",.int (k:Int)])=H7 at w7 e7 g8 ⊢;have w8:=ac g8 (.tup [.ref p6,.ref p7]);have lz:(W.take k++("":Str)::W.drop k).length=W.length+1:=by rw[zb,zh,zD,lk];omega
  have ok:WsOk (W.take k++("":Str)::W.drop k):=wsk (fun y hy=>by
   rcases zl.mp hy with rfl|hy
   ·exact⟨by decide +kernel,by decide +kernel⟩
   ·exact tD0 y hy) (by rw[zh,zD];omega) (by simp) (by omega)
  refine q p8 _ (s4.trans (s6.trans (w7.trans w8))) (.bad p6 p7 _ _ _ aa (w8 _ _ (w7 _ _ e6)) rfl ok.2.2 ok.2.1 ok bad ?_);rw[w8 _ _ e7,lz,zh,zD];congr 6;omega
 refine⟨_,rfl,rfl,⟨_,rfl,eI (fun c2=>?_) (fun c2=>?_)⟩⟩
 ·
  obtain⟨x,hx,nx,wx⟩:∃x:Str,atI [V.str ")",.str "(",.str "all",.str "not",.str ""] (more%5)=some (.str x)/\x≠"back"/\Wd x:=by
   have:more%5=0\/more%5=1\/more%5=2\/more%5=3\/more%5=4:=by omega
   rcases this with e|e|e|e|e<;>rw[e]<;>exact⟨_,rfl,by decide +kernel,by decide +kernel,by decide +kernel⟩
  refine⟨_,rfl,sz rfl,fun p1 g1=>?_⟩;have w1:=ac g1 (.lst [.str ")",.str "(",.str "all",.str "not",.str ""]);refine⟨_,rfl,_,_,rfl,rfl,(by show(0:Int)<5;decide),p1,_,_,_,rfl,rfl,SqL.of aa,hx,sz rfl,fun p3 g3=>?_⟩;generalize upd H p1 (.lst [.str ")",.str "(",.str "all",.str "not",.str ""])=H1 at w1 g3 ⊢;have w3:=ac g3 (.lst [.str x]);have eL3:=w3 _ _ (w1 _ _ eL);refine⟨L,p3,_,_,rfl,rfl,eL3,aa,aV (by rw[lm];simp;omega),fun p4 g4=>?_⟩;have w4:=ac g4 (.lst (W.map V.str++[.str x]));have s4:=w1.trans (w3.trans w4);have eL4:=w4 _ _ eL3;have e4:upd (upd H1 p3 (.lst [.str x])) p4 (.lst (W.map V.str++[.str x])) p4=some (.lst ((W++[x]).map V.str)):=by rw[aa,zJ];rfl
  generalize upd (upd H1 p3 (.lst [.str x])) p4 (.lst (W.map V.str++[.str x]))=H4 at s4 e4 eL4 ⊢;refine⟨_,rfl,L,_,rfl,.inl (SqL.of eL4),sz rfl,fun p7 g7=>⟨sz rfl,fun p8 g8=>?_⟩⟩;rw[lm]at g8 ⊢;have w7:=ac g7 (.tup [.str "no question",.int (W.length:Int)]);have e7:upd H4 p7 (.tup [.str "no question",.int (W.length:Int)]) p7=some (.tup [.str "no question",.int (W.length:Int)]):=aa;generalize upd H4 p7 (.tup [.str "no question",.int (W.length:Int)])=H7 at w7 e7 g8 ⊢;have w8:=ac g8 (.tup [.ref p4,.ref p7]);have ok:WsOk (W++[x]):=⟨by simp,fun y hy=>by
   rcases zy.mp hy with hy|hy
   ·exact wdW y hy
   ·rw[zk.mp hy];exact wx,by rw[zb];simp;omega⟩
  refine q p8 _ (s4.trans (w7.trans w8)) (.bad p4 p7 _ _ _ aa (w8 _ _ (w7 _ _ e4)) rfl ok.2.2 ok.2.1 ok (moreq nx) ?_);rw[w8 _ _ e7,zb];congr 6;simp
 ·
  refine⟨_,rfl,_,rfl,_,rfl,L,_,rfl,SqL.of eL,fun p2 g2=>?_⟩;rw[cS (Zn hkl)];have w2:=ac g2 (.lst ((W.take k).map V.str));have e2:upd H p2 (.lst ((W.take k).map V.str)) p2=some (.lst ((W.take k).map V.str)):=aa;generalize upd H p2 (.lst ((W.take k).map V.str))=H2 at w2 e2 ⊢;refine⟨p2,W.take k,rfl,e2,fun H3 s3=>⟨_,rfl,?_⟩⟩;have s3:=w2.trans s3;cases ei:aG (W.take k) true 0 with
  |true =>refine aX ⟨_,rfl,sz rfl,fun p4 g4=>?_⟩;exact q p4 _ (s3.trans (ac g4 _)) (.none L aa)
  |false =>
   refine aq ?_;refine⟨_,rfl,_,rfl,_,rfl,L,_,rfl,SqL.of (s3 _ _ eL),fun p5 g5=>?_⟩;rw[cS (Zn hkl)];have w5:=ac g5 (.lst ((W.take k).map V.str));have e5:upd H3 p5 (.lst ((W.take k).map V.str)) p5=some (.lst ((W.take k).map V.str)):=aa;generalize upd H3 p5 (.lst ((W.take k).map V.str))=H5 at w5 e5 ⊢;refine⟨_,rfl,sz rfl,fun p7 g7=>⟨sz rfl,fun p8 g8=>?_⟩⟩;have w7:=ac g7 (.tup [.str "no question",.int (k:Int)]);have e7:upd H5 p7 (.tup [.str "no question",.int (k:Int)]) p7=some (.tup [.str "no question",.int (k:Int)]):=aa;generalize upd H5 p7 (.tup [.str "no question",.int (k:Int)])=H7 at w7 e7 g8 ⊢;have w8:=ac g8 (.tup [.ref p5,.ref p7]);have sz:=s3.trans (w5.trans (w7.trans w8));have d0:DeadW "":=dI (by decide +kernel);have wt:∀x∈W.take k,Wd x:=fun x hx=>wdW x (List.mem_of_mem_take hx);by_cases k0:k=0
   ·subst k0;have bad:XQ XS [""] (.bad [""]):=by
     rcases cutq eW nd (t:=[""]) ⟨d0,.inl rfl⟩with b|⟨z,_⟩
     ·exact b
     ·cases z
    have ok:WsOk [""]:=⟨by simp,fun y hy=>by rw[zk.mp hy];exact⟨by decide +kernel,by decide +kernel⟩,by simp⟩
    exact q p8 _ sz (.bad p5 p7 (W.take 0) [""] [""] aa (w8 _ _ (w7 _ _ e5)) rfl (by simp) wt ok bad (by rw[w8 _ _ e7];rfl))
   ·have nt:W.take k≠[]:=fun z=>by have:=zS List.length z;rw[lk]at this;exact k0 this
    have bad:XQ XS (W.take k) (.bad []):=by
     rcases cutq eW nd (t:=[]) ⟨d0,.inl rfl⟩with b|⟨_,c',k',b',z⟩
     ·rw[zT]at b;exact b
     ·rw[zT]at z;rw[wW z]at ei;cases ei
    have ok:WsOk (W.take k):=⟨nt,wt,by rw[lk];omega⟩
    refine q p8 _ sz (.bad p5 p7 _ _ _ aa (w8 _ _ (w7 _ _ e5)) rfl ok.2.2 ok.2.1 ok bad ?_);rw[w8 _ _ e7,lk];congr 6
theorem qA{ns:List Int}(a b:Nat)(h:a<=b):∃ms:List Int,bq (ns.map V.int) (some (a:Int)) (some (b:Int))=ms.map V.int/\ms.length<=b-a:=by unfold bq;rw[HT.sIx_nat,HT.sIx_nat,<-List.map_drop,<-List.map_take];refine⟨_,rfl,?_⟩;rw[z8];omega
theorem qK(i:Int):∃key:Str,atI [V.str "place",.str "text",.str "size",.str "depth",.str "due"] (i%5)=some (.str key)/\key∈aJ:=by
 have:i%5=0\/i%5=1\/i%5=2\/i%5=3\/i%5=4:=by omega
 rcases this with e|e|e|e|e<;>rw[e]
 ·exact⟨"place",rfl,by decide +kernel⟩
 ·exact⟨"text",rfl,by decide +kernel⟩
 ·exact⟨"size",rfl,by decide +kernel⟩
 ·exact⟨"depth",rfl,by decide +kernel⟩
 ·exact⟨"due",rfl,by decide +kernel⟩
abbrev gO:Stmt:=top 47
abbrev wM:List Str:=["_law_script","_law_condition","_law_words","_law_key","_law_back","_law_due","_law_wrong","_law_told_here"]
theorem cD:FnScope wM ["_law_script"] (ah gO):=⟨rfl,rfl,rfl,by decide +kernel,rfl,by decide +kernel,by decide +kernel⟩
theorem uZ{f:Addr}{fd:FuncData}(F:Fun K "law" "law" gO f fd)(c8:Fn P w K mg base 1 "_law_cell_at" ["_law_script","_law_k"] (pV K))(ya:Fn P w K mg base 3 "_law_tree" ["_law_cells","_law_names"] (spTree K))(n8:Fn P w K mg base 127 "_law_line" ["_law_condition"] (spWC 63))(a9:Fn P w K mg base 46 "_law_told" ["_law_words"] spTold)(xX:Fn P w K mg base 47 "_law_tails" ["_law_words","_law_cell"] spTails)(q0:Fn P w K mg base 47 "_law_deepest" ["_law_cell"] spDeepest)(r6:Fn P w K mg base 2 "_law_spoiled" ["_law_words","_law_way","_law_cell"] spSpoiled)(b7:mg "int" = none):FnOk P w K mg base CX0 128 f fd ["_law_script"] (kD K):=by
 refine F.okQ cD (fun vs H Q E h=>?_) (fun cdv A outer s H vs Q E hr h=>?_)
 ·obtain⟨a,ns,rfl,_⟩:=h;rfl
 obtain⟨a,ns,rfl,hS,h63,q⟩:=h;refine⟨_,(b_c (am (i:=1) cD.nd (aH ya (hr.mono (by decide)) (q_a (cj bv (q_v 0) (bU af) (bU af)) (q_a (aA ae) ae))))
   (b_c (am (i:=2) cD.nd (gN (aH n8 (hr.mono (by decide)) (q_a (q_v 1) ae)) ad))
   (b_c (ar (cU (aR (aH xX (hr.mono (by decide)) (q_a (q_v 2) (q_a (aH c8 (hr.mono (by decide)) (q_a (q_v 0) (q_a af ae))) ae))))) (b_1 (aj bH)) b_0)
   (b_c (am (i:=3) cD.nd (aD aF (aA (q_a ad (q_a ad (q_a ad (q_a ad (q_a ad ae)))))) (ai aK (aH c8 (hr.mono (by decide)) (q_a (q_v 0) (q_a af ae))) af)))
   (b_c (am (i:=4) cD.nd (bo aI (ai aK (ai bw (aH c8 (hr.mono (by decide)) (q_a (q_v 0) (q_a af ae))) af) af) af))
   (b_c (am (i:=2) cD.nd (ai bg (ai bg (q_v 2) (aA (q_a ad (q_a (q_v 3) ae)))) (cj bv (aA (q_a ad ae)) cy (bU (db mX b7 cg (q_a (q_v 4) ae))))))
   (b_c (am (i:=5) cD.nd (ap (q_a ad (q_a (ap (q_a (q_v 1) (q_a (q_v 3) (q_a (q_v 4) ae)))) ae))))
   (b_c (ar (t_w (cP (ak (eg hr.units) (aH a9 (hr.mono (by decide)) (q_a (q_v 2) ae)) (q_v 5)) (dB (cU (aR (aH q0 (hr.mono (by decide)) (q_a (aH c8 (hr.mono (by decide)) (q_a (q_v 0) (q_a af ae))) ae))))))) (b_1 (aj bH)) b_0)
   (b_c (ar (ak (eg hr.units) (aH a9 (hr.mono (by decide)) (q_a (aA (q_a ad ae)) ae)) (ap (q_a ad (q_a af ae)))) (b_1 (aj bH)) b_0)
   (b_c (rV (aH r6 (hr.mono (by decide)) (q_a (q_v 2) (q_a (ai aK (aH c8 (hr.mono (by decide)) (q_a (q_v 0) (q_a af ae))) af) (q_a (aH c8 (hr.mono (by decide)) (q_a (q_v 0) (q_a af ae))) ae)))) (nz rfl (fM (br (i:=6) cD.nd) (fM (br (i:=7) cD.nd) nA))))
   (b_c (ar (t_w (cV (ak uY (q_v 7) fu) (cH (ak (eg hr.units) (aH a9 (hr.mono (by decide)) (q_a (q_v 6) ae)) (q_v 7))))) (b_1 (aj bH)) b_0)
   (b_1 (aj (bo (nI hr.units) (aH a9 (hr.mono (by decide)) (q_a (q_v 2) ae)) (q_v 5))))))))))))))),?_⟩
 try rw[cxK]
 refine⟨_,rfl,_,rfl,_,rfl,a,_,rfl,hS,fun p2 g2=>⟨sz rfl,fun p3 g3=>?_⟩⟩;obtain⟨ms,em,lm⟩:=qA (ns:=ns) 5 35 (by decide);have w2:=ac g2 (.lst (bq (ns.map V.int) (some 5) (some 35)));have e2:upd H p2 (.lst (bq (ns.map V.int) (some 5) (some 35))) p2=some (.lst (ms.map V.int)):=by rw[aa];exact zS (fun l=>some (HO.lst l)) em
 generalize upd H p2 (.lst (bq (ns.map V.int) (some 5) (some 35)))=H2 at w2 e2 g3 ⊢;have w3:=ac g3 (.lst []);refine⟨p2,p3,ms,rfl,SqL.of (w3 _ _ e2),aa,by omega,fun v c H4 s4 hc g l4=>?_⟩;generalize upd H2 p3 (.lst [])=H3 at w3 s4;have hS4:=s4.seq (w3.seq (w2.seq hS));have wd:=g.words;clear w2 w3 s4 e2 g2 g3;refine⟨_,rfl,v,c,12,rfl,hc,g,by omega,fun H5 s5=>?_⟩;have hc5:=hc.ts fun a zs e=>s5 _ _ e;have hS5:=s5.seq hS4;have ll:=g.lineLen (by omega);refine⟨rfl,_," ",rfl,rfl,rfl,?_,fun L6 g6=>?_⟩
 ·have:c.line.length<=131*c.ws.length:=dJ wd.2;omega
 rw[show Txt.split c.line " " = c.ws from dA (c:=32) wd.1 fun x hx=>(wd.2 x hx).2];have w6:=ac g6 (.lst (c.ws.map V.str));have e6:upd H5 L6 (.lst (c.ws.map V.str)) L6=some (.lst (c.ws.map V.str)):=aa;have hS6:=w6.seq hS5;have hc6:=hc5.ts fun a zs e=>w6 _ _ e;generalize upd H5 L6 (.lst (c.ws.map V.str))=H6 at w6 e6 hS6 hc6 ⊢;clear w6 hc5 hS5 hc hS4 s5 g6;refine⟨_,rfl,_,rfl,a,ns,4,rfl,hS6,by decide,L6,_,c,63,rfl,e6,g,l4,fun H7 s7=>⟨_,rfl,aq ?_⟩⟩;have hS7:=s7.seq hS6;have hc7:=hc6.ts fun a zs e=>s7 _ _ e;have e7:=s7 _ _ e6;obtain⟨key,hkey,hk5⟩:=qK (bJ ns 0);refine⟨sz rfl,fun p1 g1=>⟨_,rfl,a,ns,0,rfl,(ac g1 _).seq hS7,Int.le_refl _,_,_,rfl,rfl,(by show(0:Int)<5;decide),p1,_,_,_,rfl,rfl,SqL.of aa,hkey,?_⟩⟩;have w1:=ac g1 (.lst [.str "place",.str "text",.str "size",.str "depth",.str "due"]);generalize upd H7 p1 (.lst [.str "place",.str "text",.str "size",.str "depth",.str "due"])=H8 at w1 ⊢;have hS8:=w1.seq hS7;have hc8:=hc7.ts fun a zs e=>w1 _ _ e;have e8:=w1 _ _ e7;clear hS7 hc7 e7 w1 s7 hS6 hc6 e6;refine⟨_,rfl,a,ns,0,rfl,hS8,Int.le_refl _,_,_,rfl,rfl,⟨by decide,by decide⟩,_,_,rfl,rfl,(by show(0:Int)<2;decide),rfl,?_⟩;generalize decide (V.int (bJ ns (Int.toNat 0) / 5%2)=V.int 1)=back;refine⟨_,rfl,_,rfl,sz rfl,fun p9 g9=>?_⟩;have w9:=ac g9 (.lst [.str "by",.str key]);refine⟨L6,p9,_,_,rfl,rfl,w9 _ _ e8,aa,aV (by rw[za];simp;omega),fun pA gA=>?_⟩;have wA:=ac gA (.lst (c.ws.map V.str++[.str "by",.str key]));have sA:=w9.trans wA;have eA:upd (upd H8 p9 (.lst [.str "by",.str key])) pA (.lst (c.ws.map V.str++[.str "by",.str key])) pA=some (.lst (c.ws.map V.str++[.str "by",.str key])):=aa;generalize upd (upd H8 p9 (.lst [.str "by",.str key])) pA (.lst (c.ws.map V.str++[.str "by",.str key]))=HA at sA eA ⊢;refine⟨sz rfl,fun pB gB=>?_⟩;have wB:=ac gB (.lst [.str "back"]);refine⟨_,rfl,.inr ⟨back,rfl,_,rfl,pB,_,rfl,SqL.of aa,fun pC gC=>?_⟩⟩;have ecut:bq [V.str "back"] none (some (if back=true then 1 else 0))=(if back then[("back":Str)]else[]).map V.str:=by cases back<;>rfl
 rw[ecut];have wC:=ac gC (.lst ((if back then[("back":Str)]else[]).map V.str));refine⟨pA,pC,_,_,rfl,rfl,wC _ _ (wB _ _ eA),aa,aV (by rw[zb,za,za];cases back<;>simp<;>omega),fun pD gD=>?_⟩;have wD:=ac gD (.lst (c.ws.map V.str++[.str "by",.str key]++(if back then[("back":Str)]else[]).map V.str));have sD:=sA.trans (wB.trans (wC.trans wD));obtain⟨tl,etl,tq⟩:∃tl:List Str,tl=("by":Str)::key::(if back then[("back":Str)]else[])/\QTl tl key back:=by
  cases back
  ·exact⟨_,rfl,.key hk5⟩
  ·exact⟨_,rfl,.back hk5⟩
 have eD:upd (upd (upd HA pB (.lst [.str "back"])) pC (.lst ((if back then[("back":Str)]else[]).map V.str))) pD (.lst (c.ws.map V.str++[.str "by",.str key]++(if back then[("back":Str)]else[]).map V.str)) pD=some (.lst ((c.ws++tl).map V.str)):=by rw[aa,zJ,etl,zp];rfl
 generalize upd (upd (upd HA pB (.lst [.str "back"])) pC (.lst ((if back then[("back":Str)]else[]).map V.str))) pD (.lst (c.ws.map V.str++[.str "by",.str key]++(if back then[("back":Str)]else[]).map V.str))=HD at sD eD ⊢;have hSD:=sD.seq hS8;have hcD:=hc8.ts fun a zs e=>sD _ _ e;have hkt:tl≠[]:=by rw[etl];simp
 have lt:=lU tq;have wdW:∀x∈c.ws++tl,Wd x:=fun x hx=>by
  rcases zy.mp hx with hx|hx
  ·exact wd.2 x hx
  ·exact mR tq x hx
 have okW:WsOk (c.ws++tl):=⟨fun z=>wd.1 (zX.mp z).1,wdW,by rw[zb];omega⟩
 have okQ:=uJ g tq;clear sD sA eA e8 hS8 hc8 etl wB wC wD w9 wA;refine⟨_,rfl,_,rfl,_,rfl,sz rfl,fun tE gE=>⟨sz rfl,fun tF gF=>?_⟩⟩;have wE:=ac gE (.tup [v,.str key,.bl back]);have eE:upd HD tE (.tup [v,.str key,.bl back]) tE=some (.tup [v,.str key,.bl back]):=aa;generalize upd HD tE (.tup [v,.str key,.bl back])=HE at wE eE gF ⊢;have wF:=ac gF (.tup [.str "question",.ref tE]);have eF:upd HE tF (.tup [.str "question",.ref tE]) tF=some (.tup [.str "question",.ref tE]):=aa;generalize upd HE tF (.tup [.str "question",.ref tE])=HF at wF eF ⊢;have eEF:=wF _ _ eE;have eDF:=wF _ _ (wE _ _ eD);have hSF:=wF.seq (wE.seq hSD);have hcF:=(hcD.ts fun a zs e=>wE _ _ e).ts fun a zs e=>wF _ _ e;clear hSD hcD wE wF eE eD gE gF;refine⟨_,rfl,⟨pD,_,_,_,rfl,eDF,rfl,okW.2.2,okW.2.1,okW,okQ,fun c' key' back' er t b u HG sG et eb hu=>?_,fun _ er=>(by cases er)⟩⟩;cases er;refine⟨_,rfl,xz g hk5 et eb hu (sG _ _ eF) (sG _ _ eEF) (hcF.ts fun a zs e=>sG _ _ e) ⟨_,rfl,aq ?_⟩⟩;have hSG:=sG.seq hSF;refine⟨_,rfl,a,ns,1,rfl,hSG,by decide,_,rfl,fun HH sH=>⟨_,rfl,aq ?_⟩⟩;have sGH:=sG.trans sH;clear et eb hu sG hSG sH;refine⟨sz rfl,fun pI gI=>?_⟩;have wI:=ac gI (.lst [.str ""]);have ok1:WsOk [""]:=⟨by simp,fun y hy=>by rw[zk.mp hy];exact⟨by decide +kernel,by decide +kernel⟩,by simp⟩
 have d0:DeadW "":=dI (by decide +kernel);refine fD (ws:=[""]) (r:=[""]) aa ok1 (.bad0 _ (.bad0 _ (.bad0 _ (fc (n:=12) (t:=[""]) d0)))) fun t HJ sJ et=>?_;refine⟨sz rfl,fun tK gK=>?_⟩;have wK:=ac gK (.tup [.str "no question",.int 0]);refine ku (by simp) (wK _ _ et) aa ⟨_,rfl,aq ?_⟩;have sK:=sGH.trans (wI.trans (sJ.trans wK));generalize upd HJ tK (.tup [.str "no question",.int 0])=HK at sK ⊢;clear sGH wI sJ wK et gI gK;have hSK:=sK.seq hSF;refine⟨_,rfl,_,rfl,a,ns,2,rfl,hSK,by decide,_,_,rfl,rfl,(by show(0:Int)<4;decide),_,rfl,a,ns,3,rfl,hSK,by decide,?_⟩;refine⟨pD,_,_,c,63,tl,key,back,rfl,sK _ _ eDF,g,l4,tq,hkt,⟨Zr _ (by decide),Zg _ (by decide)⟩,fun t HL sL sp=>?_⟩;have sL:=sK.trans sL;have last:∀(HM:Hp) (σ:St),Same HF HM->σ[2]?=some (some (.ref pD))->σ[5]?=some (some (.ref tF))->tOp rEqD (gQ spTold [] E0 (cT (tVar 2) dj)) (tVar 5) σ HM Q:=by intro HM σ sM h2 h5;refine⟨_,h2,⟨pD,_,_,_,rfl,sM _ _ eDF,rfl,okW.2.2,okW.2.1,okW,okQ,fun c' key' back' er t b u HG sG et eb hu=>?_,fun _ er=>(by cases er)⟩⟩;cases er;exact⟨_,h5,rS g hk5 et eb hu (sG _ _ (sM _ _ eF)) (sG _ _ (sM _ _ eEF)) ((hcF.ts fun a zs e=>sM _ _ e).ts fun a zs e=>sG _ _ e) (q _)⟩
 cases sp with
 |none L2 h =>refine⟨t,_,rfl,SqT.of h,rfl,_,_,rfl,_,_,rfl,rfl,?_⟩;refine⟨_,rfl,rfl,⟨_,rfl,aq (aq ?_)⟩⟩;exact last HL _ sL rfl rfl
 |bad L2 p ws ws' r h h1 hj hl hw ok hx hp =>refine⟨t,_,rfl,SqT.of h,rfl,_,_,rfl,_,_,rfl,rfl,?_⟩;refine⟨_,rfl,rfl,⟨_,rfl,wX (by intro z;cases z) ?_⟩⟩;refine⟨_,rfl,⟨L2,ws,ws',.bad r,rfl,h1,hj,hl,hw,ok,hx,fun _ _ _ er=>(by cases er),fun r' er t' HM sM et=>?_⟩⟩;cases er;refine⟨_,rfl,ku rfl et (sM _ _ hp) ⟨_,rfl,aq ?_⟩⟩;exact last HM _ (sL.trans sM) rfl rfl
theorem su{k:Nat}{f:Addr}{fd:FuncData}{ps:List Str}{sp:Sp}(h:∀vs H Q E,¬sp vs H Q E):FnOk P w K mg base CX0 k f fd ps sp:=⟨fun _ _ _ _ z=>absurd z (h _ _ _ _),fun _ _ _ _ _ _ _ _ _ _ _ _ _ z=>absurd z (h _ _ _ _)⟩
theorem qE{k:Nat}{f:Addr}{fd:FuncData}{ps:List Str}{sp:Sp}(h:∀vs H Q E,¬sp vs H Q E):FnOk P w K mg base (CXr P w) k f fd ps sp:=⟨fun _ _ _ _ z=>absurd z (h _ _ _ _),fun _ _ _ _ _ _ _ _ _ _ _ _ _ z=>absurd z (h _ _ _ _)⟩
end
def fG:Nat->(List Value->Prop)->Prop
 |0,p=>p []
 |n+1,p=>∀a,fG n fun us=>p (a::us)
theorem cJ:∀{n:Nat} {p:List Value->Prop},fG n p->∀us:List Value,us.length=n->p us
 |0,_,h,[],_=>h
 |_+1,_,h,a::us,e=>cJ (h a) us (Nat.succ.inj e)
section
variable{P:Program}{w:World}{K:PySem.W.Frag}{mg:Str->Option Value}{base h:Heap}{n m x q:Str}{st:Stmt}{C f:Addr}{k:Nat}{ps:List Str}{sp:Sp}{bm:List Value}
structure Bx(P:Program)(w:World)(K:PySem.W.Frag)(mg:Str->Option Value)(base h:Heap):Prop where
 X:K.In h
 G:h.Ns mainGlobals mg
def A1(K:PySem.W.Frag)(n:Str)(st:Stmt)(f:Addr):Prop:=PySem.W.nsIn K mainGlobals n=some (some (.ref f))/\∃fd,Fun K n n st f fd
def A2(K:PySem.W.Frag)(C:Addr)(m q:Str)(st:Stmt)(f:Addr):Prop:=PySem.W.findIn K (.ref C) m=some (some (.ref f))/\PySem.W.isFn K (.ref f)=true/\∃fd,Fun K m q st f fd
def AF(K:PySem.W.Frag):List (Str×Stmt×Addr)->Prop
 | []=>True
 |(n,st,f)::l=>A1 K n st f/\AF K l
def AM(K:PySem.W.Frag):List (Addr×Str×Str×Stmt×Addr)->Prop
 | []=>True
 |(C,m,q,st,f)::l=>A2 K C m q st f/\AM K l
def AN(p:Str->Prop):List Str->Prop
 | []=>True
 |n::l=>p n/\AN p l
theorem anI{p p':Str->Prop}(i:∀{n},p n->p' n):∀{l:List Str},AN p l->AN p' l
 | [],_=>True.intro
 |_::_,h=>⟨i h.1,anI i h.2⟩
theorem gf{l:List (Str×Stmt×Addr)}{oc kV dc pm cd ct:Value}{od an:Option Addr}{sl:Array (Option Value)}(a:PySem.W.nsIn K mainGlobals n=some (some (.ref f)))(b:K.lookup f=some ⟨oc,od,.func (PySem.W.fnOf n n (bp st) (aY st) (ah st) .none kV dc pm an cd ct),sl⟩)(c:PySem.W.codeIn K cd n=true)(d:PySem.W.keepIn K (.ref f)=true)(r:AF K l):AF K ((n,st,f)::l):=⟨⟨a,_,oU b c d⟩,r⟩
theorem gm{l:List (Addr×Str×Str×Stmt×Addr)}{oc kV dc pm cd ct:Value}{od an:Option Addr}{sl:Array (Option Value)}(a:PySem.W.findIn K (.ref C) m=some (some (.ref f)))(i:PySem.W.isFn K (.ref f)=true)(b:K.lookup f=some ⟨oc,od,.func (PySem.W.fnOf m q (bp st) (aY st) (ah st) .none kV dc pm an cd ct),sl⟩)(c:PySem.W.codeIn K cd q=true)(d:PySem.W.keepIn K (.ref f)=true)(r:AM K l):AM K ((C,m,q,st,f)::l):=⟨⟨a,i,_,oU b c d⟩,r⟩
theorem gn{l:List Str}(a:PySem.W.nsIn K mainGlobals n=some none)(r:AN (fun n=>PySem.W.nsIn K mainGlobals n=some none) l):AN (fun n=>PySem.W.nsIn K mainGlobals n=some none) (n::l):=⟨a,r⟩
theorem mkF(B:Bx P w K mg base h)(A:A1 K n st f)(ok:∀{fd},Fun K n n st f fd->FnOk P w K mg base CX0 k f fd ps sp)(hb:∀(kV doc pm:Value) (an:Option Addr) (cdv ct:Value),fG ps.length fun us=>bindArgs (PySem.W.fnOf n n (bp st) (aY st) (ah st) .none kV doc pm an cdv ct) ⟨us,[]⟩=pure (ps.zip us):=by(repeat intro _);rfl):Fn P w K mg base k n ps sp:=by obtain⟨a,fd,F⟩:=A;exact⟨f,fd,ok F,zG B.X B.G a,F.kp,F.binds fun a b c d e g=>cJ (hb a b c d e g)⟩
theorem mkR(B:Bx P w K mg base h)(A:A1 K n st f)(ok:∀{fd},Fun K n n st f fd->FnOk P w K mg base (CXr P w) k f fd ps sp)(hb:∀(kV doc pm:Value) (an:Option Addr) (cdv ct:Value),fG ps.length fun us=>bindArgs (PySem.W.fnOf n n (bp st) (aY st) (ah st) .none kV doc pm an cdv ct) ⟨us,[]⟩=pure (ps.zip us):=by(repeat intro _);rfl):FnX P w K mg base k n ps sp:=by obtain⟨a,fd,F⟩:=A;exact⟨f,fd,ok F,zG B.X B.G a,F.kp,F.binds fun a b c d e g=>cJ (hb a b c d e g)⟩
theorem mkM(B:Bx P w K mg base h)(L:Cls K C)(A:A2 K C m q st f)(ok:∀{fd},Fun K m q st f fd->FnOk P w K mg base CX0 k f fd ps sp)(hb:∀(kV doc pm:Value) (an:Option Addr) (cdv ct:Value),fG ps.length fun us=>bindArgs (PySem.W.fnOf m q (bp st) (aY st) (ah st) .none kV doc pm an cdv ct) ⟨us,[]⟩=pure (ps.zip us):=by(repeat intro _);rfl):MFn P w K mg base k C m ps sp:=by obtain⟨a,i,fd,F⟩:=A;exact⟨L,f,fd,ok F,⟨a,i,F.kp⟩,F.binds fun a b c d e g=>cJ (hb a b c d e g)⟩
theorem mkX(B:Bx P w K mg base h)(L:Cls K C)(A:A2 K C m q st f)(ok:∀{fd},Fun K m q st f fd->FnOk P w K mg base (CXr P w) k f fd ps sp)(hb:∀(kV doc pm:Value) (an:Option Addr) (cdv ct:Value),fG ps.length fun us=>bindArgs (PySem.W.fnOf m q (bp st) (aY st) (ah st) .none kV doc pm an cdv ct) ⟨us,[]⟩=pure (ps.zip us):=by(repeat intro _);rfl):MFnX P w K mg base k C m ps sp:=by obtain⟨a,i,fd,F⟩:=A;exact⟨L,f,fd,ok F,⟨a,i,F.kp⟩,F.binds fun a b c d e g=>cJ (hb a b c d e g)⟩
theorem mkC(B:Bx P w K mg base h)(L:Cls K C)(g:mg x=some (.ref C))(mk:PySem.W.makesIn K C=true)(kc:PySem.W.keepIn K (.ref C)=true)(A:A2 K C "__init__" q st f)(ok:∀{fd},Fun K "__init__" q st f fd->FnOk P w K mg base CX0 k f fd ps sp)(hb:∀(kV doc pm:Value) (an:Option Addr) (cdv ct:Value),fG ps.length fun us=>bindArgs (PySem.W.fnOf "__init__" q (bp st) (aY st) (ah st) .none kV doc pm an cdv ct) ⟨us,[]⟩=pure (ps.zip us):=by(repeat intro _);rfl):MkFn P w K mg base k C x ps sp:=by obtain⟨a,i,fd,F⟩:=A;exact⟨L,g,f,fd,ok F,⟨mk,a,i,kc⟩,F.binds fun a b c d e g=>cJ (hb a b c d e g)⟩
theorem mkE(B:Bx P w K mg base h)(e:ExcAtI K C f bm)(A:A2 K C m q st f)(ok:∀{fd},Fun K m q st f fd->FnOk P w K mg base CX0 k f fd ps sp)(hb:∀(kV doc pm:Value) (an:Option Addr) (cdv ct:Value),fG ps.length fun us=>bindArgs (PySem.W.fnOf m q (bp st) (aY st) (ah st) .none kV doc pm an cdv ct) ⟨us,[]⟩=pure (ps.zip us):=by(repeat intro _);rfl):ExI P w K mg base k C bm ps sp:=by obtain⟨a,i,fd,F⟩:=A;exact⟨f,fd,e,ok F,F.binds fun a b c d e g=>cJ (hb a b c d e g)⟩
end
theorem uA{l:PySem.W.OpenLaw}{w:World}{K:PySem.W.Frag}{h:Heap}{mg:Str->Option Value}{fa f1 f2 f3 f4 f5 f6 f7 f8 f9 f10 f11 f12 f13 f14 f15 f16 f17 f18 f19 f20 f21 f22 f23 f24 f25 f26 f27 m1 m2 m3 m4 m5 m6:Addr}{C_Reader:Addr}(X:K.In h)(G:h.Ns mainGlobals mg)(hfa:mg "law" = some (.ref fa)){v7:Tok}{yk:Tok}{yb:Tok}{j4:Addr}{xY c_NoQuestion c_LimbError c_NoDeed c_NoText c_Twin c_Taken c_NoItem c_Beneath c_Far c_NoPlace c_NoRow:Addr}(u9:PySem.W.nsIn K mainGlobals "Reader" = some (some (.ref C_Reader)))(r9:PySem.W.plainGet K C_Reader Str.empty=true)(t0:PySem.W.hasDictIn K C_Reader=true)(t4:PySem.W.plainOver K C_Reader=true)(t6:PySem.W.findIn K (.ref C_Reader) "__setattr__" = some (some (.builtin "object.__setattr__")))(t8:PySem.W.makesIn K C_Reader=true)(t9:PySem.W.keepIn K (.ref C_Reader)=true)(g0:PySem.W.findIn K (.ref C_Reader) "words" = some none)(i6:PySem.W.findIn K (.ref C_Reader) "spot" = some none)(i7:PySem.W.nsIn K mainGlobals "NoQuestion" = some (some (.ref c_NoQuestion)))(j5:PySem.W.nsIn K mainGlobals "LimbError" = some (some (.ref c_LimbError)))(u0:PySem.W.nsIn K mainGlobals "NoDeed" = some (some (.ref c_NoDeed)))(u1:PySem.W.nsIn K mainGlobals "NoText" = some (some (.ref c_NoText)))(xZ:PySem.W.nsIn K mainGlobals "Twin" = some (some (.ref c_Twin)))(v2:PySem.W.nsIn K mainGlobals "Taken" = some (some (.ref c_Taken)))(u2:PySem.W.nsIn K mainGlobals "NoItem" = some (some (.ref c_NoItem)))(k9:PySem.W.nsIn K mainGlobals "Beneath" = some (some (.ref c_Beneath)))(yc:PySem.W.nsIn K mainGlobals "Far" = some (some (.ref c_Far)))(l5:PySem.W.nsIn K mainGlobals "NoPlace" = some (some (.ref c_NoPlace)))(v4:PySem.W.nsIn K mainGlobals "NoRow" = some (some (.ref c_NoRow)))(zF:AF K (("is_figures",dR,f1)::("is_item_word",cO,f2)::("item_in",fZ,f3)::("may_follow",dS,f4)::("read_following",cm,f5)::("alone_or",fv,f6)::("read_plain",dU,f7)::("read_one",fw,f8)::("read_each",eJ,f9)::("read_some",eM,f10)::("read_question",cC,f11)::("_law_line",lN,f12)::("_law_inner",jy,f13)::("_law_cell_at",fX,f14)::("_law_atom",lJ,f15)::("_law_deep",lK,f16)::("_law_grown",jx,f17)::("_law_tree",lQ,f18)::("_law_others",iu,f19)::("_law_told",lP,f20)::("_law_is_question",dh,f21)::("_law_spoiled",gc,f22)::("_law_bad_number",dP,f23)::("_law_tails",jA,f24)::("_law_nested",ir,f25)::("_law_deepest",fY,f26)::("law",gO,f27)::[]))(zM:AM K ((c_NoQuestion,"__init__","NoQuestion.__init__",bV,m1)::(C_Reader,"__init__","Reader.__init__",df,m2)::(C_Reader,"is_through","Reader.is_through",bI,m3)::(C_Reader,"here","Reader.here",de,m4)::(C_Reader,"go_on","Reader.go_on",bR,m5)::(C_Reader,"passes","Reader.passes",cB,m6)::[]))(zN:AN (fun n=>PySem.W.nsIn K mainGlobals n=some none) ("isinstance"::"int"::"bool"::"str"::"tuple"::"len"::"all"::"max"::"range"::"ValueError"::[]))(h8:PySem.W.nsIn K mainGlobals "MOST_FIGURES" = some (some (.int 60 v7)))(u3:PySem.W.nsIn K mainGlobals "FIGURES" = some (some (.str FIG yk)))(j9:PySem.W.nsIn K mainGlobals "MOST_DEEP" = some (some (.int 12 yb)))(k7:PySem.W.nsIn K mainGlobals "FOLLOWING" = some (some (.ref j4)))(t_FOLLOWING:PyProof.Rows.KTD.tabLook (iZ K) (fun b=>K.lookup b) j4 FT=true)(i8:kZ K c_NoQuestion m1=true)(i9:∃c d cd sl,K.lookup c_NoQuestion=some ⟨c,d,.cls cd,sl⟩/\cd.mro=Value.ref c_NoQuestion::Value.ref c_LimbError::VE)(if_NoQuestion:∃oI,K.lookup m1=some oI/\oI.cls=.type "function")(dg:PySem.W.nsIn K cStatics "sys.int_max_str_digits" = some none)(yd:PySem.W.nsIn K mainGlobals "KEYS" = some (some (.ref xY)))(t_KEYS:∃(o:Obj) (its:Array Value) (n:Nat),K.lookup xY=some o/\o.cls=.type "tuple"/\o.data=.seq its n/\its.size<=sizeLine/\Vals (aJ.map V.str) its.toList)(j6:PySem.W.excIn K c_LimbError [.type "ValueError",.type "Exception",.type "BaseException",.type "object"] "ValueError.__new__" = true)(j7:∃c d cd sl,K.lookup c_LimbError=some ⟨c,d,.cls cd,sl⟩/\cd.mro=Value.ref c_LimbError::VE)(aN:PySem.W.findIn K (.ref c_NoQuestion) "at" = some none)(s1:PySem.W.findIn K (.ref c_NoQuestion) "__setattr__" = some (some (.builtin "object.__setattr__")))(s2:((PySem.W.clsIn K c_NoQuestion).any fun cd=>iR cd.mro&&cd.hasDict)=true)(dN:PySem.W.hasDictIn K c_NoQuestion=true)(e1:(PySem.W.clsIn K c_NoQuestion).isSome=true)(e2:PySem.W.findIn K (.ref c_NoQuestion) "__getattribute__" = some (some (.builtin "BaseException.__getattribute__")))(e3:PySem.W.findIn K (.ref c_NoQuestion) "__getattr__" = some none)(e4:PySem.W.findIn K (.ref c_NoQuestion) "__class__" = some (some (.builtin "object.__class__")))(e5:PySem.W.mroIn K c_NoQuestion (.type "BaseException")=some true)(e6:PySem.W.mroIn K c_NoQuestion (.type "object")=some true)(kv:PySem.W.kitOne K (.ref c_NoQuestion) (.type "ValueError")=some true)(kq:PySem.W.kitOne K (.ref c_NoQuestion) (.ref c_NoQuestion)=some true)(k_NoDeed:PySem.W.kitOne K (.ref c_NoQuestion) (.ref c_NoDeed)=some false)(k_NoText:PySem.W.kitOne K (.ref c_NoQuestion) (.ref c_NoText)=some false)(k_Twin:PySem.W.kitOne K (.ref c_NoQuestion) (.ref c_Twin)=some false)(k_Taken:PySem.W.kitOne K (.ref c_NoQuestion) (.ref c_Taken)=some false)(k_NoItem:PySem.W.kitOne K (.ref c_NoQuestion) (.ref c_NoItem)=some false)(k_Beneath:PySem.W.kitOne K (.ref c_NoQuestion) (.ref c_Beneath)=some false)(k_Far:PySem.W.kitOne K (.ref c_NoQuestion) (.ref c_Far)=some false)(k_NoPlace:PySem.W.kitOne K (.ref c_NoQuestion) (.ref c_NoPlace)=some false)(k_NoRow:PySem.W.kitOne K (.ref c_NoQuestion) (.ref c_NoRow)=some false)
  :∃fd:FuncData,(∀(s:Shared) (v:Value),BindsTo s fd ⟨[v],[]⟩ [("_law_script",v)])/\∀base:Heap,K.In base->base.Ns mainGlobals mg->FnOk l.prog w K mg base CX0 128 fa fd ["_law_script"] (kD K):=by
 obtain⟨Af1,Af2,Af3,Af4,Af5,Af6,Af7,Af8,Af9,Af10,Af11,Af12,Af13,Af14,Af15,Af16,Af17,Af18,Af19,Af20,Af21,Af22,Af23,Af24,Af25,Af26,⟨a0,_,F0⟩,_⟩:=zF;obtain⟨Am1,Am2,Am3,Am4,Am5,Am6,_⟩:=zM;obtain⟨a6,b7,x9,v5,d4,a5,yh,yi,xW,j1,_⟩:=anI (p':=fun n=>mg n=none) (fun z=>PySem.W.mg_none_of X G z) zN;have e:=hfa.symm.trans (zG X G a0);cases e;obtain⟨oc,od,kV,dc,pm,an,cd,ct,sl,rfl,l0,c0⟩:=id F0.ex;have d7:=zG X G h8;have l8:=zG X G u3;have i4:=zG X G j9;have i3:=zG X G k7;have yl:=zG X G u9;have d6:Cls K C_Reader:=⟨r9,t0,t4,t6⟩
 have h9:Txt K C_Reader:=⟨d6,g0,i6⟩
 have yf:Tab K j4 FT:=⟨t_FOLLOWING⟩
 have a8:=zG X G i7;have l7:ExcAtI K c_NoQuestion m1 (Value.ref c_LimbError::VE):=⟨i8,i9,by rw[List.contains_cons];rfl,if_NoQuestion⟩
 have j8:=zG X G j5;have u4:=zG X G u0;have u5:=zG X G u1;have x4:=zG X G xZ;have xU:=zG X G v2;have u6:=zG X G u2;have n9:=zG X G k9;have yj:=zG X G yc;have pi:=zG X G l5;have xV:=zG X G v4;have x3:=zG X G yd;have hK:∀H,SqT K H xY (aJ.map V.str):=fun _=>.inr t_KEYS;have ye:ExcAt K c_LimbError VE:=⟨j6,j7,by decide⟩
 have sN:ExS K c_NoQuestion:=⟨s1,s2,e6⟩
 have er:ErQ K c_LimbError c_NoQuestion _ [c_NoDeed,c_NoText,c_Twin,c_Taken,c_NoItem,c_Beneath,c_Far,c_NoPlace,c_NoRow]:=⟨mB l7,by simp,⟨e1,e2,e3,e4,e5,e6⟩,kv,kq,fun o ho=>by
  simp only[zl,zK,Zl]at ho;rcases ho with rfl|rfl|rfl|rfl|rfl|rfl|rfl|rfl|rfl
  all_goals assumption,dN,aN⟩
 refine⟨PySem.W.fnOf "law" "law" (bp gO) (aY gO) (ah gO) .none kV dc pm an cd ct,fun s v=>.of_eq rfl,fun base _ _=>?_⟩;have B:Bx l.prog w K mg base h:=⟨X,G⟩
 have b5:=mkF B Af1 fun F=>ke F a5 yh d7 l8;have d8:=mkF B Af2 fun F=>iQ F b5 a5;have m7:=mkF B Af3 fun F=>nP F b7;have j0:=mkF B Af4 fun F=>kf F b5 d8;have d5:=mkF B Af5 fun F=>gU F m7 b7;have b8:=mkF B Af6 fun F=>mf F a5 d4;have b6:=mkE B l7 Am1 fun F=>fR F sN aN;have m8:=mkC B d6 yl t8 t9 Am2 fun F=>jt F h9;have c6:=mkM B d6 Am3 fun F=>fq F h9 a5;have c7:=mkM B d6 Am4 fun F=>jr F h9 c6;have b9:=mkX B d6 Am5 fun F=>io F h9 b6 a8;have v8:=mkM B d6 Am5 fun F=>iP F h9;have a7:=mkM B d6 Am6 fun F=>ip F c7 v8;have FX_read_plain:=mkR B Af7 fun F=>kg F j0 d5 c7 b9 i3 yf;have XO_:∀n,FnX l.prog w K mg base (3*n+3) "read_one" ["reader","depth"] (spX C_Reader c_NoQuestion (XO n)):=fun n=>by
  induction n with
  |zero=>exact mkR B Af8 fun _=>qE fun _ _ _ _ z=>by obtain⟨_,_,_,_,_,_,_,_,z,_⟩:=z;exact z
  |succ n ih =>have e1:=mkR B Af9 fun F=>fS (k:=3*n+3) (by omega) F ih a7 b8;have e2:=mkR B Af10 fun F=>fT (k:=3*n+4) (by omega) F e1 a7 b8;exact mkR B Af8 fun F=>mh (k:=3*n+3) (by omega) F ih e2 FX_read_plain a7 c7 b9 i4
 have FX_read_each:=mkR B Af9 fun F=>fS (k:=42) (by omega) F (XO_ 13) a7 b8;have FX_read_some:=mkR B Af10 fun F=>fT (k:=43) (by omega) F FX_read_each a7 b8;have FX_read_question:=mkR B Af11 fun F=>iq F m8 h9 FX_read_some a7 c7 b9 c6 x3 hK b6 a8;have LN_:∀n,Fn l.prog w K mg base (2*n+1) "_law_line" ["_law_condition"] (spWC n):=fun n=>by
  induction n with
  |zero=>exact mkF B Af12 fun _=>su fun _ _ _ _ z=>by obtain⟨_,_,_,_,_,z,_⟩:=z;cases z
  |succ n ih=>exact mkF B Af12 fun F=>sW (k:=2*n+2) (by omega) F (mkF B Af13 fun F=>qU F ih) dg v5 a5
 have n8:=LN_ 63;have c8:=mkF B Af14 fun F=>nN F a5;have k8:=mkF B Af15 fun F=>sU F a5 b7;have v6:=mkF B Af16 fun F=>sV F;have v9:=mkF B Af17 fun F=>qT F v6 k8 a5 yi d4;have ya:=mkF B Af18 fun F=>sY F v9 k8 a5 d4;have u7:=mkF B Af19 fun F=>pz F er u4 u5 x4 xU u6 n9 yj pi xV a6;have a9:=mkF B Af20 fun F=>sX F FX_read_question er (uH ye) j8 a8 u7 a6 j1 b7 x9;have i5:=mkF B Af21 fun F=>ju F a5;have r6:=mkF B Af22 fun F=>nQ F i5 a5;have j3:=mkF B Af23 fun F=>kd F;have xX:=mkF B Af24 fun F=>qV F a9 j3 a5;have u8:=mkF B Af25 fun F=>px F xW;have q0:=mkF B Af26 fun F=>nO F a9 u8;exact uZ F0 c8 ya n8 a9 xX q0 r6 b7
theorem xT{l:PySem.W.OpenLaw}{q:Program}{loose:List Str}{XP:(Str->Option Value)->Heap->Prop}{YP:World->Heap->Prop}{d:DefRec}{K:Params->PySem.W.Frag}(hn:l.most=some 63)(hdf:d.params.defaults=[])(hY:∀ (w:World) (h:Heap),YP w h->(K w.params).In h)(F:∀ (w:World) (mg:Str->Option Value) (fa:Addr) (h:Heap),(K w.params).In h->h.Ns mainGlobals mg->mg d.name=some (.ref fa) ->
   ∃ fd:FuncData,(∀ (s:Shared) (u:Value),BindsTo s fd ⟨[u],[]⟩ [("_law_script",u)])/\∀ base:Heap,(K w.params).In base->base.Ns mainGlobals mg->FnOk l.prog w (K w.params) mg base CX0 128 fa fd ["_law_script"] (kD (K w.params))) :
  PySem.W.WalkO q loose XP YP l.row.toRowW d [] (fun f vs=>PySem.call f vs) :=
 L2.uk (n:=63) (k:=128) (x:="_law_script") (CX:=fun _=>CX0) (sp:=fun w=>kD (K w.params)) hn (by decide) hdf ⟨rfl,by decide,by decide⟩ hY F (fun _ _ a ns hl _ hS=>⟨a,ns,rfl,hS,hl,fun _=>rfl⟩) fun _ _ _ _ _ z=>z
end K53
namespace PySem.W.Fast
def tw11064351957161287184:=()
def tw4874925640352775351:=()
def tw475282439950840994:=()
def tw7929009121319251827:=()
def tw338429505894550386:=()
def tw7303580855723269005:=()
def tw3321783003389799347:=()
def tw3494289092042633781:=()
def tw7991602874107113229:=()
def tw15638177073863161869:=()
def tw8725447264775190227:=()
def tw10219568187523898309:=()
def tw12958922735870555531:=()
def tw16527929316553976098:=()
def tw5914492535049257605:=()
def tw14283854444364297558:=()
def tw14257023695464990306:=()
def tw9134120362289910695:=()
def tw10952402251136724087:=()
def tw3544159649026273503:=()
def tw8609912451423340862:=()
def tw17671688288479301535:=()
def tw8948992727630782776:=()
def tw4984993588729105053:=()
def tw2596670811804712327:=()
def tw17338634812588863891:=()
def tw11066982923373904619:=()
def tw12472298903036295237:=()
def tw14497564956045972398:=()
def tw9556349857911569678:=()
def tw1649191301681119101:=()
def tw15387867504565272120:=()
def tw10197353483243636667:=()
def tw2150977156983045058:=()
def tw6516302646331107392:=()
def tw15528372208575367753:=()
def tw764065518935186901:=()
def tw17730889026517650834:=()
def tw9925973968025606949:=()
def tw12721509902923212616:=()
def tw11097176494950113924:=()
def tw19862319067404927:=()
def tw8381788640456145853:=()
def tw10431305648183561793:=()
def tw9644622442248799809:=()
def tw15811121868776816625:=()
def tw14885046895532828930:=()
def tw1377208815649705177:=()
def tw11747825190790877134:=()
def tw14206739831925264836:=()
def tw2056768488192985851:=()
def tw1596348945225963139:=()
def tw2897821515763223036:=()
def tw6709035770684722260:=()
def tw5049336639773081263:=()
def tw5603359458236791466:=()
def tw14013078137641803958:=()
def tw8512623099534148806:=()
def tw12936144555506215880:=()
def tw5748130454446366590:=()
end PySem.W.Fast
open PySem PySem.W PyProof.Rows
set_option maxRecDepth 100000 in
set_option maxHeartbeats 0 in
theorem PySem.Challenge.cw_limb_k53_no_question_holds : PySem.Challenge.rw_limb_k53_no_question.Holds := by
  w_on; o_law; k_head; (case hw => w_witness2)
  k_fill
  refine K53.xT (l := PySem.Challenge.rw_limb_k53_no_question) rfl rfl (fun w h Y => PySem.W.kIn_of Y) ?F
  case F =>
    intro w mg fa h KX G hmg
    refine' K53.uA KX G hmg ?u9 ?r9 ?t0 ?t4 ?t6 ?t8 ?t9 ?gq0 ?i6 ?i7 ?j5 ?u0 ?u1 ?xZ ?v2 ?u2 ?k9 ?yc ?l5 ?v4 ?zF ?zM ?zN ?h8 ?u3 ?j9 ?k7 ?t_FOLLOWING ?i8 ?i9 ?if_NoQuestion ?dg ?yd ?t_KEYS ?j6 ?j7 ?aN ?s1 ?s2 ?dN ?e1 ?e2 ?e3 ?e4 ?e5 ?e6 ?kv ?kq ?k_NoDeed ?k_NoText ?k_Twin ?k_Taken ?k_NoItem ?k_Beneath ?k_Far ?k_NoPlace ?k_NoRow
    (case u9 => k_is)
    (case r9 => k_is)
    (case t0 => k_is)
    (case t4 => k_is)
    (case t6 => k_is)
    (case t8 => k_is)
    (case t9 => k_is)
    (case gq0 => k_is)
    (case i6 => k_is)
    (case i7 => k_is)
    (case j5 => k_is)
    (case u0 => k_is)
    (case u1 => k_is)
    (case xZ => k_is)
    (case v2 => k_is)
    (case u2 => k_is)
    (case k9 => k_is)
    (case yc => k_is)
    (case l5 => k_is)
    (case v4 => k_is)
    (case zF => (repeat refine K53.gf (by k_is) (by k_is) (by k_is) (by k_is) ?_); exact True.intro)
    (case zM => (repeat refine K53.gm (by k_is) (by k_is) (by k_is) (by k_is) (by k_is) ?_); exact True.intro)
    (case zN => (repeat refine K53.gn (by k_is) ?_); exact True.intro)
    (case h8 => k_is)
    (case u3 => k_is)
    (case j9 => k_is)
    (case k7 => k_is)
    (case t_FOLLOWING => rfl)
    (case i8 => kernel_rfl)
    (case i9 => exact ⟨_, _, _, _, rfl, rfl⟩)
    (case if_NoQuestion => exact ⟨_, rfl, rfl⟩)
    (case dg => k_is)
    (case yd => k_is)
    (case t_KEYS => exact ⟨_, _, _, rfl, rfl, rfl, by decide, .cons ⟨_, rfl⟩ (.cons ⟨_, rfl⟩ (.cons ⟨_, rfl⟩ (.cons ⟨_, rfl⟩ (.cons ⟨_, rfl⟩ .nil))))⟩)
    (case j6 => k_exc)
    (case j7 => exact ⟨_, _, _, _, rfl, rfl⟩)
    (case aN => k_is)
    (case s1 => k_is)
    (case s2 => rfl)
    (case dN => rfl)
    (case e1 => rfl)
    (case e2 => k_is)
    (case e3 => k_is)
    (case e4 => k_is)
    (case e5 => k_is)
    (case e6 => k_is)
    (case kv => rfl)
    (case kq => rfl)
    (case k_NoDeed => rfl)
    (case k_NoText => rfl)
    (case k_Twin => rfl)
    (case k_Taken => rfl)
    (case k_NoItem => rfl)
    (case k_Beneath => rfl)
    (case k_Far => rfl)
    (case k_NoPlace => rfl)
    (case k_NoRow => rfl)
