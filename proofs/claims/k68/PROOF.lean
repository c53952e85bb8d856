import PyProof.Rows.All
import Wide.All
import OpenK.AllK
import Wide.FinOn
import Lean
import PyProof.EqAt
import PyProof.EqKinds
import PyProof.TupleCall
import PySem.Challenge.RW_twinstride_k68_bare_mixes
set_option Elab.async false
set_option linter.all false
set_option maxRecDepth 100000
set_option maxHeartbeats 4000000
set_option compiler.extract_closed false
set_option Elab.async false
set_option linter.all false
set_option maxRecDepth 100000
namespace L2
open PySem PySem.Spec PyProof.Rows
abbrev aT:=Sum Int Str
def kz:aT->Value->Bool
 |.inl k,v=>Value.isInt k v
 |.inr x,v=>Value.isStrOf x v
def keyH(w:World):aT->Int
 |.inl k=>hashInt k
 |.inr x=>hashStr w x
theorem bJ:∀{k:aT} {v:Value},kz k v=true->(∃i t,k=Sum.inl i/\v=Value.int i t)\/(∃x t,k=Sum.inr x/\v=Value.str x t)
 |.inl i,v,h=>by
  obtain ⟨t,e⟩:=Value.isInt_shape (k:=i) (v:=v) h;exact .inl ⟨i,t,rfl,e⟩
 |.inr x,v,h=>by
  obtain ⟨t,e⟩:=Value.isStrOf_shape (x:=x) (v:=v) h;exact .inr ⟨x,t,rfl,e⟩
theorem sL(i:Int)(t:Tok):kz (.inl i) (.int i t)=true:=by simp [kz,Value.isInt]
theorem r_(x:Str)(t:Tok):kz (.inr x) (.str x t)=true:=by simp [kz,Value.isStrOf]
theorem BG(a b:Int):decide ((Sum.inl a:aT)=Sum.inl b)=(a==b):=by
 by_cases e:a=b
 ·subst e;simp
 ·have h:¬(Sum.inl a:aT)=Sum.inl b:=fun q=>e (Sum.inl.inj q)
  rw [decide_eq_false h];exact (beq_eq_false_iff_ne.mpr e).symm
theorem C6(a b:Str):decide ((Sum.inr a:aT)=Sum.inr b)=decide (a=b):=by
 by_cases e:a=b
 ·subst e;simp
 ·have h:¬(Sum.inr a:aT)=Sum.inr b:=fun q=>e (Sum.inr.inj q)
  rw [decide_eq_false h,decide_eq_false e]
theorem AS(a:Int)(b:Str):decide ((Sum.inl a:aT)=Sum.inr b)=false:=decide_eq_false (fun q=>nomatch q)
theorem Ck(a:Str)(b:Int):decide ((Sum.inr a:aT)=Sum.inl b)=false:=decide_eq_false (fun q=>nomatch q)
def bz(prog:Program)(w:World):PySem.KeyKind prog w aT where
 is:=kz
 hash:=keyH w
 inj:=fun v a b ha hb=>by
  rcases bJ ha with ⟨i,t,rfl,rfl⟩|⟨x,t,rfl,rfl⟩
  ·rcases bJ hb with ⟨j,u,rfl,e⟩|⟨y,u,rfl,e⟩
   ·injection e with e1 _;rw [e1]
   ·exact nomatch e
  ·rcases bJ hb with ⟨j,u,rfl,e⟩|⟨y,u,rfl,e⟩
   ·exact nomatch e
   ·injection e with e1 _;rw [e1]
 byValue:=fun k v h=>by
  rcases bJ h with ⟨i,t,rfl,rfl⟩|⟨x,t,rfl,rfl⟩<;>rfl
 pyHash:=fun hv h=>by
  rcases bJ hv with ⟨i,t,rfl,rfl⟩|⟨x,t,rfl,rfl⟩
  ·exact wpAny_pyHash_int h
  ·exact wpAny_pyHash_str h
 eqBool:=fun hu hv h=>by
  rcases bJ hu with ⟨i,t,rfl,rfl⟩|⟨x,t,rfl,rfl⟩
  ·rcases bJ hv with ⟨j,u,rfl,rfl⟩|⟨y,u,rfl,rfl⟩
   ·rw [BG] at h;exact wpAny_eqBool_int h
   ·rw [AS] at h;exact SeqAt.EqAt.int_str i t y u _ _ _ _ h
  ·rcases bJ hv with ⟨j,u,rfl,rfl⟩|⟨y,u,rfl,rfl⟩
   ·rw [Ck] at h;exact SeqAt.EqAt.str_int x t j u _ _ _ _ h
   ·rw [C6] at h;exact wpAny_eqBool_str h
 «strs»:=fun k x t v h=>by
  rcases bJ h with ⟨i,u,rfl,e⟩|⟨y,u,rfl,e⟩
  ·exact nomatch e
  ·injection e with e1 _
   subst e1;cases v<;>rfl
theorem nw(prog:Program)(w:World)(i:Int)(t:Tok):(bz prog w).is (.inl i) (.int i t)=true:=sL i t
theorem nW(prog:Program)(w:World)(x:Str)(t:Tok):(bz prog w).is (.inr x) (.str x t)=true:=r_ x t
end L2
namespace L2
open PySem PySem.Spec PyProof.Rows
inductive V where
 |non|bl (b:Bool)|int (i:Int)|str (x:Str)|byt (b:Array UInt8)|flt (b:UInt64)|ref (a:Addr)|ty (n:String)
 deriving DecidableEq
def RelV:V->Value->Prop
 |.non,u=>u=Value.none
 |.bl b,u=>u=Value.bool b
 |.int i,u=>∃t,u=Value.int i t
 |.str x,u=>∃t,u=Value.str x t
 |.byt b,u=>∃t,u=Value.bytes b t
 |.flt b,u=>∃t,u=Value.float b t
 |.ref a,u=>u=Value.ref a
 |.ty n,u=>u=Value.type n
abbrev Vals:List V->List Value->Prop:=Paired RelV
theorem Vals.length{xs:List V}{us:List Value}(r:Vals xs us):xs.length=us.length:=Paired.length r
theorem Vals.get:∀{xs:List V} {us:List Value} {i:Nat} {x:V},Vals xs us->xs[i]?=some x->∃u,us[i]?=some u/\RelV x u
 |_,_,_,_,.nil,e=>by simp at e
 |_,_,0,_,.cons r _,e=>by simp at e;subst e;exact ⟨_,rfl,r⟩
 |_,_,i+1,x,.cons _ t,e=>by
  obtain ⟨u,h1,h2⟩:=Vals.get (i:=i) (x:=x) t (by simpa using e)
  exact ⟨u,by simpa using h1,h2⟩
theorem Vals.set{x:V}{u:Value}(r:RelV x u):∀{xs:List V} {us:List Value} (i:Nat),Vals xs us->Vals (xs.set i x) (us.set i u)
 |_,_,_,.nil=>.nil
 |_,_,0,.cons _ t=>.cons r t
 |_,_,i+1,.cons q t=>.cons q (Vals.set r i t)
theorem Vals.append:∀{xs ys:List V} {us ws:List Value},Vals xs us->Vals ys ws->Vals (xs++ys) (us++ws)
 |_,_,_,_,.nil,s=>s
 |_,_,_,_,.cons r t,s=>.cons r (Vals.append t s)
theorem Vals.take:∀{xs:List V} {us:List Value} (n:Nat),Vals xs us->Vals (xs.take n) (us.take n)
 |_,_,0,_=>.nil
 |_,_,_+1,.nil=>.nil
 |_,_,n+1,.cons r t=>.cons r (Vals.take n t)
theorem Vals.drop:∀{xs:List V} {us:List Value} (n:Nat),Vals xs us->Vals (xs.drop n) (us.drop n)
 |_,_,0,r=>r
 |_,_,_+1,.nil=>.nil
 |_,_,n+1,.cons _ t=>Vals.drop n t
def RelO:Option V->Option Value->Prop
 |some v,some u=>RelV v u
 |none,none=>True
 |_,_=>False
def KV{κ:Type}:List (κ×V)->List (κ×Value)->Prop:=Paired fun (p:κ×V) (q:κ×Value)=>p.1=q.1/\RelV p.2 q.2
def kV:aT->V
 |.inl i=>.int i
 |.inr x=>.str x
inductive HO where
  |lst (xs:List V)
  |tup (xs:List V)
  |dK (kvs:List (aT×V))|dT (kvs:List (List aT×V))
  |set (S:Int->Bool) (n:Nat)
  |ins (C dx:Addr) (fs:List (Str×V))
  |own (x:Addr)
  |xd (fs:List (Str×V))
  |met (f x:Addr)
  |rng (lo hi:Int)
  |frz (o:Obj) (u:HO)
  |tbl (ps:Array Value)
  |ext (φ:Heap->Prop)
abbrev Hp:=Addr->Option HO
def upd(H:Hp)(a:Addr)(o:HO):Hp:=fun b=>if b=a then some o else H b
theorem upd_same{H:Hp}{a:Addr}{o:HO}:upd H a o a=some o:=by unfold upd;rw [if_pos rfl]
theorem upd_ne{H:Hp}{a b:Addr}{o:HO}(h:b≠a):upd H a o b=H b:=by unfold upd;rw [if_neg h]
theorem CK{H:Hp}{a b:Addr}{o u:HO}(h:H a=some o)(h':H b=some u)(d:o≠u):a≠b:=by
 intro e;subst e;rw [h] at h';exact d (Option.some.inj h')
theorem bq{H:Hp}{a b:Addr}{o:HO}(h:H a=some o)(h':H b=none):a≠b:=by
 intro e;subst e;rw [h] at h';cases h'
section
variable (P:Program)(w:World)
def ObjOk(H:Hp)(h:Heap)(a:Addr):HO->Prop
 |.lst xs=>xs.length<=sizeLine/\∃(its:List Value) (n:Nat),Vals xs its/\h.get? a=some { cls:=.type "list",data:=.seq its.toArray n }
 |.tup xs=>xs.length<=sizeLine/\∃its:List Value,Vals xs its/\∃o,h.get? a=some o/\(o.cls=.type "tuple"/\∃n,o.data=.seq its.toArray n)/\o.dict=none
 |.dK kvs=>kvs.length<=sizeLine/\(a==sysModules)=false/\∃vs,KV kvs vs/\h.DictOf (bz P w) a vs
 |.dT kvs=>kvs.length<=sizeLine/\(a==sysModules)=false/\∃xs:List (List aT×Addr×Value),
   Paired (fun (p:List aT×V) (q:List aT×Addr×Value)=>p.1=q.1/\H q.2.1=some (.tup (p.1.map kV))/\RelV p.2 q.2.2) kvs xs/\
   ∃o es ep,h.get? a=some o/\o.ExactDict/\o.data=.dict es ep/\es.toList=xs.map (entryOfKey (tupleKind (bz P w)))/\(xs.map (·.1)).Nodup
 |.set S n=>h.SetOf (intKind P w) a S n
 |.ins C dx fs=>H dx=some (.own a)/\fs.length<=1000/\dx≠a/\h.get? a=some (W.instObj C dx)/\
   ∃mA,h.Ns1 dx mA/\(∀f,RelO (fs.lookup f) (mA f))/\PySem.Within mA (fs.map (·.1))
 |.own _=>∃o,h.get? a=some o
 |.xd fs=>∃mA,h.Ns1 a mA/\∀f,RelO (fs.lookup f) (mA f)
 |.rng lo hi=>∃t u v,h.get? a=some { cls:=.type "range",data:=.fields #[.int lo t,.int hi u,.int 1 v] }
 |.frz o u=>h.get? a=some o/\ObjOk H h a u
 |.tbl ps=>h.get? a=some { cls:=.none,data:=.fields ps }
 |.met f x=>h.get? a=some (W.methodObj (.ref f) (.ref x))
 |.ext φ=>φ h/\(∃o,h.get? a=some o)/\∀h1 h2:Heap,φ h1->(∀o,h1.get? a=some o->h2.get? a=some o)->φ h2
def HOk(H:Hp)(h:Heap):Prop:=∀a o,H a=some o->ObjOk P w H h a o
end
section
variable {P:Program}{w:World}{H H':Hp}{h h':Heap}{a:Addr}{o:HO}
theorem ObjOk.lt(x:ObjOk P w H h a o):a<h.objs.size:=by
 cases o with
 |lst xs=>obtain ⟨_,_,_,_,e⟩:=x;exact Heap.lt_size e
 |tup xs=>obtain ⟨_,_,_,_,e,_⟩:=x;exact Heap.lt_size e
 |dK kvs=>obtain ⟨_,_,_,_,o,_,_,e,_⟩:=x;exact Heap.lt_size e
 |dT kvs=>obtain ⟨_,_,_,_,o,_,_,e,_⟩:=x;exact Heap.lt_size e
 |set S n=>obtain ⟨o,_,_,_,e,_⟩:=x;exact Heap.lt_size e
 |ins C dx fs=>obtain ⟨_,_,_,e,_⟩:=x;exact Heap.lt_size e
 |own y=>obtain ⟨_,e⟩:=x;exact Heap.lt_size e
 |xd fs=>obtain ⟨_,⟨_,_,_,e,_⟩,_⟩:=x;exact Heap.lt_size e
 |rng lo hi=>obtain ⟨_,_,_,e⟩:=x;exact Heap.lt_size e
 |frz ob u=>obtain ⟨e,_⟩:=x;exact Heap.lt_size e
 |tbl ps=>exact Heap.lt_size (show h.get? a=some _ from x)
 |met f y=>exact Heap.lt_size (show h.get? a=some _ from x)
 |ext φ=>obtain ⟨_,⟨_,e⟩,_⟩:=x;exact Heap.lt_size e
theorem dw{α β:Type}{F G:α->β->Prop}:∀{l₁:List α} {l₂:List β},Paired F l₁ l₂->(∀a b,F a b->G a b)->Paired G l₁ l₂
 |_,_,.nil,_=>.nil
 |_,_,.cons r t,f=>.cons (f _ _ r) (dw t f)
theorem ObjOk.stay(x:ObjOk P w H h a o)(k:∀b u,(b=a\/H b=some (.own a))->h.get? b=some u->h'.get? b=some u)
  (ho:∀b,H b=some (.own a)->H' b=some (.own a)) (ht:∀b xs,H b=some (.tup xs)->H' b=some (.tup xs)):ObjOk P w H' h' a o:=by
 induction o with
 |lst xs=>obtain ⟨z,its,n,r,e⟩:=x;exact ⟨z,its,n,r,k _ _ (.inl rfl) e⟩
 |tup xs=>obtain ⟨z,its,r,ob,e,c⟩:=x;exact ⟨z,its,r,ob,k _ _ (.inl rfl) e,c⟩
 |dK kvs=>obtain ⟨z,y,vs,r,ob,es,ep,e,c⟩:=x;exact ⟨z,y,vs,r,ob,es,ep,k _ _ (.inl rfl) e,c⟩
 |dT kvs=>
  obtain ⟨z,y,xs,r,ob,es,ep,e,c⟩:=x;exact ⟨z,y,xs,dw r fun p q z=>⟨z.1,ht _ _ z.2.1,z.2.2⟩,ob,es,ep,k _ _ (.inl rfl) e,c⟩
 |set S n=>obtain ⟨ob,es,ep,t,e,c⟩:=x;exact ⟨ob,es,ep,t,k _ _ (.inl rfl) e,c⟩
 |ins C dx fs=>
  obtain ⟨d,z,ne,e,mA,⟨od,es,ep,e2,c⟩,r⟩:=x;exact ⟨ho _ d,z,ne,k _ _ (.inl rfl) e,mA,⟨od,es,ep,k _ _ (.inr d) e2,c⟩,r⟩
 |own y=>obtain ⟨ob,e⟩:=x;exact ⟨ob,k _ _ (.inl rfl) e⟩
 |xd fs=>obtain ⟨mA,⟨od,es,ep,e,c⟩,r⟩:=x;exact ⟨mA,⟨od,es,ep,k _ _ (.inl rfl) e,c⟩,r⟩
 |rng lo hi=>obtain ⟨t,u,v,e⟩:=x;exact ⟨t,u,v,k _ _ (.inl rfl) e⟩
 |frz ob u ih=>obtain ⟨e,q⟩:=x;exact ⟨k _ _ (.inl rfl) e,ih q⟩
 |tbl ps=>
  have e:h.get? a=some { cls:=.none,data:=.fields ps }:=x;show h'.get? a=some { cls:=.none,data:=.fields ps };exact k a _ (.inl rfl) e
 |met f y=>
  have e:h.get? a=some (W.methodObj (.ref f) (.ref y)):=x;show h'.get? a=some (W.methodObj (.ref f) (.ref y));exact k a _ (.inl rfl) e
 |ext φ=>obtain ⟨p,⟨o,e⟩,st⟩:=x;exact ⟨st _ _ p fun o q=>k _ _ (.inl rfl) q,⟨o,k _ _ (.inl rfl) e⟩,st⟩
theorem HOk.lt(x:HOk P w H h)(e:H a=some o):a<h.objs.size:=(x a o e).lt
theorem HOk.fresh(x:HOk P w H h)(e:h.objs.size<=a):H a=none:=by
 cases q:H a with
 |none=>rfl
 |some u=>exact absurd (Nat.lt_of_lt_of_le (x.lt q) e) (Nat.lt_irrefl _)
theorem HOk.kept(x:HOk P w H h)(k:∀b u,h.get? b=some u->h'.get? b=some u):HOk P w H h':=fun a o e=>
 (x a o e).stay (fun b u _ q=>k b u q) (fun _ q=>q) fun _ _ q=>q
theorem HOk.laid(x:HOk P w H h)(k:∀b u,h.get? b=some u->h'.get? b=some u)(hp:h.objs.size<=a)(new:ObjOk P w (upd H a o) h' a o):HOk P w (upd H a o) h':=fun b u e=>by
 have hn:=x.fresh hp
 by_cases hb:b=a
 ·subst hb;rw [upd_same] at e;cases e;exact new
 ·rw [upd_ne hb] at e
  exact (x b u e).stay (fun c v _ q=>k c v q) (fun c q=>by rw [upd_ne (bq q hn)];exact q) fun c xs q=>by rw [upd_ne (bq q hn)];exact q
end
def Rd(H:Hp)(a:Addr)(u:HO):Prop:=H a=some u\/∃o,H a=some (.frz o u)
theorem Rd.ok{P:Program}{w:World}{H:Hp}{h:Heap}{a:Addr}{u:HO}(r:Rd H a u)(x:HOk P w H h):ObjOk P w H h a u:=by
 rcases r with r|⟨o,r⟩
 ·exact x a u r
 ·obtain ⟨_,q⟩:=x a _ r
  exact q
def Es:Option HO->Prop
 |some (.lst _)=>True
 |some (.dK _)=>True
 |some (.dT _)=>True
 |some (.set _ _)=>True
 |some (.ins _ _ _)=>True
 |some (.ext _)=>True
 |_=>False
section
variable {P:Program}{w:World}{H:Hp}{h h':Heap}{x e:Addr}{o':HO}
theorem HOk.write(ok:HOk P w H h)(mu:Es (H x))(he:e=x\/H e=some (.own x))(k:∀b u,b≠e->h.get? b=some u->h'.get? b=some u)(heo:∃u,h'.get? e=some u)
  (new:ObjOk P w (upd H x o') h' x o'):HOk P w (upd H x o') h':=fun b u q=>by
 have nown:∀c y,H c=some (.own y)->c≠x:=fun c y r z=>by subst z;rw [r] at mu;exact mu
 have ntup:∀c xs,H c=some (.tup xs)->c≠x:=fun c xs r z=>by subst z;rw [r] at mu;exact mu
 by_cases hb:b=x
 ·subst hb;rw [upd_same] at q;cases q;exact new
 ·rw [upd_ne hb] at q
  by_cases hbe:b=e
  ·have q':H b=some (.own x):=by
    rcases he with z|z
    ·exact absurd (hbe.trans z) hb
    ·rw [hbe];exact z
   rw [q] at q';cases q';obtain ⟨v,hv⟩:=heo;exact ⟨v,by rw [hbe];exact hv⟩
  ·refine (ok b u q).stay (fun c v hc r=>k c v ?_ r) (fun c r=>by rw [upd_ne (nown c b r)];exact r) fun c xs r=>by rw [upd_ne (ntup c xs r)];exact r
   rcases hc with rfl|hc
   ·exact hbe
   ·rintro rfl
    rcases he with z|z
    ·exact nown c b hc z
    ·rw [hc] at z;cases z;exact hb rfl
end
structure Un(fs ex:List Addr)(H H':Hp)(h h':Heap):Prop where
 keep:∀b o,h.get? b=some o->H b=none->b∉fs->b∉ex->h'.get? b=some o
 slot:∀b o,h.get? b=some o->H b=none->b∈fs->b∉ex->∃sl,h'.get? b=some { o with slots:=sl }
 free:∀b o,h.get? b=some o->H b=none->b∉ex->H' b=none
 there:∀b o,h.get? b=some o->b∉ex->∃o',h'.get? b=some o'
 tups:∀b xs,H b=some (.tup xs)->H' b=some (.tup xs)
 frzs:∀b o u,H b=some (.frz o u)->H' b=some (.frz o u)
 tbls:∀b ps,H b=some (.tbl ps)->∃more,H' b=some (.tbl (ps++more))
section
variable {fs fs' ex ex':List Addr}{H H1 H2:Hp}{h h1 h2 h':Heap}{a x e:Addr}{o:HO}
theorem Un.any(u:Un fs ex H H1 h h1){b:Addr}{ob:Obj}(q:h.get? b=some ob)(n:H b=none)(hx:b∉ex):∃sl,h1.get? b=some { ob with slots:=sl }:=by
 by_cases hb:b∈fs
 ·exact u.slot b ob q n hb hx
 ·exact ⟨ob.slots,u.keep b ob q n hb hx⟩
theorem Un.kept(k:∀b u,h.get? b=some u->h'.get? b=some u):Un fs ex H H h h':=
 ⟨fun b ob q _ _ _=>k b ob q,fun b ob q _ _ _=>⟨ob.slots,k b ob q⟩,fun _ _ _ n _=>n,fun b ob q _=>⟨ob,k b ob q⟩,fun _ _ q=>q,fun _ _ _ q=>q,fun _ ps q=>⟨#[],by rw [q];simp⟩⟩
theorem Un.refl:Un fs ex H H h h:=Un.kept fun _ _ q=>q
theorem Un.laid(k:∀b u,h.get? b=some u->h'.get? b=some u)(hp:h.objs.size<=a)(hn:H a=none):Un fs ex H (upd H a o) h h' where
 keep:=fun b u q _ _ _=>k b u q
 slot:=fun b u q _ _ _=>⟨u.slots,k b u q⟩
 free:=fun b u q n _=>by rw [upd_ne (Nat.ne_of_lt (Nat.lt_of_lt_of_le (Heap.lt_size q) hp))];exact n
 there:=fun b u q _=>⟨u,k b u q⟩
 tups:=fun b xs q=>by rw [upd_ne (bq q hn)];exact q
 frzs:=fun b u xs q=>by rw [upd_ne (bq q hn)];exact q
 tbls:=fun b ps q=>⟨#[],by rw [upd_ne (bq q hn),q];simp⟩
theorem Un.write(mu:Es (H x))(he:e=x\/H e=some (.own x))(k:∀b u,b≠e->h.get? b=some u->h'.get? b=some u)(heo:∃u,h'.get? e=some u):Un fs ex H (upd H x o) h h':=by
 have hx:∀b,H b=none->b≠x:=fun b n z=>by subst z;rw [n] at mu;exact mu
 have hb:∀b,H b=none->b≠e:=fun b n z=>by
  subst z;rcases he with r|r
  ·exact hx b n r
  ·rw [n] at r;cases r
 have hm:∀b u,H b=some u->¬Es (some u)->b≠x:=fun b u q nm z=>by subst z;rw [q] at mu;exact nm mu
 refine ⟨fun b u q n _ _=>k b u (hb b n) q,fun b u q n _ _=>⟨u.slots,k b u (hb b n) q⟩,fun b u q n _=>by rw [upd_ne (hx b n)];exact n,fun b u q _=>?_,
  fun b xs q=>by rw [upd_ne (hm b _ q fun z=>z)];exact q,fun b u xs q=>by rw [upd_ne (hm b _ q fun z=>z)];exact q,fun b ps q=>⟨#[],by rw [upd_ne (hm b _ q fun z=>z),q];simp⟩⟩
 by_cases hbe:b=e
 ·subst hbe;exact heo
 ·exact ⟨u,k b u hbe q⟩
end
def trk(h:Heap)(H:Hp):List Addr:=(List.range h.objs.size).filter fun a=>(H a).isSome
def lU(h:Heap)(H:Hp):Heap:=W.hideAll h (trk h H)
theorem sO(h:Heap)(H:Hp):(lU h H).objs.size=h.objs.size:=W.hideAll_size _ _
theorem vm{h:Heap}{H:Hp}{b:Addr}{o:Obj}(e:h.get? b=some o)(n:H b=none):(lU h H).get? b=some o:=
 W.hideAll_get _ e fun hm=>by
  have q:(H b).isSome=true:=(List.mem_filter.mp hm).2;rw [n] at q;simp at q
theorem yp{h:Heap}{H:Hp}{b:Addr}{o:Obj}(e:(lU h H).get? b=some o):h.get? b=some o/\H b=none:=by
 have e':h.get? b=some o:=W.of_hideAll (trk h H) e;refine ⟨e',?_⟩;cases q:H b with
 |none=>rfl
 |some x=>
  have hm:b∈trk h H:=List.mem_filter.mpr ⟨List.mem_range.mpr (Heap.lt_size e'),by simp [q]⟩
  have z:(lU h H).get? b=none:=W.hideAll_none (trk h H) hm;rw [z] at e;cases e
end L2
namespace L2
open PySem PySem.Spec PyProof.Rows
structure Mod(K:W.Frag)(mg:Str->Option Value)(base:Heap):Prop where
 kin:K.In base
 glob:base.Ns mainGlobals mg
 blt:∃mb,base.Ns builtinsNs mb/\∀x:Str,x≠"__name__"->mb x=bootBuiltins x
 nolimit:base.NoLimit
structure Cx where
 prog:Program
 w:World
 K:W.Frag
 mg:Str->Option Value
 base:Heap
 A:Around
 N:List Str
 s₀:Shared
 H₀:Hp
 env:Env
 outer:List Env
 stack:List Env
 ex:List Addr
 fn:Str->Bool
 calm:Bool
 pn:List (Addr×Obj)
 xe:Value->Shared->Prop
def fz(l:List Env):List Addr:=l.filterMap (·.frame)
abbrev Cx.fs(X:Cx):List Addr:=fz X.outer
def Cn(sc:Scope)(x:Str):Prop:=sc.names.lookup x=some .local\/sc.names.lookup x=some .cell\/sc.names.lookup x=some .free
def wC(sc:Scope)(x:Str):Prop:=sc.names.lookup x=some .local\/sc.names.lookup x=some .cell
def Look(env:Env)(h:Heap)(m:Str->Option Value)(x:Str)(u:Value):Prop:=
 (env.kindOf x=some .local/\m x=some u)\/((env.kindOf x=some .cell\/env.kindOf x=some .free)/\∃c,env.cells.lookup x=some c/\h.IsCell c (some u))
structure Cx.Ok(X:Cx):Prop where
 mod:Mod X.K X.mg X.base
 kind:X.env.scope.kind=.function
 glob:X.env.globals=mainGlobals
 blt:X.env.builtins=builtinsNs
 above:X.s₀.heap.objs.size<=X.env.locals
 inj:∀x y c,X.env.cells.lookup x=some c->X.env.cells.lookup y=some c->x=y
 has:∀x,(X.env.kindOf x=some .cell\/X.env.kindOf x=some .free)->∃c,X.env.cells.lookup x=some c
 cab:∀x c,X.fn x=true->X.env.cells.lookup x=some c->X.s₀.heap.objs.size<=c
 hd:X.calm=true->X.A.handled=none
 frames:X.A.frames=some X.stack
 stk:X.stack=X.outer\/(X.stack=X.env::X.outer/\X.env.frame=some X.env.locals)
 exf:∀b∈X.ex,b≠X.env.locals/\∀x c,X.env.cells.lookup x=some c->c≠b
 bs:∀b o,X.base.get? b=some o->X.s₀.heap.get? b=some o/\X.H₀ b=none
 bsz:X.base.objs.size<=X.s₀.heap.objs.size
 noex:∀b o,X.base.get? b=some o->b∉X.ex
 exfs:∀b∈X.ex,b∉X.fs
 funs:X.s₀.heap.FunFrames X.base X.outer
 frf:∀b∈X.fs,X.H₀ b=none
structure Inv(X:Cx)(pins:List (Addr×Obj))(σ:List (Option V))(H:Hp)(s:Shared):Prop where
 ok:X.Ok
 os:s.os=X.s₀.os
 bare:AllBare s.gens
 base:Un X.fs X.ex X.H₀ H X.s₀.heap s.heap
 loc:∃m,s.heap.Ns X.env.locals m/\∀(i:Nat) (x:Str) (v:V),X.N[i]?=some x->σ[i]?=some (some v)->Cn X.env.scope x->∃u,RelV v u/\Look X.env s.heap m x u
 cell:∀x c,X.env.cells.lookup x=some c->∃v,s.heap.IsCell c v
 free:H X.env.locals=none
 freeC:∀x c,X.env.cells.lookup x=some c->H c=none
 pin:∀p∈X.pn++pins,s.heap.get? p.1=some p.2/\H p.1=none/\p.1≠X.env.locals/\p.1∉X.fs/\∀v,p.2.data≠.cell v
 hok:HOk X.prog X.w H s.heap
 len:σ.length=X.N.length
section
variable {X:Cx}{pins:List (Addr×Obj)}{σ:List (Option V)}{H H':Hp}{s:Shared}{h':Heap}
theorem Cx.Ok.nofr(ok:X.Ok){b:Addr}{o:Obj}(e:X.base.get? b=some o):b∉X.fs:=fun hb=>by
 have:=(ok.funs.mem hb).1;rw [e] at this;cases this
theorem Inv.bs(I:Inv X pins σ H s):∀b o,X.base.get? b=some o->s.heap.get? b=some o/\H b=none:=fun b o e=>
 ⟨I.base.keep b o (I.ok.bs b o e).1 (I.ok.bs b o e).2 (I.ok.nofr e) (I.ok.noex b o e),I.base.free b o (I.ok.bs b o e).1 (I.ok.bs b o e).2 (I.ok.noex b o e)⟩
theorem Inv.bk(I:Inv X pins σ H s):∀b o,X.base.get? b=some o->s.heap.get? b=some o:=fun b o e=>(I.bs b o e).1
theorem Inv.mod(I:Inv X pins σ H s):Mod X.K X.mg X.base:=I.ok.mod
theorem Inv.kIn(I:Inv X pins σ H s):X.K.In s.heap:=I.ok.mod.kin.keeps I.bk
theorem Inv.lt(I:Inv X pins σ H s):X.env.locals<s.heap.objs.size:=let ⟨_,hn,_⟩:=I.loc;hn.lt
theorem Inv.sz(I:Inv X pins σ H s):X.s₀.heap.objs.size<=s.heap.objs.size:=Nat.le_trans I.ok.above (Nat.le_of_lt I.lt)
theorem Inv.nofs(I:Inv X pins σ H s){a:Addr}(h:s.heap.objs.size<=a):a∉X.fs:=fun hb=>by
 obtain ⟨_,o,ho,_⟩:=I.ok.funs.mem hb;exact absurd (Nat.lt_of_lt_of_le (Heap.lt_size ho) (Nat.le_trans I.sz h)) (Nat.lt_irrefl _)
theorem Inv.cne(I:Inv X pins σ H s):∀x c,X.env.cells.lookup x=some c->c≠X.env.locals:=fun x c e z=>by
 obtain ⟨v,o,ho,hd⟩:=I.cell x c e;obtain ⟨m,⟨o',es,ep,ho',hd',_⟩,_⟩:=I.loc;rw [z,ho'] at ho;cases ho;rw [hd'] at hd;cases hd
theorem Inv.funs(I:Inv X pins σ H s):s.heap.FunFrames X.base X.outer:=by
 have all:∀(l:List Env),(∀b∈fz l,b∈X.fs)->X.s₀.heap.FunFrames X.base l->s.heap.FunFrames X.base l:=by
  intro l
  induction l with
  |nil=>intro _ _;trivial
  |cons env r ih=>
   intro hs hl;obtain ⟨hk,⟨L,o,hf,hn,ho,hd⟩,hr⟩:=hl;have hL:L∈X.fs:=hs L (by unfold fz;rw [List.filterMap_cons,hf];exact List.mem_cons_self)
   obtain ⟨sl,e⟩:=I.base.slot L o ho (I.ok.frf L hL) hL fun z=>I.ok.exfs L z hL;exact ⟨hk,⟨L,_,hf,hn,e,hd⟩,ih (fun b hb=>hs b (by unfold fz;rw [List.filterMap_cons,hf];exact List.mem_cons_of_mem _ hb)) hr⟩
 exact all X.outer (fun _ hb=>hb) I.ok.funs
theorem Inv.stack(I:Inv X pins σ H s):s.heap.FunFrames X.base X.stack:=by
 rcases I.ok.stk with e|⟨e,hf⟩
 ·rw [e];exact I.funs
 ·rw [e]
  obtain ⟨m,hn,_⟩:=I.loc;refine .cons (by rw [I.ok.kind];decide) hf hn ?_ I.funs
  exact Heap.get?_none_of_le (Nat.le_trans I.ok.bsz I.ok.above)
theorem Inv.stkSub(I:Inv X pins σ H s):∀b∈fz X.stack,b∈X.env.locals::X.fs:=fun b hb=>by
 rcases I.ok.stk with e|⟨e,hf⟩
 ·rw [e] at hb;exact List.mem_cons_of_mem _ hb
 ·rw [e] at hb
  unfold fz at hb;rw [List.filterMap_cons,hf] at hb;exact hb
theorem Inv.stkFree(I:Inv X pins σ H s):∀b∈fz X.stack,H b=none:=fun b hb=>by
 rcases List.mem_cons.mp (I.stkSub b hb) with e|hb
 ·rw [e];exact I.free
 ·obtain ⟨_,o,ho,_⟩:=I.ok.funs.mem hb
  exact I.base.free b o ho (I.ok.frf b hb) fun z=>I.ok.exfs b z hb
theorem Inv.step{g':Array GenState}{t':Nat}{d':Drawn}{ch:List Addr}(I:Inv X pins σ H s)
  (hch:∀b∈ch,(b∈X.ex\/X.s₀.heap.objs.size<=b)/\b≠X.env.locals/\(∀x c,X.env.cells.lookup x=some c->c≠b)/\∀p∈X.pn++pins,p.1≠b)
  (keep:∀b o,b≠X.env.locals->b∉X.fs->b∉ch->s.heap.get? b=some o->H b=none->h'.get? b=some o)
  (slot:∀b o,b≠X.env.locals->b∈X.fs->b∉ch->s.heap.get? b=some o->H b=none->∃sl,h'.get? b=some { o with slots:=sl }) (free:∀b o,b∉ch->s.heap.get? b=some o->H b=none->H' b=none)
  (there:∀b o,b∉ch->s.heap.get? b=some o->∃o',h'.get? b=some o')
  (tups:∀b xs,H b=some (.tup xs)->H' b=some (.tup xs)) (frzs:∀b o u,H b=some (.frz o u)->H' b=some (.frz o u)) (tbls:∀b ps,H b=some (.tbl ps)->∃more,H' b=some (.tbl (ps++more)))
  (ns:∀m,s.heap.Ns X.env.locals m->h'.Ns X.env.locals m) (hok:HOk X.prog X.w H' h') (hg:AllBare g'):
  Inv X pins σ H' { s with heap:=h',gens:=g',drawn:=d',toks:=t' }:=by
 have neL:∀b o,X.s₀.heap.get? b=some o->b≠X.env.locals:=fun b o e=>Nat.ne_of_lt (Nat.lt_of_lt_of_le (Heap.lt_size e) I.ok.above);have neC:∀b o,X.s₀.heap.get? b=some o->b∉X.ex->b∉ch:=fun b o e hx hb=>by
  rcases (hch b hb).1 with z|z
  ·exact hx z
  ·exact absurd (Nat.lt_of_lt_of_le (Heap.lt_size e) z) (Nat.lt_irrefl _)
 have cellK:∀x c,X.env.cells.lookup x=some c->∀v,s.heap.IsCell c v->h'.IsCell c v:=fun x c e v ⟨o,ho,hd⟩=>by
  have nch:c∉ch:=fun z=>(hch c z).2.2.1 x c e rfl
  by_cases hc:c∈X.fs
  ·obtain ⟨sl,q⟩:=slot c o (I.cne x c e) hc nch ho (I.freeC x c e)
   exact ⟨_,q,hd⟩
  ·exact ⟨o,keep c o (I.cne x c e) hc nch ho (I.freeC x c e),hd⟩
 refine ⟨I.ok,I.os,hg,⟨fun b o e n hb hx=>?_,fun b o e n hb hx=>?_,fun b o e n hx=>?_,fun b o e hx=>?_,fun b xs e=>tups b xs (I.base.tups b xs e),fun b o xs e=>frzs b o xs (I.base.frzs b o xs e),fun b ps e=>?_⟩,?_,fun x c e=>?_,?_,fun x c e=>?_,fun p hp=>?_,hok,I.len⟩
 ·exact keep b o (neL b o e) hb (neC b o e hx) (I.base.keep b o e n hb hx) (I.base.free b o e n hx)
 ·obtain ⟨sl,e1⟩:=I.base.slot b o e n hb hx
  obtain ⟨sl',e2⟩:=slot b _ (neL b o e) hb (neC b o e hx) e1 (I.base.free b o e n hx);exact ⟨sl',e2⟩
 ·obtain ⟨o',e1⟩:=I.base.there b o e hx
  exact free b o' (neC b o e hx) e1 (I.base.free b o e n hx)
 ·obtain ⟨o',e1⟩:=I.base.there b o e hx
  exact there b o' (neC b o e hx) e1
 ·obtain ⟨m1,e1⟩:=I.base.tbls b ps e
  obtain ⟨m2,e2⟩:=tbls b _ e1;exact ⟨m1++m2,by rw [e2,Array.append_assoc]⟩
 ·obtain ⟨m,hn,hl⟩:=I.loc
  refine ⟨m,ns m hn,fun i x v e1 e2 e3=>?_⟩;obtain ⟨u,r,l⟩:=hl i x v e1 e2 e3;refine ⟨u,r,?_⟩;rcases l with l|⟨k,c,e,z⟩
  ·exact .inl l
  ·exact .inr ⟨k,c,e,cellK x c e _ z⟩
 ·obtain ⟨v,z⟩:=I.cell x c e
  exact ⟨v,cellK x c e v z⟩
 ·obtain ⟨m,⟨o,_,_,ho,_⟩,_⟩:=I.loc
  exact free _ o (fun z=>(hch _ z).2.1 rfl) ho I.free
 ·obtain ⟨v,o,ho,hd⟩:=I.cell x c e
  exact free c o (fun z=>(hch c z).2.2.1 x c e rfl) ho (I.freeC x c e)
 ·obtain ⟨e,n,ne,nf,d⟩:=I.pin p hp
  have nch:p.1∉ch:=fun z=>(hch p.1 z).2.2.2 p hp rfl;exact ⟨keep p.1 p.2 ne nf nch e n,free p.1 p.2 nch e n,ne,nf,d⟩
theorem Inv.un{t':Nat}(I:Inv X pins σ H s)(u:Un X.fs [] H H' s.heap h')(hok:HOk X.prog X.w H' h'):Inv X pins σ H' { s with heap:=h',toks:=t' }:=by
 obtain ⟨m,⟨o,es,ep,ho,r⟩,_⟩:=id I.loc;obtain ⟨sl,hL⟩:=u.any ho I.free (by simp)
 exact I.step (g':=s.gens) (d':=s.drawn) (ch:=[]) (fun _ z=>nomatch z) (fun b o _ hb _ e n=>u.keep b o e n hb (by simp)) (fun b o _ hb _ e n=>u.slot b o e n hb (by simp)) (fun b o _ e n=>u.free b o e n (by simp)) (fun b o _ e=>u.there b o e (by simp)) u.tups u.frzs u.tbls (fun m' hm=>by
  obtain ⟨o',es',ep',ho',r'⟩:=hm;rw [ho] at ho';cases ho';exact ⟨_,es',ep',hL,r'⟩) hok I.bare
theorem Inv.call{g':Array GenState}{t':Nat}{d':Drawn}{ch:List Addr}(I:Inv X pins σ H s)(u:Un (fz X.stack) ch H H' s.heap h')(hok:HOk X.prog X.w H' h')(hg:AllBare g')
  (hch:∀b∈ch,(b∈X.ex\/X.s₀.heap.objs.size<=b)/\b≠X.env.locals/\(∀x c,X.env.cells.lookup x=some c->c≠b)/\∀p∈X.pn++pins,p.1≠b):
  Inv X pins σ H' { s with heap:=h',gens:=g',drawn:=d',toks:=t' }:=by
 obtain ⟨m,⟨o,es,ep,ho,r⟩,_⟩:=id I.loc;obtain ⟨sl,hL⟩:=u.any ho I.free fun z=>(hch _ z).2.1 rfl;exact I.step (ch:=ch) hch (fun b o hL hb hc e n=>u.keep b o e n (fun z=>(List.mem_cons.mp (I.stkSub b z)).elim hL hb) hc) (fun b o _ _ hc e n=>u.any e n hc) (fun b o hc e n=>u.free b o e n hc) (fun b o hc e=>u.there b o e hc) u.tups u.frzs u.tbls (fun m' hm=>by
  obtain ⟨o',es',ep',ho',r'⟩:=hm;rw [ho] at ho';cases ho';exact ⟨_,es',ep',hL,r'⟩) hok hg
theorem Inv.turned{t':Nat}{it:Addr}(I:Inv X pins σ H s)(k:∀b o,b≠it->s.heap.get? b=some o->h'.get? b=some o)(hn:H it=none)(hL:it≠X.env.locals)
  (h1:it∈X.ex\/X.s₀.heap.objs.size<=it) (h2:∀x c,X.env.cells.lookup x=some c->c≠it) (h3:∀p∈X.pn++pins,p.1≠it):Inv X pins σ H { s with heap:=h',toks:=t' }:=by
 have nit:∀b u,H b=some u->b≠it:=fun b u e z=>by rw [z,hn] at e;cases e
 refine I.step (g':=s.gens) (d':=s.drawn) (ch:=[it]) (fun b hb=>?_) (fun b o _ _ hc e _=>k b o (fun z=>hc (by simp [z])) e) (fun b o _ _ hc e _=>⟨o.slots,k b o (fun z=>hc (by simp [z])) e⟩) (fun _ _ _ _ n=>n)
  (fun b o hc e=>⟨o,k b o (fun z=>hc (by simp [z])) e⟩) (fun _ _ e=>e) (fun _ _ _ e=>e) (fun b ps e=>⟨#[],by rw [e];simp⟩) (fun m hm=>?_) (fun b u e=>?_) I.bare
 ·have e:b=it:=by simpa using hb
  subst e;exact ⟨h1,hL,h2,h3⟩
 ·obtain ⟨o,es,ep,ho,r⟩:=hm
  exact ⟨o,es,ep,k _ o (Ne.symm hL) ho,r⟩
 ·refine (I.hok b u e).stay (fun c v hc q=>k c v ?_ q) (fun _ q=>q) fun _ _ q=>q
  rcases hc with z|z
  ·rw [z];exact nit b u e
  ·exact nit c _ z
theorem Inv.tok(I:Inv X pins σ H s)(t:Nat):Inv X pins σ H { s with toks:=t }:=I.un (h':=s.heap) (t':=t) Un.refl I.hok
theorem Inv.kept{t':Nat}(I:Inv X pins σ H s)(k:∀b u,s.heap.get? b=some u->h'.get? b=some u):Inv X pins σ H { s with heap:=h',toks:=t' }:=I.un (Un.kept k) (I.hok.kept k)
theorem Inv.laid{a:Addr}{o:HO}{t':Nat}(I:Inv X pins σ H s)(k:∀b u,s.heap.get? b=some u->h'.get? b=some u)(hp:s.heap.objs.size<=a)(new:ObjOk X.prog X.w (upd H a o) h' a o):
  Inv X pins σ (upd H a o) { s with heap:=h',toks:=t' }:=I.un (Un.laid k hp (I.hok.fresh hp)) (I.hok.laid k hp new)
theorem Inv.write{x e:Addr}{o:HO}{t':Nat}(I:Inv X pins σ H s)(mu:Es (H x))(he:e=x\/H e=some (.own x))(k:∀b u,b≠e->s.heap.get? b=some u->h'.get? b=some u)(heo:∃u,h'.get? e=some u)
  (new:ObjOk X.prog X.w (upd H x o) h' x o):Inv X pins σ (upd H x o) { s with heap:=h',toks:=t' }:=I.un (Un.write mu he k heo) (I.hok.write mu he k heo new)
theorem Inv.pins_of{pins':List (Addr×Obj)}(I:Inv X pins σ H s)(h:∀p∈pins',s.heap.get? p.1=some p.2/\H p.1=none/\p.1≠X.env.locals/\p.1∉X.fs/\∀v,p.2.data≠.cell v):Inv X pins' σ H s:=
 ⟨I.ok,I.os,I.bare,I.base,I.loc,I.cell,I.free,I.freeC,fun p hp=>(List.mem_append.mp hp).elim (fun z=>I.pin p (List.mem_append_left _ z)) (h p),I.hok,I.len⟩
theorem n6{N:List Str}(hN:N.Nodup){i j:Nat}{x:Str}(a:N[i]?=some x)(b:N[j]?=some x):i=j:=by
 obtain ⟨h1,e1⟩:=List.getElem?_eq_some_iff.mp a;obtain ⟨h2,e2⟩:=List.getElem?_eq_some_iff.mp b;exact (List.getElem_inj hN).mp (e1.trans e2.symm)
theorem store_ok2{M:Model}{A:Around}{E:Value->Shared->Prop}{i:Nat}{x:Str}{v:V}{u:Value}{Q:Unit->Shared->Prop}(I:Inv X pins σ H s)(hN:X.N.Nodup)(hi:X.N[i]?=some x)(hx:wC X.env.scope x)(r:RelV v u)
  (h:∀s',Inv X pins (σ.set i (some v)) H s'->(∃a,Heap.SameBut a s.heap s'.heap/\(a=X.env.locals\/X.env.cells.lookup x=some a))->Q () s') (hf:X.fn x=true\/X.env.scope.names.lookup x=some .local:=by first|exact .inl rfl|exact .inr rfl|assumption):wpAny M A (storeName X.env x u) Q E s:=by
 obtain ⟨m,hn,hl⟩:=id I.loc;have hcls:(X.env.scope.kind==.class||(X.env.scope.kind==.module&&X.env.locals != X.env.globals))=false:=by rw [I.ok.kind];rfl
 have hiσ:i<σ.length:=by rw [I.len];exact (List.getElem?_eq_some_iff.mp hi).1
 have cne:=I.cne;have tracked:∀{a:Addr} {h':Heap},(∃o,s.heap.get? a=some o/\H a=none)->Heap.SameBut a s.heap h'->HOk X.prog X.w H h':=fun {a h'} ha hs b ob e=>by
  obtain ⟨_,_,hfree⟩:=ha;refine (I.hok b ob e).stay (fun c w' hc q=>(hs.2 c ?_).trans q) (fun _ q=>q) fun _ _ q=>q
  rintro rfl
  rcases hc with rfl|hc
  ·rw [hfree] at e;cases e
  ·rw [hfree] at hc;cases hc
 rcases hx with hk|hk
 ·refine wpAny_storeName_local hk hn (fun h' hn' hs=>?_) hcls
  obtain ⟨oL,_,_,hoL,_⟩:=id hn;refine h _ ⟨I.ok,I.os,I.bare,⟨fun b o e n hb hx=>?_,fun b o e n hb hx=>?_,I.base.free,fun b o e hx=>?_,I.base.tups,I.base.frzs,I.base.tbls⟩,⟨_,hn',fun j y v' e1 e2 e3=>?_⟩,fun y c e=>?_,I.free,I.freeC,fun p hp=>?_,tracked ⟨oL,hoL,I.free⟩ hs,by simpa using I.len⟩ ⟨_,hs,.inl rfl⟩
  ·exact (hs.2 b (Nat.ne_of_lt (Nat.lt_of_lt_of_le (Heap.lt_size e) I.ok.above))).trans (I.base.keep b o e n hb hx)
  ·obtain ⟨sl,e1⟩:=I.base.slot b o e n hb hx
   exact ⟨sl,(hs.2 b (Nat.ne_of_lt (Nat.lt_of_lt_of_le (Heap.lt_size e) I.ok.above))).trans e1⟩
  ·obtain ⟨o',e1⟩:=I.base.there b o e hx
   exact ⟨o',(hs.2 b (Nat.ne_of_lt (Nat.lt_of_lt_of_le (Heap.lt_size e) I.ok.above))).trans e1⟩
  ·by_cases hj:j=i
   ·subst hj
    rw [hi] at e1;cases e1;rw [List.getElem?_set_self hiσ] at e2;cases e2;exact ⟨u,r,.inl ⟨hk,by simp⟩⟩
   ·rw [List.getElem?_set_ne (Ne.symm hj)] at e2
    obtain ⟨u',r',q⟩:=hl j y v' e1 e2 e3;refine ⟨u',r',?_⟩;rcases q with ⟨k,e⟩|⟨k,c,e,z⟩
    ·refine .inl ⟨k,?_⟩
     have:y≠x:=fun e=>hj (n6 hN e1 (e▸hi));simp [this,e]
    ·exact .inr ⟨k,c,e,z.sameBut hs (cne y c e)⟩
  ·obtain ⟨w',z⟩:=I.cell y c e
   exact ⟨w',z.sameBut hs (cne y c e)⟩
  ·obtain ⟨e,n,ne,nf,d⟩:=I.pin p hp
   exact ⟨(hs.2 p.1 ne).trans e,n,ne,nf,d⟩
 ·have hfn:X.fn x=true:=by
   rcases hf with z|z
   ·exact z
   ·rw [z] at hk;cases hk
  obtain ⟨c,hc⟩:=I.ok.has x (.inl hk);obtain ⟨w',z⟩:=I.cell x c hc;refine wpAny_storeName_cell I.ok.kind hk hc z (fun h' hc' hs=>?_);obtain ⟨oc,hoc,hocd⟩:=id z;refine h { s with heap:=h' } ⟨I.ok,I.os,I.bare,⟨fun b o e n hb hx=>?_,fun b o e n hb hx=>?_,I.base.free,fun b o e hx=>?_,I.base.tups,I.base.frzs,I.base.tbls⟩,⟨m,hn.sameBut hs (Ne.symm (cne x c hc)),fun j y v' e1 e2 e3=>?_⟩,fun y c' e=>?_,I.free,I.freeC,fun p hp=>?_,tracked ⟨oc,hoc,I.freeC x c hc⟩ hs,by simpa using I.len⟩ ⟨c,hs,.inr hc⟩
  ·exact (hs.2 b (Nat.ne_of_lt (Nat.lt_of_lt_of_le (Heap.lt_size e) (I.ok.cab x c hfn hc)))).trans (I.base.keep b o e n hb hx)
  ·obtain ⟨sl,e1⟩:=I.base.slot b o e n hb hx
   exact ⟨sl,(hs.2 b (Nat.ne_of_lt (Nat.lt_of_lt_of_le (Heap.lt_size e) (I.ok.cab x c hfn hc)))).trans e1⟩
  ·obtain ⟨o',e1⟩:=I.base.there b o e hx
   exact ⟨o',(hs.2 b (Nat.ne_of_lt (Nat.lt_of_lt_of_le (Heap.lt_size e) (I.ok.cab x c hfn hc)))).trans e1⟩
  ·by_cases hj:j=i
   ·subst hj
    rw [hi] at e1;cases e1;rw [List.getElem?_set_self hiσ] at e2;cases e2;exact ⟨u,r,.inr ⟨.inl hk,c,hc,hc'⟩⟩
   ·rw [List.getElem?_set_ne (Ne.symm hj)] at e2
    obtain ⟨u',r',q⟩:=hl j y v' e1 e2 e3;refine ⟨u',r',?_⟩;rcases q with q|⟨k,c',e,z'⟩
    ·exact .inl q
    ·refine .inr ⟨k,c',e,z'.sameBut hs ?_⟩
     rintro rfl
     exact hj (n6 hN e1 (I.ok.inj _ _ _ e hc▸hi))
  ·by_cases hcc:c'=c
   ·subst hcc;exact ⟨_,hc'⟩
   ·obtain ⟨w2,z2⟩:=I.cell y c' e
    exact ⟨w2,z2.sameBut hs hcc⟩
  ·obtain ⟨e,n,ne,nf,d⟩:=I.pin p hp
   refine ⟨(hs.2 p.1 ?_).trans e,n,ne,nf,d⟩;intro q;rw [q,hoc] at e;have q':oc=p.2:=Option.some.inj e;exact d w' (by rw [<- q'];exact hocd)
theorem store_ok{M:Model}{A:Around}{E:Value->Shared->Prop}{i:Nat}{x:Str}{v:V}{u:Value}{Q:Unit->Shared->Prop}(I:Inv X pins σ H s)(hN:X.N.Nodup)(hi:X.N[i]?=some x)(hx:wC X.env.scope x)(r:RelV v u)
  (h:∀s',Inv X pins (σ.set i (some v)) H s'->Q () s') (hf:X.fn x=true\/X.env.scope.names.lookup x=some .local:=by first|exact .inl rfl|exact .inr rfl|assumption):wpAny M A (storeName X.env x u) Q E s:=
 store_ok2 I hN hi hx r (fun s' I' _=>h s' I') hf
theorem Inv.call'{s':Shared}{ch:List Addr}(I:Inv X pins σ H s)(ho:s'.os=s.os)(u:Un (fz X.stack) ch H H' s.heap s'.heap)(hok:HOk X.prog X.w H' s'.heap)(hg:AllBare s'.gens)
  (hch:∀b∈ch,(b∈X.ex\/X.s₀.heap.objs.size<=b)/\b≠X.env.locals/\(∀x c,X.env.cells.lookup x=some c->c≠b)/\∀p∈X.pn++pins,p.1≠b):Inv X pins σ H' s':=by
 obtain ⟨h',g',d',t',o'⟩:=s';have e:o'=s.os:=ho;subst e;exact I.call (g':=g') (t':=t') (d':=d') u hok hg hch
end
abbrev XK:=Value->Option Addr->Hp->Prop
abbrev St:=List (Option V)
abbrev VK:=V->Hp->Prop
abbrev TE:=St->Hp->VK->Prop
abbrev TT:=St->Hp->(Bool->Hp->Prop)->Prop
abbrev TA:=St->Hp->(List V->Hp->Prop)->Prop
structure Ends where
 nx:St->Hp->Prop
 rt:VK
 bk:St->Hp->Prop:=fun _ _=>False
 ct:St->Hp->Prop:=fun _ _=>False
abbrev TS:=Ends->St->Hp->Prop
inductive EP(X:Cx)(pins:List (Addr×Obj))(σ:St)(Q:VK)(u:Value)(s':Shared):Prop
 |mk (v:V) (H':Hp) (h0:Inv X pins σ H' s') (h1:RelV v u) (h2:Q v H'):EP X pins σ Q u s'
inductive TP(X:Cx)(pins:List (Addr×Obj))(σ:St)(Q:Bool->Hp->Prop)(b:Bool)(s':Shared):Prop
 |mk (H':Hp) (h0:Inv X pins σ H' s') (h1:Q b H'):TP X pins σ Q b s'
inductive AP(X:Cx)(pins:List (Addr×Obj))(σ:St)(Q:List V->Hp->Prop)(us:List Value)(s':Shared):Prop
 |mk (vs:List V) (H':Hp) (h0:Inv X pins σ H' s') (h1:Vals vs us) (h2:Q vs H'):AP X pins σ Q us s'
def SP(X:Cx)(pins:List (Addr×Obj))(D:Ends)(f:Flow)(s':Shared):Prop:=
 match f with
 |.next=>∃σ' H',Inv X pins σ' H' s'/\D.nx σ' H'
 |.brk=>∃σ' H',Inv X pins σ' H' s'/\D.bk σ' H'
 |.cont=>∃σ' H',Inv X pins σ' H' s'/\D.ct σ' H'
 |.ret u=>∃v σ' H',Inv X pins σ' H' s'/\RelV v u/\D.rt v H'
def PE(X:Cx)(e:Expr)(t:TE):Prop:=
 ∀(pins:List (Addr×Obj)) (s:Shared) (σ:St) (H:Hp) (Q:VK),Inv X pins σ H s->t σ H Q->wpAny (model X.prog X.w) X.A (eval e X.env) (EP X pins σ Q) X.xe s
def PT(X:Cx)(e:Expr)(t:TT):Prop:=
 ∀(pins:List (Addr×Obj)) (s:Shared) (σ:St) (H:Hp) (Q:Bool->Hp->Prop),Inv X pins σ H s->t σ H Q->wpAny (model X.prog X.w) X.A (isTrue e X.env (eval e X.env)) (TP X pins σ Q) X.xe s
def PW(X:Cx)(e:Expr)(t:TT):Prop:=
 ∀(whole:Sem Value) (pins:List (Addr×Obj)) (s:Shared) (σ:St) (H:Hp) (Q:Bool->Hp->Prop),Inv X pins σ H s->t σ H Q->wpAny (model X.prog X.w) X.A (isTrue e X.env whole) (TP X pins σ Q) X.xe s
theorem Et{X:Cx}{e:Expr}{t:TT}(h:PW X e t):PT X e t:=h _
def PA(X:Cx)(es:List Expr)(t:TA):Prop:=
 ∀(pos:Pos) (pins:List (Addr×Obj)) (s:Shared) (σ:St) (H:Hp) (Q:List V->Hp->Prop),Inv X pins σ H s->t σ H Q->wpAny (model X.prog X.w) X.A (spliced (backTo pos (starEach es X.env))) (AP X pins σ Q) X.xe s
def PS(X:Cx)(st:Stmt)(t:TS):Prop:=
 ∀(pins:List (Addr×Obj)) (s:Shared) (σ:St) (H:Hp) (D:Ends),Inv X pins σ H s->t D σ H->wpAny (model X.prog X.w) X.A (exec st X.env) (SP X pins D) X.xe s
def pM(X:Cx)(st:List Stmt)(t:TS):Prop:=
 ∀(pins:List (Addr×Obj)) (s:Shared) (σ:St) (H:Hp) (D:Ends),Inv X pins σ H s->t D σ H->wpAny (model X.prog X.w) X.A (execs st X.env) (SP X pins D) X.xe s
theorem thn{α:Type}{t:Sem α}{Q Q':α->Shared->Prop}{M:Model}{A:Around}{E:Value->Shared->Prop}{s:Shared}(h:wpAny M A t Q E s)(hQ:∀a s,Q a s->Q' a s):wpAny M A t Q' E s:=wpAny_mono h hQ fun _ _ x=>x
end L2
namespace L2
open PySem PySem.Spec PyProof.Rows
section
variable {X:Cx}
theorem bin{a b:Expr}{ta tb:TE}(ha:PE X a ta)(hb:PE X b tb){pins:List (Addr×Obj)}{s:Shared}{σ:St}{H:Hp}{R:V->V->Hp->Prop}(I:Inv X pins σ H s)(h:ta σ H fun x H1=>tb σ H1 fun y H2=>R x y H2)
  {α:Type} {Q:α->Shared->Prop} {f:Value->Value->Sem α}
  (hf:∀v u s2 x y H2,Inv X pins σ H2 s2->RelV x v->RelV y u->R x y H2->wpAny (model X.prog X.w) X.A (f v u) Q X.xe s2):
  wpAny (model X.prog X.w) X.A (eval a X.env) (fun v s₁=>wpAny (model X.prog X.w) X.A (eval b X.env) (fun u s₂=>wpAny (model X.prog X.w) X.A (f v u) Q X.xe s₂) X.xe s₁) X.xe s:=by
 refine thn (ha pins s σ H _ I h) fun v s1 ⟨x,H1,I1,r1,q1⟩=>?_;refine thn (hb pins s1 σ H1 _ I1 q1) fun u s2 ⟨y,H2,I2,r2,q2⟩=>?_;exact hf v u s2 x y H2 I2 r1 r2 q2
def tVar(i:Nat):TE:=fun σ H Q=>∃v,σ[i]?=some (some v)/\Q v H
def tC(v:V):TE:=fun _ H Q=>Q v H
theorem BN{i:Nat}{x:Str}{pos:Pos}(hN:X.N[i]?=some x)(hv:Cn X.env.scope x)(hd:(x==("__debug__":Str))=false:=by decide)(hcd:(x==("__classdict__":Str))=false:=by decide):PE X (.Name x pos) (tVar i):=by
 intro pins s σ H Q I h;obtain ⟨v,e,h⟩:=h;obtain ⟨m,hn,hl⟩:=I.loc;obtain ⟨u,r,l⟩:=hl i x v hN e hv;have fin:EP X pins σ Q u s:=⟨v,H,I,r,h⟩;rcases l with ⟨hk,hm⟩|⟨hk,c,hc,hcell⟩
 ·exact wpAny_Name (wpAny_loadName_local I.ok.kind hk hn hm fin) hd
 ·rcases hk with hk|hk
  ·exact wpAny_Name (wpAny_loadName_cell I.ok.kind hk hc hcell fin) hd
  ·exact wpAny_Name (wpAny_loadName_free I.ok.kind hk hc hcell fin hcd) hd
theorem zW{i j pos}:PE X (.Constant (.int i) j pos) (tC (.int i)):=fun _ _ _ H _ I h=>wpAny_Constant_int ⟨.int i,H,I.tok _,⟨_,rfl⟩,h⟩
theorem Dz{b j pos}:PE X (.Constant (.bool b) j pos) (tC (.bl b)):=fun _ _ _ H _ I h=>Constant_bool ⟨.bl b,H,I,rfl,h⟩
theorem BZ{j pos}:PE X (.Constant .none j pos) (tC .non):=fun _ _ _ H _ I h=>Constant_none ⟨.non,H,I,rfl,h⟩
theorem ot{x j pos}:PE X (.Constant (.str x) j pos) (tC (.str x)):=fun _ _ _ H _ I h=>Calls.Constant_str ⟨.str x,H,I.tok _,⟨_,rfl⟩,h⟩
def Gl(X:Cx)(x:Str):Prop:=X.env.kindOf x=some .globalImplicit
theorem ld_glob{E:Value->Shared->Prop}{pins:List (Addr×Obj)}{s:Shared}{σ:St}{H:Hp}{x:Str}{u:Value}{pos:Pos}{Q:Value->Shared->Prop}(I:Inv X pins σ H s)(hg:Gl X x)(hm:X.mg x=some u)(h:Q u s)
  (hd:(x==("__debug__":Str))=false:=by decide):wpAny (model X.prog X.w) X.A (eval (.Name x pos) X.env) Q E s:=
 Calls.Name_function_global I.ok.kind hg (Calls.loadGlobal_global (by rw [I.ok.glob];exact I.mod.glob.keeps I.bk) hm h) hd
theorem ld_blt{E:Value->Shared->Prop}{pins:List (Addr×Obj)}{s:Shared}{σ:St}{H:Hp}{x:Str}{u:Value}{pos:Pos}{Q:Value->Shared->Prop}(I:Inv X pins σ H s)(hg:Gl X x)(hm:X.mg x=none)(hv:bootBuiltins x=some u)(h:Q u s)
  (hn:x≠"__name__":=by decide) (hd:(x==("__debug__":Str))=false:=by decide):wpAny (model X.prog X.w) X.A (eval (.Name x pos) X.env) Q E s:=by
 obtain ⟨mb,h1,h2⟩:=I.mod.blt;exact Calls.Name_function_global I.ok.kind hg (Calls.loadGlobal_builtin (by rw [I.ok.glob];exact I.mod.glob.keeps I.bk) hm (by rw [I.ok.blt];exact h1.keeps I.bk) ((h2 x hn).trans hv) h) hd
theorem xg{x:Str}{v:V}{u:Value}{pos:Pos}(hg:Gl X x)(hm:X.mg x=none)(hv:bootBuiltins x=some u)(r:RelV v u)(hn:x≠"__name__":=by decide)(hd:(x==("__debug__":Str))=false:=by decide):PE X (.Name x pos) (tC v):=
 fun _ _ _ H _ I h=>ld_blt I hg hm hv ⟨v,H,I,r,h⟩ hn hd
variable {a b:Expr}{ta tb:TE}{pos:Pos}
variable {tA tB':TT}{rest:List Expr}
def tAnd(t u:TT):TT:=fun σ H Q=>t σ H fun c H1=>if c=true then u σ H1 Q else Q false H1
def tOr(t u:TT):TT:=fun σ H Q=>t σ H fun c H1=>if c=true then Q true H1 else u σ H1 Q
def tNot(t:TT):TT:=fun σ H Q=>t σ H fun c H1=>Q (!c) H1
theorem wK(ha:PT X a tA):PW X (.BoolOp .And [a] pos) tA:=by
 intro wh pins s σ H Q I h;refine isTrue_and (thn (ha pins s σ H Q I h) fun c s1 e=>?_);cases c with
 |true=>exact isTrue_and_nil e
 |false=>exact e
theorem BE(ha:PT X a tA):PW X (.BoolOp .Or [a] pos) tA:=by
 intro wh pins s σ H Q I h;refine isTrue_or (thn (ha pins s σ H Q I h) fun c s1 e=>?_);cases c with
 |false=>exact isTrue_or_nil e
 |true=>exact e
theorem AW(ha:PT X a tA)(hb:PW X (.BoolOp .And (b::rest) pos) tB'):PW X (.BoolOp .And (a::b::rest) pos) (tAnd tA tB'):=by
 intro wh pins s σ H Q I h;refine isTrue_and (thn (ha pins s σ H _ I h) fun c s1 ⟨H1,I1,q1⟩=>?_);cases c with
 |true=>exact hb wh pins s1 σ H1 Q I1 q1
 |false=>exact ⟨H1,I1,q1⟩
theorem CQ(ha:PT X a tA)(hb:PW X (.BoolOp .Or (b::rest) pos) tB'):PW X (.BoolOp .Or (a::b::rest) pos) (tOr tA tB'):=by
 intro wh pins s σ H Q I h;refine isTrue_or (thn (ha pins s σ H _ I h) fun c s1 ⟨H1,I1,q1⟩=>?_);cases c with
 |true=>exact ⟨H1,I1,q1⟩
 |false=>exact hb wh pins s1 σ H1 Q I1 q1
theorem BW(ha:PT X a tA):PT X (.UnaryOp .Not a pos) (tNot tA):=by
 intro pins s σ H Q I h;exact isTrue_not (wpAny_mono (ha pins s σ H (fun c H1=>Q (!c) H1) I h) (fun c s' z=>by cases z with|mk a b d=>exact ⟨a,b,d⟩) fun _ _ e=>e)
def DP(ta tb:TE):TE:=fun σ H Q=>ta σ H fun x H1=>∃c,x=.bl c/\if c=true then tb σ H1 Q else Q (.bl false) H1
def Dn(ta:TE):TE:=fun σ H Q=>ta σ H fun x H1=>∃c,x=.bl c/\Q (.bl (!c)) H1
theorem AL{op}{t:TE}(h:PE X a t):PE X (.BoolOp op [a] pos) t:=fun pins s σ H Q I hw=>BoolOp_one (h pins s σ H Q I hw)
theorem Cg(ha:PE X a ta)(hb:PE X (.BoolOp .And (b::rest) pos) tb):PE X (.BoolOp .And (a::b::rest) pos) (DP ta tb):=by
 intro pins s σ H Q I h;refine BoolOp_and (thn (ha pins s σ H _ I h) fun v s1 ⟨x,H1,I1,r1,q1⟩=>?_);obtain ⟨c,rfl,q1⟩:=q1;cases r1;refine wpAny_truthy_bool ?_;cases c with
 |true=>exact hb pins s1 σ H1 Q I1 q1
 |false=>exact ⟨.bl false,H1,I1,rfl,q1⟩
theorem Ar(ha:PE X a ta):PE X (.UnaryOp .Not a pos) (Dn ta):=by
 intro pins s σ H Q I h;refine UnaryOp_ (thn (ha pins s σ H _ I h) fun v s1 ⟨x,H1,I1,r1,q1⟩=>?_);obtain ⟨c,rfl,q1⟩:=q1;cases r1;exact not_of (wpAny_truthy_bool ⟨.bl (!c),H1,I1,rfl,q1⟩)
def tIf(t:TT)(ta tb:TE):TE:=fun σ H Q=>t σ H fun c H1=>if c=true then ta σ H1 Q else tb σ H1 Q
theorem uQ{c:Expr}(hc:PT X c tA)(ha:PE X a ta)(hb:PE X b tb):PE X (.IfExp c a b pos) (tIf tA ta tb):=by
 intro pins s σ H Q I h;refine wpAny_IfExp (thn (hc pins s σ H _ I h) fun d s1 ⟨H1,I1,q1⟩=>?_);cases d with
 |true=>exact ha pins s1 σ H1 Q I1 q1
 |false=>exact hb pins s1 σ H1 Q I1 q1
end
end L2
namespace L2
open PySem PySem.Spec PyProof.Rows
def SqL(K:W.Frag)(H:Hp)(a:Addr)(xs:List V):Prop:=
 Rd H a (.lst xs)\/
  ∃(o:Obj) (its:Array Value) (n:Nat),K.lookup a=some o/\o.cls=.type "list"/\o.dict=none/\o.data=.seq its n/\its.size<=sizeLine/\Vals xs its.toList
def gz(K:W.Frag)(H:Hp)(a:Addr)(xs:List V):Prop:=
 Rd H a (.tup xs)\/
  ∃(o:Obj) (its:Array Value) (n:Nat),K.lookup a=some o/\o.cls=.type "tuple"/\o.data=.seq its n/\its.size<=sizeLine/\Vals xs its.toList
def absV:Value->Option V
 |.none=>some .non
 |.bool b=>some (.bl b)
 |.int i _=>some (.int i)
 |.str x _=>some (.str x)
 |.bytes b _=>some (.byt b)
 |.float b _=>some (.flt b)
 |.ref a=>some (.ref a)
 |.type n=>some (.ty n)
 |_=>none
theorem RelV.abs{x:V}{u:Value}(r:RelV x u):absV u=some x:=by
 cases x with
 |non=>cases r;rfl
 |bl _=>cases r;rfl
 |int _=>obtain ⟨t,rfl⟩:=r;rfl
 |str _=>obtain ⟨t,rfl⟩:=r;rfl
 |byt _=>obtain ⟨t,rfl⟩:=r;rfl
 |flt _=>obtain ⟨t,rfl⟩:=r;rfl
 |ref _=>cases r;rfl
 |ty _=>cases r;rfl
theorem RelV.inj{x y:V}{u:Value}(r:RelV x u)(q:RelV y u):x=y:=Option.some.inj (r.abs.symm.trans q.abs)
theorem Vals.inj:∀{xs ys:List V} {us:List Value},Vals xs us->Vals ys us->xs=ys
 |_,_,_,.nil,.nil=>rfl
 |_,_,_,.cons r t,.cons r' t'=>by rw [r.inj r',Vals.inj t t']
section
variable {X:Cx}{pins:List (Addr×Obj)}{σ:St}{H:Hp}{s:Shared}{a:Addr}{xs ys:List V}
theorem gA{K:W.Frag}(h:H a=some (.lst xs)):SqL K H a xs:=.inl (.inl h)
theorem Inv.list(I:Inv X pins σ H s)(h:SqL X.K H a xs):∃its:List Value,Vals xs its/\PlainL s.heap a its.toArray/\xs.length<=sizeLine:=by
 rcases h with h|⟨o,its,n,hk,hc,hd,hs,hz,r⟩
 ·obtain ⟨z,its,n,r,e⟩:=h.ok I.hok
  exact ⟨its,r,⟨_,n,e,rfl,rfl,rfl⟩,z⟩
 ·refine ⟨its.toList,r,⟨o,n,I.kIn a o hk,hc,hd,by simpa using hs⟩,?_⟩
  have e:=r.length;simp only [Array.length_toList] at e;lia
theorem Inv.tuple(I:Inv X pins σ H s)(h:gz X.K H a xs):∃its:List Value,Vals xs its/\IsTup s.heap a its.toArray/\xs.length<=sizeLine:=by
 rcases h with h|⟨o,its,n,hk,hc,hs,hz,r⟩
 ·obtain ⟨z,its,r,ob,e,c,_⟩:=h.ok I.hok
  exact ⟨its,r,⟨ob,e,c⟩,z⟩
 ·refine ⟨its.toList,r,⟨o,I.kIn a o hk,hc,n,by simpa using hs⟩,?_⟩
  have e:=r.length;simp only [Array.length_toList] at e;lia
theorem Inv.list_inj(I:Inv X pins σ H s)(h:SqL X.K H a xs)(h':SqL X.K H a ys):xs=ys:=by
 obtain ⟨its,r,⟨o,n,e,_,_,d⟩,_⟩:=I.list h;obtain ⟨its',r',⟨o',n',e',_,_,d'⟩,_⟩:=I.list h';rw [e] at e';cases e';rw [d] at d'
 injection d' with d1 _
 have:its=its':=by simpa using congrArg Array.toList d1
 subst this;exact r.inj r'
theorem Inv.tuple_inj(I:Inv X pins σ H s)(h:gz X.K H a xs)(h':gz X.K H a ys):xs=ys:=by
 obtain ⟨its,r,⟨o,e,_,n,d⟩,_⟩:=I.tuple h;obtain ⟨its',r',⟨o',e',_,n',d'⟩,_⟩:=I.tuple h';rw [e] at e';cases e';rw [d] at d'
 injection d' with d1 _
 have:its=its':=by simpa using congrArg Array.toList d1
 subst this;exact r.inj r'
end
abbrev Cx.wish(X:Cx)(E:Value->Shared->Prop):Cx:={ X with xe:=E }
abbrev Cx.nox(X:Cx):Cx:=X.wish fun _ _=>False
theorem Cx.Ok.wish{X:Cx}(ok:X.Ok)(E:Value->Shared->Prop):(X.wish E).Ok:=
 ⟨ok.mod,ok.kind,ok.glob,ok.blt,ok.above,ok.inj,ok.has,ok.cab,ok.hd,ok.frames,ok.stk,ok.exf,ok.bs,ok.bsz,ok.noex,ok.exfs,ok.funs,ok.frf⟩
theorem Cx.Ok.unwish{X:Cx}{E:Value->Shared->Prop}(ok:(X.wish E).Ok):X.Ok:=
 ⟨ok.mod,ok.kind,ok.glob,ok.blt,ok.above,ok.inj,ok.has,ok.cab,ok.hd,ok.frames,ok.stk,ok.exf,ok.bs,ok.bsz,ok.noex,ok.exfs,ok.funs,ok.frf⟩
section
variable {X:Cx}{pins:List (Addr×Obj)}{σ:St}{H:Hp}{s:Shared}{E:Value->Shared->Prop}
theorem Inv.wish(I:Inv X pins σ H s)(E:Value->Shared->Prop):Inv (X.wish E) pins σ H s:=⟨I.ok.wish E,I.os,I.bare,I.base,I.loc,I.cell,I.free,I.freeC,I.pin,I.hok,I.len⟩
theorem Inv.unwish(I:Inv (X.wish E) pins σ H s):Inv X pins σ H s:=⟨I.ok.unwish,I.os,I.bare,I.base,I.loc,I.cell,I.free,I.freeC,I.pin,I.hok,I.len⟩
end
section
variable {X:Cx}{st:Stmt}{rest:List Stmt}{t u:TS}{e:Expr}{te:TE}{pos:Pos}
def DH:TS:=fun D σ H=>D.nx σ H
def tSeq(t u:TS):TS:=fun D σ H=>t { D with nx:=u D } σ H
theorem xX:pM X [] DH:=fun _ _ σ H _ I h=>wpAny_execs_nil ⟨σ,H,I,h⟩
theorem uH(h1:PS X st t)(h2:pM X rest u):pM X (st::rest) (tSeq t u):=by
 intro pins s σ H D I h;refine wpAny_execs_cons (thn (h1 pins s σ H { D with nx:=u D } I h) fun f s1 q=>?_);cases f with
 |next=>
  obtain ⟨σ',H',I',q⟩:=q;exact h2 pins s1 σ' H' D I' q
 |ret v=>exact q
 |brk=>exact q
 |cont=>exact q
theorem zc(h1:PS X st t):pM X [st] t:=by
 intro pins s σ H D I h;refine wpAny_execs_cons (thn (h1 pins s σ H D I h) fun f s1 q=>?_);cases f with
 |next=>exact wpAny_execs_nil q
 |ret v=>exact q
 |brk=>exact q
 |cont=>exact q
theorem Inv.quiet{pins:List (Addr×Obj)}{σ:St}{H:Hp}{s:Shared}(I:Inv X pins σ H s):interactive X.env=false:=by simp [interactive,I.ok.kind]
def CO(te:TE):TS:=fun D σ H=>te σ H fun _ H1=>D.nx σ H1
theorem xB(he:PE X e te)(hs:swapsWith e none pos.line X.env=pure false:=by rfl):PS X (.Expr e pos) (CO te):=by
 intro pins s σ H D I h;exact wpAny_Expr_any (thn (he pins s σ H _ I h) fun v s1 ⟨x,H1,I1,r1,q1⟩=>⟨σ,H1,I1,q1⟩) I.quiet hs
def tRet(te:TE):TS:=fun D σ H=>te σ H D.rt
theorem A1(he:PE X e te):PS X (.Return (some e) pos) (tRet te):=by
 intro pins s σ H D I h;exact wpAny_Return_some (thn (he pins s σ H _ I h) fun v s1 ⟨x,H1,I1,r1,q1⟩=>⟨x,σ,H1,I1,r1,q1⟩)
def tIfS(c:TT)(t u:TS):TS:=fun D σ H=>c σ H fun b H1=>if b=true then t D σ H1 else u D σ H1
theorem Ct{c:Expr}{a b:List Stmt}{tc:TT}(hc:PT X c tc)(ha:pM X a t)(hb:pM X b u):PS X (.If c a b pos) (tIfS tc t u):=by
 intro pins s σ H D I h;refine wpAny_If (thn (hc pins s σ H _ I h) fun d s1 ⟨H1,I1,q1⟩=>?_);cases d with
 |true=>exact ha pins s1 σ H1 D I1 q1
 |false=>exact hb pins s1 σ H1 D I1 q1
end
abbrev TG:=V->St->Hp->(St->Hp->Prop)->Prop
abbrev zL:=List V->St->Hp->(St->Hp->Prop)->Prop
def PG(X:Cx)(target:Expr)(t:TG):Prop:=
 ∀(pins:List (Addr×Obj)) (s:Shared) (σ:St) (H:Hp) (v:V) (u:Value) (Q:St->Hp->Prop),Inv X pins σ H s->RelV v u->t v σ H Q->
  wpAny (model X.prog X.w) X.A (assign target X.env u) (fun _ s'=>∃σ' H',Inv X pins σ' H' s'/\Q σ' H') X.xe s
def A3(X:Cx)(ts:List Expr)(t:zL):Prop:=
 ∀(pins:List (Addr×Obj)) (s:Shared) (σ:St) (H:Hp) (vs:List V) (us:List Value) (Q:St->Hp->Prop),Inv X pins σ H s->Vals vs us->t vs σ H Q->
  wpAny (model X.prog X.w) X.A (assignInOrder ((assignEach ts X.env).map (·.2)) us) (fun _ s'=>∃σ' H',Inv X pins σ' H' s'/\Q σ' H') X.xe s
abbrev Bu:=V->V->V->Hp->(Hp->Prop)->Prop
def Ae(X:Cx)(t:Bu):Prop:=
 ∀(pins:List (Addr×Obj)) (s:Shared) (σ:St) (H:Hp) (o i v:V) (ov iv u:Value) (Q:Hp->Prop),Inv X pins σ H s->RelV o ov->RelV i iv->RelV v u->t o i v H Q->
  wpAny (model X.prog X.w) X.A (setItem ov iv u) (fun _ s'=>∃H',Inv X pins σ H' s'/\Q H') X.xe s
abbrev TIp:=V->V->Hp->VK->Prop
def Cp(X:Cx)(op:Operator)(t:TIp):Prop:=
 ∀(pins:List (Addr×Obj)) (s:Shared) (σ:St) (H:Hp) (x y:V) (v u:Value) (Q:VK),Inv X pins σ H s->RelV x v->RelV y u->t x y H Q->
  wpAny (model X.prog X.w) X.A (inplaceOp op v u) (EP X pins σ Q) X.xe s
section
variable {X:Cx}{pos:Pos}
def zy(i:Nat):TG:=fun v σ H Q=>Q (σ.set i (some v)) H
theorem yn{i:Nat}{x:Str}(hN:X.N.Nodup)(hi:X.N[i]?=some x)(hx:wC X.env.scope x)(hf:X.fn x=true\/X.env.scope.names.lookup x=some .local:=by first|exact .inl rfl|exact .inr rfl|assumption):PG X (.Name x pos) (zy i):=by
 intro pins s σ H v u Q I r h;exact wpAny_assign_Name (store_ok I hN hi hx r (fun s' I'=>⟨_,H,I',h⟩) hf)
def gNil:zL:=fun vs σ H Q=>vs=[]/\Q σ H
def DR(t:TG)(u:zL):zL:=fun vs σ H Q=>∃v r,vs=v::r/\t v σ H fun σ' H'=>u r σ' H' Q
theorem yA:A3 X [] gNil:=by
 intro pins s σ H vs us Q I r h;obtain ⟨e,h⟩:=h;subst e;cases r;exact assignInOrder_nil ⟨σ,H,I,h⟩
theorem uS{e:Expr}{es:List Expr}{t:TG}{u:zL}(h1:PG X e t)(h2:A3 X es u)
  (hs:(assignEach (e::es) X.env).map (·.2)=assign e X.env::(assignEach es X.env).map (·.2):=by rfl):A3 X (e::es) (DR t u):=by
 intro pins s σ H vs us Q I r h;obtain ⟨v,vr,e1,h⟩:=h;subst e1;cases r with
 |cons r rr=>
  rw [hs];refine assignInOrder_cons (thn (h1 pins s σ H _ _ _ I r h) fun _ s1 ⟨σ1,H1,I1,q1⟩=>?_);exact h2 pins s1 σ1 H1 _ _ Q I1 rr q1
def gTup(K:W.Frag)(n:Nat)(t:zL):TG:=fun v σ H Q=>∃a xs,v=.ref a/\gz K H a xs/\xs.length=n/\t xs σ H Q
theorem AI{es:List Expr}{k:Nat}{t:zL}{n:Nat}(hc:X.calm=true)(h:A3 X es t)
  (hn:(assignEach es X.env).length=n:=by rfl) (hst:(assignEach es X.env).findIdx? (·.1)=none:=by rfl):PG X (.Tuple es k pos) (gTup X.K n t):=by
 intro pins s σ H v u Q I r hw;obtain ⟨a,xs,e1,hq,hl,hw⟩:=hw;subst e1;cases r;obtain ⟨its,rv,ht,hz⟩:=I.tuple hq;refine assign_Tuple_tuple (I.ok.hd hc) ht (by simp [hn,<- hl,rv.length]) hst fun h' hx=>?_
 have I1:Inv X pins σ H { s with heap:=h' }:=I.kept (t':=s.toks) fun b o e=>hx b o (Nat.ne_of_lt (Heap.lt_size e)) e;exact h pins _ σ H xs _ Q I1 (by simpa using rv) hw
def gSub(to ti:TE)(t:Bu):TG:=fun v σ H Q=>to σ H fun o H1=>ti σ H1 fun i H2=>t o i v H2 fun H3=>Q σ H3
theorem B5{o i:Expr}{to ti:TE}{t:Bu}(ho:PE X o to)(hi:PE X i ti)(hs:Ae X t)
  (ha:∀v,assign (.Subscript o i pos) X.env v=(do
   let ov <- holding [v] (eval o X.env)
   let iv <- holding [v,ov] (eval i X.env)
   standAt pos
   holding [v,ov,iv] (setItem ov iv v)
   release [v,ov,iv] []):=by intro _;rfl):PG X (.Subscript o i pos) (gSub to ti t):=by
 intro pins s σ H v u Q I r h;rw [ha];refine wpAny_bind (wpAny_holding (thn (ho pins s σ H _ I h) fun ov s1 ⟨x,H1,I1,r1,q1⟩=>?_));refine wpAny_bind (wpAny_holding (thn (hi pins s1 σ H1 _ I1 q1) fun iv s2 ⟨y,H2,I2,r2,q2⟩=>?_));refine wpAny_bind (wpAny_standAt (wpAny_bind (wpAny_holding (thn (hs pins s2 σ H2 x y v ov iv u _ I2 r1 r2 r q2) fun _ s3 ⟨H3,I3,q3⟩=>?_))));exact wpAny_release ⟨σ,H3,I3,q3⟩
def E9(te:TE)(g:TG):TS:=fun D σ H=>te σ H fun x H1=>g x σ H1 D.nx
theorem BL{tg e:Expr}{te:TE}{g:TG}(he:PE X e te)(hg:PG X tg g)(hs:swapsWithSole [tg] e pos.line X.env=pure false:=by rfl)(hw:swappedStores [tg] e X.env=pure none:=by rfl)
  (h1:(assignEach [tg] X.env).map (·.2)=[assign tg X.env]:=by rfl):PS X (.Assign [tg] e pos) (E9 te g):=by
 intro pins s σ H D I h;refine wpAny_Assign_stores (thn (he pins s σ H _ I h) fun v s1 ⟨x,H1,I1,r1,q1⟩=>?_) hs hw;rw [h1];exact thn (hg pins s1 σ H1 x v _ I1 r1 q1) fun _ s2 q=>q
theorem Bi{i:Nat}{x:Str}{e:Expr}{te:TE}{pos':Pos}(hN:X.N.Nodup)(hi:X.N[i]?=some x)(hx:wC X.env.scope x)(he:PE X e te)(hs:swapsWith e (some (.Name x pos')) pos.line X.env=pure false:=by rfl)(hf:X.fn x=true\/X.env.scope.names.lookup x=some .local:=by first|exact .inl rfl|exact .inr rfl|assumption):
  PS X (.Assign [.Name x pos'] e pos) (E9 te (zy i)):=by
 intro pins s σ H D I h;refine wpAny_Assign_Name (thn (he pins s σ H _ I h) fun v s1 ⟨y,H1,I1,r1,q1⟩=>?_) hs;exact store_ok I1 hN hi hx r1 (fun s2 I2=>⟨_,H1,I2,q1⟩) hf
def tAug(i:Nat)(te:TE)(ti:TIp):TS:=fun D σ H=>∃x,σ[i]?=some (some x)/\te σ H fun y H1=>ti x y H1 fun z H2=>D.nx (σ.set i (some z)) H2
theorem AY{i:Nat}{x:Str}{e:Expr}{te:TE}{op:Operator}{ti:TIp}{pos':Pos}(hN:X.N.Nodup)(hi:X.N[i]?=some x)(hx:wC X.env.scope x)(he:PE X e te)(ho:Cp X op ti)(hf:X.fn x=true\/X.env.scope.names.lookup x=some .local:=by first|exact .inl rfl|exact .inr rfl|assumption):
  PS X (.AugAssign (.Name x pos') op e pos) (tAug i te ti):=by
 intro pins s σ H D I h;obtain ⟨v,e1,h⟩:=h;obtain ⟨m,hn,hl⟩:=I.loc;have vis:Cn X.env.scope x:=by rcases hx with k|k;exact .inl k;exact .inr (.inl k)
 obtain ⟨u,r,l⟩:=hl i x v hi e1 vis;refine wpAny_AugAssign_Name ?_;have go:wpAny (model X.prog X.w) X.A (eval e X.env) (fun w s₂=>wpAny (model X.prog X.w) X.A (inplaceOp op u w) (fun r s₃=>wpAny (model X.prog X.w) X.A (storeName X.env x r) (fun _=>SP X pins D .next) X.xe s₃) X.xe s₂) X.xe s:=by
  refine thn (he pins s σ H _ I h) fun w s1 ⟨y,H1,I1,r1,q1⟩=>?_;refine thn (ho pins s1 σ H1 v y u w _ I1 r r1 q1) fun z s2 ⟨zv,H2,I2,r2,q2⟩=>?_;exact store_ok I2 hN hi hx r2 (fun s3 I3=>⟨_,H2,I3,q2⟩) hf
 rcases l with ⟨hk,hm⟩|⟨hk,c,hc,hcell⟩
 ·exact wpAny_loadName_local I.ok.kind hk hn hm go
 ·rcases hk with hk|hk
  ·exact wpAny_loadName_cell I.ok.kind hk hc hcell go
  ·rcases hx with k|k
   ·have:X.env.scope.names.lookup x=some .free:=hk
    rw [k] at this;cases this
   ·have:X.env.scope.names.lookup x=some .free:=hk
    rw [k] at this;cases this
def ipI(f:Int->Int->Int):TIp:=fun x y H Q=>∃i j,x=.int i/\y=.int j/\Q (.int (f i j)) H
theorem BS:Cp X .Add (ipI fun i j=>i+j):=by
 intro pins s σ H x y v u Q I r1 r2 h;obtain ⟨i,j,e1,e2,q⟩:=h;subst e1;subst e2;obtain ⟨t,rfl⟩:=r1;obtain ⟨t',rfl⟩:=r2;exact iadd_int ⟨.int _,H,I.tok _,⟨_,rfl⟩,q⟩
end
section
variable {X:Cx}{pos:Pos}
def C1(c:TT)(tb:TS):TS:=fun D σ H=>∃W:Nat->St->Hp->Prop,(∃m,W m σ H)/\∀m σ H,W m σ H->
 c σ H fun b H1=>if b=true then ∃N:St->Hp->Prop,(∀σ' H',N σ' H'->∃m',m'<m/\W m' σ' H')/\tb { D with nx:=N,ct:=N,bk:=D.nx } σ H1 else D.nx σ H1
theorem u4{c:Expr}{body:List Stmt}{tc:TT}{tb:TS}(hp:PassesOwn (model X.prog X.w) X.A X.env X.xe)(hc:PT X c tc)(hb:pM X body tb):PS X (.While c body [] pos) (C1 tc tb):=by
 intro pins s σ H D I h;obtain ⟨W,⟨m0,w0⟩,turn⟩:=h;refine wpAny_While (codeAny_whileLoop (fun n s'=>∃σ' H',Inv X pins σ' H' s'/\W n σ' H') ?_ m0 ⟨σ,H,I,w0⟩)
 rintro n s1 ⟨σ1,H1,I1,w1⟩
 refine wpAny_passesOwn hp (thn (hc pins s1 σ1 H1 _ I1 (turn n σ1 H1 w1)) fun b s2 ⟨H2,I2,q2⟩=>?_);cases b with
 |true=>
  obtain ⟨N,hN,q2⟩:=q2;rw [if_pos rfl];refine wpAny_passesOwn hp (thn (hb pins s2 σ1 H2 _ I2 q2) fun f s3 q3=>?_);cases f with
  |next=>
   obtain ⟨σ3,H3,I3,n3⟩:=q3;obtain ⟨m',hm,w3⟩:=hN σ3 H3 n3;exact ⟨m',hm,σ3,H3,I3,w3⟩
  |cont=>
   obtain ⟨σ3,H3,I3,n3⟩:=q3;obtain ⟨m',hm,w3⟩:=hN σ3 H3 n3;exact ⟨m',hm,σ3,H3,I3,w3⟩
  |brk=>exact q3
  |ret v=>exact q3
 |false=>
  rw [if_neg Bool.false_ne_true];exact wpAny_execs_nil ⟨σ1,H2,I2,q2⟩
end
structure It where
 go:Nat->Hp->Prop
 yld:Nat->Hp->V->Hp->Prop
 stop:Nat->Hp->Prop
def gs(X:Cx)(pins:List (Addr×Obj))(H:Hp)(b:Addr):Prop:=
 H b=none/\b≠X.env.locals/\b∉X.fs/\(b∈X.ex\/X.s₀.heap.objs.size<=b)/\(∀x c,X.env.cells.lookup x=some c->c≠b)/\∀p∈X.pn++pins,p.1≠b
theorem Inv.fpOk{X:Cx}{pins:List (Addr×Obj)}{σ:St}{H H':Hp}{s:Shared}{b:Addr}(I:Inv X pins σ H s)(hb:s.heap.objs.size<=b)(hn:H' b=none):gs X pins H' b:=by
 refine ⟨hn,Nat.ne_of_gt (Nat.lt_of_lt_of_le I.lt hb),I.nofs hb,.inr (Nat.le_trans I.sz hb),fun x c e z=>?_,fun p hp z=>?_⟩
 ·obtain ⟨v,q⟩:=I.cell x c e
  exact absurd (Nat.lt_of_lt_of_le q.lt (by rw [z];exact hb)) (Nat.lt_irrefl _)
 ·exact absurd (Nat.lt_of_lt_of_le (Heap.lt_size (I.pin p hp).1) (by rw [z];exact hb)) (Nat.lt_irrefl _)
structure Turn(P:Program)(w:World)(K:W.Frag)(tg:Expr)(J:It)(fp:List Addr)(it:Addr)(tn:Nat->Heap->Prop):Prop where
 mem:it∈fp
 obj:∀i h,tn i h->∀b∈fp,∃o,h.get? b=some o/\∀v,o.data≠.cell v
 keep:∀i h h',tn i h->(∀b∈fp,∀o,h.get? b=some o->h'.get? b=some o)->tn i h'
 item:∀(X:Cx),X.prog=P->X.w=w->X.K=K->X.calm=true->∀(i:Nat) (pins:List (Addr×Obj)) (s:Shared) (σ:St) (H:Hp) (E:Value->Shared->Prop),Inv X pins σ H s->(∀b∈fp,gs X pins H b)->tn i s.heap->J.go i H->
  wpAny (model P w) X.A (pyNext (.ref it)) (fun r s1=>∃u,r=some u/\
   wpAny (model P w) X.A (letOwnedTupleGo tg (.ref it) u) (fun _ s2=>∃x H',Inv X pins σ H' s2/\RelV x u/\J.yld i H x H'/\tn (i+1) s2.heap/\∀b∈fp,H' b=none) E s1) E s
 done:∀(X:Cx),X.prog=P->X.w=w->X.K=K->X.calm=true->∀(i:Nat) (pins:List (Addr×Obj)) (s:Shared) (σ:St) (H:Hp) (E:Value->Shared->Prop),Inv X pins σ H s->(∀b∈fp,gs X pins H b)->tn i s.heap->J.stop i H->
  wpAny (model P w) X.A (pyNext (.ref it)) (fun r s1=>r=none/\Inv X pins σ H s1) E s
 self:∀(A:Around) (i:Nat) (s:Shared) (Q:Value->Shared->Prop) (E:Value->Shared->Prop),tn i s.heap->Q (.ref it) s->wpAny (model P w) A (pyIter (.ref it)) Q E s
abbrev TI:=St->Hp->(It->Hp->Prop)->Prop
def PIE(X:Cx)(pins:List (Addr×Obj))(σ:St)(tg:Expr)(R:It->Hp->Prop)(itv:Value)(s2:Shared):Prop:=
 ∃(it:Addr) (fp:List Addr) (tn:Nat->Heap->Prop) (J:It) (H':Hp),itv=.ref it/\Inv X pins σ H' s2/\Turn X.prog X.w X.K tg J fp it tn/\tn 0 s2.heap/\(∀b∈fp,gs X pins H' b)/\R J H'
def PI(X:Cx)(tg iter:Expr)(wi:TI):Prop:=
 ∀(pins:List (Addr×Obj)) (s:Shared) (σ:St) (H:Hp) (R:It->Hp->Prop),Inv X pins σ H s->wi σ H R->
  wpAny (model X.prog X.w) X.A (eval iter X.env) (fun v s1=>wpAny (model X.prog X.w) X.A (pyIter v) (PIE X pins σ tg R) X.xe s1) X.xe s
theorem uf{M:Model}{A:Around}{E:Value->Shared->Prop}{s:Shared}{tg:Expr}{it:Addr}{u:Value}{o:Obj}{n:String}{vs:Array Value}{Q:Unit->Shared->Prop}(ho:s.heap.get? it=some o)(hc:o.cls=.type n)(hd:o.data=.fields vs)
  (hn:["enumerate","zip","dict_itemiterator","dict_reverseitemiterator","odict_iterator","itertools.zip_longest","itertools.pairwise"].contains n=false) (hQ:Q () s):wpAny M A (letOwnedTupleGo tg (.ref it) u) Q E s:=by
 unfold letOwnedTupleGo
 cases tg<;>first
  |exact wpAny_pure hQ
  |(cases u<;>first
    |exact wpAny_pure hQ
    |(refine wpAny_bind (wpAny_load ho ?_)
      rw [hc,hd];show wpAny M A (if (["enumerate","zip","dict_itemiterator","dict_reverseitemiterator","odict_iterator","itertools.zip_longest","itertools.pairwise"].contains n&&vs[0]?==some (rawInt _))=true then _ else _) Q E s
      rw [if_neg (by intro h;rw [hn,Bool.false_and] at h;cases h)]
      exact wpAny_pure hQ))
def Itl(K:W.Frag)(a:Addr):It:=
 ⟨fun i H=>∃xs x,SqL K H a xs/\xs[i]?=some x,fun i H x H'=>H'=H/\∀xs,SqL K H a xs->xs[i]?=some x,fun i H=>∃xs,SqL K H a xs/\xs.length<=i⟩
def Itt(K:W.Frag)(a:Addr):It:=
 ⟨fun i H=>∃xs x,gz K H a xs/\xs[i]?=some x,fun i H x H'=>H'=H/\∀xs,gz K H a xs->xs[i]?=some x,fun i H=>∃xs,gz K H a xs/\xs.length<=i⟩
def Itr(lo:Int)(n:Nat):It:=⟨fun i _=>i<n,fun i H x H'=>H'=H/\x=.int (lo+i),fun i _=>n<=i⟩
theorem sf{P:Program}{w:World}{K:W.Frag}{tg:Expr}(a it:Addr):Turn P w K tg (Itl K a) [it] it (fun i h=>h.IsListIter it a i) where
 mem:=by simp
 obj:=fun i h st b hb=>by
  have e:b=it:=by simpa using hb
  subst e;obtain ⟨o,e,c,d⟩:=st;exact ⟨o,e,fun v z=>by rw [d] at z;cases z⟩
 keep:=fun i h h' st k=>st.at fun o e=>k it (by simp) o e
 item:=by
  intro X hP hw hK hc i pins s σ H E I hf st hg;subst hP hw hK;obtain ⟨xs,x,hq,hx⟩:=hg;obtain ⟨its,rv,p,hz⟩:=I.list hq;obtain ⟨u,hu,ru⟩:=rv.get hx;obtain ⟨f0,f1,f2,f3,f4,f5⟩:=hf it (by simp)
  refine wpAny_pyNext_list_item st p.isList (x:=u) (by simpa using hu) fun h' st' sb=>?_
  have I1:Inv X pins σ H { s with heap:=h' }:=I.turned (t':=s.toks) (fun b o hb e=>(sb.2 b hb).trans e) f0 f1 f3 f4 f5;obtain ⟨o,e,c,d⟩:=id st';exact ⟨u,rfl,uf (s:={ s with heap:=h' }) e c d (by decide) ⟨x,H,I1,ru,⟨rfl,fun ys hy=>by rw [I.list_inj hy hq];exact hx⟩,st',fun b hb=>(hf b hb).1⟩⟩
 done:=by
  intro X hP hw hK hc i pins s σ H E I hf st hg;subst hP hw hK;obtain ⟨xs,hq,hx⟩:=hg;obtain ⟨its,rv,p,hz⟩:=I.list hq;obtain ⟨f0,f1,f2,f3,f4,f5⟩:=hf it (by simp)
  have hl:=rv.length;exact wpAny_pyNext_list_end (I.ok.hd hc) st p.isList (by simp;lia) fun h' eb=>⟨rfl,I.turned (t':=s.toks) (fun b o hb e=>eb b o hb e) f0 f1 f3 f4 f5⟩
 self:=fun _ _ _ _ _ st h=>wpAny_pyIter_listiter st h
theorem pi{P:Program}{w:World}{K:W.Frag}{tg:Expr}(a it:Addr):Turn P w K tg (Itt K a) [it] it (fun i h=>h.IsTupleIter it a i) where
 mem:=by simp
 obj:=fun i h st b hb=>by
  have e:b=it:=by simpa using hb
  subst e;obtain ⟨o,e,c,d⟩:=st;exact ⟨o,e,fun v z=>by rw [d] at z;cases z⟩
 keep:=fun i h h' st k=>st.at fun o e=>k it (by simp) o e
 item:=by
  intro X hP hw hK hc i pins s σ H E I hf st hg;subst hP hw hK;obtain ⟨xs,x,hq,hx⟩:=hg;obtain ⟨its,rv,p,hz⟩:=I.tuple hq;obtain ⟨u,hu,ru⟩:=rv.get hx;obtain ⟨f0,f1,f2,f3,f4,f5⟩:=hf it (by simp)
  refine wpAny_pyNext_tuple_item st (show s.heap.IsTuple a its.toArray from p) (x:=u) (by simpa using hu) fun h' st' sb=>?_
  have I1:Inv X pins σ H { s with heap:=h' }:=I.turned (t':=s.toks) (fun b o hb e=>(sb.2 b hb).trans e) f0 f1 f3 f4 f5;obtain ⟨o,e,c,d⟩:=id st';exact ⟨u,rfl,uf (s:={ s with heap:=h' }) e c d (by decide) ⟨x,H,I1,ru,⟨rfl,fun ys hy=>by rw [I.tuple_inj hy hq];exact hx⟩,st',fun b hb=>(hf b hb).1⟩⟩
 done:=by
  intro X hP hw hK hc i pins s σ H E I hf st hg;subst hP hw hK;obtain ⟨xs,hq,hx⟩:=hg;obtain ⟨its,rv,p,hz⟩:=I.tuple hq;obtain ⟨f0,f1,f2,f3,f4,f5⟩:=hf it (by simp)
  have hl:=rv.length;exact wpAny_pyNext_tuple_end (I.ok.hd hc) st (show s.heap.IsTuple a its.toArray from p) (by simp;lia) fun h' eb=>⟨rfl,I.turned (t':=s.toks) (fun b o hb e=>eb b o hb e) f0 f1 f3 f4 f5⟩
 self:=fun _ _ _ _ _ st h=>wpAny_pyIter_tupleiter st h
theorem oW{P:Program}{w:World}{K:W.Frag}{tg:Expr}(it:Addr)(lo:Int)(n:Nat):Turn P w K tg (Itr lo n) [it] it (fun i h=>IsRangeIter h it (lo+(i:Nat)*1) ((n:Int)-(i:Nat)) 1) where
 mem:=by simp
 obj:=fun i h st b hb=>by
  have e:b=it:=by simpa using hb
  subst e;exact ⟨_,st,fun v z=>by
   have z':Data.fields _=Data.cell v:=z;cases z'⟩
 keep:=fun i h h' st k=>k it (by simp) _ st
 item:=by
  intro X hP hw hK hc i pins s σ H E I hf st hg;subst hP hw hK;obtain ⟨f0,f1,f2,f3,f4,f5⟩:=hf it (by simp)
  have W:=Walks.range (prog:=X.prog) (w:=X.w) (I.ok.hd hc) it lo 1 n;refine W.item i s _ _ hg st fun v h' tk hv st' kk=>?_;obtain ⟨t,rfl⟩:=hv;have I1:Inv X pins σ H { s with heap:=h',toks:=tk }:=I.turned (fun b o hb e=>kk b o (by simpa using hb) e) f0 f1 f3 f4 f5
  refine ⟨_,rfl,uf (s:={ s with heap:=h',toks:=tk }) (n:="range_iterator") st' rfl rfl (by decide) ⟨.int (lo+i),H,I1,⟨t,?_⟩,⟨rfl,rfl⟩,st',fun b hb=>(hf b hb).1⟩⟩
  rw [Int.mul_one]
 done:=by
  intro X hP hw hK hc i pins s σ H E I hf st hg;subst hP hw hK;obtain ⟨f0,f1,f2,f3,f4,f5⟩:=hf it (by simp)
  exact wpAny_pyNext_range_end (I.ok.hd hc) st (by have:n<=i:=hg;lia) fun h' eb=>⟨rfl,I.turned (t':=s.toks) (fun b o hb e=>eb b o hb e) f0 f1 f3 f4 f5⟩
 self:=fun _ _ _ _ _ st h=>wpAny_pyIter_rangeiter st h
end L2
namespace L2
open PySem PySem.Spec PyProof.Rows
section
variable {X:Cx}{tg:Expr}
theorem tZ{pins:List (Addr×Obj)}{σ:St}{H:Hp}{s:Shared}{R:It->Hp->Prop}{E:Value->Shared->Prop}{lo hi:Int}{t u v:Tok}{tk:Nat}(I:Inv X pins σ H s)(h1:-(2 ^ 62)<=lo)(h2:lo<2 ^ 62)(h3:-(2 ^ 62)<=hi)(h4:hi<2 ^ 62)
  (q:R (Itr lo (hi-lo).toNat) H):wpAny (model X.prog X.w) X.A (pyIter (.ref s.heap.objs.size)) (PIE X pins σ tg R) E { s with heap:=s.heap.push { cls:=.type "range",data:=.fields #[.int lo t,.int hi u,.int 1 v] },toks:=tk }:=by
 refine wpAny_pyIter_range (IsRange.new ..) (small_one h1 h2 h3 h4) ?_;have I1:Inv X pins σ H { s with heap:=s.heap.push { cls:=.type "range",data:=.fields #[.int lo t,.int hi u,.int 1 v] },toks:=tk }:=I.kept fun b o e=>Heap.get?_push_of_some _ e;refine ⟨(s.heap.push { cls:=.type "range",data:=.fields #[.int lo t,.int hi u,.int 1 v] }).objs.size,[(s.heap.push { cls:=.type "range",data:=.fields #[.int lo t,.int hi u,.int 1 v] }).objs.size],_,_,H,rfl,
  I1.kept (t':=tk) fun b o e=>Heap.get?_push_of_some _ e,oW _ lo (hi-lo).toNat,?_,fun b hb=>?_,q⟩
 ·have e1:lo+((0:Nat):Int)*1=lo:=by simp
  have e2:(((hi-lo).toNat:Nat):Int)-((0:Nat):Int)=Builtin.Range.rangeSize lo hi 1:=by rw [rangeSize_one];split<;>lia
  show IsRangeIter _ _ (lo+((0:Nat):Int)*1) ((((hi-lo).toNat:Nat):Int)-((0:Nat):Int)) 1;rw [e1,e2];exact Heap.get?_push_size _ rfl
 ·have e:b=(s.heap.push { cls:=.type "range",data:=.fields #[.int lo t,.int hi u,.int 1 v] }).objs.size:=by simpa using hb
  subst e;exact I1.fpOk (Nat.le_refl _) (I1.hok.fresh (Nat.le_refl _))
def CC(ta:TA):TI:=fun σ H R=>ta σ H fun vs H1=>∃j:Int,vs=[.int j]/\-(2 ^ 62)<=j/\j<2 ^ 62/\R (Itr 0 j.toNat) H1
theorem rZ{a:Expr}{ta:TA}{p pos:Pos}(hg:Gl X "range")(hm:X.mg "range"=none)(ha:PA X [a] ta)(hs:starEach [a] X.env=[(false,eval a X.env)]:=by rfl):PI X tg (.Call (.Name "range" p) [a] [] pos) (CC ta):=by
 intro pins s σ H R I h;refine Call_ (ld_blt I hg hm boot_range (PyProof.Rows.callWith_type1 (thn (ha pos pins s σ H _ I h) fun us s1 ⟨vs,H1,I1,r1,q1⟩=>?_) hs rfl));obtain ⟨j,e,q1,q2,q⟩:=q1;subst e;cases r1 with
 |cons r rr=>
  cases rr;obtain ⟨t,rfl⟩:=r;exact call_range_1 (tZ I1 (by lia) (by lia) q1 q2 (by simpa using q))
def tFor(wi:TI)(g:TG)(tb:TS):TS:=fun D σ H=>wi σ H fun J H1=>∃W:Nat->Nat->St->Hp->Prop,(∃m,W 0 m σ H1)/\∀i m σ H,W i m σ H->
 (J.stop i H/\D.nx σ H)\/(J.go i H/\∃N:St->Hp->Prop,(∀σ' H',N σ' H'->∃m',m'<m/\W (i+1) m' σ' H')/\∀x H',J.yld i H x H'->g x σ H' fun σ2 H2=>tb { D with nx:=N,ct:=N,bk:=D.nx } σ2 H2)
def jy(fp:List Addr)(h:Heap):List (Addr×Obj):=fp.filterMap fun b=>(h.get? b).map fun o=>(b,o)
theorem d_{fp:List Addr}{h:Heap}{b:Addr}{o:Obj}(hb:b∈fp)(e:h.get? b=some o):(b,o)∈jy fp h:=List.mem_filterMap.mpr ⟨b,hb,by rw [e];rfl⟩
theorem t9{fp:List Addr}{h:Heap}{p:Addr×Obj}(hp:p∈jy fp h):p.1∈fp/\h.get? p.1=some p.2:=by
 obtain ⟨b,hb,e⟩:=List.mem_filterMap.mp hp;cases q:h.get? b with
 |none=>rw [q] at e;cases e
 |some o=>
  rw [q] at e;have e':(b,o)=p:=Option.some.inj e;subst e';exact ⟨hb,q⟩
theorem Inv.pinned{pins:List (Addr×Obj)}{σ:St}{H:Hp}{s:Shared}{fp:List Addr}(I:Inv X pins σ H s)(hf:∀b∈fp,gs X pins H b)(ho:∀b∈fp,∃o,s.heap.get? b=some o/\∀v,o.data≠.cell v):Inv X (pins++jy fp s.heap) σ H s:=
 I.pins_of fun p hp=>(List.mem_append.mp hp).elim (fun z=>I.pin p (List.mem_append_right _ z)) fun z=>by
  obtain ⟨hb,e⟩:=t9 z;obtain ⟨f0,f1,f2,_⟩:=hf p.1 hb;obtain ⟨o,e',d⟩:=ho p.1 hb;rw [e] at e';cases e';exact ⟨e,f0,f1,f2,d⟩
theorem Inv.unpinned{pins pl:List (Addr×Obj)}{σ:St}{H:Hp}{s:Shared}(I:Inv X (pins++pl) σ H s):Inv X pins σ H s:=I.pins_of fun p hp=>I.pin p (List.mem_append_right _ (List.mem_append_left _ hp))
theorem Cd{iter:Expr}{body:List Stmt}{wi:TI}{g:TG}{tb:TS}{pos:Pos}(hp:PassesOwn (model X.prog X.w) X.A X.env X.xe)(hc:X.calm=true)(hi:PI X tg iter wi)(hg:PG X tg g)(hb:pM X body tb)
  (hs:∀x,foldedSetIterable iter X.env x=pure x:=by intro _;rfl):PS X (.For tg iter body [] pos) (tFor wi g tb):=by
 intro pins s σ H D I h;refine wpAny_For (thn (hi pins s σ H _ I h) fun v s1 h1=>thn h1 fun itv s2 h2=>?_) hs;obtain ⟨it,fp,tn,J,H2,e,I2,T,st2,f2,W,⟨m0,w0⟩,turn⟩:=h2;subst e
 -- what stays true of the iterator's objects through the loop
 have stat:∀{H':Hp},(∀b∈fp,H' b=none)->∀b∈fp,gs X pins H' b:=fun hn b hb=>⟨hn b hb,(f2 b hb).2⟩;refine codeAny_forLoop_any (fun n s'=>∃i σ' H',Inv X pins σ' H' s'/\tn i s'.heap/\(∀b∈fp,H' b=none)/\W i n σ' H') ?_ m0 ⟨0,σ,H2,I2,st2,fun b hb=>(f2 b hb).1,w0⟩
 rintro n s3 ⟨i,σ3,H3,I3,st3,fr3,w3⟩
 rcases turn i n σ3 H3 w3 with ⟨stop,qn⟩|⟨go,N,hN,step⟩
 ·refine wpAny_passesOwn hp (thn (T.done X rfl rfl rfl hc i pins s3 σ3 H3 X.xe I3 (stat fr3) st3 stop) fun r s4 ⟨hr,I4⟩=>?_)
  subst hr;exact wpAny_execs_nil ⟨σ3,H3,I4,qn⟩
 ·refine wpAny_passesOwn hp (thn (T.item X rfl rfl rfl hc i pins s3 σ3 H3 X.xe I3 (stat fr3) st3 go) fun r s4 ⟨u,hr,h4⟩=>?_)
  subst hr;refine wpAny_passesOwn hp (thn h4 fun _ s5 ⟨x,H5,I5,r5,y5,st5,fr5⟩=>?_);have I5':=I5.pinned (stat fr5) (T.obj _ _ st5);refine wpAny_passesOwn hp (thn (hg _ s5 σ3 H5 x u _ I5' r5 (step x H5 y5)) fun _ s6 ⟨σ6,H6,I6,q6⟩=>?_);refine wpAny_passesOwn hp (thn (hb _ s6 σ6 H6 _ I6 q6) fun f s7 q7=>?_);have again:∀{σ7:St} {H7:Hp},Inv X (pins++jy fp s5.heap) σ7 H7 s7->N σ7 H7->∃m,m<n/\∃i σ' H',Inv X pins σ' H' s7/\tn i s7.heap/\(∀b∈fp,H' b=none)/\W i m σ' H':=fun {σ7 H7} I7 n7=>by
   obtain ⟨m',hm,w7⟩:=hN σ7 H7 n7;refine ⟨m',hm,i+1,σ7,H7,I7.unpinned,T.keep _ _ _ st5 fun b hb o e=>(I7.pin (b,o) (List.mem_append_right _ (List.mem_append_right _ (d_ hb e)))).1,fun b hb=>?_,w7⟩;obtain ⟨o,e,d⟩:=T.obj _ _ st5 b hb;exact (I7.pin (b,o) (List.mem_append_right _ (List.mem_append_right _ (d_ hb e)))).2.1
  cases f with
  |next=>obtain ⟨σ7,H7,I7,n7⟩:=q7;exact again I7 n7
  |cont=>obtain ⟨σ7,H7,I7,n7⟩:=q7;exact again I7 n7
  |brk=>obtain ⟨σ7,H7,I7,q7⟩:=q7;exact ⟨σ7,H7,I7.unpinned,q7⟩
  |ret v=>obtain ⟨x7,σ7,H7,I7,r7,q7⟩:=q7;exact ⟨x7,σ7,H7,I7.unpinned,r7,q7⟩
end
end L2
namespace L2
open PySem PySem.Spec PyProof.Rows
abbrev R2:=V->V->Hp->VK->Prop
def da(X:Cx)(f:Value->Value->Sem Value)(r:R2):Prop:=
 ∀(pins:List (Addr×Obj)) (s:Shared) (σ:St) (H:Hp) (x y:V) (v u:Value) (Q:VK),Inv X pins σ H s->RelV x v->RelV y u->r x y H Q->
  wpAny (model X.prog X.w) X.A (f v u) (EP X pins σ Q) X.xe s
def cr(X:Cx)(f:Value)(r:List V->Hp->VK->Prop):Prop:=
 ∀(pins:List (Addr×Obj)) (s:Shared) (σ:St) (H:Hp) (xs:List V) (us:List Value) (Q:VK),Inv X pins σ H s->Vals xs us->r xs H Q->
  wpAny (model X.prog X.w) X.A (call f us) (EP X pins σ Q) X.xe s
def TruR(X:Cx)(r:V->Hp->(Bool->Hp->Prop)->Prop):Prop:=
 ∀(pins:List (Addr×Obj)) (s:Shared) (σ:St) (H:Hp) (x:V) (v:Value) (Q:Bool->Hp->Prop),Inv X pins σ H s->RelV x v->r x H Q->
  wpAny (model X.prog X.w) X.A (truthy v) (TP X pins σ Q) X.xe s
def D6(r:R2)(ta tb:TE):TE:=fun σ H Q=>ta σ H fun x H1=>tb σ H1 fun y H2=>r x y H2 Q
def rI(C:Int->Int->Prop)(g:Int->Int->V):R2:=fun x y H Q=>∃i j,x=.int i/\y=.int j/\C i j/\Q (g i j) H
def zF(g:Int->Int->V):R2:=fun x y H Q=>∃i j,x=.int i/\y=.int j/\Q (g i j) H
section
variable {X:Cx}{a b c:Expr}{ta tb tc:TE}{pos:Pos}
theorem binT(ha:PE X a ta)(hb:PE X b tb){pins:List (Addr×Obj)}{s:Shared}{σ:St}{H:Hp}{R:V->V->Hp->Prop}(I:Inv X pins σ H s)
  (h:ta σ H fun x H1=>tb σ H1 fun y H2=>R x y H2) {Q:Value->Shared->Prop} {f:Value->Value->Sem Value}
  (hf:∀v u s2 x y H2,Inv X pins σ H2 s2->RelV x v->RelV y u->R x y H2->wpAny (model X.prog X.w) X.A (f v u) Q X.xe s2):
  wpAny (model X.prog X.w) X.A (eval a X.env) (fun v s₁=>wpAny (model X.prog X.w) X.A (eval b X.env) (fun u s₂=>wpAny (model X.prog X.w) X.A (f v u) Q X.xe s₂) X.xe s₁) X.xe s:=by
 refine thn (ha pins s σ H _ I h) fun v s1 ⟨x,H1,I1,r1,q1⟩=>?_;refine thn (hb pins s1 σ H1 _ I1 q1) fun u s2 ⟨y,H2,I2,r2,q2⟩=>?_;exact hf v u s2 x y H2 I2 r1 r2 q2
theorem Dv{op:Operator}{r:R2}(ho:da X (binaryOp op) r)(ha:PE X a ta)(hb:PE X b tb):PE X (.BinOp a op b pos) (D6 r ta tb):=by
 intro pins s σ H Q I h;exact wpAny_BinOp (binT ha hb I h fun v u s2 x y H2 I2 rx ry q=>ho pins s2 σ H2 x y v u Q I2 rx ry q)
theorem opI{f:Value->Value->Sem Value}{C:Int->Int->Prop}{g:Int->Int->Int}
  (rule:∀(i j:Int) (t u:Tok) (s:Shared) (Q:Value->Shared->Prop) (E:Value->Shared->Prop),C i j->Q (.int (g i j) s.toks) { s with toks:=s.toks+1 }->wpAny (model X.prog X.w) X.A (f (.int i t) (.int j u)) Q E s):
  da X f (rI C fun i j=>.int (g i j)):=by
 intro pins s σ H x y v u Q I rx ry h;obtain ⟨i,j,rfl,rfl,hc,q⟩:=h;obtain ⟨t,rfl⟩:=rx;obtain ⟨t',rfl⟩:=ry;exact rule i j t t' s _ _ hc ⟨.int (g i j),H,I.tok _,⟨_,rfl⟩,q⟩
theorem D_{f:Value->Value->Sem Value}{g:Int->Int->Int}
  (rule:∀(i j:Int) (t u:Tok) (s:Shared) (Q:Value->Shared->Prop) (E:Value->Shared->Prop),Q (.int (g i j) s.toks) { s with toks:=s.toks+1 }->wpAny (model X.prog X.w) X.A (f (.int i t) (.int j u)) Q E s):
  da X f (zF fun i j=>.int (g i j)):=by
 intro pins s σ H x y v u Q I rx ry h;obtain ⟨i,j,rfl,rfl,q⟩:=h;obtain ⟨t,rfl⟩:=rx;obtain ⟨t',rfl⟩:=ry;exact rule i j t t' s _ _ ⟨.int (g i j),H,I.tok _,⟨_,rfl⟩,q⟩
theorem AV{f:Value->Value->Sem Value}{g:Int->Int->Bool}
  (rule:∀(i j:Int) (t u:Tok) (s:Shared) (Q:Value->Shared->Prop) (E:Value->Shared->Prop),Q (.bool (g i j)) s->wpAny (model X.prog X.w) X.A (f (.int i t) (.int j u)) Q E s):
  da X f (zF fun i j=>.bl (g i j)):=by
 intro pins s σ H x y v u Q I rx ry h;obtain ⟨i,j,rfl,rfl,q⟩:=h;obtain ⟨t,rfl⟩:=rx;obtain ⟨t',rfl⟩:=ry;exact rule i j t t' s _ _ ⟨.bl (g i j),H,I,rfl,q⟩
def Cw(i j:Int):Prop:=0<=j/\j<=1000000/\i.natAbs<2 ^ 64
def CMul(i j:Int):Prop:=(-(2 ^ 64)<i/\i<2 ^ 64)\/(-(2 ^ 64)<j/\j<2 ^ 64)
theorem CMul.ok{i j:Int}(h:CMul i j):IntMulOk i j:=by
 rcases h with ⟨h1,h2⟩|⟨h1,h2⟩
 ·exact .of_left (intBits_le_64 h1 h2)
 ·exact .of_right (intBits_le_64 h1 h2)
theorem Bz:da X (binaryOp .Add) (zF fun i j=>.int (i+j)):=D_ fun _ _ _ _ _ _ _ q=>add_int q
theorem C0:da X (binaryOp .Sub) (zF fun i j=>.int (i-j)):=D_ fun _ _ _ _ _ _ _ q=>sub_int q
theorem BK:da X (binaryOp .Mult) (rI CMul fun i j=>.int (i*j)):=opI fun _ _ _ _ _ _ _ hc q=>mul_int q hc.ok
theorem AT:da X (binaryOp .Mod) (rI (fun _ j=>0<j) fun i j=>.int (i % j)):=opI fun i j _ _ _ _ _ hc q=>by
 have h1:(0:Int)<j:=hc;exact mod_int' (by lia) (by rw [Int.fmod_eq_emod_of_nonneg i (by lia)];exact q)
theorem AO:da X (binaryOp .Pow) (rI Cw fun i j=>.int (i ^ j.toNat)):=opI fun _ _ _ _ _ _ _ hc q=>pow_int_small hc.1 hc.2.1 hc.2.2 q
end
section
variable {X:Cx}{a b c:Expr}{ta tb tc:TE}{pos:Pos}
theorem wa{pins:List (Addr×Obj)}{σ:St}{H:Hp}{s:Shared}{Q:VK}{k k':Bool}(I:Inv X pins σ H s)(q:Q (.bl k) H)(e:k=k'):EP X pins σ Q (.bool k') s:=by
 subst e;exact ⟨.bl k,H,I,rfl,q⟩
theorem D1:da X (compareOp .Lt) (zF fun i j=>.bl (decide (i<j))):=AV fun _ _ _ _ _ _ _ q=>lt_int q
theorem Ee:da X (compareOp .Gt) (zF fun i j=>.bl (decide (j<i))):=AV fun _ _ _ _ _ _ _ q=>gt_int q
theorem Cy:da X (compareOp .GtE) (zF fun i j=>.bl (decide (j<=i))):=AV fun _ _ _ _ _ _ _ q=>ge_int q
theorem AG:da X (compareOp .Is) (fun x y H Q=>y=.non/\Q (.bl (decide (x=.non))) H):=by
 intro pins s σ H x y v u Q I rx ry h;obtain ⟨rfl,q⟩:=h;cases ry;refine is_none_gen (wa I q ?_)
 cases x<;>first
  |(cases rx;rfl)
  |(obtain ⟨t,rfl⟩:=rx;rfl)
theorem wF:da X (compareOp .IsNot) (fun x y H Q=>y=.non/\Q (.bl (!decide (x=.non))) H):=by
 intro pins s σ H x y v u Q I rx ry h;obtain ⟨rfl,q⟩:=h;cases ry;refine isnot_none_gen (wa I q ?_)
 cases x<;>first
  |(cases rx;rfl)
  |(obtain ⟨t,rfl⟩:=rx;rfl)
theorem az(b:Expr){op:CmpOp}(h:op≠.In:=by decide)(h2:op≠.NotIn:=by decide):behindInMarks op b=false:=by
 have e1:(op==CmpOp.In)=false:=by cases op<;>first|rfl|exact absurd rfl h
 have e2:(op==CmpOp.NotIn)=false:=by cases op<;>first|rfl|exact absurd rfl h2
 cases b<;>simp [behindInMarks,e1,e2]
theorem yt{op:CmpOp}{r:R2}(ho:da X (compareOp op) r)(ha:PE X a ta)(hb:PE X b tb)(hm:behindInMarks op b=false):PE X (.Compare a [op] [b] pos) (D6 r ta tb):=by
 intro pins s σ H Q I h;exact wpAny_Compare1 (binT ha hb I h fun v u s2 x y H2 I2 rx ry q=>ho pins s2 σ H2 x y v u Q I2 rx ry q) hm
def Dd(t:TE):TT:=fun σ H Q=>t σ H fun x H'=>∃k,x=.bl k/\Q k H'
theorem wG{op:CmpOp}{r:R2}(ho:da X (compareOp op) r)(ha:PE X a ta)(hb:PE X b tb)(hm:behindInMarks op b=false):PT X (.Compare a [op] [b] pos) (Dd (D6 r ta tb)):=by
 intro pins s σ H Q I h;refine wpAny_isTrue_Compare1 (thn (ha pins s σ H _ I h) fun v s1 ⟨x,H1,I1,r1,q1⟩=>thn (hb pins s1 σ H1 _ I1 q1) fun u s2 ⟨y,H2,I2,r2,q2⟩=>
  thn (ho pins s2 σ H2 x y v u _ I2 r1 r2 q2) fun c s3 ⟨z,H3,I3,r3,k,e,q3⟩=>?_) hm
 subst e;cases r3;exact wpAny_truthy_bool ⟨H3,I3,q3⟩
def Aj(K:W.Frag)(x:V)(H:Hp)(k:Bool):Prop:=
 match x with
 |.non=>k=false
 |.bl b=>k=b
 |.int i=>k=(i != 0)
 |.str y=>y.length<=sizeLine/\k=((y.length:Int) != 0)
 |.byt y=>y.size<=sizeLine/\k=((y.size:Int) != 0)
 |.ref p=>(∃xs,SqL K H p xs/\k=!xs.isEmpty)\/(∃xs,gz K H p xs/\k=!xs.isEmpty)\/∃kvs,H p=some (.dK kvs)/\k=!kvs.isEmpty
 |_=>False
theorem p8{κ:Type}{kvs:List (κ×V)}{vs:List (κ×Value)}(r:KV kvs vs):(!vs.isEmpty)=!kvs.isEmpty:=by
 cases r<;>rfl
theorem ji{xs:List V}{its:List Value}(r:Vals xs its):(!its.toArray.isEmpty)=!xs.isEmpty:=by
 cases r<;>simp
theorem fF:(sizeLine:Nat)<2 ^ 63:=by rw [sizeLine_eq];decide
theorem Af:TruR X (fun x H Q=>∃k,Aj X.K x H k/\Q k H):=by
 intro pins s σ H x v Q I rx h;obtain ⟨k,e,q⟩:=h;have hl:=fF;have hs:sizeLine=16777216:=sizeLine_eq;cases x with
 |non=>
  cases rx;have e':k=false:=e;subst e';exact truthy_none ⟨H,I,q⟩
 |bl b=>
  cases rx;have e':k=b:=e;subst e';exact wpAny_truthy_bool ⟨H,I,q⟩
 |int i=>
  obtain ⟨t,rfl⟩:=rx;have e':k=(i != 0):=e;subst e';exact PySem.P.truthy_int ⟨H,I,q⟩
 |str y=>
  obtain ⟨t,rfl⟩:=rx;obtain ⟨hy,e'⟩:y.length<=sizeLine/\k=((y.length:Int) != 0):=e;subst e';exact PySem.P.truthy_str (by lia) ⟨H,I.tok _,q⟩
 |byt y=>
  obtain ⟨t,rfl⟩:=rx;obtain ⟨hy,e'⟩:y.size<=sizeLine/\k=((y.size:Int) != 0):=e;subst e';exact W.truthy_bytes (by lia) ⟨H,I.tok _,q⟩
 |ref p=>
  cases rx;have e':(∃xs,SqL X.K H p xs/\k=!xs.isEmpty)\/(∃xs,gz X.K H p xs/\k=!xs.isEmpty)\/∃kvs,H p=some (.dK kvs)/\k=!kvs.isEmpty:=e;rcases e' with ⟨xs,hx,e'⟩|⟨xs,hx,e'⟩|⟨kvs,hx,e'⟩
  ·subst e'
   obtain ⟨its,r,pl,hz⟩:=I.list hx;have hlen:=r.length;exact wpAny_truthy_list pl.isList (by simp only [List.size_toArray];lia) ⟨H,I.tok _,by rw [ji r];exact q⟩
  ·subst e'
   obtain ⟨its,r,pl,hz⟩:=I.tuple hx;have hlen:=r.length;exact truthy_tuple pl (by simp only [List.size_toArray];lia) ⟨H,I.tok _,by rw [ji r];exact q⟩
  ·subst e'
   obtain ⟨hz,hS,vs,r,m⟩:kvs.length<=sizeLine/\(p==sysModules)=false/\∃vs,KV kvs vs/\s.heap.DictOf (bz X.prog X.w) p vs:=I.hok p _ hx;have hlen:kvs.length=vs.length:=Paired.length r;exact wpAny_truthy_dict hS m (by lia) ⟨H,I.tok _,by rw [p8 r];exact q⟩
 |_=>exact (show False from e).elim
theorem uW(ha:PE X a ta)(he:∀whole,isTrue a X.env whole=(do let v <- whole;standAt a.pos;holding [v] (truthy v))):
  PT X a (fun σ H Q=>ta σ H fun x H'=>∃k,Aj X.K x H' k/\Q k H'):=by
 intro pins s σ H Q I h;exact isTrue_plain (thn (ha pins s σ H _ I h) fun v s1 ⟨x,H1,I1,r1,q1⟩=>Af pins s1 σ H1 x v Q I1 r1 q1) (he _)
theorem oE:da X (binaryOp .Add) (fun x y H Q=>∃i j,x=.str i/\y=.str j/\i.length+j.length<=sizeLine/\Q (.str (i++j)) H):=by
 intro pins s σ H x y v u Q I rx ry h;obtain ⟨i,j,rfl,rfl,hz,q⟩:=h;obtain ⟨t,rfl⟩:=rx;obtain ⟨t',rfl⟩:=ry;exact add_str (fun t' tk=>⟨.str (i++j),H,I.tok _,⟨_,rfl⟩,q⟩) hz
theorem j3{x:V}{us:List Value}(r:Vals [x] us):∃u,us=[u]/\RelV x u:=by
 cases r with
 |cons r1 r2=>cases r2;exact ⟨_,rfl,r1⟩
theorem Dg{x y:V}{us:List Value}(r:Vals [x,y] us):∃u w',us=[u,w']/\RelV x u/\RelV y w':=by
 cases r with
 |cons r1 r2=>
  cases r2 with
  |cons r3 r4=>cases r4;exact ⟨_,_,rfl,r1,r3⟩
theorem sE(hc:X.calm=true):cr X (.builtin "min") (fun xs H Q=>∃i j,xs=[.int i,.int j]/\Q (.int (if j<i then j else i)) H):=by
 intro pins s σ H xs us Q I r h;obtain ⟨i,j,rfl,q⟩:=h;obtain ⟨u,w',rfl,⟨t,rfl⟩,⟨t',rfl⟩⟩:=Dg r;refine min_two_ints (I.ok.hd hc) fun h' tk k=>⟨_,H,I.kept k,?_,q⟩
 by_cases hj:j<i
 ·rw [if_pos hj,if_pos hj];exact ⟨_,rfl⟩
 ·rw [if_neg hj,if_neg hj];exact ⟨_,rfl⟩
end
end L2
namespace L2
open PySem PySem.Spec PyProof.Rows
structure ObjM(h:Heap)(x dx C:Addr)(mA:Str->Option Value):Prop where
 obj:h.get? x=some (W.instObj C dx)
 ns:h.Ns1 dx mA
 ne:dx≠x
theorem sy{h:Heap}{dx:Addr}{mA:Str->Option Value}(n:h.Ns1 dx mA):∃od,h.get? dx=some od/\∀name,W.lookIn name od=some (mA name):=by
 obtain ⟨o,es,ep,ho,hd,hk,_,hm⟩:=n;refine ⟨o,ho,fun name=>?_⟩;have e:=hm name;unfold nsFind findBy at e;rw [<- Array.find?_toList] at e;unfold W.lookIn;rw [hd];dsimp only
 split
 ·rename_i y q
  rw [q] at e;exact congrArg some e
 ·rename_i q
  rw [q] at e;have a:es.toList.any (·.refKey)=false:=by
   rw [List.any_eq_false];intro y hy;obtain ⟨z,t,hkey⟩:=hk y (Array.mem_toList_iff.mp hy);simp [DictEntry.refKey,hkey]
  have a':¬es.toList.any (·.refKey)=true:=by rw [a];exact Bool.false_ne_true
  rw [if_neg a'];exact congrArg some e
theorem ObjM.look{h:Heap}{x dx C:Addr}{mA:Str->Option Value}(I:ObjM h x dx C mA):∃od,W.InstAt h x (W.instObj C dx) C (some od)/\∀name,W.lookIn name od=some (mA name):=
 let ⟨od,ho,hl⟩:=sy I.ns
 ⟨od,⟨I.obj,rfl,rfl,ho⟩,hl⟩
section
variable {prog:Program}{w:World}{A:Around}{E:Value->Shared->Prop}{s:Shared}{K:W.Frag}{x dx C f:Addr}{mA:Str->Option Value}{name:Str}{v:Value}
theorem wL{expr:Bool}{Q:Value->Shared->Prop}(X:K.In s.heap)(I:ObjM s.heap x dx C mA)(hg:W.plainGet K C name=true)(hh:W.hasDictIn K C=true)
  (ha:W.findIn K (.ref C) name=some none) (hv:mA name=some v) (hv':W.handedIn v=true) (h:Q v { s with toks:=s.toks+1 }):
  wpAny (model prog w) A (getAttr (.ref x) name expr) Q E s:=by
 obtain ⟨od,J,hl⟩:=I.look;exact W.get_value X J (W.plainGet_of hg).1 (W.findObj_own hh ha rfl (by rw [hl,hv])) hv' h
theorem uU{pl:Sem Bool}{Q:Value×List Value->Shared->Prop}(X:K.In s.heap)(I:ObjM s.heap x dx C mA)(hg:W.plainGet K C name=true)
  (hf:W.findIn K (.ref C) name=some (some (.ref f))) (ht:W.isFn K (.ref f)=true) (hv:mA name=none) (h:Q (.ref f,[.ref x]) s):
  wpAny (model prog w) A (getMethod (.ref x) name pl) Q E s:=by
 obtain ⟨od,J,hl⟩:=I.look;exact W.method_fn X J (W.plainGet_of hg).1 (W.plainGet_of hg).2 hf (beq_iff_eq.mp ht) (by show (W.lookIn name od).map (·.isSome)=some false;rw [hl,hv];rfl) h
theorem wX{ns:List Str}{Q:Unit->Shared->Prop}(X:K.In s.heap)(I:ObjM s.heap x dx C mA)
  (hs:W.findIn K (.ref C) "__setattr__"=some (some (.builtin "object.__setattr__"))) (hp:W.plainOver K C=true) (ht:W.takerIn K C name=some none) (hh:W.hasDictIn K C=true)
  (hw:PySem.Within mA ns) (hsz:ns.length<=sizeLine)
  (h:∀h',ObjM h' x dx C (fun y=>if y=name then some v else mA y)->Heap.SameBut dx s.heap h'->Q () { s with heap:=h',toks:=s.toks+2 }):
  wpAny (model prog w) A (setAttr (.ref x) name v) Q E s:=by
 obtain ⟨od,J,hl⟩:=I.look;refine W.set_plain X J hs (W.osa_open (s:={ s with toks:=s.toks+1 }) (r:=none) X J hp ht fun b=>?_);obtain ⟨cd,hc,hd'⟩:=W.any_some hh;have hx:s.heap.get? x=some ⟨.ref C,some dx,.plain,#[]⟩:=I.obj;refine wpAny_bind (wpAny_pure (wpAny_bind (wpAny_bind (wpAny_loadPart hx (wpAny_bind (W.Looks.here (s:={ s with toks:=s.toks+1 }) (W.looks_clsIn X hc) ?_))))));rw [hd'];refine wpAny_pure (a:=some dx) (wpAny_bind (wpAny_pure (wpAny_bind ?_)));refine wpAny_nsSet1 (s:={ s with toks:=s.toks+1 }) I.ns fun h' hn2 hs2=>?_;obtain ⟨oD,esD,epD,hoD,hdD,hcD⟩:=hn2.count (PySem.Within.cons name v hw);refine wpAny_bind (wpAny_lookBehind hoD (by rw [hdD];exact pastItsLine_dict (Nat.le_trans hcD (by rw [List.length_cons];lia))) ?_)
 exact wpAny_pure (h _ ⟨(hs2.2 _ (Ne.symm I.ne)).trans I.obj,hn2,I.ne⟩ hs2)
theorem vL{R:Result->Shared->Prop}{vs:List Value}{kw:List (Str×Value)}(X:K.In s.heap)(hm:W.makesIn K C=true)
  (hi:W.findIn K (.ref C) "__init__"=some (some (.ref f))) (hf:W.typeIn K (.ref f)=some (.type "function"))
  (h:codeAny (model prog w) (A.under (.builtin "type.__call__" ⟨.ref C::vs,kw⟩)) (.call (.ref f) ⟨.ref (s.heap.objs.size+1)::vs,kw⟩) (W.InitBack (s.heap.objs.size+1) R)
   { s with heap:=(s.heap.push W.emptyDict).push (W.instObj C s.heap.objs.size) }):
  codeAny (model prog w) A (.call (.ref C) ⟨vs,kw⟩) R s:=by
 obtain ⟨hh,g,d,t,os⟩:=s;exact W.make_core (W.makes_of X hm) (W.looks_findIn X hi) (fun self=>W.bind_fn X self hf) (.inl rfl) h
end
def di(f:Str)(v:V):List (Str×V)->List (Str×V)
 |[]=>[(f,v)]
 |(g,x)::r=>if g=f then (g,v)::r else (g,x)::di f v r
theorem gK(f g:Str)(v:V):∀fs:List (Str×V),(di f v fs).lookup g=if g=f then some v else fs.lookup g
 |[]=>by
  show List.lookup g [(f,v)]=_
  by_cases h:g=f
  ·have hb:(g==f)=true:=beq_iff_eq.mpr h
   simp only [List.lookup,hb,if_pos h]
  ·have hb:(g==f)=false:=beq_eq_false_iff_ne.mpr h
   simp only [List.lookup,hb,if_neg h]
 |(k,x)::r=>by
  have ih:=gK f g v r;rw [show di f v ((k,x)::r)=(if k=f then (k,v)::r else (k,x)::di f v r) from rfl]
  by_cases hk:k=f
  ·rw [if_pos hk]
   by_cases h:g=k
   ·have hb:(g==k)=true:=beq_iff_eq.mpr h
    simp only [List.lookup,hb,if_pos (h.trans hk)]
   ·have hb:(g==k)=false:=beq_eq_false_iff_ne.mpr h
    simp only [List.lookup,hb,if_neg (fun e:g=f=>h (e.trans hk.symm))]
  ·rw [if_neg hk]
   by_cases h:g=k
   ·have hb:(g==k)=true:=beq_iff_eq.mpr h
    simp only [List.lookup,hb,if_neg (fun e:g=f=>hk (h.symm.trans e))]
   ·have hb:(g==k)=false:=beq_eq_false_iff_ne.mpr h
    simp only [List.lookup,hb];exact ih
theorem gu(f:Str)(v:V):∀fs:List (Str×V),f∈(di f v fs).map (·.1)/\∀g,g∈fs.map (·.1)->g∈(di f v fs).map (·.1)
 |[]=>⟨by simp [di],fun g h=>by simp at h⟩
 |(k,x)::r=>by
  obtain ⟨i1,i2⟩:=gu f v r;rw [show di f v ((k,x)::r)=(if k=f then (k,v)::r else (k,x)::di f v r) from rfl]
  by_cases hk:k=f
  ·rw [if_pos hk]
   subst hk;exact ⟨by simp,fun g h=>by simpa using h⟩
  ·rw [if_neg hk]
   refine ⟨?_,fun g h=>?_⟩
   ·rw [List.map_cons]
    exact List.mem_cons_of_mem _ i1
   ·rw [List.map_cons] at h ⊢
    rcases List.mem_cons.mp h with e|e
    ·exact List.mem_cons.mpr (.inl e)
    ·exact List.mem_cons_of_mem _ (i2 g e)
theorem gC(f:Str)(v:V):∀fs:List (Str×V),(di f v fs).length<=fs.length+1
 |[]=>by simp [di]
 |(k,x)::r=>by
  have ih:=gC f v r;rw [show di f v ((k,x)::r)=(if k=f then (k,v)::r else (k,x)::di f v r) from rfl]
  by_cases hk:k=f
  ·rw [if_pos hk,List.length_cons,List.length_cons];lia
  ·rw [if_neg hk,List.length_cons,List.length_cons];lia
theorem eB{v:V}{o:Option Value}(r:RelO (some v) o):∃u,o=some u/\RelV v u:=by
 cases o with
 |none=>exact (show False from r).elim
 |some u=>exact ⟨u,rfl,r⟩
theorem lV{o:Option Value}(r:RelO none o):o=none:=by
 cases o with
 |none=>rfl
 |some u=>exact (show False from r).elim
theorem t6{v:V}{u:Value}(r:RelV v u):W.handedIn u=true:=by
 cases v with
 |non=>cases (show u=Value.none from r);rfl
 |bl b=>cases (show u=Value.bool b from r);rfl
 |int i=>obtain ⟨t,e⟩:=(show ∃t,u=Value.int i t from r);cases e;rfl
 |str x=>obtain ⟨t,e⟩:=(show ∃t,u=Value.str x t from r);cases e;rfl
 |byt b=>obtain ⟨t,e⟩:=(show ∃t,u=Value.bytes b t from r);cases e;rfl
 |flt b=>obtain ⟨t,e⟩:=(show ∃t,u=Value.float b t from r);cases e;rfl
 |ref a=>cases (show u=Value.ref a from r);rfl
 |ty n=>cases (show u=Value.type n from r);rfl
section
variable {P:Program}{w:World}{H H':Hp}{h h':Heap}{a C dx:Addr}{fs fs':List (Str×V)}
theorem iL(hok:HOk P w H h)(e:H a=some (.ins C dx fs)):∃mA,ObjM h a dx C mA/\(∀f,RelO (fs.lookup f) (mA f))/\PySem.Within mA (fs.map (·.1))/\fs.length<=1000/\H dx=some (.own a):=by
 obtain ⟨d,z,ne,ob,mA,n,r,q⟩:=(show ObjOk P w H h a (.ins C dx fs) from hok a _ e);exact ⟨mA,⟨ob,n,ne⟩,r,q,z,d⟩
end
structure Cls(K:W.Frag)(C:Addr):Prop where
 pg:W.plainGet K C Str.empty=true
 hd:W.hasDictIn K C=true
 po:W.plainOver K C=true
 sa:W.findIn K (.ref C) "__setattr__"=some (some (.builtin "object.__setattr__"))
theorem Cls.get{K:W.Frag}{C:Addr}(c:Cls K C)(f:Str):W.plainGet K C f=true:=c.pg
def NoAttr(K:W.Frag)(C:Addr)(f:Str):Prop:=W.findIn K (.ref C) f=some none
theorem NoAttr.taker{K:W.Frag}{C:Addr}{f:Str}(n:NoAttr K C f):W.takerIn K C f=some none:=by
 unfold W.takerIn;rw [show W.findIn K (.ref C) f=some none from n];rfl
structure Meth(K:W.Frag)(C:Addr)(m:Str)(f:Addr):Prop where
 at_:W.findIn K (.ref C) m=some (some (.ref f))
 fn:W.isFn K (.ref f)=true
 kp:W.keepIn K (.ref f)=true
section
variable {X:Cx}{pins:List (Addr×Obj)}{σ:St}{H:Hp}{s:Shared}{a C dx:Addr}{fs:List (Str×V)}{f:Str}{v:V}{A:Around}{E:Value->Shared->Prop}
theorem ox{b:Bool}{Q:Value->Shared->Prop}(I:Inv X pins σ H s)(e:H a=some (.ins C dx fs))(c:Cls X.K C)(n:NoAttr X.K C f)(l:fs.lookup f=some v)
  (h:∀u s',Inv X pins σ H s'->RelV v u->Q u s'):wpAny (model X.prog X.w) A (getAttr (.ref a) f b) Q E s:=by
 obtain ⟨mA,O,r,_,_,_⟩:=iL I.hok e;obtain ⟨u,hu,ru⟩:=eB (v:=v) (o:=mA f) (by rw [<- l];exact r f)
 exact wL I.kIn O (c.get f) c.hd n hu (t6 ru) (h u _ (I.tok _) ru)
theorem jt{m:Str}{g:Addr}{pl:Sem Bool}{Q:Value×List Value->Shared->Prop}(I:Inv X pins σ H s)(e:H a=some (.ins C dx fs))(c:Cls X.K C)(k:Meth X.K C m g)(l:fs.lookup m=none)
  (h:Q (.ref g,[.ref a]) s):wpAny (model X.prog X.w) A (getMethod (.ref a) m pl) Q E s:=by
 obtain ⟨mA,O,r,_,_,_⟩:=iL I.hok e;have hn:mA m=none:=lV (by rw [<- l];exact r m)
 exact uU I.kIn O (c.get m) k.at_ k.fn hn h
theorem pk{y:V}{u:Value}{Q:Unit->Shared->Prop}(I:Inv X pins σ H s)(e:H a=some (.ins C dx fs))(c:Cls X.K C)(n:NoAttr X.K C f)(hl:fs.length<1000)(ry:RelV y u)
  (h:∀s',Inv X pins σ (upd H a (.ins C dx (di f y fs))) s'->Q () s'):wpAny (model X.prog X.w) A (setAttr (.ref a) f u) Q E s:=by
 obtain ⟨mA,O,r,wi,_,ho⟩:=iL I.hok e;have hz:(fs.map (·.1)).length<=sizeLine:=by rw [List.length_map,sizeLine_eq];lia
 refine wX I.kIn O c.sa c.po n.taker c.hd wi hz fun h' O' sb=>h _ ?_;have hd:∃o,h'.get? dx=some o:=let ⟨o,_,_,e',_⟩:=O'.ns;⟨o,e'⟩;refine I.write (x:=a) (e:=dx) (by rw [e];exact True.intro) (.inr ho) (fun b q hb z=>(sb.2 b hb).trans z) hd ?_
 refine ⟨by rw [upd_ne O.ne];exact ho,?_,O.ne,O'.obj,_,O'.ns,fun g=>?_,fun g hg=>?_⟩
 ·have:=gC f y fs;lia
 ·show RelO ((di f y fs).lookup g) (if g=f then some u else mA g)
  rw [gK]
  by_cases q:g=f
  ·rw [if_pos q,if_pos q];exact ry
  ·rw [if_neg q,if_neg q];exact r g
 ·by_cases q:g=f
  ·rw [q];exact (gu f y fs).1
  ·refine (gu f y fs).2 g (wi g fun z=>hg ?_)
   show (if g=f then some u else mA g)=none
   rw [if_neg q];exact z
theorem ww(I:Inv X pins σ H s):Inv X pins σ (upd (upd H s.heap.objs.size (.own (s.heap.objs.size+1))) (s.heap.objs.size+1) (.ins C s.heap.objs.size []))
  { s with heap:=(s.heap.push W.emptyDict).push (W.instObj C s.heap.objs.size) }:=by
 have e1:(s.heap.push W.emptyDict).get? s.heap.objs.size=some W.emptyDict:=Heap.get?_push_size s.heap rfl;have e2:((s.heap.push W.emptyDict).push (W.instObj C s.heap.objs.size)).get? (s.heap.objs.size+1)=some (W.instObj C s.heap.objs.size):=by
  have:=Heap.get?_push_size (s.heap.push W.emptyDict) (o:=W.instObj C s.heap.objs.size) rfl
  rwa [Heap.size_push] at this
 have e3:(s.heap.push W.emptyDict).Ns s.heap.objs.size (fun _=>none):=⟨W.emptyDict,#[],_,e1,rfl,(fun e he=>absurd he (by simp)),fun _=>rfl⟩
 have I1:=I.laid (a:=s.heap.objs.size) (o:=.own (s.heap.objs.size+1)) (h':=s.heap.push W.emptyDict) (t':=s.toks) (fun b u q=>Heap.get?_push_of_some _ q) (Nat.le_refl _) ⟨_,e1⟩;refine I1.laid (a:=s.heap.objs.size+1) (o:=.ins C s.heap.objs.size []) (t':=s.toks) (fun b u q=>Heap.get?_push_of_some _ q) (Nat.le_of_eq (Heap.size_push _ _)) ?_;have ne:s.heap.objs.size≠s.heap.objs.size+1:=Nat.ne_of_lt (Nat.lt_succ_self _);refine ⟨by rw [upd_ne ne,upd_same],Nat.zero_le _,ne,e2,fun _=>none,(Heap.Ns1.of_empty e3).at fun o q=>Heap.get?_push_of_some _ q,fun _=>True.intro,fun y hy=>absurd rfl hy⟩
theorem attr_of{prog:Program}{w:World}{env:Env}{e:Expr}{f:Str}{pos:Pos}{s:Shared}{Q:Value->Shared->Prop}(hb:attributeBase e f env (eval e env)=eval e env)
  (h:wpAny (model prog w) A (eval e env) (fun o s₁=>wpAny (model prog w) A (getAttr o f true) Q E s₁) E s):wpAny (model prog w) A (eval (.Attribute e f pos) env) Q E s:=
 Attribute_any_ h (by rw [arm_eval_Attribute,hb])
end
def tFld(K:W.Frag)(ta:TE)(f:Str):TE:=fun σ H Q=>ta σ H fun x H1=>∃a C dx fs v,x=.ref a/\H1 a=some (.ins C dx fs)/\Cls K C/\NoAttr K C f/\fs.lookup f=some v/\Q v H1
def sFld(K:W.Frag)(ta tv:TE)(f:Str):TS:=fun D σ H=>tv σ H fun y H1=>ta σ H1 fun x H2=>∃a C dx fs,x=.ref a/\H2 a=some (.ins C dx fs)/\Cls K C/\NoAttr K C f/\fs.length<1000/\
 D.nx σ (upd H2 a (.ins C dx (di f y fs)))
section
variable {X:Cx}{o e value:Expr}{f:Str}{pos pos' tpos:Pos}{ta tv:TE}
theorem Ba(he:PE X e ta)(hb:attributeBase e f X.env (eval e X.env)=eval e X.env):PE X (.Attribute e f pos) (tFld X.K ta f):=by
 intro pins s σ H Q I h;refine attr_of hb (thn (he pins s σ H _ I h) fun u s1 zz=>?_);obtain ⟨x,H1,I1,rx,a,C,dx,fs,v,ex,ea,c,n,l,q⟩:=zz;subst ex;obtain rfl:u=Value.ref a:=rx;exact ox I1 ea c n l fun u' s2 I2 ru=>⟨v,H1,I2,ru,q⟩
theorem BQ(ha:PE X o ta)(hv:PE X value tv)(hs:swapsWith value (some (.Attribute o f pos')) pos.line X.env=pure false):PS X (.Assign [.Attribute o f pos'] value pos) (sFld X.K ta tv f):=by
 intro pins s σ H D I h;refine plainObj_wpAny_Assign_Attribute (thn (hv pins s σ H _ I h) fun u s1 ⟨y,H1,I1,ry,q⟩=>thn (ha pins s1 σ H1 _ I1 q) fun ov s2 zz=>?_) hs;obtain ⟨x,H2,I2,rx,a,C,dx,fs,ex,ea,c,n,l,q2⟩:=zz;subst ex;obtain rfl:ov=Value.ref a:=rx;exact pk I2 ea c n l ry fun s3 I3=>⟨σ,_,I3,q2⟩
theorem zU{pl:Sem Bool}{m:Str}{apos:Pos}{args:List Expr}{pins:List (Addr×Obj)}{s:Shared}{σ:St}{H:Hp}{Q:Value->Shared->Prop}{te:TE}(he:PE X e te)(I:Inv X pins σ H s)
  (h:te σ H fun x H1=>∃a C dx fs g,x=.ref a/\H1 a=some (.ins C dx fs)/\Cls X.K C/\Meth X.K C m g/\fs.lookup m=none/\
   ∀s1,Inv X pins σ H1 s1->wpAny (model X.prog X.w) X.A (callWith pos (.ref g) [.ref a] (backTo pos (starEach args X.env)) (backToKw pos (keywordEach [] X.env))) Q X.xe s1)
  (ht:eval (.Call (.Attribute e m apos) args [] pos) X.env=(do
   let ov <- eval e X.env
   standAt apos.atName
   let (f,first) <- holding [ov] (getMethod ov m pl)
   callWith pos f first (backTo pos (starEach args X.env)) (backToKw pos (keywordEach [] X.env)))):
  wpAny (model X.prog X.w) X.A (eval (.Call (.Attribute e m apos) args [] pos) X.env) Q X.xe s:=by
 refine W.methodCall_KW (pl:=pl) (thn (he pins s σ H _ I h) fun u s1 zz=>?_) ht;obtain ⟨x,H1,I1,rx,a,C,dx,fs,g,ex,ea,c,k,l,q⟩:=zz;subst ex;obtain rfl:u=Value.ref a:=rx;exact jt I1 ea c k l (q s1 I1)
end
section
variable {X:Cx}{pins:List (Addr×Obj)}{σ:St}{H:Hp}{s:Shared}{A:Around}{E:Value->Shared->Prop}{Q:Value->Shared->Prop}{c:Value}{b:Bool}
inductive TyOf(K:W.Frag)(H:Hp):V->Value->Prop where
 |non:TyOf K H .non (.type "NoneType")
 |bl (x:Bool):TyOf K H (.bl x) (.type "bool")
 |int (i:Int):TyOf K H (.int i) (.type "int")
 |str (x:Str):TyOf K H (.str x) (.type "str")
 |flt (x:UInt64):TyOf K H (.flt x) (.type "float")
 |lst {a:Addr} {xs:List V} (e:H a=some (.lst xs)):TyOf K H (.ref a) (.type "list")
 |frz {a:Addr} {o:Obj} {xs:List V} (e:H a=some (.frz o (.lst xs))):TyOf K H (.ref a) (.type "list")
 |tup {a:Addr} {xs:List V} (e:H a=some (.tup xs)):TyOf K H (.ref a) (.type "tuple")
 |dK {a:Addr} {kvs:List (aT×V)} (e:H a=some (.dK kvs)):TyOf K H (.ref a) (.type "dict")
 |dT {a:Addr} {kvs:List (List aT×V)} (e:H a=some (.dT kvs)):TyOf K H (.ref a) (.type "dict")
 |ins {a C dx:Addr} {fs:List (Str×V)} (e:H a=some (.ins C dx fs)) (cl:Cls K C) (ha:W.findIn K (.ref C) "__class__"=some (some (.builtin "object.__class__")))
   (hn:W.specialIn K (.builtin "object.__class__") "__get__"=some (some (.builtin "getset_descriptor.__get__"))) (htk:W.takesIn K (.builtin "object.__class__")=some true)
   (hm:W.mroIn K C (.type "object")=some true):TyOf K H (.ref a) (.ref C)
theorem sX{x:V}{u t:Value}(I:Inv X pins σ H s)(rx:RelV x u)(ty:TyOf X.K H x t)(e:W.kitOne X.K t c=some b)(h:∀tk,Q (.bool b) { s with toks:=tk }):
  wpAny (model X.prog X.w) A (call (.builtin "isinstance") [u,c]) Q E s:=by
 cases ty with
 |non=>cases (show u=Value.none from rx);exact W.kia_one W.kitx_none I.kIn True.intro e (fun z=>nomatch z) h
 |bl y=>cases (show u=Value.bool y from rx);exact W.kia_one W.kitx_bool I.kIn True.intro e (fun z=>nomatch z) h
 |int i=>obtain ⟨t,q⟩:=(show ∃t,u=Value.int i t from rx);cases q;exact W.kia_one W.kitx_int I.kIn True.intro e (fun z=>nomatch z) h
 |str y=>obtain ⟨t,q⟩:=(show ∃t,u=Value.str y t from rx);cases q;exact W.kia_one W.kitx_str I.kIn True.intro e (fun z=>nomatch z) h
 |flt y=>obtain ⟨t,q⟩:=(show ∃t,u=Value.float y t from rx);cases q;exact W.kia_one W.kitx_float I.kIn True.intro e (fun z=>nomatch z) h
 |@lst a xs ea=>
  cases (show u=Value.ref a from rx);obtain ⟨_,_,n,_,h1⟩:=(show ObjOk X.prog X.w H s.heap a (.lst xs) from I.hok a _ ea);exact W.kia_one W.kitx_list I.kIn ⟨_,h1,rfl⟩ e (fun z=>nomatch z) h
 |@frz a ob xs ea=>
  cases (show u=Value.ref a from rx);obtain ⟨_,_,_,n,_,h1⟩:=(show ObjOk X.prog X.w H s.heap a (.frz ob (.lst xs)) from I.hok a _ ea);exact W.kia_one W.kitx_list I.kIn ⟨_,h1,rfl⟩ e (fun z=>nomatch z) h
 |@tup a xs ea=>
  cases (show u=Value.ref a from rx);obtain ⟨_,_,_,p⟩:=(show ObjOk X.prog X.w H s.heap a (.tup xs) from I.hok a _ ea);obtain ⟨o,h1,⟨h2,_⟩,_⟩:=p;exact W.kia_one W.kitx_tuple I.kIn ⟨o,h1,h2⟩ e (fun z=>nomatch z) h
 |@dK a kvs ea=>
  cases (show u=Value.ref a from rx);obtain ⟨_,_,vs,_,p⟩:=(show ObjOk X.prog X.w H s.heap a (.dK kvs) from I.hok a _ ea);obtain ⟨o,es,ep,h1,h2,_⟩:=p;exact W.kia_one W.kitx_dict I.kIn ⟨o,h1,h2.1⟩ e (fun z=>nomatch z) h
 |@dT a kvs ea=>
  cases (show u=Value.ref a from rx);obtain ⟨_,_,xs,_,o,es,ep,h1,h2,_⟩:=(show ObjOk X.prog X.w H s.heap a (.dT kvs) from I.hok a _ ea);exact W.kia_one W.kitx_dict I.kIn ⟨o,h1,h2.1⟩ e (fun z=>nomatch z) h
 |@ins a C dx fs ea cl ha hn htk hm=>
  cases (show u=Value.ref a from rx);obtain ⟨mA,O,_⟩:=iL I.hok ea;obtain ⟨od,J,_⟩:=O.look;exact W.kia_one (W.kitx_own (cl.get _) cl.hd ha hn htk hm) I.kIn J e (fun z=>nomatch z) h
end
end L2
namespace L2
open PySem PySem.Spec PyProof.Rows
structure Room(k:Nat)(A:Around):Prop where
 hd:A.handled=none
 dp:A.depth+3*k+5<recursionLimit
 un:A.units+16*k+200<cLine
 gd:A.guards=some []
theorem Room.mono{j k:Nat}{A:Around}(r:Room k A)(h:j<=k):Room j A:=⟨r.hd,by have:=r.dp;lia,by have:=r.un;lia,r.gd⟩
theorem Room.deeper{k:Nat}{A:Around}(r:Room (k+1) A)(env:Env):Room k (A.deeper env):=
 ⟨r.hd,by have:=r.dp;show A.depth+1+3*k+5<_;lia,by have:=r.un;show A.units+3+16*k+200<_;lia,r.gd⟩
theorem oq{A:Around}{C:Addr}{us:List Value}{kw:List (Str×Value)}:(A.under (.builtin "type.__call__" ⟨.ref C::us,kw⟩)).depth=A.depth+1:=by
 first|rfl|simp [Around.under,Code.weight,Code.isCreation,Code.isGuard,Code.isCaller,Code.frames,Code.isFrame,guardIds]
theorem pF{A:Around}{C:Addr}{us:List Value}{kw:List (Str×Value)}:(A.under (.builtin "type.__call__" ⟨.ref C::us,kw⟩)).units=A.units+1:=by
 first|rfl|simp [Around.under,Code.cUnits,Code.frames,Code.isFrame]
theorem ng{A:Around}{C:Addr}{us:List Value}{kw:List (Str×Value)}:(A.under (.builtin "type.__call__" ⟨.ref C::us,kw⟩)).guards=A.guards:=by
 first|rfl|simp [Around.under,Code.guards,pushGuards,Code.isGuard,guardIds]
theorem Room.make{k:Nat}{A:Around}(r:Room (k+1) A)(C:Addr)(us:List Value)(kw:List (Str×Value)):Room k (A.under (.builtin "type.__call__" ⟨.ref C::us,kw⟩)):=
 ⟨r.hd,by have:=r.dp;rw [oq];lia,by have:=r.un;rw [pF];lia,by rw [ng];exact r.gd⟩
theorem Room.depth{k:Nat}{A:Around}(r:Room k A):A.depth<recursionLimit:=by have:=r.dp;lia
theorem Room.units{k:Nat}{A:Around}(r:Room k A):A.units+64<cLine:=by have:=r.un;lia
def tNil:TA:=fun _ H Q=>Q [] H
def E4(ta:TE)(tr:TA):TA:=fun σ H Q=>ta σ H fun x H1=>tr σ H1 fun xs H2=>Q (x::xs) H2
section
variable {X:Cx}{e:Expr}{es:List Expr}{te:TE}{t:TA}{pos:Pos}
theorem wm:PA X [] tNil:=fun _ _ _ _ H Q I h=>Calls.spliced_nil ⟨[],H,I,.nil,h⟩
theorem qS(ha:PE X e te)(hr:PA X es t)(hs:starEach (e::es) X.env=(false,eval e X.env)::starEach es X.env:=by rfl):PA X (e::es) (E4 te t):=by
 intro pos pins s σ H Q I h;rw [hs];show wpAny _ _ (spliced ((false,eval e X.env)::backTo pos (starEach es X.env))) _ _ s;refine Calls.spliced_cons (thn (ha pins s σ H _ I h) fun u s1 ⟨x,H1,I1,r1,q1⟩=>?_);exact thn (hr pos pins s1 σ H1 _ I1 q1) fun us s2 ⟨xs,H2,I2,r2,q2⟩=>⟨x::xs,H2,I2,.cons r1 r2,q2⟩
def tTup(t:TA):TE:=fun σ H Q=>t σ H fun xs H1=>xs.length<=sizeLine/\∀p,H1 p=none->Q (.ref p) (upd H1 p (.tup xs))
def tLst(t:TA):TE:=fun σ H Q=>t σ H fun xs H1=>xs.length<=sizeLine/\∀p,H1 p=none->Q (.ref p) (upd H1 p (.lst xs))
theorem Bm{x1}(h:PA X es t):PE X (.Tuple es x1 pos) (tTup t):=by
 intro pins s σ H Q I hq;refine wpAny_Tuple_spliced (thn (h pos pins s σ H _ I hq) fun us s1 ⟨xs,H1,I1,r,z,q⟩=>⟨by rw [<- r.length];exact z,?_⟩)
 have hf:H1 s1.heap.objs.size=none:=I1.hok.fresh (Nat.le_refl _);refine ⟨.ref s1.heap.objs.size,upd H1 s1.heap.objs.size (.tup xs),I1.laid (t':=s1.toks) (fun b u e=>Heap.get?_push_of_some _ e) (Nat.le_refl _) ?_,rfl,q _ hf⟩;exact ⟨z,us,r,⟨_,Heap.get?_push_size _ rfl,⟨rfl,_,rfl⟩,rfl⟩⟩
theorem Aw(h:PA X es t):PE X (.List es pos) (tLst t):=by
 intro pins s σ H Q I hq;refine wpAny_List_spliced (thn (h pos pins s σ H _ I hq) fun us s1 ⟨xs,H1,I1,r,z,q⟩=>⟨by rw [<- r.length];exact z,?_⟩)
 have hf:H1 s1.heap.objs.size=none:=I1.hok.fresh (Nat.le_refl _);refine ⟨.ref s1.heap.objs.size,upd H1 s1.heap.objs.size (.lst xs),I1.laid (t':=s1.toks) (fun b u e=>Heap.get?_push_of_some _ e) (Nat.le_refl _) ?_,rfl,q _ hf⟩;exact ⟨z,us,0,r,Heap.get?_push_size _ rfl⟩
end
abbrev Sp:=List V->Hp->VK->XK->Prop
abbrev mI:=List Env->Hp->Shared->XK->Value->Shared->Prop
structure Env0(P:Program)(w:World)(K:W.Frag)(mg:Str->Option Value)(base:Heap)(A:Around)(outer:List Env)(s:Shared)(H:Hp):Prop where
 frames:A.frames=some outer
 mod:Mod K mg base
 bs:∀b o,base.get? b=some o->s.heap.get? b=some o/\H b=none
 bsz:base.objs.size<=s.heap.objs.size
 funs:s.heap.FunFrames base outer
 frf:∀b∈fz outer,H b=none
 hok:HOk P w H s.heap
 bare:AllBare s.gens
def CE(outer:List Env)(P:Program)(w:World)(H:Hp)(s:Shared)(Q:VK)(u:Value)(s':Shared):Prop:=
 ∃v H',s'.os=s.os/\AllBare s'.gens/\Un (fz outer) [] H H' s.heap s'.heap/\HOk P w H' s'.heap/\RelV v u/\Q v H'
def CR(CX:mI)(outer:List Env)(P:Program)(w:World)(H:Hp)(s:Shared)(Q:VK)(E:XK)(r:Result)(s':Shared):Prop:=
 match r with
 |.ok (.ret u)=>CE outer P w H s Q u s'
 |.ok _=>False
 |.error e=>CX outer H s E e s'
structure FnOk(P:Program)(w:World)(K:W.Frag)(mg:Str->Option Value)(base:Heap)(CX:mI)(k:Nat)(f:Addr)(fd:FuncData)(ps:List Str)(sp:Sp):Prop where
 len:∀vs H Q E,sp vs H Q E->vs.length=ps.length
 run:∀(A:Around) (outer:List Env) (s:Shared) (H:Hp) (args:Args) (us:List Value) (vs:List V) (Q:VK) (E:XK),Room k A->Env0 P w K mg base A outer s H->BindsTo s fd args (ps.zip us)->Vals vs us->sp vs H Q E->
  codeAny (model P w) A (.call (.ref f) args) (CR CX outer P w H s Q E) s
theorem FnOk.imp{P:Program}{w:World}{K:W.Frag}{mg:Str->Option Value}{base:Heap}{CX:mI}{k:Nat}{f:Addr}{fd:FuncData}{ps:List Str}{sp sp':Sp}(F:FnOk P w K mg base CX k f fd ps sp)
  (h:∀vs H Q E,sp' vs H Q E->sp vs H Q E):FnOk P w K mg base CX k f fd ps sp':=
 ⟨fun vs H Q E q=>F.len vs H Q E (h _ _ _ _ q),fun A outer s H args us vs Q E hr he hb hv hs=>F.run A outer s H args us vs Q E hr he hb hv (h _ _ _ _ hs)⟩
theorem Env0.make{P:Program}{w:World}{K:W.Frag}{mg:Str->Option Value}{base:Heap}{A:Around}{outer:List Env}{s:Shared}{H:Hp}(e:Env0 P w K mg base A outer s H)(C:Addr)(us:List Value)(kw:List (Str×Value)):
  Env0 P w K mg base (A.under (.builtin "type.__call__" ⟨.ref C::us,kw⟩)) outer s H:=⟨by first|exact e.frames|(simpa [Around.under,Code.envs,Code.isFrame,pushEnvs] using e.frames),e.mod,e.bs,e.bsz,e.funs,e.frf,e.hok,e.bare⟩
section
variable {X:Cx}{pins:List (Addr×Obj)}{σ:St}{H:Hp}{s s':Shared}
theorem Inv.env0(I:Inv X pins σ H s):Env0 X.prog X.w X.K X.mg X.base X.A X.stack s H:=
 ⟨I.ok.frames,I.ok.mod,I.bs,Nat.le_trans I.ok.bsz I.sz,I.stack,I.stkFree,I.hok,I.bare⟩
theorem Inv.after{Q:VK}{u:Value}(I:Inv X pins σ H s)(h:CE X.stack X.prog X.w H s Q u s'):EP X pins σ Q u s':=by
 obtain ⟨v,H',os,bare,un,hok,r,q⟩:=h;obtain ⟨hh,g,d,t,os'⟩:=s';obtain rfl:os'=s.os:=os;exact ⟨v,H',I.call (h':=hh) (g':=g) (d':=d) (t':=t) (ch:=[]) un hok bare (fun b z=>absurd z (by simp)),r,q⟩
end
def Dy(sp:Sp)(dvs:List V)(E:XK)(t:TA):TE:=fun σ H Q=>t σ H fun vs H1=>sp (vs++dvs) H1 Q E
def CN(C:Addr)(m:Str)(sp:Sp)(dvs:List V)(E:XK)(ta:TE)(t:TA):TE:=fun σ H Q=>ta σ H fun x H1=>∃a dx fs,x=.ref a/\H1 a=some (.ins C dx fs)/\fs.lookup m=none/\
 t σ H1 fun vs H2=>sp (x::(vs++dvs)) H2 Q E
def E8(C:Addr)(sp:Sp)(dvs:List V)(E:XK)(t:TA):TE:=fun σ H Q=>t σ H fun vs H1=>∀x dx,H1 x=none->H1 dx=none->dx≠x->
 sp (.ref x::(vs++dvs)) (upd (upd H1 dx (.own x)) x (.ins C dx [])) (fun v H2=>v=.non/\Q (.ref x) H2) E
def Binds(K:W.Frag)(fd:FuncData)(ps:List Str)(ds:List Value):Prop:=
 ∀(s:Shared) (us:List Value),K.In s.heap->(us++ds).length=ps.length->BindsTo s fd ⟨us,[]⟩ (ps.zip (us++ds))
theorem Binds.all{K:W.Frag}{fd:FuncData}{ps:List Str}(h:∀us:List Value,us.length=ps.length->bindArgs fd ⟨us,[]⟩=pure (ps.zip us)):Binds K fd ps []:=fun s us _ hl=>by
 rw [List.append_nil] at hl ⊢;exact .of_eq (h us hl)
def de(CX:mI)(X:Cx)(E:XK):Prop:=∀(pins:List (Addr×Obj)) (σ:St) (H:Hp) (s:Shared) (e:Value) (s':Shared),Inv X pins σ H s->CX X.stack H s E e s'->X.xe e s'
section
variable {X:Cx}{CX:mI}{k:Nat}{f C:Addr}{fd:FuncData}{ps:List Str}{sp:Sp}{dvs:List V}{ds:List Value}{E:XK}{x m:Str}{p pos apos:Pos}{e o:Expr}{es:List Expr}{ta:TE}{t:TA}
theorem wl{pins:List (Addr×Obj)}{σ:St}{H:Hp}{s:Shared}{Q:VK}{us:List Value}{vs:List V}(F:FnOk X.prog X.w X.K X.mg X.base CX k f fd ps sp)(hr:Room k X.A)(hb:Binds X.K fd ps ds)(hd:Vals dvs ds)(hx:de CX X E)
  (I:Inv X pins σ H s) (r:Vals vs us) (h:sp (vs++dvs) H Q E):wpAny (model X.prog X.w) X.A (call (.ref f) us) (EP X pins σ Q) X.xe s:=by
 have r2:Vals (vs++dvs) (us++ds):=r.append hd;have hl:(us++ds).length=ps.length:=by rw [<- r2.length];exact F.len _ _ _ _ h
 refine wpAny_call (codeAny_mono (F.run X.A X.stack s H ⟨us,[]⟩ (us++ds) (vs++dvs) Q E hr I.env0 (hb s us I.kIn hl) r2 h) fun r s' hq=>?_);cases r with
 |error e=>exact hx pins σ H s e s' I hq
 |ok fl=>
  cases fl with
  |ret u=>exact I.after hq
  |next=>exact False.elim hq
  |brk=>exact False.elim hq
  |cont=>exact False.elim hq
theorem yL(F:FnOk X.prog X.w X.K X.mg X.base CX k f fd ps sp)(hr:Room k X.A)(hg:Gl X x)(hm:X.mg x=some (.ref f))(hk:W.keepIn X.K (.ref f)=true)(hb:Binds X.K fd ps ds)(hd:Vals dvs ds)(hx:de CX X E)
  (ha:PA X (e::es) t) (hdb:(x==("__debug__":Str))=false:=by decide) (he:starEach (e::es) X.env=(false,eval e X.env)::starEach es X.env:=by rfl) (hpl:(backTo pos (starEach es X.env)).any (·.1)=false:=by rfl):
  PE X (.Call (.Name x p) (e::es) [] pos) (Dy sp dvs E t):=by
 intro pins s σ H Q I h;refine wpAny_Call_Name_kw (ld_glob I hg hm ?_ hdb);refine W.callWith_K (h₀:=X.base) I.ok.mod.kin hk (thn (ha pos pins s σ H _ I h) fun us s1 ⟨vs,H1,I1,r,q⟩=>⟨I1.kIn,?_⟩) he hpl;exact wl F hr hb hd hx I1 r q
theorem xq{pl:Sem Bool}(he:PE X o ta)(c:Cls X.K C)(hm:Meth X.K C m f)(F:FnOk X.prog X.w X.K X.mg X.base CX k f fd ps sp)(hr:Room k X.A)(hb:Binds X.K fd ps ds)(hd:Vals dvs ds)(hx:de CX X E)(ha:PA X (e::es) t)
  (hst:starEach (e::es) X.env=(false,eval e X.env)::starEach es X.env:=by rfl) (hpl:(backTo pos (starEach es X.env)).any (·.1)=false:=by rfl)
  (ht:eval (.Call (.Attribute o m apos) (e::es) [] pos) X.env=(do
   let ov <- eval o X.env
   standAt apos.atName
   let (f,first) <- holding [ov] (getMethod ov m pl)
   callWith pos f first (backTo pos (starEach (e::es) X.env)) (backToKw pos (keywordEach [] X.env))):=by rfl):
  PE X (.Call (.Attribute o m apos) (e::es) [] pos) (CN C m sp dvs E ta t):=by
 intro pins s σ H Q I h;refine W.methodCall_KW (pl:=pl) (thn (he pins s σ H _ I h) fun u s1 zz=>?_) ht;obtain ⟨x,H1,I1,rx,a,dx,fs,ex,ea,l,q⟩:=zz;subst ex;obtain rfl:u=Value.ref a:=rx;refine jt I1 ea c hm l ?_;refine W.callWith_K (first:=[.ref a]) (h₀:=X.base) I.ok.mod.kin hm.kp (thn (ha pos pins s1 σ H1 _ I1 q) fun us s2 ⟨vs,H2,I2,r,q2⟩=>⟨I2.kIn,?_⟩) hst hpl
 exact wl (us:=.ref a::us) (vs:=.ref a::vs) F hr hb hd hx I2 (.cons rfl r) q2
structure Mk(K:W.Frag)(C f:Addr):Prop where
 makes:W.makesIn K C=true
 init:W.findIn K (.ref C) "__init__"=some (some (.ref f))
 fn:W.isFn K (.ref f)=true
 kp:W.keepIn K (.ref C)=true
theorem vx{pins:List (Addr×Obj)}{σ:St}{H:Hp}{s:Shared}{Q:VK}{us:List Value}{vs:List V}(M:Mk X.K C f)(F:FnOk X.prog X.w X.K X.mg X.base CX k f fd ps sp)(hr:Room (k+1) X.A)(hb:Binds X.K fd ps ds)(hd:Vals dvs ds)
  (hx:de CX X E) (I:Inv X pins σ H s) (r:Vals vs us)
  (h:∀x dx,H x=none->H dx=none->dx≠x->sp (.ref x::(vs++dvs)) (upd (upd H dx (.own x)) x (.ins C dx [])) (fun v H2=>v=.non/\Q (.ref x) H2) E):
  wpAny (model X.prog X.w) X.A (call (.ref C) us) (EP X pins σ Q) X.xe s:=by
 have hq:=h (s.heap.objs.size+1) s.heap.objs.size (I.hok.fresh (Nat.le_succ _)) (I.hok.fresh (Nat.le_refl _)) (Nat.ne_of_lt (Nat.lt_succ_self _));have I2:=ww (C:=C) I;have r2:Vals (V.ref (s.heap.objs.size+1)::(vs++dvs)) (Value.ref (s.heap.objs.size+1)::(us++ds)):=.cons rfl (r.append hd);have hl:(Value.ref (s.heap.objs.size+1)::us++ds).length=ps.length:=by
  have e:=r2.length;rw [F.len _ _ _ _ hq] at e;exact e.symm
 refine wpAny_call (vL (f:=f) I.kIn M.makes M.init (beq_iff_eq.mp M.fn) (codeAny_mono (F.run _ X.stack _ _ ⟨Value.ref (s.heap.objs.size+1)::us,[]⟩ (Value.ref (s.heap.objs.size+1)::(us++ds)) _ _ E (hr.make C us [])
  (I2.env0.make C us []) (hb _ (Value.ref (s.heap.objs.size+1)::us) I2.kIn hl) r2 hq) fun r s' hq'=>?_))
 cases r with
 |error e=>exact hx pins σ _ _ e s' I2 hq'
 |ok fl=>
  cases fl with
  |ret u=>
   obtain ⟨v,H',I3,rv,ev,q3⟩:=I2.after hq';subst ev;exact ⟨rv,⟨V.ref (s.heap.objs.size+1),H',I3,rfl,q3⟩⟩
  |next=>exact False.elim hq'
  |brk=>exact False.elim hq'
  |cont=>exact False.elim hq'
theorem xN(M:Mk X.K C f)(F:FnOk X.prog X.w X.K X.mg X.base CX k f fd ps sp)(hr:Room (k+1) X.A)(hg:Gl X x)(hm:X.mg x=some (.ref C))(hb:Binds X.K fd ps ds)(hd:Vals dvs ds)(hx:de CX X E)
  (ha:PA X (e::es) t) (hdb:(x==("__debug__":Str))=false:=by decide) (he:starEach (e::es) X.env=(false,eval e X.env)::starEach es X.env:=by rfl) (hpl:(backTo pos (starEach es X.env)).any (·.1)=false:=by rfl):
  PE X (.Call (.Name x p) (e::es) [] pos) (E8 C sp dvs E t):=by
 intro pins s σ H Q I h;refine wpAny_Call_Name_kw (ld_glob I hg hm ?_ hdb);refine W.callWith_K (h₀:=X.base) I.ok.mod.kin M.kp (thn (ha pos pins s σ H _ I h) fun us s1 ⟨vs,H1,I1,r,q⟩=>⟨I1.kIn,?_⟩) he hpl;exact vx M F hr hb hd hx I1 r q
end
section
variable {X:Cx}{CX:mI}{k:Nat}{f C:Addr}{fd:FuncData}{ps ks:List Str}{sp:Sp}{E:XK}{x m:Str}{p pos apos kpos:Pos}{e o:Expr}{es:List Expr}{kws:List Keyword}{te ta:TE}{t tk:TA}{nm:Option Str}
variable {g:List Value->List Value->List Value}{gV:List V->List V->List V}
end
structure FnScope(N P:List Str)(sc:Scope):Prop where
 kind:sc.kind=.function
 co:sc.isCoroutine=false
 gen:sc.isGenerator=false
 nd:N.Nodup
 pre:N.take P.length=P
 par:∀x∈P,sc.names.lookup x=some .local\/sc.names.lookup x=some .cell
 nofree:∀y∈sc.names,y.2≠.free
theorem j_{kindOf:Str->Option NameKind}{x:Str}:∀{binds:List (Str×Value)} {m:Str->Option Value},(∀v,(x,v)∉binds)->bindL kindOf binds m x=m x
 |[],_,_=>rfl
 |(n,v)::r,m,h=>by
  unfold bindL;rw [j_ fun w hw=>h w (List.mem_cons_of_mem _ hw)]
  split
  ·have:x≠n:=by rintro rfl;exact h v List.mem_cons_self
   simp [this]
  ·rfl
theorem k8{kindOf:Str->Option NameKind}{x:Str}:∀{binds:List (Str×Value)} {m:Str->Option Value},(∀v,(x,v)∉binds)->bindC kindOf binds m x=m x
 |[],_,_=>rfl
 |(n,v)::r,m,h=>by
  unfold bindC;rw [k8 fun w hw=>h w (List.mem_cons_of_mem _ hw)]
  split
  ·rfl
  ·have:x≠n:=by rintro rfl;exact h v List.mem_cons_self
   simp [this]
theorem ka{kindOf:Str->Option NameKind}{x:Str}{v:Value}:∀{P:List Str} {vs:List Value} {i:Nat} {m:Str->Option Value},P.Nodup->P[i]?=some x->vs[i]?=some v->kindOf x=some .local->
  bindL kindOf (P.zip vs) m x=some v
 |[],_,_,_,_,h,_,_=>by simp at h
 |_::_,[],_,_,_,_,h,_=>by simp at h
 |p::P,w::vs,0,m,nd,h1,h2,hk=>by
  simp at h1 h2;subst h1;subst h2;show bindL kindOf ((p,w)::P.zip vs) m p=_;unfold bindL;rw [j_ fun v hv=>(List.nodup_cons.mp nd).1 (List.of_mem_zip hv).1,if_pos hk];simp
 |p::P,w::vs,i+1,m,nd,h1,h2,hk=>by
  show bindL kindOf ((p,w)::P.zip vs) m x=_;unfold bindL;exact ka (i:=i) (List.nodup_cons.mp nd).2 (by simpa using h1) (by simpa using h2) hk
theorem kh{kindOf:Str->Option NameKind}{x:Str}{v:Value}:∀{P:List Str} {vs:List Value} {i:Nat} {m:Str->Option Value},P.Nodup->P[i]?=some x->vs[i]?=some v->kindOf x≠some .local->
  bindC kindOf (P.zip vs) m x=some v
 |[],_,_,_,_,h,_,_=>by simp at h
 |_::_,[],_,_,_,_,h,_=>by simp at h
 |p::P,w::vs,0,m,nd,h1,h2,hk=>by
  simp at h1 h2;subst h1;subst h2;show bindC kindOf ((p,w)::P.zip vs) m p=_;unfold bindC;rw [k8 fun v hv=>(List.nodup_cons.mp nd).1 (List.of_mem_zip hv).1,if_neg hk];simp
 |p::P,w::vs,i+1,m,nd,h1,h2,hk=>by
  show bindC kindOf ((p,w)::P.zip vs) m x=_;unfold bindC;exact kh (i:=i) (List.nodup_cons.mp nd).2 (by simpa using h1) (by simpa using h2) hk
def start(N:List Str)(vs:List V):St:=vs.map some++List.replicate (N.length-vs.length) none
def dM(CX:mI)(P:Program)(w:World)(K:W.Frag)(mg:Str->Option Value)(base:Heap)(N:List Str)(qual:Str)(scope:Scope)(f:Addr)(cd:Value)(A:Around)(outer:List Env)(s:Shared)(H:Hp)(E:XK):Cx where
 prog:=P
 w:=w
 K:=K
 mg:=mg
 base:=base
 A:=A.deeper (envOfC qual scope s.heap.objs.size f cd)
 N:=N
 s₀:=s
 H₀:=H
 env:=envOfC qual scope s.heap.objs.size f cd
 outer:=outer
 stack:=envOfC qual scope s.heap.objs.size f cd::outer
 ex:=[]
 calm:=true
 fn:=fun _=>true
 pn:=[]
 xe:=fun e s'=>wpAny (model P w) (A.deeper (envOfC qual scope s.heap.objs.size f cd)) (leaving (envOfC qual scope s.heap.objs.size f cd) e) (fun _ s''=>CX outer H s E e s'') (fun e' s''=>CX outer H s E e' s'') s'
theorem nQ{sc:Scope}{n:Nat}{x:Str}(h:sc.names.lookup x=some .cell):∃c,(cellsFrom n sc.names []).lookup x=some c:=by
 have q:=W.cellsFrom_some sc.names n [] (.inl h);exact Option.isSome_iff_exists.mp q
theorem sm{CX:mI}{P:Program}{w:World}{K:W.Frag}{mg:Str->Option Value}{base:Heap}{N ps:List Str}{qual:Str}{scope:Scope}{f:Addr}{cd:Value}{A:Around}{outer:List Env}{s s1:Shared}{H:Hp}{E:XK}{us:List Value}{vs:List V}
  (S:FnScope N ps scope) (hd:A.handled=none) (e0:Env0 P w K mg base A outer s H) (hl:vs.length=ps.length) (r:Vals vs us)
  (x:InCallC s s.heap.objs.size (bindL (envOfC qual scope s.heap.objs.size f cd).kindOf (ps.zip us) fun _=>none) (cellsFrom (s.heap.objs.size+1) scope.names []) (bindC (envOfC qual scope s.heap.objs.size f cd).kindOf (ps.zip us) fun _=>none) s1):
  Inv (dM CX P w K mg base N qual scope f cd A outer s H E) [] (start N vs) H s1:=by
 have hpl:ps.length<=N.length:=by have:=congrArg List.length S.pre;rw [List.length_take] at this;lia
 obtain ⟨h1,tk,rfl,hk⟩:=x.done;have noA:∀b:Addr,b∉(dM CX P w K mg base N qual scope f cd A outer s H E).ex:=fun b z=>absurd (show b∈([]:List Addr) from z) (by simp)
 refine ⟨⟨e0.mod,S.kind,rfl,rfl,Nat.le_refl _,fun y z c h1 h2=>?_,fun y hy=>?_,fun y c _ h=>?_,fun _=>hd,Around.frames_deeper e0.frames,.inr ⟨rfl,rfl⟩,fun b z=>absurd z (noA b),e0.bs,e0.bsz,fun b _ _=>noA b,fun b z=>absurd z (noA b),e0.funs,e0.frf⟩,
  rfl,e0.bare,Un.kept hk,⟨_,x.toInCall.ns,fun i y v h1 h2 h3=>?_⟩,fun y c h=>⟨_,x.cell y c h⟩,e0.hok.fresh (Nat.le_refl _),fun y c h=>?_,fun p hp=>absurd (show p∈([]:List (Addr×Obj)) from hp) (by simp),e0.hok.kept hk,?_⟩
 ·exact name_of_addr x.apart (PySem.mem_of_lookup h1) (PySem.mem_of_lookup h2)
 ·have hy:scope.names.lookup y=some .cell\/scope.names.lookup y=some .free:=hy
  rcases hy with hy|hy
  ·exact nQ hy
  ·exact absurd rfl (S.nofree _ (PySem.mem_of_lookup hy))
 ·exact Nat.le_of_lt (x.above y c (PySem.mem_of_lookup h))
 ·have hi:i<vs.length:=by
   unfold start at h2
   by_cases hi:i<vs.length
   ·exact hi
   ·rw [List.getElem?_append_right (by simpa using hi)] at h2
    rw [List.getElem?_replicate] at h2
    split at h2<;>cases h2
  have ha:vs[i]?=some v:=by
   unfold start at h2;rw [List.getElem?_append_left (by simpa using hi),List.getElem?_map] at h2
   cases e:vs[i]? with
   |none=>rw [e] at h2;cases h2
   |some a=>rw [e] at h2;cases h2;rfl
  obtain ⟨u,hu,rv⟩:=r.get ha;have hp:ps[i]?=some y:=by
   rw [<- S.pre,List.getElem?_take_of_lt (by lia)];exact h1
  have ndP:ps.Nodup:=by rw [<- S.pre];exact S.nd.sublist (List.take_sublist _ _)
  refine ⟨u,rv,?_⟩;rcases S.par y (List.mem_of_getElem? hp) with k|k
  ·exact .inl ⟨k,ka ndP hp hu k⟩
  ·obtain ⟨c,e⟩:=nQ (n:=s.heap.objs.size+1) k
   refine .inr ⟨.inl k,c,e,?_⟩;have q:=x.cell y c e;rw [kh ndP hp hu (by show scope.names.lookup y≠_;rw [k];decide)] at q
   exact q
 ·exact e0.hok.fresh (Nat.le_of_lt (x.above y c (PySem.mem_of_lookup h)))
 ·unfold start
  show _=N.length;rw [List.length_append,List.length_map,List.length_replicate];lia
theorem El{CX:mI}{P:Program}{w:World}{K:W.Frag}{mg:Str->Option Value}{base:Heap}{k:Nat}{f:Addr}{name qual:Str}{params:Arguments}{body:List Stmt}{scope:Scope}{dV kV doc pm cdv ct oc:Value}{an od:Option Addr}
  {osl:Array (Option Value)} {N ps:List Str} {sp:Sp} (lk:K.lookup f=some ⟨oc,od,.func (W.fnOf name qual params body scope dV kV doc pm an cdv ct),osl⟩) (hcd:W.codeIn K cdv qual=true) (S:FnScope N ps scope)
  (len:∀vs H Q E,sp vs H Q E->vs.length=ps.length)
  (hbody:∀(A:Around) (outer:List Env) (s:Shared) (H:Hp) (vs:List V) (Q:VK) (E:XK),Room k (A.deeper (envOfC qual scope s.heap.objs.size f cdv))->sp vs H Q E->
   ∃t,pM (dM CX P w K mg base N qual scope f cdv A outer s H E) body t/\t { nx:=fun _ H'=>Q .non H',rt:=Q } (start N vs) H):
  FnOk P w K mg base CX (k+1) f (W.fnOf name qual params body scope dV kV doc pm an cdv ct) ps sp:=by
 refine ⟨len,fun A outer s H args us vs Q E hr e0 hb r hsp=>?_⟩;have hl:=len _ _ _ _ hsp;have KX:K.In s.heap:=e0.mod.kin.keeps fun b o e=>(e0.bs b o e).1;have lim:s.heap.NoLimit:=e0.mod.nolimit.keeps fun b o e=>(e0.bs b o e).1;have hkind:∀y∈ps.zip us,scope.names.lookup y.1=some .local\/(scope.names.lookup y.1=some .cell/\((cellsFrom (s.heap.objs.size+1) scope.names []).lookup y.1).isSome=true):=fun ⟨n,v⟩ hy=>by
  rcases S.par n (List.of_mem_zip hy).1 with q|q
  ·exact .inl q
  ·exact .inr ⟨q,W.cellsFrom_some _ _ _ (.inl q)⟩
 refine codeAny_call_function hr.depth (KX _ _ lk) rfl S.co S.gen rfl (W.codeRec_of KX hcd) (hb _ _ _ _ ?_);refine wpAny_newFunctionEnv_cells S.kind hkind fun env he s1 x=>?_;subst he;refine ⟨lim.keeps x.toInCall.keep,codeAny_func ?_⟩;obtain ⟨t,ht,hq⟩:=hbody A outer s H vs Q E (hr.deeper _) hsp;have I:Inv (dM CX P w K mg base N qual scope f cdv A outer s H E) [] (start N vs) H s1:=sm S hr.hd e0 hl r x;refine wpAny_mono (ht [] s1 (start N vs) H _ I hq) (fun fl s' hs=>?_) fun e s' hs=>hs;have fin:∀{σ':St} {H':Hp} {v:V} {u:Value},Inv (dM CX P w K mg base N qual scope f cdv A outer s H E) [] σ' H' s'->RelV v u->Q v H'->CE outer P w H s Q u s':=
  fun {σ' H' v u} J rv q=>⟨v,H',J.os,J.bare,J.base,J.hok,rv,q⟩
 cases fl with
 |ret u=>
  obtain ⟨v,σ',H',J,rv,q⟩:=hs;exact fin J rv q
 |next=>
  obtain ⟨σ',H',J,q⟩:=hs;exact fin (v:=V.non) (u:=Value.none) J rfl q
 |brk=>
  obtain ⟨_,_,_,q⟩:=hs;exact False.elim q
 |cont=>
  obtain ⟨_,_,_,q⟩:=hs;exact False.elim q
end L2
namespace L2
open PySem PySem.Spec PyProof.Rows
section
variable {X:Cx}{x:Str}{p pos:Pos}{e:Expr}{es:List Expr}{t:TA}{id T:String}{r:List V->Hp->VK->Prop}
def tCB(r:List V->Hp->VK->Prop)(t:TA):TE:=fun σ H Q=>t σ H fun vs H1=>r vs H1 Q
theorem tU(hc:cr X (.builtin id) r)(hg:Gl X x)(hm:X.mg x=none)(hv:bootBuiltins x=some (.builtin id))(ha:PA X (e::es) t)(hn:x≠"__name__":=by decide)(hdb:(x==("__debug__":Str))=false:=by decide)
  (he:starEach (e::es) X.env=(false,eval e X.env)::starEach es X.env:=by rfl) (hpl:(backTo pos (starEach es X.env)).any (·.1)=false:=by rfl):PE X (.Call (.Name x p) (e::es) [] pos) (tCB r t):=by
 intro pins s σ H Q I h;refine wpAny_Call_Name_kw (ld_blt I hg hm hv ?_ hn hdb);exact PyProof.Rows.callWith_builtin1 (thn (ha pos pins s σ H _ I h) fun us s1 ⟨vs,H1,I1,r1,q1⟩=>hc pins s1 σ H1 vs us Q I1 r1 q1) he hpl
theorem su(hc:cr X (.type T) r)(hg:Gl X x)(hm:X.mg x=none)(hv:bootBuiltins x=some (.type T))(ha:PA X (e::es) t)(hn:x≠"__name__":=by decide)(hdb:(x==("__debug__":Str))=false:=by decide)
  (he:starEach (e::es) X.env=(false,eval e X.env)::starEach es X.env:=by rfl) (hpl:(backTo pos (starEach es X.env)).any (·.1)=false:=by rfl):PE X (.Call (.Name x p) (e::es) [] pos) (tCB r t):=by
 intro pins s σ H Q I h;refine wpAny_Call_Name_kw (ld_blt I hg hm hv ?_ hn hdb);exact PyProof.Rows.callWith_type1 (thn (ha pos pins s σ H _ I h) fun us s1 ⟨vs,H1,I1,r1,q1⟩=>hc pins s1 σ H1 vs us Q I1 r1 q1) he hpl
end
end L2
namespace HT
open PySem PyProof.Rows
section
open PySem.SeqAt
open PySem.AutoSeq1 (wpAny_loadPart')
open PySem.MeetsSeq PySem.MeetsSeq2 PySem.MeetsSeq3
end
section
variable {prog:Program}{w:World}{A:Around}{E:Value->Shared->Prop}{s:Shared}
theorem xC{t b:Addr}{vs ws:List Value}{Q:Value->Shared->Prop}(ht:IsTup s.heap t vs.toArray)(hb:IsTup s.heap b ws.toArray)(hv:vs≠[])
  (h1:ws=[]->Q (.ref t) s) (h2:ws≠[]->Q (.ref s.heap.objs.size) { s with heap:=s.heap.push { cls:=.type "tuple",data:=.seq (vs++ws).toArray } })
  (hsz:vs.length+ws.length<=sizeLine):wpAny (model prog w) A (binaryOp .Add (.ref t) (.ref b)) Q E s:=by
 obtain ⟨⟨cls,dd,data,sl⟩,ho,hc,n,hd⟩:=id ht;obtain ⟨⟨cls2,dd2,data2,sl2⟩,ho2,hc2,n2,hd2⟩:=id hb;simp only at hc hd hc2 hd2;subst hc hd hc2 hd2;have e:vs.toArray++ws.toArray=(vs++ws).toArray:=by simp
 by_cases hw:ws=[]
 ·exact concat_meets ⟨_,ho,rfl⟩ ⟨_,ho2,rfl⟩ noFill_tuple_add seq_tuple_add PySem.F.slot_tuple_add PySem.F.entry_tuple_add (PySem.F.args_tuple_add_2 _ _)
   (tuple_addW1 t b vs.toArray ws.toArray n n2 dd dd2 sl sl2 (by simpa using hv) (by simp [hw])) ⟨ho,ho2,h1 hw⟩
 ·refine concat_meets ⟨_,ho,rfl⟩ ⟨_,ho2,rfl⟩ noFill_tuple_add seq_tuple_add PySem.F.slot_tuple_add PySem.F.entry_tuple_add (PySem.F.args_tuple_add_2 _ _)
   (tuple_addW2 t b vs.toArray ws.toArray n n2 dd dd2 sl sl2 (by simpa using hv) (by simpa using hw) (by rw [List.size_toArray,List.size_toArray];exact hsz)) ⟨ho,ho2,?_⟩
  rw [e];exact h2 hw
def sIx(n d:Nat):Option Int->Nat
 |none=>d
 |some v=>if v<0 then (v+(n:Int)).toNat else min v.toNat n
theorem nr(n d:Nat):sIx n d none=d:=rfl
theorem qQ(n d k:Nat):sIx n d (some (k:Int))=min k n:=by
 show (if (k:Int)<0 then ((k:Int)+(n:Int)).toNat else min (k:Int).toNat n)=min k n
 rw [if_neg (by lia),Int.toNat_natCast]
theorem Ci(n d:Nat)(hd:d<=n)(o:Option Int):sIx n d o<=n:=by
 cases o with
 |none=>exact hd
 |some v=>
  show (if v<0 then (v+(n:Int)).toNat else min v.toNat n)<=n
  by_cases hv:v<0
  ·rw [if_pos hv];lia
  ·rw [if_neg hv];exact Nat.min_le_right _ _
theorem qX(v:Int)(n d:Nat):(if v<0 then max (v+(n:Int)) 0 else min v (n:Int))=((sIx n d (some v):Nat):Int):=by
 show (if v<0 then max (v+(n:Int)) 0 else min v (n:Int))=(((if v<0 then (v+(n:Int)).toNat else min v.toNat n):Nat):Int)
 by_cases hv:v<0
 ·simp only [if_pos hv];lia
 ·simp only [if_neg hv];lia
theorem oM(lo hi:Option Int)(n:Nat):Builtin.Slice.sliceAdjust lo hi 1 (n:Int)=(((sIx n 0 lo:Nat):Int),((sIx n n hi:Nat):Int)):=by
 have h1:¬((1:Int)<0):=by lia
 unfold Builtin.Slice.sliceAdjust;simp only [h1,if_false];refine Prod.ext ?_ ?_
 ·cases lo with
  |none=>rfl
  |some v=>exact qX v n 0
 ·cases hi with
  |none=>rfl
  |some v=>exact qX v n n
theorem pj(i j:Nat):Builtin.Slice.slicePlaces (i:Int) (j:Int) 1=j-i:=by
 unfold Builtin.Slice.slicePlaces;have h1:(1:Int)>0:=by lia
 simp only [h1,if_true,Int.ediv_one]
 split<;>lia
theorem jv{v:Value}{o:Option Int}{Q:Option Int->Shared->Prop}(p:IsPart v o)(h:Q o s):wpAny (model prog w) A (Builtin.Slice.slicePartIndex v) Q E s:=by
 cases p with
 |none=>exact slicePart_none h
 |int i t=>exact slicePart_int h
theorem dP{sl:Addr}{vl vu:Value}{lo hi:Option Int}{n:Nat}{Q:Int×Int×Nat->Shared->Prop}(hs:s.heap.IsSliceOf sl vl vu .none)(pl:IsPart vl lo)(pu:IsPart vu hi)
  (h:Q (((sIx n 0 lo:Nat):Int),1,sIx n n hi-sIx n 0 lo) s):wpAny (model prog w) A (Builtin.Slice.sliceApplied (.ref sl) (pure (n:Int))) Q E s:=by
 obtain ⟨os,hos,hcs,hds⟩:=id hs;unfold Builtin.Slice.sliceApplied Builtin.Slice.sliceFields;refine wpAny_bind (wpAny_bind (wpAny_field hos hds (x:=vl) rfl (wpAny_bind (wpAny_field hos hds (x:=vu) rfl (wpAny_bind (wpAny_field hos hds (x:=.none) rfl (wpAny_pure ?_)))))));refine wpAny_bind (slicePart_none ?_);show wpAny _ _ (if ((1:Int)==0)=true then _ else _) _ _ s
 rw [if_neg (by decide)]
 refine wpAny_bind (jv pl (wpAny_bind (jv pu (wpAny_bind (wpAny_pure ?_)))));show wpAny _ _ (match Builtin.Slice.sliceAdjust lo hi 1 (n:Int) with|(lo,hi)=>pure (lo,(1:Int),Builtin.Slice.slicePlaces lo hi 1)) _ _ s
 rw [oM lo hi n];show wpAny _ _ (pure (((sIx n 0 lo:Nat):Int),(1:Int),Builtin.Slice.slicePlaces ((sIx n 0 lo:Nat):Int) ((sIx n n hi:Nat):Int) 1)) _ _ s;rw [pj];exact wpAny_pure h
theorem vD(xs:Array Value)(i k:Nat):((List.range k).filterMap fun (m:Nat)=>xs[((i:Int)+(m:Int)*1).toNat]?).toArray=((xs.toList.drop i).take k).toArray:=by
 have e:(fun (m:Nat)=>xs[((i:Int)+(m:Int)*1).toNat]?)=fun m=>xs[i+m]?:=by
  funext m;have:((i:Int)+(m:Int)*1).toNat=i+m:=by lia
  rw [this]
 rw [e];have:=pick_run xs i k;rw [List.filterMap_map] at this;have e2:((fun x=>xs[x]?) ∘ fun x=>i+x)=fun m=>xs[i+m]?:=rfl;rw [e2] at this;rw [this]
theorem fX{t sl:Addr}{items:Array Value}{vl vu:Value}{lo hi:Option Int}{Q:Value->Shared->Prop}(ht:IsTup s.heap t items)(hs:s.heap.IsSliceOf sl vl vu .none)(pl:IsPart vl lo)(pu:IsPart vu hi)
  (hw:¬(sIx items.size 0 lo=0/\sIx items.size items.size hi=items.size))
  (h:Q (.ref s.heap.objs.size) { s with heap:=s.heap.push { cls:=.type "tuple",data:=.seq ((items.toList.drop (sIx items.size 0 lo)).take (sIx items.size items.size hi-sIx items.size 0 lo)).toArray } })
  (hsz:items.size<=sizeLine):wpAny (model prog w) A (getItem (.ref t) (.ref sl)) Q E s:=by
 have htake:sizeOk (.seq ((items.toList.drop (sIx items.size 0 lo)).take (sIx items.size items.size hi-sIx items.size 0 lo)).toArray):=by
  show ((items.toList.drop (sIx items.size 0 lo)).take (sIx items.size items.size hi-sIx items.size 0 lo)).toArray.size<=sizeLine;rw [List.size_toArray,List.length_take,List.length_drop,Array.length_toList];lia
 have hj:sIx items.size items.size hi<=items.size:=Ci _ _ (Nat.le_refl _) hi;obtain ⟨os,hos,hcs,hds⟩:=id hs;have hTs:s.TypeIs (.ref sl) "slice":=⟨os,hos,hcs⟩;unfold getItem
 try with_reducible refine wpAny_holding ?_
 first|refine wpAny_bind (wpAny_pure ?_)|skip
 refine wpAny_bind (wpAny_sequenceKey ht.typeIs (by decide) ?_)
 refine wpAny_bind (wpAny_callSpecial?_slot (name:=Str.ofString "__getitem__") ht.typeIs PyProof.Rows.slot_tuple_getitem
  (wpAny_call_entry PyProof.Rows.slot_tuple_getitem ht.typeIs entry_tuple_getitem ?_ (args_tuple_getitem _ _)))
 show wpAny _ _ (Builtin.Tuple.tupleItemsOf (.ref t) >>= _) _ _ s;refine wpAny_bind (tupleItemsOf_ ht ?_);refine wpAny_bind (wpAny_typeOf hTs ?_);rw [if_pos (by decide)]
 refine wpAny_bind (dP hs pl pu ?_);have hno:¬((((sIx items.size 0 lo:Nat):Int)==0&&(1:Int)==1&&(sIx items.size items.size hi-sIx items.size 0 lo)==items.size)=true):=by
  intro q;rw [Bool.and_eq_true,Bool.and_eq_true] at q;have q1:((sIx items.size 0 lo:Nat):Int)=0:=eq_of_beq q.1.1;have q2:sIx items.size items.size hi-sIx items.size 0 lo=items.size:=eq_of_beq q.2;exact hw ⟨by lia,by lia⟩
 show wpAny _ _ (if (((sIx items.size 0 lo:Nat):Int)==0&&(1:Int)==1&&(sIx items.size items.size hi-sIx items.size 0 lo)==items.size)=true then _ else _) _ _ s
 rw [if_neg hno,vD]
 first
  |exact wpAny_bind (m:=Builtin.Tuple.tupleExact _) (wpAny_newObj_type (wpAny_pure ⟨_,rfl,wpAny_pure h⟩) htake)
  |exact wpAny_bind (m:=Builtin.Tuple.tupleExact _) (wpAny_newObj_type (wpAny_bind (wpAny_pure (wpAny_pure ⟨_,rfl,wpAny_pure h⟩))) htake)
  |exact wpAny_bind (wpAny_bind (m:=Builtin.Tuple.tupleExact _) (wpAny_newObj_type (wpAny_pure (wpAny_pure ⟨_,rfl,wpAny_pure h⟩)) htake))
  |exact wpAny_bind (wpAny_bind (m:=Builtin.Tuple.tupleExact _) (wpAny_newObj_type (wpAny_pure ⟨_,rfl,wpAny_pure h⟩) htake))
end
end HT
namespace L2
open PySem PySem.Spec PyProof.Rows
abbrev TO:=St->Hp->(Option Int->Hp->Prop)->Prop
def PO(X:Cx)(e:Option Expr)(t:TO):Prop:=
 ∀(pins:List (Addr×Obj)) (s:Shared) (σ:St) (H:Hp) (Q:Option Int->Hp->Prop),Inv X pins σ H s->t σ H Q->
  wpAny (model X.prog X.w) X.A (evalPart e X.env) (fun u s'=>∃o H',Inv X pins σ H' s'/\IsPart u o/\Q o H') X.xe s
def xH:TO:=fun _ H Q=>Q none H
def CV(t:TE):TO:=fun σ H Q=>t σ H fun x H1=>∃i,x=.int i/\Q (some i) H1
section
variable {X:Cx}{e:Expr}{te:TE}{lo hi:Option Expr}{tl th:TO}{pos p2:Pos}
theorem yw:PO X none xH:=by
 intro pins s σ H Q I h;rw [evalPart_none];exact wpAny_pure ⟨none,H,I,.none,h⟩
theorem ze(h:PE X e te):PO X (some e) (CV te):=by
 intro pins s σ H Q I hw;rw [evalPart_some];refine thn (h pins s σ H _ I hw) fun u s1 ⟨x,H1,I1,r1,q1⟩=>?_;obtain ⟨i,rfl,q⟩:=q1;obtain ⟨t,rfl⟩:=r1;exact ⟨some i,H1,I1,.int i t,q⟩
def Ep(X:Cx)(r:V->Option Int->Option Int->Hp->VK->Prop):Prop:=
 ∀(pins:List (Addr×Obj)) (s:Shared) (σ:St) (H:Hp) (x:V) (v vl vu:Value) (lo hi:Option Int) (sl:Addr) (Q:VK),Inv X pins σ H s->RelV x v->s.heap.IsSliceOf sl vl vu .none->IsPart vl lo->IsPart vu hi->r x lo hi H Q->
  ∃T id,typeLookup (.type T) "__getitem__"=pure (some (.builtin id))/\s.TypeIs v T/\wpAny (model X.prog X.w) X.A (getItem v (.ref sl)) (EP X pins σ Q) X.xe s
def tSl(r:V->Option Int->Option Int->Hp->VK->Prop)(te:TE)(tl th:TO):TE:=fun σ H Q=>te σ H fun x H1=>tl σ H1 fun l H2=>th σ H2 fun u H3=>r x l u H3 Q
theorem tF{r:V->Option Int->Option Int->Hp->VK->Prop}(hr:Ep X r)(he:PE X e te)(hl:PO X lo tl)(hu:PO X hi th):PE X (.Subscript e (.Slice lo hi none p2) pos) (tSl r te tl th):=by
 intro pins s σ H Q I h;refine Subscript_ (thn (he pins s σ H _ I h) fun v s1 ⟨x,H1,I1,r1,q1⟩=>?_);refine wpAny_Slice (thn (hl pins s1 σ H1 _ I1 q1) fun vl s2 ⟨l,H2,I2,pl,q2⟩=>thn (hu pins s2 σ H2 _ I2 q2) fun vu s3 ⟨u,H3,I3,pu,q3⟩=>?_);rw [evalPart_none];refine wpAny_pure ?_;have I4:Inv X pins σ H3 { s3 with heap:=s3.heap.push { cls:=.type "slice",data:=.fields #[vl,vu,.none] } }:=I3.kept (t':=s3.toks) fun b ob q=>Heap.get?_push_of_some _ q;obtain ⟨T,id,hT,ht,hg⟩:=hr pins { s3 with heap:=s3.heap.push { cls:=.type "slice",data:=.fields #[vl,vu,.none] } } σ H3 x v vl vu l u s3.heap.objs.size Q I4 r1 (Heap.IsSliceOf.new ..) pl pu q3;show wpAny (model X.prog X.w) X.A (subscriptTail e (.Slice lo hi none p2) v (.ref s3.heap.objs.size)) (EP X pins σ Q) X.xe { s3 with heap:=s3.heap.push { cls:=.type "slice",data:=.fields #[vl,vu,.none] } };exact tail_any (ops:=[.ref s3.heap.objs.size,v]) ht hT hg (by with_unfolding_all rfl)
def gR(xs:List V)(lo hi:Option Int):List V:=(xs.drop (HT.sIx xs.length 0 lo)).take (HT.sIx xs.length xs.length hi-HT.sIx xs.length 0 lo)
theorem gO(xs:List V)(lo hi:Option Int):(gR xs lo hi).length<=xs.length:=by
 unfold gR;rw [List.length_take,List.length_drop];lia
def rSlT(K:W.Frag):V->Option Int->Option Int->Hp->VK->Prop:=fun x lo hi H Q=>∃a xs,x=.ref a/\gz K H a xs/\
 ¬(HT.sIx xs.length 0 lo=0/\HT.sIx xs.length xs.length hi=xs.length)/\∀p,H p=none->Q (.ref p) (upd H p (.tup (gR xs lo hi)))
theorem Cl:Ep X (rSlT X.K):=by
 intro pins s σ H x v vl vu lo hi sl Q I rx hs pl pu h;obtain ⟨a,xs,rfl,hx,hw,q⟩:=h;cases rx;obtain ⟨its,r,ht,hz⟩:=I.tuple hx;have hlen:its.toArray.size=xs.length:=by rw [List.size_toArray];exact r.length.symm
 refine ⟨"tuple",_,PyProof.Rows.slot_tuple_getitem.lookup,ht.typeIs,?_⟩;refine HT.fX ht hs pl pu (by rw [hlen];exact hw) ?_ (by rw [hlen];exact hz)
 rw [hlen];refine ⟨.ref s.heap.objs.size,_,I.laid (t':=s.toks) (o:=.tup (gR xs lo hi)) (fun b ob q=>Heap.get?_push_of_some _ q) (Nat.le_refl _) ?_,rfl,q _ (I.hok.fresh (Nat.le_refl _))⟩;exact ⟨Nat.le_trans (gO xs lo hi) hz,_,(r.drop (HT.sIx xs.length 0 lo)).take (HT.sIx xs.length xs.length hi-HT.sIx xs.length 0 lo),⟨_,Heap.get?_push_size _ rfl,⟨rfl,_,rfl⟩,rfl⟩⟩
def CL(K:W.Frag):R2:=fun x y H Q=>∃a b xs ys,x=.ref a/\y=.ref b/\gz K H a xs/\gz K H b ys/\xs≠[]/\xs.length+ys.length<=sizeLine/\
 (ys=[]->Q (.ref a) H)/\(ys≠[]->∀p,H p=none->Q (.ref p) (upd H p (.tup (xs++ys))))
theorem Vals.nil_iff{xs:List V}{us:List Value}(r:Vals xs us):us=[]↔xs=[]:=by
 cases r with
 |nil=>simp
 |cons _ _=>simp
theorem ya:da X (binaryOp .Add) (CL X.K):=by
 intro pins s σ H x y v u Q I rx ry h;obtain ⟨a,b,xs,ys,rfl,rfl,ha,hb,hx,hz,q1,q2⟩:=h;cases rx;cases ry;obtain ⟨its,r1,p1,_⟩:=I.tuple ha;obtain ⟨its2,r2,p2,_⟩:=I.tuple hb;refine HT.xC p1 p2 (fun z=>hx (r1.nil_iff.mp z)) (fun z=>⟨.ref a,H,I,rfl,q1 (r2.nil_iff.mp z)⟩) (fun z=>?_) (by rw [<- r1.length,<- r2.length];exact hz)
 refine ⟨.ref s.heap.objs.size,_,I.laid (t':=s.toks) (o:=.tup (xs++ys)) (fun b ob q=>Heap.get?_push_of_some _ q) (Nat.le_refl _) ?_,rfl,q2 (fun w=>z (r2.nil_iff.mpr w)) _ (I.hok.fresh (Nat.le_refl _))⟩;exact ⟨by rw [List.length_append];exact hz,_,r1.append r2,⟨_,Heap.get?_push_size _ rfl,⟨rfl,_,rfl⟩,rfl⟩⟩
end
end L2
namespace L2
open PySem PySem.Spec PyProof.Rows
def pJ(n:Nat)(i:Int):Option Nat:=if 0<=i then (if i<n then some i.toNat else none) else if -(n:Int)<=i then some (i+n).toNat else none
def atI{α:Type}(xs:List α)(i:Int):Option α:=(pJ xs.length i).bind fun j=>xs[j]?
theorem qp{n:Nat}{i:Int}{j:Nat}(h:pJ n i=some j):seqIndex? i n=some j/\j<n/\-(n:Int)<=i/\i<n:=by
 unfold pJ at h
 by_cases h0:0<=i
 ·rw [if_pos h0] at h
  by_cases h1:i<n
  ·rw [if_pos h1] at h
   have e:i.toNat=j:=Option.some.inj h;exact ⟨by rw [seqIndex_of h0 h1,e],by lia,by lia,h1⟩
  ·rw [if_neg h1] at h;cases h
 ·rw [if_neg h0] at h
  by_cases h1:-(n:Int)<=i
  ·rw [if_pos h1] at h
   have e:(i+n).toNat=j:=Option.some.inj h;exact ⟨by rw [seqIndex_neg (by lia) h1,e],by lia,h1,by lia⟩
  ·rw [if_neg h1] at h;cases h
theorem lS{α:Type}{xs:List α}{i:Int}{v:α}(h:atI xs i=some v):∃j,seqIndex? i xs.length=some j/\xs[j]?=some v/\j<xs.length/\-(xs.length:Int)<=i/\i<xs.length:=by
 unfold atI at h;cases e:pJ xs.length i with
 |none=>rw [e] at h;cases h
 |some j=>
  rw [e] at h;obtain ⟨h1,h2,h3,h4⟩:=qp e;exact ⟨j,h1,h,h2,h3,h4⟩
def qJ(b:Expr):Prop:=∀o i,subscripted b false o i=operate [o,i] (getItem o i)
def IxR(X:Cx)(r:R2):Prop:=
 ∀(value slice:Expr) (pins:List (Addr×Obj)) (s:Shared) (σ:St) (H:Hp) (x y:V) (v u:Value) (Q:VK),Inv X pins σ H s->RelV x v->RelV y u->r x y H Q->
  subscripted slice false v u=operate [v,u] (getItem v u)->wpAny (model X.prog X.w) X.A (subscriptTail value slice v u) (EP X pins σ Q) X.xe s
def zT(X:Cx)(id:String)(r:V->List V->Hp->VK->Prop):Prop:=
 ∀(pins:List (Addr×Obj)) (s:Shared) (σ:St) (H:Hp) (x:V) (xs:List V) (v:Value) (us:List Value) (Q:VK),Inv X pins σ H s->RelV x v->Vals xs us->r x xs H Q->
  wpAny (model X.prog X.w) X.A (call (.builtin id) (v::us)) (EP X pins σ Q) X.xe s
section
variable {X:Cx}{a b:Expr}{ta tb:TE}{pos:Pos}
theorem IxR.or{r r':R2}(h:IxR X r)(h':IxR X r'):IxR X (fun x y H Q=>r x y H Q\/r' x y H Q):=by
 intro value slice pins s σ H x y v u Q I rx ry q hs;rcases q with q|q
 ·exact h value slice pins s σ H x y v u Q I rx ry q hs
 ·exact h' value slice pins s σ H x y v u Q I rx ry q hs
theorem E1{r:R2}(hr:IxR X r)(ha:PE X a ta)(hb:PE X b tb)(hs:qJ b):PE X (.Subscript a b pos) (D6 r ta tb):=by
 intro pins s σ H Q I h;exact Subscript_ (binT ha hb I h fun v u s2 x y H2 I2 rx ry q=>hr a b pins s2 σ H2 x y v u Q I2 rx ry q (hs _ _))
def Df(K:W.Frag):R2:=fun x y H Q=>∃p xs i v,x=.ref p/\y=.int i/\SqL K H p xs/\atI xs i=some v/\Q v H
def Er(K:W.Frag):R2:=fun x y H Q=>∃p xs i v,x=.ref p/\y=.int i/\gz K H p xs/\atI xs i=some v/\Q v H
def Ds:R2:=fun x y H Q=>∃z i c,x=.str z/\y=.int i/\z.length<=sizeLine/\atI z.cps.toList i=some c/\Q (.str ⟨#[c]⟩) H
theorem ix_list:IxR X (Df X.K):=by
 intro value slice pins s σ H x y v u Q I rx ry h hs;obtain ⟨p,xs,i,z,rfl,rfl,hq,he,q⟩:=h;cases rx;obtain ⟨t,rfl⟩:=ry;obtain ⟨its,r,pl,hz⟩:=I.list hq;obtain ⟨j,h1,h2,h3,h4,h5⟩:=lS he;obtain ⟨w,ew,rw'⟩:=r.get h2;have hl:=r.length;have hn:=fF;have fin:EP X pins σ Q w s:=⟨z,H,I,rw',q⟩
 by_cases h0:0<=i
 ·have hj:i.toNat=j:=by
   rw [seqIndex_of h0 h5] at h1;exact Option.some.inj h1
  exact item_listR pl.isList h0 (by lia) (by rw [hj];simpa using ew) fin hs
 ·have hj:(i+(its.toArray.size:Int)).toNat=j:=by
   rw [seqIndex_neg (by lia) h4] at h1
   rw [List.size_toArray,<- hl];exact Option.some.inj h1
  exact subscriptTail_builtinR (x:=w) pl.isList.typeIs slot_list_getitem.lookup
   (wpAny_getItem_list_neg (Q:=fun r s'=>r=w/\EP X pins σ Q r s') pl.isList (by lia) (by rw [List.size_toArray]<;>lia) (by lia) (by rw [hj];simpa using ew) ⟨rfl,fin⟩) hs
theorem ix_tup:IxR X (Er X.K):=by
 intro value slice pins s σ H x y v u Q I rx ry h hs;obtain ⟨p,xs,i,z,rfl,rfl,hq,he,q⟩:=h;cases rx;obtain ⟨t,rfl⟩:=ry;obtain ⟨its,r,pl,hz⟩:=I.tuple hq;obtain ⟨j,h1,h2,h3,h4,h5⟩:=lS he;obtain ⟨w,ew,rw'⟩:=r.get h2;have hl:=r.length;have hn:=fF;have fin:EP X pins σ Q w s:=⟨z,H,I,rw',q⟩
 exact subscriptTail_builtinR (x:=w) pl.typeIs slot_tuple_getitem.lookup
  (getItem_tuple (j:=j) (Q:=fun r s'=>r=w/\EP X pins σ Q r s') pl (by lia) (by lia) (by rw [List.size_toArray,<- hl];exact h1) (by simpa using ew) ⟨rfl,fin⟩) hs
theorem va:IxR X Ds:=by
 intro value slice pins s σ H x y v u Q I rx ry h hs;obtain ⟨z,i,c,rfl,rfl,hz,he,q⟩:=h;obtain ⟨t,rfl⟩:=rx;obtain ⟨t',rfl⟩:=ry;obtain ⟨j,h1,h2,h3,h4,h5⟩:=lS he;have hl:z.cps.toList.length=z.length:=by simp [Str.length]
 rw [hl] at h1 h4 h5;have hn:=fF;exact tail_any (typeIs_str s z t) slot_str_getitem.lookup (getItem_str (c:=c) (by
  have e1:decide (i < -(2 ^ 63:Int))=false:=decide_eq_false (by lia)
  have e2:decide (i>=2 ^ 63)=false:=decide_eq_false (by lia)
  rw [e1,e2,Bool.or_false]) (by rw [h1];simpa using h2) ⟨.str ⟨#[c]⟩,H,I.tok _,⟨_,rfl⟩,q⟩) hs
def rIx(K:W.Frag):R2:=fun x y H Q=>Df K x y H Q\/Er K x y H Q\/Ds x y H Q
theorem Cb:IxR X (rIx X.K):=ix_list.or (ix_tup.or va)
theorem ow(its:List Value)(n j:Nat)(u:Value):Obj.mapSeq (·.setIfInBounds j u) { cls:=.type "list",data:=.seq its.toArray n }={ cls:=.type "list",data:=.seq (its.set j u).toArray n }:=by
 simp [Obj.mapSeq]
theorem Inv.lst{pins:List (Addr×Obj)}{σ:St}{H:Hp}{s:Shared}{p:Addr}{xs:List V}(I:Inv X pins σ H s)(h:H p=some (.lst xs)):
  ∃(its:List Value) (n:Nat),Vals xs its/\s.heap.get? p=some { cls:=.type "list",data:=.seq its.toArray n }/\xs.length<=sizeLine:=by
 obtain ⟨z,its,n,r,e⟩:=I.hok p _ h;exact ⟨its,n,r,e,z⟩
theorem Inv.lstUpd{pins:List (Addr×Obj)}{σ:St}{H:Hp}{s:Shared}{p:Addr}{xs ys:List V}{its its':List Value}{n n':Nat}{f:Obj->Obj}(I:Inv X pins σ H s)(h:H p=some (.lst xs))
  (ho:s.heap.get? p=some { cls:=.type "list",data:=.seq its.toArray n }) (hf:f { cls:=.type "list",data:=.seq its.toArray n }={ cls:=.type "list",data:=.seq its'.toArray n' }) (r:Vals ys its') (hz:ys.length<=sizeLine) (t:Nat):
  Inv X pins σ (upd H p (.lst ys)) { s with heap:=s.heap.update p f,toks:=t }:=by
 have e:(s.heap.update p f).get? p=some { cls:=.type "list",data:=.seq its'.toArray n' }:=by
  rw [Heap.get?_update_self f ho (by rw [hf]<;>rfl),hf]
 refine I.write (x:=p) (e:=p) (by rw [h];trivial) (.inl rfl) (fun b u hb q=>(Heap.get?_update_other _ _ (Ne.symm hb)).trans q) ⟨_,e⟩ ?_
 exact ⟨hz,its',n',r,e⟩
def DL:V->V->V->Hp->(Hp->Prop)->Prop:=fun o i v H Q=>∃p xs k j,o=.ref p/\i=.int k/\H p=some (.lst xs)/\pJ xs.length k=some j/\Q (upd H p (.lst (xs.set j v)))
theorem vk:Ae X DL:=by
 intro pins s σ H o i v ov iv u Q I ro ri rv h;obtain ⟨p,xs,k,j,rfl,rfl,hp,hj,q⟩:=h;cases ro;obtain ⟨t,rfl⟩:=ri;obtain ⟨its,n,r,ho,hz⟩:=I.lst hp;obtain ⟨h1,h2,h3,h4⟩:=qp hj;have hl:=r.length;have hn:=fF;have I':Inv X pins σ (upd H p (.lst (xs.set j v))) { s with heap:=s.heap.update p (Obj.mapSeq (·.setIfInBounds j u)) }:=
  I.lstUpd hp ho (ow its n j u) (r.set rv j) (by rw [List.length_set];exact hz) s.toks
 by_cases h0:0<=k
 ·have hk:k.toNat=j:=by
   rw [seqIndex_of h0 h4] at h1;exact Option.some.inj h1
  exact W.ki_setAt ho h0 (by lia) (by rw [List.size_toArray,<- hl];exact h4) (by rw [hk];exact ⟨_,I',q⟩)
 ·have hk:(k+(its.toArray.size:Int)).toNat=j:=by
   rw [seqIndex_neg (by lia) h3] at h1
   rw [List.size_toArray,<- hl];exact Option.some.inj h1
  exact W.ki_setBack ho (by lia) (by rw [List.size_toArray,<- hl];exact h3) (by lia) (by rw [hk];exact ⟨_,I',q⟩)
theorem lj(lo hi:Option Int)(n:Nat):(sliceBounds lo hi none n).1=((HT.sIx n 0 lo:Nat):Int)/\(sliceBounds lo hi none n).2.1=((HT.sIx n n hi:Nat):Int)/\(sliceBounds lo hi none n).2.2=1:=by
 refine ⟨?_,?_,rfl⟩
 ·cases lo with
  |none=>simp [sliceBounds,HT.sIx]
  |some i=>
   simp only [sliceBounds,HT.sIx,Option.getD_none,show (1:Int)>0 by decide,if_true]
   by_cases h:i<0
   ·simp only [h,if_true]<;>lia
   ·simp only [h,if_false]<;>lia
 ·cases hi with
  |none=>simp [sliceBounds,HT.sIx]
  |some i=>
   simp only [sliceBounds,HT.sIx,Option.getD_none,show (1:Int)>0 by decide,if_true]
   by_cases h:i<0
   ·simp only [h,if_true]<;>lia
   ·simp only [h,if_false]<;>lia
theorem jJ(its:List Value)(lo hi:Option Int):slicePick its.toArray lo hi none=((its.drop (HT.sIx its.length 0 lo)).take (HT.sIx its.length its.length hi-HT.sIx its.length 0 lo)).toArray:=by
 obtain ⟨h1,h2,h3⟩:=lj lo hi its.toArray.size;unfold slicePick;rw [h1,h2,h3];simp only [sliceRange_one,pick_run,List.size_toArray]<;>rfl
def rSlL(K:W.Frag):V->Option Int->Option Int->Hp->VK->Prop:=fun x lo hi H Q=>∃a xs,x=.ref a/\SqL K H a xs/\∀p,H p=none->Q (.ref p) (upd H p (.lst (gR xs lo hi)))
theorem qC:Ep X (rSlL X.K):=by
 intro pins s σ H x v vl vu lo hi sl Q I rx hs pl pu h;obtain ⟨a,xs,rfl,hx,q⟩:=h;cases rx;obtain ⟨its,r,ht,hz⟩:=I.list hx;have hlen:=r.length;refine ⟨"list",_,slot_list_getitem.lookup,ht.isList.typeIs,?_⟩;refine wpAny_getItem_list_slice ht.isList hs pl pu .none (by simp) ?_ (by rw [List.size_toArray]<;>lia)
 rw [jJ,<- hlen];refine ⟨.ref s.heap.objs.size,_,I.laid (t':=s.toks) (o:=.lst (gR xs lo hi)) (fun b ob q=>Heap.get?_push_of_some _ q) (Nat.le_refl _) ?_,rfl,q _ (I.hok.fresh (Nat.le_refl _))⟩;exact ⟨Nat.le_trans (gO xs lo hi) hz,_,0,(r.drop (HT.sIx xs.length 0 lo)).take (HT.sIx xs.length xs.length hi-HT.sIx xs.length 0 lo),Heap.get?_push_size _ rfl⟩
def vW:V->Bool
 |.non=>true
 |.bl _=>true
 |.int _=>true
 |.str _=>true
 |_=>false
def lW:V->V->Bool
 |.non,.non=>true
 |.bl a,.bl b=>a==b
 |.bl a,.int b=>(if a then 1 else 0)==b
 |.int a,.bl b=>a==(if b then 1 else 0)
 |.int a,.int b=>a==b
 |.str a,.str b=>a==b
 |_,_=>false
theorem w4{A:Around}{s:Shared}{y x:V}{u v:Value}(ry:RelV y u)(rx:RelV x v)(fy:vW y=true)(fx:vW x=true):SeqAt.EqAt A s u v (lW y x):=by
 cases y with
 |non=>
  cases ry;cases x with
  |non=>cases rx;exact SeqAt.EqAt.same _
  |bl b=>cases rx;exact SeqAt.EqAt.none_bool b
  |int b=>obtain ⟨t,rfl⟩:=rx;exact SeqAt.EqAt.none_int b t
  |str b=>obtain ⟨t,rfl⟩:=rx;exact SeqAt.EqAt.none_str b t
  |_=>exact absurd (show false=true from fx) Bool.false_ne_true
 |bl a=>
  cases ry;cases x with
  |non=>cases rx;exact SeqAt.EqAt.bool_none a
  |bl b=>cases rx;exact SeqAt.EqAt.bool_bool a b
  |int b=>obtain ⟨t,rfl⟩:=rx;exact SeqAt.EqAt.bool_int a b t
  |str b=>obtain ⟨t,rfl⟩:=rx;exact SeqAt.EqAt.bool_str a b t
  |_=>exact absurd (show false=true from fx) Bool.false_ne_true
 |int a=>
  obtain ⟨t',rfl⟩:=ry;cases x with
  |non=>cases rx;exact SeqAt.EqAt.int_none a t'
  |bl b=>cases rx;exact SeqAt.EqAt.int_bool a t' b
  |int b=>obtain ⟨t,rfl⟩:=rx;exact SeqAt.EqAt.int_int a t' b t
  |str b=>obtain ⟨t,rfl⟩:=rx;exact SeqAt.EqAt.int_str a t' b t
  |_=>exact absurd (show false=true from fx) Bool.false_ne_true
 |str a=>
  obtain ⟨t',rfl⟩:=ry;cases x with
  |non=>cases rx;exact SeqAt.EqAt.str_none a t'
  |bl b=>cases rx;exact SeqAt.EqAt.str_bool a t' b
  |int b=>obtain ⟨t,rfl⟩:=rx;exact SeqAt.EqAt.str_int a t' b t
  |str b=>obtain ⟨t,rfl⟩:=rx;exact SeqAt.EqAt.str_str a t' b t
  |_=>exact absurd (show false=true from fx) Bool.false_ne_true
 |_=>exact absurd (show false=true from fy) Bool.false_ne_true
theorem li:cr X (.builtin "len") (fun xs H Q=>∃p ys,xs=[.ref p]/\(SqL X.K H p ys\/gz X.K H p ys)/\Q (.int ys.length) H):=by
 intro pins s σ H xs us Q I r h;obtain ⟨p,ys,rfl,hq,q⟩:=h;obtain ⟨u,rfl,rx⟩:=j3 r;cases rx;have hn:=fF;rcases hq with hq|hq
 ·obtain ⟨its,r',pl,hz⟩:=I.list hq
  have hlen:=r'.length;exact Calls.call_len_list pl.isList (by simp only [List.size_toArray]<;>lia) ⟨.int ys.length,H,I.tok _,⟨s.toks+1,by rw [List.size_toArray,hlen]⟩,q⟩
 ·obtain ⟨its,r',pl,hz⟩:=I.tuple hq
  have hlen:=r'.length;exact len_tuple pl (by simp only [List.size_toArray]<;>lia) ⟨.int ys.length,H,I.tok _,⟨s.toks+1,by rw [List.size_toArray,hlen]⟩,q⟩
theorem kL:cr X (.builtin "len") (fun xs H Q=>∃z,xs=[.str z]/\z.length<=sizeLine/\Q (.int z.length) H):=by
 intro pins s σ H xs us Q I r h;obtain ⟨z,rfl,hz,q⟩:=h;obtain ⟨u,rfl,t,rfl⟩:=j3 r;have hn:=fF;exact len_str (by lia) ⟨.int z.length,H,I.tok _,⟨_,rfl⟩,q⟩
theorem kK:cr X (.type "list") (fun xs H Q=>∃p ys,xs=[.ref p]/\(SqL X.K H p ys\/gz X.K H p ys)/\∀l,H l=none->Q (.ref l) (upd H l (.lst ys))):=by
 intro pins s σ H xs us Q I r h;obtain ⟨p,ys,rfl,hq,q⟩:=h;obtain ⟨u,rfl,rx⟩:=j3 r;cases rx
 have fin:∀(its:List Value),Vals ys its->ys.length<=sizeLine->∀(h':Heap) (c':Nat),(∀b o',s.heap.get? b=some o'->h'.get? b=some o')->
   h'.get? s.heap.objs.size=some { cls:=.type "list",dict:=none,data:=.seq its.toArray c',slots:=#[] }->EP X pins σ Q (.ref s.heap.objs.size) { s with heap:=h' }:=fun its r' hz h' c' kp e=>
  ⟨.ref s.heap.objs.size,_,I.laid (t':=s.toks) kp (Nat.le_refl _) (show ObjOk X.prog X.w _ h' _ (.lst ys) from ⟨hz,its,c',r',e⟩),rfl,q _ (I.hok.fresh (Nat.le_refl _))⟩
 rcases hq with hq|hq
 ·obtain ⟨its,r',pl,hz⟩:=I.list hq
  have hlen:=r'.length;obtain ⟨o,ho,hc,n,hd⟩:=pl.isList;exact call_list_seq p (.inl rfl) ho hc hd (fun h' c' kp e=>fin its r' hz h' c' kp e) (by simp only [List.size_toArray]<;>lia)
 ·obtain ⟨its,r',pl,hz⟩:=I.tuple hq
  have hlen:=r'.length;obtain ⟨o,ho,hc,n,hd⟩:=pl;exact call_list_seq p (.inr rfl) ho hc hd (fun h' c' kp e=>fin its r' hz h' c' kp e) (by simp only [List.size_toArray]<;>lia)
theorem fC:cr X (.type "tuple") (fun xs H Q=>∃p ys,xs=[.ref p]/\((SqL X.K H p ys/\∀l,H l=none->Q (.ref l) (upd H l (.tup ys)))\/(gz X.K H p ys/\Q (.ref p) H))):=by
 intro pins s σ H xs us Q I r h;obtain ⟨p,ys,rfl,h⟩:=h;obtain ⟨u,rfl,rx⟩:=j3 r;cases rx;rcases h with ⟨hq,q⟩|⟨hq,q⟩
 ·obtain ⟨its,r',pl,hz⟩:=I.list hq
  have hlen:=r'.length;refine call_tuple_list pl.isList (fun h' kp=>?_) (by simp only [List.size_toArray]<;>lia)
  have I1:Inv X pins σ H { s with heap:=h' }:=I.kept (t':=s.toks) kp;have I2:Inv X pins σ (upd H h'.objs.size (.tup ys)) { s with heap:=h'.push { cls:=.type "tuple",data:=.seq its.toArray } }:=
   I1.laid (t':=s.toks) (fun b o e=>Heap.get?_push_of_some _ e) (Nat.le_refl _) (show ObjOk X.prog X.w _ _ _ (.tup ys) from ⟨hz,its,r',⟨_,Heap.get?_push_size _ rfl,⟨rfl,_,rfl⟩,rfl⟩⟩)
  exact ⟨.ref h'.objs.size,_,I2,rfl,q _ (I1.hok.fresh (Nat.le_refl _))⟩
 ·obtain ⟨its,r',pl,hz⟩:=I.tuple hq
  exact call_tuple_same pl ⟨.ref p,H,I,rfl,q⟩
def tyV(K:W.Frag)(T:String)(x:V)(H:Hp):Prop:=match x with
 |.str _=>T="str"
 |.int _=>T="int"
 |.ref p=>(T="list"/\∃xs,SqL K H p xs)\/(T="tuple"/\∃o,K.lookup p=some o/\o.cls=.type "tuple"/\o.dict=none)\/
   (T="dict"/\((∃kvs,H p=some (.dK kvs))\/∃kvs,H p=some (.dT kvs)))\/(T="set"/\∃S n,H p=some (.set S n))
 |_=>False
theorem A0{pins:List (Addr×Obj)}{σ:St}{H:Hp}{s:Shared}{T:String}{x:V}{v:Value}(I:Inv X pins σ H s)(r:RelV x v)(ty:tyV X.K T x H):
  s.TypeIs v T/\∀a,v=.ref a->∃ob,s.heap.get? a=some ob/\ob.dict=none:=by
 cases x with
 |str z=>
  obtain ⟨t,rfl⟩:=r;cases (show T="str" from ty);exact ⟨typeIs_str s z t,fun _ e=>nomatch e⟩
 |int i=>
  obtain ⟨t,rfl⟩:=r;cases (show T="int" from ty);exact ⟨typeIs_int s i t,fun _ e=>nomatch e⟩
 |ref p=>
  cases r;rcases ty with ⟨rfl,xs,hq⟩|⟨rfl,o,hk,hc,hd⟩|⟨rfl,hk⟩|⟨rfl,S,n,hk⟩
  ·obtain ⟨its,_,pl,_⟩:=I.list hq
   refine ⟨pl.isList.typeIs,fun a e=>?_⟩;cases e;obtain ⟨o,n,e,c,hd,_⟩:=pl;exact ⟨o,e,hd⟩
  ·refine ⟨⟨o,I.kIn p o hk,hc⟩,fun a e=>?_⟩
   cases e;exact ⟨o,I.kIn _ o hk,hd⟩
  ·have z:∃o,s.heap.get? p=some o/\o.ExactDict:=by
    rcases hk with ⟨kvs,hk⟩|⟨kvs,hk⟩
    ·obtain ⟨_,_,_,_,o,_,_,e,ex,_⟩:=I.hok p _ hk
     exact ⟨o,e,ex⟩
    ·obtain ⟨_,_,_,_,o,_,_,e,ex,_⟩:=I.hok p _ hk
     exact ⟨o,e,ex⟩
   obtain ⟨o,e,ex⟩:=z;refine ⟨⟨o,e,ex.1⟩,fun a e2=>?_⟩;cases e2;exact ⟨o,e,ex.2.1⟩
  ·obtain ⟨o,_,_,_,e,ex,_⟩:=I.hok p _ hk
   refine ⟨⟨o,e,ex.1⟩,fun a e2=>?_⟩;cases e2;exact ⟨o,e,ex.2.1⟩
 |_=>exact False.elim ty
def tBM(K:W.Frag)(T:String)(r:V->List V->Hp->VK->Prop)(to:TE)(t:TA):TE:=fun σ H Q=>to σ H fun x H1=>tyV K T x H1/\t σ H1 fun xs H2=>r x xs H2 Q
variable {o e:Expr}{es:List Expr}{to:TE}{t:TA}{name:Str}{apos cpos:Pos}{T id:String}{r:V->List V->Hp->VK->Prop}
theorem Ea(pa:PlainAttrs T)(slot:Slot T name id)(hty:typeOf (.builtin id)=pure (.type "method_descriptor"))(hm:zT X id r)(ho:PE X o to)(ha:PA X (e::es) t)
  (hbase:attributeBase o name X.env (eval o X.env)=eval o X.env:=by rfl)
  (hfew:((backTo cpos (starEach (e::es) X.env)).all (fun x=>!x.1)&&(backToKw cpos (keywordEach [] X.env)).all (fun x=>x.1.isSome)
   && decide ((e::es).length+([]:List Keyword).length+(if ([]:List Keyword).isEmpty then 0 else 1)<30))=true:=by rfl)
  (hline:(apos.endLine==cpos.line)=true:=by rfl) (hs:starEach (e::es) X.env=(false,eval e X.env)::starEach es X.env:=by rfl) (hplain:(backTo cpos (starEach es X.env)).any (·.1)=false:=by rfl):
  PE X (.Call (.Attribute o name apos) (e::es) [] cpos) (tBM X.K T r to t):=by
 intro pins s σ H Q I h;refine wpAny_Call_method_late hbase hfew hline rfl (thn (ho pins s σ H _ I h) fun v s1 ⟨x,H1,I1,r1,ty,q1⟩=>?_);obtain ⟨h1,h2⟩:=A0 I1 r1 ty;refine ⟨T,id,pa,slot,hty,h1,h2,?_⟩;have hA:=ha cpos pins s1 σ H1 _ I1 q1;rw [hs] at hA ⊢;refine Calls.callWith_builtin (by show (false||(backTo cpos (starEach es X.env)).any (·.1))=false;rw [hplain]<;>rfl) (Calls.evalArgs_plain ?_)
 exact thn hA fun us s2 ⟨vs,H2,I2,r2,q2⟩=>hm pins s2 σ H2 x vs v us Q I2 r1 r2 q2
end
end L2
namespace L2
open PySem PySem.Spec PyProof.Rows
def MtM(X:Cx)(id:String)(r:V->List V->Hp->VK->Prop):Prop:=
 ∀(pins:List (Addr×Obj)) (s:Shared) (σ:St) (H:Hp) (x:V) (xs:List V) (v:Value) (us:List Value) (Q:VK),Inv X pins σ H s->RelV x v->Vals xs us->r x xs H Q->
  wpAny (model X.prog X.w) X.A (call (.builtin id) (v::us)) (EP X pins σ Q) X.xe s
theorem Vals.one:∀{x:V} {us:List Value},Vals [x] us->∃u,us=[u]/\RelV x u
 |_,_,h=>by cases h with|cons r q=>cases q;exact ⟨_,rfl,r⟩
theorem Vals.two:∀{x y:V} {us:List Value},Vals [x,y] us->∃u v,us=[u,v]/\RelV x u/\RelV y v
 |_,_,_,h=>by cases h with|cons r q=>cases q with|cons q z=>cases z;exact ⟨_,_,rfl,r,q⟩
theorem Vals.zero:∀{us:List Value},Vals [] us->us=[]
 |_,.nil=>rfl
theorem Vals.rep{xs:List V}{us:List Value}(h:Vals xs us):∀k:Nat,Vals (List.replicate k xs).flatten (List.replicate k us).flatten
 |0=>.nil
 |k+1=>by
  rw [List.replicate_succ,List.replicate_succ,List.flatten_cons,List.flatten_cons];exact Vals.append h (Vals.rep h k)
theorem ku(its:List Value):∀(k:Nat) (acc:List Value),
  List.foldl (fun x1 x2=>x1++x2) acc.toArray (List.replicate k its.toArray)=(acc++(List.replicate k its).flatten).toArray
 |0,acc=>by simp
 |k+1,acc=>by
  have e:acc.toArray++its.toArray=(acc++its).toArray:=by simp
  have e2:(acc++its)++(List.replicate k its).flatten=acc++(List.replicate (k+1) its).flatten:=by
   rw [List.replicate_succ,List.flatten_cons,List.append_assoc]
  rw [<- e2,<- ku its k (acc++its),<- e,List.replicate_succ,List.foldl_cons]
section
variable {X:Cx}{pins:List (Addr×Obj)}{σ:St}{H:Hp}{s:Shared}{l b:Addr}{xs ys zs:List V}
theorem Inv.lset{its its':List Value}{n:Nat}{f:Array Value->Array Value}{t':Nat}(I:Inv X pins σ H s)(hH:H l=some (.lst xs))
  (e:s.heap.get? l=some { cls:=.type "list",data:=.seq its.toArray n }) (hf:f its.toArray=its'.toArray) (hv:Vals ys its') (hz:ys.length<=sizeLine):
  Inv X pins σ (upd H l (.lst ys)) { s with heap:=s.heap.update l (Obj.mapSeq f),toks:=t' }:=by
 have q:=PySem.IsL.update e f;rw [hf] at q;refine I.write (x:=l) (e:=l) (by rw [hH];exact trivial) (.inl rfl) (fun b' u hb hu=>(Heap.get?_update_other s.heap (Obj.mapSeq f) (Ne.symm hb)).trans hu) ⟨_,q⟩ ?_
 exact ⟨hz,its',_,hv,q⟩
theorem Inv.lnew{its:List Value}{t':Nat}(I:Inv X pins σ H s)(hv:Vals ys its)(hz:ys.length<=sizeLine):
  Inv X pins σ (upd H s.heap.objs.size (.lst ys)) { s with heap:=s.heap.push { cls:=.type "list",data:=.seq its.toArray },toks:=t' }:=
 I.laid (fun _ _ q=>Heap.get?_push_of_some _ q) (Nat.le_refl _) ⟨hz,its,0,hv,Heap.get?_push_size _ rfl⟩
theorem Inv.fresh(I:Inv X pins σ H s):H s.heap.objs.size=none:=I.hok.fresh (Nat.le_refl _)
theorem Inv.lstM(I:Inv X pins σ H s)(hH:H l=some (.lst xs)):xs.length<=sizeLine/\∃(its:List Value) (n:Nat),Vals xs its/\xs.length=its.length/\s.heap.get? l=some { cls:=.type "list",data:=.seq its.toArray n }:=by
 obtain ⟨z,its,n,r,e⟩:=I.hok l _ hH;exact ⟨z,its,n,r,r.length,e⟩
theorem l_{n:Nat}(h:n<=sizeLine):Builtin.List.listTooLong n=false:=by
 unfold Builtin.List.listTooLong;exact decide_eq_false (by lia)
end
section
variable {X:Cx}
def wN:V->List V->Hp->VK->Prop:=fun x vs H Q=>∃l xs y,x=.ref l/\vs=[y]/\H l=some (.lst xs)/\xs.length<sizeLine/\Q .non (upd H l (.lst (xs++[y])))
theorem sV:MtM X "list.append" wN:=by
 intro pins s σ H x vs v us Q I rx rv h;obtain ⟨l,xs,y,rfl,rfl,hH,hz,q⟩:=h;cases rx;obtain ⟨u,rfl,ru⟩:=rv.one;obtain ⟨z,its,n,r,hl,e⟩:=I.lstM hH;refine call_meets F.slot_list_append ⟨_,e,rfl⟩ F.entry_list_append (F.args_list_append_2 _ _) (PySem.list_append l its.toArray n u (by rw [List.size_toArray];lia)) ⟨e,?_⟩
 refine ⟨.non,_,I.lset (its':=its++[u]) hH e (by simp) (r.append (.cons ru .nil)) ?_,rfl,q⟩
 rw [List.length_append,List.length_singleton];lia
def rRep:R2:=fun x y H Q=>∃l k xs,x=.ref l/\y=.int k/\H l=some (.lst xs)/\-(2 ^ 63)<=k/\k<2 ^ 63/\xs.length*k.toNat<=sizeLine/\
 ∀p,H p=none->Q (.ref p) (upd H p (.lst (List.replicate k.toNat xs).flatten))
theorem qh{α:Type}(xs:List α)(k:Nat):(List.replicate k xs).flatten.length=k*xs.length:=by
 induction k with
 |zero=>simp
 |succ k ih=>rw [List.replicate_succ,List.flatten_cons,List.length_append,ih,Nat.succ_mul,Nat.add_comm]
theorem Br:da X (binaryOp .Mult) rRep:=by
 intro pins s σ H x y v u Q I rx ry h;obtain ⟨l,k,xs,rfl,rfl,hH,h1,h2,hz,q⟩:=h;cases rx;obtain ⟨t,rfl⟩:=ry;obtain ⟨z,its,n,r,hl,e⟩:=I.lstM hH;have hlen:its.toArray.size*k.toNat<=sizeLine:=by rw [List.size_toArray,<- hl];exact hz
 have hcap:¬its.toArray.size*k.toNat>(2 ^ 63-1) / 8:=by
  have:(sizeLine:Nat)<=(2 ^ 63-1) / 8:=by decide
  lia
 have hfit:¬(!Builtin.List.listFitsIndex k)=true:=by
  rw [fitsIndex_both h1 h2];exact Bool.false_ne_true
 have hlong:¬Builtin.List.listTooLong (its.toArray.size*k.toNat)=true:=by
  rw [l_ hlen];exact Bool.false_ne_true
 have hnew:List.foldl (fun x1 x2=>x1++x2) #[] (List.replicate (if its.toArray.isEmpty=true then 0 else k.toNat) its.toArray)=(List.replicate k.toNat its).flatten.toArray:=by
  have f0:∀m:Nat,List.foldl (fun x1 x2=>x1++x2) #[] (List.replicate m its.toArray)=(List.replicate m its).flatten.toArray:=fun m=>by
   have:=ku its m [];rw [List.nil_append] at this;exact this
  rw [f0];cases its with
  |nil=>simp
  |cons a r'=>rw [if_neg (by simp)]
 refine wpAny_binaryOp_repeat_ref (T:="list") (U:="int") (by decide) ⟨_,e,rfl⟩ (fun s'=>typeIs_int s' k t) noFill_list_mul F.fills_int_mul F.slot_int_rmul repeat_list F.slot_int_index.lookup
  (call_meets F.slot_int_rmul (typeIs_int s k t) F.entry_int_rmul (F.args_int_rmul_2 _ _) (int___rmul___int_list k t l its.toArray n)
   ⟨e,rfl,⟨_,e,rfl⟩,call_meets F.slot_list_mul ⟨_,e,rfl⟩ F.entry_list_mul (F.args_list_mul_2 _ _) (AutoListH.list___mul___list_int_3 l its.toArray n k t hfit hcap hlong) ⟨e,?_⟩⟩)
 rw [hnew];exact ⟨.ref _,_,I.lnew (t':=s.toks) (r.rep k.toNat) (by rw [qh,Nat.mul_comm];exact hz),rfl,q _ I.fresh⟩
end
section
variable {prog:Program}{w:World}{A:Around}{E:Value->Shared->Prop}{s:Shared}
set_option maxRecDepth 100000 in
end
section
variable {X:Cx}
end
end L2
namespace L2
open PySem PySem.Spec PyProof.Rows
section
variable {κ:Type}[DecidableEq κ]
def fw(kvs:List (κ×V))(k:κ):Option V:=(kvs.find? fun kv=>decide (kv.1=k)).map (·.2)
def cE(kvs:List (κ×V))(k:κ)(v:V):List (κ×V):=
 if (kvs.any fun kv=>decide (kv.1=k))=true then kvs.map (fun kv=>if kv.1=k then (kv.1,v) else kv) else kvs++[(k,v)]
theorem ju{p:κ×V}{r:List (κ×V)}{k:κ}(e:p.1=k):fw (p::r) k=some p.2:=by simp [fw,List.find?_cons,e]
theorem iW{p:κ×V}{r:List (κ×V)}{k:κ}(e:¬p.1=k):fw (p::r) k=fw r k:=by simp [fw,List.find?_cons,e]
theorem mz(k:κ):∀kvs:List (κ×V),(kvs.any fun kv=>decide (kv.1=k))=(fw kvs k).isSome
 |[]=>rfl
 |p::r=>by
  rw [List.any_cons]
  by_cases e:p.1=k
  ·simp only [ju e,decide_eq_true e,Bool.true_or,Option.isSome_some]
  ·rw [iW e,decide_eq_false e,Bool.false_or];exact mz k r
theorem dq(kvs:List (κ×V))(k:κ)(v:V):(cE kvs k v).length<=kvs.length+1:=by
 unfold cE
 split
 ·rw [List.length_map];lia
 ·rw [List.length_append,List.length_cons,List.length_nil];lia
theorem RelO.isSome_eq{o:Option V}{u:Option Value}(r:RelO o u):o.isSome=u.isSome:=by
 cases o with
 |none=>cases u with
  |none=>rfl
  |some _=>exact (show False from r).elim
 |some _=>cases u with
  |none=>exact (show False from r).elim
  |some _=>rfl
theorem KV.val{kvs:List (κ×V)}{vs:List (κ×Value)}(r:KV kvs vs)(k:κ):RelO (fw kvs k) (valueAt vs k):=by
 unfold KV at r
 induction r with
 |nil=>exact True.intro
 |@cons p q ps qs h t ih=>
  obtain ⟨h1,h2⟩:=h
  by_cases e:p.1=k
  ·have e':q.1=k:=h1.symm.trans e
   have b:valueAt (q::qs) k=some q.2:=by simp [valueAt,List.find?_cons,e']
   rw [ju e,b];exact h2
  ·have e':¬q.1=k:=fun z=>e (h1.trans z)
   have b:valueAt (q::qs) k=valueAt qs k:=by simp [valueAt,List.find?_cons,e']
   rw [iW e,b];exact ih
theorem KV.any{kvs:List (κ×V)}{vs:List (κ×Value)}(r:KV kvs vs)(k:κ):(kvs.any fun kv=>decide (kv.1=k))=vs.any fun kv=>decide (kv.1=k):=by
 unfold KV at r
 induction r with
 |nil=>rfl
 |cons h t ih=>rw [List.any_cons,List.any_cons,ih,h.1]
theorem KV.repl{kvs:List (κ×V)}{vs:List (κ×Value)}(r:KV kvs vs)(k:κ){y:V}{u:Value}(ry:RelV y u):
  KV (kvs.map fun kv=>if kv.1=k then (kv.1,y) else kv) (vs.map fun kv=>if kv.1=k then (kv.1,u) else kv):=by
 unfold KV at r ⊢
 induction r with
 |nil=>exact .nil
 |@cons p q ps qs h t ih=>
  rw [List.map_cons,List.map_cons];refine .cons ?_ ih;obtain ⟨h1,h2⟩:=h
  by_cases e:p.1=k
  ·rw [if_pos e,if_pos (h1.symm.trans e)];exact ⟨h1,ry⟩
  ·rw [if_neg e,if_neg (fun z=>e (h1.trans z))];exact ⟨h1,h2⟩
theorem KV.put{kvs:List (κ×V)}{vs:List (κ×Value)}(r:KV kvs vs)(k:κ){y:V}{u:Value}(ry:RelV y u):KV (cE kvs k y) (stored vs k u):=by
 unfold cE stored;rw [r.any k]
 by_cases e:(vs.any fun kv=>decide (kv.1=k))=true
 ·rw [if_pos e,if_pos e];exact r.repl k ry
 ·rw [if_neg e,if_neg e];exact Paired.snoc r ⟨rfl,ry⟩
theorem KV.length{kvs:List (κ×V)}{vs:List (κ×Value)}(r:KV kvs vs):kvs.length=vs.length:=Paired.length r
end
theorem iZ{P:Program}{w:World}{k:aT}{u:Value}(r:RelV (kV k) u):(bz P w).is k u=true:=by
 cases k with
 |inl i=>obtain ⟨t,e⟩:=(show ∃t,u=Value.int i t from r);subst e;exact nw P w i t
 |inr x=>obtain ⟨t,e⟩:=(show ∃t,u=Value.str x t from r);subst e;exact nW P w x t
theorem jS{P:Program}{w:World}:∀{ks:List aT} {us:List Value},Vals (ks.map kV) us->ItemsAre (bz P w) ks us
 |[],_,r=>by rw [List.map_nil] at r;cases r;exact .nil
 |k::ks,_,r=>by
  rw [List.map_cons] at r;cases r with
  |cons h t=>exact .cons (iZ h) (jS t)
abbrev KT(H:Hp):List (List aT×V)->List (List aT×Addr×Value)->Prop:=Paired fun p q=>p.1=q.1/\H q.2.1=some (.tup (p.1.map kV))/\RelV p.2 q.2.2
theorem KT.val{H:Hp}{kvs:List (List aT×V)}{xs:List (List aT×Addr×Value)}(r:KT H kvs xs)(k:List aT):RelO (fw kvs k) ((atKey xs k).map (·.2)):=by
 induction r with
 |nil=>exact True.intro
 |@cons p q ps qs h t ih=>
  obtain ⟨h1,_,h2⟩:=h
  by_cases e:p.1=k
  ·have e':q.1=k:=h1.symm.trans e
   have b:atKey (q::qs) k=some q.2:=by simp [atKey,List.find?_cons,e']
   rw [ju e,b];exact h2
  ·have e':¬q.1=k:=fun z=>e (h1.trans z)
   have b:atKey (q::qs) k=atKey qs k:=by simp [atKey,List.find?_cons,e']
   rw [iW e,b];exact ih
theorem KT.repl{H:Hp}{kvs:List (List aT×V)}{xs:List (List aT×Addr×Value)}(r:KT H kvs xs)(k:List aT){y:V}{u:Value}(ry:RelV y u):
  KT H (kvs.map fun kv=>if kv.1=k then (kv.1,y) else kv) (xs.map (putAt k u)):=by
 induction r with
 |nil=>exact .nil
 |@cons p q ps qs h t ih=>
  rw [List.map_cons,List.map_cons];refine .cons ?_ ih;obtain ⟨h1,h2,h3⟩:=h;unfold putAt
  by_cases e:p.1=k
  ·rw [if_pos e,if_pos (h1.symm.trans e)];exact ⟨h1,h2,ry⟩
  ·rw [if_neg e,if_neg (fun z=>e (h1.trans z))];exact ⟨h1,h2,h3⟩
theorem KT.put{H:Hp}{kvs:List (List aT×V)}{xs:List (List aT×Addr×Value)}(r:KT H kvs xs)(k:List aT){b:Addr}{y:V}{u:Value}(hb:H b=some (.tup (k.map kV)))(ry:RelV y u):
  KT H (cE kvs k y) (storedH xs k b u):=by
 have e:(kvs.any fun kv=>decide (kv.1=k))=(atKey xs k).isSome:=by
  rw [mz,(r.val k).isSome_eq,Option.isSome_map]
 unfold cE storedH;rw [e]
 by_cases q:(atKey xs k).isSome=true
 ·rw [if_pos q,if_pos q];exact r.repl k ry
 ·rw [if_neg q,if_neg q];exact Paired.snoc r ⟨rfl,hb,ry⟩
theorem KT.keeps{H H':Hp}{kvs:List (List aT×V)}{xs:List (List aT×Addr×Value)}(r:KT H kvs xs)(ht:∀b ys,H b=some (.tup ys)->H' b=some (.tup ys)):KT H' kvs xs:=
 dw r fun _ _ z=>⟨z.1,ht _ _ z.2.1,z.2.2⟩
section
variable {P:Program}{w:World}{H:Hp}{h:Heap}{a:Addr}
theorem zP{u:HO}(ok:HOk P w H h)(e:Rd H a u):ObjOk P w H h a u:=e.ok ok
theorem jQ{kvs:List (aT×V)}(ok:HOk P w H h)(e:Rd H a (.dK kvs)):kvs.length<=sizeLine/\(a==sysModules)=false/\∃vs,KV kvs vs/\h.DictOf (bz P w) a vs:=
 show ObjOk P w H h a (.dK kvs) from zP ok e
theorem zR{kvs:List (aT×V)}(ok:HOk P w H h)(e:H a=some (.dK kvs)):kvs.length<=sizeLine/\(a==sysModules)=false/\∃vs,KV kvs vs/\h.DictOf (bz P w) a vs:=jQ ok (.inl e)
theorem iM{ks:List aT}(ok:HOk P w H h)(e:H a=some (.tup (ks.map kV))):(tupleKind (bz P w)).is h ks a:=by
 obtain ⟨_,its,r,o,h1,⟨h2,n,h3⟩,_⟩:=(show ObjOk P w H h a (.tup (ks.map kV)) from ok a _ e);exact ⟨o,its.toArray,n,h1,h2,h3,by simpa using jS r⟩
theorem mh{kvs:List (List aT×V)}(ok:HOk P w H h)(e:Rd H a (.dT kvs)):kvs.length<=sizeLine/\(a==sysModules)=false/\
  ∃xs,KT H kvs xs/\h.DictOfH (tupleKind (bz P w)) a xs:=by
 obtain ⟨z,y,xs,r,o,es,ep,h1,h2,h3,h4,h5⟩:=(show ObjOk P w H h a (.dT kvs) from zP ok e);refine ⟨z,y,xs,r,o,es,ep,h1,h2,h3,h4,fun x hx=>?_,h5⟩;have all:∀{l:List (List aT×V)} {m:List (List aT×Addr×Value)},KT H l m->∀x∈m,(tupleKind (bz P w)).is h x.1 x.2.1:=by
  intro l m q
  induction q with
  |nil=>intro x hx;exact nomatch hx
  |@cons p q ps qs hq t ih=>
   intro x hx;rcases List.mem_cons.mp hx with e|hx
   ·subst e
    exact iM ok (by rw [<- hq.1];exact hq.2.1)
   ·exact ih x hx
 exact all r x hx
theorem Db{kvs:List (List aT×V)}(ok:HOk P w H h)(e:H a=some (.dT kvs)):kvs.length<=sizeLine/\(a==sysModules)=false/\
  ∃xs,KT H kvs xs/\h.DictOfH (tupleKind (bz P w)) a xs:=mh ok (.inl e)
end
def DGet(H:Hp)(a:Addr)(y:V)(r:Option V):Prop:=
 (∃kvs k,Rd H a (.dK kvs)/\y=kV k/\r=fw kvs k)\/∃kvs k b,Rd H a (.dT kvs)/\y=.ref b/\H b=some (.tup (k.map kV))/\r=fw kvs k
def DPut(H:Hp)(a:Addr)(y v:V)(H':Hp):Prop:=
 (∃kvs k,H a=some (.dK kvs)/\y=kV k/\kvs.length<sizeLine/\H'=upd H a (.dK (cE kvs k v)))\/
 ∃kvs k b,H a=some (.dT kvs)/\y=.ref b/\H b=some (.tup (k.map kV))/\kvs.length<sizeLine/\H'=upd H a (.dT (cE kvs k v))
theorem wx{H:Hp}{a:Addr}{kvs:List (aT×V)}{k:aT}(e:H a=some (.dK kvs)):DGet H a (kV k) (fw kvs k):=.inl ⟨kvs,k,.inl e,rfl,rfl⟩
theorem DGet.t{H:Hp}{a b:Addr}{kvs:List (List aT×V)}{k:List aT}(e:H a=some (.dT kvs))(eb:H b=some (.tup (k.map kV))):DGet H a (.ref b) (fw kvs k):=.inr ⟨kvs,k,b,.inl e,rfl,eb,rfl⟩
theorem Cm{H:Hp}{a:Addr}{kvs:List (aT×V)}{k:aT}{v:V}(e:H a=some (.dK kvs))(hl:kvs.length<sizeLine):DPut H a (kV k) v (upd H a (.dK (cE kvs k v))):=.inl ⟨kvs,k,e,rfl,hl,rfl⟩
theorem DPut.t{H:Hp}{a b:Addr}{kvs:List (List aT×V)}{k:List aT}{v:V}(e:H a=some (.dT kvs))(eb:H b=some (.tup (k.map kV)))(hl:kvs.length<sizeLine):
  DPut H a (.ref b) v (upd H a (.dT (cE kvs k v))):=.inr ⟨kvs,k,b,e,rfl,eb,hl,rfl⟩
section
variable {X:Cx}{pins:List (Addr×Obj)}{σ:St}{H:Hp}{s:Shared}{a:Addr}{y v:V}{u r:Value}{o:Option V}{A:Around}{E:Value->Shared->Prop}
theorem Inv.big(I:Inv X pins σ H s):sysModules<s.heap.objs.size:=by
 have h:mainGlobals<s.heap.objs.size:=(I.mod.glob.keeps I.bk).lt;exact Nat.lt_trans (by decide) h
theorem ss{Q:Value->Shared->Prop}(hu:A.units+1<cLine)(I:Inv X pins σ H s)(g:DGet H a y (some v))(ry:RelV y u)(h:∀w' s',Inv X pins σ H s'->RelV v w'->Q w' s'):
  wpAny (model X.prog X.w) A (getItem (.ref a) u) Q E s:=by
 rcases g with ⟨kvs,k,e,ey,l⟩|⟨kvs,k,b,e,ey,eb,l⟩
 ·subst ey
  obtain ⟨z,hd,vs,rel,dd⟩:=jQ I.hok e;obtain ⟨w',hw,rw'⟩:=eB (v:=v) (o:=valueAt vs k) (by rw [l];exact rel.val k)
  exact wpAny_getItem_of (iZ ry) dd.mapOf hw (h w' _ (I.tok _) rw')
 ·subst ey
  cases (show u=Value.ref b from ry);obtain ⟨z,hd,xs,rel,dd⟩:=mh I.hok e;obtain ⟨w',hw,rw'⟩:=eB (v:=v) (o:=(atKey xs k).map (·.2)) (by rw [l];exact rel.val k)
  obtain ⟨p,hp,hp2⟩:=Option.map_eq_some_iff.mp hw;refine wpAny_getItem_heap (tupleKind_room_in1 hu) (iM I.hok eb) dd hp ?_;rw [hp2];exact h w' _ (I.tok _) rw'
theorem DN{Q:Value->Shared->Prop}(hu:A.units+1<cLine)(I:Inv X pins σ H s)(g:DGet H a y o)(ry:RelV y u)(h:∀s',Inv X pins σ H s'->Q (.bool o.isSome) s'):
  wpAny (model X.prog X.w) A (compareOp .In u (.ref a)) Q E s:=by
 rcases g with ⟨kvs,k,e,ey,l⟩|⟨kvs,k,b,e,ey,eb,l⟩
 ·subst ey
  obtain ⟨z,hd,vs,rel,dd⟩:=jQ I.hok e;refine wpAny_in_of (iZ ry) hd dd.mapOf ?_;rw [<- (rel.val k).isSome_eq,<- l];exact h _ (I.tok _)
 ·subst ey
  cases (show u=Value.ref b from ry);obtain ⟨z,hd,xs,rel,dd⟩:=mh I.hok e;refine wpAny_in_heap (tupleKind_room_in1 hu) (iM I.hok eb) hd dd ?_;have q:=(rel.val k).isSome_eq;rw [Option.isSome_map] at q;rw [<- q,<- l];exact h _ (I.tok _)
theorem pY{Q:Value->Shared->Prop}(hu:A.units+1<cLine)(I:Inv X pins σ H s)(g:DGet H a y o)(ry:RelV y u)(h:∀s',Inv X pins σ H s'->Q (.bool (!o.isSome)) s'):
  wpAny (model X.prog X.w) A (compareOp .NotIn u (.ref a)) Q E s:=by
 rcases g with ⟨kvs,k,e,ey,l⟩|⟨kvs,k,b,e,ey,eb,l⟩
 ·subst ey
  obtain ⟨z,hd,vs,rel,dd⟩:=jQ I.hok e;refine wpAny_notIn_of (iZ ry) hd dd.mapOf ?_;rw [<- (rel.val k).isSome_eq,<- l];exact h _ (I.tok _)
 ·subst ey
  cases (show u=Value.ref b from ry);obtain ⟨z,hd,xs,rel,dd⟩:=mh I.hok e;refine wpAny_notIn_heap (tupleKind_room_in1 hu) (iM I.hok eb) hd dd ?_;have q:=(rel.val k).isSome_eq;rw [Option.isSome_map] at q;rw [<- q,<- l];exact h _ (I.tok _)
theorem lF{h':Heap}{t':Nat}{ob:HO}(I:Inv X pins σ H s)(mu:Es (H a))(hs:Heap.SameBut a s.heap h')(he:∃q,h'.get? a=some q)(new:ObjOk X.prog X.w (upd H a ob) h' a ob):
  Inv X pins σ (upd H a ob) { s with heap:=h',toks:=t' }:=
 I.write (x:=a) (e:=a) mu (.inl rfl) (fun b q hb z=>(hs.2 b hb).trans z) he new
theorem oN{P:Program}{w:World}{H':Hp}{h':Heap}{kvs:List (aT×V)}{vs:List (aT×Value)}(z:kvs.length<=sizeLine)(hd:(a==sysModules)=false)(rel:KV kvs vs)(dd:h'.DictOf (bz P w) a vs):
  ObjOk P w H' h' a (.dK kvs):=⟨z,hd,vs,rel,dd⟩
theorem kb{H':Hp}{Q:Unit->Shared->Prop}(hu:A.units+1<cLine)(I:Inv X pins σ H s)(g:DPut H a y v H')(ry:RelV y u)(rv:RelV v r)(h:∀s',Inv X pins σ H' s'->Q () s'):
  wpAny (model X.prog X.w) A (setItem (.ref a) u r) Q E s:=by
 rcases g with ⟨kvs,k,e,ey,l,eH⟩|⟨kvs,k,b,e,ey,eb,l,eH⟩
 ·subst ey eH
  obtain ⟨z,hd,vs,rel,dd⟩:=zR I.hok e;have hz:vs.length<=sizeLine:=by rw [<- rel.length];exact z
  have hl:(cE kvs k v).length<=sizeLine:=by have:=dq kvs k v;lia
  refine wpAny_setItem_pairs (hsz:=hz) (iZ ry) dd fun h' dd' hs=>h _ ?_;have he:∃q,h'.get? a=some q:=let ⟨q,_,_,hq,_⟩:=dd';⟨q,hq⟩;exact lF I (by rw [e];exact True.intro) hs he (oN hl hd (rel.put k rv) dd')
 ·subst ey eH
  cases (show u=Value.ref b from ry);obtain ⟨z,hd,xs,rel,dd⟩:=Db I.hok e;have hz:xs.length<=sizeLine:=by rw [<- Paired.length rel];exact z
  have hl:(cE kvs k v).length<=sizeLine:=by have:=dq kvs k v;lia
  refine wpAny_setItem_heap (hsz:=hz) (tupleKind_room_in1 hu) (iM I.hok eb) dd fun h' dd' hs=>h _ ?_;obtain ⟨q,es,ep,hq,h2,h3,h4,_,h5⟩:=dd';refine lF I (by rw [e];exact True.intro) hs ⟨q,hq⟩ ⟨hl,hd,_,(rel.put k eb rv).keeps fun c ys ec=>?_,q,es,ep,hq,h2,h3,h4,h5⟩
  rw [upd_ne (CK ec e (fun z=>nomatch z))];exact ec
end
section
variable {X:Cx}{pins:List (Addr×Obj)}{σ:St}{H:Hp}{s:Shared}{a:Addr}{kvs:List (aT×V)}{k:aT}{u:Value}{A:Around}{E:Value->Shared->Prop}
theorem De{Q:Value->Shared->Prop}(I:Inv X pins σ H s)(e:Rd H a (.dK kvs))(h:∀t s',Inv X pins σ H s'->Q (.int kvs.length t) s'):wpAny (model X.prog X.w) A (call (.builtin "len") [.ref a]) Q E s:=by
 obtain ⟨z,hd,vs,rel,dd⟩:=jQ I.hok e;refine call_len_dict hd dd (by rw [<- rel.length];rw [sizeLine_eq] at z;lia) ?_
 rw [<- rel.length];exact h _ _ (I.tok _)
end
theorem nM{X:Cx}{pins:List (Addr×Obj)}{σ:St}{H:Hp}{s:Shared}{a:Addr}{y:V}{o:Option V}(I:Inv X pins σ H s)(g:DGet H a y o):s.TypeIs (.ref a) "dict":=by
 rcases g with ⟨kvs,k,e,_,_⟩|⟨kvs,k,b,e,_,_,_⟩
 ·obtain ⟨_,_,vs,_,dd⟩:=jQ I.hok e
  exact dd.typeIs
 ·obtain ⟨_,_,xs,_,dd⟩:=mh I.hok e
  exact dd.typeIs
section
variable {X:Cx}{o i e value:Expr}{pos pos' tpos:Pos}{td ty tv:TE}
end
theorem u_{P:Program}{w:World}{H:Hp}(h:Heap)(hb:sysModules<h.objs.size):ObjOk P w H (h.push { cls:=.type "dict",data:=.dict #[] }) h.objs.size (.dK []):=
 ⟨Nat.zero_le _,beq_eq_false_iff_ne.mpr (Ne.symm (Nat.ne_of_lt hb)),[],.nil,Heap.DictOf.new h⟩
theorem vd{P:Program}{w:World}{H:Hp}(h:Heap)(hb:sysModules<h.objs.size):ObjOk P w H (h.push { cls:=.type "dict",data:=.dict #[] }) h.objs.size (.dT []):=
 ⟨Nat.zero_le _,beq_eq_false_iff_ne.mpr (Ne.symm (Nat.ne_of_lt hb)),[],.nil,_,#[],0,Heap.get?_push_size _ rfl,⟨rfl,rfl,rfl⟩,rfl,rfl,List.nodup_nil⟩
def C7:TE:=fun _ H Q=>∀p,H p=none->Q (.ref p) (upd H p (.dT []))
section
variable {X:Cx}{pos:Pos}
theorem uY:PE X (.Dict [] [] pos) C7:=fun pins s σ H Q I h=>
 wpAny_Dict_empty ⟨.ref s.heap.objs.size,_,I.laid (a:=s.heap.objs.size) (o:=.dT []) (t':=s.toks) (fun _ _ q=>Heap.get?_push_of_some _ q) (Nat.le_refl _) (vd s.heap I.big),rfl,h _ (I.hok.fresh (Nat.le_refl _))⟩
end
def lf:List (TE×TE)->St->Hp->(List (V×V)->Hp->Prop)->Prop
 |[],_,H,Q=>Q [] H
 |(tk,tv)::r,σ,H,Q=>tk σ H fun x H1=>tv σ H1 fun y H2=>lf r σ H2 fun ps H3=>Q ((x,y)::ps) H3
abbrev VV:List (V×V)->List (Value×Value)->Prop:=Paired fun p q=>RelV p.1 q.1/\RelV p.2 q.2
def zG(X:Cx)(pos:Pos)(keys:List (Option Expr))(values:List Expr)(trs:List (TE×TE)):Prop:=
 ∀(pins:List (Addr×Obj)) (s:Shared) (σ:St) (H:Hp) (Q:List (V×V)->Hp->Prop),Inv X pins σ H s->lf trs σ H Q->
  wpAny (model X.prog X.w) X.A (evalPairs (pairTrees keys values X.env pos)) (fun vs s'=>∃ps H',Inv X pins σ H' s'/\VV ps vs/\Q ps H') X.xe s
theorem yP{X:Cx}{pos:Pos}:zG X pos [] [] []:=fun pins s σ H Q I h=>pairTrees_nil_walk ⟨[],H,I,.nil,h⟩
theorem tm{X:Cx}{pos:Pos}{k v:Expr}{ks:List (Option Expr)}{vs:List Expr}{tk tv:TE}{trs:List (TE×TE)}(hk:PE X k tk)(hv:PE X v tv)(hr:zG X pos ks vs trs):
  zG X pos (some k::ks) (v::vs) ((tk,tv)::trs):=fun pins s σ H Q I h=>
 pairTrees_cons_walk (thn (hk pins s σ H _ I h) fun u s1 ⟨x,H1,I1,rx,q1⟩=>thn (hv pins s1 σ H1 _ I1 q1) fun w2 s2 ⟨y,H2,I2,ry,q2⟩=>
  thn (hr pins s2 σ H2 _ I2 q2) fun ws s3 ⟨ps,H3,I3,rel,q3⟩=>⟨(x,y)::ps,H3,I3,.cons ⟨rx,ry⟩ rel,q3⟩)
def fN(kvs more:List (aT×V)):List (aT×V):=more.foldl (fun acc kv=>cE acc kv.1 kv.2) kvs
theorem KV.merge:∀{more:List (aT×V)} {rs:List (aT×Value)} {kvs:List (aT×V)} {vs:List (aT×Value)},KV more rs->KV kvs vs->KV (fN kvs more) (merged vs rs):=by
 intro more rs kvs vs r;unfold KV at r
 induction r generalizing kvs vs with
 |nil=>intro q;exact q
 |@cons p q ps qs h t ih=>
  intro r0;have e:KV (cE kvs p.1 p.2) (stored vs q.1 q.2):=by
   have:=r0.put p.1 h.2;rw [<- h.1];exact this
  exact ih e
theorem fA:∀(more kvs:List (aT×V)),(fN kvs more).length<=kvs.length+more.length
 |[],kvs=>by show kvs.length<=kvs.length+0;lia
 |p::r,kvs=>by
  have h1:=fA r (cE kvs p.1 p.2);have h2:=dq kvs p.1 p.2;show (fN (cE kvs p.1 p.2) r).length<=_;rw [List.length_cons];lia
theorem jg{P:Program}{w:World}:∀{kvs:List (aT×V)} {ws:List (Value×Value)},VV (kvs.map fun kv=>(kV kv.1,kv.2)) ws->∃rs,Carries (bz P w) ws rs/\KV kvs rs
 |[],_,r=>by rw [List.map_nil] at r;cases r;exact ⟨[],True.intro,.nil⟩
 |p::kvs,_,r=>by
  rw [List.map_cons] at r;cases r with
  |@cons a b as bs h t=>
   obtain ⟨rs,c,q⟩:=jg (P:=P) (w:=w) t;obtain ⟨b1,b2⟩:=b;exact ⟨(p.1,b2)::rs,⟨iZ h.1,rfl,c⟩,.cons ⟨rfl,h.2⟩ q⟩
def Ek(trs:List (TE×TE)):TE:=fun σ H Q=>∀p,H p=none->lf trs σ (upd H p (.dK [])) fun ps H2=>H2 p=some (.dK [])/\∃kvs:List (aT×V),ps=kvs.map (fun kv=>(kV kv.1,kv.2))/\kvs.length<=15/\Q (.ref p) (upd H2 p (.dK (fN [] kvs)))
theorem xD{X:Cx}{pos:Pos}{keys:List (Option Expr)}{values:List Expr}{trs:List (TE×TE)}(h:zG X pos keys values trs)(hall:keys.all (·.isSome)=true)(hl:keys.length=values.length)(h0:keys≠[])
  (h15:keys.length<=15):PE X (.Dict keys values pos) (Ek trs):=by
 intro pins s σ H Q I q;have hn:=I.hok.fresh (Nat.le_refl s.heap.objs.size);have I1:=I.laid (a:=s.heap.objs.size) (o:=.dK []) (h':=s.heap.push { cls:=.type "dict",data:=.dict #[] }) (t':=s.toks) (fun _ _ q=>Heap.get?_push_of_some _ q) (Nat.le_refl _) (u_ s.heap I.big);refine wpAny_Dict_walk (knd:=bz X.prog X.w) hall hl h0 h15 (thn (h pins _ σ _ _ I1 (q _ hn)) fun ws s2 zz=>?_);obtain ⟨ps,H2,I2,rel,e,kvs,ep,lk,q2⟩:=zz;subst ep;obtain ⟨rs,c,rk⟩:=jg (P:=X.prog) (w:=X.w) rel;obtain ⟨z,hd,vs0,r0,dd⟩:=zR I2.hok e;cases r0;refine ⟨rs,c,dd,fun h' dd' hs=>⟨.ref s.heap.objs.size,_,?_,rfl,q2⟩⟩;have hz:(fN [] kvs).length<=sizeLine:=by
  have h1:=fA kvs [];rw [List.length_nil] at h1;rw [sizeLine_eq];lia
 have he:∃q,h'.get? s.heap.objs.size=some q:=let ⟨q,_,_,hq,_⟩:=dd';⟨q,hq⟩;exact lF I2 (by rw [e];exact True.intro) hs he (oN hz hd (rk.merge .nil) dd')
section
variable {X:Cx}{pins:List (Addr×Obj)}{σ:St}{H:Hp}{s:Shared}{a:Addr}{y d:V}{u r:Value}{o:Option V}{A:Around}{E:Value->Shared->Prop}
end
section
variable {X:Cx}{o e f:Expr}{apos cpos:Pos}{td ty tx:TE}
end
section
variable {X:Cx}{pins:List (Addr×Obj)}{σ:St}{H:Hp}{s:Shared}{a:Addr}{kvs:List (aT×V)}{A:Around}{E:Value->Shared->Prop}
end
section
variable {X:Cx}{pins:List (Addr×Obj)}{σ:St}{H:Hp}{s:Shared}{a:Addr}{y:V}{u:Value}{A:Around}{E:Value->Shared->Prop}
end
end L2
namespace Att
open PySem PySem.W PySem.Calls PyProof.Rows
theorem gY{P:Params}{h:Heap}:∀(ns:List Int) (vs:List Value),WellAll P h vs (ns.map WData.int)->IntsAre vs ns:=by
 intro ns
 induction ns with
 |nil=>
  intro vs w;rw [List.map_nil] at w;cases w;exact .nil
 |cons n ns ih=>
  intro vs w;rw [List.map_cons] at w;cases w with
  |cons a b=>
   cases a;exact .cons _ _ (ih _ b)
theorem sH{l:OpenLaw}{n:Nat}(hn:l.most=some n){P:Params}{h:Heap}{args:List WData}{vals:List Value}
  (hpre:l.row.toRowW.claim.pre args=true) (hwl:WellAll P h vals args):
  ∃a vs ns,vals=[Value.ref a]/\args=[WData.list (ns.map WData.int)]/\h.get? a=some { cls:=.type "list",data:=.seq vs.toArray }/\IntsAre vs ns/\ns.length<=n:=by
 have hsh:WShape.hasAll [] args [.list .int]=true:=(pre_splitW hpre).1;have hc:l.pre.holds [] { args:=args }=true:=(pre_splitW hpre).2;obtain ⟨d,r,rfl,h1,h2⟩:=hasAllW_cons hsh;obtain rfl:=hasAllW_nil h2;obtain ⟨xs,rfl,h3⟩:=hasW_list h1;obtain ⟨ns,rfl⟩:=items_int h3;have hlen:ns.length<=n:=by
  unfold OpenLaw.pre at hc;have h4:(WTm.not (.lt (.lit (.int (n:Int))) (.len (.arg 0)))).holds [] { args:=[.list (ns.map .int)] }=true:=by
   have h4:=(holds_andW hc).1;rw [hn] at h4;exact h4
  have h5:=condW_of h4 (w_not (w_lt w_lit (w_len_list (w_arg rfl))));rw [List.length_map] at h5;refine Nat.le_of_not_lt fun q=>?_;have q':(n:Int)<((ns.length:Nat):Int):=by lia
  first
   |(rw [decide_eq_true q'] at h5;exact absurd h5 (by decide))
   |(simp at h5;lia)
 cases hwl with
 |cons w1 w2=>
  cases w2;cases w1 with
  |list ho hall=>exact ⟨_,_,ns,rfl,rfl,ho,gY ns _ hall,hlen⟩
theorem t5(l:OpenLaw)(args:List WData):l.row.toRowW.claim.post args (.bool true) args=true:=
 postW_of (r:=l.row.toRowW) (X:=(true==true))
  (show WShape.has [] (.bool true) .bool=true by first|rfl|decide|simp [WShape.has,WShape.arms,WShape.armsAll])
  (show (WTm.eq .res (.lit (.bool true))).value [] { args:=args,res:=some (.bool true),after:=args }=some (.bool (true==true)) from w_eq_bool (w_res rfl) w_lit) rfl
theorem nh{l:OpenLaw}{n:Nat}{q:Program}{loose:List Str}{XP:(Str->Option Value)->Heap->Prop}{YP:World->Heap->Prop}{d:DefRec}
  (hn:l.most=some n) (hdf:d.params.defaults=[])
  (call:∀(w:World) (s₀ s₁:Shared) (mg mb:Str->Option Value) (fa:Addr) (o:Obj) (pm cd doc:Value) (a:Addr) (vs:List Value) (ns:List Int),
   Ground q loose [] XP w s₀ mg mb s₁.heap->YP w s₁.heap->
   s₁.heap.get? fa=some o->o.data=.func (docDef d.name d.params d.body d.scope pm cd doc)->s₁.heap.CodeRec cd d.name->mg d.name=some (.ref fa)->
   s₁.heap.get? a=some { cls:=.type "list",data:=.seq vs.toArray }->IntsAre vs ns->ns.length<=n->s₁.gens=#[]->
   codeAny (model l.prog w) callerA (.call (.ref fa) ⟨[.ref a],[]⟩) (fun r s'=>r=.ok (.ret (.bool true))/\OldK s₁.heap s'.heap/\s'.os=s₁.os/\AllBare s'.gens) s₁):
  WalkO q loose XP YP l.row.toRowW d [] (fun f vs=>PySem.call f vs):=by
 intro w s₀ s₁ mg mb G Y fa o pm cd doc dV kV ho hd hcd hD hmg hg args vals as hpre hlay hrd hwl hlo;obtain rfl:dV=.none:=Dflts.none hD hdf;obtain rfl:kV=.none:=Dflts.noKw hD;obtain ⟨a,vs,ns,rfl,rfl,hobj,hints,hlen⟩:=sH hn hpre hwl;refine enter_call (codeAny_mono (call w s₀ s₁ mg mb fa o pm cd doc a vs ns G Y ho (fd_plain hd) hcd hmg hobj hints hlen hg) fun r s' hq=>?_);obtain ⟨rfl,h2,h3,h4⟩:=hq;exact ⟨.inl ⟨.bool true,.bool true,[],rfl,fun _=>rfl,.bool true,t5 l _,fun _=>⟨List.Pairwise.nil,fun _ hm=>(nomatch hm)⟩⟩,h2,h3,h4⟩
section
variable {prog:Program}{w:World}{A:Around}{E:Value->Shared->Prop}{s:Shared}{K:Frag}
end
end Att
namespace L2
open PySem PySem.Spec PyProof.Rows
theorem ky:∀{vs:List Value} {ns:List Int},IntsAre vs ns->Vals (ns.map V.int) vs
 |_,_,.nil=>.nil
 |_,_,.cons n t h=>.cons ⟨t,rfl⟩ (ky h)
def vf(H:Hp):Prop:=∀b,H b=none\/∃o xs,H b=some (.frz o (.lst xs))
theorem ug{P:Program}{w:World}{K:W.Frag}{mg mb:Str->Option Value}{CX:mI}{k:Nat}{fa a:Addr}{fd:FuncData}{x:Str}{sp:Sp}{s₁:Shared}{vs:List Value}{ns:List Int}
  (KX:K.In s₁.heap) (hns:s₁.heap.Ns mainGlobals mg) (hb:s₁.heap.Ns builtinsNs mb) (hbb:∀x:Str,x≠"__name__"->mb x=bootBuiltins x) (hlim:s₁.heap.NoLimit) (hg:s₁.gens=#[])
  (ha:s₁.heap.get? a=some { cls:=.type "list",data:=.seq vs.toArray }) (hi:IntsAre vs ns) (hl:ns.length<=sizeLine) (hr:Room k callerA)
  (F:∀base:Heap,K.In base->base.Ns mainGlobals mg->FnOk P w K mg base CX k fa fd [x] sp) (hbind:∀(s:Shared) (u:Value),BindsTo s fd ⟨[u],[]⟩ [(x,u)])
  (hsp:∀H:Hp,vf H->SqL K H a (ns.map V.int)->sp [.ref a] H (fun v _=>v=.bl true) fun _ _ _=>False)
  (hCX:∀H e s',CX [] H s₁ (fun _ _ _=>False) e s'->False):
  codeAny (model P w) callerA (.call (.ref fa) ⟨[.ref a],[]⟩) (fun r s'=>r=.ok (.ret (.bool true))/\OldK s₁.heap s'.heap/\s'.os=s₁.os/\AllBare s'.gens) s₁:=by
 have rv:=ky hi;have lenV:=hi.length
 -- from an abstract heap in which nothing but the script may be tracked
 have core:∀H:Hp,vf H->SqL K H a (ns.map V.int)->HOk P w H s₁.heap->(∀b,H b≠none->b=a)->(H a≠none->K.lookup a=none)->
   codeAny (model P w) callerA (.call (.ref fa) ⟨[.ref a],[]⟩) (fun r s'=>r=.ok (.ret (.bool true))/\OldK s₁.heap s'.heap/\s'.os=s₁.os/\AllBare s'.gens) s₁:=by
  intro H hO hS hok hA hK;have base_of:∀{b:Addr} {o:Obj},s₁.heap.get? b=some o->H b=none->(lU s₁.heap H).get? b=some o:=fun e n=>vm e n;have noA:∀{b:Addr} {o:Obj} {es:Array DictEntry} {ep:Nat},s₁.heap.get? b=some o->o.data=.dict es ep->H b=none:=fun {b o es ep} e d=>by
   cases q:H b with
   |none=>rfl
   |some u=>
    have e':b=a:=hA b (by rw [q];simp)
    subst e';rw [ha] at e;cases e;have d':Data.seq vs.toArray _=Data.dict es ep:=d;cases d'
  have nsK:∀{b:Addr} {m:Str->Option Value},s₁.heap.Ns b m->(lU s₁.heap H).Ns b m:=fun {b m} ⟨o,es,ep,e,d,r⟩=>⟨o,es,ep,base_of e (noA e d),d,r⟩;have hKb:K.In (lU s₁.heap H):=fun b o e=>base_of (KX b o e) (by
   cases q:H b with
   |none=>rfl
   |some u=>
    have e':b=a:=hA b (by rw [q];simp)
    subst e';rw [hK (by rw [q];simp)] at e;cases e)
  have hM:Mod K mg (lU s₁.heap H):=⟨hKb,nsK hns,⟨mb,nsK hb,hbb⟩,let ⟨mc,h1,h2⟩:=hlim;⟨mc,nsK h1,h2⟩⟩;have e0:Env0 P w K mg (lU s₁.heap H) callerA [] s₁ H:=⟨rfl,hM,fun b o e=>yp e,Nat.le_of_eq (sO _ _),trivial,fun b hb=>absurd (show b∈([]:List Addr) from hb) (by simp),hok,.of_eq hg⟩
  refine codeAny_mono ((F _ hKb (nsK hns)).run callerA [] s₁ H ⟨[.ref a],[]⟩ [.ref a] [.ref a] _ _ hr e0 (hbind s₁ (.ref a)) (.cons rfl .nil) (hsp H hO hS)) fun r s' h=>?_;cases r with
  |error e=>exact (hCX H e s' h).elim
  |ok fl=>
   cases fl with
   |next=>exact False.elim h
   |brk=>exact False.elim h
   |cont=>exact False.elim h
   |ret u=>
    obtain ⟨v,H',os,bare,un,hok',r',q⟩:=h;have q':v=.bl true:=q;subst q';obtain rfl:u=Value.bool true:=r';refine ⟨rfl,OldK.of_keep fun b o e=>?_,os,bare⟩;cases q:H b with
    |none=>exact un.keep b o e q (by intro z;exact absurd (show b∈([]:List Addr) from z) (by simp)) (by simp)
    |some u=>
     rcases hO b with z|⟨ob,xs,z⟩
     ·rw [q] at z;cases z
     ·have z2:=un.frzs b ob _ z
      obtain ⟨e1,_⟩:=hok b _ z;obtain ⟨e2,_⟩:=hok' b _ z2;rw [e] at e1;cases e1;exact e2
 cases hk:K.lookup a with
 |some o=>
  -- the script is one of the module's own objects
  have e:=KX a o hk;rw [ha] at e;cases e;refine core (fun _=>none) (fun _=>.inl rfl) (.inr ⟨_,vs.toArray,_,hk,rfl,rfl,rfl,by rw [List.size_toArray,lenV];exact hl,by simpa using rv⟩) (fun b u z=>by have z':(none:Option HO)=some u:=z;cases z') (fun b z=>absurd rfl z) fun z=>absurd rfl z
 |none=>
  refine core (fun b=>if b=a then some (.frz { cls:=.type "list",data:=.seq vs.toArray } (.lst (ns.map V.int))) else none) (fun b=>?_) (.inl (.inr ⟨{ cls:=.type "list",data:=.seq vs.toArray },if_pos rfl⟩)) (fun b u z=>?_) (fun b z=>?_) fun _=>hk
  ·by_cases hb:b=a
   ·exact .inr ⟨_,_,if_pos hb⟩
   ·exact .inl (if_neg hb)
  ·by_cases hb:b=a
   ·have z':=(if_pos hb).symm.trans z
    cases z';subst hb;exact ⟨ha,by rw [List.length_map];exact hl,vs,_,rv,ha⟩
   ·have z':=(if_neg hb).symm.trans z
    cases z'
  ·by_cases hb:b=a
   ·exact hb
   ·exact absurd (if_neg hb) z
end L2
namespace L2
open PySem PySem.Spec PyProof.Rows
theorem xG{l:W.OpenLaw}{n k:Nat}{q:Program}{loose:List Str}{XP:(Str->Option Value)->Heap->Prop}{YP:World->Heap->Prop}{d:DefRec}{K:Params->W.Frag}{CX:World->mI}{sp:World->Sp}{x:Str}
  (hn:l.most=some n) (hn2:n<=sizeLine) (hdf:d.params.defaults=[]) (hr:Room k callerA)
  (hY:∀(w:World) (h:Heap),YP w h->(K w.params).In h)
  (F:∀(w:World) (mg:Str->Option Value) (fa:Addr) (h:Heap),(K w.params).In h->h.Ns mainGlobals mg->mg d.name=some (.ref fa)->
   ∃fd:FuncData,(∀(s:Shared) (u:Value),BindsTo s fd ⟨[u],[]⟩ [(x,u)])/\
    ∀base:Heap,(K w.params).In base->base.Ns mainGlobals mg->FnOk l.prog w (K w.params) mg base (CX w) k fa fd [x] (sp w))
  (hsp:∀(w:World) (H:Hp) (a:Addr) (ns:List Int),ns.length<=n->vf H->SqL (K w.params) H a (ns.map V.int)->sp w [.ref a] H (fun v _=>v=.bl true) fun _ _ _=>False)
  (hCX:∀(w:World) (H:Hp) (s:Shared) (e:Value) (s':Shared),CX w [] H s (fun _ _ _=>False) e s'->False):
  W.WalkO q loose XP YP l.row.toRowW d [] (fun f vs=>PySem.call f vs):=by
 refine Att.nh hn hdf fun w s₀ s₁ mg mb fa o pm cd doc a vs ns G Y ho hd hcd hmg hobj hints hlen hg=>?_;have KX:=hY w _ Y;obtain ⟨fd,hb,hF⟩:=F w mg fa _ KX G.T.g hmg;exact ug KX G.T.g G.T.b G.T.builtins G.T.nolimit hg hobj hints (Nat.le_trans hlen hn2) hr hF hb (fun H hO hS=>hsp w H a ns hlen hO hS) fun H e s'=>hCX w H s₁ e s'
end L2
namespace L2
open PySem PySem.Spec PyProof.Rows
def fh(s:Stmt)(j:Nat):Stmt:=match s with
 |.ClassDef _ _ _ body _ _ _ _ _ _ _=>body.getD j (.Pass ⟨0,0,0,0⟩)
 |_=>.Pass ⟨0,0,0,0⟩
def fc(s:Stmt):Arguments:=match s with
 |.FunctionDef _ a _ _ _ _ _ _ _ _=>a
 |_=>{ posonlyargs:=[],args:=[],vararg:=none,kwonlyargs:=[],kw_defaults:=[],kwarg:=none,defaults:=[] }
def eA(s:Stmt):List Stmt:=match s with
 |.FunctionDef _ _ b _ _ _ _ _ _ _=>b
 |_=>[]
def ax(s:Stmt):Scope:=match s with
 |.FunctionDef _ _ _ _ _ _ sc _ _ _=>sc
 |_=>{ kind:=.function,names:=[],isGenerator:=false,isCoroutine:=false }
abbrev CX0:mI:=fun _ _ _ _ _ _=>False
abbrev E0:XK:=fun _ _ _=>False
structure Fun(K:W.Frag)(x qual:Str)(st:Stmt)(f:Addr)(fd:FuncData):Prop where
 ex:∃(oc:Value) (od:Option Addr) (kV doc pm:Value) (an:Option Addr) (cdv ct:Value) (osl:Array (Option Value)),
  fd=W.fnOf x qual (fc st) (eA st) (ax st) .none kV doc pm an cdv ct/\K.lookup f=some ⟨oc,od,.func fd,osl⟩/\W.codeIn K cdv qual=true
 kp:W.keepIn K (.ref f)=true
section
variable {P:Program}{w:World}{K:W.Frag}{mg:Str->Option Value}{base:Heap}
theorem Fun.binds{x qual:Str}{st:Stmt}{f:Addr}{fd:FuncData}{ps:List Str}(F:Fun K x qual st f fd)
  (h:∀(kV doc pm:Value) (an:Option Addr) (cdv ct:Value) (us:List Value),us.length=ps.length->bindArgs (W.fnOf x qual (fc st) (eA st) (ax st) .none kV doc pm an cdv ct) ⟨us,[]⟩=pure (ps.zip us)):Binds K fd ps []:=by
 obtain ⟨oc,od,kV,doc,pm,an,cdv,ct,osl,rfl,lk,hcd⟩:=F.ex;exact .all (h kV doc pm an cdv ct)
theorem uw{x qual:Str}{st:Stmt}{f:Addr}{oc:Value}{od an:Option Addr}{osl:Array (Option Value)}{kV doc pm cdv ct:Value}(l:K.lookup f=some ⟨oc,od,.func (W.fnOf x qual (fc st) (eA st) (ax st) .none kV doc pm an cdv ct),osl⟩)
  (c:W.codeIn K cdv qual=true) (k:W.keepIn K (.ref f)=true):Fun K x qual st f (W.fnOf x qual (fc st) (eA st) (ax st) .none kV doc pm an cdv ct):=⟨⟨oc,od,kV,doc,pm,an,cdv,ct,osl,rfl,l,c⟩,k⟩
end
theorem bc{A:Around}{k:Nat}(hr:Room k A):A.units+1<cLine:=Nat.lt_of_le_of_lt (Nat.add_le_add_left (by decide:1<=64) _) hr.units
section
variable {X:Cx}
theorem sG:cr X (.builtin "len") (fun xs H Q=>∃a kvs,xs=[V.ref a]/\H a=some (.dK kvs)/\Q (.int kvs.length) H):=by
 intro pins s σ H xs us Q I r h;obtain ⟨a,kvs,rfl,ha,q⟩:=h;obtain ⟨u,rfl,ru⟩:=j3 r;cases ru;exact De I (.inl ha) fun t s' I'=>⟨.int kvs.length,H,I',⟨t,rfl⟩,q⟩
end
section
variable {κ:Type}[DecidableEq κ]
end
end L2
namespace L2
open PySem PySem.Spec PyProof.Rows
section
variable {prog:Program}{w:World}{A:Around}{R:Result->Shared->Prop}{s:Shared}
theorem lP{elt target iter:Expr}{ifs:List Expr}{scope:Scope}{pos:Pos}{it acc:Value}{env:Env}(I:Nat->Shared->Prop)
  (turn:∀n s,I n s->wpAny (model prog w) A (pyNext it) (fun r s₁=>match r with
   |none=>R (.ok .next) s₁
   |some v=>wpAny (model prog w) A (letOwnedTupleGo target it v) (fun _ s₂=>wpAny (model prog w) A (assign target env v) (fun _ s₃=>
     wpAny (model prog w) A (forIn ifs true fun c r=>if r=true then do let ok <- isTrue c env (eval c env);pure (ForInStep.yield ok) else pure (ForInStep.yield r)) (fun ok s₄=>
      if ok=true then wpAny (model prog w) A (eval elt env) (fun x s₅=>
       wpAny (model prog w) A (call (.builtin "list.append") [acc,x]) (fun _ s₆=>∃m,m<n/\I m s₆) (fun _ _=>False) s₅) (fun _ _=>False) s₄
      else ∃m,m<n/\I m s₄) (fun _ _=>False) s₃) (fun _ _=>False) s₂) (fun _ _=>False) s₁) (fun _ _=>False) s)
  (n:Nat) (h:I n s):
  codeAny (model prog w) A (.compLoop (.ListComp elt [⟨target,iter,ifs,0⟩] scope pos) 0 it acc env) R s:=by
 refine codeAny_loop rfl I (fun n s hI=>?_) n h;show wpAny _ A ((compTurn (.ListComp elt [⟨target,iter,ifs,0⟩] scope pos) 0 it acc env).onRaise (fun x=>do noteFrame x env;theTreesLotGoes x)) _ _ s
 refine wpAny_noted ?_;rw [compTurn_list];refine wpAny_bind (wpAny_standAt (wpAny_bind (wpAny_mono (turn n s hI) (fun r s₁ h₁=>?_) fun _ _ z=>z.elim)));cases r with
 |none=>exact wpAny_pure h₁
 |some v=>
  refine wpAny_bind (wpAny_mono h₁ (fun _ s₂ h₂=>wpAny_bind (wpAny_mono h₂ (fun _ s₃ h₃=>wpAny_bind (wpAny_mono h₃ (fun ok s₄ h₄=>?_) fun _ _ z=>z.elim)) fun _ _ z=>z.elim)) fun _ _ z=>z.elim);cases ok with
  |false=>exact wpAny_pure ⟨rfl,h₄⟩
  |true=>
   exact wpAny_bind (wpAny_bind (wpAny_mono h₄ (fun x s₅ h₅=>wpAny_bind (wpAny_mono h₅ (fun _ s₆ h₆=>wpAny_pure (wpAny_pure ⟨rfl,h₆⟩)) fun _ _ z=>z.elim)) fun _ _ z=>z.elim))
end
def bF(X:Cx)(N:List Str)(scope:Scope)(cl:List (Str×Addr))(C:Addr)(s₀:Shared)(H₀:Hp)(fp:List Addr)(pl:List (Addr×Obj)):Cx where
 prog:=X.prog
 w:=X.w
 K:=X.K
 mg:=X.mg
 base:=X.base
 A:=X.A
 N:=N
 s₀:=s₀
 H₀:=H₀
 env:=compEnvC scope cl C X.env
 outer:=X.stack
 stack:=X.stack
 ex:=fp
 fn:=fun _=>false
 calm:=X.calm
 pn:=X.pn++pl
 xe:=fun _ _=>False
inductive Frees(X:Cx)(scope:Scope):List Str->List Nat->Prop where
 |nil:Frees X scope [] []
 |cons {x:Str} {j:Nat} {xs:List Str} {js:List Nat}:X.N[j]?=some x->(X.env.kindOf x=some .cell\/X.env.kindOf x=some .free)->
   ((relabel scope X.env).names.lookup x=some .cell\/(relabel scope X.env).names.lookup x=some .free)->Frees X scope xs js->Frees X scope (x::xs) (j::js)
theorem Frees.length{X:Cx}{scope:Scope}:∀{xs:List Str} {js:List Nat},Frees X scope xs js->xs.length=js.length
 |_,_,.nil=>rfl
 |_,_,.cons _ _ _ t=>congrArg (·+1) t.length
theorem Frees.get{X:Cx}{scope:Scope}:∀{xs:List Str} {js:List Nat},Frees X scope xs js->∀{i:Nat} {x:Str},xs[i]?=some x->∃j,js[i]?=some j/\X.N[j]?=some x/\(X.env.kindOf x=some .cell\/X.env.kindOf x=some .free)/\
   ((relabel scope X.env).names.lookup x=some .cell\/(relabel scope X.env).names.lookup x=some .free)
 |_,_,.nil,i,x,h=>by simp at h
 |_,_,.cons a b c _,0,x,h=>by simp at h;subst h;exact ⟨_,rfl,a,b,c⟩
 |_,_,.cons _ _ _ t,i+1,x,h=>by
  obtain ⟨j,h1,h2⟩:=t.get (i:=i) (x:=x) (by simpa using h)
  exact ⟨j,by simpa using h1,h2⟩
def cO(ls:List Str)(js:List Nat)(σ:St):St:=ls.map (fun _=>none)++js.map fun j=>(σ[j]?).join
structure CompOk(X:Cx)(scope:Scope)(cl:List (Str×Addr))(ls fs:List Str)(js:List Nat):Prop where
 kind:scope.kind=.function
 nocell:∀y∈scope.names,y.2≠.cell
 locs:∀x∈scope.names,x.2=.local->scope.names.lookup x.1=some .local
 clos:closureFor scope X.env=pure cl
 cells:∀x c,cl.lookup x=some c->X.env.cells.lookup x=some c
 has:∀x,((relabel scope X.env).names.lookup x=some .cell\/(relabel scope X.env).names.lookup x=some .free)->∃c,cl.lookup x=some c
 frees:Frees X scope fs js
theorem vg{X:Cx}{pins:List (Addr×Obj)}{σ:St}{H:Hp}{s:Shared}{scope:Scope}{cl:List (Str×Addr)}{ls fs:List Str}{js:List Nat}{fp:List Addr}{h₁:Heap}{m:Str->Option Value}{t':Nat}
  (I:Inv X pins σ H s) (co:CompOk X scope cl ls fs js) (hfp:∀b∈fp,gs X pins H b/\b<s.heap.objs.size) (hns:h₁.Ns s.heap.objs.size m) (hk:∀b o,s.heap.get? b=some o->h₁.get? b=some o):
  Inv (bF X (ls++fs) scope cl s.heap.objs.size s H fp pins) [] (cO ls js σ) H { s with heap:=h₁,toks:=t' }:=by
 have lk:∀b o,s.heap.get? b=some o->b≠s.heap.objs.size:=fun b o e=>Nat.ne_of_lt (Heap.lt_size e);refine ⟨⟨I.ok.mod,co.kind,I.ok.glob,I.ok.blt,Nat.le_refl _,fun x y c h1 h2=>?_,fun x hx=>co.has x hx,fun x c h _=>absurd (show false=true from h) Bool.false_ne_true,I.ok.hd,I.ok.frames,.inl rfl,fun b hb=>⟨Nat.ne_of_lt (hfp b hb).2,fun x c e=>?_⟩,
   fun b o e=>I.bs b o e,Nat.le_trans I.ok.bsz I.sz,fun b o e hb=>?_,fun b hb hf=>?_,I.stack,fun b hb=>I.stkFree b hb⟩,
  rfl,I.bare,Un.kept hk,⟨m,hns,fun i x v h1 h2 h3=>?_⟩,fun x c e=>?_,I.hok.fresh (Nat.le_refl _),fun x c e=>I.freeC x c (co.cells x c e),fun p hp=>?_,I.hok.kept hk,?_⟩
 ·exact I.ok.inj x y c (co.cells x c h1) (co.cells y c h2)
 ·exact (hfp b hb).1.2.2.2.2.1 x c (co.cells x c e)
 ·obtain ⟨f0,f1,f2,f3,_⟩:=(hfp b hb).1
  rcases f3 with z|z
  ·exact I.ok.noex b o e z
  ·exact absurd (Nat.lt_of_lt_of_le (Heap.lt_size (I.ok.bs b o e).1) z) (Nat.lt_irrefl _)
 ·obtain ⟨f0,f1,f2,f3,_⟩:=(hfp b hb).1
  rcases List.mem_cons.mp (I.stkSub b hf) with z|z
  ·exact f1 z
  ·exact f2 z
 ·have hi:¬i<ls.length:=fun hi=>by
   have h2':(cO ls js σ)[i]?=some (some v):=h2;unfold cO at h2';rw [List.getElem?_append_left (by simpa using hi),List.getElem?_map,List.getElem?_eq_getElem hi] at h2'
   cases h2'
  have hN:fs[i-ls.length]?=some x:=by
   have h1':(ls++fs)[i]?=some x:=h1
   rwa [List.getElem?_append_right (by lia)] at h1'
  obtain ⟨j,hj,hx,hc,hl⟩:=co.frees.get hN;have hσ:σ[j]?=some (some v):=by
   have h2':(cO ls js σ)[i]?=some (some v):=h2;unfold cO at h2';rw [List.getElem?_append_right (by simpa using hi),List.length_map,List.getElem?_map,hj] at h2'
   have q:(σ[j]?).join=some v:=by simpa using h2'
   cases e:σ[j]? with
   |none=>rw [e] at q;cases q
   |some o=>rw [e] at q;have q':o=some v:=q;rw [q']
  obtain ⟨mX,_,hlX⟩:=I.loc;have vis:Cn X.env.scope x:=by
   rcases hc with z|z
   ·exact .inr (.inl z)
   ·exact .inr (.inr z)
  obtain ⟨u,ru,lo⟩:=hlX j x v hx hσ vis;refine ⟨u,ru,.inr ⟨hl,?_⟩⟩;obtain ⟨c,ec⟩:=co.has x hl;refine ⟨c,ec,?_⟩;rcases lo with ⟨kl,_⟩|⟨_,c',e',z⟩
  ·rcases hc with q|q<;>(rw [q] at kl;cases kl)
  ·rw [co.cells x c ec] at e'
   cases e';obtain ⟨o,ho,hd⟩:=z;exact ⟨o,hk _ _ ho,hd⟩
 ·obtain ⟨v,o,ho,hd⟩:=I.cell x c (co.cells x c e)
  exact ⟨v,o,hk _ _ ho,hd⟩
 ·have hp':p∈X.pn++pins:=by
   have q:p∈(X.pn++pins)++[]:=hp;simpa using q
  obtain ⟨e,n,ne,nf,d⟩:=I.pin p hp';refine ⟨hk _ _ e,n,lk _ _ e,fun hb=>?_,d⟩;rcases List.mem_cons.mp (I.stkSub p.1 hb) with z|z
  ·exact ne z
  ·exact nf z
 ·show (cO ls js σ).length=(ls++fs).length
  unfold cO;rw [List.length_append,List.length_map,List.length_map,List.length_append,co.frees.length]
def C3(X:Cx)(ifs:List Expr)(t:TT):Prop:=
 ∀(pins:List (Addr×Obj)) (s:Shared) (σ:St) (H:Hp) (Q:Bool->Hp->Prop),Inv X pins σ H s->t σ H Q->
  wpAny (model X.prog X.w) X.A (forIn ifs true fun c r=>if r=true then do let ok <- isTrue c X.env (eval c X.env);pure (ForInStep.yield ok) else pure (ForInStep.yield r)) (TP X pins σ Q) X.xe s
def tAll:TT:=fun _ H Q=>Q true H
theorem zh{X:Cx}:C3 X [] tAll:=fun _ _ _ H _ I h=>wpAny_tests_nil ⟨H,I,h⟩
theorem wQ{X:Cx}{c:Expr}{t:TT}(h:PT X c t):C3 X [c] t:=fun pins s σ H Q I q=>wpAny_tests_one (h pins s σ H Q I q)
def vY(wi:TI)(ls:List Str)(js:List Nat)(g:TG)(tt:TT)(te:TE):TE:=fun σ H Q=>wi σ H fun J H1=>∀p,H1 p=none->∃W:Nat->Nat->St->Hp->Prop,(∃m,W 0 m (cO ls js σ) (upd H1 p (.lst [])))/\∀i m σ' H',W i m σ' H'->
 (J.stop i H'/\Q (.ref p) H')\/(J.go i H'/\∃N:St->Hp->Prop,(∀σ2 H2,N σ2 H2->∃m',m'<m/\W (i+1) m' σ2 H2)/\∀x H2,J.yld i H' x H2->g x σ' H2 fun σ3 H3=>tt σ3 H3 fun c H4=>
  if c=true then te σ3 H4 fun y H5=>∃ys,H5 p=some (.lst ys)/\ys.length<sizeLine/\N σ3 (upd H5 p (.lst (ys++[y]))) else N σ3 H4)
section
variable {X:Cx}{tg iter elt:Expr}{ifs:List Expr}{scope:Scope}{cl:List (Str×Addr)}{pos:Pos}{ls fs:List Str}{js:List Nat}{wi:TI}{g:TG}{tt:TT}{te:TE}
theorem mM{pins:List (Addr×Obj)}{σ:St}{s2:Shared}{it:Addr}{fp:List Addr}{tn:Nat->Heap->Prop}{J:It}{H1:Hp}{R:Value->Addr->Result->Shared->Prop}{Q:VK}{E:Value->Shared->Prop}(hc:X.calm=true)(co:CompOk X scope cl ls fs js)
  (hY:∀(C:Addr) (s₀:Shared) (H₀:Hp) (fp:List Addr) (pl:List (Addr×Obj)),PG (bF X (ls++fs) scope cl C s₀ H₀ fp pl) tg g/\C3 (bF X (ls++fs) scope cl C s₀ H₀ fp pl) ifs tt/\PE (bF X (ls++fs) scope cl C s₀ H₀ fp pl) elt te)
  (I:Inv X pins σ H1 s2) (T:Turn X.prog X.w X.K tg J fp it tn) (st:tn 0 s2.heap) (hf:∀b∈fp,gs X pins H1 b)
  (q:∀p,H1 p=none->∃W:Nat->Nat->St->Hp->Prop,(∃m,W 0 m (cO ls js σ) (upd H1 p (.lst [])))/\∀i m σ' H',W i m σ' H'->
   (J.stop i H'/\Q (.ref p) H')\/(J.go i H'/\∃N:St->Hp->Prop,(∀σ2 H2,N σ2 H2->∃m',m'<m/\W (i+1) m' σ2 H2)/\∀x H2,J.yld i H' x H2->g x σ' H2 fun σ3 H3=>tt σ3 H3 fun c H4=>
    if c=true then te σ3 H4 fun y H5=>∃ys,H5 p=some (.lst ys)/\ys.length<sizeLine/\N σ3 (upd H5 p (.lst (ys++[y]))) else N σ3 H4))
  (hR:∀(p C:Addr) (H':Hp) (s':Shared) (m:Str->Option Value),s'.heap.Ns C m->Inv X pins σ H' s'->H' C=none->C≠X.env.locals->X.s₀.heap.objs.size<=C->(∀x c,X.env.cells.lookup x=some c->c≠C)->(∀pp∈X.pn++pins,pp.1≠C)->Q (.ref p) H'->R (.ref p) C (.ok .next) s'):
  wpAny (model X.prog X.w) X.A (newList []) (fun acc s₃=>wpAny (model X.prog X.w) X.A (newFunctionEnv scope X.env.globals cl [] X.env.qual none .none (some X.env)) (fun cenv s₄=>
   codeAny (model X.prog X.w) X.A (.compStart (.ListComp elt [⟨tg,iter,ifs,0⟩] scope pos) 0 (.ref it) acc { cenv with scope:=relabel scope X.env }) (R acc cenv.locals) s₄) E s₃) E s2:=by
 have hp0:H1 s2.heap.objs.size=none:=I.hok.fresh (Nat.le_refl _);obtain ⟨W,⟨m0,w0⟩,turn⟩:=q s2.heap.objs.size hp0;refine wpAny_newObj_type (wpAny_newFunctionEnv co.nocell (by intro y hy;simp at hy) (fun h₁ hns₁ hsb₁=>?_) co.kind)
 dsimp only at hns₁ hsb₁ ⊢;have I3:Inv X pins σ (upd H1 s2.heap.objs.size (.lst [])) { s2 with heap:=s2.heap.push { cls:=.type "list",dict:=none,data:=.seq ([]:List Value).toArray } }:=
  I.lnew (its:=[]) (t':=s2.toks) .nil (Nat.zero_le _)
 generalize hs3:({ s2 with heap:=s2.heap.push { cls:=.type "list",dict:=none,data:=.seq ([]:List Value).toArray } }:Shared)=s3 at I3;have hh3:s2.heap.push { cls:=.type "list",dict:=none,data:=.seq ([]:List Value).toArray }=s3.heap:=by rw [<- hs3]
 rw [hh3] at hns₁ hsb₁ ⊢;have hsz3:s3.heap.objs.size=s2.heap.objs.size+1:=by rw [<- hh3,Heap.size_push]
 have hk3:∀b o,s2.heap.get? b=some o->s3.heap.get? b=some o:=fun b o e=>by rw [<- hh3];exact Heap.get?_push_of_some _ e
 have hlt:∀b∈fp,b<s2.heap.objs.size:=fun b hb=>by
  obtain ⟨o,e,_⟩:=T.obj _ _ st b hb;exact Heap.lt_size e
 have hnp:∀b∈fp,upd H1 s2.heap.objs.size (.lst []) b=none:=fun b hb=>by
  rw [upd_ne (Nat.ne_of_lt (hlt b hb))];exact (hf b hb).1
 have hf3:∀b∈fp,gs X pins (upd H1 s2.heap.objs.size (.lst [])) b/\b<s3.heap.objs.size:=fun b hb=>⟨⟨hnp b hb,(hf b hb).2⟩,by rw [hsz3];exact Nat.lt_succ_of_lt (hlt b hb)⟩
 have hk4:∀b o,s3.heap.get? b=some o->h₁.get? b=some o:=fun b o e=>hsb₁.extBut b o (Nat.ne_of_lt (Heap.lt_size e)) (Heap.get?_push_of_some _ e);have st4:tn 0 h₁:=T.keep _ _ _ st fun b hb o e=>hk4 b o (hk3 b o e);have I4:=vg (t':=s3.toks) I3 co hf3 hns₁ hk4;obtain ⟨hg,ht,he⟩:=hY s3.heap.objs.size s3 (upd H1 s2.heap.objs.size (.lst [])) fp pins;have stat:∀{H':Hp},(∀b∈fp,H' b=none)->∀b∈fp,gs (bF X (ls++fs) scope cl s3.heap.objs.size s3 (upd H1 s2.heap.objs.size (.lst [])) fp pins) [] H' b:=fun {H'} hn b hb=>by
  obtain ⟨f0,f1,f2,f3,f4,f5⟩:=hf b hb;refine ⟨hn b hb,Nat.ne_of_lt (hf3 b hb).2,fun z=>?_,.inl hb,fun x c e=>f4 x c (co.cells x c e),fun pp hp=>f5 pp ?_⟩
  ·rcases List.mem_cons.mp (I3.stkSub b z) with y|y
   ·exact f1 y
   ·exact f2 y
  ·have q:pp∈(X.pn++pins)++[]:=hp
   simpa using q
 have loop:∀s₄:Shared,s₄={ s3 with heap:=h₁,toks:=s3.toks }->
   codeAny (model X.prog X.w) X.A (.compLoop (.ListComp elt [⟨tg,iter,ifs,0⟩] scope pos) 0 (.ref it) (.ref s2.heap.objs.size) (compEnvC scope cl s3.heap.objs.size X.env)) (R (.ref s2.heap.objs.size) s3.heap.objs.size) s₄:=by
  rintro s₄ rfl
  refine lP (fun n s'=>∃i σ' H',Inv (bF X (ls++fs) scope cl s3.heap.objs.size s3 (upd H1 s2.heap.objs.size (.lst [])) fp pins) [] σ' H' s'/\tn i s'.heap/\(∀b∈fp,H' b=none)/\W i n σ' H') ?_ m0 ⟨0,_,_,I4,st4,hnp,w0⟩
  rintro n s5 ⟨i,σ5,H5,I5,st5,fr5,w5⟩
  rcases turn i n σ5 H5 w5 with ⟨stop,qn⟩|⟨go,N,hN,step⟩
  ·refine thn (T.done (bF X (ls++fs) scope cl s3.heap.objs.size s3 (upd H1 s2.heap.objs.size (.lst [])) fp pins) rfl rfl rfl hc i [] s5 σ5 H5 _ I5 (stat fr5) st5 stop) fun r s6 ⟨hr,I6⟩=>?_
   subst hr;obtain ⟨m6,hn6,_⟩:=I6.loc;have IX:Inv X pins σ H5 s6:=I3.call' I6.os I6.base I6.hok I6.bare fun b hb=>⟨(hf b hb).2.2.2.1,(hf b hb).2.1,(hf b hb).2.2.2.2.1,(hf b hb).2.2.2.2.2⟩;refine hR _ _ H5 s6 m6 hn6 IX I6.free (Nat.ne_of_gt I3.lt) I3.sz (fun x c e z=>?_) (fun pp hp z=>?_) qn
   ·obtain ⟨v,zz⟩:=I3.cell x c e
    have zl:=zz.lt;rw [z] at zl;exact Nat.lt_irrefl _ zl
   ·have zl:=Heap.lt_size (I3.pin pp hp).1
    rw [z] at zl;exact Nat.lt_irrefl _ zl
  ·refine thn (T.item (bF X (ls++fs) scope cl s3.heap.objs.size s3 (upd H1 s2.heap.objs.size (.lst [])) fp pins) rfl rfl rfl hc i [] s5 σ5 H5 _ I5 (stat fr5) st5 go) fun r s6 ⟨u,hr,h6⟩=>?_
   subst hr;refine thn h6 fun _ s7 ⟨x,H7,I7,r7,y7,st7,fr7⟩=>?_;have I7':=I7.pinned (stat fr7) (T.obj _ _ st7);refine thn (hg _ s7 σ5 H7 x u _ I7' r7 (step x H7 y7)) fun _ s8 ⟨σ8,H8,I8,q8⟩=>?_
   have again:∀{σ9:St} {H9:Hp} {s9:Shared},Inv (bF X (ls++fs) scope cl s3.heap.objs.size s3 (upd H1 s2.heap.objs.size (.lst [])) fp pins) ([]++jy fp s7.heap) σ9 H9 s9->N σ9 H9->
     ∃m,m<n/\∃i σ' H',Inv (bF X (ls++fs) scope cl s3.heap.objs.size s3 (upd H1 s2.heap.objs.size (.lst [])) fp pins) [] σ' H' s9/\tn i s9.heap/\(∀b∈fp,H' b=none)/\W i m σ' H':=fun {σ9 H9 s9} I9 n9=>by
    obtain ⟨m',hm,w9⟩:=hN σ9 H9 n9;refine ⟨m',hm,i+1,σ9,H9,I9.unpinned,T.keep _ _ _ st7 fun b hb o e=>(I9.pin (b,o) (List.mem_append_right _ (List.mem_append_right _ (d_ hb e)))).1,fun b hb=>?_,w9⟩;obtain ⟨o,e,d⟩:=T.obj _ _ st7 b hb;exact (I9.pin (b,o) (List.mem_append_right _ (List.mem_append_right _ (d_ hb e)))).2.1
   refine thn (ht _ s8 σ8 H8 _ I8 q8) fun ok s9 ⟨H9,I9,q9⟩=>?_;cases ok with
   |false=>exact again I9 q9
   |true=>
    refine thn (he _ s9 σ8 H9 _ I9 q9) fun xv s10 ⟨y,H10,I10,r10,ys,hp,hl,n10⟩=>?_;obtain ⟨z,its,n',r,hl',e⟩:=I10.lstM hp;refine call_meets F.slot_list_append ⟨_,e,rfl⟩ F.entry_list_append (F.args_list_append_2 _ _) (PySem.list_append s2.heap.objs.size its.toArray n' xv (by rw [List.size_toArray];lia)) ⟨e,?_⟩
    refine again (I10.lset (its':=its++[xv]) hp e (by simp) (r.append (.cons r10 .nil)) ?_) n10
    rw [List.length_append,List.length_singleton];lia
 have se:({ s2 with heap:=h₁,toks:=s2.toks+([]:List (Str×Value)).length }:Shared)={ s3 with heap:=h₁,toks:=s3.toks }:=by rw [<- hs3];rfl
 exact codeAny_compStart_list (loop _ se) (T.self _ 0 _ _ _ st4 (loop _ se))
theorem yc(hc:X.calm=true)(co:CompOk X scope cl ls fs js)(hi:PI X tg iter wi)
  (hY:∀(C:Addr) (s₀:Shared) (H₀:Hp) (fp:List Addr) (pl:List (Addr×Obj)),PG (bF X (ls++fs) scope cl C s₀ H₀ fp pl) tg g/\C3 (bF X (ls++fs) scope cl C s₀ H₀ fp pl) ifs tt/\PE (bF X (ls++fs) scope cl C s₀ H₀ fp pl) elt te)
  (hs:∀x,foldedSetIterable iter X.env x=pure x:=by intro _;rfl):PE X (.ListComp elt [⟨tg,iter,ifs,0⟩] scope pos) (vY wi ls js g tt te):=by
 intro pins s σ H Q I h;rw [eval_ListComp];refine wpAny_comprehension_free (use:=none) rfl hs co.clos co.kind co.locs (thn (hi pins s σ H _ I h) fun xv s1 h1=>thn h1 fun itv s2 h2=>?_);obtain ⟨it,fp,tn,J,H2,e,I2,T,st2,f2,q⟩:=h2;subst e;refine mM (R:=fun acc C=>compPost (model X.prog X.w) X.A X.xe none (EP X pins σ Q) acc C) (Q:=Q) hc co hY I2 T st2 f2 q ?_;intro p C H' s' m hn IX hC hL hge hcell hpin hq;exact ⟨m,hn,fun h' sb=>⟨.ref p,H',IX.turned (t':=s'.toks) (fun b o hb e=>sb.extBut b o hb e) hC hL (.inr hge) hcell hpin,rfl,hq⟩⟩
def AU(i:Nat)(t:TE):TS:=fun D σ H=>t σ H fun v H1=>D.nx (σ.set i (some v)) H1
theorem xm{i:Nat}{x:Str}{px spos:Pos}(hN:X.N.Nodup)(hix:X.N[i]?=some x)(hx:wC X.env.scope x)(hc:X.calm=true)(co:CompOk X scope cl ls fs js)(hi:PI X tg iter wi)
  (hY:∀(C:Addr) (s₀:Shared) (H₀:Hp) (fp:List Addr) (pl:List (Addr×Obj)),PG (bF X (ls++fs) scope cl C s₀ H₀ fp pl) tg g/\C3 (bF X (ls++fs) scope cl C s₀ H₀ fp pl) ifs tt/\PE (bF X (ls++fs) scope cl C s₀ H₀ fp pl) elt te)
  (hsw:swapsWith (.ListComp elt [⟨tg,iter,ifs,0⟩] scope pos) (some (.Name x px)) spos.line X.env=pure true:=by rfl)
  (hs:∀x,foldedSetIterable iter X.env x=pure x:=by intro _;rfl) (hf:X.fn x=true\/X.env.scope.names.lookup x=some .local:=by first|exact .inl rfl|exact .inr rfl|assumption):
  PS X (.Assign [.Name x px] (.ListComp elt [⟨tg,iter,ifs,0⟩] scope pos) spos) (AU i (vY wi ls js g tt te)):=by
 intro pins s σ H D I h;rw [exec_Assign_Name_used _ _ _ _ hsw];refine wpAny_bind (wpAny_standAt (wpAny_bind ?_));show wpAny _ X.A (do let _ <- comprehension (.ListComp elt [⟨tg,iter,ifs,0⟩] scope pos) scope X.env _ (newList []) false (eval iter X.env) (some (assign (.Name x px) X.env))) _ _ s
 refine wpAny_bind (wpAny_mono (wpAny_comprehension_free (use:=some (assign (.Name x px) X.env)) (Q:=fun _ s'=>SP X pins D .next s') rfl hs co.clos co.kind co.locs
  (thn (hi pins s σ H _ I h) fun xv s1 h1=>thn h1 fun itv s2 h2=>?_)) (fun _ s' hq=>wpAny_pure (wpAny_pure hq)) fun _ _ e=>e)
 obtain ⟨it,fp,tn,J,H2,e,I2,T,st2,f2,q⟩:=h2;subst e;refine mM (R:=fun acc C=>compPost (model X.prog X.w) X.A X.xe (some (assign (.Name x px) X.env)) (fun _ s'=>SP X pins D .next s') acc C) (Q:=fun v H1=>D.nx (σ.set i (some v)) H1) hc co hY I2 T st2 f2 q ?_;intro p C H' s' m hn IX hC hL hge hcell hpin hq;show wpAny _ X.A (assign (.Name x px) X.env (.ref p)) _ _ _;refine wpAny_assign_Name (store_ok2 IX hN hix hx (v:=.ref p) rfl (fun s'' I'' hb=>?_) hf);obtain ⟨a,sb,ha⟩:=hb;have hne:C≠a:=by
  rcases ha with z|z
  ·rw [z];exact hL
  ·exact fun y=>hcell x a z y.symm
 refine ⟨m,hn.sameBut sb hne,fun h3 sb3=>?_⟩;exact ⟨_,H',I''.turned (t':=s''.toks) (fun b o hb e=>sb3.extBut b o hb e) hC hL (.inr hge) hcell hpin,hq⟩
end
end L2
namespace L2
open PySem PySem.Spec PyProof.Rows
def SrcTn(b:Bool)(it a:Addr)(i:Nat)(h:Heap):Prop:=if b=true then h.IsListIter it a i else h.IsTupleIter it a i
def SrcSq(b:Bool)(h:Heap)(a:Addr)(items:Array Value):Prop:=if b=true then h.IsList a items else h.IsTuple a items
theorem SrcTn.lt{b:Bool}{it a:Addr}{i:Nat}{h:Heap}(x:SrcTn b it a i h):∃o,h.get? it=some o/\∀v,o.data≠.cell v:=by
 cases b with
 |true=>obtain ⟨o,e,c,d⟩:=(show h.IsListIter it a i from x);exact ⟨o,e,fun v z=>by rw [d] at z;cases z⟩
 |false=>obtain ⟨o,e,c,d⟩:=(show h.IsTupleIter it a i from x);exact ⟨o,e,fun v z=>by rw [d] at z;cases z⟩
theorem SrcTn.keep{b:Bool}{it a:Addr}{i:Nat}{h h':Heap}(x:SrcTn b it a i h)(k:∀o,h.get? it=some o->h'.get? it=some o):SrcTn b it a i h':=by
 cases b with
 |true=>obtain ⟨o,e,r⟩:=(show h.IsListIter it a i from x);exact (show h'.IsListIter it a i from ⟨o,k o e,r⟩)
 |false=>obtain ⟨o,e,r⟩:=(show h.IsTupleIter it a i from x);exact (show h'.IsTupleIter it a i from ⟨o,k o e,r⟩)
theorem SrcSq.keep{b:Bool}{a:Addr}{items:Array Value}{h h':Heap}(x:SrcSq b h a items)(k:∀o,h.get? a=some o->h'.get? a=some o):SrcSq b h' a items:=by
 cases b with
 |true=>obtain ⟨o,e,r⟩:=(show h.IsList a items from x);exact (show h'.IsList a items from ⟨o,k o e,r⟩)
 |false=>obtain ⟨o,e,r⟩:=(show h.IsTuple a items from x);exact (show h'.IsTuple a items from ⟨o,k o e,r⟩)
section
variable {prog:Program}{w:World}{A:Around}{E:Value->Shared->Prop}{s:Shared}
theorem g9{it l:Addr}{i:Nat}{items:Array Value}{x:Value}{Q:Value->Shared->Prop}(hit:s.heap.IsTupleIter it l i)(hl:s.heap.IsTuple l items)(hx:items[i]?=some x)
  (hQ:∀h',h'.IsTupleIter it l (i+1)->Heap.SameBut it s.heap h'->Q x { s with heap:=h' }):wpAny (model prog w) A (Builtin.SmallTypes.nextOf (.ref it)) Q E s:=by
 obtain ⟨o,ho,hc,hd⟩:=id hit;obtain ⟨ol,hol,_,nl,hdl⟩:=hl;unfold Builtin.SmallTypes.nextOf
 refine wpAny_bind (wpAny_callSpecial?_slot (name:=Str.ofString "__next__") hit.typeIs F.slot_tuple_iterator_next
  (wpAny_call_entry F.slot_tuple_iterator_next hit.typeIs F.entry_tuple_iterator_next ?_ (F.args_tuple_iterator_next_1 _)))
 show wpAny _ _ (field (.ref it) 0 >>= _) _ _ s;refine wpAny_bind (wpAny_field ho hd (x:=.ref l) rfl ?_);show wpAny _ _ (if (Value.ref l==Value.none)=true then _ else _) _ _ s
 rw [if_neg (show ¬((Value.ref l==Value.none)=true) from Bool.false_ne_true)];show wpAny _ _ (field (.ref it) 1 >>= _) _ _ s;refine wpAny_bind (wpAny_field ho hd (x:=.int i 0) rfl ?_);show wpAny _ _ (seqItems? (.ref l) >>= _) _ _ s;refine wpAny_bind (wpAny_seqItems hol hdl ?_);simp only [Int.toNat_natCast,hx];refine wpAny_bind (wpAny_setField ho hd (by simp) (wpAny_pure ⟨x,rfl,wpAny_pure (hQ _ ?_ (Heap.SameBut.update ..))⟩))
 exact ⟨_,Heap.get?_update_self _ ho (Obj.isFreed_of_fields (Obj.data_mapFields hd _)),(Obj.cls_mapFields ..).trans hc,by
  rw [Obj.data_mapFields hd];simp [rawInt]⟩
theorem gp{it l:Addr}{i:Nat}{items:Array Value}{Q:Value->Shared->Prop}(hh:A.handled=none)(hit:s.heap.IsTupleIter it l i)(hl:s.heap.IsTuple l items)(hx:items[i]?=none)
  (hE:∀h' e,Heap.ExtBut it s.heap h'->(∃o,h'.get? e=some o/\o.cls=.type "StopIteration")->E (.ref e) { s with heap:=h' }):wpAny (model prog w) A (Builtin.SmallTypes.nextOf (.ref it)) Q E s:=by
 obtain ⟨o,ho,hc,hd⟩:=id hit;obtain ⟨ol,hol,_,nl,hdl⟩:=hl;unfold Builtin.SmallTypes.nextOf
 refine wpAny_bind (wpAny_callSpecial?_slot (name:=Str.ofString "__next__") hit.typeIs F.slot_tuple_iterator_next
  (wpAny_call_entry F.slot_tuple_iterator_next hit.typeIs F.entry_tuple_iterator_next ?_ (F.args_tuple_iterator_next_1 _)))
 show wpAny _ _ (field (.ref it) 0 >>= _) _ _ s;refine wpAny_bind (wpAny_field ho hd (x:=.ref l) rfl ?_);show wpAny _ _ (if (Value.ref l==Value.none)=true then _ else _) _ _ s
 rw [if_neg (show ¬((Value.ref l==Value.none)=true) from Bool.false_ne_true)];show wpAny _ _ (field (.ref it) 1 >>= _) _ _ s;refine wpAny_bind (wpAny_field ho hd (x:=.int i 0) rfl ?_);show wpAny _ _ (seqItems? (.ref l) >>= _) _ _ s;refine wpAny_bind (wpAny_seqItems hol hdl ?_);simp only [Int.toNat_natCast,hx];refine wpAny_bind (wpAny_rule (wpAny_bind (wpAny_setField ho hd (by simp) ?_)))
 show wpAny _ _ (newExc (.type "StopIteration") [] >>= _) _ _ _;refine wpAny_bind ?_;simp only [newExc,newTuple];refine wpAny_bind (wpAny_newObj_type ?_ (by size_fits))
 refine wpAny_bind (m:=firstArgMember _ _) (wpAny_of_eq (a:=Value.none) (by first|rfl|(simp only [firstArgMember];rfl)) ?_)
 refine wpAny_newObj_type ?_ (by size_fits)
 simp only [raiseNew];refine wpAny_bind (wpAny_handled ?_)
 first|rw [show A.in1.handled=none from hh]|rw [hh]
 refine wpAny_bind (wpAny_pure (wpAny_throw ?_));exact hE _ _ (((Heap.SameBut.update ..).extBut.push _).push _) ⟨_,Heap.get?_push_size _ rfl,rfl⟩
theorem bH{b:Bool}{it l:Addr}{i:Nat}{items:Array Value}{x:Value}{Q:Value->Shared->Prop}(hit:SrcTn b it l i s.heap)(hl:SrcSq b s.heap l items)(hx:items[i]?=some x)
  (hQ:∀h',SrcTn b it l (i+1) h'->Heap.SameBut it s.heap h'->Q x { s with heap:=h' }):wpAny (model prog w) A (Builtin.SmallTypes.nextOf (.ref it)) Q E s:=by
 cases b with
 |true=>exact wpAny_nextOf_list_item hit hl hx hQ
 |false=>exact g9 hit hl hx hQ
theorem ca{b:Bool}{it l:Addr}{i:Nat}{items:Array Value}{Q:Value->Shared->Prop}(hh:A.handled=none)(hit:SrcTn b it l i s.heap)(hl:SrcSq b s.heap l items)(hx:items[i]?=none)
  (hE:∀h' e,Heap.ExtBut it s.heap h'->(∃o,h'.get? e=some o/\o.cls=.type "StopIteration")->E (.ref e) { s with heap:=h' }):wpAny (model prog w) A (Builtin.SmallTypes.nextOf (.ref it)) Q E s:=by
 cases b with
 |true=>exact wpAny_nextOf_list_end hh hit hl hx hE
 |false=>exact gp hh hit hl hx hE
def aY(b:Bool):String:=if b=true then "list_iterator" else "tuple_iterator"
theorem db{b:Bool}{l:Addr}{items:Array Value}{Q:Value->Shared->Prop}(hl:SrcSq b s.heap l items)
  (hQ:Q (.ref s.heap.objs.size) { s with heap:=s.heap.push { cls:=.type (aY b),data:=.fields #[.ref l,.int 0 0] } }):wpAny (model prog w) A (pyIter (.ref l)) Q E s:=by
 cases b with
 |true=>exact wpAny_pyIter_list hl hQ
 |false=>exact wpAny_pyIter_tuple hl hQ
theorem lR{b:Bool}{h:Heap}{it l:Addr}(e:h.get? it=some { cls:=.type (aY b),data:=.fields #[.ref l,.int 0 0] }):SrcTn b it l 0 h:=by
 cases b with
 |true=>exact (show h.IsListIter it l 0 from ⟨_,e,rfl,rfl⟩)
 |false=>exact (show h.IsTupleIter it l 0 from ⟨_,e,rfl,rfl⟩)
structure ZApart(z TI TO i1 i2:Addr):Prop where
 TIz:TI≠z
 TOz:TO≠z
 i1z:i1≠z
 i2z:i2≠z
 TITO:TI≠TO
 TIi1:TI≠i1
 TIi2:TI≠i2
 TOi1:TO≠i1
 TOi2:TO≠i2
 i12:i1≠i2
def oy(z TO i1 i2 l:Addr):Prop:=l≠z/\l≠TO/\l≠i1/\l≠i2
theorem um{b1 b2:Bool}{z TI TO i1 i2 l1 l2:Addr}{k1 k2:Nat}{xs ys:Array Value}{x y a b:Value}{Q:Value->Shared->Prop}(D:ZApart z TI TO i1 i2)(O1:oy z TO i1 i2 l1)(O2:oy z TO i1 i2 l2)
  (hz:IsZip s.heap z TI TO .none) (hTI:IsPair s.heap TI (.ref i1) (.ref i2)) (hTO:IsPair s.heap TO a b)
  (h1:SrcTn b1 i1 l1 k1 s.heap) (h2:SrcTn b2 i2 l2 k2 s.heap) (hl1:SrcSq b1 s.heap l1 xs) (hl2:SrcSq b2 s.heap l2 ys) (hx:xs[k1]?=some x) (hy:ys[k2]?=some y)
  (hQ:∀h',IsZip h' z TI TO (rawInt s.heap.objs.size)->IsPair h' TO x y->SrcTn b1 i1 l1 (k1+1) h'->SrcTn b2 i2 l2 (k2+1) h'->IsPair h' s.heap.objs.size x y->h'.objs.size=s.heap.objs.size+1->
   (∀c o,c≠z->c≠TO->c≠i1->c≠i2->s.heap.get? c=some o->h'.get? c=some o)->Q (.ref s.heap.objs.size) { s with heap:=h' }):
  wpAny (model prog w) A (Builtin.«zip.__next__» ⟨[.ref z],[]⟩) (fun fin s'=>∃v,fin=.done (.ret v)/\Q v s') E s:=by
 show wpAny _ _ (field (.ref z) 2 >>= _) _ _ _;refine wpAny_bind (wpAny_field hz rfl (x:=.bool false) rfl ?_);show wpAny _ _ (field (.ref z) 3 >>= _) _ _ _;refine wpAny_bind (wpAny_field hz rfl (x:=.ref TI) rfl ?_);refine wpAny_bind (wpAny_seqItems hTI rfl ?_);show wpAny _ _ (Builtin.SmallTypes.ownedTupleIsFree (.ref z) >>= _) _ _ _;refine wpAny_bind ?_;unfold Builtin.SmallTypes.ownedTupleIsFree;refine wpAny_bind (wpAny_field hz rfl (x:=.none) rfl (wpAny_pure ?_));simp only [if_true];refine wpAny_bind (wpAny_rule ?_);refine wpAny_bind (wpAny_field hz rfl (x:=.ref TO) rfl ?_);refine wpAny_bind (wpAny_setField_rec hz (by simp) fun h₁ hz₁ hs₁=>?_)
 replace hz₁:IsZip h₁ z TI TO .ellipsis:=hz₁
 refine wpAny_bind ?_;simp only [List.zipIdx_cons,List.zipIdx_nil,List.forIn_cons,List.forIn_nil];refine wpAny_bind (wpAny_bind (wpAny_onRaise ?_));show wpAny _ _ (Builtin.SmallTypes.nextOf (.ref i1) >>= _) _ _ _;refine wpAny_bind (bH (h1.keep fun o e=>hs₁.extBut _ o D.i1z e) (hl1.keep fun o e=>hs₁.extBut _ o O1.1 e) hx fun h₂ h1₂ hs₂=>wpAny_pure ?_);have hTO₂:IsPair h₂ TO a b:=hs₂.extBut _ _ D.TOi1 (hs₁.extBut _ _ D.TOz hTO);refine wpAny_bind (wpAny_seqItems hTO₂ rfl ?_);refine wpAny_bind (wpAny_updateSeq_pair hTO₂ fun h₃ hTO₃ hs₃=>?_)
 replace hTO₃:IsPair h₃ TO x b:=hTO₃
 refine wpAny_bind (wpAny_letGo (wpAny_pure ?_));refine wpAny_bind (wpAny_bind (wpAny_onRaise ?_));show wpAny _ _ (Builtin.SmallTypes.nextOf (.ref i2) >>= _) _ _ _
 refine wpAny_bind (bH (h2.keep fun o e=>hs₃.extBut _ o D.TOi2.symm (hs₂.extBut _ o D.i12.symm (hs₁.extBut _ o D.i2z e)))
  (hl2.keep fun o e=>hs₃.extBut _ o O2.2.1 (hs₂.extBut _ o O2.2.2.1 (hs₁.extBut _ o O2.1 e))) hy fun h₄ h2₄ hs₄=>wpAny_pure ?_)
 have hTO₄:IsPair h₄ TO x b:=hs₄.extBut _ _ D.TOi2 hTO₃;refine wpAny_bind (wpAny_seqItems hTO₄ rfl ?_);refine wpAny_bind (wpAny_updateSeq_pair hTO₄ fun h₅ hTO₅ hs₅=>?_)
 replace hTO₅:IsPair h₅ TO x y:=hTO₅
 refine wpAny_bind (wpAny_letGo (wpAny_pure (wpAny_pure ?_)));refine wpAny_bind (wpAny_seqItems hTO₅ rfl ?_);refine wpAny_bind (wpAny_newTuple ?_);have hsz:h₅.objs.size=s.heap.objs.size:=by rw [hs₅.1,hs₄.1,hs₃.1,hs₂.1,hs₁.1]
 have hz₅:IsZip h₅ z TI TO .ellipsis:=hs₅.extBut _ _ D.TOz.symm (hs₄.extBut _ _ D.i2z.symm (hs₃.extBut _ _ D.TOz.symm (hs₂.extBut _ _ D.i1z.symm hz₁)));have hk₅:∀c o,c≠z->c≠TO->c≠i1->c≠i2->s.heap.get? c=some o->h₅.get? c=some o:=fun c o c1 c2 c3 c4 e=>
  hs₅.extBut _ _ c2 (hs₄.extBut _ _ c4 (hs₃.extBut _ _ c2 (hs₂.extBut _ _ c3 (hs₁.extBut _ _ c1 e))))
 have h1₅:SrcTn b1 i1 l1 (k1+1) h₅:=h1₂.keep fun o e=>hs₅.extBut _ o D.TOi1.symm (hs₄.extBut _ o D.i12 (hs₃.extBut _ o D.TOi1.symm e));have h2₅:SrcTn b2 i2 l2 (k2+1) h₅:=h2₄.keep fun o e=>hs₅.extBut _ o D.TOi2.symm e;have hzlt:z<h₅.objs.size:=Heap.lt_size hz₅;show wpAny _ _ (Builtin.SmallTypes.ownedTupleHandOut (.ref z) (.ref h₅.objs.size) >>= _) _ _ _;refine wpAny_bind ?_;unfold Builtin.SmallTypes.ownedTupleHandOut;have hz₆:IsZip (h₅.push { cls:=.type "tuple",data:=.seq #[x,y] }) z TI TO .ellipsis:=Heap.get?_push_of_some _ hz₅;refine wpAny_bind (wpAny_setField_rec hz₆ (by simp) fun h₇ hz₇ hs₇=>?_)
 replace hz₇:IsZip h₇ z TI TO (rawInt h₅.objs.size):=hz₇
 refine wpAny_setField_rec hz₇ (by simp) fun h₈ hz₈ hs₈=>?_
 replace hz₈:IsZip h₈ z TI TO (rawInt h₅.objs.size):=hz₈
 have up:∀c o,c≠z->h₅.get? c=some o->h₈.get? c=some o:=fun c o c1 e=>hs₈.extBut _ _ c1 (hs₇.extBut _ _ c1 (Heap.get?_push_of_some _ e));have hT₈:IsPair h₈ h₅.objs.size x y:=hs₈.extBut _ _ (Nat.ne_of_gt hzlt) (hs₇.extBut _ _ (Nat.ne_of_gt hzlt) (Heap.get?_push_size _ rfl));have hz8:h₈.objs.size=h₅.objs.size+1:=by rw [hs₈.1,hs₇.1,Heap.size_push]
 rw [hsz] at hz₈ hT₈ hz8;refine wpAny_pure ⟨_,rfl,?_⟩;show Q (.ref h₅.objs.size) _;rw [hsz];exact hQ h₈ hz₈ (up _ _ D.TOz hTO₅) (h1₅.keep fun o e=>up _ o D.i1z e) (h2₅.keep fun o e=>up _ o D.i2z e) hT₈ hz8 fun c o c1 c2 c3 c4 e=>up c o c1 (hk₅ c o c1 c2 c3 c4 e)
theorem xJ{b1 b2:Bool}{z TI TO i1 i2 l1 l2:Addr}{k1 k2:Nat}{xs ys:Array Value}{a b:Value}{Q:Fin->Shared->Prop}(hh:A.handled=none)(D:ZApart z TI TO i1 i2)(O1:oy z TO i1 i2 l1)(O2:oy z TO i1 i2 l2)
  (hz:IsZip s.heap z TI TO .none) (hTI:IsPair s.heap TI (.ref i1) (.ref i2)) (hTO:IsPair s.heap TO a b)
  (h1:SrcTn b1 i1 l1 k1 s.heap) (h2:SrcTn b2 i2 l2 k2 s.heap) (hl1:SrcSq b1 s.heap l1 xs) (hl2:SrcSq b2 s.heap l2 ys) (hend:xs[k1]?=none\/ys[k2]?=none)
  (hE:∀h' e,(∀c o,c≠z->c≠TO->c≠i1->c≠i2->s.heap.get? c=some o->h'.get? c=some o)->(∃o,h'.get? e=some o/\o.cls=.type "StopIteration")->E (.ref e) { s with heap:=h' }):
  wpAny (model prog w) A (Builtin.«zip.__next__» ⟨[.ref z],[]⟩) Q E s:=by
 show wpAny _ _ (field (.ref z) 2 >>= _) _ _ _;refine wpAny_bind (wpAny_field hz rfl (x:=.bool false) rfl ?_);show wpAny _ _ (field (.ref z) 3 >>= _) _ _ _;refine wpAny_bind (wpAny_field hz rfl (x:=.ref TI) rfl ?_);refine wpAny_bind (wpAny_seqItems hTI rfl ?_);show wpAny _ _ (Builtin.SmallTypes.ownedTupleIsFree (.ref z) >>= _) _ _ _;refine wpAny_bind ?_;unfold Builtin.SmallTypes.ownedTupleIsFree;refine wpAny_bind (wpAny_field hz rfl (x:=.none) rfl (wpAny_pure ?_));simp only [if_true];refine wpAny_bind (wpAny_rule ?_);refine wpAny_bind (wpAny_field hz rfl (x:=.ref TO) rfl ?_);refine wpAny_bind (wpAny_setField_rec hz (by simp) fun h₁ hz₁ hs₁=>?_)
 replace hz₁:IsZip h₁ z TI TO .ellipsis:=hz₁
 refine wpAny_bind ?_;simp only [List.zipIdx_cons,List.zipIdx_nil,List.forIn_cons,List.forIn_nil];refine wpAny_bind (wpAny_bind (wpAny_onRaise ?_));show wpAny _ _ (Builtin.SmallTypes.nextOf (.ref i1) >>= _) _ _ _;cases hx:xs[k1]? with
 |none=>
  refine wpAny_bind (ca hh (h1.keep fun o e=>hs₁.extBut _ o D.i1z e) (hl1.keep fun o e=>hs₁.extBut _ o O1.1 e) hx fun h₂ e hs₂ he=>?_);obtain ⟨oe,hoe,hce⟩:=he;have hz₂:IsZip h₂ z TI TO .ellipsis:=hs₂ _ _ D.i1z.symm hz₁;have hez:e≠z:=fun x=>by subst x;rw [hz₂] at hoe;cases hoe;simp at hce
  refine wpAny_setField_rec hz₂ (by simp) fun h₃ _ hs₃=>hE h₃ e (fun c o c1 _ c3 _ x=>hs₃.extBut _ _ c1 (hs₂ _ _ c3 (hs₁.extBut _ _ c1 x))) ⟨oe,hs₃.extBut _ _ hez hoe,hce⟩
 |some x=>
  have hy:ys[k2]?=none:=by rcases hend with h|h;rw [hx] at h;cases h;exact h
  refine wpAny_bind (bH (h1.keep fun o e=>hs₁.extBut _ o D.i1z e) (hl1.keep fun o e=>hs₁.extBut _ o O1.1 e) hx fun h₂ h1₂ hs₂=>wpAny_pure ?_);have hTO₂:IsPair h₂ TO a b:=hs₂.extBut _ _ D.TOi1 (hs₁.extBut _ _ D.TOz hTO);refine wpAny_bind (wpAny_seqItems hTO₂ rfl ?_);refine wpAny_bind (wpAny_updateSeq_pair hTO₂ fun h₃ hTO₃ hs₃=>?_);refine wpAny_bind (wpAny_letGo (wpAny_pure ?_));refine wpAny_bind (wpAny_bind (wpAny_onRaise ?_));show wpAny _ _ (Builtin.SmallTypes.nextOf (.ref i2) >>= _) _ _ _
  refine wpAny_bind (ca hh (h2.keep fun o e=>hs₃.extBut _ o D.TOi2.symm (hs₂.extBut _ o D.i12.symm (hs₁.extBut _ o D.i2z e)))
   (hl2.keep fun o e=>hs₃.extBut _ o O2.2.1 (hs₂.extBut _ o O2.2.2.1 (hs₁.extBut _ o O2.1 e))) hy fun h₄ e hs₄ he=>?_)
  obtain ⟨oe,hoe,hce⟩:=he;have hz₄:IsZip h₄ z TI TO .ellipsis:=hs₄ _ _ D.i2z.symm (hs₃.extBut _ _ D.TOz.symm (hs₂.extBut _ _ D.i1z.symm hz₁));have hez:e≠z:=fun x=>by subst x;rw [hz₄] at hoe;cases hoe;simp at hce
  refine wpAny_setField_rec hz₄ (by simp) fun h₅ _ hs₅=>hE h₅ e (fun c o c1 c2 c3 c4 x=>hs₅.extBut _ _ c1 (hs₄ _ _ c4 (hs₃.extBut _ _ c2 (hs₂.extBut _ _ c3 (hs₁.extBut _ _ c1 x))))) ⟨oe,hs₅.extBut _ _ hez hoe,hce⟩
theorem eF{b1 b2:Bool}{z TI TO i1 i2 l1 l2:Addr}{k1 k2:Nat}{xs ys:Array Value}{x y a b:Value}{Q:Option Value->Shared->Prop}(D:ZApart z TI TO i1 i2)(O1:oy z TO i1 i2 l1)(O2:oy z TO i1 i2 l2)
  (hz:IsZip s.heap z TI TO .none) (hTI:IsPair s.heap TI (.ref i1) (.ref i2)) (hTO:IsPair s.heap TO a b)
  (h1:SrcTn b1 i1 l1 k1 s.heap) (h2:SrcTn b2 i2 l2 k2 s.heap) (hl1:SrcSq b1 s.heap l1 xs) (hl2:SrcSq b2 s.heap l2 ys) (hx:xs[k1]?=some x) (hy:ys[k2]?=some y)
  (hQ:∀h',IsZip h' z TI TO (rawInt s.heap.objs.size)->IsPair h' TO x y->SrcTn b1 i1 l1 (k1+1) h'->SrcTn b2 i2 l2 (k2+1) h'->IsPair h' s.heap.objs.size x y->h'.objs.size=s.heap.objs.size+1->
   (∀c o,c≠z->c≠TO->c≠i1->c≠i2->s.heap.get? c=some o->h'.get? c=some o)->Q (some (.ref s.heap.objs.size)) { s with heap:=h' }):
  wpAny (model prog w) A (pyNext (.ref z)) Q E s:=by
 have hT:s.TypeIs (.ref z) "zip":=⟨_,hz,rfl⟩;unfold pyNext
 exact wpAny_bind (wpAny_attempt (wpAny_callSpecial?_slot (name:=Str.ofString "__next__") hT F.slot_zip_next
  (wpAny_call_entry F.slot_zip_next hT F.entry_zip_next (um D O1 O2 hz hTI hTO h1 h2 hl1 hl2 hx hy fun h' a1 a2 a3 a4 a5 a6 a7=>wpAny_pure (hQ h' a1 a2 a3 a4 a5 a6 a7)) (F.args_zip_next_1 _))))
theorem jl{b1 b2:Bool}{z TI TO i1 i2 l1 l2:Addr}{k1 k2:Nat}{xs ys:Array Value}{a b:Value}{Q:Option Value->Shared->Prop}(hh:A.handled=none)(D:ZApart z TI TO i1 i2)(O1:oy z TO i1 i2 l1)(O2:oy z TO i1 i2 l2)
  (hz:IsZip s.heap z TI TO .none) (hTI:IsPair s.heap TI (.ref i1) (.ref i2)) (hTO:IsPair s.heap TO a b)
  (h1:SrcTn b1 i1 l1 k1 s.heap) (h2:SrcTn b2 i2 l2 k2 s.heap) (hl1:SrcSq b1 s.heap l1 xs) (hl2:SrcSq b2 s.heap l2 ys) (hend:xs[k1]?=none\/ys[k2]?=none)
  (hQ:∀h',(∀c o,c≠z->c≠TO->c≠i1->c≠i2->s.heap.get? c=some o->h'.get? c=some o)->Q none { s with heap:=h' }):wpAny (model prog w) A (pyNext (.ref z)) Q E s:=by
 have hT:s.TypeIs (.ref z) "zip":=⟨_,hz,rfl⟩;unfold pyNext
 refine wpAny_bind (wpAny_attempt (wpAny_callSpecial?_slot (name:=Str.ofString "__next__") hT F.slot_zip_next
  (wpAny_call_entry F.slot_zip_next hT F.entry_zip_next (xJ hh D O1 O2 hz hTI hTO h1 h2 hl1 hl2 hend fun h' e hk he=>?_) (F.args_zip_next_1 _))))
 obtain ⟨o,ho,hc⟩:=he;refine wpAny_bind (wpAny_isInstance (T:="StopIteration") (b:=true) ⟨o,ho,hc⟩ isSubtype_stop ?_);exact wpAny_pure (hQ _ hk)
end
abbrev zH1(c1:String)(h:Heap)(l1:Addr):Heap:=h.push { cls:=.type c1,data:=.fields #[.ref l1,.int 0 0] }
abbrev zH2(c1 c2:String)(h:Heap)(l1 l2:Addr):Heap:=(zH1 c1 h l1).push { cls:=.type c2,data:=.fields #[.ref l2,.int 0 0] }
abbrev zH3(c1 c2:String)(h:Heap)(l1 l2:Addr):Heap:=(zH2 c1 c2 h l1 l2).push { cls:=.type "tuple",data:=.seq #[.ref h.objs.size,.ref (zH1 c1 h l1).objs.size] }
abbrev zH4(c1 c2:String)(h:Heap)(l1 l2:Addr):Heap:=(zH3 c1 c2 h l1 l2).push { cls:=.type "tuple",data:=.seq #[.none,.none] }
abbrev B0(c1 c2:String)(h:Heap)(l1 l2:Addr):Heap:=(zH4 c1 c2 h l1 l2).push { cls:=.type "zip",data:=.fields #[.none,.bool false,.bool false,.ref (zH2 c1 c2 h l1 l2).objs.size,.ref (zH3 c1 c2 h l1 l2).objs.size] }
theorem t8(b1 b2:Bool)(l1 l2:Addr)(xs ys:Array Value):
  Meets (Builtin.«zip.__new__» ⟨[.type "zip",.ref l1,.ref l2],[]⟩) (fun _ R s=>SrcSq b1 s.heap l1 xs/\SrcSq b2 s.heap l2 ys/\
   R (.ok (.ret (.ref (zH4 (aY b1) (aY b2) s.heap l1 l2).objs.size))) { s with heap:=B0 (aY b1) (aY b2) s.heap l1 l2 }):=
 .of_wp fun prog w A R s h=>by
  obtain ⟨hp,g,d,tk,os⟩:=s;obtain ⟨hl1,hl2,h⟩:=h;have hsub:=sub_zip;have hL1:SrcSq b1 (Shared.heap ⟨hp,g,d,tk,os⟩) l1 xs:=hl1;have hL2:SrcSq b2 (Shared.heap ⟨hp.push { cls:=.type (aY b1),data:=.fields #[.ref l1,.int 0 0] },g,d,tk,os⟩) l2 ys:=SrcSq.keep hl2 fun o e=>Heap.get?_push_of_some _ e
  wp_walk using db hL1,db hL2
  exact ⟨_,rfl,h⟩
section
variable {prog:Program}{w:World}{A:Around}{E:Value->Shared->Prop}{s:Shared}
theorem nF{b1 b2:Bool}{l1 l2:Addr}{xs ys:Array Value}{Q:Value->Shared->Prop}(hl1:SrcSq b1 s.heap l1 xs)(hl2:SrcSq b2 s.heap l2 ys)
  (h:∀h',IsZip h' (s.heap.objs.size+4) (s.heap.objs.size+2) (s.heap.objs.size+3) .none->IsPair h' (s.heap.objs.size+2) (.ref s.heap.objs.size) (.ref (s.heap.objs.size+1))->
   IsPair h' (s.heap.objs.size+3) .none .none->SrcTn b1 s.heap.objs.size l1 0 h'->SrcTn b2 (s.heap.objs.size+1) l2 0 h'->h'.objs.size=s.heap.objs.size+5->
   (∀c o,s.heap.get? c=some o->h'.get? c=some o)->Q (.ref (s.heap.objs.size+4)) { s with heap:=h' }):
  wpAny (model prog w) A (call (.type "zip") [.ref l1,.ref l2]) Q E s:=by
 refine callType_new F.called_zip (by decide) (F.typeCall_zip_2 _ _) (F.newCall_zip_2 _ _) (fun obj=>F.args_object_init_3 obj _ _) F.entry_zip_new (t8 b1 b2 l1 l2 xs ys) ⟨hl1,hl2,?_⟩
 have z1:(zH1 (aY b1) s.heap l1).objs.size=s.heap.objs.size+1:=Heap.size_push ..;have z2:(zH2 (aY b1) (aY b2) s.heap l1 l2).objs.size=s.heap.objs.size+2:=by rw [Heap.size_push,z1]
 have z3:(zH3 (aY b1) (aY b2) s.heap l1 l2).objs.size=s.heap.objs.size+3:=by rw [Heap.size_push,z2]
 have z4:(zH4 (aY b1) (aY b2) s.heap l1 l2).objs.size=s.heap.objs.size+4:=by rw [Heap.size_push,z3]
 have z5:(B0 (aY b1) (aY b2) s.heap l1 l2).objs.size=s.heap.objs.size+5:=by rw [Heap.size_push,z4]
 have g5:(B0 (aY b1) (aY b2) s.heap l1 l2).get? (zH4 (aY b1) (aY b2) s.heap l1 l2).objs.size=some _:=Heap.get?_push_size _ rfl;have g4:(B0 (aY b1) (aY b2) s.heap l1 l2).get? (zH3 (aY b1) (aY b2) s.heap l1 l2).objs.size=some _:=Heap.get?_push_of_some _ (Heap.get?_push_size _ rfl);have g3:(B0 (aY b1) (aY b2) s.heap l1 l2).get? (zH2 (aY b1) (aY b2) s.heap l1 l2).objs.size=some _:=Heap.get?_push_of_some _ (Heap.get?_push_of_some _ (Heap.get?_push_size _ rfl));have g2:(B0 (aY b1) (aY b2) s.heap l1 l2).get? (zH1 (aY b1) s.heap l1).objs.size=some _:=Heap.get?_push_of_some _ (Heap.get?_push_of_some _ (Heap.get?_push_of_some _ (Heap.get?_push_size _ rfl)));have g1:(B0 (aY b1) (aY b2) s.heap l1 l2).get? s.heap.objs.size=some _:=Heap.get?_push_of_some _ (Heap.get?_push_of_some _ (Heap.get?_push_of_some _ (Heap.get?_push_of_some _ (Heap.get?_push_size _ rfl))));show _/\_;rw [z2,z3,z4] at g5;rw [z1,z2] at g3;rw [z3] at g4;rw [z1] at g2;rw [z4];exact ⟨⟨_,g5,rfl⟩,h _ g5 g3 g4 (lR g1) (lR g2) z5 fun c o x=>
  Heap.get?_push_of_some _ (Heap.get?_push_of_some _ (Heap.get?_push_of_some _ (Heap.get?_push_of_some _ (Heap.get?_push_of_some _ x))))⟩
end
end L2
namespace L2
open PySem PySem.Spec PyProof.Rows
def kx(K:W.Frag)(b:Bool)(H:Hp)(a:Addr)(xs:List V):Prop:=if b=true then SqL K H a xs else gz K H a xs
section
variable {X:Cx}{pins:List (Addr×Obj)}{σ:St}{H:Hp}{s:Shared}{a:Addr}{xs ys:List V}{b:Bool}
theorem Inv.src(I:Inv X pins σ H s)(h:kx X.K b H a xs):∃its:List Value,Vals xs its/\SrcSq b s.heap a its.toArray/\xs.length<=sizeLine:=by
 cases b with
 |true=>obtain ⟨its,r,p,z⟩:=I.list (show SqL X.K H a xs from h);exact ⟨its,r,p.isList,z⟩
 |false=>obtain ⟨its,r,p,z⟩:=I.tuple (show gz X.K H a xs from h);exact ⟨its,r,p,z⟩
theorem Inv.src_inj(I:Inv X pins σ H s)(h:kx X.K b H a xs)(h':kx X.K b H a ys):xs=ys:=by
 cases b with
 |true=>exact I.list_inj (show SqL X.K H a xs from h) h'
 |false=>exact I.tuple_inj (show gz X.K H a xs from h) h'
theorem Inv.src_ne(I:Inv X pins σ H s)(h:kx X.K b H a xs){it:Addr}(f:gs X pins H it):a≠it:=by
 obtain ⟨f0,f1,f2,f3,f4,f5⟩:=f;intro e;subst e;have kne:∀o,X.K.lookup a=some o->False:=fun o hk=>by
  have hb:=I.ok.mod.kin a o hk;rcases f3 with z|z
  ·exact I.ok.noex a o hb z
  ·exact absurd (Nat.lt_of_lt_of_le (Heap.lt_size (I.ok.bs a o hb).1) z) (Nat.lt_irrefl _)
 cases b with
 |true=>
  rcases (show SqL X.K H a xs from h) with (z|⟨o,z⟩)|⟨o,_,_,hk,_⟩
  ·rw [f0] at z;cases z
  ·rw [f0] at z;cases z
  ·exact kne o hk
 |false=>
  rcases (show gz X.K H a xs from h) with (z|⟨o,z⟩)|⟨o,_,_,hk,_⟩
  ·rw [f0] at z;cases z
  ·rw [f0] at z;cases z
  ·exact kne o hk
end
def Itz(K:W.Frag)(b1 b2:Bool)(l1 l2:Addr):It:=
 ⟨fun i H=>∃xs ys x y,kx K b1 H l1 xs/\kx K b2 H l2 ys/\xs[i]?=some x/\ys[i]?=some y,
  fun i H v H'=>∃T x y,H T=none/\v=.ref T/\H'=upd H T (.tup [x,y])/\(∀xs,kx K b1 H l1 xs->xs[i]?=some x)/\(∀ys,kx K b2 H l2 ys->ys[i]?=some y),
  fun i H=>∃xs ys,kx K b1 H l1 xs/\kx K b2 H l2 ys/\(xs.length<=i\/ys.length<=i)⟩
theorem Inv.turned4{X:Cx}{pins:List (Addr×Obj)}{σ:St}{H:Hp}{s:Shared}{h':Heap}{t':Nat}{fp:List Addr}(I:Inv X pins σ H s)(hf:∀b∈fp,gs X pins H b)
  (k:∀b o,b∉fp->s.heap.get? b=some o->h'.get? b=some o):Inv X pins σ H { s with heap:=h',toks:=t' }:=by
 have nfp:∀b u,H b=some u->b∉fp:=fun b u e z=>by have:=(hf b z).1;rw [e] at this;cases this
 refine I.step (g':=s.gens) (d':=s.drawn) (ch:=fp) (fun b hb=>?_) (fun b o _ _ hc e _=>k b o hc e) (fun b o _ _ hc e _=>⟨o.slots,k b o hc e⟩) (fun _ _ _ _ n=>n)
  (fun b o hc e=>⟨o,k b o hc e⟩) (fun _ _ e=>e) (fun _ _ _ e=>e) (fun b ps e=>⟨#[],by rw [e];simp⟩) (fun m hm=>?_) (fun b u e=>?_) I.bare
 ·obtain ⟨f0,f1,f2,f3,f4,f5⟩:=hf b hb
  exact ⟨f3,f1,f4,f5⟩
 ·obtain ⟨o,es,ep,ho,r⟩:=hm
  exact ⟨o,es,ep,k _ o (fun z=>(hf _ z).2.1 rfl) ho,r⟩
 ·refine (I.hok b u e).stay (fun c v hc q=>k c v ?_ q) (fun _ q=>q) fun _ _ q=>q
  rcases hc with z|z
  ·rw [z];exact nfp b u e
  ·exact nfp c _ z
theorem Inv.turnedNew{X:Cx}{pins:List (Addr×Obj)}{σ:St}{H:Hp}{s:Shared}{h':Heap}{t':Nat}{fp:List Addr}{zs:List V}{us:List Value}{o':Obj}(I:Inv X pins σ H s)(hf:∀b∈fp,gs X pins H b)
  (k:∀b o,b∉fp->s.heap.get? b=some o->h'.get? b=some o) (hlt:∀b∈fp,∃o,s.heap.get? b=some o) (hlv:∀b∈fp,∃o,h'.get? b=some o) (hT:h'.get? s.heap.objs.size=some o') (hoc:o'.cls=.type "tuple") (hod:∃n,o'.data=.seq us.toArray n)
  (r:Vals zs us) (hdn:o'.dict=none) (hz:zs.length<=sizeLine):Inv X pins σ (upd H s.heap.objs.size (.tup zs)) { s with heap:=h',toks:=t' }:=by
 have hTn:H s.heap.objs.size=none:=I.hok.fresh (Nat.le_refl _);have nfp:∀b u,H b=some u->b∉fp:=fun b u e z=>by have:=(hf b z).1;rw [e] at this;cases this
 refine I.step (g':=s.gens) (d':=s.drawn) (ch:=fp) (fun b hb=>?_) (fun b o _ _ hc e _=>k b o hc e) (fun b o _ _ hc e _=>⟨o.slots,k b o hc e⟩) (fun b o _ e n=>by rw [upd_ne (Nat.ne_of_lt (Heap.lt_size e))];exact n)
  (fun b o hc e=>⟨o,k b o hc e⟩) (fun b zs' e=>by rw [upd_ne (bq e hTn)];exact e) (fun b o u e=>by rw [upd_ne (bq e hTn)];exact e) (fun b ps e=>⟨#[],by rw [upd_ne (bq e hTn),e];simp⟩) (fun m hm=>?_) (fun b u e=>?_) I.bare
 ·obtain ⟨f0,f1,f2,f3,f4,f5⟩:=hf b hb
  exact ⟨f3,f1,f4,f5⟩
 ·obtain ⟨o,es,ep,ho,r⟩:=hm
  exact ⟨o,es,ep,k _ o (fun z=>(hf _ z).2.1 rfl) ho,r⟩
 ·by_cases hb:b=s.heap.objs.size
  ·subst hb
   rw [upd_same] at e;cases e;obtain ⟨n,hd⟩:=hod;exact ⟨hz,us,r,⟨o',hT,⟨hoc,n,hd⟩,hdn⟩⟩
  ·rw [upd_ne hb] at e
   refine (I.hok b u e).stay (fun c v hc q=>k c v ?_ q) (fun c q=>by rw [upd_ne (bq q hTn)];exact q) fun c zs' q=>by rw [upd_ne (bq q hTn)];exact q
   rcases hc with z|z
   ·rw [z];exact nfp b u e
   ·exact nfp c _ z
theorem vS{P:Program}{w:World}{K:W.Frag}{elts:List Expr}{x1:Nat}{tp:Pos}(b1 b2:Bool)(l1 l2 z TI TO i1 i2:Addr)(D:ZApart z TI TO i1 i2):
  Turn P w K (.Tuple elts x1 tp) (Itz K b1 b2 l1 l2) [z,TI,TO,i1,i2] z (fun i h=>IsZip h z TI TO .none/\IsPair h TI (.ref i1) (.ref i2)/\(∃a b,IsPair h TO a b)/\SrcTn b1 i1 l1 i h/\SrcTn b2 i2 l2 i h) where
 mem:=by simp
 obj:=fun i h st b hb=>by
  obtain ⟨hz,hTI,⟨a,c,hTO⟩,h1,h2⟩:=st;have hb':b=z\/b=TI\/b=TO\/b=i1\/b=i2:=by simpa using hb
  rcases hb' with e|e|e|e|e<;>subst e
  ·exact ⟨_,hz,fun v q=>nomatch q⟩
  ·exact ⟨_,hTI,fun v q=>nomatch q⟩
  ·exact ⟨_,hTO,fun v q=>nomatch q⟩
  ·exact h1.lt
  ·exact h2.lt
 keep:=fun i h h' st k=>by
  obtain ⟨hz,hTI,⟨a,c,hTO⟩,h1,h2⟩:=st;exact ⟨k z (by simp) _ hz,k TI (by simp) _ hTI,⟨a,c,k TO (by simp) _ hTO⟩,h1.keep fun o e=>k i1 (by simp) o e,h2.keep fun o e=>k i2 (by simp) o e⟩
 item:=by
  intro X hP hw hK hc i pins s σ H E I hf st hg;subst hP hw hK;obtain ⟨xs,ys,x,y,q1,q2,hx,hy⟩:=hg;obtain ⟨hz,hTI,⟨a,c,hTO⟩,h1,h2⟩:=st;obtain ⟨its1,r1,s1,z1⟩:=I.src q1;obtain ⟨its2,r2,s2,z2⟩:=I.src q2;obtain ⟨u,hu,ru⟩:=r1.get hx;obtain ⟨v,hv,rv⟩:=r2.get hy;have O1:oy z TO i1 i2 l1:=⟨I.src_ne q1 (hf z (by simp)),I.src_ne q1 (hf TO (by simp)),I.src_ne q1 (hf i1 (by simp)),I.src_ne q1 (hf i2 (by simp))⟩
  have O2:oy z TO i1 i2 l2:=⟨I.src_ne q2 (hf z (by simp)),I.src_ne q2 (hf TO (by simp)),I.src_ne q2 (hf i1 (by simp)),I.src_ne q2 (hf i2 (by simp))⟩
  refine eF D O1 O2 hz hTI hTO h1 h2 s1 s2 (x:=u) (y:=v) (by simpa using hu) (by simpa using hv) fun h' a1 a2 a3 a4 a5 a6 hk=>?_
  refine ⟨_,rfl,wpAny_letOwnedTupleGo_zip a1 fun h'' hz'' hs''=>?_⟩;have hzs:z≠s.heap.objs.size:=Nat.ne_of_lt (Heap.lt_size hz);have kk:∀b o,b∉[z,TI,TO,i1,i2]->s.heap.get? b=some o->h''.get? b=some o:=fun b o hb e=>
   hs''.extBut b o (fun q=>hb (by simp [q])) (hk b o (fun q=>hb (by simp [q])) (fun q=>hb (by simp [q])) (fun q=>hb (by simp [q])) (fun q=>hb (by simp [q])) e)
  have hT:h''.get? s.heap.objs.size=some { cls:=.type "tuple",data:=.seq #[u,v] }:=hs''.extBut _ _ hzs.symm a5;have lv:∀b∈[z,TI,TO,i1,i2],∃o,s.heap.get? b=some o:=fun b hb=>by
   have hb':b=z\/b=TI\/b=TO\/b=i1\/b=i2:=by simpa using hb
   rcases hb' with e|e|e|e|e<;>subst e
   ·exact ⟨_,hz⟩
   ·exact ⟨_,hTI⟩
   ·exact ⟨_,hTO⟩
   ·obtain ⟨o,e,_⟩:=h1.lt;exact ⟨o,e⟩
   ·obtain ⟨o,e,_⟩:=h2.lt;exact ⟨o,e⟩
  have n1:SrcTn b1 i1 l1 (i+1) h'':=a3.keep fun o e=>hs''.extBut _ o D.i1z e;have n2:SrcTn b2 i2 l2 (i+1) h'':=a4.keep fun o e=>hs''.extBut _ o D.i2z e;have nTI:IsPair h'' TI (.ref i1) (.ref i2):=hs''.extBut _ _ D.TIz (hk _ _ D.TIz D.TITO D.TIi1 D.TIi2 hTI);have nTO:IsPair h'' TO u v:=hs''.extBut _ _ D.TOz a2;have lv':∀b∈[z,TI,TO,i1,i2],∃o,h''.get? b=some o:=fun b hb=>by
   have hb':b=z\/b=TI\/b=TO\/b=i1\/b=i2:=by simpa using hb
   rcases hb' with e|e|e|e|e<;>subst e
   ·exact ⟨_,hz''⟩
   ·exact ⟨_,nTI⟩
   ·exact ⟨_,nTO⟩
   ·obtain ⟨o,e,_⟩:=n1.lt;exact ⟨o,e⟩
   ·obtain ⟨o,e,_⟩:=n2.lt;exact ⟨o,e⟩
  have hTn:H s.heap.objs.size=none:=I.hok.fresh (Nat.le_refl _);refine ⟨.ref s.heap.objs.size,_,I.turnedNew (s:=s) (h':=h'') (t':=s.toks) (zs:=[x,y]) (us:=[u,v]) hf kk lv lv' hT rfl ⟨_,rfl⟩ (.cons ru (.cons rv .nil)) rfl (by show 2<=sizeLine;decide),rfl,⟨_,x,y,hTn,rfl,rfl,fun zs hzs'=>?_,fun zs hzs'=>?_⟩,⟨hz'',nTI,⟨_,_,nTO⟩,n1,n2⟩,fun b hb=>?_⟩
  ·rw [I.src_inj hzs' q1];exact hx
  ·rw [I.src_inj hzs' q2];exact hy
  ·obtain ⟨o,e⟩:=lv b hb
   rw [upd_ne (Nat.ne_of_lt (Heap.lt_size e))];exact (hf b hb).1
 done:=by
  intro X hP hw hK hc i pins s σ H E I hf st hg;subst hP hw hK;obtain ⟨xs,ys,q1,q2,hx⟩:=hg;obtain ⟨hz,hTI,⟨a,c,hTO⟩,h1,h2⟩:=st;obtain ⟨its1,r1,s1,z1⟩:=I.src q1;obtain ⟨its2,r2,s2,z2⟩:=I.src q2;have l1':=r1.length;have l2':=r2.length;have O1:oy z TO i1 i2 l1:=⟨I.src_ne q1 (hf z (by simp)),I.src_ne q1 (hf TO (by simp)),I.src_ne q1 (hf i1 (by simp)),I.src_ne q1 (hf i2 (by simp))⟩
  have O2:oy z TO i1 i2 l2:=⟨I.src_ne q2 (hf z (by simp)),I.src_ne q2 (hf TO (by simp)),I.src_ne q2 (hf i1 (by simp)),I.src_ne q2 (hf i2 (by simp))⟩
  refine jl (I.ok.hd hc) D O1 O2 hz hTI hTO h1 h2 s1 s2 ?_ fun h' hk=>⟨rfl,I.turned4 (t':=s.toks) hf fun b o hb e=>hk b o (fun q=>hb (by simp [q])) (fun q=>hb (by simp [q])) (fun q=>hb (by simp [q])) (fun q=>hb (by simp [q])) e⟩
  rcases hx with hx|hx
  ·exact .inl (by simp;lia)
  ·exact .inr (by simp;lia)
 self:=fun _ _ _ _ _ st h=>wpAny_pyIter_zip st.1 h
section
variable {X:Cx}
def Ite(K:W.Frag)(b:Bool)(l:Addr):It:=
 ⟨fun i H=>∃xs x,kx K b H l xs/\xs[i]?=some x,
  fun i H v H'=>∃T x,H T=none/\v=.ref T/\H'=upd H T (.tup [.int i,x])/\(∀xs,kx K b H l xs->xs[i]?=some x),
  fun i H=>∃xs,kx K b H l xs/\xs.length<=i⟩
end
section
variable {prog:Program}{w:World}{A:Around}{E:Value->Shared->Prop}{s:Shared}
theorem Draws.src(hh:A.handled=none)(b:Bool)(it l:Addr)(hne:l≠it)(items:Array Value):
  Draws prog w A it [it,l] items.size (fun i v=>items[i]?=some v) (fun i h=>SrcTn b it l i h/\SrcSq b h l items) where
 live:=fun _ _ st=>let ⟨o,ho,_⟩:=st.1.lt;⟨o,ho⟩
 frame:=fun _ _ _ st hk=>⟨st.1.keep fun o e=>hk it (by simp) o e,st.2.keep fun o e=>hk l (by simp) o e⟩
 item:=fun i s Q E hi st hQ=>by
  refine bH st.1 st.2 (x:=items[i]) (by simp [hi]) fun h' hit' hs'=>?_
  exact hQ _ h' s.toks (by simp [hi]) ⟨hit',st.2.keep fun o e=>hs'.extBut _ o hne e⟩ hs'
 done:=fun s Q E st hE=>ca hh st.1 st.2 (by simp) hE
theorem oQ(b:Bool)(l:Addr)(items:Array Value):
  Meets (Builtin.«enumerate.__new__» ⟨[.type "enumerate",.ref l],[]⟩) (fun _ R s=>SrcSq b s.heap l items/\
   R (.ok (.ret (.ref (s.heap.push { cls:=.type (aY b),data:=.fields #[.ref l,.int 0 0] }).objs.size)))
    { s with heap:=(s.heap.push { cls:=.type (aY b),data:=.fields #[.ref l,.int 0 0] }).push { cls:=.type "enumerate",data:=.fields #[.none,.bool false,.ref s.heap.objs.size,rawInt 0,.none,.none] } }):=
 .of_wp fun prog w A R s h=>by
  obtain ⟨hp,g,d,tk,os⟩:=s;obtain ⟨hl,h⟩:=h;have hsub:=sub_enumerate;have hL:SrcSq b (Shared.heap ⟨hp,g,d,tk,os⟩) l items:=hl
  wp_walk
  refine wpAny_stack_any fun st=>wpAny_pure ?_
  split
  ·rename_i c _ _ _ _ _
   cases (c==Value.type "enumerate")
   ·wp_walk using db hL
    exact ⟨_,rfl,h⟩
   ·wp_walk using db hL
    exact ⟨_,rfl,h⟩
  ·wp_walk using db hL
   exact ⟨_,rfl,h⟩
theorem sI{b:Bool}{l:Addr}{items:Array Value}{Q:Value->Shared->Prop}(hL:SrcSq b s.heap l items)
  (h:∀h',IsEnum h' (s.heap.objs.size+1) s.heap.objs.size 0 .none->SrcTn b s.heap.objs.size l 0 h'->h'.objs.size=s.heap.objs.size+2->
   (∀b o,s.heap.get? b=some o->h'.get? b=some o)->Q (.ref (s.heap.objs.size+1)) { s with heap:=h' }):
  wpAny (model prog w) A (call (.type "enumerate") [.ref l]) Q E s:=by
 refine callType_new F.called_enumerate (by decide) (F.typeCall_enumerate_1 _) (F.newCall_enumerate_1 _) (fun obj=>F.args_object_init_2 obj _) F.entry_enumerate_new (oQ b l items) ⟨hL,?_⟩
 have hz:(s.heap.push { cls:=.type (aY b),data:=.fields #[.ref l,.int 0 0] }).objs.size=s.heap.objs.size+1:=Heap.size_push ..;show _/\_;rw [hz]
 have he:IsEnum ((s.heap.push { cls:=.type (aY b),data:=.fields #[.ref l,.int 0 0] }).push
   { cls:=.type "enumerate",data:=.fields #[.none,.bool false,.ref s.heap.objs.size,rawInt 0,.none,.none] }) (s.heap.objs.size+1) s.heap.objs.size 0 .none:=by
  have:=Heap.get?_push_size (s.heap.push { cls:=.type (aY b),data:=.fields #[.ref l,.int 0 0] })
   (o:={ cls:=.type "enumerate",data:=.fields #[.none,.bool false,.ref s.heap.objs.size,rawInt 0,.none,.none] }) rfl
  rw [hz] at this;exact this
 refine ⟨⟨_,he,rfl⟩,h _ he (lR (Heap.get?_push_of_some _ (Heap.get?_push_size _ rfl))) (by rw [Heap.size_push,hz]) fun b o x=>Heap.get?_push_of_some _ (Heap.get?_push_of_some _ x)⟩
end
theorem sQ{P:Program}{w:World}{K:W.Frag}{elts:List Expr}{x1:Nat}{tp:Pos}(b:Bool)(l e it:Addr)(hei:e≠it):
  Turn P w K (.Tuple elts x1 tp) (Ite K b l) [e,it] e (fun i h=>(∃old,IsEnum h e it i old)/\SrcTn b it l i h) where
 mem:=by simp
 obj:=fun i h st c hc=>by
  obtain ⟨⟨old,he⟩,h1⟩:=st;have hc':c=e\/c=it:=by simpa using hc
  rcases hc' with q|q<;>subst q
  ·exact ⟨_,he,fun v z=>nomatch z⟩
  ·exact h1.lt
 keep:=fun i h h' st k=>by
  obtain ⟨⟨old,he⟩,h1⟩:=st;exact ⟨⟨old,k e (by simp) _ he⟩,h1.keep fun o q=>k it (by simp) o q⟩
 item:=by
  intro X hP hw hK hc i pins s σ H E I hf st hg;subst hP hw hK;obtain ⟨xs,x,q1,hx⟩:=hg;obtain ⟨⟨old,he⟩,h1⟩:=st;obtain ⟨its,r,sq,z1⟩:=I.src q1;obtain ⟨u,hu,ru⟩:=r.get hx;have hle:l≠e:=I.src_ne q1 (hf e (by simp))
  have hli:l≠it:=I.src_ne q1 (hf it (by simp))
  have hil:i<its.toArray.size:=by
   rw [List.size_toArray,<- r.length];exact (List.getElem?_eq_some_iff.mp hx).1
  have D:Draws X.prog X.w X.A.in1 it [it,l] its.toArray.size (fun i v=>its.toArray[i]?=some v) (fun i h=>SrcTn b it l i h/\SrcSq b h l its.toArray):=Draws.src (A:=X.A.in1) (I.ok.hd hc) b it l hli its.toArray;refine wpAny_pyNext_enum_itemD D he ⟨h1,sq⟩ hil hei (by simp [hei,Ne.symm hle]) fun v h' tk hv ho hs' hT hsz hk=>?_
  have ev:v=u:=by
   have hu':its.toArray[i]?=some u:=by simpa using hu
   rw [hu'] at hv;exact (Option.some.inj hv).symm
  subst ev;refine ⟨_,rfl,wpAny_letOwnedTupleGo_enum ho fun h'' he'' hs''=>?_⟩;have hes:e≠s.heap.objs.size:=Nat.ne_of_lt (Heap.lt_size he);have n1:SrcTn b it l (i+1) h'':=hs'.1.keep fun o q=>hs''.extBut _ o hei.symm q;have kk:∀c o,c∉[e,it]->s.heap.get? c=some o->h''.get? c=some o:=fun c o hc q=>
   hs''.extBut c o (fun z=>hc (by simp [z])) (hk c o (fun z=>hc (by simp [z])) (fun z=>hc (by simp [z])) q)
  have hT':h''.get? s.heap.objs.size=some { cls:=.type "tuple",data:=.seq #[.int i tk,v] }:=hs''.extBut _ _ hes.symm hT;have lv:∀c∈[e,it],∃o,s.heap.get? c=some o:=fun c hc=>by
   have hc':c=e\/c=it:=by simpa using hc
   rcases hc' with q|q<;>subst q
   ·exact ⟨_,he⟩
   ·obtain ⟨o,q,_⟩:=h1.lt;exact ⟨o,q⟩
  have lv':∀c∈[e,it],∃o,h''.get? c=some o:=fun c hc=>by
   have hc':c=e\/c=it:=by simpa using hc
   rcases hc' with q|q<;>subst q
   ·exact ⟨_,he''⟩
   ·obtain ⟨o,q,_⟩:=n1.lt;exact ⟨o,q⟩
  have hTn:H s.heap.objs.size=none:=I.hok.fresh (Nat.le_refl _);refine ⟨.ref s.heap.objs.size,_,I.turnedNew (s:=s) (h':=h'') (t':=tk+1) (zs:=[.int i,x]) (us:=[.int i tk,v]) hf kk lv lv' hT' rfl ⟨_,rfl⟩ (.cons ⟨tk,rfl⟩ (.cons ru .nil)) rfl (by show 2<=sizeLine;decide),rfl,⟨_,x,hTn,rfl,rfl,fun zs hzs'=>?_⟩,⟨⟨v,by simpa using he''⟩,n1⟩,fun c hc=>?_⟩
  ·rw [I.src_inj hzs' q1];exact hx
  ·obtain ⟨o,q⟩:=lv c hc
   rw [upd_ne (Nat.ne_of_lt (Heap.lt_size q))];exact (hf c hc).1
 done:=by
  intro X hP hw hK hc i pins s σ H E I hf st hg;subst hP hw hK;obtain ⟨xs,q1,hx⟩:=hg;obtain ⟨⟨old,he⟩,h1⟩:=st;obtain ⟨its,r,sq,z1⟩:=I.src q1;have hli:l≠it:=I.src_ne q1 (hf it (by simp))
  have hT:s.TypeIs (.ref e) "enumerate":=⟨_,he,rfl⟩;have hl:=r.length;unfold pyNext
  refine wpAny_bind (wpAny_attempt (wpAny_callSpecial?_slot (name:=Str.ofString "__next__") hT F.slot_enumerate_next
   (wpAny_call_entry F.slot_enumerate_next hT F.entry_enumerate_next ?_ (F.args_enumerate_next_1 _))))
  show wpAny _ _ (field (.ref e) 2 >>= _) _ _ _;refine wpAny_bind (wpAny_field he rfl (x:=.ref it) rfl ?_);refine wpAny_bind (ca (I.ok.hd hc) h1 sq (by simp;lia) fun h' x he' hx'=>?_)
  obtain ⟨o,ho,hcl⟩:=hx';refine wpAny_bind (wpAny_isInstance (T:="StopIteration") (b:=true) ⟨o,ho,hcl⟩ isSubtype_stop ?_);exact wpAny_pure ⟨rfl,I.turned4 (t':=s.toks) hf fun c o' hc' q=>he' c o' (fun z=>hc' (by simp [z])) q⟩
 self:=fun _ _ _ _ _ st h=>let ⟨⟨_,he⟩,_⟩:=st;wpAny_pyIter_enum he h
section
variable {X:Cx}
theorem o4:cr X (.builtin "isinstance") (fun xs H Q=>∃x T t b,xs=[x,.ty T]/\TyOf X.K H x t/\W.kitOne X.K t (.type T)=some b/\Q (.bl b) H):=by
 intro pins s σ H xs us Q I r h;obtain ⟨x,T,t,b,rfl,ty,e,q⟩:=h;obtain ⟨u,c,rfl,rx,rc⟩:=r.two;obtain rfl:c=Value.type T:=rc;exact sX I rx ty e fun tk=>⟨.bl b,H,I.tok tk,rfl,q⟩
end
end L2
namespace L2
open PySem PySem.Spec PyProof.Rows
abbrev wB(h:Heap)(z TI TO:Addr)(f0:Value)(f1:Bool):Prop:=
 h.get? z=some { cls:=.type "zip",dict:=none,data:=.fields #[f0,.bool f1,.bool false,.ref TI,.ref TO],slots:=#[] }
theorem dX:entryFor table "zip.__getattribute__"=some Builtin.«object.__getattribute__»:=
 entryFor_alias (id':="object.__getattribute__") (by kernel_rfl) (by decide +kernel) (by decide +kernel) (by kernel_rfl)
theorem gr:typeLookup (.type "zip") "__getattr__"=pure none:=by rw [typeLookup_type,builtinLookup_eq_fast];kernel_rfl
theorem nV:typeLookup (.type "zip") "keys"=pure none:=by rw [typeLookup_type,builtinLookup_eq_fast];kernel_rfl
theorem cw:entryFor table "dict.update.loop"=some Builtin.«dict.update.loop»:=entryFor_of_fast (by kernel_rfl)
theorem bt:plainId "dict.update.loop"=true:=by decide +kernel
theorem jd(a TI TO:Addr)(f0:Value)(f1:Bool)(name:Str)(u:Tok)(hmiss:typeLookup (.type "zip") name=pure none)(hname:(["__module__","__name__","__qualname__","__doc__","__annotations__"]:List Str).contains name=false)(hsz:name.length+100<=sizeLine:=by size_fits):
  Meets (Builtin.«object.__getattribute__» ⟨[.ref a,.str name u],[]⟩) (fun A R s=>wB s.heap a TI TO f0 f1/\raisesAttr (.ref a) name A R s):=
 Meets.of_wp fun prog w A R s hs=>by
  obtain ⟨hp,g,d,tk,os⟩:=s;obtain ⟨hx,hs⟩:=hs;have hT:(⟨hp,g,d,tk,os⟩:Shared).TypeIs (.ref a) "zip":=⟨_,hx,rfl⟩;unfold Builtin.«object.__getattribute__»
  repeat (any_goals (first|assumption|wp_step))
  simp only [hname,Bool.false_eq_true,if_false]
  repeat (any_goals (first|assumption|wp_step))
  exact wpAny_raiseAttrError hs.1 hs.2 (attrMsg_fits (by decide +kernel) hsz)
section
variable {prog:Program}{w:World}{A:Around}{E:Value->Shared->Prop}{s:Shared}
theorem jD{a TI TO:Addr}{f0:Value}{f1:Bool}{Q:Option Value->Shared->Prop}(hx:wB s.heap a TI TO f0 f1)(hA:A.handled=none)
  (h:∀h' tk,(∀b o,s.heap.get? b=some o->h'.get? b=some o)->Q none { s with heap:=h',toks:=tk }):wpAny (model prog w) A (getAttr? (.ref a) "keys") Q E s:=by
 obtain ⟨hp,g,d,tk,os⟩:=s;have hT:∀tk',(⟨hp,g,d,tk',os⟩:Shared).TypeIs (.ref a) "zip":=fun _=>⟨_,hx,rfl⟩;have f1':=sub_AttributeError;have f3:=F.slot_zip_getattribute.lookup;have f4:=F.slot_zip_getattribute.bind (.ref a);have f5:=gr;unfold getAttr? getAttrBy? getAttrBy
 repeat (any_goals (first|assumption|exact hT _|((with_reducible show wpAny _ _ (call (Value.builtin "zip.__getattribute__") _ _) _ _ _);refine call_meets F.slot_zip_getattribute (hT _) dX (F.args_zip_getattribute_2 _ _) (jd a TI TO f0 f1 "keys" _ nV (by decide +kernel) (by decide +kernel)) ⟨hx,hA,fun h' tk' e hx'=>?_⟩)|wp_step))
 obtain ⟨t',u',he⟩:=hx'.there;show wpAny _ _ (getattributeRaised _ _ _ _ _ _ _) _ _ _;unfold getattributeRaised
 repeat (any_goals (first|assumption|wp_step))
 exact h _ _ hx'.keeps
theorem iO{M:Model}{a:Addr}{o:Obj}{Q:Option Obj->Shared->Prop}(ho:s.heap.get? a=some o)(h:Q (some o) s):wpAny M A (loadIfAlive a) Q E s:=fun Γ p _=>by
 show Sem.wp M Γ (.loadIfAlive a .pure) _ _ p s;rw [Sem.wp_loadIfAlive,ho];exact h
end
end L2
namespace L2
open PySem PySem.Spec PyProof.Rows
section
variable {prog:Program}{w:World}{A:Around}{E:Value->Shared->Prop}{s:Shared}
theorem sj{b1 b2 f1:Bool}{z TI TO T i1 i2 l1 l2:Addr}{k1 k2:Nat}{xs ys:Array Value}{x y:Value}{oT:Obj}{Q:Value->Shared->Prop}(D:ZApart z TI TO i1 i2)(O1:l1≠z/\l1≠i1)(O2:l2≠z/\l2≠i1/\l2≠i2)
  (hz:wB s.heap z TI TO (rawInt T) f1) (hT:s.heap.get? T=some oT) (hTI:IsPair s.heap TI (.ref i1) (.ref i2))
  (h1:SrcTn b1 i1 l1 k1 s.heap) (h2:SrcTn b2 i2 l2 k2 s.heap) (hl1:SrcSq b1 s.heap l1 xs) (hl2:SrcSq b2 s.heap l2 ys) (hx:xs[k1]?=some x) (hy:ys[k2]?=some y)
  (hQ:∀h',wB h' z TI TO (rawInt T) true->SrcTn b1 i1 l1 (k1+1) h'->SrcTn b2 i2 l2 (k2+1) h'->IsPair h' s.heap.objs.size x y->h'.objs.size=s.heap.objs.size+1->
   (∀c o,c≠z->c≠i1->c≠i2->s.heap.get? c=some o->h'.get? c=some o)->Q (.ref s.heap.objs.size) { s with heap:=h' }):
  wpAny (model prog w) A (Builtin.«zip.__next__» ⟨[.ref z],[]⟩) (fun fin s'=>∃v,fin=.done (.ret v)/\Q v s') E s:=by
 show wpAny _ _ (field (.ref z) 2 >>= _) _ _ _;refine wpAny_bind (wpAny_field hz rfl (x:=.bool false) rfl ?_);show wpAny _ _ (field (.ref z) 3 >>= _) _ _ _;refine wpAny_bind (wpAny_field hz rfl (x:=.ref TI) rfl ?_);refine wpAny_bind (wpAny_seqItems hTI rfl ?_);show wpAny _ _ (Builtin.SmallTypes.ownedTupleIsFree (.ref z) >>= _) _ _ _;refine wpAny_bind ?_;unfold Builtin.SmallTypes.ownedTupleIsFree;refine wpAny_bind (wpAny_field hz rfl (x:=rawInt T) rfl ?_);show wpAny _ _ (loadIfAlive _ >>= _) _ _ _;refine wpAny_bind (iO (o:=oT) (by simpa using hT) ?_)
 simp only [Option.isNone_some,Bool.false_eq_true,if_false];refine wpAny_bind (wpAny_field hz rfl (x:=.bool f1) rfl ?_)
 have go:wpAny (model prog w) A (if (Value.bool f1 != Value.bool true)=true then do setField (Value.ref z) 1 (Value.bool true);pure false else pure false)
   (fun a s'=>a=false/\∃h₀,s'={ s with heap:=h₀ }/\wB h₀ z TI TO (rawInt T) true/\(∀c o,c≠z->s.heap.get? c=some o->h₀.get? c=some o)/\h₀.objs.size=s.heap.objs.size) E s:=by
  cases f1 with
  |true=>
   rw [if_neg (by decide)]
   exact wpAny_pure ⟨rfl,s.heap,rfl,hz,fun _ _ _ e=>e,rfl⟩
  |false=>
   rw [if_pos (by decide)]
   refine wpAny_bind (wpAny_setField_rec hz (by simp) fun h₀ hz₀ hs₀=>wpAny_pure ⟨rfl,h₀,rfl,hz₀,fun c o hc e=>hs₀.extBut c o hc e,hs₀.1⟩)
 refine wpAny_mono go (fun a s' hq=>?_) fun _ _ e=>e;obtain ⟨rfl,h₀,rfl,hz₀,hk₀,hs₀⟩:=hq;simp only [Bool.false_eq_true,if_false];rw [<- Array.forIn_toList];simp only [List.forIn_cons,List.forIn_nil];refine wpAny_bind (wpAny_bind (wpAny_bind (wpAny_holding ?_)));show wpAny _ _ (Builtin.SmallTypes.nextOf (.ref i1) >>= _) _ _ _;refine wpAny_bind (bH (s:={ s with heap:=h₀ }) (h1.keep fun o e=>hk₀ _ o D.i1z e) (hl1.keep fun o e=>hk₀ _ o O1.1 e) hx fun h₂ h1₂ hs₂=>wpAny_pure ?_);refine wpAny_pure ?_;refine wpAny_bind (wpAny_bind (wpAny_holding ?_));show wpAny _ _ (Builtin.SmallTypes.nextOf (.ref i2) >>= _) _ _ _;refine wpAny_bind (bH (s:={ s with heap:=h₂ }) (h2.keep fun o e=>hs₂.extBut _ o D.i12.symm (hk₀ _ o D.i2z e)) (hl2.keep fun o e=>hs₂.extBut _ o O2.2.1 (hk₀ _ o O2.1 e)) hy fun h₃ h2₃ hs₃=>wpAny_pure ?_);refine wpAny_pure (wpAny_pure ?_);refine wpAny_bind (wpAny_newTuple (wpAny_pure ⟨_,rfl,?_⟩) (by show 2<=sizeLine;decide))
 have e2:h₂.objs.size=h₀.objs.size:=hs₂.1;have e3:h₃.objs.size=h₂.objs.size:=hs₃.1;have hsz:h₃.objs.size=s.heap.objs.size:=by rw [e3,e2,hs₀]
 have zl:z≠i1:=D.i1z.symm;have zl2:z≠i2:=D.i2z.symm;show Q (.ref h₃.objs.size) _;rw [hsz];refine hQ _ (Heap.get?_push_of_some _ (hs₃.extBut _ _ zl2 (hs₂.extBut _ _ zl hz₀))) (h1₂.keep fun o e=>Heap.get?_push_of_some _ (hs₃.extBut _ o D.i12 e)) (h2₃.keep fun o e=>Heap.get?_push_of_some _ e) ?_ ?_ fun c o c1 c2 c3 e=>Heap.get?_push_of_some _ (hs₃.extBut _ _ c3 (hs₂.extBut _ _ c2 (hk₀ c o c1 e)))
 ·rw [<- hsz]
  exact Heap.get?_push_size _ rfl
 ·rw [Heap.size_push,hsz]
theorem u5{b1 b2 f1:Bool}{z TI TO T i1 i2 l1 l2:Addr}{k1 k2:Nat}{xs ys:Array Value}{oT:Obj}{Q:Fin->Shared->Prop}(hh:A.handled=none)(D:ZApart z TI TO i1 i2)(O1:l1≠z/\l1≠i1)
  (hz:wB s.heap z TI TO (rawInt T) f1) (hT:s.heap.get? T=some oT) (hTI:IsPair s.heap TI (.ref i1) (.ref i2))
  (h1:SrcTn b1 i1 l1 k1 s.heap) (hl1:SrcSq b1 s.heap l1 xs) (hx:xs[k1]?=none)
  (hE:∀h' e,(∀c o,c≠z->c≠i1->s.heap.get? c=some o->h'.get? c=some o)->(∃o,h'.get? e=some o/\o.cls=.type "StopIteration")->E (.ref e) { s with heap:=h' }):
  wpAny (model prog w) A (Builtin.«zip.__next__» ⟨[.ref z],[]⟩) Q E s:=by
 show wpAny _ _ (field (.ref z) 2 >>= _) _ _ _;refine wpAny_bind (wpAny_field hz rfl (x:=.bool false) rfl ?_);show wpAny _ _ (field (.ref z) 3 >>= _) _ _ _;refine wpAny_bind (wpAny_field hz rfl (x:=.ref TI) rfl ?_);refine wpAny_bind (wpAny_seqItems hTI rfl ?_);show wpAny _ _ (Builtin.SmallTypes.ownedTupleIsFree (.ref z) >>= _) _ _ _;refine wpAny_bind ?_;unfold Builtin.SmallTypes.ownedTupleIsFree;refine wpAny_bind (wpAny_field hz rfl (x:=rawInt T) rfl ?_);show wpAny _ _ (loadIfAlive _ >>= _) _ _ _;refine wpAny_bind (iO (o:=oT) (by simpa using hT) ?_)
 simp only [Option.isNone_some,Bool.false_eq_true,if_false];refine wpAny_bind (wpAny_field hz rfl (x:=.bool f1) rfl ?_)
 have go:wpAny (model prog w) A (if (Value.bool f1 != Value.bool true)=true then do setField (Value.ref z) 1 (Value.bool true);pure false else pure false)
   (fun a s'=>a=false/\∃h₀,s'={ s with heap:=h₀ }/\(∀c o,c≠z->s.heap.get? c=some o->h₀.get? c=some o)) E s:=by
  cases f1 with
  |true=>
   rw [if_neg (by decide)]
   exact wpAny_pure ⟨rfl,s.heap,rfl,fun _ _ _ e=>e⟩
  |false=>
   rw [if_pos (by decide)]
   refine wpAny_bind (wpAny_setField_rec hz (by simp) fun h₀ hz₀ hs₀=>wpAny_pure ⟨rfl,h₀,rfl,fun c o hc e=>hs₀.extBut c o hc e⟩)
 refine wpAny_mono go (fun a s' hq=>?_) fun _ _ e=>e;obtain ⟨rfl,h₀,rfl,hk₀⟩:=hq;simp only [Bool.false_eq_true,if_false];rw [<- Array.forIn_toList];simp only [List.forIn_cons,List.forIn_nil];refine wpAny_bind (wpAny_bind (wpAny_bind (wpAny_holding ?_)));show wpAny _ _ (Builtin.SmallTypes.nextOf (.ref i1) >>= _) _ _ _;exact wpAny_bind (ca (s:={ s with heap:=h₀ }) hh (h1.keep fun o e=>hk₀ _ o D.i1z e) (hl1.keep fun o e=>hk₀ _ o O1.1 e) hx fun h₂ e hs₂ he=>hE h₂ e (fun c o c1 c2 q=>hs₂ _ _ c2 (hk₀ c o c1 q)) he)
theorem gx{b1 b2 f1:Bool}{z TI TO T i1 i2 l1 l2:Addr}{k1 k2:Nat}{xs ys:Array Value}{x y:Value}{oT:Obj}{Q:Option Value->Shared->Prop}(D:ZApart z TI TO i1 i2)(O1:l1≠z/\l1≠i1)(O2:l2≠z/\l2≠i1/\l2≠i2)
  (hz:wB s.heap z TI TO (rawInt T) f1) (hT:s.heap.get? T=some oT) (hTI:IsPair s.heap TI (.ref i1) (.ref i2))
  (h1:SrcTn b1 i1 l1 k1 s.heap) (h2:SrcTn b2 i2 l2 k2 s.heap) (hl1:SrcSq b1 s.heap l1 xs) (hl2:SrcSq b2 s.heap l2 ys) (hx:xs[k1]?=some x) (hy:ys[k2]?=some y)
  (hQ:∀h',wB h' z TI TO (rawInt T) true->SrcTn b1 i1 l1 (k1+1) h'->SrcTn b2 i2 l2 (k2+1) h'->IsPair h' s.heap.objs.size x y->h'.objs.size=s.heap.objs.size+1->
   (∀c o,c≠z->c≠i1->c≠i2->s.heap.get? c=some o->h'.get? c=some o)->Q (some (.ref s.heap.objs.size)) { s with heap:=h' }):wpAny (model prog w) A (pyNext (.ref z)) Q E s:=by
 have hTy:s.TypeIs (.ref z) "zip":=⟨_,hz,rfl⟩;unfold pyNext
 exact wpAny_bind (wpAny_attempt (wpAny_callSpecial?_slot (name:=Str.ofString "__next__") hTy F.slot_zip_next
  (wpAny_call_entry F.slot_zip_next hTy F.entry_zip_next (sj D O1 O2 hz hT hTI h1 h2 hl1 hl2 hx hy fun h' a1 a2 a3 a4 a5 a6=>wpAny_pure (hQ h' a1 a2 a3 a4 a5 a6)) (F.args_zip_next_1 _))))
theorem hG{b1 f1:Bool}{z TI TO T i1 i2 l1:Addr}{k1:Nat}{xs:Array Value}{oT:Obj}{Q:Option Value->Shared->Prop}(hh:A.handled=none)(D:ZApart z TI TO i1 i2)(O1:l1≠z/\l1≠i1)
  (hz:wB s.heap z TI TO (rawInt T) f1) (hT:s.heap.get? T=some oT) (hTI:IsPair s.heap TI (.ref i1) (.ref i2)) (h1:SrcTn b1 i1 l1 k1 s.heap) (hl1:SrcSq b1 s.heap l1 xs) (hx:xs[k1]?=none)
  (hQ:∀h',(∀c o,c≠z->c≠i1->s.heap.get? c=some o->h'.get? c=some o)->Q none { s with heap:=h' }):wpAny (model prog w) A (pyNext (.ref z)) Q E s:=by
 have hTy:s.TypeIs (.ref z) "zip":=⟨_,hz,rfl⟩;unfold pyNext
 refine wpAny_bind (wpAny_attempt (wpAny_callSpecial?_slot (name:=Str.ofString "__next__") hTy F.slot_zip_next
  (wpAny_call_entry F.slot_zip_next hTy F.entry_zip_next (u5 (b2:=true) (l2:=l1) (k2:=0) (ys:=#[]) hh D O1 hz hT hTI h1 hl1 hx fun h' e hk he=>?_) (F.args_zip_next_1 _))))
 obtain ⟨o,ho,hc⟩:=he;refine wpAny_bind (wpAny_isInstance (T:="StopIteration") (b:=true) ⟨o,ho,hc⟩ isSubtype_stop ?_);exact wpAny_pure (hQ _ hk)
end
theorem s_{prog:Program}{w:World}{K:Type}[DecidableEq K]{knd:KeyKind prog w K}{A:Around}{R:Result->Shared->Prop}{b1 b2:Bool}{z TI TO T i1 i2 l1 l2 d:Addr}{xs ys:List Value}{ks:List K}(hh:A.handled=none)(D:ZApart z TI TO i1 i2)
  (O1:l1≠z/\l1≠i1/\l1≠i2/\l1≠d) (O2:l2≠z/\l2≠i1/\l2≠i2/\l2≠d) (Od:d≠z/\d≠i1/\d≠i2/\d≠TI/\d≠T) (OT:T≠z/\T≠i1/\T≠i2)
  (hk:Paired (fun k v=>knd.is k v=true) ks xs) (hl:xs.length=ys.length) (hz:xs.length<=1000):
  ∀(n i:Nat) (s:Shared) (f1:Bool) (kvs:List (K×Value)),n=xs.length-i->i<=xs.length->kvs.length<=i->wB s.heap z TI TO (rawInt T) f1->(∃oT,s.heap.get? T=some oT)->IsPair s.heap TI (.ref i1) (.ref i2)->
   SrcTn b1 i1 l1 i s.heap->SrcTn b2 i2 l2 i s.heap->SrcSq b1 s.heap l1 xs.toArray->SrcSq b2 s.heap l2 ys.toArray->s.heap.DictOf knd d kvs->
   (∀s':Shared,s'.os=s.os->s'.gens=s.gens->s'.drawn=s.drawn->s'.heap.DictOf knd d (((ks.zip ys).drop i).foldl (fun a p=>stored a p.1 p.2) kvs)->(∀c o,c≠z->c≠i1->c≠i2->c≠d->s.heap.get? c=some o->s'.heap.get? c=some o)->R (.ok (.ret .none)) s')->
   ∀tk:Nat,codeAny (model prog w) A (.builtin "dict.update.loop" ⟨[.ref d,.ref z,rawInt tk,.none],[]⟩) R s:=by
 intro n
 induction n with
 |zero=>
  intro i s f1 kvs hn hi hkl hzz hT hTI h1 h2 s1 s2 hd hR tk;obtain ⟨oT,hT⟩:=hT;have hin:i=xs.length:=by lia
  refine codeAny_builtin cw ?_;rw [Around.under_plainId bt _];show wpAny _ A.in1 (pyNext (.ref z) >>= _) _ _ s;refine wpAny_bind (hG hh D ⟨O1.1,O1.2.1⟩ hzz hT hTI h1 s1 (by simp;lia) fun h' hk'=>?_)
  refine wpAny_bind (m:=Builtin.Dict.addKeywords d []) (wpAny_pure ?_);refine wpAny_pure (hR _ rfl rfl rfl ?_ fun c o c1 c2 c3 c4 e=>hk' c o c1 c2 e);rw [List.drop_eq_nil_of_le (by have e:=Paired.length hk;rw [List.length_zip];lia)]
  obtain ⟨o,es,ep,ho,r⟩:=hd;exact ⟨o,es,ep,hk' d o Od.1 Od.2.1 ho,r⟩
 |succ n ih=>
  intro i s f1 kvs hn hi hkl hzz hT hTI h1 h2 s1 s2 hd hR tk;obtain ⟨oT,hT⟩:=hT;have hlt:i<xs.length:=by lia
  have hlt2:i<ys.length:=by lia
  refine codeAny_builtin cw ?_;rw [Around.under_plainId bt _];show wpAny _ A.in1 (pyNext (.ref z) >>= _) _ _ s;refine wpAny_bind (gx (x:=xs[i]) (y:=ys[i]) D ⟨O1.1,O1.2.1⟩ ⟨O2.1,O2.2.1,O2.2.2.1⟩ hzz hT hTI h1 h2 s1 s2 (by simp [hlt]) (by simp [hlt2]) fun h' a1 a2 a3 a4 a5 hk'=>?_)
  have hTy:({ s with heap:=h' }:Shared).TypeIs (.ref s.heap.objs.size) "tuple":=⟨_,a4,rfl⟩;refine wpAny_bind (wpAny_holding (wpAny_bind (wpAny_tryCatch ?_)));unfold Builtin.Dict.pairItems;refine wpAny_bind (wpAny_typeOf hTy ?_);rw [if_pos (by decide)]
  refine wpAny_bind (wpAny_seqItems (s:={ s with heap:=h' }) a4 rfl (wpAny_pure ?_));have hd':h'.DictOf knd d kvs:=by
   obtain ⟨o,es,ep,ho,r⟩:=hd;exact ⟨o,es,ep,hk' d o Od.1 Od.2.1 Od.2.2.1 ho,r⟩
  have hks:i<ks.length:=by rw [Paired.length hk];exact hlt
  have hkey:knd.is ks[i] xs[i]=true:=by
   have:∀{l₁:List K} {l₂:List Value},Paired (fun k v=>knd.is k v=true) l₁ l₂->∀(j:Nat) (h1:j<l₁.length) (h2:j<l₂.length),knd.is l₁[j] l₂[j]=true:=by
    intro l₁ l₂ p
    induction p with
    |nil=>intro j h1;exact absurd h1 (Nat.not_lt_zero _)
    |cons r _ ihp=>
     intro j h1 h2;cases j with
     |zero=>exact r
     |succ j=>exact ihp j (by simpa using h1) (by simpa using h2)
   exact this hk i hks hlt
  have hkz:kvs.length<=sizeLine:=Nat.le_trans (Nat.le_trans hkl hi) (Nat.le_trans hz (by decide))
  show wpAny _ _ (holding [xs[i],ys[i]] (dictSet d xs[i] ys[i])) _ _ _;refine wpAny_holding (wpAny_dictSet_pairs (s:={ s with heap:=h' }) hkey hd' (fun h'' hd'' hs''=>?_) hkz);have kk:∀c o,c≠z->c≠i1->c≠i2->c≠d->s.heap.get? c=some o->h''.get? c=some o:=fun c o c1 c2 c3 c4 e=>hs''.extBut c o c4 (hk' c o c1 c2 c3 e);refine wpAny_pure ⟨plainId_quiet bt _,?_⟩;have hst:(stored kvs ks[i] ys[i]).length<=i+1:=by
   unfold stored
   split
   ·rw [List.length_map];lia
   ·rw [List.length_append,List.length_singleton];lia
  refine ih (i+1) { s with heap:=h'',toks:=s.toks+1 } true (stored kvs ks[i] ys[i]) (by lia) hlt hst (hs''.extBut _ _ Od.1.symm a1) ⟨oT,kk T oT OT.1 OT.2.1 OT.2.2 Od.2.2.2.2.symm hT⟩ (kk TI _ D.TIz D.TIi1 D.TIi2 Od.2.2.2.1.symm hTI)
   (a2.keep fun o e=>hs''.extBut _ o Od.2.1.symm e) (a3.keep fun o e=>hs''.extBut _ o Od.2.2.1.symm e) (s1.keep fun o e=>kk l1 o O1.1 O1.2.1 O1.2.2.1 O1.2.2.2 e) (s2.keep fun o e=>kk l2 o O2.1 O2.2.1 O2.2.2.1 O2.2.2.2 e) hd'' ?_ (tk+1)
  intro s' q1 q2 q3 q4 q5;refine hR s' q1 q2 q3 ?_ fun c o c1 c2 c3 c4 e=>q5 c o c1 c2 c3 c4 (kk c o c1 c2 c3 c4 e);have ez:(ks.zip ys).drop i=(ks[i],ys[i])::(ks.zip ys).drop (i+1):=by
   rw [List.drop_eq_getElem_cons (by rw [List.length_zip];lia)]
   simp
  rw [ez,List.foldl_cons];exact q4
namespace F
theorem mro_dict:mroOf (.type "dict")=pure [.type "dict",.type "object"]:=by rw [mroOf_type];kernel_rfl
theorem g_:typeLookup (.type "dict") "__new__"=pure (some (.builtin "dict.__new__")):=by rw [typeLookup_type,builtinLookup_eq_fast];kernel_rfl
theorem called_dict:TypeCalled "dict" "dict.__new__" "dict.__init__":=
 ⟨by decide +kernel,by decide +kernel,⟨_,_,mro_dict⟩,madeBy_type mro_dict g_ (by decide +kernel),by decide +kernel,by rw [isSubtype_type];kernel_rfl,PySem.F.slot_dict_init⟩
theorem typeCall_dict_1(a:Value):checkTypeCall "dict" ⟨[a],[]⟩=pure ():=by kernel_rfl
theorem newCall_dict_1(a:Value):checkBuiltinCall "dict.__new__" ⟨[.type "dict",a],[]⟩=pure ():=by kernel_rfl
theorem entry_dict_new:entryFor table "dict.__new__"=some Builtin.«dict.__new__»:=entryFor_of_tree (by kernel_rfl)
theorem plain_dict_new:plainId "dict.__new__"=true:=by decide +kernel
theorem sub_dict:isSubtype (.type "dict") (.type "dict")=pure true:=by rw [isSubtype_type];kernel_rfl
end F
section
variable {prog:Program}{w:World}{K:Type}[DecidableEq K]{knd:KeyKind prog w K}{A:Around}{E:Value->Shared->Prop}{s:Shared}
theorem jO(a:Value){Q₁:Value->Shared->Prop}(h:Q₁ (.ref s.heap.objs.size) { s with heap:=s.heap.push { cls:=.type "dict",data:=.dict #[] } }):
  codeAny (model prog w) A (.call (.builtin "dict.__new__") ⟨[.type "dict",a],[]⟩) (wants Q₁ E) s:=by
 refine codeAny_call_builtin F.plain_dict_new F.entry_dict_new (wpAny_of_eq (F.newCall_dict_1 a) ?_);have hsub:=F.sub_dict;have hmro:=F.mro_dict;obtain ⟨hp,g,d,tk,os⟩:=s;unfold Builtin.«dict.__new__»
 wp_walk
 exact h
theorem jK{b1 b2:Bool}{z TI TO i1 i2 l1 l2:Addr}{xs ys:List Value}{ks:List K}{Q:Value->Shared->Prop}(hh:A.handled=none)(D:ZApart z TI TO i1 i2)(O1:oy z TO i1 i2 l1)(O2:oy z TO i1 i2 l2)
  (hz:IsZip s.heap z TI TO .none) (hTI:IsPair s.heap TI (.ref i1) (.ref i2)) (hTO:∃a b,IsPair s.heap TO a b) (h1:SrcTn b1 i1 l1 0 s.heap) (h2:SrcTn b2 i2 l2 0 s.heap) (hl1:SrcSq b1 s.heap l1 xs.toArray) (hl2:SrcSq b2 s.heap l2 ys.toArray)
  (hk:Paired (fun k v=>knd.is k v=true) ks xs) (hl:xs.length=ys.length) (hz0:0<xs.length) (hzz:xs.length<=1000)
  (h:∀s':Shared,s'.os=s.os->s'.gens=s.gens->s'.drawn=s.drawn->s'.heap.DictOf knd s.heap.objs.size ((ks.zip ys).foldl (fun a p=>stored a p.1 p.2) [])->
   (∀c o,c≠z->c≠TO->c≠i1->c≠i2->s.heap.get? c=some o->s'.heap.get? c=some o)->Q (.ref s.heap.objs.size) s'):
  wpAny (model prog w) A (call (.type "dict") [.ref z]) Q E s:=by
 refine callType_codes (Q₁:=fun obj s₁=>obj=.ref s.heap.objs.size/\s₁={ s with heap:=s.heap.push { cls:=.type "dict",data:=.dict #[] } }) F.called_dict (F.typeCall_dict_1 _) F.entry_dict_init (jO _ ⟨rfl,rfl⟩) ?_
 rintro obj s₁ ⟨rfl,rfl⟩
 have hnew:(s.heap.push { cls:=.type "dict",data:=.dict #[] }).DictOf knd s.heap.objs.size []:=Heap.DictOf.new s.heap;refine ⟨hnew.typeIs,F.args_dict_init_2 _ _,?_⟩;unfold Builtin.«dict.__init__»;refine wpAny_bind ?_;unfold Builtin.Dict.selfAndRest;refine wpAny_bind (wpAny_notOrdered_dict hnew.typeIs ?_);show wpAny _ _ (pure (s.heap.objs.size,[Value.ref z])) _ _ _;refine wpAny_pure ?_;show wpAny _ _ (Builtin.Dict.updateFrom "dict.__init__" s.heap.objs.size (.ref z) [] .none) _ _ _;unfold Builtin.Dict.updateFrom;have hdz:∀c o,s.heap.get? c=some o->c≠s.heap.objs.size:=fun c o e=>Nat.ne_of_lt (Heap.lt_size e);have up:∀c o,s.heap.get? c=some o->(s.heap.push { cls:=.type "dict",data:=.dict #[] }).get? c=some o:=fun c o e=>Heap.get?_push_of_some _ e;refine wpAny_bind (wpAny_typeOf (T:="zip") ⟨_,up _ _ hz,rfl⟩ ?_);rw [if_pos (by decide)]
 refine wpAny_bind (jD (f1:=false) (s:={ s with heap:=s.heap.push { cls:=.type "dict",data:=.dict #[] } }) (up _ _ hz) hh fun h₁ tk₁ hk₁=>?_);rw [if_pos (show (none:Option Value).isNone=true from rfl)];have up1:∀c o,s.heap.get? c=some o->h₁.get? c=some o:=fun c o e=>hk₁ c o (up c o e);refine wpAny_bind (wpAny_rule (wpAny_bind (wpAny_pyIter_zip (s:={ s with heap:=h₁,toks:=tk₁ }) (up1 _ _ hz) (wpAny_pure ⟨plainId_quiet bt _,codeAny_builtin cw ?_⟩))));rw [Around.under_plainId bt _];show wpAny _ A.in1.in1 (pyNext (.ref z) >>= _) _ _ _;obtain ⟨a,b,hTO⟩:=hTO;have hlt2:0<ys.length:=by lia
 have hd1:h₁.DictOf knd s.heap.objs.size []:=by
  obtain ⟨o,es,ep,ho,r⟩:=hnew;exact ⟨o,es,ep,hk₁ _ o ho,r⟩
 have hnz:s.heap.objs.size≠z:=(hdz _ _ hz).symm;have hnTI:s.heap.objs.size≠TI:=(hdz _ _ hTI).symm;have hnTO:s.heap.objs.size≠TO:=(hdz _ _ hTO).symm;have hni1:s.heap.objs.size≠i1:=by obtain ⟨o,e,_⟩:=h1.lt;exact (hdz _ _ e).symm
 have hni2:s.heap.objs.size≠i2:=by obtain ⟨o,e,_⟩:=h2.lt;exact (hdz _ _ e).symm
 have nl:∀{b:Bool} {l:Addr} {us:Array Value},SrcSq b s.heap l us->l≠s.heap.objs.size:=fun {b l us} q=>by
  cases b with
  |true=>obtain ⟨o,e,_⟩:=(show s.heap.IsList l us from q);exact hdz _ _ e
  |false=>obtain ⟨o,e,_⟩:=(show s.heap.IsTuple l us from q);exact hdz _ _ e
 refine wpAny_bind (eF (s:={ s with heap:=h₁,toks:=tk₁ }) (x:=xs[0]) (y:=ys[0]) D O1 O2 (up1 _ _ hz) (up1 _ _ hTI) (up1 _ _ hTO) (h1.keep fun o e=>up1 _ o e) (h2.keep fun o e=>up1 _ o e) (hl1.keep fun o e=>up1 _ o e) (hl2.keep fun o e=>up1 _ o e) (by simp [hz0]) (by simp [hlt2]) fun h₂ a1 a2 a3 a4 a5 a6 hk₂=>?_)
 have hTy:({ s with heap:=h₂,toks:=tk₁ }:Shared).TypeIs (.ref h₁.objs.size) "tuple":=⟨_,a5,rfl⟩;refine wpAny_bind (wpAny_holding (wpAny_bind (wpAny_tryCatch ?_)));unfold Builtin.Dict.pairItems;refine wpAny_bind (wpAny_typeOf hTy ?_);rw [if_pos (by decide)]
 refine wpAny_bind (wpAny_seqItems (s:={ s with heap:=h₂,toks:=tk₁ }) a5 rfl (wpAny_pure ?_));have hks:0<ks.length:=by rw [Paired.length hk];exact hz0
 have hkey:knd.is ks[0] xs[0]=true:=by
  cases hk with
  |nil=>exact absurd hz0 (Nat.lt_irrefl _)
  |cons r _=>exact r
 have hd2:h₂.DictOf knd s.heap.objs.size []:=by
  obtain ⟨o,es,ep,ho,r⟩:=hd1;exact ⟨o,es,ep,hk₂ _ o hnz hnTO hni1 hni2 ho,r⟩
 show wpAny _ _ (holding [xs[0],ys[0]] (dictSet s.heap.objs.size xs[0] ys[0])) _ _ _;refine wpAny_holding (wpAny_dictSet_pairs (s:={ s with heap:=h₂,toks:=tk₁ }) hkey hd2 (fun h₃ hd₃ hs₃=>?_) (Nat.zero_le _));refine wpAny_pure ⟨plainId_quiet bt _,?_⟩;have T1:∀c o,h₁.get? c=some o->h₁.objs.size≠c:=fun c o e=>Nat.ne_of_gt (Heap.lt_size e);have hdl:s.heap.objs.size<h₁.objs.size:=by obtain ⟨o,es,ep,ho,r⟩:=hd1;exact Heap.lt_size ho
 have kk:∀c o,c≠z->c≠TO->c≠i1->c≠i2->c≠s.heap.objs.size->s.heap.get? c=some o->h₃.get? c=some o:=fun c o c1 c2 c3 c4 c5 e=>hs₃.extBut c o c5 (hk₂ c o c1 c2 c3 c4 (up1 c o e));have hst:(stored ([]:List (K×Value)) ks[0] ys[0]).length<=1:=by simp [stored]
 refine s_ (A:=A.in1) (T:=h₁.objs.size) (l1:=l1) (l2:=l2) (xs:=xs) (ys:=ys) (ks:=ks) hh D ⟨O1.1,O1.2.2.1,O1.2.2.2,nl hl1⟩ ⟨O2.1,O2.2.2.1,O2.2.2.2,nl hl2⟩ ⟨hnz,hni1,hni2,hnTI,Nat.ne_of_lt hdl⟩
  ⟨T1 _ _ (up1 _ _ hz),(by obtain ⟨o,e,_⟩:=h1.lt;exact T1 _ _ (up1 _ _ e)),(by obtain ⟨o,e,_⟩:=h2.lt;exact T1 _ _ (up1 _ _ e))⟩ hk hl hzz (xs.length-1) 1 { s with heap:=h₃,toks:=tk₁+1 } false (stored [] ks[0] ys[0]) rfl hz0 hst
  (hs₃.extBut _ _ hnz.symm a1) ⟨_,hs₃.extBut _ _ (Nat.ne_of_gt hdl) a5⟩ (kk TI _ D.TIz D.TITO D.TIi1 D.TIi2 hnTI.symm hTI) (a3.keep fun o e=>hs₃.extBut _ o hni1.symm e) (a4.keep fun o e=>hs₃.extBut _ o hni2.symm e)
  (hl1.keep fun o e=>kk l1 o O1.1 O1.2.1 O1.2.2.1 O1.2.2.2 (nl hl1) e) (hl2.keep fun o e=>kk l2 o O2.1 O2.2.1 O2.2.2.1 O2.2.2.2 (nl hl2) e) hd₃ ?_ 1
 intro s' q1 q2 q3 q4 q5;refine ⟨rfl,h s' q1 q2 q3 ?_ fun c o c1 c2 c3 c4 e=>q5 c o c1 c3 c4 (hdz c o e) (kk c o c1 c2 c3 c4 (hdz c o e) e)⟩;have ez:ks.zip ys=(ks[0],ys[0])::(ks.zip ys).drop 1:=by
  have:=List.drop_eq_getElem_cons (l:=ks.zip ys) (i:=0) (by rw [List.length_zip];lia)
  simpa using this
 rw [ez,List.foldl_cons];exact q4
end
end L2
namespace L2
open PySem PySem.Spec PyProof.Rows
theorem gy:fillsNumberSlot (.type "tuple") "mul"=pure false:=
 PySem.fillsNumberSlot_seq (id:="tuple.__mul__") (r:=some (.builtin "tuple.__rmul__")) PySem.F.slot_tuple_mul.lookup (by decide +kernel) PySem.F.slot_tuple_rmul.lookup (by decide +kernel)
theorem lC:seqRepeat? (.type "tuple")=pure (some (.builtin "tuple.__mul__")):=by
 unfold seqRepeat?;rw [PySem.seqSlot_of (T:="tuple") (name:="__mul__") (id:="tuple.__mul__") PySem.F.slot_tuple_mul.lookup (by decide +kernel),PySem.seqSlot_of (T:="tuple") (name:="__rmul__") (id:="tuple.__rmul__") PySem.F.slot_tuple_rmul.lookup (by decide +kernel)]
 rfl
theorem jf(a:Int)(t:Tok)(l:Addr)(items:Array Value)(n:Nat)(dd:Option Addr)(sl:Array (Option Value)):
  Meets (Builtin.«int.__rmul__» ⟨[.int a t,.ref l],[]⟩) (fun _ R s=>s.heap.get? l=some { cls:=.type "tuple",dict:=dd,data:=.seq items n,slots:=sl }/\R (.ok (.ret Value.notImplemented)) s):=
 .of_wp fun prog w A R s h=>by obtain ⟨hp,g,d,tk,os⟩:=s;obtain ⟨hl,h⟩:=h;wp_walk;exact ⟨_,rfl,h⟩
theorem j2(l:Addr)(items:Array Value)(n:Nat)(dd:Option Addr)(sl:Array (Option Value))(x:Int)(u:Tok)(hx:1<x)(hx2:x<=1000)(hi:items.size<=1000)(h0:items.isEmpty=false):
  Meets (Builtin.«tuple.__mul__» ⟨[.ref l,.int x u],[]⟩) (fun _ R s=>s.heap.get? l=some { cls:=.type "tuple",dict:=dd,data:=.seq items n,slots:=sl }/\
   R (.ok (.ret (.ref s.heap.objs.size))) { s with heap:=s.heap.push { cls:=.type "tuple",data:=.seq ((List.replicate x.toNat items).foldl (·++·) #[]) } }):=
 .of_wp fun prog w A R s h=>by
  obtain ⟨hp,g,d,tk,os⟩:=s;obtain ⟨hl,h⟩:=h;have f1:=AutoSeq1.idx_int;have f2:=AutoSeq1.sub_tuple_tuple;have g1:(decide (x < -(2 ^ 63))||decide (x>=2 ^ 63))=false:=by simp;lia
  have g2:(items.isEmpty||x==1)=false:=by rw [h0];simp;lia
  have g3:(decide (x<=0)||items.isEmpty)=false:=by rw [h0];simp;lia
  have hm:(items.size:Int)*x<=1000000:=by
   have a1:(items.size:Int)*x<=1000*x:=Int.mul_le_mul_of_nonneg_right (by lia) (by lia)
   lia
  have hm2:¬((items.size:Int)*x>(2 ^ 63-1) / 8):=by lia
  have hm3:Builtin.Tuple.tupleTooMany ((items.size:Int)*x)=false:=by
   unfold Builtin.Tuple.tupleTooMany;have:(1000000:Int)<=(sizeLine:Int):=by decide
   exact decide_eq_false (by lia)
  wp_walk using wpAny_loadPart' hl
  try simp only [g1,Bool.false_eq_true,if_false]
  wp_walk using wpAny_loadPart' hl
  try simp only [g2,Bool.false_eq_true,if_false]
  wp_walk using wpAny_loadPart' hl
  try simp only [g3,Bool.false_eq_true,if_false]
  wp_walk using wpAny_loadPart' hl
  rw [if_neg hm2];simp only [hm3,Bool.false_eq_true,if_false];unfold Builtin.Tuple.tupleExact;have hlen:((List.replicate x.toNat items).foldl (·++·) #[]).toList.length<=sizeLine:=by
   have e:∀(k:Nat) (acc:Array Value),((List.replicate k items).foldl (·++·) acc).size=acc.size+k*items.size:=by
    intro k
    induction k with
    |zero=>intro acc;simp
    |succ k ih=>intro acc;rw [List.replicate_succ,List.foldl_cons,ih,Array.size_append,Nat.succ_mul];lia
   rw [Array.length_toList,e];have:x.toNat*items.size<=1000*1000:=Nat.mul_le_mul (by lia) hi
   have h2:(1000*1000:Nat)<=sizeLine:=by decide
   simp only [List.size_toArray,List.length_nil] at *;lia
  refine wpAny_bind (wpAny_newTuple (wpAny_pure ⟨_,rfl,?_⟩) hlen);simpa using h
theorem jN(l:Addr)(items:Array Value)(n:Nat)(dd:Option Addr)(sl:Array (Option Value))(u:Tok):
  Meets (Builtin.«tuple.__mul__» ⟨[.ref l,.int 1 u],[]⟩) (fun _ R s=>s.heap.get? l=some { cls:=.type "tuple",dict:=dd,data:=.seq items n,slots:=sl }/\R (.ok (.ret (.ref l))) s):=
 .of_wp fun prog w A R s h=>by
  obtain ⟨hp,g,d,tk,os⟩:=s;obtain ⟨hl,h⟩:=h;have f1:=AutoSeq1.idx_int;have f2:=AutoSeq1.sub_tuple_tuple;have g1:(decide ((1:Int) < -(2 ^ 63))||decide ((1:Int)>=2 ^ 63))=false:=by decide
  have g2:(items.isEmpty||(1:Int)==1)=true:=by simp
  wp_walk using wpAny_loadPart' hl
  try simp only [g1,Bool.false_eq_true,if_false]
  wp_walk using wpAny_loadPart' hl
  try simp only [g2,if_true]
  wp_walk using wpAny_loadPart' hl
  all_goals first|exact ⟨_,rfl,h⟩|skip
theorem j7(l:Addr)(items:Array Value)(n:Nat)(dd:Option Addr)(sl:Array (Option Value))(x:Int)(u:Tok)(hx:x<=0)(hx2:-1000<=x)(h0:items.isEmpty=false):
  Meets (Builtin.«tuple.__mul__» ⟨[.ref l,.int x u],[]⟩) (fun _ R s=>s.heap.get? l=some { cls:=.type "tuple",dict:=dd,data:=.seq items n,slots:=sl }/\
   R (.ok (.ret (.ref s.heap.objs.size))) { s with heap:=s.heap.push { cls:=.type "tuple",data:=.seq #[] } }):=
 .of_wp fun prog w A R s h=>by
  obtain ⟨hp,g,d,tk,os⟩:=s;obtain ⟨hl,h⟩:=h;have f1:=AutoSeq1.idx_int;have f2:=AutoSeq1.sub_tuple_tuple;have g1:(decide (x < -(2 ^ 63))||decide (x>=2 ^ 63))=false:=by simp;lia
  have g2:(items.isEmpty||x==1)=false:=by rw [h0];simp;lia
  have g3:(decide (x<=0)||items.isEmpty)=true:=by simp [hx]
  wp_walk using wpAny_loadPart' hl
  try simp only [g1,Bool.false_eq_true,if_false]
  wp_walk using wpAny_loadPart' hl
  try simp only [g2,Bool.false_eq_true,if_false]
  wp_walk using wpAny_loadPart' hl
  try simp only [g3,if_true]
  all_goals exact ⟨_,rfl,h⟩
section
variable {prog:Program}{w:World}{A:Around}{E:Value->Shared->Prop}{s:Shared}
theorem sF{l:Addr}{its:List Value}{k:Int}{u:Tok}{Q:Value->Shared->Prop}(ht:s.heap.IsTuple l its.toArray)(h0:its≠[])(hk0:0<=k)(hk:k<=1000)(hi:its.length<=1000)
  (h1:k=1->Q (.ref l) s) (h2:k≠1->Q (.ref s.heap.objs.size) { s with heap:=s.heap.push { cls:=.type "tuple",data:=.seq (List.replicate k.toNat its).flatten.toArray } }):
  wpAny (model prog w) A (binaryOp .Mult (.ref l) (.int k u)) Q E s:=by
 obtain ⟨⟨cls,dd,data,sl⟩,e,hc,n,hd⟩:=ht;simp only at hc hd;subst hc hd;have he:its.toArray.isEmpty=false:=by cases its with|nil=>exact absurd rfl h0|cons a r=>rfl
 refine wpAny_binaryOp_repeat_ref (T:="tuple") (U:="int") (by decide) ⟨_,e,rfl⟩ (fun s'=>typeIs_int s' k u) gy PySem.F.fills_int_mul PySem.F.slot_int_rmul lC PySem.F.slot_int_index.lookup
  (call_meets PySem.F.slot_int_rmul (typeIs_int s k u) PySem.F.entry_int_rmul (PySem.F.args_int_rmul_2 _ _) (jf k u l its.toArray n dd sl) ⟨e,rfl,⟨_,e,rfl⟩,?_⟩)
 by_cases hk1:k=1
 ·subst hk1
  exact call_meets PySem.F.slot_tuple_mul ⟨_,e,rfl⟩ PySem.F.entry_tuple_mul (PySem.F.args_tuple_mul_2 _ _) (jN l its.toArray n dd sl u) ⟨e,h1 rfl⟩
 ·have h2':=h2 hk1
  by_cases hk2:k<=0
  ·refine call_meets PySem.F.slot_tuple_mul ⟨_,e,rfl⟩ PySem.F.entry_tuple_mul (PySem.F.args_tuple_mul_2 _ _) (j7 l its.toArray n dd sl k u hk2 (by lia) he) ⟨e,?_⟩
   have ek:k.toNat=0:=by lia
   rw [ek] at h2';exact h2'
  ·refine call_meets PySem.F.slot_tuple_mul ⟨_,e,rfl⟩ PySem.F.entry_tuple_mul (PySem.F.args_tuple_mul_2 _ _) (j2 l its.toArray n dd sl k u (by lia) hk (by rw [List.size_toArray];exact hi) he) ⟨e,?_⟩
   have ef:∀(m:Nat) (acc:List Value),List.foldl (fun x1 x2=>x1++x2) acc.toArray (List.replicate m its.toArray)=(acc++(List.replicate m its).flatten).toArray:=by
    intro m
    induction m with
    |zero=>intro acc;simp
    |succ m ih=>
     intro acc;have e1:acc.toArray++its.toArray=(acc++its).toArray:=by simp
     rw [List.replicate_succ,List.foldl_cons,e1,ih,List.replicate_succ,List.flatten_cons,List.append_assoc]
   have e0:=ef k.toNat [];rw [List.nil_append] at e0;rw [e0];exact h2'
end
end L2
namespace L2
open PySem PySem.Spec PyProof.Rows
section
variable {X:Cx}
theorem vQ:da X (binaryOp .Add) (fun x y H Q=>∃a b ys,x=.ref a/\y=.ref b/\gz X.K H a []/\gz X.K H b ys/\Q (.ref b) H):=by
 intro pins s σ H x y v u Q I rx ry h;obtain ⟨a,b,ys,rfl,rfl,ha,hb,q⟩:=h;cases rx;cases ry;obtain ⟨its,r1,p1,_⟩:=I.tuple ha;obtain ⟨its2,r2,p2,_⟩:=I.tuple hb;obtain rfl:its=[]:=r1.zero;obtain ⟨⟨cls,dd,data,sl⟩,ho,hc,n,hd⟩:=id p1;obtain ⟨⟨cls2,dd2,data2,sl2⟩,ho2,hc2,n2,hd2⟩:=id p2;simp only at hc hd hc2 hd2;subst hc hd hc2 hd2
 exact concat_meets ⟨_,ho,rfl⟩ ⟨_,ho2,rfl⟩ noFill_tuple_add seq_tuple_add PySem.F.slot_tuple_add PySem.F.entry_tuple_add (PySem.F.args_tuple_add_2 _ _)
  (tuple_addW0 a b #[] its2.toArray n n2 dd dd2 sl sl2 rfl) ⟨ho,ho2,⟨.ref b,H,I,rfl,q⟩⟩
theorem uy{n:Nat}(hn:n.log2<2000)(hn0:0<n):da X (binaryOp .FloorDiv) (rI (fun _ j=>j=(n:Int)) fun i j=>.int (i / j)):=opI fun i j _ _ _ _ _ hc q=>by
 subst hc;refine floordiv_int (by lia) ?_ (.inl (PyProof.noPylong_of_log2 (by simpa using Nat.lt_trans hn (by decide))))
 rw [Int.fdiv_eq_ediv_of_nonneg _ (by lia)]
 exact q
def vb(K:W.Frag)(b1 b2:Bool)(t:TA):TE:=fun σ H Q=>t σ H fun vs H1=>∃(l1 l2:Addr) (ks:List aT) (ys:List V),vs=[.ref l1,.ref l2]/\kx K b1 H1 l1 (ks.map kV)/\kx K b2 H1 l2 ys/\ks.length=ys.length/\0<ks.length/\ks.length<=1000/\
 ∀d,H1 d=none->Q (.ref d) (upd H1 d (.dK ((ks.zip ys).foldl (fun a p=>cE a p.1 p.2) [])))
theorem ki{P:Program}{w:World}:∀{ks:List aT} {us:List Value},Vals (ks.map kV) us->Paired (fun k v=>(bz P w).is k v=true) ks us
 |[],_,.nil=>.nil
 |_::_,_,.cons r t=>.cons (iZ r) (ki t)
theorem rY:∀{ks:List aT} {ys:List V} {us:List Value} {kvs:List (aT×V)} {vs:List (aT×Value)},Vals ys us->KV kvs vs->
  KV ((ks.zip ys).foldl (fun a p=>cE a p.1 p.2) kvs) ((ks.zip us).foldl (fun a p=>stored a p.1 p.2) vs)
 |[],_,_,_,_,_,r=>r
 |_::_,_,_,_,_,.nil,r=>r
 |k::ks,_,_,_,_,.cons ru t,r=>rY (ks:=ks) t (KV.put r k ru)
theorem mK:∀(ps:List (aT×V)) (kvs:List (aT×V)),(ps.foldl (fun a p=>cE a p.1 p.2) kvs).length<=kvs.length+ps.length
 |[],kvs=>Nat.le_refl _
 |p::ps,kvs=>by
  have h1:=mK ps (cE kvs p.1 p.2);have h2:=dq kvs p.1 p.2;rw [List.foldl_cons,List.length_cons];lia
theorem oA{a b:Expr}{ta:TA}{p p2 pos pos2:Pos}(b1 b2:Bool)(hc:X.calm=true)(hg:Gl X "zip")(hm:X.mg "zip"=none)(hg2:Gl X "dict")(hm2:X.mg "dict"=none)(ha:PA X [a,b] ta)
  (hs:starEach [a,b] X.env=[(false,eval a X.env),(false,eval b X.env)]:=by rfl) (hs2:starEach [b] X.env=[(false,eval b X.env)]:=by rfl)
  (hs3:starEach [Expr.Call (.Name "zip" p2) [a,b] [] pos2] X.env=[(false,eval (.Call (.Name "zip" p2) [a,b] [] pos2) X.env)]:=by rfl):
  PE X (.Call (.Name "dict" p) [.Call (.Name "zip" p2) [a,b] [] pos2] [] pos) (vb X.K b1 b2 ta):=by
 intro pins s σ H Q I h;refine Call_ (ld_blt I hg2 hm2 (by decide +kernel:bootBuiltins "dict"=some (.type "dict")) (PyProof.Rows.callWith_type1 ?_ hs3 rfl))
 rw [hs3];show wpAny _ _ (spliced ((false,_)::backTo pos [])) _ _ s;refine Calls.spliced_cons ?_;refine Call_ (ld_blt I hg hm (by decide +kernel:bootBuiltins "zip"=some (.type "zip")) (PyProof.Rows.callWith_type1 (thn (ha pos2 pins s σ H _ I h) fun us s1 ⟨vs,H1,I1,r1,q1⟩=>?_) (by rw [hs,hs2]) (by rw [hs2];rfl)))
 obtain ⟨l1,l2,ks,ys,e,q1,q2,hl,h0,hz,q⟩:=q1;subst e;obtain ⟨u1,u2,rfl,ru1,ru2⟩:=r1.two;cases ru1;cases ru2;obtain ⟨its1,rv1,sq1,z1⟩:=I1.src q1;obtain ⟨its2,rv2,sq2,z2⟩:=I1.src q2;refine nF sq1 sq2 fun h' hz' hTI hTO h1 h2 hsz hk=>?_;refine Calls.spliced_nil ?_;have e1:=rv1.length;have e2:=rv2.length;rw [List.length_map] at e1;have D:ZApart (s1.heap.objs.size+4) (s1.heap.objs.size+2) (s1.heap.objs.size+3) s1.heap.objs.size (s1.heap.objs.size+1):=by constructor<;>exact (show (_:Nat)≠(_:Nat) by lia)
 have lt:∀{c:Bool} {l:Addr} {us:Array Value},SrcSq c s1.heap l us->l<s1.heap.objs.size:=fun {c l us} z=>by
  cases c with
  |true=>obtain ⟨o,e,_⟩:=(show s1.heap.IsList l us from z);exact Heap.lt_size e
  |false=>obtain ⟨o,e,_⟩:=(show s1.heap.IsTuple l us from z);exact Heap.lt_size e
 have O:∀{l:Addr},l<s1.heap.objs.size->oy (s1.heap.objs.size+4) (s1.heap.objs.size+3) s1.heap.objs.size (s1.heap.objs.size+1) l:=fun {l} z=>⟨Nat.ne_of_lt (Nat.lt_of_lt_of_le z (Nat.le_add_right _ _)),Nat.ne_of_lt (Nat.lt_of_lt_of_le z (Nat.le_add_right _ _)),Nat.ne_of_lt z,Nat.ne_of_lt (Nat.lt_of_lt_of_le z (Nat.le_add_right _ _))⟩;refine jK (s:={ s1 with heap:=h' }) (knd:=bz X.prog X.w) (ks:=ks) (xs:=its1) (ys:=its2) (I1.ok.hd hc) D (O (lt sq1)) (O (lt sq2)) hz' hTI ⟨_,_,hTO⟩ h1 h2 (sq1.keep fun o e=>hk _ o e) (sq2.keep fun o e=>hk _ o e) (ki rv1) (by lia) (by lia) (by lia) ?_
 intro s' o1 o2 o3 hd hkeep;have hd':s'.heap.DictOf (bz X.prog X.w) h'.objs.size ((ks.zip its2).foldl (fun a p=>stored a p.1 p.2) []):=hd;have hbig:=I1.big;have hnew:∀c o,s1.heap.get? c=some o->s'.heap.get? c=some o:=fun c o e=>by
  have z:=Heap.lt_size e;exact hkeep c o (Nat.ne_of_lt (Nat.lt_of_lt_of_le z (Nat.le_add_right _ _))) (Nat.ne_of_lt (Nat.lt_of_lt_of_le z (Nat.le_add_right _ _))) (Nat.ne_of_lt z) (Nat.ne_of_lt (Nat.lt_of_lt_of_le z (Nat.le_add_right _ _))) (hk c o e)
 have hn:H1 h'.objs.size=none:=I1.hok.fresh (by lia)
 obtain ⟨hh',g',d',t',os'⟩:=s';obtain rfl:os'=s1.os:=o1;obtain rfl:g'=s1.gens:=o2;obtain rfl:d'=s1.drawn:=o3;refine ⟨.ref h'.objs.size,_,I1.laid (a:=h'.objs.size) (o:=.dK ((ks.zip ys).foldl (fun a p=>cE a p.1 p.2) [])) (t':=t') hnew (by lia) ?_,rfl,q _ hn⟩
 refine oN ?_ ?_ (rY rv2 .nil) hd'
 ·have:=mK (ks.zip ys) []
  rw [List.length_zip] at this;have h3:(1000:Nat)<=sizeLine:=by decide
  simp only [List.length_nil] at this;lia
 ·exact beq_eq_false_iff_ne.mpr (Nat.ne_of_gt (Nat.lt_of_lt_of_le hbig (by rw [hsz];exact Nat.le_add_right _ _)))
end
end L2
namespace Tw
open PySem L2
end Tw
namespace L2
open PySem PySem.Spec PyProof.Rows
section
variable {X:Cx}
theorem jh{M:Model}{A:Around}{E:Value->Shared->Prop}{s:Shared}{β:Type}{n:Nat}(f:Nat->β->Sem (ForInStep β))(I:Nat->β->Shared->Prop)(Q:β->Shared->Prop)
  (turn:∀i b s,i<n->I i b s->wpAny M A (f i b) (fun r s'=>match r with|.yield b'=>I (i+1) b' s'|.done b'=>Q b' s') E s)
  (fin:∀b s,I n b s->Q b s) (b:β) (h:I 0 b s):wpAny M A (forIn [0:n] b f) Q E s:=by
 rw [Std.Legacy.Range.forIn_eq_forIn_range'];have hsz:([0:n]:Std.Legacy.Range).size=n:=by simp [Std.Legacy.Range.size]
 show wpAny M A (forIn (List.range' 0 ([0:n]:Std.Legacy.Range).size 1) b f) Q E s;rw [hsz];refine wpAny_forIn_list f (fun l c s=>∃i,i<=n/\l=List.range' i (n-i) 1/\I i c s) Q ?_ ?_ _ b ⟨0,Nat.zero_le _,rfl,h⟩
 ·rintro x rest c s ⟨i,hi,hl,hI⟩
  have hlt:i<n:=by
   rcases Nat.lt_or_ge i n with h'|h'
   ·exact h'
   ·rw [show n-i=0 by lia] at hl;simp at hl
  obtain ⟨k,hk⟩:∃k,n-i=k+1:=⟨n-i-1,by lia⟩
  rw [hk,List.range'_succ] at hl;obtain ⟨rfl,rfl⟩:=List.cons.inj hl;refine wpAny_mono (turn x c s hlt hI) (fun r s' h'=>?_) fun _ _ e=>e;cases r with
  |done c'=>exact h'
  |yield c'=>exact ⟨x+1,by lia,by congr 1;lia,h'⟩
 ·rintro c s ⟨i,hi,hl,hI⟩
  have:i=n:=by
   rcases Nat.lt_or_ge i n with h'|h'
   ·obtain ⟨k,hk⟩:∃k,n-i=k+1:=⟨n-i-1,by lia⟩
    rw [hk,List.range'_succ] at hl;cases hl
   ·lia
  subst this;exact fin _ _ hI
theorem nv(l:Addr)(items:Array Value)(n:Nat)(dd:Option Addr)(sl:Array (Option Value))(x:Value)(e:Value->Bool)(he:∀y,y∈items->MeetsSeq.EqGives y x (e y))(j:Nat)(hj:j<items.size)(hit:e items[j]=true)
  (hno:∀m (hm:m<items.size),m<j->e items[m]=false):
  Meets (Builtin.«tuple.index» ⟨[.ref l,x],[]⟩) (fun _ R s=>s.heap.get? l=some { cls:=.type "tuple",dict:=dd,data:=.seq items n,slots:=sl }/\R (.ok (.ret (.int j s.toks))) { s with toks:=s.toks+1 }):=
 .of_wp fun prog w A R s h=>by
  obtain ⟨hp,g,d,tk,os⟩:=s;obtain ⟨hl,h⟩:=h
  wp_walk using AutoSeq1.wpAny_loadPart' hl
  refine jh (n:=min items.size items.size) _ (fun i (b:Option _×_) s'=>b.1=none/\i<=j/\s'=⟨hp,g,d,tk,os⟩) _ ?turn ?fin _ ?strt
  case turn=>
   rintro i b s' hi ⟨hb,hij,rfl⟩
   have hlt:i<items.size:=by lia
   have hi':items[i]?=some items[i]:=by simp [hlt]
   simp only [hi'];refine wpAny_bind (he _ (Array.getElem_mem hlt) prog w _ _ _ _ ?_)
   by_cases hx:i=j
   ·subst hx
    rw [hit]
    wp_walk
    exact ⟨_,rfl,h⟩
   ·rw [hno i hlt (by lia)]
    wp_walk
    exact ⟨rfl,by lia,rfl⟩
  case fin=>
   rintro ⟨b1,b2⟩ s' ⟨hb,hij,rfl⟩
   lia
  case strt=>
   exact ⟨rfl,Nat.zero_le _,rfl⟩
theorem Inv.tupD{pins:List (Addr×Obj)}{σ:St}{H:Hp}{s:Shared}{a:Addr}{xs:List V}(I:Inv X pins σ H s)(h:H a=some (.tup xs)):
  ∃(its:List Value) (n:Nat) (sl:Array (Option Value)),Vals xs its/\s.heap.get? a=some { cls:=.type "tuple",dict:=none,data:=.seq its.toArray n,slots:=sl }:=by
 obtain ⟨z,its,r,⟨cls,dd,data,slots⟩,e,⟨c,n,d⟩,dn⟩:=I.hok a _ h;simp only at c d dn;subst c d dn;exact ⟨its,n,slots,r,e⟩
theorem fk:∀{names:List Str} {us:List Value},Vals (names.map V.str) us->∀(j:Nat) (h:j<us.length),∃(y:Str) (t:Tok),names[j]?=some y/\us[j]=.str y t
 |[],us,r,j,h=>by cases r;exact absurd h (Nat.not_lt_zero _)
 |x::names,us,r,j,h=>by
  rw [List.map_cons] at r;cases r with
  |cons r1 r2=>
   cases j with
   |zero=>obtain ⟨t,rfl⟩:=r1;exact ⟨x,t,rfl,rfl⟩
   |succ j=>obtain ⟨y,t,h1,h2⟩:=fk r2 j (by simpa using h);exact ⟨y,t,by simpa using h1,by simpa using h2⟩
def D8:V->List V->Hp->VK->Prop:=fun x vs H Q=>∃(a:Addr) (names:List Str) (z:Str) (j:Nat),x=.ref a/\vs=[.str z]/\H a=some (.tup (names.map V.str))/\names.length<=1000/\names[j]?=some z/\(∀m,m<j->names[m]?≠some z)/\Q (.int (j:Int)) H
theorem sM:zT X "tuple.index" D8:=by
 intro pins s σ H x vs v us Q I rx rv h;obtain ⟨a,names,z,j,rfl,rfl,ha,hz,hj,hno,q⟩:=h;cases rx;obtain ⟨u,rfl,ru⟩:=rv.one;obtain ⟨t,rfl⟩:=ru;obtain ⟨its,n,sl,r,e⟩:=I.tupD ha;have hl:=r.length;rw [List.length_map] at hl;have hjl:j<names.length:=by
  rcases Nat.lt_or_ge j names.length with z'|z'
  ·exact z'
  ·rw [List.getElem?_eq_none z'] at hj;cases hj
 have hjs:j<its.toArray.size:=by rw [List.size_toArray];lia
 refine call_meets PySem.F.slot_tuple_index ⟨_,e,rfl⟩ PySem.F.entry_tuple_index (PySem.F.args_tuple_index_2 _ _)
  (nv a its.toArray n none sl (.str z t) (fun v=>match v with|.str y _=>y==z|_=>false) (fun y hy=>?_) j hjs ?_ fun m hm hmj=>?_) ⟨e,?_⟩
 ·obtain ⟨m,hm,rfl⟩:=List.getElem_of_mem (by simpa using hy:y∈its)
  obtain ⟨y',t',h1,h2⟩:=fk r m hm;rw [h2];exact eqGives_str y' z t' t
 ·obtain ⟨y',t',h1,h2⟩:=fk r j (by lia)
  rw [hj] at h1;cases h1;simp [h2]
 ·obtain ⟨y',t',h1,h2⟩:=fk r m (by rw [List.size_toArray] at hm;exact hm)
  have h3:=hno m hmj;rw [h1] at h3;have ne:¬y'=z:=fun e=>h3 (by rw [e])
  simp [h2,ne]
 ·exact ⟨.int (j:Int),H,I.tok _,⟨_,rfl⟩,q⟩
def tTM(r:V->List V->Hp->VK->Prop)(to:TE)(t:TA):TE:=fun σ H Q=>to σ H fun x H1=>(∃a xs,x=.ref a/\H1 a=some (.tup xs))/\t σ H1 fun xs H2=>r x xs H2 Q
theorem DQ{o e:Expr}{es:List Expr}{to:TE}{t:TA}{name:Str}{apos cpos:Pos}{id:String}{r:V->List V->Hp->VK->Prop}(slot:Slot "tuple" name id)(hty:typeOf (.builtin id)=pure (.type "method_descriptor"))(hm:zT X id r)(ho:PE X o to)(ha:PA X (e::es) t)
  (hbase:attributeBase o name X.env (eval o X.env)=eval o X.env:=by rfl)
  (hfew:((backTo cpos (starEach (e::es) X.env)).all (fun x=>!x.1)&&(backToKw cpos (keywordEach [] X.env)).all (fun x=>x.1.isSome)
   && decide ((e::es).length+([]:List Keyword).length+(if ([]:List Keyword).isEmpty then 0 else 1)<30))=true:=by rfl)
  (hline:(apos.endLine==cpos.line)=true:=by rfl) (hs:starEach (e::es) X.env=(false,eval e X.env)::starEach es X.env:=by rfl) (hplain:(backTo cpos (starEach es X.env)).any (·.1)=false:=by rfl):
  PE X (.Call (.Attribute o name apos) (e::es) [] cpos) (tTM r to t):=by
 intro pins s σ H Q I h;refine wpAny_Call_method_late hbase hfew hline rfl (thn (ho pins s σ H _ I h) fun v s1 ⟨x,H1,I1,r1,⟨a,xs,ex,ea⟩,q1⟩=>?_);subst ex;cases r1;obtain ⟨its,n,sl,rv,eo⟩:=I1.tupD ea;refine ⟨"tuple",id,PySem.F.plainAttrs_tuple,slot,hty,⟨_,eo,rfl⟩,fun b eb=>by cases eb;exact ⟨_,eo,rfl⟩,?_⟩
 have hA:=ha cpos pins s1 σ H1 _ I1 q1;rw [hs] at hA ⊢;refine Calls.callWith_builtin (by show (false||(backTo cpos (starEach es X.env)).any (·.1))=false;rw [hplain]<;>rfl) (Calls.evalArgs_plain ?_)
 exact thn hA fun us s2 ⟨vs,H2,I2,r2,q2⟩=>hm pins s2 σ H2 (.ref a) vs _ us Q I2 rfl r2 q2
end
end L2
namespace L2
open PySem PySem.Spec PyProof.Rows
theorem eL{h base:Heap}{S:List Addr}:∀{l:List Env},h.FunFrames base l->(∀b∈fz l,b∈S)->h.FunFrames (W.hideAll h S) l
 |[],_,_=>trivial
 |env::r,hl,hs=>by
  obtain ⟨hk,⟨L,o,hf,hn,ho,hd⟩,hr⟩:=hl;have hL:L∈S:=hs L (by unfold fz;rw [List.filterMap_cons,hf];exact List.mem_cons_self)
  exact ⟨hk,⟨L,o,hf,W.hideAll_none S hL,ho,hd⟩,eL hr fun b hb=>hs b (by unfold fz;rw [List.filterMap_cons,hf];exact List.mem_cons_of_mem _ hb)⟩
def oi(P:Program)(w:World)(C:Addr):mI:=fun outer H s E e s'=>∃(ea:Addr) (H':Hp) (B:Heap) (a0:Value),e=.ref ea/\s'.os=s.os/\AllBare s'.gens/\Un (fz outer) [] H H' s.heap s'.heap/\HOk P w H' s'.heap/\
 Heap.FlyingW B outer ea (.ref C) a0 s'.heap/\(∀b u,H' b=some u->∃o,B.get? b=some o)/\(∀b o,s.heap.get? b=some o->b∉fz outer->∃o',B.get? b=some o')/\E (.ref C) none H'
theorem kZ{P:Program}{w:World}{H:Hp}{h h' B:Heap}(hok:HOk P w H h)(k:B.StaysIn h)(k':B.StaysIn h')(sT:∀b u,H b=some u->∃o,B.get? b=some o):HOk P w H h':=fun a o e=>
 (hok a o e).stay (fun b u hb q=>by
  obtain ⟨v,hv⟩:∃v,B.get? b=some v:=by
   rcases hb with rfl|z
   ·exact sT _ _ e
   ·exact sT _ _ z
  have:=k b v hv;rw [q] at this;cases this;exact k' b _ hv) (fun _ q=>q) fun _ _ q=>q
theorem oS{fs:List Addr}{H H':Hp}{h h1 h2 B:Heap}(un:Un fs [] H H' h h1)(k1:B.StaysIn h1)(k2:B.StaysIn h2)(up:h1.UpToSlots h2)(sA:∀b o,h.get? b=some o->b∉fs->∃o',B.get? b=some o')
  (nf:∀b∈fs,∀o,h.get? b=some o->∀vs,o.data≠.fields vs) (fr:∀b∈fs,H b=none):Un fs [] H H' h h2 where
 keep:=fun b o q n hb hx=>by
  have q1:=un.keep b o q n hb hx;obtain ⟨o',ho'⟩:=sA b o q hb;have:=k1 b o' ho';rw [q1] at this;cases this;exact k2 b _ ho'
 slot:=fun b o q n hb hx=>by
  obtain ⟨sl,q1⟩:=un.slot b o q n hb hx;obtain ⟨sl2,q2⟩:=up b _ q1 (nf b hb o q);exact ⟨sl2,q2⟩
 free:=un.free
 there:=fun b o q hx=>by
  by_cases hb:b∈fs
  ·obtain ⟨sl,q1⟩:=un.slot b o q (fr b hb) hb hx
   obtain ⟨sl2,q2⟩:=up b _ q1 (nf b hb o q);exact ⟨_,q2⟩
  ·obtain ⟨o',ho'⟩:=sA b o q hb
   exact ⟨o',k2 b o' ho'⟩
 tups:=un.tups
 frzs:=un.frzs
 tbls:=un.tbls
section
variable {P:Program}{w:World}{K:W.Frag}{mg:Str->Option Value}{base:Heap}{N:List Str}{qual:Str}{scope:Scope}{f C:Addr}{cd:Value}{A:Around}{outer:List Env}{s0:Shared}{H0:Hp}{E:XK}
theorem o7{env:Env}{L:Addr}{l:List Env}(h:env.frame=some L):fz (env::l)=L::fz l:=by unfold fz;rw [List.filterMap_cons,h]
theorem CG:de (oi P w C) (dM (oi P w C) P w K mg base N qual scope f cd A outer s0 H0 E) E:=by
 intro pins σ H s e s' I hx;obtain ⟨ea,H',B,a0,rfl,hos,hb,un,hok,hfl,sT,sA,hE⟩:=hx;have hsk:(dM (oi P w C) P w K mg base N qual scope f cd A outer s0 H0 E).stack=envOfC qual scope s0.heap.objs.size f cd::outer:=rfl;have hfr:(envOfC qual scope s0.heap.objs.size f cd).frame=some s0.heap.objs.size:=rfl;have hfs:fz (envOfC qual scope s0.heap.objs.size f cd::outer)=s0.heap.objs.size::fz outer:=o7 hfr;rw [hsk] at un hfl sA;show wpAny (model P w) (A.deeper (envOfC qual scope s0.heap.objs.size f cd)) (leaving (envOfC qual scope s0.heap.objs.size f cd) (.ref ea)) (fun _ s''=>oi P w C outer H0 s0 E (.ref ea) s'') (fun e' s''=>oi P w C outer H0 s0 E e' s'') s';refine wpAny_leaves_onW I.ok.frames hfr hfl fun h' hfl' hup=>?_;have u1:Un (fz outer) [] H0 H s0.heap s.heap:=I.base;have nofr:∀{b:Addr} {o:Obj},s0.heap.get? b=some o->b∉fz outer->b∉fz (envOfC qual scope s0.heap.objs.size f cd::outer):=fun {b o} q hb z=>by
  rw [hfs] at z;rcases List.mem_cons.mp z with e|z
  ·exact Nat.lt_irrefl _ (e▸Heap.lt_size q)
  ·exact hb z
 have un2:Un (fz (envOfC qual scope s0.heap.objs.size f cd::outer)) [] H H' s.heap h':=by
  refine oS un hfl.1 hfl'.1 hup sA (fun b hb o q vs=>?_) fun b hb=>?_
  ·obtain ⟨_,o',ho',hd⟩:=I.stack.mem (show b∈_ from hb)
   rw [q] at ho';cases ho';exact hd vs
  ·exact I.stkFree b hb
 refine ⟨ea,H',B,a0,rfl,hos.trans I.os,hb,?_,kZ hok hfl.1 hfl'.1 sT,hfl',sT,fun b o q hb=>?_,hE⟩
 ·refine ⟨fun b o q n hb hx=>?_,fun b o q n hb hx=>?_,fun b o q n hx=>?_,fun b o q hx=>?_,fun b xs q=>un2.tups b xs (u1.tups b xs q),fun b o u q=>un2.frzs b o u (u1.frzs b o u q),fun b ps q=>?_⟩
  ·exact un2.keep b o (u1.keep b o q n hb hx) (u1.free b o q n hx) (nofr q hb) hx
  ·obtain ⟨sl,q1⟩:=u1.slot b o q n hb hx
   obtain ⟨sl2,q2⟩:=un2.slot b _ q1 (u1.free b o q n hx) (by rw [hfs];exact List.mem_cons_of_mem _ hb) hx
   exact ⟨sl2,q2⟩
  ·obtain ⟨o1,q1⟩:=u1.there b o q hx
   exact un2.free b o1 q1 (u1.free b o q n hx) hx
  ·obtain ⟨o1,q1⟩:=u1.there b o q hx
   exact un2.there b o1 q1 hx
  ·obtain ⟨m1,e1⟩:=u1.tbls b ps q
   obtain ⟨m2,e2⟩:=un2.tbls b _ e1;exact ⟨m1++m2,by rw [e2,Array.append_assoc]⟩
 ·obtain ⟨o1,q1⟩:=u1.there b o q (by simp)
  exact sA b o1 q1 (nofr q hb)
structure ExcAt(K:W.Frag)(C:Addr):Prop where
 at_:∃(nm q:Str) (Nn:Addr) (bs bm bmB:List Value) (hdct:Bool) (sn:List Str) (sub:List Value) (ab:Bool) (col:Option Bool) (dd:Option Addr) (k0 k1 k2 k3 k5:Option Value) (newId initId Bs:String) (mN:Str->Option Value),
  (∀h:Heap,K.In h->h.get? C=some (excClassObj nm q C Nn bs bm hdct sn sub ab col dd k0 k1 k2 k3 k5 newId)/\h.Ns Nn mN/\OwnTail h bmB bm)/\mN "__init__"=none/\ExcBaseFacts Bs newId initId bmB/\bmB.contains (.type Bs)=true/\bm.contains (.type "BaseException")=true
theorem ObjOk.obj{P:Program}{w:World}{H:Hp}{h:Heap}{a:Addr}{o:HO}(x:ObjOk P w H h a o):∃v,h.get? a=some v:=by
 cases o with
 |lst xs=>obtain ⟨_,_,_,_,e⟩:=x;exact ⟨_,e⟩
 |tup xs=>obtain ⟨_,_,_,_,e,_⟩:=x;exact ⟨_,e⟩
 |dK kvs=>obtain ⟨_,_,_,_,o,_,_,e,_⟩:=x;exact ⟨_,e⟩
 |dT kvs=>obtain ⟨_,_,_,_,o,_,_,e,_⟩:=x;exact ⟨_,e⟩
 |set S n=>obtain ⟨o,_,_,_,e,_⟩:=x;exact ⟨_,e⟩
 |ins C dx fs=>obtain ⟨_,_,_,e,_⟩:=x;exact ⟨_,e⟩
 |own y=>obtain ⟨_,e⟩:=x;exact ⟨_,e⟩
 |xd fs=>obtain ⟨_,⟨_,_,_,e,_⟩,_⟩:=x;exact ⟨_,e⟩
 |rng lo hi=>obtain ⟨_,_,_,e⟩:=x;exact ⟨_,e⟩
 |frz ob u=>obtain ⟨e,_⟩:=x;exact ⟨_,e⟩
 |tbl ps=>exact ⟨_,(show h.get? a=some _ from x)⟩
 |met f y=>exact ⟨_,(show h.get? a=some _ from x)⟩
 |ext φ=>obtain ⟨_,⟨_,e⟩,_⟩:=x;exact ⟨_,e⟩
theorem yB{fs:List Addr}{L:Addr}{H0 H H':Hp}{h0 h h':Heap}(u1:Un fs [] H0 H h0 h)(un2:Un (L::fs) [] H H' h h')(hL:h0.objs.size<=L):Un fs [] H0 H' h0 h':=by
 have nofr:∀{b:Addr} {o:Obj},h0.get? b=some o->b∉fs->b∉L::fs:=fun {b o} q hb z=>by
  rcases List.mem_cons.mp z with e|z
  ·exact Nat.lt_irrefl _ (Nat.lt_of_lt_of_le (e▸Heap.lt_size q) hL)
  ·exact hb z
 refine ⟨fun b o q n hb hx=>un2.keep b o (u1.keep b o q n hb hx) (u1.free b o q n hx) (nofr q hb) hx,fun b o q n hb hx=>?_,fun b o q n hx=>?_,fun b o q hx=>?_,fun b xs q=>un2.tups b xs (u1.tups b xs q),fun b o u q=>un2.frzs b o u (u1.frzs b o u q),fun b ps q=>?_⟩
 ·obtain ⟨sl,q1⟩:=u1.slot b o q n hb hx
  obtain ⟨sl2,q2⟩:=un2.slot b _ q1 (u1.free b o q n hx) (List.mem_cons_of_mem _ hb) hx;exact ⟨sl2,q2⟩
 ·obtain ⟨o1,q1⟩:=u1.there b o q hx
  exact un2.free b o1 q1 (u1.free b o q n hx) hx
 ·obtain ⟨o1,q1⟩:=u1.there b o q hx
  exact un2.there b o1 q1 hx
 ·obtain ⟨m1,e1⟩:=u1.tbls b ps q
  obtain ⟨m2,e2⟩:=un2.tbls b _ e1;exact ⟨m1++m2,by rw [e2,Array.append_assoc]⟩
def oJ(E:XK)(C:Addr):TS:=fun _ _ H=>E (.ref C) none H
theorem u8{x msg:Str}{np cpos pos apos:Pos}{jj}(X:ExcAt K C)(hm:mg x=some (.ref C))(hg:Gl (dM (oi P w C) P w K mg base N qual scope f cd A outer s0 H0 E) x)
  (hd:(x==("__debug__":Str))=false:=by decide)
  (hs:starEach [.Constant (.str msg) jj apos] (dM (oi P w C) P w K mg base N qual scope f cd A outer s0 H0 E).env=[(false,eval (.Constant (.str msg) jj apos) (dM (oi P w C) P w K mg base N qual scope f cd A outer s0 H0 E).env)]:=by rfl):
  PS (dM (oi P w C) P w K mg base N qual scope f cd A outer s0 H0 E) (.Raise (some (.Call (.Name x np) [.Constant (.str msg) jj apos] [] cpos)) none pos) (oJ E C):=by
 intro pins s σ H D I h;obtain ⟨nm,q,Nn,bs,bm,bmB,hdct,sn,sub,ab,col,dd,k0,k1,k2,k3,k5,newId,initId,Bs,mN,hX,hni,FB,hBs,hbase⟩:=X.at_
 refine wpAny_Raise_call_subU (C:=C) (nm:=nm) (q:=q) (N:=Nn) (bs:=bs) (bm:=bm) (hdct:=hdct) (sn:=sn) (sub:=sub) (ab:=ab) (col:=col) (dd:=dd) (k0:=k0) (k1:=k1) (k2:=k2) (k3:=k3) (k5:=k5) FB hBs FB (mN:=mN) hbase (I.ok.hd rfl) (by rw [hs];rfl) hni
  (ld_glob I hg hm ⟨rfl,?_⟩ hd)
 have hA:=(qS ot wm hs) cpos pins s σ H (fun xs H1=>xs.length=1/\E (.ref C) none H1) I ⟨rfl,h⟩;rw [hs] at hA ⊢;refine Calls.evalArgs_plain (wpAny_mono hA (fun vs s₂ h₂=>?_) fun _ _ y=>y);obtain ⟨vv,H1,I1,r,hlen,hE⟩:=h₂;obtain ⟨hC,hN,T⟩:=hX s₂.heap I1.kIn;refine ⟨rfl,?_,hC,hN,T,fun h' e hx=>?_⟩
 ·show vs.length<=sizeLine
  rw [<- r.length,hlen]
  decide
 have hfr:(envOfC qual scope s0.heap.objs.size f cd).frame=some s0.heap.objs.size:=rfl;have hfs:fz (envOfC qual scope s0.heap.objs.size f cd::outer)=s0.heap.objs.size::fz outer:=o7 hfr;have kB:(W.hideAll s₂.heap (fz (envOfC qual scope s0.heap.objs.size f cd::outer))).StaysIn s₂.heap:=fun b o e=>W.of_hideAll _ e;show wpAny (model P w) (A.deeper (envOfC qual scope s0.heap.objs.size f cd)) (leaving (envOfC qual scope s0.heap.objs.size f cd) (.ref e)) (fun _ s''=>oi P w C outer H0 s0 E (.ref e) s'') (fun e' s''=>oi P w C outer H0 s0 E e' s'') _;refine wpAny_leaves_madeW I1.ok.frames hfr kB (eL I1.stack fun b hb=>hb) hx fun h'' t hfl _ _ hup=>?_;have up2:s₂.heap.UpToSlots h'':=(Heap.UpToSlots.of_keeps hx.keeps).trans hup;have inB:∀{b:Addr} {o:Obj},s₂.heap.get? b=some o->b∉fz (envOfC qual scope s0.heap.objs.size f cd::outer)->(W.hideAll s₂.heap (fz (envOfC qual scope s0.heap.objs.size f cd::outer))).get? b=some o:=fun e n=>W.hideAll_get _ e n;have sT:∀b u,H1 b=some u->∃o,(W.hideAll s₂.heap (fz (envOfC qual scope s0.heap.objs.size f cd::outer))).get? b=some o:=fun b u e=>by
  obtain ⟨v,hv⟩:=ObjOk.obj (I1.hok b u e);exact ⟨v,inB hv fun z=>by rw [I1.stkFree b z] at e;cases e⟩
 have un2:Un (fz (envOfC qual scope s0.heap.objs.size f cd::outer)) [] H1 H1 s₂.heap h'':=by
  refine oS Un.refl kB hfl.1 up2 (fun b o q hb=>⟨o,inB q hb⟩) (fun b hb o q vs=>?_) fun b hb=>I1.stkFree b hb;obtain ⟨_,o',ho',hd'⟩:=I1.stack.mem (show b∈_ from hb);rw [q] at ho';cases ho';exact hd' vs
 rw [hfs] at un2;refine ⟨e,H1,_,.ref t,rfl,I1.os,I1.bare,yB I1.base un2 (Nat.le_refl _),kZ I1.hok kB hfl.1 sT,hfl,sT,fun b o q hb=>?_,hE⟩;obtain ⟨o1,q1⟩:=I1.base.there b o q (fun z=>absurd (show b∈([]:List Addr) from z) (by simp))
 refine ⟨o1,inB q1 fun z=>?_⟩;rw [hfs] at z;rcases List.mem_cons.mp z with e'|z
 ·exact Nat.lt_irrefl _ (e'▸Heap.lt_size q)
 ·exact hb z
end
abbrev Cx.marked(X:Cx)(e:Value):Cx:={ X with A:=X.A.mark (some e),calm:=false,xe:=fun _ _=>False }
section
variable {X:Cx}{pins:List (Addr×Obj)}{σ:St}{H:Hp}{s:Shared}{e:Value}
theorem Cx.Ok.mark(ok:X.Ok)(e:Value):(X.marked e).Ok:=
 ⟨ok.mod,ok.kind,ok.glob,ok.blt,ok.above,ok.inj,ok.has,ok.cab,fun z=>(Bool.noConfusion z),ok.frames,ok.stk,ok.exf,ok.bs,ok.bsz,ok.noex,ok.exfs,ok.funs,ok.frf⟩
theorem Inv.mark(I:Inv X pins σ H s)(e:Value):Inv (X.marked e) pins σ H s:=⟨I.ok.mark e,I.os,I.bare,I.base,I.loc,I.cell,I.free,I.freeC,I.pin,I.hok,I.len⟩
theorem Inv.unmark(ok:X.Ok)(I:Inv (X.marked e) pins σ H s):Inv X pins σ H s:=⟨ok,I.os,I.bare,I.base,I.loc,I.cell,I.free,I.freeC,I.pin,I.hok,I.len⟩
theorem SP.unmark{D:Ends}{f:Flow}{s':Shared}(ok:X.Ok)(h:SP (X.marked e) pins D f s'):SP X pins D f s':=by
 cases f with
 |next=>obtain ⟨σ',H',I,q⟩:=h;exact ⟨σ',H',I.unmark ok,q⟩
 |brk=>obtain ⟨σ',H',I,q⟩:=h;exact ⟨σ',H',I.unmark ok,q⟩
 |cont=>obtain ⟨σ',H',I,q⟩:=h;exact ⟨σ',H',I.unmark ok,q⟩
 |ret u=>obtain ⟨v,σ',H',I,r,q⟩:=h;exact ⟨v,σ',H',I.unmark ok,r,q⟩
def u7(C:Addr)(sp:Sp)(dvs:List V)(ta:TA)(ts:TS):TS:=fun D σ H=>ta σ H fun vs H1=>sp (vs++dvs) H1 (fun _ H2=>D.nx σ H2) (fun _ _ H2=>ts D σ H2)
theorem oG{C f:Addr}{k:Nat}{fd:FuncData}{ps:List Str}{sp:Sp}{dvs:List V}{ds:List Value}{x cx:Str}{p cp ep np hpos pos:Pos}{e:Expr}{es:List Expr}{ta:TA}{b₀:Stmt}{suite:List Stmt}{ts:TS}
  (hst:X.stack=X.env::X.outer) (hfL:X.env.frame=some X.env.locals) (F:FnOk X.prog X.w X.K X.mg X.base (oi X.prog X.w C) k f fd ps sp) (hr:Room k X.A) (hg:Gl X x) (hm:X.mg x=some (.ref f)) (hk:W.keepIn X.K (.ref f)=true) (hb:Binds X.K fd ps ds) (hd:Vals dvs ds)
  (ha:PA X.nox (e::es) ta) (EX:ExcAt X.K C) (hgC:Gl X cx) (hmC:X.mg cx=some (.ref C)) (hsu:∀ea:Addr,pM (X.marked (.ref ea)) (b₀::suite) ts)
  (hdb:(x==("__debug__":Str))=false:=by decide) (hdC:(cx==("__debug__":Str))=false:=by decide) (he:starEach (e::es) X.env=(false,eval e X.env)::starEach es X.env:=by rfl) (hpl:(backTo cp (starEach es X.env)).any (·.1)=false:=by rfl)
  (hsw:swapsWith (.Call (.Name x p) (e::es) [] cp) none ep.line X.env=pure false:=by rfl):
  PS X (.Try [.Expr (.Call (.Name x p) (e::es) [] cp) ep] [.ExceptHandler (some (.Name cx np)) none (b₀::suite) hpos] [] [] pos) (u7 C sp dvs ta ts):=by
 intro pins s σ H D I h;refine wpAny_Try_except (wpAny_execs_cons (wpAny_Expr_any ?_ I.quiet hsw));refine wpAny_Call_Name_kw (ld_glob I hg hm ?_ hdb);refine W.callWith_K (h₀:=X.base) I.ok.mod.kin hk (wpAny_mono (ha cp pins s σ H _ (I.wish _) h) (fun us s1 ⟨vs,H1,I1',r,q⟩=>?_) fun _ _ z=>False.elim z) he hpl;have I1:Inv X pins σ H1 s1:=I1'.unwish;refine ⟨I1.kIn,?_⟩;have r2:Vals (vs++dvs) (us++ds):=r.append hd;have hl:(us++ds).length=ps.length:=by rw [<- r2.length];exact F.len _ _ _ _ q
 refine wpAny_call (codeAny_mono (F.run X.A X.stack s1 H1 ⟨us,[]⟩ (us++ds) (vs++dvs) _ _ hr I1.env0 (hb s1 us I1.kIn hl) r2 q) fun rr s' hq=>?_);cases rr with
 |ok fl=>
  cases fl with
  |ret u=>
   obtain ⟨x',H2,I2,_,q2⟩:=I1.after hq;exact wpAny_execs_nil (wpAny_execs_nil ⟨σ,H2,I2,q2⟩)
  |next=>exact False.elim hq
  |brk=>exact False.elim hq
  |cont=>exact False.elim hq
 |error er=>
  obtain ⟨ea,H',B,a0,rfl,hos,hbare,un,hok,hfl,sT,sA,hE⟩:=hq;obtain ⟨nm,qn,Nn,bs,bm,bmB,hdct,sn,sub,ab,col,dd,k0,k1,k2,k3,k5,newId,initId,Bs,mN,hX,hni,FB,hBs,hbase⟩:=EX.at_;have nf:∀b∈fz X.stack,∀o,s1.heap.get? b=some o->∀vs,o.data≠.fields vs:=fun b hb' o q' vs=>by
   obtain ⟨_,o',ho',hd'⟩:=I1.stack.mem (show b∈_ from hb');rw [q'] at ho';cases ho';exact hd' vs
  have shift:∀h':Heap,B.StaysIn h'->s'.heap.UpToSlots h'->Inv X pins σ H' { s' with heap:=h' }:=fun h' k up=>
   I1.call' (s':={ s' with heap:=h' }) hos (oS un hfl.1 k up sA nf fun b hb'=>I1.stkFree b hb') (kZ hok hfl.1 k sT) hbare fun b z=>absurd (show b∈([]:List Addr) from z) (by simp)
  rw [hst] at hfl;have hfr:X.A.frames=some (X.env::X.outer):=by rw [<- hst];exact I1.ok.frames
  refine wpAny_looks_onW hfr hfL hfl fun h4 held4 up4=>?_;refine wpAny_landsW held4 fun h5 hfl5 up5=>?_;have I5:=(shift h5 hfl5.1 (up4.trans up5)).mark (.ref ea);obtain ⟨hC,_,_⟩:=hX h5 I5.kIn;obtain ⟨ob,hob,hobc⟩:=hfl5.there;refine wpAny_handleBy_cons (codeAny_handlers_test (ld_glob I5 hgC hmC ?_ hdC)) (by intro q';cases q')
  refine wpAny_excMatches_sub_self hC hob hobc hbase (codeAny_handlers_suite ?_);refine lands_againW hfl5 fun h6 hfl6 up6=>?_;have I6:=(shift h6 hfl6.1 ((up4.trans up5).trans up6)).mark (.ref ea);exact wpAny_mono (hsu ea pins _ σ H' D I6 hE) (fun fl s7 q7=>q7.unmark I.ok) fun _ _ z=>False.elim z
end
end L2
namespace L3
open PySem L2
inductive D where
 |non|bl (b:Bool)|int (i:Int)|str (x:Str)|ty (n:String)|ref (a:Addr)|tup (xs:List D)|lst (xs:List D)|mt (xs:List D)|ml (xs:List D)
def TpD(_:W.Frag)(H:Hp)(p:Addr)(vs:List V):Prop:=H p=some (.tup vs)
def TpM(K:W.Frag)(p:Addr)(vs:List V):Prop:=∃(o:Obj) (its:Array Value) (n:Nat),K.lookup p=some o/\o.cls=.type "tuple"/\o.data=.seq its n/\its.size<=sizeLine/\Vals vs its.toList
def FzD(K:W.Frag)(H:Hp)(p:Addr)(vs:List V):Prop:=
 ∃o,H p=some (.frz o (.lst vs))
def FzK(K:W.Frag)(H:Hp)(p:Addr)(vs:List V):Prop:=(∃o,H p=some (.frz o (.lst vs)))\/∃(o:Obj) (its:Array Value) (n:Nat),K.lookup p=some o/\o.cls=.type "list"/\o.dict=none/\o.data=.seq its n/\its.size<=sizeLine/\Vals vs its.toList
theorem FzK.sq{K:W.Frag}{H:Hp}{p:Addr}{vs:List V}(h:FzK K H p vs):SqL K H p vs:=h.imp (fun ⟨o,e⟩=>.inr ⟨o,e⟩) fun x=>x
theorem TpD.sq{K:W.Frag}{H:Hp}{p:Addr}{vs:List V}(h:TpD K H p vs):gz K H p vs:=.inl (.inl h)
theorem TpM.sq{K:W.Frag}{H:Hp}{p:Addr}{vs:List V}(h:TpM K p vs):gz K H p vs:=.inr h
theorem FzD.sq{K:W.Frag}{H:Hp}{p:Addr}{vs:List V}(h:FzD K H p vs):SqL K H p vs:=by
 obtain ⟨o,h⟩:=h;exact .inl (.inr ⟨o,h⟩)
mutual
def Rp(K:W.Frag)(H:Hp):D->V->Prop
 |.non,v=>v=.non
 |.bl b,v=>v=.bl b
 |.int i,v=>v=.int i
 |.str x,v=>v=.str x
 |.ty n,v=>v=.ty n
 |.ref a,v=>v=.ref a
 |.tup xs,v=>∃p vs,v=.ref p/\TpD K H p vs/\Rps K H xs vs
 |.lst xs,v=>∃p vs,v=.ref p/\FzD K H p vs/\Rps K H xs vs
 |.mt xs,v=>∃p vs,v=.ref p/\TpM K p vs/\Rps K H xs vs
 |.ml xs,v=>∃p vs,v=.ref p/\FzK K H p vs/\Rps K H xs vs
def Rps(K:W.Frag)(H:Hp):List D->List V->Prop
 |[],vs=>vs=[]
 |x::xs,vs=>∃v r,vs=v::r/\Rp K H x v/\Rps K H xs r
end
structure Imm(H H':Hp):Prop where
 tup:∀p vs,H p=some (.tup vs)->H' p=some (.tup vs)
 frz:∀p o u,H p=some (.frz o u)->H' p=some (.frz o u)
theorem Imm.refl{H:Hp}:Imm H H:=⟨fun _ _ e=>e,fun _ _ _ e=>e⟩
theorem TpD.mono{K:W.Frag}{H H':Hp}{p:Addr}{vs:List V}(i:Imm H H')(h:TpD K H p vs):TpD K H' p vs:=i.tup _ _ h
theorem FzK.mono{K:W.Frag}{H H':Hp}{p:Addr}{vs:List V}(i:Imm H H')(h:FzK K H p vs):FzK K H' p vs:=h.imp (fun ⟨o,e⟩=>⟨o,i.frz _ _ _ e⟩) fun x=>x
theorem FzD.mono{K:W.Frag}{H H':Hp}{p:Addr}{vs:List V}(i:Imm H H')(h:FzD K H p vs):FzD K H' p vs:=let ⟨o,e⟩:=h;⟨o,i.frz _ _ _ e⟩
mutual
theorem Rp.mono{K:W.Frag}{H H':Hp}(i:Imm H H'):∀{d:D} {v:V},Rp K H d v->Rp K H' d v
 |.non,_,h=>h
 |.bl _,_,h=>h
 |.int _,_,h=>h
 |.str _,_,h=>h
 |.ty _,_,h=>h
 |.ref _,_,h=>h
 |.tup _,_,h=>by
  obtain ⟨p,vs,e,t,r⟩:=h;exact ⟨p,vs,e,t.mono i,Rps.mono i r⟩
 |.lst _,_,h=>by
  obtain ⟨p,vs,e,t,r⟩:=h;exact ⟨p,vs,e,t.mono i,Rps.mono i r⟩
 |.mt _,_,h=>by
  obtain ⟨p,vs,e,t,r⟩:=h;exact ⟨p,vs,e,t,Rps.mono i r⟩
 |.ml _,_,h=>by
  obtain ⟨p,vs,e,t,r⟩:=h;exact ⟨p,vs,e,t.mono i,Rps.mono i r⟩
theorem Rps.mono{K:W.Frag}{H H':Hp}(i:Imm H H'):∀{ds:List D} {vs:List V},Rps K H ds vs->Rps K H' ds vs
 |[],_,h=>h
 |_::_,_,h=>by
  obtain ⟨v,r,e,a,b⟩:=h;exact ⟨v,r,e,Rp.mono i a,Rps.mono i b⟩
end
section
variable {K:W.Frag}{H H':Hp}
theorem Rps.nil:Rps K H [] []:=rfl
theorem Rps.cons{d:D}{v:V}{ds:List D}{vs:List V}(a:Rp K H d v)(b:Rps K H ds vs):Rps K H (d::ds) (v::vs):=⟨v,vs,rfl,a,b⟩
theorem Rps.length:∀{ds:List D} {vs:List V},Rps K H ds vs->ds.length=vs.length
 |[],_,h=>by cases h;rfl
 |_::_,_,h=>by obtain ⟨v,r,rfl,_,b⟩:=h;simp [b.length]
theorem Rps.get:∀{ds:List D} {vs:List V},Rps K H ds vs->∀{i:Nat} {d:D},ds[i]?=some d->∃v,vs[i]?=some v/\Rp K H d v
 |[],_,_,i,d,e=>by simp at e
 |x::xs,_,h,i,d,e=>by
  obtain ⟨v,r,rfl,a,b⟩:=h;cases i with
  |zero=>simp at e;subst e;exact ⟨v,by simp,a⟩
  |succ i=>simpa using b.get (by simpa using e)
theorem Rps.append:∀{ds es:List D} {vs ws:List V},Rps K H ds vs->Rps K H es ws->Rps K H (ds++es) (vs++ws)
 |[],_,_,_,h,g=>by cases h;exact g
 |_::_,_,_,_,h,g=>by
  obtain ⟨v,r,rfl,a,b⟩:=h;exact ⟨v,_,rfl,a,b.append g⟩
theorem Rps.take:∀{ds:List D} {vs:List V} (n:Nat),Rps K H ds vs->Rps K H (ds.take n) (vs.take n)
 |[],_,n,h=>by cases h;simp [Rps]
 |_::_,_,0,h=>rfl
 |_::_,_,n+1,h=>by
  obtain ⟨v,r,rfl,a,b⟩:=h;exact ⟨v,_,rfl,a,b.take n⟩
theorem Rps.drop:∀{ds:List D} {vs:List V} (n:Nat),Rps K H ds vs->Rps K H (ds.drop n) (vs.drop n)
 |[],_,n,h=>by cases h;simp [Rps]
 |_::_,_,0,h=>h
 |_::_,_,n+1,h=>by
  obtain ⟨v,r,rfl,a,b⟩:=h;exact b.drop n
theorem Rps.set{d:D}{v:V}(a:Rp K H d v):∀{ds:List D} {vs:List V} (i:Nat),Rps K H ds vs->Rps K H (ds.set i d) (vs.set i v)
 |[],_,_,h=>by cases h;rfl
 |_::_,_,0,h=>by obtain ⟨w,r,rfl,_,b⟩:=h;exact ⟨v,r,rfl,a,b⟩
 |_::_,_,i+1,h=>by obtain ⟨w,r,rfl,c,b⟩:=h;exact ⟨w,_,rfl,c,b.set a i⟩
theorem oh:∀{is:List Int} {vs:List V},vs=is.map V.int->Rps K H (is.map D.int) vs
 |[],_,e=>e
 |i::is,_,e=>by subst e;exact ⟨_,_,rfl,rfl,oh rfl⟩
end
inductive MO where
 |lst (xs:List D)
 |dK (kvs:List (aT×D))
 |dT (kvs:List (List aT×D))
 |ins (C:Addr) (fs:List (Str×D))
abbrev Mem:=Addr->Option MO
def Mem.upd(M:Mem)(a:Addr)(o:MO):Mem:=fun b=>if b=a then some o else M b
def Mem.del(M:Mem)(a:Addr):Mem:=fun b=>if b=a then none else M b
def Rkv{κ:Type}(K:W.Frag)(H:Hp):List (κ×D)->List (κ×V)->Prop:=Paired fun p q=>p.1=q.1/\Rp K H p.2 q.2
def RepO(K:W.Frag)(H:Hp)(a:Addr):MO->Prop
 |.lst xs=>∃vs,H a=some (.lst vs)/\Rps K H xs vs
 |.dK kvs=>∃ws,H a=some (.dK ws)/\Rkv K H kvs ws
 |.dT kvs=>∃ws,H a=some (.dT ws)/\Rkv K H kvs ws
 |.ins C fs=>∃dx ws,H a=some (.ins C dx ws)/\Rkv K H fs ws
def RepH(K:W.Frag)(H:Hp)(M:Mem):Prop:=∀a o,M a=some o->RepO K H a o
section
variable {K:W.Frag}{H H':Hp}{M:Mem}{a b:Addr}{o:MO}{u:HO}
@[simp] theorem Mem.upd_same:(M.upd a o) a=some o:=by simp [Mem.upd]
theorem ao(h:b≠a):(M.upd a o) b=M b:=by simp [Mem.upd,h]
@[simp] theorem Mem.upd_upd {o':MO}:(M.upd a o).upd a o'=M.upd a o':=by funext c;simp [Mem.upd];split<;>rfl
@[simp] theorem Mem.upd_del:(M.upd a o).del a=M.del a:=by funext c;simp [Mem.upd,Mem.del];split<;>rfl
theorem ah(h:M a=none):M.del a=M:=by
 funext c;simp only [Mem.del];split
 ·rename_i e;rw [e,h]
 ·rfl
theorem bd{o':MO}(h:a≠b):(M.upd a o).upd b o'=(M.upd b o').upd a o:=by
 funext c;simp only [Mem.upd];split
 ·rename_i e;rw [e,if_neg (Ne.symm h)]
 ·rfl
theorem Mem.ne{o:MO}(h:M a=some o)(h':M b=none):a≠b:=by intro e;subst e;rw [h] at h';cases h'
theorem Rkv.mono{κ:Type}{kvs:List (κ×D)}{ws:List (κ×V)}(i:Imm H H')(h:Rkv K H kvs ws):Rkv K H' kvs ws:=dw h fun _ _ z=>⟨z.1,z.2.mono i⟩
theorem RepO.obj(r:RepO K H a o):∃u,H a=some u:=by
 cases o with
 |lst xs=>obtain ⟨vs,e,_⟩:=r;exact ⟨_,e⟩
 |dK xs=>obtain ⟨vs,e,_⟩:=r;exact ⟨_,e⟩
 |dT xs=>obtain ⟨vs,e,_⟩:=r;exact ⟨_,e⟩
 |ins C fs=>obtain ⟨dx,vs,e,_⟩:=r;exact ⟨_,e⟩
theorem RepO.keep(r:RepO K H a o)(i:Imm H H')(e:H' a=H a):RepO K H' a o:=by
 cases o with
 |lst xs=>obtain ⟨vs,q,z⟩:=r;exact ⟨vs,e.trans q,z.mono i⟩
 |dK xs=>obtain ⟨vs,q,z⟩:=r;exact ⟨vs,e.trans q,z.mono i⟩
 |dT xs=>obtain ⟨vs,q,z⟩:=r;exact ⟨vs,e.trans q,z.mono i⟩
 |ins C fs=>obtain ⟨dx,vs,q,z⟩:=r;exact ⟨dx,vs,e.trans q,z.mono i⟩
theorem RepH.fresh(r:RepH K H M)(h:H a=none):M a=none:=by
 cases e:M a with
 |none=>rfl
 |some o=>obtain ⟨u,q⟩:=(r a o e).obj;rw [h] at q;cases q
def rH:Option HO->Prop
 |some (.tup _)=>False
 |some (.frz _ _)=>False
 |_=>True
theorem Imm.upd(h:rH (H a)):Imm H (upd H a u):=by
 refine ⟨fun p vs e=>?_,fun p o v e=>?_⟩
 ·rw [upd_ne];exact e
  rintro rfl;rw [e] at h;exact h
 ·rw [upd_ne];exact e
  rintro rfl;rw [e] at h;exact h
theorem Imm.new(h:H a=none):Imm H (L2.upd H a u):=Imm.upd (by rw [h];trivial)
theorem RepO.loose(r:RepO K H a o):rH (H a):=by
 cases o with
 |lst xs=>obtain ⟨vs,e,_⟩:=r;rw [e];trivial
 |dK xs=>obtain ⟨vs,e,_⟩:=r;rw [e];trivial
 |dT xs=>obtain ⟨vs,e,_⟩:=r;rw [e];trivial
 |ins C fs=>obtain ⟨dx,vs,e,_⟩:=r;rw [e];trivial
theorem RepH.new(r:RepH K H M)(h:H a=none):RepH K (L2.upd H a u) M:=fun b o e=>by
 obtain ⟨v,q⟩:=(r b o e).obj;exact (r b o e).keep (Imm.new h) (upd_ne (bq q h))
theorem RepH.put(r:RepH K H M)(h:rH (H a))(n:RepO K (L2.upd H a u) a o):RepH K (L2.upd H a u) (M.upd a o):=fun b p e=>by
 by_cases hb:b=a
 ·subst hb;rw [Mem.upd_same] at e;cases e;exact n
 ·rw [ao hb] at e
  exact (r b p e).keep (Imm.upd h) (upd_ne hb)
theorem RepH.keep(r:RepH K H M)(i:Imm H H')(e:∀b o,M b=some o->H' b=H b):RepH K H' M:=fun b o q=>(r b o q).keep i (e b o q)
structure Frm(M:Mem)(H:Hp)(M':Mem)(H':Hp):Prop where
 keep:∀b u,H b=some u->M b=none->H' b=some u/\M' b=none
variable {M':Mem}
theorem Frm.refl:Frm M H M H:=⟨fun _ _ e n=>⟨e,n⟩⟩
theorem Frm.trans{M1 M2:Mem}{H1 H2:Hp}(x:Frm M H M1 H1)(y:Frm M1 H1 M2 H2):Frm M H M2 H2:=⟨fun b u e n=>let ⟨e1,n1⟩:=x.keep b u e n;y.keep b u e1 n1⟩
theorem Frm.imm(f:Frm M H M' H')(r:RepH K H M):Imm H H':=by
 have key:∀b u,H b=some u->¬rH (some u)->H' b=some u:=fun b u e n=>(f.keep b u e (by
  cases q:M b with
  |none=>rfl
  |some o=>exact absurd (by rw [<- e];exact (r b o q).loose) n)).1
 exact ⟨fun p vs e=>key p _ e (fun z=>z),fun p o u e=>key p _ e (fun z=>z)⟩
theorem Frm.new(h:H a=none):Frm M H M (L2.upd H a u):=⟨fun b v e n=>⟨by rw [upd_ne (bq e h)];exact e,n⟩⟩
theorem Frm.put(h:H a=none\/∃o,M a=some o):Frm M H (M.upd a o) (L2.upd H a u):=⟨fun b v e n=>by
 have hb:b≠a:=by
  rintro rfl
  rcases h with h|⟨o,h⟩
  ·rw [h] at e;cases e
  ·rw [h] at n;cases n
 exact ⟨by rw [L2.upd_ne hb];exact e,by rw [ao hb];exact n⟩⟩
theorem Frm.del(h:∃o,M a=some o):Frm M H (M.del a) (L2.upd H a u):=⟨fun b v e n=>by
 have hb:b≠a:=by
  rintro rfl
  obtain ⟨o,h⟩:=h;rw [h] at n;cases n
 refine ⟨by rw [L2.upd_ne hb];exact e,?_⟩
 unfold Mem.del;rw [if_neg hb];exact n⟩
theorem Rp.mf{d:D}{v:V}(x:Rp K H d v)(r:RepH K H M)(f:Frm M H M' H'):Rp K H' d v:=x.mono (f.imm r)
theorem Rps.mf{d:List D}{v:List V}(x:Rps K H d v)(r:RepH K H M)(f:Frm M H M' H'):Rps K H' d v:=x.mono (f.imm r)
end
end L3
namespace L3
open PySem L2
abbrev Dl:=List (Option D)
abbrev DK:=D->Mem->Prop
abbrev bM:=Dl->Mem->DK->Prop
abbrev eI:=Dl->Mem->(Bool->Mem->Prop)->Prop
abbrev fO:=Dl->Mem->(List D->Mem->Prop)->Prop
structure RepS(K:W.Frag)(H:Hp)(δ:Dl)(σ:St):Prop where
 len:δ.length=σ.length
 get:∀(i:Nat) (d:D),δ[i]?=some (some d)->∃v,σ[i]?=some (some v)/\Rp K H d v
theorem RepS.mono{K:W.Frag}{H H':Hp}{δ:Dl}{σ:St}(r:RepS K H δ σ)(i:Imm H H'):RepS K H' δ σ:=
 ⟨r.len,fun j d e=>by obtain ⟨v,h1,h2⟩:=r.get j d e;exact ⟨v,h1,h2.mono i⟩⟩
theorem RepS.set{K:W.Frag}{H:Hp}{δ:Dl}{σ:St}{i:Nat}{d:D}{v:V}(r:RepS K H δ σ)(h:Rp K H d v):RepS K H (δ.set i (some d)) (σ.set i (some v)):=by
 refine ⟨by simp [r.len],fun j e q=>?_⟩
 rw [List.getElem?_set] at q ⊢
 by_cases hij:i=j
 ·rw [if_pos hij] at q ⊢
  by_cases hl:i<δ.length
  ·rw [if_pos (by rw [<- r.len];exact hij▸hl)]
   rw [if_pos (hij▸hl)] at q;cases q;exact ⟨v,rfl,h⟩
  ·rw [if_neg (hij▸hl)] at q;cases q
 ·rw [if_neg hij] at q ⊢
  exact r.get j e q
structure Bd where
 p:Mem->Hp->Prop
 go:∀{M M':Mem} {H H':Hp},p M H->Frm M H M' H'->p M' H'
def Eu(M:Mem)(H:Hp):Bd:=⟨fun M' H'=>Frm M H M' H',fun a b=>a.trans b⟩
structure SR(X:Cx)(B:Bd)(δ:Dl)(M:Mem)(σ:St)(H:Hp):Prop where
 i0:B.p M H
 rh:RepH X.K H M
 rs:RepS X.K H δ σ
theorem SR.go{X:Cx}{B:Bd}{δ:Dl}{M M':Mem}{σ:St}{H H':Hp}(s:SR X B δ M σ H)(rh:RepH X.K H' M')(i:Frm M H M' H'):SR X B δ M' σ H':=⟨B.go s.i0 i,rh,s.rs.mono (i.imm s.rh)⟩
def Up(K:W.Frag)(M:Mem)(H:Hp)(QQ:DK)(Q:VK):Prop:=∀d M',QQ d M'->∀v H',RepH K H' M'->Frm M H M' H'->Rp K H' d v->Q v H'
def UpT(K:W.Frag)(M:Mem)(H:Hp)(QQ:Bool->Mem->Prop)(Q:Bool->Hp->Prop):Prop:=∀b M',QQ b M'->∀H',RepH K H' M'->Frm M H M' H'->Q b H'
def UpA(K:W.Frag)(M:Mem)(H:Hp)(QQ:List D->Mem->Prop)(Q:List V->Hp->Prop):Prop:=∀ds M',QQ ds M'->∀vs H',RepH K H' M'->Frm M H M' H'->Rps K H' ds vs->Q vs H'
theorem Up.go{K:W.Frag}{M M1:Mem}{H H1:Hp}{QQ:DK}{Q:VK}(u:Up K M H QQ Q)(i:Frm M H M1 H1):Up K M1 H1 QQ Q:=fun d M' q v H' a b c=>u d M' q v H' a (i.trans b) c
theorem UpT.go{K:W.Frag}{M M1:Mem}{H H1:Hp}{QQ:Bool->Mem->Prop}{Q:Bool->Hp->Prop}(u:UpT K M H QQ Q)(i:Frm M H M1 H1):UpT K M1 H1 QQ Q:=fun d M' q H' a b=>u d M' q H' a (i.trans b)
inductive liftE(X:Cx)(B:Bd)(T:bM)(σ:St)(H:Hp)(Q:VK):Prop
 |mk (δ:Dl) (M:Mem) (QQ:DK) (s:SR X B δ M σ H) (h:T δ M QQ) (u:Up X.K M H QQ Q):liftE X B T σ H Q
inductive liftT(X:Cx)(B:Bd)(T:eI)(σ:St)(H:Hp)(Q:Bool->Hp->Prop):Prop
 |mk (δ:Dl) (M:Mem) (QQ:Bool->Mem->Prop) (s:SR X B δ M σ H) (h:T δ M QQ) (u:UpT X.K M H QQ Q):liftT X B T σ H Q
inductive liftA(X:Cx)(B:Bd)(T:fO)(σ:St)(H:Hp)(Q:List V->Hp->Prop):Prop
 |mk (δ:Dl) (M:Mem) (QQ:List D->Mem->Prop) (s:SR X B δ M σ H) (h:T δ M QQ) (u:UpA X.K M H QQ Q):liftA X B T σ H Q
def DE(X:Cx)(B:Bd)(e:Expr)(T:bM):Prop:=PE X e (liftE X B T)
def DT(X:Cx)(B:Bd)(e:Expr)(T:eI):Prop:=PT X e (liftT X B T)
def DA(X:Cx)(B:Bd)(es:List Expr)(T:fO):Prop:=PA X es (liftA X B T)
theorem bg{X:Cx}{e:Expr}{t t':TE}(h:PE X e t)(w:∀σ H Q,t' σ H Q->t σ H Q):PE X e t':=fun pins s σ H Q I q=>h pins s σ H Q I (w σ H Q q)
theorem iH{X:Cx}{e:Expr}{t t':TT}(h:PT X e t)(w:∀σ H Q,t' σ H Q->t σ H Q):PT X e t':=fun pins s σ H Q I q=>h pins s σ H Q I (w σ H Q q)
theorem rP{X:Cx}{e:List Expr}{t t':TA}(h:PA X e t)(w:∀σ H Q,t' σ H Q->t σ H Q):PA X e t':=fun pos pins s σ H Q I q=>h pos pins s σ H Q I (w σ H Q q)
theorem ck{X:Cx}{e:Stmt}{t t':TS}(h:PS X e t)(w:∀D σ H,t' D σ H->t D σ H):PS X e t':=fun pins s σ H D I q=>h pins s σ H D I (w D σ H q)
theorem jb{X:Cx}{e:List Stmt}{t t':TS}(h:pM X e t)(w:∀D σ H,t' D σ H->t D σ H):pM X e t':=fun pins s σ H D I q=>h pins s σ H D I (w D σ H q)
def aa(i:Nat):bM:=fun δ M Q=>match δ[i]? with
 |some (some d)=>Q d M
 |_=>False
def dC(d:D):bM:=fun _ M Q=>Q d M
section
variable {X:Cx}{B:Bd}{a b c:Expr}{ta tb tc:bM}{pos:Pos}
theorem B6{i:Nat}{x:Str}{pos:Pos}(hN:X.N[i]?=some x)(hv:Cn X.env.scope x)(hd:(x==("__debug__":Str))=false:=by decide)(hcd:(x==("__classdict__":Str))=false:=by decide):DE X B (.Name x pos) (aa i):=by
 refine bg (BN hN hv hd hcd) ?_
 rintro σ H Q ⟨δ,M,QQ,s,h,u⟩
 unfold aa at h
 split at h
 ·rename_i d e
  obtain ⟨v,h1,h2⟩:=s.rs.get i d e;exact ⟨v,h1,u d M h v H s.rh Frm.refl h2⟩
 ·exact h.elim
theorem tz{e:Expr}{v:V}{d:D}(h:PE X e (tC v))(r:∀H,Rp X.K H d v):DE X B e (dC d):=by
 refine bg h ?_
 rintro σ H Q ⟨δ,M,QQ,s,h,u⟩
 exact u d M h v H s.rh Frm.refl (r H)
theorem ae{i j pos}:DE X B (.Constant (.int i) j pos) (dC (.int i)):=tz zW fun _=>rfl
theorem jk{i j pos}:DE X B (.Constant (.bool i) j pos) (dC (.bl i)):=tz Dz fun _=>rfl
theorem eM{j pos}:DE X B (.Constant .none j pos) (dC .non):=tz BZ fun _=>rfl
theorem aq{i j pos}:DE X B (.Constant (.str i) j pos) (dC (.str i)):=tz ot fun _=>rfl
abbrev fZ:=D->D->Mem->DK->Prop
inductive liftR2(X:Cx)(r:fZ)(x y:V)(H:Hp)(Q:VK):Prop
 |mk (d1 d2:D) (M:Mem) (QQ:DK) (rh:RepH X.K H M) (r1:Rp X.K H d1 x) (r2:Rp X.K H d2 y) (h:r d1 d2 M QQ) (u:Up X.K M H QQ Q):liftR2 X r x y H Q
def dOp(r:fZ)(ta tb:bM):bM:=fun δ M Q=>ta δ M fun x M1=>tb δ M1 fun y M2=>r x y M2 Q
theorem iq{r:fZ}{σ:St}{H:Hp}{Q:VK}(h:liftE X B (dOp r ta tb) σ H Q):D6 (liftR2 X r) (liftE X B ta) (liftE X B tb) σ H Q:=by
 obtain ⟨δ,M,QQ,s,h,u⟩:=h;refine ⟨δ,M,_,s,h,fun x M1 h1 v1 H1 rh1 i1 r1=>?_⟩;refine ⟨δ,M1,_,s.go rh1 i1,h1,fun y M2 h2 v2 H2 rh2 i2 r2=>?_⟩;exact ⟨x,y,M2,QQ,rh2,r1.mf rh1 i2,r2,h2,u.go (i1.trans i2)⟩
theorem aH{op:Operator}{r:fZ}(ho:da X (binaryOp op) (liftR2 X r))(ha:DE X B a ta)(hb:DE X B b tb):DE X B (.BinOp a op b pos) (dOp r ta tb):=bg (Dv ho ha hb) fun _ _ _ h=>iq h
theorem dE{op:CmpOp}{r:fZ}(ho:da X (compareOp op) (liftR2 X r))(ha:DE X B a ta)(hb:DE X B b tb)(hm:behindInMarks op b=false):DE X B (.Compare a [op] [b] pos) (dOp r ta tb):=bg (yt ho ha hb hm) fun _ _ _ h=>iq h
theorem ak{r:fZ}(hr:IxR X (liftR2 X r))(ha:DE X B a ta)(hb:DE X B b tb)(hs:qJ b):DE X B (.Subscript a b pos) (dOp r ta tb):=bg (E1 hr ha hb hs) fun _ _ _ h=>iq h
def aK(t:bM):eI:=fun δ M Q=>t δ M fun d M'=>match d with
 |.bl k=>Q k M'
 |_=>False
theorem aG{op:CmpOp}{r:fZ}(ho:da X (compareOp op) (liftR2 X r))(ha:DE X B a ta)(hb:DE X B b tb)(hm:behindInMarks op b=false):DT X B (.Compare a [op] [b] pos) (aK (dOp r ta tb)):=by
 refine iH (wG ho ha hb hm) ?_
 rintro σ H Q ⟨δ,M,QQ,s,h,u⟩
 have h':liftE X B (dOp r ta tb) σ H (fun x H'=>∃k,x=.bl k/\Q k H'):=by
  refine ⟨δ,M,_,s,h,fun d M' q v H' rh i rp=>?_⟩;cases d with
  |bl k=>exact ⟨k,rp,u k M' q H' rh i⟩
  |_=>exact (show False from q).elim
 exact iq h'
def tru(M:Mem):D->Option Bool
 |.non=>some false
 |.bl b=>some b
 |.int i=>some (i != 0)
 |.str y=>if y.length<=sizeLine then some ((y.length:Int) != 0) else none
 |.tup xs=>some (!xs.isEmpty)
 |.lst xs=>some (!xs.isEmpty)
 |.ref a=>match M a with
  |some (.lst xs)=>some (!xs.isEmpty)
  |some (.dK xs)=>some (!xs.isEmpty)
  |_=>none
 |_=>none
def gW(t:bM):eI:=fun δ M Q=>t δ M fun d M'=>match tru M' d with
 |some k=>Q k M'
 |none=>False
theorem eQ{K:W.Frag}{H:Hp}{ds:List D}{vs:List V}(r:Rps K H ds vs):vs.isEmpty=ds.isEmpty:=by
 have:=r.length;cases ds<;>cases vs<;>simp_all
theorem Bk{K:W.Frag}{H:Hp}{M:Mem}{d:D}{v:V}{k:Bool}(rh:RepH K H M)(r:Rp K H d v)(e:tru M d=some k):Aj K v H k:=by
 cases d with
 |non=>cases r;cases e;rfl
 |bl b=>cases r;cases e;rfl
 |int i=>cases r;cases e;rfl
 |str y=>
  cases r;simp only [tru] at e
  split at e
  ·cases e;exact ⟨by assumption,rfl⟩
  ·cases e
 |ty n=>cases e
 |tup xs=>
  obtain ⟨p,vs,rfl,t,r⟩:=r;cases e;exact .inr (.inl ⟨vs,t.sq,by rw [eQ r]⟩)
 |mt xs=>cases e
 |ml xs=>cases e
 |lst xs=>
  obtain ⟨p,vs,rfl,t,r⟩:=r;cases e;exact .inl ⟨vs,t.sq,by rw [eQ r]⟩
 |ref a=>
  cases r;simp only [tru] at e
  split at e
  ·rename_i xs q
   obtain ⟨vs,h1,h2⟩:=rh _ _ q;cases e;exact .inl ⟨vs,gA h1,by rw [eQ h2]⟩
  ·rename_i xs q
   obtain ⟨vs,h1,h2⟩:=rh _ _ q;cases e;refine .inr (.inr ⟨vs,h1,?_⟩);cases h2<;>rfl
  ·cases e
theorem dS{e:Expr}(h:DE X B e ta)(he:∀whole,isTrue e X.env whole=(do let v <- whole;standAt e.pos;holding [v] (truthy v)):=by intro _;rfl):DT X B e (gW ta):=by
 refine iH (uW h he) ?_
 rintro σ H Q ⟨δ,M,QQ,s,h,u⟩
 refine ⟨δ,M,_,s,h,fun d M' q v H' rh i rp=>?_⟩
 split at q
 ·rename_i k e
  exact ⟨k,Bk rh rp e,u k M' q H' rh i⟩
 ·exact q.elim
def uL(t:eI):eI:=fun δ M Q=>t δ M fun c M1=>Q (!c) M1
theorem lA{tA:eI}(ha:DT X B a tA):DT X B (.UnaryOp .Not a pos) (uL tA):=by
 refine iH (BW ha) ?_
 rintro σ H Q ⟨δ,M,QQ,s,h,u⟩
 exact ⟨δ,M,_,s,h,fun c M' q H' rh i=>u _ M' q H' rh i⟩
end
end L3
namespace L3
open PySem L2
section
variable {X:Cx}{B:Bd}{a b c:Expr}{ta tb tc:bM}{tA tB':eI}{rest:List Expr}{pos:Pos}
def DW(X:Cx)(B:Bd)(e:Expr)(T:eI):Prop:=PW X e (liftT X B T)
theorem eG{e:Expr}{T:eI}(h:DW X B e T):DT X B e T:=Et h
theorem qg{X:Cx}{e:Expr}{t t':TT}(h:PW X e t)(w:∀σ H Q,t' σ H Q->t σ H Q):PW X e t':=fun wh pins s σ H Q I q=>h wh pins s σ H Q I (w σ H Q q)
def gT(t u:eI):eI:=fun δ M Q=>t δ M fun c M1=>if c=true then u δ M1 Q else Q false M1
def Cr(t u:eI):eI:=fun δ M Q=>t δ M fun c M1=>if c=true then Q true M1 else u δ M1 Q
theorem du(ha:DT X B a tA):DW X B (.BoolOp .And [a] pos) tA:=wK ha
theorem lc(ha:DT X B a tA):DW X B (.BoolOp .Or [a] pos) tA:=BE ha
theorem d9(ha:DT X B a tA)(hb:DW X B (.BoolOp .And (b::rest) pos) tB'):DW X B (.BoolOp .And (a::b::rest) pos) (gT tA tB'):=by
 refine qg (AW ha hb) ?_
 rintro σ H Q ⟨δ,M,QQ,s,h,u⟩
 refine ⟨δ,M,_,s,h,fun c M' q H' rh i=>?_⟩;cases c with
 |true=>rw [if_pos rfl] at q ⊢;exact ⟨δ,M',QQ,s.go rh i,q,u.go i⟩
 |false=>rw [if_neg Bool.false_ne_true] at q ⊢;exact u _ M' q H' rh i
theorem mj(ha:DT X B a tA)(hb:DW X B (.BoolOp .Or (b::rest) pos) tB'):DW X B (.BoolOp .Or (a::b::rest) pos) (Cr tA tB'):=by
 refine qg (CQ ha hb) ?_
 rintro σ H Q ⟨δ,M,QQ,s,h,u⟩
 refine ⟨δ,M,_,s,h,fun c M' q H' rh i=>?_⟩;cases c with
 |false=>rw [if_neg Bool.false_ne_true] at q ⊢;exact ⟨δ,M',QQ,s.go rh i,q,u.go i⟩
 |true=>rw [if_pos rfl] at q ⊢;exact u _ M' q H' rh i
def o8(ta tb:bM):bM:=fun δ M Q=>ta δ M fun x M1=>match x with
 |.bl true=>tb δ M1 Q
 |.bl false=>Q (.bl false) M1
 |_=>False
def zD(ta:bM):bM:=fun δ M Q=>ta δ M fun x M1=>match x with
 |.bl c=>Q (.bl (!c)) M1
 |_=>False
theorem o_{op}{t:bM}(h:DE X B a t):DE X B (.BoolOp op [a] pos) t:=AL h
theorem p9(ha:DE X B a ta)(hb:DE X B (.BoolOp .And (b::rest) pos) tb):DE X B (.BoolOp .And (a::b::rest) pos) (o8 ta tb):=by
 refine bg (Cg ha hb) ?_
 rintro σ H Q ⟨δ,M,QQ,s,h,u⟩
 refine ⟨δ,M,_,s,h,fun d M' q v H' rh i r=>?_⟩;cases d with
 |bl c=>
  cases c with
  |true=>exact ⟨true,r,by rw [if_pos rfl];exact ⟨δ,M',QQ,s.go rh i,q,u.go i⟩⟩
  |false=>exact ⟨false,r,by rw [if_neg Bool.false_ne_true];exact u _ M' q _ H' rh i rfl⟩
 |_=>exact (show False from q).elim
theorem z_(ha:DE X B a ta):DE X B (.UnaryOp .Not a pos) (zD ta):=by
 refine bg (Ar ha) ?_
 rintro σ H Q ⟨δ,M,QQ,s,h,u⟩
 refine ⟨δ,M,_,s,h,fun d M' q v H' rh i r=>?_⟩;cases d with
 |bl c=>exact ⟨c,r,u _ M' q _ H' rh i rfl⟩
 |_=>exact (show False from q).elim
def Co(t:eI)(ta tb:bM):bM:=fun δ M Q=>t δ M fun c M1=>if c=true then ta δ M1 Q else tb δ M1 Q
theorem eU{c:Expr}(hc:DT X B c tA)(ha:DE X B a ta)(hb:DE X B b tb):DE X B (.IfExp c a b pos) (Co tA ta tb):=by
 refine bg (uQ hc ha hb) ?_
 rintro σ H Q ⟨δ,M,QQ,s,h,u⟩
 refine ⟨δ,M,_,s,h,fun c M' q H' rh i=>?_⟩;cases c with
 |true=>rw [if_pos rfl] at q ⊢;exact ⟨δ,M',QQ,s.go rh i,q,u.go i⟩
 |false=>rw [if_neg Bool.false_ne_true] at q ⊢;exact ⟨δ,M',QQ,s.go rh i,q,u.go i⟩
variable {e:Expr}{es:List Expr}{te:bM}{t:fO}
def dNil:fO:=fun _ M Q=>Q [] M
def a9(ta:bM)(tr:fO):fO:=fun δ M Q=>ta δ M fun x M1=>tr δ M1 fun xs M2=>Q (x::xs) M2
theorem ac:DA X B [] dNil:=by
 refine rP wm ?_
 rintro σ H Q ⟨δ,M,QQ,s,h,u⟩
 exact u [] M h [] H s.rh Frm.refl .nil
theorem a8(ha:DE X B e te)(hr:DA X B es t)(hs:starEach (e::es) X.env=(false,eval e X.env)::starEach es X.env:=by rfl):DA X B (e::es) (a9 te t):=by
 refine rP (qS ha hr hs) ?_
 rintro σ H Q ⟨δ,M,QQ,s,h,u⟩
 refine ⟨δ,M,_,s,h,fun x M1 h1 v1 H1 rh1 i1 r1=>?_⟩;refine ⟨δ,M1,_,s.go rh1 i1,h1,fun xs M2 h2 v2 H2 rh2 i2 r2=>?_⟩;exact u _ M2 h2 _ H2 rh2 (i1.trans i2) (.cons (r1.mf rh1 i2) r2)
def bL(t:fO):bM:=fun δ M Q=>t δ M fun xs M1=>xs.length<=sizeLine/\Q (.tup xs) M1
def bX(t:fO):bM:=fun δ M Q=>t δ M fun xs M1=>xs.length<=sizeLine/\∀p,M1 p=none->Q (.ref p) (M1.upd p (.lst xs))
theorem aW{x1}(h:DA X B es t):DE X B (.Tuple es x1 pos) (bL t):=by
 refine bg (Bm h) ?_
 rintro σ H Q ⟨δ,M,QQ,s,h,u⟩
 refine ⟨δ,M,_,s,h,fun xs M1 h1 v1 H1 rh1 i1 r1=>⟨by rw [<- r1.length];exact h1.1,fun p hp=>?_⟩⟩
 exact u _ M1 h1.2 _ _ (rh1.new hp) (i1.trans (Frm.new hp)) ⟨p,v1,rfl,upd_same,r1.mono (Imm.new hp)⟩
theorem bo(h:DA X B es t):DE X B (.List es pos) (bX t):=by
 refine bg (Aw h) ?_
 rintro σ H Q ⟨δ,M,QQ,s,h,u⟩
 refine ⟨δ,M,_,s,h,fun xs M1 h1 v1 H1 rh1 i1 r1=>⟨by rw [<- r1.length];exact h1.1,fun p hp=>?_⟩⟩
 exact u _ _ (h1.2 p (rh1.fresh hp)) _ _ (rh1.put (by rw [hp];trivial) ⟨v1,upd_same,r1.mono (Imm.new hp)⟩) (i1.trans (Frm.put (.inl hp))) rfl
theorem Inv.freeze{pins:List (Addr×Obj)}{σ:L2.St}{H:Hp}{s:Shared}{p:Addr}{vs:List V}(I:Inv X pins σ H s)(h:H p=some (.lst vs)):∃o,Inv X pins σ (upd H p (.frz o (.lst vs))) s:=by
 obtain ⟨its,n,r,e,z⟩:=I.lst h;have ne:∀{b:Addr} {u:Option HO},H b=u->u≠some (.lst vs)->b≠p:=fun {b u} q hu z=>by subst z;rw [h] at q;exact hu q.symm
 refine ⟨{ cls:=.type "list",data:=.seq its.toArray n },I.ok,I.os,I.bare,⟨I.base.keep,I.base.slot,fun b o q hn hx=>?_,I.base.there,fun b xs q=>?_,fun b o u q=>?_,fun b ps q=>?_⟩,I.loc,I.cell,?_,fun x c q=>?_,fun pp hp=>?_,fun b o q=>?_,I.len⟩
 ·have q':=I.base.free b o q hn hx
  rw [upd_ne (ne q' (by simp))];exact q'
 ·have q':=I.base.tups b xs q
  rw [upd_ne (ne q' (by simp))];exact q'
 ·have q':=I.base.frzs b o u q
  rw [upd_ne (ne q' (by simp))];exact q'
 ·obtain ⟨more,q'⟩:=I.base.tbls b ps q
  exact ⟨more,by rw [upd_ne (ne q' (by simp))];exact q'⟩
 ·rw [upd_ne (ne I.free (by simp))];exact I.free
 ·have q':=I.freeC x c q
  rw [upd_ne (ne q' (by simp))];exact q'
 ·obtain ⟨h1,h2,h3⟩:=I.pin pp hp
  exact ⟨h1,by rw [upd_ne (ne h2 (by simp))];exact h2,h3⟩
 ·by_cases hb:b=p
  ·subst hb
   rw [upd_same] at q;cases q;refine ⟨e,?_⟩;exact ⟨z,its,n,r,e⟩
  ·rw [upd_ne hb] at q
   refine (I.hok b o q).stay (fun _ _ _ y=>y) (fun c y=>?_) fun c xs y=>?_
   ·rw [upd_ne (ne y (by simp))];exact y
   ·rw [upd_ne (ne y (by simp))];exact y
def frz(d:D)(M:Mem)(Q:DK):Prop:=match d with
 |.ref a=>match M a with
  |some (.lst xs)=>Q (.lst xs) (M.del a)
  |_=>Q d M
 |_=>Q d M
def ar(t:bM):bM:=fun δ M Q=>t δ M fun d M'=>frz d M' Q
theorem RepH.freeze{K:W.Frag}{H:Hp}{M:Mem}{p:Addr}{vs:List V}{o:Obj}(r:RepH K H M)(h:H p=some (.lst vs)):RepH K (upd H p (.frz o (.lst vs))) (M.del p):=fun b u e=>by
 unfold Mem.del at e
 split at e
 ·cases e
 ·rename_i hb
  exact (r b u e).keep (Imm.upd (by rw [h];trivial)) (upd_ne hb)
theorem aj(h:DE X B e te):DE X B e (ar te):=by
 intro pins s σ H Q I hq;obtain ⟨δ,M,QQ,sr,hT,u⟩:=hq;refine thn (h pins s σ H (fun v H'=>∃d M',RepH X.K H' M'/\Frm M H M' H'/\Rp X.K H' d v/\frz d M' QQ) I ⟨δ,M,_,sr,hT,fun d M' q v H' rh i r=>⟨d,M',rh,i,r,q⟩⟩) ?_
 rintro w s' ⟨v,H',I',rv,d,M',rh,i,r,q⟩
 unfold frz at q
 split at q
 ·rename_i a
  split at q
  ·rename_i xs e
   obtain ⟨vs,h1,h2⟩:=rh _ _ e;obtain ⟨o,I2⟩:=Inv.freeze I' h1;refine ⟨v,_,I2,rv,u _ _ q v _ (rh.freeze h1) (i.trans (Frm.del ⟨_,e⟩)) ?_⟩;exact ⟨a,vs,r,⟨o,upd_same⟩,h2.mono (Imm.upd (by rw [h1];trivial))⟩
  ·exact ⟨v,H',I',rv,u _ _ q v H' rh i r⟩
 ·exact ⟨v,H',I',rv,u _ _ q v H' rh i r⟩
end
end L3
namespace L3
open PySem L2
def seqL(M:Mem):D->Option (List D)
 |.lst xs=>some xs
 |.ref a=>match M a with
  |some (.lst xs)=>some xs
  |_=>none
 |_=>none
def cP(M:Mem):D->Option (List D)
 |.tup xs=>some xs
 |.lst xs=>some xs
 |.mt xs=>some xs
 |.ml xs=>some xs
 |.ref a=>match M a with
  |some (.lst xs)=>some xs
  |_=>none
 |_=>none
section
variable {X:Cx}{B:Bd}{K:W.Frag}{H:Hp}{M:Mem}{d:D}{v:V}{xs:List D}
theorem fi(rh:RepH K H M)(r:Rp K H d v)(e:seqL M d=some xs):∃p vs,v=.ref p/\Rd H p (.lst vs)/\Rps K H xs vs:=by
 cases d with
 |lst ys=>
  cases e;obtain ⟨p,vs,rfl,⟨o,h⟩,r⟩:=r;exact ⟨p,vs,rfl,.inr ⟨o,h⟩,r⟩
 |ref a=>
  simp only [seqL] at e
  split at e
  ·rename_i ys q
   cases e;obtain ⟨vs,h1,h2⟩:=rh _ _ q;exact ⟨a,vs,r,.inl h1,h2⟩
  ·cases e
 |_=>cases e
theorem gi(rh:RepH K H M)(r:Rp K H d v)(e:cP M d=some xs):∃p vs,v=.ref p/\(SqL K H p vs\/gz K H p vs)/\Rps K H xs vs:=by
 cases d with
 |tup ys=>
  cases e;obtain ⟨p,vs,rfl,h,r⟩:=r;exact ⟨p,vs,rfl,.inr h.sq,r⟩
 |lst ys=>
  cases e;obtain ⟨p,vs,rfl,h,r⟩:=r;exact ⟨p,vs,rfl,.inl h.sq,r⟩
 |mt ys=>
  cases e;obtain ⟨p,vs,rfl,h,r⟩:=r;exact ⟨p,vs,rfl,.inr h.sq,r⟩
 |ml ys=>
  cases e;obtain ⟨p,vs,rfl,h,r⟩:=r;exact ⟨p,vs,rfl,.inl h.sq,r⟩
 |ref a=>
  simp only [cP] at e
  split at e
  ·rename_i ys q
   cases e;obtain ⟨vs,h1,h2⟩:=rh _ _ q;exact ⟨a,vs,r,.inl (gA h1),h2⟩
  ·cases e
 |_=>cases e
theorem y9:da X (binaryOp .Add) (fun x y H Q=>∃l b xs zs,x=.ref l/\y=.ref b/\Rd H l (.lst xs)/\Rd H b (.lst zs)/\xs.length+zs.length<=sizeLine/\∀p,H p=none->Q (.ref p) (upd H p (.lst (xs++zs)))):=by
 intro pins s σ H x y v u Q I rx ry h;obtain ⟨l,b,xs,zs,rfl,rfl,hH,hB,hz,q⟩:=h;cases rx;cases ry;obtain ⟨z,its,n,r,e⟩:=hH.ok I.hok;obtain ⟨z2,its2,n2,r2,e2⟩:=hB.ok I.hok;have hl:=r.length;have hl2:=r2.length;refine PySem.P.add_list e e2 ?_ (by rw [List.size_toArray,List.size_toArray];lia)
 have ea:its.toArray++its2.toArray=(its++its2).toArray:=by simp
 rw [ea];exact ⟨.ref _,_,I.lnew (t':=s.toks) (r.append r2) (by rw [List.length_append];lia),rfl,q _ I.fresh⟩
def bN:fZ:=fun x y M Q=>match x,y with
 |.int i,.int j=>Q (.int (i+j)) M
 |.str a,.str b=>a.length+b.length<=sizeLine/\Q (.str (a++b)) M
 |.tup xs,.tup ys=>xs.length+ys.length<=sizeLine/\Q (.tup (xs++ys)) M
 |x,y=>match seqL M x,seqL M y with
  |some xs,some ys=>xs.length+ys.length<=sizeLine/\∀p,M p=none->Q (.ref p) (M.upd p (.lst (xs++ys)))
  |_,_=>False
theorem aQ:da X (binaryOp .Add) (liftR2 X bN):=by
 intro pins s σ H x y v u Q I rx ry h;obtain ⟨d1,d2,M,QQ,rh,r1,r2,h,up⟩:=h;unfold bN at h
 split at h
 ·cases r1;cases r2
  exact Bz pins s σ H _ _ v u Q I rx ry ⟨_,_,rfl,rfl,up _ M h _ H rh Frm.refl rfl⟩
 ·cases r1;cases r2
  exact oE pins s σ H _ _ v u Q I rx ry ⟨_,_,rfl,rfl,h.1,up _ M h.2 _ H rh Frm.refl rfl⟩
 ·obtain ⟨p,vs,rfl,t1,r1⟩:=r1
  obtain ⟨p',vs',rfl,t2,r2⟩:=r2;have l1:=r1.length;have l2:=r2.length;have r12:=r1.append r2
  by_cases hx:vs=[]
  ·subst hx
   have hu:=up _ M h.2 (.ref p') H rh Frm.refl ⟨p',vs',rfl,t2,r12⟩;exact vQ pins s σ H _ _ v u Q I rx ry ⟨p,p',vs',rfl,rfl,t1.sq,t2.sq,hu⟩
  ·refine ya pins s σ H _ _ v u Q I rx ry ⟨p,p',vs,vs',rfl,rfl,t1.sq,t2.sq,hx,by lia,fun e=>?_,fun _ q hq=>?_⟩
   ·subst e
    rw [List.append_nil] at r12;exact up _ M h.2 (.ref p) H rh Frm.refl ⟨p,vs,rfl,t1,r12⟩
   ·exact up _ M h.2 _ _ (rh.new hq) (Frm.new hq) ⟨q,_,rfl,upd_same,r12.mono (Imm.new hq)⟩
 ·split at h
  ·rename_i xs ys e1 e2
   obtain ⟨p,vs,rfl,t1,r1⟩:=fi rh r1 e1;obtain ⟨p',vs',rfl,t2,r2⟩:=fi rh r2 e2;have l1:=r1.length;have l2:=r2.length;refine y9 pins s σ H _ _ v u Q I rx ry ⟨p,p',vs,vs',rfl,rfl,t1,t2,by lia,fun q hq=>?_⟩
   exact up _ _ (h.2 q (rh.fresh hq)) _ _ (rh.put (by rw [hq];trivial) ⟨_,upd_same,(r1.append r2).mono (Imm.new hq)⟩) (Frm.put (.inl hq)) rfl
  ·exact h.elim
def oI(C:Int->Int->Prop)(g:Int->Int->D):fZ:=fun x y M Q=>match x,y with
 |.int i,.int j=>C i j/\Q (g i j) M
 |_,_=>False
theorem C2{f:Value->Value->Sem Value}{C:Int->Int->Prop}{g:Int->Int->V}{g':Int->Int->D}(h:da X f (rI C g))(e:∀i j K H,Rp K H (g' i j) (g i j)):da X f (liftR2 X (oI C g')):=by
 intro pins s σ H x y v u Q I rx ry hq;obtain ⟨d1,d2,M,QQ,rh,r1,r2,hq,up⟩:=hq;unfold oI at hq
 split at hq
 ·cases r1;cases r2
  exact h pins s σ H _ _ v u Q I rx ry ⟨_,_,rfl,rfl,hq.1,up _ M hq.2 _ H rh Frm.refl (e _ _ _ _)⟩
 ·exact hq.elim
def yY(g:Int->Int->D):fZ:=fun x y M Q=>match x,y with
 |.int i,.int j=>Q (g i j) M
 |_,_=>False
theorem rm{f:Value->Value->Sem Value}{g:Int->Int->V}{g':Int->Int->D}(h:da X f (zF g))(e:∀i j K H,Rp K H (g' i j) (g i j)):da X f (liftR2 X (yY g')):=by
 intro pins s σ H x y v u Q I rx ry hq;obtain ⟨d1,d2,M,QQ,rh,r1,r2,hq,up⟩:=hq;unfold yY at hq
 split at hq
 ·cases r1;cases r2
  exact h pins s σ H _ _ v u Q I rx ry ⟨_,_,rfl,rfl,up _ M hq _ H rh Frm.refl (e _ _ _ _)⟩
 ·exact hq.elim
abbrev jE:fZ:=yY fun i j=>.int (i-j)
theorem cR:da X (binaryOp .Sub) (liftR2 X jE):=rm C0 fun _ _ _ _=>rfl
abbrev dD:fZ:=oI (fun _ j=>0<j) fun i j=>.int (i % j)
theorem bE:da X (binaryOp .Mod) (liftR2 X dD):=C2 AT fun _ _ _ _=>rfl
def zA(_ j:Int):Prop:=0<j/\j<2 ^ 200
theorem tI:da X (binaryOp .FloorDiv) (rI zA fun i j=>.int (i / j)):=by
 intro pins s σ H x y v u Q I rx ry h;obtain ⟨i,j,rfl,rfl,hc,q⟩:=h;obtain ⟨h0,h1⟩:=hc;have hj:((j.toNat:Nat):Int)=j:=by lia
 refine uy (n:=j.toNat) ?_ (by lia) pins s σ H _ _ v u Q I rx ry ⟨i,j,rfl,rfl,hj.symm,q⟩
 have hlt:j.toNat<2 ^ 200:=by
  have:((j.toNat:Nat):Int)<((2 ^ 200:Nat):Int):=by rw [hj,Int.natCast_pow];exact h1
  exact Int.ofNat_lt.mp this
 have:=(Nat.log2_lt (n:=j.toNat) (k:=200) (by lia)).mpr hlt
 lia
abbrev rG:fZ:=oI zA fun i j=>.int (i / j)
theorem iQ:da X (binaryOp .FloorDiv) (liftR2 X rG):=C2 tI fun _ _ _ _=>rfl
abbrev E5:fZ:=oI Cw fun i j=>.int (i ^ j.toNat)
theorem wW:da X (binaryOp .Pow) (liftR2 X E5):=C2 AO fun _ _ _ _=>rfl
abbrev Bg:fZ:=yY fun i j=>.bl (decide (i<j))
theorem jo:da X (compareOp .Lt) (liftR2 X Bg):=rm D1 fun _ _ _ _=>rfl
abbrev ue:fZ:=yY fun i j=>.bl (decide (j<i))
theorem dA:da X (compareOp .Gt) (liftR2 X ue):=rm Ee fun _ _ _ _=>rfl
abbrev oGe:fZ:=yY fun i j=>.bl (decide (j<=i))
theorem vV:da X (compareOp .GtE) (liftR2 X oGe):=rm Cy fun _ _ _ _=>rfl
theorem uk{c:Nat}:∀(k:Nat) (acc:Array Nat),(List.replicate k #[c]).foldl (·++·) acc=acc++Array.replicate k c
 |0,acc=>by simp
 |k+1,acc=>by
  rw [List.replicate_succ,List.foldl_cons,uk k (acc++#[c])];apply Array.ext';simp [List.replicate_succ]
theorem tK:da X (binaryOp .Mult) (fun x y H Q=>∃c k,x=.str ⟨#[c]⟩/\y=.int k/\1<=k/\k<=1000/\Q (.str ⟨Array.replicate k.toNat c⟩) H):=by
 intro pins s σ H x y v u Q I rx ry h;obtain ⟨c,k,rfl,rfl,h1,h2,q⟩:=h;obtain ⟨t,rfl⟩:=rx;obtain ⟨t',rfl⟩:=ry;have hlen:(⟨#[c]⟩:Str).length=1:=rfl;have hsl:sizeLine=16777216:=rfl;refine PySem.P.mul_str ?_ ?_ ?_ ?_
 ·rw [decide_eq_false (by lia),decide_eq_false (by lia)];rfl
 ·intro _ _ hc
  rw [hlen] at hc;have:(1:Int)<=(2 ^ 63-1) / k:=Int.le_ediv_of_mul_le (by lia) (by lia)
  lia
 ·intro _ _
  rw [hlen];unfold PySem.Builtin.Str.tooLong;exact decide_eq_false (by lia)
 ·rw [if_neg (by lia)]
  by_cases hk:k=1
  ·rw [if_pos (by rw [hk];rfl)]
   subst hk;exact ⟨.str ⟨#[c]⟩,H,I,⟨_,rfl⟩,q⟩
  ·rw [if_neg (by simp [hlen,hk])]
   have he:(List.replicate k.toNat #[c]).foldl (·++·) #[]=Array.replicate k.toNat c:=by rw [uk];simp
   refine ⟨?_,.str ⟨(List.replicate k.toNat #[c]).foldl (·++·) #[]⟩,H,I.tok _,⟨_,rfl⟩,by rw [he];exact q⟩
   show ((List.replicate k.toNat #[c]).foldl (·++·) #[]).size<=sizeLine;rw [he];simp;lia
def fL:fZ:=fun x y M Q=>match x,y with
 |.int i,.int j=>CMul i j/\Q (.int (i*j)) M
 |.str z,.int k=>match z.cps.toList with
  |[c]=>1<=k/\k<=1000/\Q (.str ⟨Array.replicate k.toNat c⟩) M
  |_=>False
 |.tup xs,.int k=>xs≠[]/\0<=k/\k<=1000/\xs.length<=1000/\Q (.tup (List.replicate k.toNat xs).flatten) M
 |_,_=>False
theorem Rps.rep{ds:List D}{vs:List V}(h:Rps K H ds vs):∀k:Nat,Rps K H (List.replicate k ds).flatten (List.replicate k vs).flatten
 |0=>rfl
 |k+1=>by
  rw [List.replicate_succ,List.replicate_succ,List.flatten_cons,List.flatten_cons];exact h.append (Rps.rep h k)
theorem cB:da X (binaryOp .Mult) (liftR2 X fL):=by
 intro pins s σ H x y v u Q I rx ry h;obtain ⟨d1,d2,M,QQ,rh,r1,r2,h,up⟩:=h;cases d1 with
 |int i=>
  cases d2 with
  |int j=>
   cases r1;cases r2;exact BK pins s σ H _ _ v u Q I rx ry ⟨_,_,rfl,rfl,h.1,up _ M h.2 _ H rh Frm.refl rfl⟩
  |_=>exact (show False from h).elim
 |str z=>
  cases d2 with
  |int k=>
   cases r1;cases r2;simp only [fL] at h
   split at h
   ·rename_i c e
    have ez:z=⟨#[c]⟩:=by
     obtain ⟨⟨l⟩⟩:=z;have e':l=[c]:=e;rw [e']
    subst ez;exact tK pins s σ H _ _ v u Q I rx ry ⟨_,_,rfl,rfl,h.1,h.2.1,up _ M h.2.2 _ H rh Frm.refl rfl⟩
   ·exact h.elim
  |_=>exact (show False from h).elim
 |tup xs=>
  cases d2 with
  |int k=>
   obtain ⟨p,vs,rfl,t1,r1⟩:=r1;cases r2;obtain ⟨h1,h2,h3,h4,h5⟩:=h;have l1:=r1.length;obtain ⟨t,rfl⟩:=ry;cases rx;obtain ⟨its,r,pt,_⟩:=I.tuple t1.sq;have hl:=r.length;refine sF pt (fun z=>h1 ?_) h2 h3 (by lia) (fun e=>?_) fun e=>?_
   ·have hz:its.length=0:=congrArg List.length z
    exact List.eq_nil_of_length_eq_zero (by lia)
   ·subst e
    refine ⟨.ref p,H,I,rfl,up _ M h5 _ H rh Frm.refl ⟨p,vs,rfl,t1,?_⟩⟩;simpa using r1
   ·have hf:H s.heap.objs.size=none:=I.hok.fresh (Nat.le_refl _)
    have hz:(List.replicate k.toNat vs).flatten.length<=sizeLine:=by
     rw [qh];have h1:k.toNat*vs.length<=1000*1000:=Nat.mul_le_mul (by lia) (by lia)
     exact Nat.le_trans h1 (by decide)
    have i2:Imm H (upd H s.heap.objs.size (.tup (List.replicate k.toNat vs).flatten)):=Imm.new hf;exact ⟨.ref s.heap.objs.size,_,I.laid (t':=s.toks) (o:=.tup (List.replicate k.toNat vs).flatten) (fun b ob z=>Heap.get?_push_of_some _ z) (Nat.le_refl _) ⟨hz,_,r.rep k.toNat,⟨_,Heap.get?_push_size _ rfl,⟨rfl,_,rfl⟩,rfl⟩⟩,rfl,
     up _ M h5 _ _ (rh.new hf) (Frm.new hf) ⟨_,_,rfl,upd_same,(r1.rep _).mono i2⟩⟩
  |_=>exact (show False from h).elim
 |_=>exact (show False from h).elim
def vn:D->Bool
 |.non=>true
 |_=>false
def vz:fZ:=fun x y M Q=>match y with
 |.non=>Q (.bl (vn x)) M
 |_=>False
def ud:fZ:=fun x y M Q=>match y with
 |.non=>Q (.bl (!vn x)) M
 |_=>False
theorem v9(r:Rp K H d v):decide (v=V.non)=vn d:=by
 cases d with
 |non=>cases r;rfl
 |tup xs=>obtain ⟨p,vs,rfl,_⟩:=r;rfl
 |lst xs=>obtain ⟨p,vs,rfl,_⟩:=r;rfl
 |mt xs=>obtain ⟨p,vs,rfl,_⟩:=r;rfl
 |ml xs=>obtain ⟨p,vs,rfl,_⟩:=r;rfl
 |_=>cases r;rfl
theorem lL:da X (compareOp .Is) (liftR2 X vz):=by
 intro pins s σ H x y v u Q I rx ry h;obtain ⟨d1,d2,M,QQ,rh,r1,r2,h,up⟩:=h;unfold vz at h
 split at h
 ·cases r2
  exact AG pins s σ H _ _ v u Q I rx ry ⟨rfl,by rw [v9 r1];exact up _ M h _ H rh Frm.refl rfl⟩
 ·exact h.elim
theorem uX:da X (compareOp .IsNot) (liftR2 X ud):=by
 intro pins s σ H x y v u Q I rx ry h;obtain ⟨d1,d2,M,QQ,rh,r1,r2,h,up⟩:=h;unfold ud at h
 split at h
 ·cases r2
  refine wF pins s σ H _ _ v u Q I rx ry ⟨rfl,up _ M h _ H rh Frm.refl ?_⟩;show _=V.bl _;rw [v9 r1]
 ·exact h.elim
end
end L3
namespace L3
open PySem L2
section
variable {κ:Type}[DecidableEq κ]
def cb(kvs:List (κ×D))(k:κ):Option D:=(kvs.find? fun kv=>decide (kv.1=k)).map (·.2)
def cJ(kvs:List (κ×D))(k:κ)(v:D):List (κ×D):=
 if (kvs.any fun kv=>decide (kv.1=k))=true then kvs.map (fun kv=>if kv.1=k then (kv.1,v) else kv) else kvs++[(k,v)]
variable {K:W.Frag}{H:Hp}
theorem Rkv.val{kvs:List (κ×D)}{ws:List (κ×V)}(h:Rkv K H kvs ws)(k:κ):(cb kvs k=none/\fw ws k=none)\/∃d v,cb kvs k=some d/\fw ws k=some v/\Rp K H d v:=by
 induction h with
 |nil=>exact .inl ⟨rfl,rfl⟩
 |@cons p q ps qs r t ih=>
  obtain ⟨k1,d⟩:=p;obtain ⟨k2,v⟩:=q;obtain ⟨e,r⟩:=r;dsimp only at e r;subst e
  by_cases hk:k1=k
  ·exact .inr ⟨d,v,by simp [cb,hk],by simp [fw,hk],r⟩
  ·simpa [cb,fw,hk] using ih
theorem Rkv.any{kvs:List (κ×D)}{ws:List (κ×V)}(h:Rkv K H kvs ws)(k:κ):(kvs.any fun kv=>decide (kv.1=k))=(ws.any fun kv=>decide (kv.1=k)):=by
 induction h with
 |nil=>rfl
 |cons r t ih=>rw [List.any_cons,List.any_cons,ih,r.1]
theorem Rkv.put{kvs:List (κ×D)}{ws:List (κ×V)}(h:Rkv K H kvs ws)(k:κ){d:D}{v:V}(r:Rp K H d v):Rkv K H (cJ kvs k d) (cE ws k v):=by
 unfold cJ cE;rw [h.any k]
 split
 ·rename_i q;clear q
  induction h with
  |nil=>exact .nil
  |@cons p q ps qs rr t ih=>
   obtain ⟨k1,d'⟩:=p;obtain ⟨k2,v'⟩:=q;obtain ⟨e,r'⟩:=rr;dsimp only at e r';subst e;rw [List.map_cons,List.map_cons];refine .cons ?_ ih
   by_cases hk:k1=k
   ·rw [if_pos hk,if_pos hk];exact ⟨rfl,r⟩
   ·rw [if_neg hk,if_neg hk];exact ⟨rfl,r'⟩
 ·rename_i q;clear q
  induction h with
  |nil=>exact .cons ⟨rfl,r⟩ .nil
  |cons rr t ih=>exact .cons rr ih
theorem Rkv.length{kvs:List (κ×D)}{ws:List (κ×V)}(h:Rkv K H kvs ws):kvs.length=ws.length:=Paired.length h
end
def gG:D->Option aT
 |.int i=>some (.inl i)
 |.str x=>some (.inr x)
 |_=>none
def dG:List D->Option (List aT)
 |[]=>some []
 |d::ds=>match gG d,dG ds with
  |some k,some ks=>some (k::ks)
  |_,_=>none
def BX:D->Option (List aT)
 |.tup xs=>dG xs
 |_=>none
section
variable {X:Cx}{K:W.Frag}{H:Hp}{M:Mem}
theorem kU{d:D}{v:V}{k:aT}(r:Rp K H d v)(e:gG d=some k):v=kV k:=by
 cases d with
 |int i=>cases e;exact r
 |str x=>cases e;exact r
 |_=>cases e
theorem iU:∀{ds:List D} {vs:List V} {ks:List aT},Rps K H ds vs->dG ds=some ks->vs=ks.map kV
 |[],vs,ks,r,e=>by cases e;exact r
 |d::ds,vs,ks,r,e=>by
  obtain ⟨v,r',rfl,a,b⟩:=r;simp only [dG] at e
  split at e
  ·rename_i k ks' e1 e2
   cases e;rw [kU a e1,iU b e2];rfl
  ·cases e
def xU(M:Mem)(a:Addr)(y:D):Option (Option D):=match M a with
 |some (.dK kvs)=>match gG y with
  |some k=>some (cb kvs k)
  |none=>none
 |some (.dT kvs)=>match BX y with
  |some k=>some (cb kvs k)
  |none=>none
 |_=>none
theorem nJ{d:D}{v:V}{ks:List aT}(r:Rp K H d v)(e:BX d=some ks):∃b,v=.ref b/\H b=some (.tup (ks.map kV)):=by
 cases d with
 |tup xs=>
  obtain ⟨p,vs,rfl,t,r⟩:=r;exact ⟨p,rfl,by rw [<- iU r e];exact t⟩
 |_=>cases e
theorem lN{a:Addr}{y:D}{v:V}{o:Option D}(rh:RepH K H M)(r:Rp K H y v)(e:xU M a y=some o):
  (o=none/\DGet H a v none)\/∃d w,o=some d/\DGet H a v (some w)/\Rp K H d w:=by
 unfold xU at e
 split at e
 ·rename_i kvs hM
  obtain ⟨ws,h1,h2⟩:=rh _ _ hM
  split at e
  ·rename_i k ek
   cases e;have ev:=kU r ek;subst ev;rcases h2.val k with ⟨e1,e2⟩|⟨d,w,e1,e2,r'⟩
   ·exact .inl ⟨e1,by rw [<- e2];exact wx h1⟩
   ·exact .inr ⟨d,w,e1,by rw [<- e2];exact wx h1,r'⟩
  ·cases e
 ·rename_i kvs hM
  obtain ⟨ws,h1,h2⟩:=rh _ _ hM
  split at e
  ·rename_i k ek
   cases e;obtain ⟨b,rfl,hb⟩:=nJ r ek;rcases h2.val k with ⟨e1,e2⟩|⟨d,w,e1,e2,r'⟩
   ·exact .inl ⟨e1,by rw [<- e2];exact DGet.t h1 hb⟩
   ·exact .inr ⟨d,w,e1,by rw [<- e2];exact DGet.t h1 hb,r'⟩
  ·cases e
 ·cases e
end
end L3
namespace HT
open PySem PyProof.Rows
section
variable {prog:Program}{w:World}{A:Around}{E:Value->Shared->Prop}{s:Shared}
theorem fu{t sl:Addr}{items:Array Value}{vl vu:Value}{lo hi:Option Int}{Q:Value->Shared->Prop}(ht:IsTup s.heap t items)(hs:s.heap.IsSliceOf sl vl vu .none)(pl:IsPart vl lo)(pu:IsPart vu hi)
  (hw:sIx items.size 0 lo=0/\sIx items.size items.size hi=items.size) (h:Q (.ref t) s):wpAny (model prog w) A (getItem (.ref t) (.ref sl)) Q E s:=by
 obtain ⟨os,hos,hcs,hds⟩:=id hs;have hTs:s.TypeIs (.ref sl) "slice":=⟨os,hos,hcs⟩;unfold getItem
 try with_reducible refine wpAny_holding ?_
 first|refine wpAny_bind (wpAny_pure ?_)|skip
 refine wpAny_bind (wpAny_sequenceKey ht.typeIs (by decide) ?_)
 refine wpAny_bind (wpAny_callSpecial?_slot (name:=Str.ofString "__getitem__") ht.typeIs PyProof.Rows.slot_tuple_getitem
  (wpAny_call_entry PyProof.Rows.slot_tuple_getitem ht.typeIs entry_tuple_getitem ?_ (args_tuple_getitem _ _)))
 show wpAny _ _ (Builtin.Tuple.tupleItemsOf (.ref t) >>= _) _ _ s;refine wpAny_bind (tupleItemsOf_ ht ?_);refine wpAny_bind (wpAny_typeOf hTs ?_);rw [if_pos (by decide)]
 refine wpAny_bind (dP hs pl pu ?_);have hyes:((((sIx items.size 0 lo:Nat):Int)==0&&(1:Int)==1&&(sIx items.size items.size hi-sIx items.size 0 lo)==items.size)=true):=by
  rw [hw.1,hw.2];simp
 show wpAny _ _ (if (((sIx items.size 0 lo:Nat):Int)==0&&(1:Int)==1&&(sIx items.size items.size hi-sIx items.size 0 lo)==items.size)=true then _ else _) _ _ s
 rw [if_pos hyes];refine wpAny_bind (m:=Builtin.Tuple.tupleIsExact _) (wpAny_bind (wpAny_typeOf ht.typeIs (wpAny_pure ?_)));rw [if_pos (by decide)]
 first
  |exact wpAny_bind (wpAny_rule (wpAny_bind (wpAny_pure (wpAny_pure ⟨_,rfl,wpAny_pure h⟩))))
  |exact wpAny_bind (wpAny_rule (wpAny_pure ⟨_,rfl,wpAny_pure h⟩))
  |exact wpAny_bind (wpAny_rule (wpAny_bind (wpAny_pure ⟨_,rfl,wpAny_pure h⟩)))
  |trace_state
end
end HT
namespace L3
open PySem L2
section
variable {X:Cx}{B:Bd}{K:W.Frag}{H:Hp}{M:Mem}{a b c:Expr}{ta tb tc:bM}{pos:Pos}
def aL:fZ:=fun x y M Q=>match cP M x,y with
 |some xs,.int i=>match atI xs i with
  |some d=>Q d M
  |none=>False
 |some _,_=>False
 |none,y=>match x,y with
  |.str z,.int i=>z.length<=sizeLine/\match atI z.cps.toList i with
   |some c=>Q (.str ⟨#[c]⟩) M
   |none=>False
  |.ref a,y=>match xU M a y with
   |some (some d)=>Q d M
   |_=>False
  |_,_=>False
theorem Rps.atI{ds:List D}{vs:List V}{i:Int}{d:D}(r:Rps K H ds vs)(e:atI ds i=some d):∃v,L2.atI vs i=some v/\Rp K H d v:=by
 unfold L2.atI at e ⊢;rw [<- r.length];cases q:pJ ds.length i with
 |none=>rw [q] at e;cases e
 |some j=>
  rw [q] at e;exact r.get (i:=j) e
theorem yf(hu:X.A.units+1<cLine):IxR X (fun x y H Q=>∃a v,x=.ref a/\DGet H a y (some v)/\Q v H):=by
 intro value slice pins s σ H x y v u Q I rx ry h hs;obtain ⟨a,w,rfl,g,q⟩:=h;cases rx;exact PyProof.Rows.tail_any (nM I g) PySem.F.slot_dict_getitem.lookup (ss hu I g ry fun w' s3 I3 rw'=>⟨w,H,I3,rw',q⟩) hs
theorem ag(hu:X.A.units+1<cLine):IxR X (liftR2 X aL):=by
 intro value slice pins s σ H x y v u Q I rx ry h hs;obtain ⟨d1,d2,M,QQ,rh,r1,r2,h,up⟩:=h;unfold aL at h
 split at h
 ·rename_i xs i e
  split at h
  ·rename_i d ed
   cases r2;obtain ⟨p,vs,rfl,hq,r⟩:=gi rh r1 e;obtain ⟨w,ew,rw'⟩:=r.atI ed;refine Cb value slice pins s σ H _ _ v u Q I rx ry ?_ hs;have hu':=up _ M h _ H rh Frm.refl rw';rcases hq with hq|hq
   ·exact .inl ⟨p,vs,i,w,rfl,rfl,hq,ew,hu'⟩
   ·exact .inr (.inl ⟨p,vs,i,w,rfl,rfl,hq,ew,hu'⟩)
  ·exact h.elim
 ·exact h.elim
 ·split at h
  ·obtain ⟨hz,h⟩:=h
   split at h
   ·rename_i ch ec
    cases r1;cases r2;exact va value slice pins s σ H _ _ v u Q I rx ry ⟨_,_,ch,rfl,rfl,hz,ec,up _ M h _ H rh Frm.refl rfl⟩ hs
   ·exact h.elim
  ·split at h
   ·rename_i d ed
    cases r1;rcases lN rh r2 ed with ⟨z,_⟩|⟨d',w,z,g,rw'⟩
    ·cases z
    ·cases z
     exact yf hu value slice pins s σ H _ _ v u Q I rx ry ⟨_,w,rfl,g,up _ M h _ H rh Frm.refl rw'⟩ hs
   ·exact h.elim
  ·exact h.elim
abbrev Cq:=Dl->Mem->(Option Int->Mem->Prop)->Prop
inductive liftO(X:Cx)(B:Bd)(T:Cq)(σ:St)(H:Hp)(Q:Option Int->Hp->Prop):Prop
 |mk (δ:Dl) (M:Mem) (QQ:Option Int->Mem->Prop) (s:SR X B δ M σ H) (h:T δ M QQ) (u:∀o M',QQ o M'->∀H',RepH X.K H' M'->Frm M H M' H'->Q o H'):liftO X B T σ H Q
def DO(X:Cx)(B:Bd)(e:Option Expr)(T:Cq):Prop:=PO X e (liftO X B T)
theorem qL{X:Cx}{e:Option Expr}{t t':TO}(h:PO X e t)(w:∀σ H Q,t' σ H Q->t σ H Q):PO X e t':=fun pins s σ H Q I q=>h pins s σ H Q I (w σ H Q q)
def bA:Cq:=fun _ M Q=>Q none M
def cu(t:bM):Cq:=fun δ M Q=>t δ M fun x M1=>match x with
 |.int i=>Q (some i) M1
 |_=>False
theorem bP:DO X B none bA:=qL yw fun σ H Q ⟨δ,M,QQ,s,h,u⟩=>u none M h H s.rh Frm.refl
theorem bR{e:Expr}{te:bM}(h:DE X B e te):DO X B (some e) (cu te):=by
 refine qL (ze h) ?_
 rintro σ H Q ⟨δ,M,QQ,s,h,u⟩
 refine ⟨δ,M,_,s,h,fun d M' q v H' rh i r=>?_⟩;cases d with
 |int j=>exact ⟨j,r,u _ M' q H' rh i⟩
 |_=>exact (show False from q).elim
def gZ(xs:List D)(lo hi:Option Int):List D:=(xs.drop (HT.sIx xs.length 0 lo)).take (HT.sIx xs.length xs.length hi-HT.sIx xs.length 0 lo)
theorem Rps.cut{ds:List D}{vs:List V}(r:Rps K H ds vs)(lo hi:Option Int):Rps K H (gZ ds lo hi) (gR vs lo hi):=by
 unfold gZ gR;rw [<- r.length];exact (r.drop _).take _
def oSl(x:D)(lo hi:Option Int)(M:Mem)(Q:DK):Prop:=match x with
 |.tup xs=>Q (.tup (gZ xs lo hi)) M
 |.ml xs=>∀p,M p=none->Q (.ref p) (M.upd p (.lst (gZ xs lo hi)))
 |x=>match seqL M x with
  |some xs=>∀p,M p=none->Q (.ref p) (M.upd p (.lst (gZ xs lo hi)))
  |none=>False
inductive liftSl(X:Cx)(x:V)(lo hi:Option Int)(H:Hp)(Q:VK):Prop
 |mk (d:D) (M:Mem) (QQ:DK) (rh:RepH X.K H M) (r:Rp X.K H d x) (h:oSl d lo hi M QQ) (u:Up X.K M H QQ Q):liftSl X x lo hi H Q
theorem pe{vs:List V}{lo hi:Option Int}(h:HT.sIx vs.length 0 lo=0/\HT.sIx vs.length vs.length hi=vs.length):gR vs lo hi=vs:=by
 unfold gR;rw [h.1,h.2];simp
theorem y_:Ep X (fun x lo hi H Q=>∃a xs,x=.ref a/\gz X.K H a xs/\(gR xs lo hi=xs->Q (.ref a) H)/\∀p,H p=none->Q (.ref p) (upd H p (.tup (gR xs lo hi)))):=by
 intro pins s σ H x v vl vu lo hi sl Q I rx hs pl pu h;obtain ⟨a,xs,rfl,hx,q0,q⟩:=h
 by_cases hw:HT.sIx xs.length 0 lo=0/\HT.sIx xs.length xs.length hi=xs.length
 ·cases rx
  obtain ⟨its,r,ht,hz⟩:=I.tuple hx;have hlen:its.toArray.size=xs.length:=by rw [List.size_toArray];exact r.length.symm
  refine ⟨"tuple",_,PyProof.Rows.slot_tuple_getitem.lookup,ht.typeIs,?_⟩;exact HT.fu ht hs pl pu (by rw [hlen];exact hw) ⟨.ref a,H,I,rfl,q0 (pe hw)⟩
 ·exact Cl pins s σ H _ v vl vu lo hi sl Q I rx hs pl pu ⟨a,xs,rfl,hx,hw,q⟩
end
end L3
namespace L3
open PySem L2
section
variable {X:Cx}{B:Bd}{K:W.Frag}{H:Hp}{M:Mem}{e:Expr}{es:List Expr}{te:bM}{lo hi:Option Expr}{tl th:Cq}{pos p2 p:Pos}{t:fO}
theorem A7:Ep X (liftSl X):=by
 intro pins s σ H x v vl vu lo hi sl Q I rx hs pl pu h;obtain ⟨d,M,QQ,rh,r,h,up⟩:=h;unfold oSl at h
 split at h
 ·obtain ⟨a,vs,rfl,ht,r⟩:=r
  refine y_ pins s σ H _ v vl vu lo hi sl Q I rx hs pl pu ⟨a,vs,rfl,ht.sq,fun e=>?_,fun p hp=>?_⟩
  ·exact up _ M h _ H rh Frm.refl ⟨a,vs,rfl,ht,by rw [<- e];exact r.cut lo hi⟩
  ·exact up _ M h _ _ (rh.new hp) (Frm.new hp) ⟨p,_,rfl,upd_same,(r.cut lo hi).mono (Imm.new hp)⟩
 ·obtain ⟨a,vs,rfl,hq,r⟩:=r
  refine qC pins s σ H _ v vl vu lo hi sl Q I rx hs pl pu ⟨a,vs,rfl,hq.sq,fun p hp=>?_⟩;exact up _ _ (h p (rh.fresh hp)) _ _ (rh.put (by rw [hp];trivial) ⟨_,upd_same,(r.cut lo hi).mono (Imm.new hp)⟩) (Frm.put (.inl hp)) rfl
 ·split at h
  ·rename_i xs e
   obtain ⟨a,vs,rfl,hq,r⟩:=fi rh r e;refine qC pins s σ H _ v vl vu lo hi sl Q I rx hs pl pu ⟨a,vs,rfl,.inl hq,fun p hp=>?_⟩;exact up _ _ (h p (rh.fresh hp)) _ _ (rh.put (by rw [hp];trivial) ⟨_,upd_same,(r.cut lo hi).mono (Imm.new hp)⟩) (Frm.put (.inl hp)) rfl
  ·exact h.elim
def lK(te:bM)(tl th:Cq):bM:=fun δ M Q=>te δ M fun x M1=>tl δ M1 fun l M2=>th δ M2 fun u M3=>oSl x l u M3 Q
theorem bu(he:DE X B e te)(hl:DO X B lo tl)(hu:DO X B hi th):DE X B (.Subscript e (.Slice lo hi none p2) pos) (lK te tl th):=by
 refine bg (tF A7 he hl hu) ?_
 rintro σ H Q ⟨δ,M,QQ,s,h,u⟩
 refine ⟨δ,M,_,s,h,fun x M1 h1 v1 H1 rh1 i1 r1=>?_⟩;refine ⟨δ,M1,_,s.go rh1 i1,h1,fun l M2 h2 H2 rh2 i2=>?_⟩;refine ⟨δ,M2,_,s.go rh2 (i1.trans i2),h2,fun w M3 h3 H3 rh3 i3=>?_⟩;exact ⟨x,M3,QQ,rh3,r1.mf rh1 (i2.trans i3),h3,u.go ((i1.trans i2).trans i3)⟩
abbrev tj:=List D->Mem->DK->Prop
inductive liftC(X:Cx)(r:tj)(xs:List V)(H:Hp)(Q:VK):Prop
 |mk (ds:List D) (M:Mem) (QQ:DK) (rh:RepH X.K H M) (rp:Rps X.K H ds xs) (h:r ds M QQ) (u:Up X.K M H QQ Q):liftC X r xs H Q
def bO(r:tj)(t:fO):bM:=fun δ M Q=>t δ M fun vs M1=>r vs M1 Q
theorem qK{r:tj}{σ:L2.St}{H:Hp}{Q:VK}(h:liftE X B (bO r t) σ H Q):tCB (liftC X r) (liftA X B t) σ H Q:=by
 obtain ⟨δ,M,QQ,s,h,u⟩:=h;refine ⟨δ,M,_,s,h,fun ds M1 h1 vs H1 rh1 i1 r1=>?_⟩;exact ⟨ds,M1,QQ,rh1,r1,h1,u.go i1⟩
theorem aR{x:Str}{id:String}{r:tj}(hc:cr X (.builtin id) (liftC X r))(hg:Gl X x)(hm:X.mg x=none)(hv:bootBuiltins x=some (.builtin id))(ha:DA X B (e::es) t)(hn:x≠"__name__":=by decide)(hdb:(x==("__debug__":Str))=false:=by decide)
  (he:starEach (e::es) X.env=(false,eval e X.env)::starEach es X.env:=by rfl) (hpl:(backTo pos (starEach es X.env)).any (·.1)=false:=by rfl):DE X B (.Call (.Name x p) (e::es) [] pos) (bO r t):=
 bg (tU hc hg hm hv ha hn hdb he hpl) fun _ _ _ h=>qK h
theorem aE{x:Str}{T:String}{r:tj}(hc:cr X (.type T) (liftC X r))(hg:Gl X x)(hm:X.mg x=none)(hv:bootBuiltins x=some (.type T))(ha:DA X B (e::es) t)(hn:x≠"__name__":=by decide)(hdb:(x==("__debug__":Str))=false:=by decide)
  (he:starEach (e::es) X.env=(false,eval e X.env)::starEach es X.env:=by rfl) (hpl:(backTo pos (starEach es X.env)).any (·.1)=false:=by rfl):DE X B (.Call (.Name x p) (e::es) [] pos) (bO r t):=
 bg (su hc hg hm hv ha hn hdb he hpl) fun _ _ _ h=>qK h
theorem gS{ds:List D}{vs:List V}{d:D}(r:Rps K H [d] vs):∃v,vs=[v]/\Rp K H d v:=by
 obtain ⟨v,w,rfl,a,b⟩:=r;cases b;exact ⟨v,rfl,a⟩
theorem xP{vs:List V}{d e:D}(r:Rps K H [d,e] vs):∃v w,vs=[v,w]/\Rp K H d v/\Rp K H e w:=by
 obtain ⟨v,w,rfl,a,b⟩:=r;obtain ⟨v',w',rfl,a',b⟩:=b;cases b;exact ⟨v,v',rfl,a,a'⟩
def cg:tj:=fun ds M Q=>match ds with
 |[d]=>match cP M d with
  |some xs=>Q (.int xs.length) M
  |none=>match d with
   |.str z=>z.length<=sizeLine/\Q (.int z.length) M
   |.ref a=>match M a with
    |some (.dK kvs)=>Q (.int kvs.length) M
    |_=>False
   |_=>False
 |_=>False
theorem aS:cr X (.builtin "len") (liftC X cg):=by
 intro pins s σ H xs us Q I r h;obtain ⟨ds,M,QQ,rh,rp,h,up⟩:=h;unfold cg at h
 split at h
 ·obtain ⟨v,rfl,rv⟩:=gS (ds:=[]) rp
  split at h
  ·rename_i ys e
   obtain ⟨q,vs,rfl,hq,rr⟩:=gi rh rv e;exact li pins s σ H _ us Q I r ⟨q,vs,rfl,hq,by rw [<- rr.length];exact up _ M h _ H rh Frm.refl rfl⟩
  ·split at h
   ·cases rv
    exact kL pins s σ H _ us Q I r ⟨_,rfl,h.1,up _ M h.2 _ H rh Frm.refl rfl⟩
   ·split at h
    ·rename_i kvs e
     cases rv;obtain ⟨ws,h1,h2⟩:=rh _ _ e;exact sG pins s σ H _ us Q I r ⟨_,ws,rfl,h1,by rw [<- h2.length];exact up _ M h _ H rh Frm.refl rfl⟩
    ·exact h.elim
   ·exact h.elim
 ·exact h.elim
def dJ:tj:=fun ds M Q=>match ds with
 |[d]=>match cP M d with
  |some xs=>∀p,M p=none->Q (.ref p) (M.upd p (.lst xs))
  |none=>False
 |_=>False
theorem bV:cr X (.type "list") (liftC X dJ):=by
 intro pins s σ H xs us Q I r h;obtain ⟨ds,M,QQ,rh,rp,h,up⟩:=h;unfold dJ at h
 split at h
 ·obtain ⟨v,rfl,rv⟩:=gS (ds:=[]) rp
  split at h
  ·rename_i ys e
   obtain ⟨q,vs,rfl,hq,rr⟩:=gi rh rv e;refine kK pins s σ H _ us Q I r ⟨q,vs,rfl,hq,fun p hp=>?_⟩;exact up _ _ (h p (rh.fresh hp)) _ _ (rh.put (by rw [hp];trivial) ⟨_,upd_same,rr.mono (Imm.new hp)⟩) (Frm.put (.inl hp)) rfl
  ·exact h.elim
 ·exact h.elim
def cTuple:tj:=fun ds M Q=>match ds with
 |[.tup xs]=>Q (.tup xs) M
 |[d]=>match seqL M d with
  |some xs=>Q (.tup xs) M
  |none=>False
 |_=>False
theorem aO:cr X (.type "tuple") (liftC X cTuple):=by
 intro pins s σ H xs us Q I r h;obtain ⟨ds,M,QQ,rh,rp,h,up⟩:=h;unfold cTuple at h
 split at h
 ·obtain ⟨v,rfl,rv⟩:=gS (ds:=[]) rp
  obtain ⟨q,vs,rfl,ht,rr⟩:=rv;exact fC pins s σ H _ us Q I r ⟨q,vs,rfl,.inr ⟨ht.sq,up _ M h _ H rh Frm.refl ⟨q,vs,rfl,ht,rr⟩⟩⟩
 ·obtain ⟨v,rfl,rv⟩:=gS (ds:=[]) rp
  split at h
  ·rename_i ys e
   obtain ⟨q,vs,rfl,hq,rr⟩:=fi rh rv e;refine fC pins s σ H _ us Q I r ⟨q,vs,rfl,.inl ⟨.inl hq,fun p hp=>?_⟩⟩;exact up _ M h _ _ (rh.new hp) (Frm.new hp) ⟨p,_,rfl,upd_same,rr.mono (Imm.new hp)⟩
  ·exact h.elim
 ·exact h.elim
def eT(M:Mem):D->Option String
 |.non=>some "NoneType"
 |.bl _=>some "bool"
 |.int _=>some "int"
 |.str _=>some "str"
 |.tup _=>some "tuple"
 |.lst _=>some "list"
 |.ref a=>match M a with
  |some (.lst _)=>some "list"
  |some (.dK _)=>some "dict"
  |some (.dT _)=>some "dict"
  |_=>none
 |_=>none
def j8(t T:String):Bool:=t==T||(t=="bool"&&T=="int")
def vH(T:String):Bool:=T=="bool"||T=="int"||T=="str"||T=="tuple"||T=="list"||T=="dict"
theorem xk:(∀K:W.Frag,∀t∈["NoneType","bool","int","str","tuple","list","dict"],∀T∈["bool","int","str","tuple","list","dict"],W.kitOne K (.type t) (.type T)=some (j8 t T)):=by
 intro K t ht T hT;simp only [List.mem_cons,List.not_mem_nil,or_false] at ht hT;rcases ht with rfl|rfl|rfl|rfl|rfl|rfl|rfl<;>rcases hT with rfl|rfl|rfl|rfl|rfl|rfl<;>kernel_rfl
theorem wT{d:D}{v:V}{t:String}(rh:RepH K H M)(r:Rp K H d v)(e:eT M d=some t):TyOf K H v (.type t)/\t∈["NoneType","bool","int","str","tuple","list","dict"]:=by
 cases d with
 |non=>cases r;cases e;exact ⟨.non,by simp⟩
 |bl b=>cases r;cases e;exact ⟨.bl b,by simp⟩
 |int i=>cases r;cases e;exact ⟨.int i,by simp⟩
 |str x=>cases r;cases e;exact ⟨.str x,by simp⟩
 |ty n=>cases e
 |mt n=>cases e
 |ml n=>cases e
 |tup xs=>
  cases e;obtain ⟨q,vs,rfl,ht,rr⟩:=r;exact ⟨.tup ht,by simp⟩
 |lst xs=>
  cases e;obtain ⟨q,vs,rfl,⟨o,ht⟩,rr⟩:=r;exact ⟨.frz ht,by simp⟩
 |ref a=>
  cases r;simp only [eT] at e
  split at e
  ·rename_i q;cases e;obtain ⟨ws,h1,h2⟩:=rh _ _ q;exact ⟨.lst h1,by simp⟩
  ·rename_i q;cases e;obtain ⟨ws,h1,h2⟩:=rh _ _ q;exact ⟨.dK h1,by simp⟩
  ·rename_i q;cases e;obtain ⟨ws,h1,h2⟩:=rh _ _ q;exact ⟨.dT h1,by simp⟩
  ·cases e
def qA:tj:=fun ds M Q=>match ds with
 |[d,.ty T]=>vH T=true/\match eT M d with
  |some t=>Q (.bl (j8 t T)) M
  |none=>False
 |_=>False
theorem fQ:cr X (.builtin "isinstance") (liftC X qA):=by
 intro pins s σ H xs us Q I r h;obtain ⟨ds,M,QQ,rh,rp,h,up⟩:=h;unfold qA at h
 split at h
 ·rename_i d T
  obtain ⟨hT,h⟩:=h;obtain ⟨v,w,rfl,rv,rw'⟩:=xP rp;cases rw'
  split at h
  ·rename_i t e
   obtain ⟨ty,ht⟩:=wT rh rv e;refine o4 pins s σ H _ us Q I r ⟨v,T,.type t,_,rfl,ty,xk X.K t ht T ?_,up _ M h _ H rh Frm.refl rfl⟩;simp only [vH,Bool.or_eq_true,beq_iff_eq] at hT;simp only [List.mem_cons,List.not_mem_nil,or_false];rcases hT with ((((h|h)|h)|h)|h)|h<;>simp [h]
  ·exact h.elim
 ·exact h.elim
def kj:List D->Option (List Bool)
 |[]=>some []
 |.bl b::ds=>match kj ds with
  |some bs=>some (b::bs)
  |none=>none
 |_=>none
theorem ke:∀{ds:List D} {vs:List V} {bs:List Bool},Rps K H ds vs->kj ds=some bs->vs=bs.map V.bl
 |[],vs,bs,r,e=>by cases e;exact r
 |d::ds,vs,bs,r,e=>by
  obtain ⟨v,r',rfl,a,b⟩:=r;cases d with
  |bl c=>
   simp only [kj] at e
   split at e
   ·rename_i bs' e2
    cases e;cases a;rw [ke b e2];rfl
   ·cases e
  |_=>cases e
def yD:tj:=fun ds M Q=>match ds with
 |[.int i,.int j]=>Q (.int (if j<i then j else i)) M
 |_=>False
theorem jX(hc:X.calm=true):cr X (.builtin "min") (liftC X yD):=by
 intro pins s σ H xs us Q I r h;obtain ⟨ds,M,QQ,rh,rp,h,up⟩:=h;unfold yD at h
 split at h
 ·obtain ⟨v,w,rfl,rv,rw'⟩:=xP rp
  cases rv;cases rw';exact sE hc pins s σ H _ us Q I r ⟨_,_,rfl,up _ M h _ H rh Frm.refl rfl⟩
 ·exact h.elim
end
end L3
namespace L3
open PySem L2
mutual
def aZ:D->D->Bool
 |.non,.non=>true
 |.bl a,.bl b=>a==b
 |.bl a,.int b=>(if a then 1 else 0)==b
 |.int a,.bl b=>a==(if b then 1 else 0)
 |.int a,.int b=>decide (a=b)
 |.str a,.str b=>decide (a=b)
 |.tup xs,.tup ys=>eX xs ys
 |.lst xs,.lst ys=>eX xs ys
 |_,_=>false
def eX:List D->List D->Bool
 |[],[]=>true
 |x::xs,y::ys=>aZ x y&&eX xs ys
 |_,_=>false
end
mutual
def fit:Nat->D->Bool
 |_,.non=>true
 |_,.bl _=>true
 |_,.int _=>true
 |_,.str _=>true
 |n+1,.tup xs=>dH n xs
 |n+1,.lst xs=>dH n xs
 |_,_=>false
def dH:Nat->List D->Bool
 |_,[]=>true
 |n,x::xs=>fit n x&&dH n xs
end
mutual
def Hr(h:Heap):D->Value->Prop
 |.non,u=>u=.none
 |.bl b,u=>u=.bool b
 |.int i,u=>∃t,u=.int i t
 |.str x,u=>∃t,u=.str x t
 |.tup xs,u=>∃p its,u=.ref p/\h.IsTuple p (List.toArray its)/\Hrs h xs its
 |.lst xs,u=>∃p its,u=.ref p/\h.IsList p (List.toArray its)/\Hrs h xs its
 |_,_=>False
def Hrs(h:Heap):List D->List Value->Prop
 |[],us=>us=[]
 |x::xs,us=>∃u r,us=u::r/\Hr h x u/\Hrs h xs r
end
section
variable {h:Heap}
theorem Hrs.length:∀{ds:List D} {us:List Value},Hrs h ds us->ds.length=us.length
 |[],_,q=>by cases q;rfl
 |_::_,_,q=>by obtain ⟨v,r,rfl,_,b⟩:=q;simp [b.length]
theorem Hrs.get:∀{ds:List D} {us:List Value},Hrs h ds us->∀(i:Nat) (h1:i<ds.length) (h2:i<us.length),Hr h ds[i] us[i]
 |[],_,_,i,h1,_=>absurd h1 (Nat.not_lt_zero _)
 |x::xs,_,q,i,h1,h2=>by
  obtain ⟨v,r,rfl,a,b⟩:=q;cases i with
  |zero=>exact a
  |succ i=>exact b.get i (by simpa using h1) (by simpa using h2)
theorem qP{p:Addr}{a b:Array Value}(x:h.IsTuple p a)(y:h.IsTuple p b):a=b:=by
 obtain ⟨o,h1,_,n,h2⟩:=x;obtain ⟨o',h1',_,n',h2'⟩:=y;rw [h1] at h1';cases h1';rw [h2] at h2'
 injection h2' with e _
theorem qR{p:Addr}{a b:Array Value}(x:h.IsList p a)(y:h.IsList p b):a=b:=by
 obtain ⟨o,h1,_,n,h2⟩:=x;obtain ⟨o',h1',_,n',h2'⟩:=y;rw [h1] at h1';cases h1';rw [h2] at h2'
 injection h2' with e _
theorem Ei{p:Addr}{a b:Array Value}(x:h.IsList p a)(y:h.IsTuple p b):False:=by
 obtain ⟨o,h1,c,_⟩:=x;obtain ⟨o',h1',c',_⟩:=y;rw [h1] at h1';cases h1';rw [c] at c'
 injection c' with e
 exact absurd e (by decide)
mutual
theorem u9:∀{d e:D} {u:Value},Hr h d u->Hr h e u->d=e
 |.non,e,u,a,b=>by
  cases a;cases e with
  |non=>rfl
  |bl _=>cases b
  |int _=>obtain ⟨t,q⟩:=b;cases q
  |str _=>obtain ⟨t,q⟩:=b;cases q
  |tup _=>obtain ⟨p,i,q,_⟩:=b;cases q
  |lst _=>obtain ⟨p,i,q,_⟩:=b;cases q
  |_=>exact (show False from b).elim
 |.bl c,e,u,a,b=>by
  cases a;cases e with
  |non=>cases b
  |bl _=>cases b;rfl
  |int _=>obtain ⟨t,q⟩:=b;cases q
  |str _=>obtain ⟨t,q⟩:=b;cases q
  |tup _=>obtain ⟨p,i,q,_⟩:=b;cases q
  |lst _=>obtain ⟨p,i,q,_⟩:=b;cases q
  |_=>exact (show False from b).elim
 |.int c,e,u,a,b=>by
  obtain ⟨t,rfl⟩:=a;cases e with
  |non=>cases b
  |bl _=>cases b
  |int _=>obtain ⟨t,q⟩:=b;cases q;rfl
  |str _=>obtain ⟨t,q⟩:=b;cases q
  |tup _=>obtain ⟨p,i,q,_⟩:=b;cases q
  |lst _=>obtain ⟨p,i,q,_⟩:=b;cases q
  |_=>exact (show False from b).elim
 |.str c,e,u,a,b=>by
  obtain ⟨t,rfl⟩:=a;cases e with
  |non=>cases b
  |bl _=>cases b
  |int _=>obtain ⟨t,q⟩:=b;cases q
  |str _=>obtain ⟨t,q⟩:=b;cases q;rfl
  |tup _=>obtain ⟨p,i,q,_⟩:=b;cases q
  |lst _=>obtain ⟨p,i,q,_⟩:=b;cases q
  |_=>exact (show False from b).elim
 |.tup xs,e,u,a,b=>by
  obtain ⟨p,its,rfl,t1,r1⟩:=a;cases e with
  |non=>cases b
  |bl _=>cases b
  |int _=>obtain ⟨t,q⟩:=b;cases q
  |str _=>obtain ⟨t,q⟩:=b;cases q
  |tup ys=>
   obtain ⟨p',its',q,t2,r2⟩:=b;cases q;have e:=qP t1 t2;have e':its=its':=by simpa using congrArg Array.toList e
   subst e';rw [gc r1 r2]
  |lst ys=>obtain ⟨p',its',q,t2,r2⟩:=b;cases q;exact (Ei t2 t1).elim
  |_=>exact (show False from b).elim
 |.lst xs,e,u,a,b=>by
  obtain ⟨p,its,rfl,t1,r1⟩:=a;cases e with
  |non=>cases b
  |bl _=>cases b
  |int _=>obtain ⟨t,q⟩:=b;cases q
  |str _=>obtain ⟨t,q⟩:=b;cases q
  |lst ys=>
   obtain ⟨p',its',q,t2,r2⟩:=b;cases q;have e:=qR t1 t2;have e':its=its':=by simpa using congrArg Array.toList e
   subst e';rw [gc r1 r2]
  |tup ys=>obtain ⟨p',its',q,t2,r2⟩:=b;cases q;exact (Ei t1 t2).elim
  |_=>exact (show False from b).elim
 |.ty _,_,_,a,_=>(show False from a).elim
 |.ref _,_,_,a,_=>(show False from a).elim
 |.mt _,_,_,a,_=>(show False from a).elim
 |.ml _,_,_,a,_=>(show False from a).elim
theorem gc:∀{ds es:List D} {us:List Value},Hrs h ds us->Hrs h es us->ds=es
 |[],es,us,a,b=>by
  cases a;cases es with
  |nil=>rfl
  |cons _ _=>obtain ⟨v,r,q,_⟩:=b;cases q
 |d::ds,es,us,a,b=>by
  obtain ⟨v,r,rfl,a1,a2⟩:=a;cases es with
  |nil=>cases b
  |cons e es=>
   obtain ⟨v',r',q,b1,b2⟩:=b;cases q;rw [u9 a1 b1,gc a2 b2]
end
mutual
theorem v7:∀{n:Nat} {d:D},fit n d=true->aZ d d=true
 |_,.non,_=>by simp [aZ]
 |_,.bl _,_=>by simp [aZ]
 |_,.int _,_=>by simp [aZ]
 |_,.str _,_=>by simp [aZ]
 |0,.tup _,f=>by simp [fit] at f
 |0,.lst _,f=>by simp [fit] at f
 |n+1,.tup xs,f=>by rw [aZ];exact dI (n:=n) f
 |n+1,.lst xs,f=>by rw [aZ];exact dI (n:=n) f
 |_,.ty _,f=>by simp [fit] at f
 |_,.ref _,f=>by simp [fit] at f
 |_,.mt _,f=>by simp [fit] at f
 |_,.ml _,f=>by simp [fit] at f
theorem dI:∀{n:Nat} {ds:List D},dH n ds=true->eX ds ds=true
 |_,[],_=>by simp [eX]
 |n,x::xs,f=>by
  rw [dH,Bool.and_eq_true] at f;rw [eX,v7 f.1,dI f.2];rfl
end
theorem d8:∀{xs ys:List D},xs.length≠ys.length->eX xs ys=false
 |[],[],h=>absurd rfl h
 |[],_::_,_=>by simp [eX]
 |_::_,[],_=>by simp [eX]
 |x::xs,y::ys,h=>by rw [eX,d8 (by simpa using h),Bool.and_false]
theorem g8:∀(xs ys:List D) (f:Nat->Bool),xs.length=ys.length->(∀j (h1:j<xs.length) (h2:j<ys.length),f j=aZ xs[j] ys[j])->(List.range xs.length).all f=eX xs ys
 |[],[],f,_,_=>by simp [eX]
 |[],_::_,_,h,_=>by simp at h
 |_::_,[],_,h,_=>by simp at h
 |x::xs,y::ys,f,h,hf=>by
  have h0:=hf 0 (by simp) (by simp)
  have ht:=g8 xs ys (fun j=>f (j+1)) (by simpa using h) (fun j h1 h2=>hf (j+1) (by simpa using h1) (by simpa using h2))
  rw [List.length_cons,List.range_succ_eq_map,List.all_cons,List.all_map,eX,<- ht];simp only [List.getElem_cons_zero] at h0;rw [h0];rfl
theorem c_:∀{n:Nat} {xs:List D},dH n xs=true->∀(j:Nat) (h1:j<xs.length),fit n xs[j]=true
 |_,[],_,j,h1=>absurd h1 (Nat.not_lt_zero _)
 |n,x::xs,f,j,h1=>by
  rw [dH,Bool.and_eq_true] at f;cases j with
  |zero=>exact f.1
  |succ j=>exact c_ f.2 j (by simpa using h1)
def jx:D->Option V
 |.non=>some .non
 |.bl b=>some (.bl b)
 |.int i=>some (.int i)
 |.str x=>some (.str x)
 |_=>none
theorem i9{d:D}{v:V}{u:Value}(e:jx d=some v)(r:Hr h d u):RelV v u/\vW v=true:=by
 cases d with
 |non=>cases e;exact ⟨r,rfl⟩
 |bl b=>cases e;exact ⟨r,rfl⟩
 |int b=>cases e;exact ⟨r,rfl⟩
 |str b=>cases e;exact ⟨r,rfl⟩
 |_=>cases e
theorem mB{d e:D}{v w:V}(h1:jx d=some v)(h2:jx e=some w):lW v w=aZ d e:=by
 cases d with
 |non=>cases h1;cases e with|non=>cases h2;simp [lW,aZ]|bl b=>cases h2;simp [lW,aZ]|int b=>cases h2;simp [lW,aZ]|str b=>cases h2;simp [lW,aZ]|_=>cases h2
 |bl a=>cases h1;cases e with|non=>cases h2;simp [lW,aZ]|bl b=>cases h2;simp [lW,aZ]|int b=>cases h2;simp [lW,aZ]|str b=>cases h2;simp [lW,aZ]|_=>cases h2
 |int a=>cases h1;cases e with|non=>cases h2;simp [lW,aZ]|bl b=>cases h2;simp [lW,aZ]|int b=>cases h2;simp [lW,aZ];rfl|str b=>cases h2;simp [lW,aZ]|_=>cases h2
 |str a=>cases h1;cases e with|non=>cases h2;simp [lW,aZ]|bl b=>cases h2;simp [lW,aZ]|int b=>cases h2;simp [lW,aZ]|str b=>cases h2;simp [lW,aZ];rfl|_=>cases h2
 |_=>cases h1
end
theorem zO:∀(n:Nat) {A:Around} {s:Shared} {d e:D} {u w:Value},Hr s.heap d u->Hr s.heap e w->fit n d=true->fit n e=true->A.units+n<cLine->SeqAt.EqAt A s u w (aZ d e):=by
 intro n
 induction n with
 |zero=>
  intro A s d e u w rd re fd fe hu;have f1:∃v,jx d=some v:=by cases d<;>first|exact ⟨_,rfl⟩|(simp [fit] at fd)
  have f2:∃v,jx e=some v:=by cases e<;>first|exact ⟨_,rfl⟩|(simp [fit] at fe)
  obtain ⟨v1,e1⟩:=f1;obtain ⟨v2,e2⟩:=f2;obtain ⟨a1,b1⟩:=i9 e1 rd;obtain ⟨a2,b2⟩:=i9 e2 re;rw [<- mB e1 e2];exact w4 a1 a2 b1 b2
 |succ n ih=>
  intro A s d e u w rd re fd fe hu;have hu0:A.units<cLine:=by lia
  have hu1:A.in1.units+n<cLine:=by show A.units+1+n<cLine;lia
  by_cases f1:∃v,jx d=some v
  ·obtain ⟨v1,e1⟩:=f1
   obtain ⟨a1,b1⟩:=i9 e1 rd
   by_cases f2:∃v,jx e=some v
   ·obtain ⟨v2,e2⟩:=f2
    obtain ⟨a2,b2⟩:=i9 e2 re;rw [<- mB e1 e2];exact w4 a1 a2 b1 b2
   ·cases e with
    |tup ys=>
     obtain ⟨p,its,rfl,t,_⟩:=re;cases d with
     |non=>cases rd;simp only [aZ];exact .none_tuple t hu0
     |bl b=>cases rd;simp only [aZ];exact .bool_tuple b t hu0
     |int b=>obtain ⟨tk,rfl⟩:=rd;simp only [aZ];exact .int_tuple b tk t hu0
     |str b=>obtain ⟨tk,rfl⟩:=rd;simp only [aZ];exact .str_tuple b tk t hu0
     |_=>cases e1
    |lst ys=>
     obtain ⟨p,its,rfl,t,_⟩:=re;cases d with
     |non=>cases rd;simp only [aZ];exact .none_list t hu0
     |bl b=>cases rd;simp only [aZ];exact .bool_list b t hu0
     |int b=>obtain ⟨tk,rfl⟩:=rd;simp only [aZ];exact .int_list b tk t hu0
     |str b=>obtain ⟨tk,rfl⟩:=rd;simp only [aZ];exact .str_list b tk t hu0
     |_=>cases e1
    |ty _=>exact (show False from re).elim
    |ref _=>exact (show False from re).elim
    |mt _=>exact (show False from re).elim
    |ml _=>exact (show False from re).elim
    |_=>exact absurd ⟨_,rfl⟩ f2
  ·cases d with
   |tup xs=>
    obtain ⟨p,its,rfl,t1,r1⟩:=rd;cases e with
    |non=>cases re;simp only [aZ];exact .tuple_none t1 hu0
    |bl b=>cases re;simp only [aZ];exact .tuple_bool b t1 hu0
    |int b=>obtain ⟨tk,rfl⟩:=re;simp only [aZ];exact .tuple_int b tk t1 hu0
    |str b=>obtain ⟨tk,rfl⟩:=re;simp only [aZ];exact .tuple_str b tk t1 hu0
    |tup ys=>
     obtain ⟨p',its',rfl,t2,r2⟩:=re;rw [aZ]
     by_cases hp:p=p'
     ·subst hp
      have e':its=its':=by simpa using congrArg Array.toList (qP t1 t2)
      subst e';rw [gc r1 r2,dI (n:=n) fe];exact .same _
     ·refine .of_refs hp ?_
      have l1:=r1.length;have l2:=r2.length;have key:∀j (h1:j<its.toArray.size) (h2:j<its'.toArray.size),SeqAt.EqAt A.in1 s its.toArray[j] its'.toArray[j] (match xs[j]?,ys[j]? with|some x,some y=>aZ x y|_,_=>false):=fun j h1 h2=>by
       have h1':j<xs.length:=by rw [l1];simpa using h1
       have h2':j<ys.length:=by rw [l2];simpa using h2
       rw [List.getElem?_eq_getElem h1',List.getElem?_eq_getElem h2'];exact ih (r1.get j h1' (by simpa using h1)) (r2.get j h2' (by simpa using h2)) (c_ fd j h1') (c_ fe j h2') hu1
      have:=SeqAt.RcAt.tuples (e:=fun j=>match xs[j]?,ys[j]? with|some x,some y=>aZ x y|_,_=>false) t1 t2 hu0 key
      by_cases hl:xs.length=ys.length
      ·have hsz:its.toArray.size=its'.toArray.size:=by simp;lia
       rw [hsz] at this;simp only [Nat.min_self,beq_self_eq_true,Bool.and_true] at this;have hxs:its'.toArray.size=xs.length:=by simp;lia
       rw [hxs,g8 xs ys _ hl (fun j h1 h2=>by rw [List.getElem?_eq_getElem h1,List.getElem?_eq_getElem h2])] at this
       exact this
      ·have hsz:(its.toArray.size==its'.toArray.size)=false:=by simp;lia
       rw [hsz,Bool.and_false] at this;rw [d8 hl];exact this
    |lst ys=>obtain ⟨p',its',rfl,t2,r2⟩:=re;simp only [aZ];exact .tuple_list t1 t2 hu0
    |_=>exact (show False from re).elim
   |lst xs=>
    obtain ⟨p,its,rfl,t1,r1⟩:=rd;cases e with
    |non=>cases re;simp only [aZ];exact .list_none t1 hu0
    |bl b=>cases re;simp only [aZ];exact .list_bool b t1 hu0
    |int b=>obtain ⟨tk,rfl⟩:=re;simp only [aZ];exact .list_int b tk t1 hu0
    |str b=>obtain ⟨tk,rfl⟩:=re;simp only [aZ];exact .list_str b tk t1 hu0
    |lst ys=>
     obtain ⟨p',its',rfl,t2,r2⟩:=re;rw [aZ]
     by_cases hp:p=p'
     ·subst hp
      have e':its=its':=by simpa using congrArg Array.toList (qR t1 t2)
      subst e';rw [gc r1 r2,dI (n:=n) fe];exact .same _
     ·refine .of_refs hp ?_
      have l1:=r1.length;have l2:=r2.length
      by_cases hl:xs.length=ys.length
      ·have key:∀j (h1:j<its.toArray.size) (h2:j<its'.toArray.size),SeqAt.EqAt A.in1 s its.toArray[j] its'.toArray[j] (match xs[j]?,ys[j]? with|some x,some y=>aZ x y|_,_=>false):=fun j h1 h2=>by
        have h1':j<xs.length:=by rw [l1];simpa using h1
        have h2':j<ys.length:=by rw [l2];simpa using h2
        rw [List.getElem?_eq_getElem h1',List.getElem?_eq_getElem h2'];exact ih (r1.get j h1' (by simpa using h1)) (r2.get j h2' (by simpa using h2)) (c_ fd j h1') (c_ fe j h2') hu1
       have:=SeqAt.RcAt.lists (e:=fun j=>match xs[j]?,ys[j]? with|some x,some y=>aZ x y|_,_=>false) t1 t2 (by simp;lia) hu0 key
       have hxs:its.toArray.size=xs.length:=by simp;lia
       rw [hxs,g8 xs ys _ hl (fun j h1 h2=>by rw [List.getElem?_eq_getElem h1,List.getElem?_eq_getElem h2])] at this
       exact this
      ·rw [d8 hl]
       exact SeqAt.RcAt.lists_lengths t1 t2 (by simp;lia) hu0
    |tup ys=>obtain ⟨p',its',rfl,t2,r2⟩:=re;simp only [aZ];exact .list_tuple t1 t2 hu0
    |_=>exact (show False from re).elim
   |ty _=>exact (show False from rd).elim
   |ref _=>exact (show False from rd).elim
   |mt _=>exact (show False from rd).elim
   |ml _=>exact (show False from rd).elim
   |_=>exact absurd ⟨_,rfl⟩ f1
end L3
namespace L3
open PySem L2
theorem iK{n:Nat}{A:Around}{s:Shared}{xs ys:List D}{its its':List Value}(r1:Hrs s.heap xs its)(r2:Hrs s.heap ys its')(fd:dH n xs=true)(fe:dH n ys=true)(hu:A.units+n<cLine):
  ∀j (h1:j<its.toArray.size) (h2:j<its'.toArray.size),SeqAt.EqAt A s its.toArray[j] its'.toArray[j] (match xs[j]?,ys[j]? with|some x,some y=>aZ x y|_,_=>false):=fun j h1 h2=>by
 have h1':j<xs.length:=by rw [r1.length];simpa using h1
 have h2':j<ys.length:=by rw [r2.length];simpa using h2
 rw [List.getElem?_eq_getElem h1',List.getElem?_eq_getElem h2'];exact zO n (r1.get j h1' (by simpa using h1)) (r2.get j h2' (by simpa using h2)) (c_ fd j h1') (c_ fe j h2') hu
theorem hZ{xs ys:List D}(hl:xs.length=ys.length):(List.range xs.length).all (fun j=>match xs[j]?,ys[j]? with|some x,some y=>aZ x y|_,_=>false)=eX xs ys:=
 g8 xs ys _ hl (fun j h1 h2=>by rw [List.getElem?_eq_getElem h1,List.getElem?_eq_getElem h2])
theorem A4{n:Nat}{A:Around}{s:Shared}{xs ys:List D}{p p':Addr}{its its':List Value}(t1:s.heap.IsTuple p its.toArray)(t2:s.heap.IsTuple p' its'.toArray)(r1:Hrs s.heap xs its)(r2:Hrs s.heap ys its')(fd:fit n (.tup xs)=true)(fe:fit n (.tup ys)=true)(hu:A.units+n<cLine):
  SeqAt.RcAt A s (.ref p) (.ref p') (aZ (.tup xs) (.tup ys)):=by
 cases n with
 |zero=>simp [fit] at fd
 |succ n=>
  have l1:=r1.length;have l2:=r2.length;have:=SeqAt.RcAt.tuples (A:=A) t1 t2 (by lia) (iK (n:=n) r1 r2 fd fe (by show A.units+1+n<cLine;lia))
  rw [aZ]
  by_cases hl:xs.length=ys.length
  ·have hsz:its.toArray.size=its'.toArray.size:=by simp;lia
   rw [hsz] at this;simp only [Nat.min_self,beq_self_eq_true,Bool.and_true] at this;have hxs:its'.toArray.size=xs.length:=by simp;lia
   rw [hxs,hZ hl] at this;exact this
  ·have hsz:(its.toArray.size==its'.toArray.size)=false:=by simp;lia
   rw [hsz,Bool.and_false] at this;rw [d8 hl];exact this
theorem A9{n:Nat}{A:Around}{s:Shared}{xs ys:List D}{p p':Addr}{its its':List Value}(t1:s.heap.IsList p its.toArray)(t2:s.heap.IsList p' its'.toArray)(r1:Hrs s.heap xs its)(r2:Hrs s.heap ys its')(fd:fit n (.lst xs)=true)(fe:fit n (.lst ys)=true)(hu:A.units+n<cLine):
  SeqAt.RcAt A s (.ref p) (.ref p') (aZ (.lst xs) (.lst ys)):=by
 cases n with
 |zero=>simp [fit] at fd
 |succ n=>
  have l1:=r1.length;have l2:=r2.length;rw [aZ]
  by_cases hl:xs.length=ys.length
  ·have:=SeqAt.RcAt.lists (A:=A) t1 t2 (by simp;lia) (by lia) (iK (n:=n) r1 r2 fd fe (by show A.units+1+n<cLine;lia))
   have hxs:its.toArray.size=xs.length:=by simp;lia
   rw [hxs,hZ hl] at this;exact this
  ·rw [d8 hl]
   exact SeqAt.RcAt.lists_lengths t1 t2 (by simp;lia) (by lia)
theorem vF{n:Nat}{A:Around}{s:Shared}{xs ys:List D}{p p':Addr}{its its':List Value}(t1:s.heap.IsTuple p its.toArray)(t2:s.heap.IsTuple p' its'.toArray)(r1:Hrs s.heap xs its)(r2:Hrs s.heap ys its')(fd:fit n (.tup xs)=true)(fe:fit n (.tup ys)=true)(hu:A.units+n<cLine):
  SeqAt.RcNeAt A s (.ref p) (.ref p') (!aZ (.tup xs) (.tup ys)):=by
 cases n with
 |zero=>simp [fit] at fd
 |succ n=>
  have l1:=r1.length;have l2:=r2.length;have:=SeqAt.RcNeAt.tuples (A:=A) t1 t2 (by lia) (iK (n:=n) r1 r2 fd fe (by show A.units+1+n<cLine;lia))
  rw [aZ]
  by_cases hl:xs.length=ys.length
  ·have hsz:its.toArray.size=its'.toArray.size:=by simp;lia
   rw [hsz] at this;simp only [Nat.min_self,beq_self_eq_true,Bool.and_true] at this;have hxs:its'.toArray.size=xs.length:=by simp;lia
   rw [hxs,hZ hl] at this;exact this
  ·have hsz:(its.toArray.size==its'.toArray.size)=false:=by simp;lia
   rw [hsz,Bool.and_false] at this;rw [d8 hl];exact this
theorem wg{n:Nat}{A:Around}{s:Shared}{xs ys:List D}{p p':Addr}{its its':List Value}(t1:s.heap.IsList p its.toArray)(t2:s.heap.IsList p' its'.toArray)(r1:Hrs s.heap xs its)(r2:Hrs s.heap ys its')(fd:fit n (.lst xs)=true)(fe:fit n (.lst ys)=true)(hu:A.units+n<cLine):
  SeqAt.RcNeAt A s (.ref p) (.ref p') (!aZ (.lst xs) (.lst ys)):=by
 cases n with
 |zero=>simp [fit] at fd
 |succ n=>
  have l1:=r1.length;have l2:=r2.length;rw [aZ]
  by_cases hl:xs.length=ys.length
  ·have:=SeqAt.RcNeAt.lists (A:=A) t1 t2 (by simp;lia) (by lia) (iK (n:=n) r1 r2 fd fe (by show A.units+1+n<cLine;lia))
   have hxs:its.toArray.size=xs.length:=by simp;lia
   rw [hxs,hZ hl] at this;exact this
  ·rw [d8 hl]
   exact SeqAt.RcNeAt.lists_lengths t1 t2 (by simp;lia) (by lia)
theorem Di{n:Nat}{A:Around}{s:Shared}{d e:D}{u w:Value}(rd:Hr s.heap d u)(re:Hr s.heap e w)(fd:fit n d=true)(fe:fit n e=true)(hu:A.units+n<cLine):SeqAt.RcAt A s u w (aZ d e):=by
 have hu0:A.units<cLine:=by lia
 cases d with
 |non=>
  cases rd;cases e with
  |non=>
   cases re;simpa [aZ,Bool.beq_eq_decide_eq] using SeqAt.RcAt.none_none
  |bl y=>
   cases re;simpa [aZ] using SeqAt.RcAt.none_bool y
  |int y=>
   obtain ⟨tky,rfl⟩:=re;simpa [aZ] using SeqAt.RcAt.none_int y tky
  |str y=>
   obtain ⟨tky,rfl⟩:=re;simpa [aZ] using SeqAt.RcAt.none_str y tky
  |tup y=>
   obtain ⟨py,itsy,rfl,ty,ry⟩:=re;simpa [aZ] using SeqAt.RcAt.none_tuple ty hu0
  |lst y=>
   obtain ⟨py,itsy,rfl,ty,ry⟩:=re;simpa [aZ] using SeqAt.RcAt.none_list ty hu0
  |_=>exact (show False from re).elim
 |bl x=>
  cases rd;cases e with
  |non=>
   cases re;simpa [aZ] using SeqAt.RcAt.bool_none x
  |bl y=>
   cases re;simpa [aZ,Bool.beq_eq_decide_eq] using SeqAt.RcAt.bool_bool x y
  |int y=>
   obtain ⟨tky,rfl⟩:=re;simpa [aZ,Bool.beq_eq_decide_eq] using SeqAt.RcAt.bool_int x y tky
  |str y=>
   obtain ⟨tky,rfl⟩:=re;simpa [aZ] using SeqAt.RcAt.bool_str x y tky
  |tup y=>
   obtain ⟨py,itsy,rfl,ty,ry⟩:=re;simpa [aZ] using SeqAt.RcAt.bool_tuple x ty hu0
  |lst y=>
   obtain ⟨py,itsy,rfl,ty,ry⟩:=re;simpa [aZ] using SeqAt.RcAt.bool_list x ty hu0
  |_=>exact (show False from re).elim
 |int x=>
  obtain ⟨tkx,rfl⟩:=rd;cases e with
  |non=>
   cases re;simpa [aZ] using SeqAt.RcAt.int_none x tkx
  |bl y=>
   cases re;simpa [aZ,Bool.beq_eq_decide_eq] using SeqAt.RcAt.int_bool x tkx y
  |int y=>
   obtain ⟨tky,rfl⟩:=re;simpa [aZ,Bool.beq_eq_decide_eq] using SeqAt.RcAt.int_int x tkx y tky
  |str y=>
   obtain ⟨tky,rfl⟩:=re;simpa [aZ] using SeqAt.RcAt.int_str x tkx y tky
  |tup y=>
   obtain ⟨py,itsy,rfl,ty,ry⟩:=re;simpa [aZ] using SeqAt.RcAt.int_tuple x tkx ty hu0
  |lst y=>
   obtain ⟨py,itsy,rfl,ty,ry⟩:=re;simpa [aZ] using SeqAt.RcAt.int_list x tkx ty hu0
  |_=>exact (show False from re).elim
 |str x=>
  obtain ⟨tkx,rfl⟩:=rd;cases e with
  |non=>
   cases re;simpa [aZ] using SeqAt.RcAt.str_none x tkx
  |bl y=>
   cases re;simpa [aZ] using SeqAt.RcAt.str_bool x tkx y
  |int y=>
   obtain ⟨tky,rfl⟩:=re;simpa [aZ] using SeqAt.RcAt.str_int x tkx y tky
  |str y=>
   obtain ⟨tky,rfl⟩:=re;simpa [aZ,Bool.beq_eq_decide_eq] using SeqAt.RcAt.str_str x tkx y tky
  |tup y=>
   obtain ⟨py,itsy,rfl,ty,ry⟩:=re;simpa [aZ] using SeqAt.RcAt.str_tuple x tkx ty hu0
  |lst y=>
   obtain ⟨py,itsy,rfl,ty,ry⟩:=re;simpa [aZ] using SeqAt.RcAt.str_list x tkx ty hu0
  |_=>exact (show False from re).elim
 |tup x=>
  obtain ⟨px,itsx,rfl,tx,rx⟩:=rd;cases e with
  |non=>
   cases re;simpa [aZ] using SeqAt.RcAt.tuple_none tx hu0
  |bl y=>
   cases re;simpa [aZ] using SeqAt.RcAt.tuple_bool y tx hu0
  |int y=>
   obtain ⟨tky,rfl⟩:=re;simpa [aZ] using SeqAt.RcAt.tuple_int y tky tx hu0
  |str y=>
   obtain ⟨tky,rfl⟩:=re;simpa [aZ] using SeqAt.RcAt.tuple_str y tky tx hu0
  |tup y=>
   obtain ⟨py,itsy,rfl,ty,ry⟩:=re;exact A4 tx ty rx ry fd fe hu
  |lst y=>
   obtain ⟨py,itsy,rfl,ty,ry⟩:=re;simpa [aZ] using SeqAt.RcAt.tuple_list tx ty hu0
  |_=>exact (show False from re).elim
 |lst x=>
  obtain ⟨px,itsx,rfl,tx,rx⟩:=rd;cases e with
  |non=>
   cases re;simpa [aZ] using SeqAt.RcAt.list_none tx hu0
  |bl y=>
   cases re;simpa [aZ] using SeqAt.RcAt.list_bool y tx hu0
  |int y=>
   obtain ⟨tky,rfl⟩:=re;simpa [aZ] using SeqAt.RcAt.list_int y tky tx hu0
  |str y=>
   obtain ⟨tky,rfl⟩:=re;simpa [aZ] using SeqAt.RcAt.list_str y tky tx hu0
  |tup y=>
   obtain ⟨py,itsy,rfl,ty,ry⟩:=re;simpa [aZ] using SeqAt.RcAt.list_tuple tx ty hu0
  |lst y=>
   obtain ⟨py,itsy,rfl,ty,ry⟩:=re;exact A9 tx ty rx ry fd fe hu
  |_=>exact (show False from re).elim
 |_=>exact (show False from rd).elim
theorem yd{n:Nat}{A:Around}{s:Shared}{d e:D}{u w:Value}(rd:Hr s.heap d u)(re:Hr s.heap e w)(fd:fit n d=true)(fe:fit n e=true)(hu:A.units+n<cLine):SeqAt.RcNeAt A s u w (!aZ d e):=by
 have hu0:A.units<cLine:=by lia
 cases d with
 |non=>
  cases rd;cases e with
  |non=>
   cases re;simpa [aZ,Bool.beq_eq_decide_eq] using SeqAt.RcNeAt.none_none
  |bl y=>
   cases re;simpa [aZ] using SeqAt.RcNeAt.none_bool y
  |int y=>
   obtain ⟨tky,rfl⟩:=re;simpa [aZ] using SeqAt.RcNeAt.none_int y tky
  |str y=>
   obtain ⟨tky,rfl⟩:=re;simpa [aZ] using SeqAt.RcNeAt.none_str y tky
  |tup y=>
   obtain ⟨py,itsy,rfl,ty,ry⟩:=re;simpa [aZ] using SeqAt.RcNeAt.none_tuple ty hu0
  |lst y=>
   obtain ⟨py,itsy,rfl,ty,ry⟩:=re;simpa [aZ] using SeqAt.RcNeAt.none_list ty hu0
  |_=>exact (show False from re).elim
 |bl x=>
  cases rd;cases e with
  |non=>
   cases re;simpa [aZ] using SeqAt.RcNeAt.bool_none x
  |bl y=>
   cases re;simpa [aZ,Bool.beq_eq_decide_eq] using SeqAt.RcNeAt.bool_bool x y
  |int y=>
   obtain ⟨tky,rfl⟩:=re;simpa [aZ,Bool.beq_eq_decide_eq] using SeqAt.RcNeAt.bool_int x y tky
  |str y=>
   obtain ⟨tky,rfl⟩:=re;simpa [aZ] using SeqAt.RcNeAt.bool_str x y tky
  |tup y=>
   obtain ⟨py,itsy,rfl,ty,ry⟩:=re;simpa [aZ] using SeqAt.RcNeAt.bool_tuple x ty hu0
  |lst y=>
   obtain ⟨py,itsy,rfl,ty,ry⟩:=re;simpa [aZ] using SeqAt.RcNeAt.bool_list x ty hu0
  |_=>exact (show False from re).elim
 |int x=>
  obtain ⟨tkx,rfl⟩:=rd;cases e with
  |non=>
   cases re;simpa [aZ] using SeqAt.RcNeAt.int_none x tkx
  |bl y=>
   cases re;simpa [aZ,Bool.beq_eq_decide_eq] using SeqAt.RcNeAt.int_bool x tkx y
  |int y=>
   obtain ⟨tky,rfl⟩:=re;simpa [aZ,Bool.beq_eq_decide_eq] using SeqAt.RcNeAt.int_int x tkx y tky
  |str y=>
   obtain ⟨tky,rfl⟩:=re;simpa [aZ] using SeqAt.RcNeAt.int_str x tkx y tky
  |tup y=>
   obtain ⟨py,itsy,rfl,ty,ry⟩:=re;simpa [aZ] using SeqAt.RcNeAt.int_tuple x tkx ty hu0
  |lst y=>
   obtain ⟨py,itsy,rfl,ty,ry⟩:=re;simpa [aZ] using SeqAt.RcNeAt.int_list x tkx ty hu0
  |_=>exact (show False from re).elim
 |str x=>
  obtain ⟨tkx,rfl⟩:=rd;cases e with
  |non=>
   cases re;simpa [aZ] using SeqAt.RcNeAt.str_none x tkx
  |bl y=>
   cases re;simpa [aZ] using SeqAt.RcNeAt.str_bool x tkx y
  |int y=>
   obtain ⟨tky,rfl⟩:=re;simpa [aZ] using SeqAt.RcNeAt.str_int x tkx y tky
  |str y=>
   obtain ⟨tky,rfl⟩:=re;simpa [aZ,Bool.beq_eq_decide_eq] using SeqAt.RcNeAt.str_str x tkx y tky
  |tup y=>
   obtain ⟨py,itsy,rfl,ty,ry⟩:=re;simpa [aZ] using SeqAt.RcNeAt.str_tuple x tkx ty hu0
  |lst y=>
   obtain ⟨py,itsy,rfl,ty,ry⟩:=re;simpa [aZ] using SeqAt.RcNeAt.str_list x tkx ty hu0
  |_=>exact (show False from re).elim
 |tup x=>
  obtain ⟨px,itsx,rfl,tx,rx⟩:=rd;cases e with
  |non=>
   cases re;simpa [aZ] using SeqAt.RcNeAt.tuple_none tx hu0
  |bl y=>
   cases re;simpa [aZ] using SeqAt.RcNeAt.tuple_bool y tx hu0
  |int y=>
   obtain ⟨tky,rfl⟩:=re;simpa [aZ] using SeqAt.RcNeAt.tuple_int y tky tx hu0
  |str y=>
   obtain ⟨tky,rfl⟩:=re;simpa [aZ] using SeqAt.RcNeAt.tuple_str y tky tx hu0
  |tup y=>
   obtain ⟨py,itsy,rfl,ty,ry⟩:=re;exact vF tx ty rx ry fd fe hu
  |lst y=>
   obtain ⟨py,itsy,rfl,ty,ry⟩:=re;simpa [aZ] using SeqAt.RcNeAt.tuple_list tx ty hu0
  |_=>exact (show False from re).elim
 |lst x=>
  obtain ⟨px,itsx,rfl,tx,rx⟩:=rd;cases e with
  |non=>
   cases re;simpa [aZ] using SeqAt.RcNeAt.list_none tx hu0
  |bl y=>
   cases re;simpa [aZ] using SeqAt.RcNeAt.list_bool y tx hu0
  |int y=>
   obtain ⟨tky,rfl⟩:=re;simpa [aZ] using SeqAt.RcNeAt.list_int y tky tx hu0
  |str y=>
   obtain ⟨tky,rfl⟩:=re;simpa [aZ] using SeqAt.RcNeAt.list_str y tky tx hu0
  |tup y=>
   obtain ⟨py,itsy,rfl,ty,ry⟩:=re;simpa [aZ] using SeqAt.RcNeAt.list_tuple tx ty hu0
  |lst y=>
   obtain ⟨py,itsy,rfl,ty,ry⟩:=re;exact wg tx ty rx ry fd fe hu
  |_=>exact (show False from re).elim
 |_=>exact (show False from rd).elim
section
variable {X:Cx}{B:Bd}{pins:List (Addr×Obj)}{σ:L2.St}{H:Hp}{s:Shared}{M:Mem}
mutual
theorem zS(I:Inv X pins σ H s):∀{n:Nat} {d:D} {v:V} {u:Value},fit n d=true->Rp X.K H d v->RelV v u->Hr s.heap d u
 |_,.non,v,u,_,r,q=>by cases r;exact q
 |_,.bl _,v,u,_,r,q=>by cases r;exact q
 |_,.int _,v,u,_,r,q=>by cases r;exact q
 |_,.str _,v,u,_,r,q=>by cases r;exact q
 |n+1,.tup xs,v,u,f,r,q=>by
  obtain ⟨p,vs,rfl,t,r⟩:=r;cases q;obtain ⟨its,rv,ht,_⟩:=I.tuple t.sq;exact ⟨p,its,rfl,ht,e_ I (n:=n) f r rv⟩
 |n+1,.lst xs,v,u,f,r,q=>by
  obtain ⟨p,vs,rfl,t,r⟩:=r;cases q;obtain ⟨its,rv,ht,_⟩:=I.list t.sq;exact ⟨p,its,rfl,ht.isList,e_ I (n:=n) f r rv⟩
 |0,.tup _,_,_,f,_,_=>by simp [fit] at f
 |0,.lst _,_,_,f,_,_=>by simp [fit] at f
 |_,.ty _,_,_,f,_,_=>by simp [fit] at f
 |_,.ref _,_,_,f,_,_=>by simp [fit] at f
 |_,.mt _,_,_,f,_,_=>by simp [fit] at f
 |_,.ml _,_,_,f,_,_=>by simp [fit] at f
theorem e_(I:Inv X pins σ H s):∀{n:Nat} {ds:List D} {vs:List V} {us:List Value},dH n ds=true->Rps X.K H ds vs->Vals vs us->Hrs s.heap ds us
 |_,[],vs,us,_,r,q=>by cases r;cases q;rfl
 |n,d::ds,vs,us,f,r,q=>by
  obtain ⟨v,r',rfl,a,b⟩:=r;rw [dH,Bool.and_eq_true] at f;cases q with
  |cons q1 q2=>exact ⟨_,_,rfl,zS I f.1 a q1,e_ I f.2 b q2⟩
end
def dv(M:Mem):D->D
 |.ref a=>match M a with
  |some (.lst xs)=>.lst xs
  |_=>.ref a
 |d=>d
theorem k7(I:Inv X pins σ H s){n:Nat}{d:D}{v:V}{u:Value}(rh:RepH X.K H M)(f:fit n (dv M d)=true)(r:Rp X.K H d v)(q:RelV v u):Hr s.heap (dv M d) u:=by
 cases d with
 |ref a=>
  cases r;simp only [dv] at f ⊢
  split at f
  ·rename_i xs e
   obtain ⟨vs,h1,h2⟩:=rh _ _ e;obtain ⟨its,rv,ht,_⟩:=I.list (gA h1);cases q;cases n with
   |zero=>simp [fit] at f
   |succ n=>exact ⟨a,its,rfl,ht.isList,e_ I (n:=n) f h2 rv⟩
  ·simp [fit] at f
 |_=>exact zS I f r q
def dz:fZ:=fun x y M Q=>fit 60 (dv M x)=true/\fit 60 (dv M y)=true/\Q (.bl (aZ (dv M x) (dv M y))) M
def tu:fZ:=fun x y M Q=>fit 60 (dv M x)=true/\fit 60 (dv M y)=true/\Q (.bl (!aZ (dv M x) (dv M y))) M
theorem aX(hu:X.A.units+64<cLine):da X (compareOp .Eq) (liftR2 X dz):=by
 intro pins s σ H x y v u Q I rx ry h;obtain ⟨d1,d2,M,QQ,rh,r1,r2,⟨f1,f2,h⟩,up⟩:=h;exact Di (k7 I rh f1 r1 rx) (k7 I rh f2 r2 ry) f1 f2 (by lia) _ _ _ _ ⟨.bl _,H,I,rfl,up _ M h _ H rh Frm.refl rfl⟩
theorem dU(hu:X.A.units+64<cLine):da X (compareOp .NotEq) (liftR2 X tu):=by
 intro pins s σ H x y v u Q I rx ry h;obtain ⟨d1,d2,M,QQ,rh,r1,r2,⟨f1,f2,h⟩,up⟩:=h;exact yd (k7 I rh f1 r1 rx) (k7 I rh f2 r2 ry) f1 f2 (by lia) _ _ _ _ ⟨.bl _,H,I,rfl,up _ M h _ H rh Frm.refl rfl⟩
open Classical in
noncomputable def on(h:Heap)(x:D)(u:Value):Bool:=if q:∃d,Hr h d u then aZ q.choose x else false
theorem tL{h:Heap}{x d:D}{u:Value}(r:Hr h d u):on h x u=aZ d x:=by
 have q:∃d,Hr h d u:=⟨d,r⟩;unfold on;rw [dif_pos q,u9 q.choose_spec r]
theorem gj{h:Heap}{x:D}:∀{ds:List D} {us:List Value},Hrs h ds us->us.any (on h x)=ds.any fun d=>aZ d x
 |[],_,r=>by cases r;rfl
 |d::ds,_,r=>by
  obtain ⟨v,r',rfl,a,b⟩:=r;rw [List.any_cons,List.any_cons,tL a,gj b]
theorem fR{A:Around}{n:Nat}{x:D}{w:Value}(rx:Hr s.heap x w)(fx:fit n x=true)(hu:A.units+n<cLine):∀{ds:List D} {us:List Value},Hrs s.heap ds us->dH n ds=true->∀u∈us,SeqAt.EqAt A s u w (on s.heap x u)
 |[],_,r,_,u,hu=>by cases r;cases hu
 |d::ds,_,r,f,u,h=>by
  obtain ⟨v,r',rfl,a,b⟩:=r;rw [dH,Bool.and_eq_true] at f;rcases List.mem_cons.mp h with rfl|h
  ·rw [tL a];exact zO n a rx f.1 fx hu
  ·exact fR rx fx hu b f.2 u h
def sw(M:Mem)(x y:D):Option Bool:=match cP M y with
 |some xs=>if fit 60 (dv M x)=true/\dH 60 xs=true then some (xs.any fun d=>aZ d (dv M x)) else none
 |none=>match y with
  |.ref a=>match xU M a x with
   |some o=>some o.isSome
   |none=>none
  |_=>none
def An:fZ:=fun x y M Q=>match sw M x y with
 |some k=>Q (.bl k) M
 |none=>False
def lO:fZ:=fun x y M Q=>match sw M x y with
 |some k=>Q (.bl (!k)) M
 |none=>False
theorem uP(hu:X.A.units+64<cLine):da X (compareOp .In) (liftR2 X An):=by
 intro pins s σ H x y v u Q I rx ry h;obtain ⟨d1,d2,M,QQ,rh,r1,r2,h,up⟩:=h;unfold An at h
 split at h
 ·rename_i k e
  have fin:=up _ M h _ H rh Frm.refl rfl;unfold sw at e
  split at e
  ·rename_i xs ex
   split at e
   ·rename_i f
    cases e;obtain ⟨p,vs,rfl,hq,r⟩:=gi rh r2 ex;cases ry;have hx:=k7 I rh f.1 r1 rx;rcases hq with hq|hq
    ·obtain ⟨its,rv,pl,_⟩:=I.list hq
     have hs:=e_ I f.2 r rv;refine SeqAt.in_listAt (on s.heap (dv M d1)) pl.isList (fun w hw=>fR hx f.1 (by show X.A.units+1+60<cLine;lia) hs f.2 w (by simpa using hw)) ⟨.bl _,H,I,rfl,?_⟩
     rw [show its.toArray.any (on s.heap (dv M d1))=its.any (on s.heap (dv M d1)) by simp,gj hs]
     exact fin
    ·obtain ⟨its,rv,pl,_⟩:=I.tuple hq
     have hs:=e_ I f.2 r rv;refine SeqAt.in_tupleAt (on s.heap (dv M d1)) pl (fun w hw=>fR hx f.1 (by show X.A.units+1+60<cLine;lia) hs f.2 w (by simpa using hw)) ⟨.bl _,H,I,rfl,?_⟩
     rw [show its.toArray.any (on s.heap (dv M d1))=its.any (on s.heap (dv M d1)) by simp,gj hs]
     exact fin
   ·cases e
  ·split at e
   ·split at e
    ·rename_i o eo
     cases e;cases r2;cases ry;rcases lN rh r1 eo with ⟨rfl,g⟩|⟨d,w,rfl,g,_⟩
     ·exact DN (by lia) I g rx fun s' I'=>⟨.bl _,H,I',rfl,fin⟩
     ·exact DN (by lia) I g rx fun s' I'=>⟨.bl _,H,I',rfl,fin⟩
    ·cases e
   ·cases e
 ·exact h.elim
theorem km(hu:X.A.units+64<cLine):da X (compareOp .NotIn) (liftR2 X lO):=by
 intro pins s σ H x y v u Q I rx ry h;obtain ⟨d1,d2,M,QQ,rh,r1,r2,h,up⟩:=h;unfold lO at h
 split at h
 ·rename_i k e
  have fin:=up _ M h _ H rh Frm.refl rfl;unfold sw at e
  split at e
  ·rename_i xs ex
   split at e
   ·rename_i f
    cases e;obtain ⟨p,vs,rfl,hq,r⟩:=gi rh r2 ex;cases ry;have hx:=k7 I rh f.1 r1 rx;rcases hq with hq|hq
    ·obtain ⟨its,rv,pl,_⟩:=I.list hq
     have hs:=e_ I f.2 r rv;refine SeqAt.notIn_listAt (on s.heap (dv M d1)) pl.isList (fun w hw=>fR hx f.1 (by show X.A.units+1+60<cLine;lia) hs f.2 w (by simpa using hw)) ⟨.bl _,H,I,rfl,?_⟩
     rw [show its.toArray.any (on s.heap (dv M d1))=its.any (on s.heap (dv M d1)) by simp,gj hs]
     exact fin
    ·obtain ⟨its,rv,pl,_⟩:=I.tuple hq
     have hs:=e_ I f.2 r rv;refine SeqAt.notIn_tupleAt (on s.heap (dv M d1)) pl (fun w hw=>fR hx f.1 (by show X.A.units+1+60<cLine;lia) hs f.2 w (by simpa using hw)) ⟨.bl _,H,I,rfl,?_⟩
     rw [show its.toArray.any (on s.heap (dv M d1))=its.any (on s.heap (dv M d1)) by simp,gj hs]
     exact fin
   ·cases e
  ·split at e
   ·split at e
    ·rename_i o eo
     cases e;cases r2;cases ry;rcases lN rh r1 eo with ⟨rfl,g⟩|⟨d,w,rfl,g,_⟩
     ·exact pY (by lia) I g rx fun s' I'=>⟨.bl _,H,I',rfl,fin⟩
     ·exact pY (by lia) I g rx fun s' I'=>⟨.bl _,H,I',rfl,fin⟩
    ·cases e
   ·cases e
 ·exact h.elim
end
end L3
namespace L3
open PySem L2
structure DEnds where
 nx:Dl->Mem->Prop
 rt:DK
 bk:Dl->Mem->Prop:=fun _ _=>False
 ct:Dl->Mem->Prop:=fun _ _=>False
abbrev aC:=DEnds->Dl->Mem->Prop
def UpN(X:Cx)(B:Bd)(M:Mem)(H:Hp)(QQ:Dl->Mem->Prop)(Q:L2.St->Hp->Prop):Prop:=∀δ M',QQ δ M'->∀σ H',Frm M H M' H'->SR X B δ M' σ H'->Q σ H'
theorem UpN.go{X:Cx}{B:Bd}{M M1:Mem}{H H1:Hp}{QQ:Dl->Mem->Prop}{Q:L2.St->Hp->Prop}(u:UpN X B M H QQ Q)(i:Frm M H M1 H1):UpN X B M1 H1 QQ Q:=fun δ M q σ H' a b=>u δ M q σ H' (i.trans a) b
structure UpD(X:Cx)(B:Bd)(M:Mem)(H:Hp)(DD:DEnds)(D:Ends):Prop where
 nx:UpN X B M H DD.nx D.nx
 rt:Up X.K M H DD.rt D.rt
 bk:UpN X B M H DD.bk D.bk
 ct:UpN X B M H DD.ct D.ct
theorem UpD.go{X:Cx}{B:Bd}{M M1:Mem}{H H1:Hp}{DD:DEnds}{D:Ends}(u:UpD X B M H DD D)(i:Frm M H M1 H1):UpD X B M1 H1 DD D:=⟨u.nx.go i,u.rt.go i,u.bk.go i,u.ct.go i⟩
inductive liftS(X:Cx)(B:Bd)(T:aC)(D:Ends)(σ:St)(H:Hp):Prop
 |mk (δ:Dl) (M:Mem) (DD:DEnds) (s:SR X B δ M σ H) (h:T DD δ M) (u:UpD X B M H DD D):liftS X B T D σ H
def DS(X:Cx)(B:Bd)(st:Stmt)(T:aC):Prop:=PS X st (liftS X B T)
def wy(X:Cx)(B:Bd)(st:List Stmt)(T:aC):Prop:=pM X st (liftS X B T)
section
variable {X:Cx}{B:Bd}{st:Stmt}{rest:List Stmt}{t u:aC}{e:Expr}{te:bM}{pos:Pos}
def bj:aC:=fun D δ M=>D.nx δ M
def aw(t u:aC):aC:=fun D δ M=>t { D with nx:=u D } δ M
theorem aP:wy X B [] bj:=jb xX fun D σ H ⟨δ,M,DD,s,h,up⟩=>up.nx δ M h σ H Frm.refl s
theorem af(h1:DS X B st t)(h2:wy X B rest u):wy X B (st::rest) (aw t u):=by
 refine jb (uH h1 h2) ?_
 rintro D σ H ⟨δ,M,DD,s,h,up⟩
 exact ⟨δ,M,{ DD with nx:=u DD },s,h,⟨fun δ' M' q σ' H' i s'=>⟨δ',M',DD,s',q,up.go i⟩,up.rt,up.bk,up.ct⟩⟩
theorem am(h1:DS X B st t):wy X B [st] t:=zc h1
def ci(te:bM):aC:=fun D δ M=>te δ M fun _ M1=>D.nx δ M1
theorem bQ(he:DE X B e te)(hs:swapsWith e none pos.line X.env=pure false:=by rfl):DS X B (.Expr e pos) (ci te):=by
 refine ck (xB he hs) ?_
 rintro D σ H ⟨δ,M,DD,s,h,up⟩
 exact ⟨δ,M,_,s,h,fun d M' q v H' rh i r=>up.nx δ M' q σ H' i (s.go rh i)⟩
def a_(te:bM):aC:=fun D δ M=>te δ M D.rt
theorem aD(he:DE X B e te):DS X B (.Return (some e) pos) (a_ te):=by
 refine ck (A1 he) ?_
 rintro D σ H ⟨δ,M,DD,s,h,up⟩
 exact ⟨δ,M,_,s,h,up.rt⟩
def bw(c:eI)(t u:aC):aC:=fun D δ M=>c δ M fun b M1=>if b=true then t D δ M1 else u D δ M1
theorem bf{c:Expr}{a b:List Stmt}{tc:eI}(hc:DT X B c tc)(ha:wy X B a t)(hb:wy X B b u):DS X B (.If c a b pos) (bw tc t u):=by
 refine ck (Ct hc ha hb) ?_
 rintro D σ H ⟨δ,M,DD,s,h,up⟩
 refine ⟨δ,M,_,s,h,fun c M' q H' rh i=>?_⟩;cases c with
 |true=>rw [if_pos rfl] at q ⊢;exact ⟨δ,M',DD,s.go rh i,q,up.go i⟩
 |false=>rw [if_neg Bool.false_ne_true] at q ⊢;exact ⟨δ,M',DD,s.go rh i,q,up.go i⟩
abbrev ic:=D->Dl->Mem->(Dl->Mem->Prop)->Prop
abbrev jI:=List D->Dl->Mem->(Dl->Mem->Prop)->Prop
inductive liftG(X:Cx)(B:Bd)(g:ic)(v:V)(σ:St)(H:Hp)(Q:St->Hp->Prop):Prop
 |mk (d:L3.D) (δ:Dl) (M:Mem) (QQ:Dl->Mem->Prop) (s:SR X B δ M σ H) (r:Rp X.K H d v) (h:g d δ M QQ) (u:UpN X B M H QQ Q):liftG X B g v σ H Q
inductive liftGs(X:Cx)(B:Bd)(g:jI)(vs:List V)(σ:St)(H:Hp)(Q:St->Hp->Prop):Prop
 |mk (ds:List L3.D) (δ:Dl) (M:Mem) (QQ:Dl->Mem->Prop) (s:SR X B δ M σ H) (r:Rps X.K H ds vs) (h:g ds δ M QQ) (u:UpN X B M H QQ Q):liftGs X B g vs σ H Q
def DG(X:Cx)(B:Bd)(tg:Expr)(g:ic):Prop:=PG X tg (liftG X B g)
def Ej(X:Cx)(B:Bd)(tgs:List Expr)(g:jI):Prop:=A3 X tgs (liftGs X B g)
theorem hW{tg:Expr}{t t':TG}(h:PG X tg t)(w:∀v σ H Q,t' v σ H Q->t v σ H Q):PG X tg t':=fun pins s σ H v u Q I r q=>h pins s σ H v u Q I r (w v σ H Q q)
theorem nS{tg:List Expr}{t t':zL}(h:A3 X tg t)(w:∀v σ H Q,t' v σ H Q->t v σ H Q):A3 X tg t':=fun pins s σ H v u Q I r q=>h pins s σ H v u Q I r (w v σ H Q q)
theorem SR.set{δ:Dl}{M:Mem}{σ:L2.St}{H:Hp}{i:Nat}{d:D}{v:V}(s:SR X B δ M σ H)(r:Rp X.K H d v):SR X B (δ.set i (some d)) M (σ.set i (some v)) H:=⟨s.i0,s.rh,s.rs.set r⟩
def hName(i:Nat):ic:=fun d δ M Q=>Q (δ.set i (some d)) M
theorem aI{i:Nat}{x:Str}(hN:X.N.Nodup)(hi:X.N[i]?=some x)(hx:wC X.env.scope x)(hf:X.fn x=true\/X.env.scope.names.lookup x=some .local:=by first|exact .inl rfl|exact .inr rfl|assumption):DG X B (.Name x pos) (hName i):=by
 refine hW (yn hN hi hx hf) ?_
 rintro v σ H Q ⟨d,δ,M,QQ,s,r,h,u⟩
 exact u _ M h _ H Frm.refl (s.set r)
def ft:jI:=fun ds δ M Q=>match ds with
 |[]=>Q δ M
 |_=>False
def bB(t:ic)(u:jI):jI:=fun ds δ M Q=>match ds with
 |d::r=>t d δ M fun δ' M'=>u r δ' M' Q
 |[]=>False
theorem cT:Ej X B [] ft:=by
 refine nS yA ?_
 rintro v σ H Q ⟨ds,δ,M,QQ,s,r,h,u⟩
 cases ds with
 |nil=>exact ⟨r,u δ M h σ H Frm.refl s⟩
 |cons _ _=>exact (show False from h).elim
theorem b0{e:Expr}{es:List Expr}{t:ic}{u:jI}(h1:DG X B e t)(h2:Ej X B es u)
  (hs:(assignEach (e::es) X.env).map (·.2)=assign e X.env::(assignEach es X.env).map (·.2):=by rfl):Ej X B (e::es) (bB t u):=by
 refine nS (uS h1 h2 hs) ?_
 rintro v σ H Q ⟨ds,δ,M,QQ,s,r,h,up⟩
 cases ds with
 |nil=>exact (show False from h).elim
 |cons d ds=>
  obtain ⟨v1,vr,rfl,r1,r2⟩:=r;refine ⟨v1,vr,rfl,d,δ,M,_,s,r1,h,fun δ' M' q σ' H' i s'=>?_⟩;exact ⟨ds,δ',M',QQ,s',r2.mf s.rh i,q,up.go i⟩
def gn(n:Nat)(t:jI):ic:=fun d δ M Q=>match d with
 |.tup xs=>xs.length=n/\t xs δ M Q
 |_=>False
theorem gw{es:List Expr}{k:Nat}{t:jI}{n:Nat}(hc:X.calm=true)(h:Ej X B es t)
  (hn:(assignEach es X.env).length=n:=by rfl) (hst:(assignEach es X.env).findIdx? (·.1)=none:=by rfl):DG X B (.Tuple es k pos) (gn n t):=by
 refine hW (AI hc h hn hst) ?_
 rintro v σ H Q ⟨d,δ,M,QQ,s,r,h,up⟩
 cases d with
 |tup xs=>
  obtain ⟨p,vs,rfl,ht,r⟩:=r;exact ⟨p,vs,rfl,ht.sq,by rw [<- r.length];exact h.1,xs,δ,M,QQ,s,r,h.2,up⟩
 |_=>exact (show False from h).elim
def aF(te:bM)(g:ic):aC:=fun D δ M=>te δ M fun x M1=>g x δ M1 D.nx
theorem bU{tg e:Expr}{te:bM}{g:ic}(he:DE X B e te)(hg:DG X B tg g)(hs:swapsWithSole [tg] e pos.line X.env=pure false:=by rfl)(hw:swappedStores [tg] e X.env=pure none:=by rfl)
  (h1:(assignEach [tg] X.env).map (·.2)=[assign tg X.env]:=by rfl):DS X B (.Assign [tg] e pos) (aF te g):=by
 refine ck (BL he hg hs hw h1) ?_
 rintro D σ H ⟨δ,M,DD,s,h,up⟩
 refine ⟨δ,M,_,s,h,fun d M' q v H' rh i r=>?_⟩;exact ⟨d,δ,M',DD.nx,s.go rh i,r,q,up.nx.go i⟩
theorem au{i:Nat}{x:Str}{e:Expr}{te:bM}{pos':Pos}(hN:X.N.Nodup)(hi:X.N[i]?=some x)(hx:wC X.env.scope x)(he:DE X B e te)(hs:swapsWith e (some (.Name x pos')) pos.line X.env=pure false:=by rfl)(hf:X.fn x=true\/X.env.scope.names.lookup x=some .local:=by first|exact .inl rfl|exact .inr rfl|assumption):
  DS X B (.Assign [.Name x pos'] e pos) (aF te (hName i)):=by
 refine ck (Bi hN hi hx he hs hf) ?_
 rintro D σ H ⟨δ,M,DD,s,h,up⟩
 refine ⟨δ,M,_,s,h,fun d M' q v H' rh i r=>?_⟩;exact up.nx _ M' q _ H' i ((s.go rh i).set r)
def wP(i:Nat)(te:bM)(r:fZ):aC:=fun D δ M=>match δ[i]? with
 |some (some x)=>te δ M fun y M1=>r x y M1 fun z M2=>D.nx (δ.set i (some z)) M2
 |_=>False
theorem BB{i:Nat}{x:Str}{e:Expr}{te:bM}{op:Operator}{r:fZ}{pos':Pos}(hN:X.N.Nodup)(hi:X.N[i]?=some x)(hx:wC X.env.scope x)(he:DE X B e te)(ho:Cp X op (liftR2 X r))(hf:X.fn x=true\/X.env.scope.names.lookup x=some .local:=by first|exact .inl rfl|exact .inr rfl|assumption):
  DS X B (.AugAssign (.Name x pos') op e pos) (wP i te r):=by
 refine ck (AY hN hi hx he ho hf) ?_
 rintro D σ H ⟨δ,M,DD,s,h,up⟩
 unfold wP at h
 split at h
 ·rename_i x' ex
  obtain ⟨v,hv,rv⟩:=s.rs.get i x' ex;refine ⟨v,hv,δ,M,_,s,h,fun y M1 h1 w H1 rh1 i1 r1=>?_⟩;refine ⟨x',y,M1,_,rh1,rv.mf s.rh i1,r1,h1,fun z M2 h2 w2 H2 rh2 i2 r2=>?_⟩;exact up.nx _ M2 h2 _ H2 (i1.trans i2) ((s.go rh2 (i1.trans i2)).set r2)
 ·exact h.elim
theorem CF{op:Operator}{g:Int->Int->Int}(h:Cp X op (ipI g)):Cp X op (liftR2 X (yY fun i j=>.int (g i j))):=by
 intro pins s σ H x y v u Q I rx ry hq;obtain ⟨d1,d2,M,QQ,rh,r1,r2,hq,up⟩:=hq;unfold yY at hq
 split at hq
 ·cases r1;cases r2
  exact h pins s σ H _ _ v u Q I rx ry ⟨_,_,rfl,rfl,up _ M hq _ H rh Frm.refl rfl⟩
 ·exact hq.elim
abbrev uV:fZ:=yY fun i j=>.int (i+j)
theorem xn:Cp X .Add (liftR2 X uV):=CF BS
def At(o i v:D)(M:Mem)(Q:Mem->Prop):Prop:=match o with
 |.ref a=>match M a,i with
  |some (.lst xs),.int k=>match pJ xs.length k with
   |some j=>Q (M.upd a (.lst (xs.set j v)))
   |none=>False
  |some (.dK kvs),y=>match gG y with
   |some k=>kvs.length<sizeLine/\Q (M.upd a (.dK (cJ kvs k v)))
   |none=>False
  |some (.dT kvs),y=>match BX y with
   |some k=>kvs.length<sizeLine/\Q (M.upd a (.dT (cJ kvs k v)))
   |none=>False
  |_,_=>False
 |_=>False
inductive liftSet(X:Cx)(o i v:V)(H:Hp)(Q:Hp->Prop):Prop
 |mk (d1 d2 d3:L3.D) (M:Mem) (QQ:Mem->Prop) (rh:RepH X.K H M) (r1:Rp X.K H d1 o) (r2:Rp X.K H d2 i) (r3:Rp X.K H d3 v) (h:At d1 d2 d3 M QQ) (u:∀M',QQ M'->∀H',RepH X.K H' M'->Frm M H M' H'->Q H'):liftSet X o i v H Q
theorem zr(hu:X.A.units+1<cLine):Ae X (liftSet X):=by
 intro pins s σ H o i v ov iv u Q I ro ri rv h;obtain ⟨d1,d2,d3,M,QQ,rh,r1,r2,r3,h,up⟩:=h;unfold At at h
 split at h
 ·rename_i a
  cases r1;cases ro
  split at h
  ·rename_i xs k hM
   cases r2;obtain ⟨vs,h1,h2⟩:=rh _ _ hM
   split at h
   ·rename_i j ej
    refine vk pins s σ H (.ref a) _ v _ iv u Q I rfl ri rv ⟨a,vs,k,j,rfl,rfl,h1,by rw [<- h2.length];exact ej,?_⟩
    have i2:Imm H (upd H a (.lst (vs.set j v))):=Imm.upd (by rw [h1];trivial)
    exact up _ h _ (rh.put (by rw [h1];trivial) ⟨_,upd_same,(h2.set r3 j).mono i2⟩) (Frm.put (.inr ⟨_,hM⟩))
   ·exact h.elim
  ·rename_i kvs hM
   obtain ⟨ws,h1,h2⟩:=rh _ _ hM
   split at h
   ·rename_i k ek
    have ev:=kU r2 ek;subst ev;have i2:Imm H (upd H a (.dK (cE ws k v))):=Imm.upd (by rw [h1];trivial)
    refine kb hu I (Cm h1 (by rw [<- h2.length];exact h.1)) ri rv fun s' I'=>⟨_,I',?_⟩
    exact up _ h.2 _ (rh.put (by rw [h1];trivial) ⟨_,upd_same,(h2.put k r3).mono i2⟩) (Frm.put (.inr ⟨_,hM⟩))
   ·exact h.elim
  ·rename_i kvs hM
   obtain ⟨ws,h1,h2⟩:=rh _ _ hM
   split at h
   ·rename_i k ek
    obtain ⟨b,rfl,hb⟩:=nJ r2 ek;have i2:Imm H (upd H a (.dT (cE ws k v))):=Imm.upd (by rw [h1];trivial)
    refine kb hu I (DPut.t h1 hb (by rw [<- h2.length];exact h.1)) ri rv fun s' I'=>⟨_,I',?_⟩
    exact up _ h.2 _ (rh.put (by rw [h1];trivial) ⟨_,upd_same,(h2.put k r3).mono i2⟩) (Frm.put (.inr ⟨_,hM⟩))
   ·exact h.elim
  ·exact h.elim
 ·exact h.elim
def fG(to ti:bM):ic:=fun v δ M Q=>to δ M fun o M1=>ti δ M1 fun i M2=>At o i v M2 fun M3=>Q δ M3
theorem cD{o i:Expr}{to ti:bM}(hu:X.A.units+1<cLine)(ho:DE X B o to)(hi:DE X B i ti)
  (ha:∀v,assign (.Subscript o i pos) X.env v=(do
   let ov <- holding [v] (eval o X.env)
   let iv <- holding [v,ov] (eval i X.env)
   standAt pos
   holding [v,ov,iv] (setItem ov iv v)
   release [v,ov,iv] []):=by intro _;rfl):DG X B (.Subscript o i pos) (fG to ti):=by
 refine hW (B5 ho hi (zr hu) ha) ?_
 rintro v σ H Q ⟨d,δ,M,QQ,s,r,h,up⟩
 refine ⟨δ,M,_,s,h,fun x M1 h1 v1 H1 rh1 i1 r1=>?_⟩;refine ⟨δ,M1,_,s.go rh1 i1,h1,fun y M2 h2 v2 H2 rh2 i2 r2=>?_⟩;exact ⟨x,y,d,M2,_,rh2,r1.mf rh1 i2,r2,r.mf s.rh (i1.trans i2),h2,fun M3 h3 H3 rh3 i3=>up δ M3 h3 σ H3 ((i1.trans i2).trans i3) (s.go rh3 ((i1.trans i2).trans i3))⟩
end
end L3
namespace L3
open PySem L2
section
variable {X:Cx}{B:Bd}{o e value:Expr}{f:Str}{pos pos' tpos:Pos}{ta tv te:bM}{C:Addr}
def dQ(f:Str)(v:D):List (Str×D)->List (Str×D)
 |[]=>[(f,v)]
 |(g,w)::r=>if g=f then (g,v)::r else (g,w)::dQ f v r
theorem Rkv.lookup{K:W.Frag}{H:Hp}{fs:List (Str×D)}{ws:List (Str×V)}(h:Rkv K H fs ws)(f:Str):(fs.lookup f=none/\ws.lookup f=none)\/∃d v,fs.lookup f=some d/\ws.lookup f=some v/\Rp K H d v:=by
 induction h with
 |nil=>exact .inl ⟨rfl,rfl⟩
 |@cons p q ps qs r t ih=>
  obtain ⟨k1,d⟩:=p;obtain ⟨k2,v⟩:=q;obtain ⟨e,r⟩:=r;dsimp only at e r;subst e;rw [List.lookup_cons,List.lookup_cons];cases hk:f==k1 with
  |true=>exact .inr ⟨d,v,rfl,rfl,r⟩
  |false=>exact ih
theorem yT(f:Str)(v:V):∀ws:List (Str×V),di f v ws=(match ws with|[]=>[(f,v)]|(g,w)::r=>if g=f then (g,v)::r else (g,w)::di f v r)
 |[]=>rfl
 |(g,w)::r=>by rw [di]
theorem og{K:W.Frag}{H:Hp}{f:Str}{d:D}{v:V}(rd:Rp K H d v):∀{fs:List (Str×D)} {ws:List (Str×V)},Rkv K H fs ws->Rkv K H (dQ f d fs) (L2.di f v ws)
 |_,_,.nil=>.cons ⟨rfl,rd⟩ .nil
 |(k1,d1)::fs,(k2,v1)::ws,.cons r t=>by
  obtain ⟨e,r⟩:=r;dsimp only at e r;subst e;rw [yT];show Rkv K H (if k1=f then (k1,d)::fs else (k1,d1)::dQ f d fs) (if k1=f then (k1,v)::ws else (k1,v1)::L2.di f v ws)
  split
  ·exact .cons ⟨rfl,rd⟩ t
  ·exact .cons ⟨rfl,r⟩ (og rd t)
def dL(C:Addr)(ta:bM)(f:Str):bM:=fun δ M Q=>ta δ M fun x M1=>match x with
 |.ref a=>match M1 a with
  |some (.ins C' fs)=>C'=C/\match fs.lookup f with
   |some d=>Q d M1
   |none=>False
  |_=>False
 |_=>False
theorem bZ(c:Cls X.K C)(n:NoAttr X.K C f)(he:DE X B e ta)(hb:attributeBase e f X.env (eval e X.env)=eval e X.env:=by rfl):DE X B (.Attribute e f pos) (dL C ta f):=by
 refine bg (Ba he hb) ?_
 rintro σ H Q ⟨δ,M,QQ,s,h,u⟩
 refine ⟨δ,M,_,s,h,fun x M1 h1 v1 H1 rh1 i1 r1=>?_⟩
 split at h1
 ·rename_i a
  cases r1
  split at h1
  ·rename_i C' fs hM
   obtain ⟨rfl,h1⟩:=h1;obtain ⟨dx,ws,e1,e2⟩:=rh1 _ _ hM
   split at h1
   ·rename_i d ed
    rcases e2.lookup f with ⟨z,_⟩|⟨d',v,z1,z2,z3⟩
    ·rw [ed] at z;cases z
    ·rw [ed] at z1;cases z1
     exact ⟨a,_,dx,ws,v,rfl,e1,c,n,z2,u _ M1 h1 _ H1 rh1 i1 z3⟩
   ·exact h1.elim
  ·exact h1.elim
 ·exact h1.elim
def f_(C:Addr)(ta tv:bM)(f:Str):aC:=fun D δ M=>tv δ M fun y M1=>ta δ M1 fun x M2=>match x with
 |.ref a=>match M2 a with
  |some (.ins C' fs)=>C'=C/\fs.length<1000/\D.nx δ (M2.upd a (.ins C (dQ f y fs)))
  |_=>False
 |_=>False
theorem eP(c:Cls X.K C)(n:NoAttr X.K C f)(ha:DE X B o ta)(hv:DE X B value tv)(hs:swapsWith value (some (.Attribute o f pos')) pos.line X.env=pure false:=by rfl):DS X B (.Assign [.Attribute o f pos'] value pos) (f_ C ta tv f):=by
 refine ck (BQ ha hv hs) ?_
 rintro D σ H ⟨δ,M,DD,s,h,up⟩
 refine ⟨δ,M,_,s,h,fun y M1 h1 v1 H1 rh1 i1 r1=>?_⟩;refine ⟨δ,M1,_,s.go rh1 i1,h1,fun x M2 h2 v2 H2 rh2 i2 r2=>?_⟩
 split at h2
 ·rename_i a
  cases r2
  split at h2
  ·rename_i C' fs hM
   obtain ⟨rfl,hl,h2⟩:=h2;obtain ⟨dx,ws,e1,e2⟩:=rh2 _ _ hM;have i3:Frm M2 H2 (M2.upd a (.ins C' (dQ f y fs))) (upd H2 a (.ins C' dx (L2.di f v1 ws))):=Frm.put (.inr ⟨_,hM⟩);refine ⟨a,C',dx,ws,rfl,e1,c,n,by rw [<- e2.length];exact hl,up.nx _ _ h2 σ _ ((i1.trans i2).trans i3) (s.go (rh2.put (by rw [e1];trivial) ⟨dx,_,upd_same,?_⟩) ((i1.trans i2).trans i3))⟩
   exact (og (r1.mf rh1 i2) e2).mono (i3.imm rh2)
  ·exact h2.elim
 ·exact h2.elim
structure BxW(c:eI)(tb:aC)(D:DEnds):Type
structure BxF(g:ic)(tb:aC)(D:DEnds)(ok:Mem->Prop):Type
def whileD(c:eI)(tb:aC)(D:DEnds)(bx:BxW c tb D):Nat->Dl->Mem->Prop
 |0,_,_=>False
 |n+1,δ,M=>c δ M fun b M1=>if b=true then tb { D with nx:=whileD c tb D bx n,ct:=whileD c tb D bx n,bk:=D.nx } δ M1 else D.nx δ M1
def dWhile(c:eI)(tb:aC):aC:=fun D δ M=>∃n,whileD c tb D ⟨⟩ n δ M
theorem n_{c:Expr}{body:List Stmt}{tc:eI}{tb:aC}(hp:PassesOwn (model X.prog X.w) X.A X.env X.xe)(hc:DT X B c tc)(hb:wy X B body tb):DS X B (.While c body [] pos) (dWhile tc tb):=by
 refine ck (u4 hp hc hb) ?_
 rintro D σ H ⟨δ,M,DD,s,⟨n,h⟩,up⟩
 refine ⟨fun m σ' H'=>∃δ' M',SR X B δ' M' σ' H'/\Frm M H M' H'/\whileD tc tb DD ⟨⟩ m δ' M',⟨n,δ,M,s,Frm.refl,h⟩,?_⟩
 rintro m σ1 H1 ⟨δ1,M1,s1,i1,h1⟩
 cases m with
 |zero=>exact (show False from h1).elim
 |succ m=>
  refine ⟨δ1,M1,_,s1,h1,fun b M2 q H2 rh2 i2=>?_⟩;cases b with
  |false=>rw [if_neg Bool.false_ne_true] at q ⊢;exact up.nx _ _ q σ1 H2 (i1.trans i2) (s1.go rh2 i2)
  |true=>
   rw [if_pos rfl] at q ⊢;refine ⟨fun σ' H'=>∃δ' M',SR X B δ' M' σ' H'/\Frm M H M' H'/\whileD tc tb DD ⟨⟩ m δ' M',fun σ' H' z=>⟨m,Nat.lt_succ_self _,z⟩,?_⟩;refine ⟨δ1,M2,_,s1.go rh2 i2,q,⟨?_,(up.go (i1.trans i2)).rt,(up.go (i1.trans i2)).nx,?_⟩⟩
   ·exact fun δ3 M3 q3 σ3 H3 i3 s3=>⟨δ3,M3,s3,(i1.trans i2).trans i3,q3⟩
   ·exact fun δ3 M3 q3 σ3 H3 i3 s3=>⟨δ3,M3,s3,(i1.trans i2).trans i3,q3⟩
structure DIt where
 items:List D
 src:List (Addr×List D)
def DIt.ok(I:DIt)(M:Mem):Prop:=∀p∈I.src,M p.1=some (.lst p.2)
abbrev tw:=Dl->Mem->(DIt->Mem->Prop)->Prop
def C_(K:W.Frag)(H0:Hp)(it:DIt)(J:It):Prop:=∀(i:Nat) (H:Hp) (M:Mem),Imm H0 H->RepH K H M->it.ok M->
 (∀d,it.items[i]?=some d->J.go i H/\∀x H',J.yld i H x H'->Frm M H M H'/\RepH K H' M/\Rp K H' d x)/\(it.items.length<=i->J.stop i H)
inductive liftI(X:Cx)(B:Bd)(T:tw)(σ:St)(H:Hp)(R:It->Hp->Prop):Prop
 |mk (δ:Dl) (M:Mem) (RR:DIt->Mem->Prop) (s:SR X B δ M σ H) (h:T δ M RR) (u:∀it M',RR it M'->∀J H',RepH X.K H' M'->Frm M H M' H'->C_ X.K H' it J->R J H'):liftI X B T σ H R
def DI(X:Cx)(B:Bd)(tg iter:Expr)(T:tw):Prop:=PI X tg iter (liftI X B T)
theorem iF{tg iter:Expr}{t t':TI}(h:PI X tg iter t)(w:∀σ H Q,t' σ H Q->t σ H Q):PI X tg iter t':=fun pins s σ H Q I q=>h pins s σ H Q I (w σ H Q q)
def oV(g:ic)(tb:aC)(DD:DEnds)(ok:Mem->Prop)(b:BxF g tb DD ok):List D->Dl->Mem->Prop
 |[],δ,M=>ok M/\DD.nx δ M
 |x::xs,δ,M=>ok M/\g x δ M fun δ2 M2=>tb { DD with nx:=oV g tb DD ok b xs,ct:=oV g tb DD ok b xs,bk:=DD.nx } δ2 M2
def dFor(wi:tw)(g:ic)(tb:aC):aC:=fun D δ M=>wi δ M fun it M1=>oV g tb D it.ok ⟨⟩ it.items δ M1
theorem z9{g:ic}{tb:aC}{DD:DEnds}{ok:Mem->Prop}{b:BxF g tb DD ok}{xs:List D}{δ:Dl}{M:Mem}(h:oV g tb DD ok b xs δ M):ok M:=by
 cases xs with
 |nil=>exact h.1
 |cons _ _=>exact h.1
theorem cN{tg iter:Expr}{body:List Stmt}{wi:tw}{g:ic}{tb:aC}(hp:PassesOwn (model X.prog X.w) X.A X.env X.xe)(hc:X.calm=true)(hi:DI X B tg iter wi)(hg:DG X B tg g)(hb:wy X B body tb)
  (hs:∀x,foldedSetIterable iter X.env x=pure x:=by intro _;rfl):DS X B (.For tg iter body [] pos) (dFor wi g tb):=by
 refine ck (Cd hp hc hi hg hb hs) ?_
 rintro D σ H ⟨δ,M,DD,s,h,up⟩
 refine ⟨δ,M,_,s,h,fun it M1 h1 J H1 rh1 i1 hJ=>?_⟩;refine ⟨fun i m σ' H'=>m=it.items.length-i/\i<=it.items.length/\∃δ' M',SR X B δ' M' σ' H'/\Frm M1 H1 M' H'/\oV g tb DD it.ok ⟨⟩ (it.items.drop i) δ' M',⟨_,rfl,Nat.zero_le _,δ,M1,s.go rh1 i1,Frm.refl,h1⟩,?_⟩
 rintro i m σ2 H2 ⟨rfl,hi',δ2,M2,s2,i2,h2⟩
 have hok:=z9 h2;obtain ⟨hgo,hstop⟩:=hJ i H2 M2 (i2.imm rh1) s2.rh hok
 by_cases hlt:i<it.items.length
 ·rw [List.drop_eq_getElem_cons hlt] at h2
  obtain ⟨go,hy⟩:=hgo _ (List.getElem?_eq_getElem hlt);refine .inr ⟨go,fun σ' H'=>∃δ' M',SR X B δ' M' σ' H'/\Frm M1 H1 M' H'/\oV g tb DD it.ok ⟨⟩ (it.items.drop (i+1)) δ' M',fun σ' H' z=>⟨it.items.length-(i+1),by omega,rfl,hlt,z⟩,fun x H3 hx=>?_⟩
  obtain ⟨i3,rh3,rx⟩:=hy x H3 hx;refine ⟨_,δ2,M2,_,s2.go rh3 i3,rx,h2.2,fun δ4 M4 h4 σ4 H4 i4 s4=>?_⟩;have i14:=(i2.trans i3).trans i4;refine ⟨δ4,M4,_,s4,h4,⟨?_,(up.go (i1.trans i14)).rt,(up.go (i1.trans i14)).nx,?_⟩⟩
  ·exact fun δ5 M5 q5 σ5 H5 i5 s5=>⟨δ5,M5,s5,i14.trans i5,q5⟩
  ·exact fun δ5 M5 q5 σ5 H5 i5 s5=>⟨δ5,M5,s5,i14.trans i5,q5⟩
 ·rw [List.drop_eq_nil_of_le (by omega)] at h2
  exact .inl ⟨hstop (by omega),up.nx _ _ h2.2 σ2 H2 (i1.trans i2) s2⟩
end
end L3
namespace L2
open PySem PySem.Spec PyProof.Rows
section
variable {X:Cx}{B:Bd}{tg:Expr}
def Dw(K:W.Frag)(tl:TE):TI:=fun σ H R=>tl σ H fun x H1=>∃a b xs,x=.ref a/\kx K b H1 a xs/\R (if b=true then Itl K a else Itt K a) H1
theorem xo{l:Expr}{tl:TE}(hl:PE X l tl):PI X tg l (Dw X.K tl):=by
 intro pins s σ H R I h;refine thn (hl pins s σ H _ I h) fun v s1 ⟨x,H1,I1,r1,q1⟩=>?_;obtain ⟨a,b,xs,e,hq,q⟩:=q1;subst e;cases r1;cases b with
 |true=>
  obtain ⟨its,rv,p,hz⟩:=I1.list (show SqL X.K H1 a xs from hq);refine wpAny_pyIter_list p.isList ?_;refine ⟨s1.heap.objs.size,[s1.heap.objs.size],_,_,H1,rfl,I1.kept (t':=s1.toks) fun b o e=>Heap.get?_push_of_some _ e,sf a _,⟨_,Heap.get?_push_size _ rfl,rfl,rfl⟩,fun b hb=>?_,q⟩;have e:b=s1.heap.objs.size:=by simpa using hb
  subst e;exact I1.fpOk (Nat.le_refl _) (I1.hok.fresh (Nat.le_refl _))
 |false=>
  obtain ⟨its,rv,p,hz⟩:=I1.tuple (show gz X.K H1 a xs from hq);refine wpAny_pyIter_tuple (show s1.heap.IsTuple a its.toArray from p) ?_;refine ⟨s1.heap.objs.size,[s1.heap.objs.size],_,_,H1,rfl,I1.kept (t':=s1.toks) fun b o e=>Heap.get?_push_of_some _ e,pi a _,⟨_,Heap.get?_push_size _ rfl,rfl,rfl⟩,fun b hb=>?_,q⟩;have e:b=s1.heap.objs.size:=by simpa using hb
  subst e;exact I1.fpOk (Nat.le_refl _) (I1.hok.fresh (Nat.le_refl _))
def DM(K:W.Frag)(t:TA):TI:=fun σ H R=>t σ H fun vs H1=>∃b1 b2 l1 l2 xs ys,vs=[.ref l1,.ref l2]/\kx K b1 H1 l1 xs/\kx K b2 H1 l2 ys/\R (Itz K b1 b2 l1 l2) H1
theorem yy{a b:Expr}{elts:List Expr}{x1:Nat}{tp:Pos}{ta:TA}{p pos:Pos}(hg:Gl X "zip")(hm:X.mg "zip"=none)(ha:PA X [a,b] ta)
  (hs:starEach [a,b] X.env=[(false,eval a X.env),(false,eval b X.env)]:=by rfl) (hs2:starEach [b] X.env=[(false,eval b X.env)]:=by rfl):
  PI X (.Tuple elts x1 tp) (.Call (.Name "zip" p) [a,b] [] pos) (DM X.K ta):=by
 intro pins s σ H R I h;refine Call_ (ld_blt I hg hm (by decide +kernel:bootBuiltins "zip"=some (.type "zip")) (PyProof.Rows.callWith_type1 (thn (ha pos pins s σ H _ I h) fun us s1 ⟨vs,H1,I1,r1,q1⟩=>?_) (by rw [hs,hs2]) (by rw [hs2];rfl)))
 obtain ⟨b1,b2,l1,l2,xs,ys,e,q1,q2,q⟩:=q1;subst e;obtain ⟨u1,u2,rfl,ru1,ru2⟩:=r1.two;cases ru1;cases ru2;obtain ⟨its1,rv1,sq1,z1⟩:=I1.src q1;obtain ⟨its2,rv2,sq2,z2⟩:=I1.src q2;refine nF sq1 sq2 fun h' hz hTI hTO h1 h2 hsz hk=>?_;have I2:Inv X pins σ H1 { s1 with heap:=h' }:=I1.kept (t':=s1.toks) hk;refine wpAny_pyIter_zip (s:={ s1 with heap:=h' }) hz ?_;have D:ZApart (s1.heap.objs.size+4) (s1.heap.objs.size+2) (s1.heap.objs.size+3) s1.heap.objs.size (s1.heap.objs.size+1):=by constructor<;>exact (show (_:Nat)≠(_:Nat) by lia)
 refine ⟨s1.heap.objs.size+4,[s1.heap.objs.size+4,s1.heap.objs.size+2,s1.heap.objs.size+3,s1.heap.objs.size,s1.heap.objs.size+1],_,_,H1,rfl,I2,vS b1 b2 l1 l2 _ _ _ _ _ D,⟨hz,hTI,⟨_,_,hTO⟩,h1,h2⟩,fun b hb=>?_,q⟩;have hb':s1.heap.objs.size<=b:=by
  have hb2:b=s1.heap.objs.size+4\/b=s1.heap.objs.size+2\/b=s1.heap.objs.size+3\/b=s1.heap.objs.size\/b=s1.heap.objs.size+1:=by simpa using hb
  rcases hb2 with e|e|e|e|e<;>rw [e]<;>first|exact Nat.le_add_right _ _|exact Nat.le_refl _
 exact I1.fpOk (H':=H1) hb' (I1.hok.fresh hb')
def Au(K:W.Frag)(t:TA):TI:=fun σ H R=>t σ H fun vs H1=>∃b l xs,vs=[.ref l]/\kx K b H1 l xs/\R (Ite K b l) H1
theorem uv{a:Expr}{elts:List Expr}{x1:Nat}{tp:Pos}{ta:TA}{p pos:Pos}(hg:Gl X "enumerate")(hm:X.mg "enumerate"=none)(ha:PA X [a] ta)(hs:starEach [a] X.env=[(false,eval a X.env)]:=by rfl):
  PI X (.Tuple elts x1 tp) (.Call (.Name "enumerate" p) [a] [] pos) (Au X.K ta):=by
 intro pins s σ H R I h;refine Call_ (ld_blt I hg hm (by decide +kernel:bootBuiltins "enumerate"=some (.type "enumerate")) (PyProof.Rows.callWith_type1 (thn (ha pos pins s σ H _ I h) fun us s1 ⟨vs,H1,I1,r1,q1⟩=>?_) hs rfl))
 obtain ⟨b,l,xs,e,q1,q⟩:=q1;subst e;obtain ⟨u1,rfl,ru1⟩:=r1.one;cases ru1;obtain ⟨its,rv,sq,z⟩:=I1.src q1;refine sI sq fun h' he h1 hsz hk=>?_;have I2:Inv X pins σ H1 { s1 with heap:=h' }:=I1.kept (t':=s1.toks) hk;refine wpAny_pyIter_enum (s:={ s1 with heap:=h' }) he ?_;refine ⟨s1.heap.objs.size+1,[s1.heap.objs.size+1,s1.heap.objs.size],_,_,H1,rfl,I2,sQ b l _ _ (show (_:Nat)≠(_:Nat) by lia),⟨⟨_,he⟩,h1⟩,fun c hc=>?_,q⟩
 have hc':s1.heap.objs.size<=c:=by
  have hc2:c=s1.heap.objs.size+1\/c=s1.heap.objs.size:=by simpa using hc
  rcases hc2 with e|e<;>rw [e]<;>first|exact Nat.le_add_right _ _|exact Nat.le_refl _
 exact I1.fpOk (H':=H1) hc' (I1.hok.fresh hc')
end
end L2
namespace L3
open PySem L2
section
variable {X:Cx}{B:Bd}{tg:Expr}{K:W.Frag}{H:Hp}{M:Mem}
def srcOf(d:D)(xs:List D):List (Addr×List D):=match d with
 |.ref a=>[(a,xs)]
 |_=>[]
theorem kM{d:D}{v:V}{xs:List D}(rh:RepH K H M)(r:Rp K H d v)(e:cP M d=some xs):∃p b,v=.ref p/\∀H' M',Imm H H'->RepH K H' M'->(∀q∈srcOf d xs,M' q.1=some (.lst q.2))->∃vs,kx K b H' p vs/\Rps K H' xs vs:=by
 cases d with
 |tup ys=>
  cases e;obtain ⟨p,vs,rfl,h,r⟩:=r;exact ⟨p,false,rfl,fun H' M' i _ _=>⟨vs,(h.mono i).sq,r.mono i⟩⟩
 |lst ys=>
  cases e;obtain ⟨p,vs,rfl,h,r⟩:=r;exact ⟨p,true,rfl,fun H' M' i _ _=>⟨vs,(h.mono i).sq,r.mono i⟩⟩
 |mt ys=>
  cases e;obtain ⟨p,vs,rfl,h,r⟩:=r;exact ⟨p,false,rfl,fun H' M' i _ _=>⟨vs,h.sq,r.mono i⟩⟩
 |ml ys=>
  cases e;obtain ⟨p,vs,rfl,h,r⟩:=r;exact ⟨p,true,rfl,fun H' M' i _ _=>⟨vs,(h.mono i).sq,r.mono i⟩⟩
 |ref a=>
  refine ⟨a,true,r,fun H' M' i rh' hs=>?_⟩;obtain ⟨vs,h1,h2⟩:=rh' _ _ (hs (a,xs) (by simp [srcOf]))
  exact ⟨vs,gA h1,h2⟩
 |_=>cases e
theorem lq{d:D}{xs:List D}(e:cP M d=some xs):∀q∈srcOf d xs,M q.1=some (.lst q.2):=by
 cases d with
 |ref a=>
  intro q hq;have:q=(a,xs):=by simpa [srcOf] using hq
  subst this;simp only [cP] at e
  split at e
  ·rename_i ys h;cases e;exact h
  ·cases e
 |_=>intro q hq;simp [srcOf] at hq
def eW(te:bM):tw:=fun δ M R=>te δ M fun d M1=>match cP M1 d with
 |some xs=>R ⟨xs,srcOf d xs⟩ M1
 |none=>False
theorem dB{l:Expr}{tl:bM}(hl:DE X B l tl):DI X B tg l (eW tl):=by
 refine iF (xo hl) ?_
 rintro σ H R ⟨δ,M,RR,s,h,up⟩
 refine ⟨δ,M,_,s,h,fun d M1 h1 v H1 rh1 i1 r1=>?_⟩
 split at h1
 ·rename_i xs e
  obtain ⟨p,b,rfl,hsrc⟩:=kM rh1 r1 e;obtain ⟨vs,hq,_⟩:=hsrc H1 M1 Imm.refl rh1 (lq e);refine ⟨p,b,vs,rfl,hq,up _ M1 h1 _ H1 rh1 i1 fun i H2 M2 i2 rh2 ok2=>?_⟩;obtain ⟨vs2,hq2,r2⟩:=hsrc H2 M2 i2 rh2 ok2;have hl:=r2.length;cases b with
  |true=>
   refine ⟨fun d hd=>?_,fun hle=>⟨vs2,hq2,by rw [<- hl];exact hle⟩⟩
   obtain ⟨w,hw,rw'⟩:=r2.get hd;refine ⟨⟨vs2,w,hq2,hw⟩,?_⟩
   rintro x H3 ⟨rfl,hx⟩
   have:=hx vs2 hq2;rw [hw] at this;cases this;exact ⟨Frm.refl,rh2,rw'⟩
  |false=>
   refine ⟨fun d hd=>?_,fun hle=>⟨vs2,hq2,by rw [<- hl];exact hle⟩⟩
   obtain ⟨w,hw,rw'⟩:=r2.get hd;refine ⟨⟨vs2,w,hq2,hw⟩,?_⟩
   rintro x H3 ⟨rfl,hx⟩
   have:=hx vs2 hq2;rw [hw] at this;cases this;exact ⟨Frm.refl,rh2,rw'⟩
 ·exact h1.elim
def bT(lo:Int)(n:Nat):List D:=(List.range n).map fun (i:Nat)=>D.int (lo+i)
def cy(t:fO):tw:=fun δ M R=>t δ M fun ds M1=>match ds with
 |[.int j]=>-(2 ^ 62)<=j/\j<2 ^ 62/\R ⟨bT 0 j.toNat,[]⟩ M1
 |_=>False
theorem BM{lo:Int}{n:Nat}:C_ K H ⟨bT lo n,[]⟩ (Itr lo n):=fun i H2 M2 i2 rh2 _=>by
 have hlen:(bT lo n).length=n:=by simp [bT]
 refine ⟨fun d hd=>?_,fun hle=>by rw [hlen] at hle;exact hle⟩
 have hi:i<n:=by
  rcases Nat.lt_or_ge i n with h|h
  ·exact h
  ·rw [List.getElem?_eq_none (by rw [hlen];exact h)] at hd;cases hd
 have ed:d=.int (lo+i):=by
  simp only [bT,List.getElem?_map,List.getElem?_range hi] at hd;exact (Option.some.inj hd).symm
 subst ed;refine ⟨hi,?_⟩
 rintro x H3 ⟨rfl,rfl⟩
 exact ⟨Frm.refl,rh2,rfl⟩
theorem bC{a:Expr}{ta:fO}{p pos:Pos}(hg:Gl X "range")(hm:X.mg "range"=none)(ha:DA X B [a] ta)(hs:starEach [a] X.env=[(false,eval a X.env)]:=by rfl):DI X B tg (.Call (.Name "range" p) [a] [] pos) (cy ta):=by
 refine iF (rZ hg hm ha hs) ?_
 rintro σ H R ⟨δ,M,RR,s,h,up⟩
 refine ⟨δ,M,_,s,h,fun ds M1 h1 vs H1 rh1 i1 r1=>?_⟩
 split at h1
 ·obtain ⟨v,rfl,rv⟩:=gS (ds:=[]) r1
  cases rv;exact ⟨_,rfl,h1.1,h1.2.1,up _ M1 h1.2.2 _ H1 rh1 i1 BM⟩
 ·exact h1.elim
def nN(xs:List D):List D:=(xs.zipIdx).map fun p=>D.tup [.int (p.2:Nat),p.1]
theorem sP{xs:List D}{i:Nat}:(nN xs)[i]?=(xs[i]?).map fun d=>D.tup [.int (i:Nat),d]:=by
 simp [nN,List.getElem?_map,List.getElem?_zipIdx];cases xs[i]?<;>simp
def zB(t:fO):tw:=fun δ M R=>t δ M fun ds M1=>match ds with
 |[d]=>match cP M1 d with
  |some xs=>R ⟨nN xs,srcOf d xs⟩ M1
  |none=>False
 |_=>False
theorem ym{a:Expr}{elts:List Expr}{x1:Nat}{tp:Pos}{ta:fO}{p pos:Pos}(hg:Gl X "enumerate")(hm:X.mg "enumerate"=none)(ha:DA X B [a] ta)(hs:starEach [a] X.env=[(false,eval a X.env)]:=by rfl):
  DI X B (.Tuple elts x1 tp) (.Call (.Name "enumerate" p) [a] [] pos) (zB ta):=by
 refine iF (uv hg hm ha hs) ?_
 rintro σ H R ⟨δ,M,RR,s,h,up⟩
 refine ⟨δ,M,_,s,h,fun ds M1 h1 vs H1 rh1 i1 r1=>?_⟩
 split at h1
 ·obtain ⟨v,rfl,rv⟩:=gS (ds:=[]) r1
  split at h1
  ·rename_i xs e
   obtain ⟨p,b,rfl,hsrc⟩:=kM rh1 rv e;obtain ⟨vs,hq,_⟩:=hsrc H1 M1 Imm.refl rh1 (lq e);refine ⟨b,p,vs,rfl,hq,up _ M1 h1 _ H1 rh1 i1 fun i H2 M2 i2 rh2 ok2=>?_⟩;obtain ⟨vs2,hq2,r2⟩:=hsrc H2 M2 i2 rh2 ok2;have hl:=r2.length;refine ⟨fun d hd=>?_,fun hle=>⟨vs2,hq2,by rw [<- hl];simpa [nN] using hle⟩⟩
   rw [sP] at hd;obtain ⟨d0,hd0,rfl⟩:=Option.map_eq_some_iff.mp hd;obtain ⟨w,hw,rw'⟩:=r2.get hd0;refine ⟨⟨vs2,w,hq2,hw⟩,?_⟩
   rintro x H3 ⟨T,x',hT,rfl,rfl,hx⟩
   have:=hx vs2 hq2;rw [hw] at this;cases this;have i3:Imm H2 (upd H2 T (.tup [.int i,w])):=Imm.new hT;exact ⟨Frm.new hT,rh2.new hT,T,_,rfl,upd_same,.cons rfl (.cons (rw'.mono i3) .nil)⟩
  ·exact h1.elim
 ·exact h1.elim
def jM(xs ys:List D):List D:=(xs.zip ys).map fun p=>D.tup [p.1,p.2]
theorem vI{xs ys:List D}{i:Nat}{d:D}(h:(jM xs ys)[i]?=some d):∃x y,xs[i]?=some x/\ys[i]?=some y/\d=.tup [x,y]:=by
 simp only [jM,List.getElem?_map,Option.map_eq_some_iff] at h;obtain ⟨⟨x,y⟩,h1,rfl⟩:=h;rw [List.getElem?_zip_eq_some] at h1;exact ⟨x,y,h1.1,h1.2,rfl⟩
def uR(t:fO):tw:=fun δ M R=>t δ M fun ds M1=>match ds with
 |[d,e]=>match cP M1 d,cP M1 e with
  |some xs,some ys=>R ⟨jM xs ys,srcOf d xs++srcOf e ys⟩ M1
  |_,_=>False
 |_=>False
theorem uN{a b:Expr}{elts:List Expr}{x1:Nat}{tp:Pos}{ta:fO}{p pos:Pos}(hg:Gl X "zip")(hm:X.mg "zip"=none)(ha:DA X B [a,b] ta)
  (hs:starEach [a,b] X.env=[(false,eval a X.env),(false,eval b X.env)]:=by rfl) (hs2:starEach [b] X.env=[(false,eval b X.env)]:=by rfl):
  DI X B (.Tuple elts x1 tp) (.Call (.Name "zip" p) [a,b] [] pos) (uR ta):=by
 refine iF (yy hg hm ha hs hs2) ?_
 rintro σ H R ⟨δ,M,RR,s,h,up⟩
 refine ⟨δ,M,_,s,h,fun ds M1 h1 vs H1 rh1 i1 r1=>?_⟩
 split at h1
 ·obtain ⟨v,w,rfl,rv,rw'⟩:=xP r1
  split at h1
  ·rename_i xs ys e1 e2
   obtain ⟨p,b,rfl,hsrc⟩:=kM rh1 rv e1;obtain ⟨p',b',rfl,hsrc'⟩:=kM rh1 rw' e2;obtain ⟨vs,hq,_⟩:=hsrc H1 M1 Imm.refl rh1 (lq e1);obtain ⟨vs',hq',_⟩:=hsrc' H1 M1 Imm.refl rh1 (lq e2);refine ⟨b,b',p,p',vs,vs',rfl,hq,hq',up _ M1 h1 _ H1 rh1 i1 fun i H2 M2 i2 rh2 ok2=>?_⟩;obtain ⟨vs2,hq2,r2⟩:=hsrc H2 M2 i2 rh2 fun q hq=>ok2 q (List.mem_append_left _ hq);obtain ⟨vs2',hq2',r2'⟩:=hsrc' H2 M2 i2 rh2 fun q hq=>ok2 q (List.mem_append_right _ hq);have hl:=r2.length;have hl':=r2'.length;refine ⟨fun d hd=>?_,fun hle=>⟨vs2,vs2',hq2,hq2',?_⟩⟩
   ·obtain ⟨x,y,hx,hy,rfl⟩:=vI hd
    obtain ⟨w1,hw1,rw1⟩:=r2.get hx;obtain ⟨w2,hw2,rw2⟩:=r2'.get hy;refine ⟨⟨vs2,vs2',w1,w2,hq2,hq2',hw1,hw2⟩,?_⟩
    rintro x H3 ⟨T,x',y',hT,rfl,rfl,hx1,hx2⟩
    have q1:=hx1 vs2 hq2;have q2:=hx2 vs2' hq2';rw [hw1] at q1;rw [hw2] at q2;cases q1;cases q2;have i3:Imm H2 (upd H2 T (.tup [w1,w2])):=Imm.new hT;exact ⟨Frm.new hT,rh2.new hT,T,_,rfl,upd_same,.cons (rw1.mono i3) (.cons (rw2.mono i3) .nil)⟩
   ·have:(jM xs ys).length=min xs.length ys.length:=by simp [jM]
    rw [this] at hle;lia
  ·exact h1.elim
 ·exact h1.elim
end
end L3
namespace L3
open PySem L2
def wz:Bd:=⟨fun _ _=>True,fun _ _=>trivial⟩
section
variable {X:Cx}{B:Bd}{K:W.Frag}{H H':Hp}{M M':Mem}
inductive liftE0(K:W.Frag)(T:bM)(σ:L2.St)(H:Hp)(Q:VK):Prop
 |mk (δ:Dl) (M:Mem) (QQ:DK) (rh:RepH K H M) (rs:RepS K H δ σ) (h:T δ M QQ) (u:Up K M H QQ Q):liftE0 K T σ H Q
inductive liftT0(K:W.Frag)(T:eI)(σ:L2.St)(H:Hp)(Q:Bool->Hp->Prop):Prop
 |mk (δ:Dl) (M:Mem) (QQ:Bool->Mem->Prop) (rh:RepH K H M) (rs:RepS K H δ σ) (h:T δ M QQ) (u:UpT K M H QQ Q):liftT0 K T σ H Q
inductive liftG0(K:W.Frag)(g:ic)(v:V)(σ:L2.St)(H:Hp)(Q:L2.St->Hp->Prop):Prop
 |mk (d:D) (δ:Dl) (M:Mem) (QQ:Dl->Mem->Prop) (rh:RepH K H M) (rs:RepS K H δ σ) (r:Rp K H d v) (h:g d δ M QQ) (u:∀δ' M',QQ δ' M'->∀σ' H',Frm M H M' H'->RepH K H' M'->RepS K H' δ' σ'->Q σ' H'):liftG0 K g v σ H Q
theorem tD{e:Expr}{T:bM}(h:DE X wz e T):PE X e (liftE0 X.K T):=bg h fun σ H Q ⟨δ,M,QQ,rh,rs,h,u⟩=>⟨δ,M,QQ,⟨trivial,rh,rs⟩,h,u⟩
theorem pt_top{e:Expr}{T:eI}(h:DT X wz e T):PT X e (liftT0 X.K T):=iH h fun σ H Q ⟨δ,M,QQ,rh,rs,h,u⟩=>⟨δ,M,QQ,⟨trivial,rh,rs⟩,h,u⟩
theorem uF{e:Expr}{g:ic}(h:DG X wz e g):PG X e (liftG0 X.K g):=hW h fun v σ H Q ⟨d,δ,M,QQ,rh,rs,r,h,u⟩=>⟨d,δ,M,QQ,⟨trivial,rh,rs⟩,r,h,fun δ' M' q σ' H' f s=>u δ' M' q σ' H' f s.rh s.rs⟩
theorem RepH.add{a:Addr}{o:MO}(r:RepH K H M)(n:RepO K H a o):RepH K H (M.upd a o):=fun b p e=>by
 by_cases hb:b=a
 ·subst hb;rw [Mem.upd_same] at e;cases e;exact n
 ·rw [ao hb] at e;exact r b p e
def eO(ls:List Str)(js:List Nat)(δ:Dl):Dl:=ls.map (fun _=>none)++js.map fun j=>(δ[j]?).join
theorem RepS.start{δ:Dl}{σ:L2.St}(r:RepS K H δ σ)(ls:List Str)(js:List Nat):RepS K H (eO ls js δ) (cO ls js σ):=by
 refine ⟨by simp [eO,cO],fun i d e=>?_⟩
 unfold eO at e;unfold cO
 by_cases hi:i<ls.length
 ·rw [List.getElem?_append_left (by simpa using hi),List.getElem?_map,List.getElem?_eq_getElem hi] at e
  cases e
 ·rw [List.getElem?_append_right (by simpa using hi),List.length_map,List.getElem?_map] at e
  rw [List.getElem?_append_right (by simpa using hi),List.length_map,List.getElem?_map]
  cases hj:js[i-ls.length]? with
  |none=>rw [hj] at e;cases e
  |some j=>
   rw [hj] at e;have q:(δ[j]?).join=some d:=by simpa using e
   have q2:δ[j]?=some (some d):=by
    cases z:δ[j]? with
    |none=>rw [z] at q;cases q
    |some o=>rw [z] at q;have q':o=some d:=q;rw [q']
   obtain ⟨v,h1,h2⟩:=r.get j d q2;exact ⟨v,by simp [h1],h2⟩
structure BxC(g:ic)(tt:eI)(te:bM)(ok:Mem->Prop)(Q:List D->Mem->Prop):Type
def cI(g:ic)(tt:eI)(te:bM)(ok:Mem->Prop)(Q:List D->Mem->Prop)(b:BxC g tt te ok Q):List D->List D->Dl->Mem->Prop
 |[],acc,_,M=>ok M/\Q acc M
 |x::xs,acc,δ,M=>ok M/\g x δ M fun δ2 M2=>tt δ2 M2 fun c M3=>if c=true then te δ2 M3 fun y M4=>acc.length<sizeLine/\cI g tt te ok Q b xs (acc++[y]) δ2 M4 else cI g tt te ok Q b xs acc δ2 M3
def bD(wi:tw)(ls:List Str)(js:List Nat)(g:ic)(tt:eI)(te:bM):bM:=fun δ M Q=>wi δ M fun it M1=>cI g tt te it.ok (fun acc M'=>∀p,M' p=none->Q (.ref p) (M'.upd p (.lst acc))) ⟨⟩ it.items [] (eO ls js δ) M1
theorem uD{g:ic}{tt:eI}{te:bM}{ok:Mem->Prop}{xs acc:List D}{δ:Dl}{Q:List D->Mem->Prop}{b:BxC g tt te ok Q}(h:cI g tt te ok Q b xs acc δ M):ok M:=by
 cases xs with
 |nil=>exact h.1
 |cons _ _=>exact h.1
variable {tg iter elt:Expr}{ifs:List Expr}{scope:Scope}{cl:List (Str×Addr)}{pos:Pos}{ls fs:List Str}{js:List Nat}{wi:tw}{g:ic}{tt:eI}{te:bM}
theorem kc{σ:L2.St}{Q:VK}(h:liftE X B (bD wi ls js g tt te) σ H Q):vY (liftI X B wi) ls js (liftG0 X.K g) (liftT0 X.K tt) (liftE0 X.K te) σ H Q:=by
 obtain ⟨δ,M,QQ,s,h,u⟩:=h;refine ⟨δ,M,_,s,h,fun it M1 h1 J H1 rh1 f1 hJ p hp=>?_⟩;have hMp:M1 p=none:=rh1.fresh hp
 refine ⟨fun i m σ' H'=>m=it.items.length-i/\i<=it.items.length/\∃δ' M' acc ys,RepH X.K H' M'/\RepS X.K H' δ' σ'/\H' p=some (.lst ys)/\Rps X.K H' acc ys/\M' p=none/\Frm M1 H1 M' H'/\
   cI g tt te it.ok (fun acc M'=>∀p,M' p=none->QQ (.ref p) (M'.upd p (.lst acc))) ⟨⟩ (it.items.drop i) acc δ' M',
  ⟨_,rfl,Nat.zero_le _,eO ls js δ,M1,[],[],rh1.new hp,((s.rs.mono (f1.imm s.rh)).mono (Imm.new hp)).start ls js,upd_same,.nil,hMp,Frm.new hp,h1⟩,?_⟩
 rintro i m σ2 H2 ⟨rfl,hi,δ2,M2,acc,ys,rh2,rs2,hp2,ra2,hm2,f2,h2⟩
 have hok:=uD h2;obtain ⟨hgo,hstop⟩:=hJ i H2 M2 (f2.imm rh1) rh2 hok
 by_cases hlt:i<it.items.length
 ·rw [List.drop_eq_getElem_cons hlt] at h2
  obtain ⟨go,hy⟩:=hgo _ (List.getElem?_eq_getElem hlt)
  refine .inr ⟨go,fun σ' H'=>∃δ' M' acc ys,RepH X.K H' M'/\RepS X.K H' δ' σ'/\H' p=some (.lst ys)/\Rps X.K H' acc ys/\M' p=none/\Frm M1 H1 M' H'/\
   cI g tt te it.ok (fun acc M'=>∀p,M' p=none->QQ (.ref p) (M'.upd p (.lst acc))) ⟨⟩ (it.items.drop (i+1)) acc δ' M',fun σ' H' z=>⟨it.items.length-(i+1),by omega,rfl,hlt,z⟩,fun x H3 hx=>?_⟩
  obtain ⟨f3,rh3,rx⟩:=hy x H3 hx;refine ⟨_,δ2,M2,_,rh3,rs2.mono (f3.imm rh2),rx,h2.2,fun δ4 M4 h4 σ4 H4 f4 rh4 rs4=>?_⟩;refine ⟨δ4,M4,_,rh4,rs4,h4,fun c M5 h5 H5 rh5 f5=>?_⟩;have f35:=(f3.trans f4).trans f5;obtain ⟨hp5,hm5⟩:=f35.keep p _ hp2 hm2;cases c with
  |false=>
   try dsimp only
   rw [if_neg Bool.false_ne_true] at h5 ⊢;exact ⟨δ4,M5,acc,ys,rh5,rs4.mono (f5.imm rh4),hp5,ra2.mf rh2 f35,hm5,f2.trans f35,h5⟩
  |true=>
   try dsimp only
   rw [if_pos rfl] at h5 ⊢;refine ⟨δ4,M5,_,rh5,rs4.mono (f5.imm rh4),h5,fun y M6 h6 v6 H6 rh6 f6 r6=>?_⟩;obtain ⟨hp6,hm6⟩:=f6.keep p _ hp5 hm5;have f26:=f35.trans f6;have ra6:=ra2.mf rh2 f26;refine ⟨ys,hp6,by rw [<- ra6.length];exact h6.1,?_⟩
   have im:Imm H6 (upd H6 p (.lst (ys++[v6]))):=Imm.upd (by rw [hp6];trivial)
   refine ⟨δ4,M6,acc++[y],ys++[v6],rh6.keep im fun b o hb=>upd_ne (Mem.ne hb hm6),((rs4.mono (f5.imm rh4)).mono (f6.imm rh5)).mono im,upd_same,(ra6.append (.cons r6 .nil)).mono im,hm6,?_,h6.2⟩;refine ⟨fun b w e n=>?_⟩;obtain ⟨e2,n2⟩:=(f2.trans f26).keep b w e n;exact ⟨by rw [upd_ne (bq e hp)];exact e2,n2⟩
 ·rw [List.drop_eq_nil_of_le (by omega)] at h2
  refine .inl ⟨hstop (by omega),u _ _ (h2.2 p hm2) _ H2 (rh2.add ⟨ys,hp2,ra2⟩) ?_ rfl⟩
  refine ⟨fun b w e n=>?_⟩;obtain ⟨e1,n1⟩:=f1.keep b w e n;obtain ⟨e2,n2⟩:=f2.keep b w e1 n1;exact ⟨e2,by rw [ao (bq e1 hp)];exact n2⟩
def CP(X:Cx)(B:Bd)(ifs:List Expr)(T:eI):Prop:=C3 X ifs (liftT X B T)
def cL:eI:=fun _ M Q=>Q true M
theorem cA:CP X B [] cL:=fun pins s σ H Q I zz=>by obtain ⟨δ,M,QQ,sr,h,u⟩:=zz;exact zh pins s σ H Q I (u true M h H sr.rh Frm.refl)
theorem kG{c:Expr}{t:eI}(h:DT X B c t):CP X B [c] t:=wQ h
theorem pP{es:List Expr}{T:eI}(h:CP X wz es T):C3 X es (liftT0 X.K T):=fun pins s σ H Q I zz=>by obtain ⟨δ,M,QQ,rh,rs,hT,u⟩:=zz;exact h pins s σ H Q I ⟨δ,M,QQ,⟨trivial,rh,rs⟩,hT,u⟩
theorem cc(hc:X.calm=true)(co:CompOk X scope cl ls fs js)(hi:DI X B tg iter wi)
  (hY:∀(C:Addr) (s₀:Shared) (H₀:Hp) (fp:List Addr) (pl:List (Addr×Obj)),DG (bF X (ls++fs) scope cl C s₀ H₀ fp pl) wz tg g/\CP (bF X (ls++fs) scope cl C s₀ H₀ fp pl) wz ifs tt/\DE (bF X (ls++fs) scope cl C s₀ H₀ fp pl) wz elt te)
  (hs:∀x,foldedSetIterable iter X.env x=pure x:=by intro _;rfl):DE X B (.ListComp elt [⟨tg,iter,ifs,0⟩] scope pos) (bD wi ls js g tt te):=
 bg (yc (g:=liftG0 X.K g) (tt:=liftT0 X.K tt) (te:=liftE0 X.K te) hc co hi (fun C s₀ H₀ fp pl=>⟨uF (hY C s₀ H₀ fp pl).1,pP (hY C s₀ H₀ fp pl).2.1,tD (hY C s₀ H₀ fp pl).2.2⟩) hs) fun _ _ _ h=>kc h
def oR(i:Nat)(t:bM):aC:=fun D δ M=>t δ M fun d M1=>D.nx (δ.set i (some d)) M1
theorem yH{i:Nat}{x:Str}{px spos:Pos}(hN:X.N.Nodup)(hix:X.N[i]?=some x)(hx:wC X.env.scope x)(hc:X.calm=true)(co:CompOk X scope cl ls fs js)(hi:DI X B tg iter wi)
  (hY:∀(C:Addr) (s₀:Shared) (H₀:Hp) (fp:List Addr) (pl:List (Addr×Obj)),DG (bF X (ls++fs) scope cl C s₀ H₀ fp pl) wz tg g/\CP (bF X (ls++fs) scope cl C s₀ H₀ fp pl) wz ifs tt/\DE (bF X (ls++fs) scope cl C s₀ H₀ fp pl) wz elt te)
  (hsw:swapsWith (.ListComp elt [⟨tg,iter,ifs,0⟩] scope pos) (some (.Name x px)) spos.line X.env=pure true:=by rfl)
  (hs:∀x,foldedSetIterable iter X.env x=pure x:=by intro _;rfl) (hf:X.fn x=true\/X.env.scope.names.lookup x=some .local:=by first|exact .inl rfl|exact .inr rfl|assumption):
  DS X B (.Assign [.Name x px] (.ListComp elt [⟨tg,iter,ifs,0⟩] scope pos) spos) (oR i (bD wi ls js g tt te)):=by
 refine ck (xm (g:=liftG0 X.K g) (tt:=liftT0 X.K tt) (te:=liftE0 X.K te) hN hix hx hc co hi (fun C s₀ H₀ fp pl=>⟨uF (hY C s₀ H₀ fp pl).1,pP (hY C s₀ H₀ fp pl).2.1,tD (hY C s₀ H₀ fp pl).2.2⟩) hsw hs hf) ?_
 rintro D σ H ⟨δ,M,DD,s,h,up⟩
 refine kc ⟨δ,M,_,s,h,fun d M' q v H' rh f r=>?_⟩;exact up.nx _ M' q _ H' f ((s.go rh f).set r)
def gl(i:Nat)(δ:Dl)(M:Mem)(Q:Dl->Mem->Prop):Prop:=match δ[i]? with
 |some (some (.ref a))=>match M a with
  |some (.lst xs)=>Q (δ.set i (some (.lst xs))) (M.del a)
  |_=>Q δ M
 |_=>Q δ M
def iR(t:aC)(i:Nat):aC:=fun D δ M=>t { D with nx:=fun δ' M'=>gl i δ' M' D.nx } δ M
theorem mw{α:Type}:∀{l:List α} {i:Nat} {x:α},l[i]?=some x->l.set i x=l
 |[],_,_,h=>by simp at h
 |_::_,0,_,h=>by simp at h;subst h;rfl
 |_::_,i+1,_,h=>by rw [List.set_cons_succ,mw (by simpa using h)]
theorem AZ{st:Stmt}{t:aC}(i:Nat)(h:DS X B st t):DS X B st (iR t i):=by
 intro pins s σ H D I ⟨δ,M,DD,sr,hT,up⟩;refine thn (h pins s σ H { D with nx:=fun σ' H'=>∃δ' M',gl i δ' M' DD.nx/\Frm M H M' H'/\SR X B δ' M' σ' H' } I ⟨δ,M,_,sr,hT,⟨fun δ' M' q σ' H' f s'=>⟨δ',M',q,f,s'⟩,up.rt,up.bk,up.ct⟩⟩) fun f s' q=>?_;cases f with
 |next=>
  obtain ⟨σ',H',I',δ',M',q,f,s'⟩:=q;unfold gl at q
  split at q
  ·rename_i a ea
   split at q
   ·rename_i xs e
    obtain ⟨vs,h1,h2⟩:=s'.rh _ _ e;obtain ⟨o,I2⟩:=Inv.freeze I' h1;have im:Imm H' (upd H' a (.frz o (.lst vs))):=Imm.upd (by rw [h1];trivial)
    obtain ⟨v,hv,rv⟩:=s'.rs.get i _ ea;cases rv;refine ⟨σ',_,I2,up.nx _ _ q σ' _ (f.trans (Frm.del ⟨_,e⟩)) ⟨B.go s'.i0 (Frm.del ⟨_,e⟩),s'.rh.freeze h1,?_⟩⟩;have:=(s'.rs.mono im).set (i:=i) (d:=.lst xs) (v:=.ref a) ⟨a,vs,rfl,⟨o,upd_same⟩,h2.mono im⟩
    rwa [mw hv] at this
   ·exact ⟨σ',H',I',up.nx _ _ q σ' H' f s'⟩
  ·exact ⟨σ',H',I',up.nx _ _ q σ' H' f s'⟩
 |brk=>exact q
 |cont=>exact q
 |ret u=>exact q
end
end L3
namespace L3
open PySem L2
abbrev DX:=Addr->Mem->Prop
abbrev Sd:=List D->Mem->DK->DX->Prop
def bI(P:Program)(w:World):mI:=fun outer H s E e s'=>∃C,oi P w C outer H s E e s'
def UpX(K:W.Frag)(M:Mem)(H:Hp)(EE:DX)(E:XK):Prop:=∀C M',EE C M'->∀H',RepH K H' M'->Frm M H M' H'->E (.ref C) none H'
def B1(K:W.Frag)(B:Bd)(EE:DX)(E:XK):Prop:=∀C M',EE C M'->∀H',RepH K H' M'->B.p M' H'->E (.ref C) none H'
theorem UpX.go{K:W.Frag}{M M1:Mem}{H H1:Hp}{EE:DX}{E:XK}(u:UpX K M H EE E)(i:Frm M H M1 H1):UpX K M1 H1 EE E:=fun C M' q H' a b=>u C M' q H' a (i.trans b)
def av(K:W.Frag)(n:Nat)(T:Sd):Sp:=fun vs H Q E=>vs.length=n/\∃ds M QQ EE,RepH K H M/\Rps K H ds vs/\T ds M QQ EE/\Up K M H QQ Q/\UpX K M H EE E
def startN(N:List Str)(ds:List D):Dl:=ds.map some++List.replicate (N.length-ds.length) none
theorem RepS.startN{K:W.Frag}{H:Hp}{ds:List D}{vs:List V}(N:List Str)(r:Rps K H ds vs):RepS K H (L3.startN N ds) (L2.start N vs):=by
 have hl:=r.length;refine ⟨by simp [L3.startN,L2.start,hl],fun i d e=>?_⟩
 unfold L3.startN at e;unfold L2.start
 by_cases hi:i<ds.length
 ·rw [List.getElem?_append_left (by simpa using hi),List.getElem?_map,List.getElem?_eq_getElem hi] at e
  have e':ds[i]=d:=by simpa using e
  obtain ⟨v,h1,h2⟩:=r.get (i:=i) (d:=d) (by rw [List.getElem?_eq_getElem hi,e'])
  refine ⟨v,?_,h2⟩;rw [List.getElem?_append_left (by simp;lia),List.getElem?_map,h1]
  rfl
 ·rw [List.getElem?_append_right (by simpa using hi),List.getElem?_replicate] at e
  split at e<;>cases e
section
variable {P:Program}{w:World}{K:W.Frag}{mg:Str->Option Value}{base:Heap}{f:Addr}{fd:FuncData}
def drp(Q:DK)(d:D)(M':Mem):Prop:=∃M'',(∀b o,M'' b=some o->M' b=some o)/\Q d M''
def aN(EE:DX)(C:Addr)(M':Mem):Prop:=∃M'',(∀b o,M'' b=some o->M' b=some o)/\EE C M''
theorem ay{Q:DK}{d:D}{M':Mem}(h:Q d M'):drp Q d M':=⟨M',fun _ _ e=>e,h⟩
theorem dk{EE:DX}{C:Addr}{M':Mem}(h:EE C M'):aN EE C M':=⟨M',fun _ _ e=>e,h⟩
theorem Frm.less{M M' M'':Mem}{H H':Hp}(f:Frm M H M' H')(s:∀b o,M'' b=some o->M' b=some o):Frm M H M'' H':=⟨fun b u e n=>by
 obtain ⟨e',n'⟩:=f.keep b u e n;refine ⟨e',?_⟩;cases q:M'' b with
 |none=>rfl
 |some o=>rw [s b o q] at n';cases n'⟩
theorem Up.drp{M:Mem}{H:Hp}{Q:DK}{QV:VK}(u:Up K M H Q QV):Up K M H (L3.drp Q) QV:=fun d M' ⟨M'',s,q⟩ v H' rh f r=>u d M'' q v H' (fun b o e=>rh b o (s b o e)) (f.less s) r
theorem UpX.drp{M:Mem}{H:Hp}{EE:DX}{E:XK}(u:UpX K M H EE E):UpX K M H (aN EE) E:=fun C M' ⟨M'',s,q⟩ H' rh f=>u C M'' q H' (fun b o e=>rh b o (s b o e)) (f.less s)
def ba(N:List Str)(T:DX->aC):Sd:=fun ds M Q EE=>T (aN EE) { nx:=fun _ M'=>drp Q .non M',rt:=drp Q } (startN N ds) M
theorem dg{x qual:Str}{st:Stmt}{N ps:List Str}{k:Nat}{T:DX->aC}(F:Fun K x qual st f fd)(S:FnScope N ps (ax st))
  (hb:∀(cdv:Value) (A:Around) (outer:List Env) (s:Shared) (H:Hp) (E:XK) (B:Bd) (EE:DX),Room k (A.deeper (PyProof.Rows.envOfC qual (ax st) s.heap.objs.size f cdv))->B1 K B EE E->
   wy (dM (bI P w) P w K mg base N qual (ax st) f cdv A outer s H E) B (eA st) (T EE)):
  FnOk P w K mg base (bI P w) (k+1) f fd ps (av K ps.length (ba N T)):=by
 obtain ⟨oc,od,kV,doc,pm,an,cdv,ct,osl,rfl,lk,hcd⟩:=F.ex;refine El lk hcd S (fun vs H Q E h=>h.1) fun A outer s H vs Q E hr hsp=>?_;obtain ⟨hl,ds,M,QQ,EE,rh,r,hT,u,ux⟩:=hsp;refine ⟨_,hb cdv A outer s H E (Eu M H) (aN EE) hr ux.drp,startN N ds,M,{ nx:=fun _ M'=>drp QQ .non M',rt:=drp QQ },⟨Frm.refl,rh,.startN N r⟩,hT,⟨?_,u.drp,?_,?_⟩⟩
 ·exact fun δ M' q σ H' f s'=>u.drp _ M' q _ H' s'.rh f rfl
 ·exact fun δ M' q=>(show False from q).elim
 ·exact fun δ M' q=>(show False from q).elim
theorem fM{ps:List Str}{k n:Nat}{CX:mI}:FnOk P w K mg base CX k f fd ps (av K n fun _ _ _ _=>False):=
 ⟨fun vs H Q E h=>(by obtain ⟨_,_,_,_,_,_,_,h,_⟩:=h;exact h.elim),fun A outer s H args us vs Q E _ _ _ _ h=>(by obtain ⟨_,_,_,_,_,_,_,h,_⟩:=h;exact h.elim)⟩
theorem aA{N:List Str}{qual:Str}{scope:Scope}{cd:Value}{A:Around}{outer:List Env}{s0:Shared}{H0:Hp}{E:XK}:de (bI P w) (dM (bI P w) P w K mg base N qual scope f cd A outer s0 H0 E) E:=by
 intro pins σ H s e s' I ⟨C,hx⟩;have I':Inv (dM (oi P w C) P w K mg base N qual scope f cd A outer s0 H0 E) pins σ H s:=I.wish _;have:=CG pins σ H s e s' I' hx;exact wpAny_mono this (fun _ _ z=>⟨C,z⟩) fun _ _ z=>⟨C,z⟩
theorem dZ{X:Cx}:de (bI P w) X E0:=fun pins σ H s e s' I ⟨C,hx⟩=>by
 obtain ⟨_,_,_,_,_,_,_,_,_,_,_,_,hE⟩:=hx;exact (show False from hE).elim
end
def Sub(M1 M:Mem):Prop:=∀b o,M1 b=some o->M b=some o
def Dis(M1 M M':Mem):Prop:=∀b o,M b=some o->M1 b=none->M' b=none
def plus(M' M1 M:Mem):Mem:=fun b=>match M' b with
 |some o=>some o
 |none=>match M1 b with
  |some _=>none
  |none=>M b
theorem kr{M' M:Mem}:plus M' M M=M':=by
 funext b;simp only [plus];cases h:M' b with
 |some o=>rfl
 |none=>cases h2:M b<;>rfl
structure BxQ(EE:DX)(Q:DK):Type
structure calls(T:Sd)(EE:DX)(ds:List D)(M:Mem)(Q:DK)(_:BxQ EE Q):Prop where
 go:∃M1,Sub M1 M/\T ds M1 (fun d M'=>Dis M1 M M'->Q d (plus M' M1 M)) (fun C M'=>Dis M1 M M'->EE C (plus M' M1 M))
section
variable {X:Cx}{B:Bd}{K:W.Frag}{H H':Hp}{M M1 M':Mem}
theorem RepH.sub(r:RepH K H M)(s:Sub M1 M):RepH K H M1:=fun b o e=>r b o (s b o e)
theorem RepH.dis(r:RepH K H M)(f:Frm M1 H M' H'):Dis M1 M M':=fun b o e n=>by
 obtain ⟨u,q⟩:=(r b o e).obj;exact (f.keep b u q n).2
theorem RepH.plus(r:RepH K H M)(s:Sub M1 M)(r':RepH K H' M')(f:Frm M1 H M' H'):RepH K H' (plus M' M1 M):=fun b o e=>by
 simp only [L3.plus] at e
 split at e
 ·rename_i o' q;cases e;exact r' b _ q
 ·split at e
  ·cases e
  ·rename_i q n
   obtain ⟨u,hu⟩:=(r b o e).obj;exact (r b o e).keep (f.imm (r.sub s)) ((f.keep b u hu n).1.trans hu.symm)
theorem Frm.plus(s:Sub M1 M)(f:Frm M1 H M' H'):Frm M H (plus M' M1 M) H':=⟨fun b u e n=>by
 have n1:M1 b=none:=by
  cases q:M1 b with
  |none=>rfl
  |some o=>rw [s b o q] at n;cases n
 obtain ⟨e',n'⟩:=f.keep b u e n1;exact ⟨e',by simp only [L3.plus,n',n1,n]⟩⟩
theorem dW{T:Sd}{EE:DX}{ds:List D}{vs:List V}{Q:DK}{n:Nat}{QV:VK}{E:XK}{b:BxQ EE Q}(h:calls T EE ds M Q b)(rh:RepH K H M)(r:Rps K H ds vs)(hl:vs.length=n)(u:Up K M H Q QV)(ux:UpX K M H EE E):av K n T vs H QV E:=by
 obtain ⟨M1,s,h⟩:=h.go;refine ⟨hl,ds,M1,_,_,rh.sub s,r,h,fun d M' q v H' rh' f r'=>?_,fun C M' q H' rh' f=>?_⟩
 ·exact u d _ (q (rh.dis f)) v H' (rh.plus s rh' f) (f.plus s) r'
 ·exact ux C _ (q (rh.dis f)) H' (rh.plus s rh' f) (f.plus s)
theorem calls_of{T:Sd}{EE:DX}{ds:List D}{Q:DK}{b:BxQ EE Q}(hm:∀Q' E',(∀d M,Q d M->Q' d M)->(∀C M,EE C M->E' C M)->T ds M Q' E'):calls T EE ds M Q b:=
 ⟨M,fun _ _ e=>e,hm _ _ (fun d M' q _=>by rw [kr];exact q) fun C M' q _=>by rw [kr];exact q⟩
variable {CX:mI}{k n:Nat}{f C:Addr}{fd:FuncData}{ps:List Str}{T:Sd}{EE:DX}{E:XK}{x m:Str}{p pos apos:Pos}{e o:Expr}{es:List Expr}{ta:bM}{t:fO}
def dCall(T:Sd)(EE:DX)(n:Nat)(t:fO):bM:=fun δ M Q=>t δ M fun ds M1=>ds.length=n/\calls T EE ds M1 Q ⟨⟩
theorem SR.ux{δ:Dl}{σ:L2.St}(s:SR X B δ M σ H)(ux:B1 X.K B EE E):UpX X.K M H EE E:=fun C M' q H' a b=>ux C M' q H' a (B.go s.i0 b)
theorem ap(F:FnOk X.prog X.w X.K X.mg X.base CX k f fd ps (av X.K n T))(hr:Room k X.A)(hg:Gl X x)(hm:X.mg x=some (.ref f))(hk:W.keepIn X.K (.ref f)=true)(hb:Binds X.K fd ps [])(hx:de CX X E)(ux:B1 X.K B EE E)
  (ha:DA X B (e::es) t) (hdb:(x==("__debug__":Str))=false:=by decide) (he:starEach (e::es) X.env=(false,eval e X.env)::starEach es X.env:=by rfl) (hpl:(backTo pos (starEach es X.env)).any (·.1)=false:=by rfl):
  DE X B (.Call (.Name x p) (e::es) [] pos) (dCall T EE n t):=by
 refine bg (yL F hr hg hm hk hb .nil hx ha hdb he hpl) ?_
 rintro σ H Q ⟨δ,M,QQ,s,h,u⟩
 refine ⟨δ,M,_,s,h,fun ds M1 h1 vs H1 rh1 i1 r1=>?_⟩
 try dsimp only
 rw [List.append_nil];exact dW h1.2 rh1 r1 (by rw [<- r1.length];exact h1.1) (u.go i1) ((s.ux ux).go i1)
def eD(C:Addr)(m:Str)(T:Sd)(EE:DX)(n:Nat)(ta:bM)(t:fO):bM:=fun δ M Q=>ta δ M fun x M1=>match x with
 |.ref a=>match M1 a with
  |some (.ins C' fs)=>C'=C/\fs.lookup m=none/\t δ M1 fun ds M2=>ds.length+1=n/\calls T EE (.ref a::ds) M2 Q ⟨⟩
  |_=>False
 |_=>False
theorem eh{pl:Sem Bool}(he:DE X B o ta)(c:Cls X.K C)(hm:Meth X.K C m f)(F:FnOk X.prog X.w X.K X.mg X.base CX k f fd ps (av X.K n T))(hr:Room k X.A)(hb:Binds X.K fd ps [])(hx:de CX X E)(ux:B1 X.K B EE E)(ha:DA X B (e::es) t)
  (hst:starEach (e::es) X.env=(false,eval e X.env)::starEach es X.env:=by rfl) (hpl:(backTo pos (starEach es X.env)).any (·.1)=false:=by rfl)
  (ht:eval (.Call (.Attribute o m apos) (e::es) [] pos) X.env=(do
   let ov <- eval o X.env
   standAt apos.atName
   let (f,first) <- holding [ov] (getMethod ov m pl)
   callWith pos f first (backTo pos (starEach (e::es) X.env)) (backToKw pos (keywordEach [] X.env))):=by rfl):
  DE X B (.Call (.Attribute o m apos) (e::es) [] pos) (eD C m T EE n ta t):=by
 refine bg (xq he c hm F hr hb .nil hx ha hst hpl ht) ?_
 rintro σ H Q ⟨δ,M,QQ,s,h,u⟩
 refine ⟨δ,M,_,s,h,fun x M1 h1 v H1 rh1 i1 r1=>?_⟩
 split at h1
 ·rename_i a
  cases r1
  split at h1
  ·rename_i C' fs hM
   obtain ⟨rfl,hl,h1⟩:=h1;obtain ⟨dx,ws,e1,e2⟩:=rh1 _ _ hM;have hl':ws.lookup m=none:=by
    rcases e2.lookup m with ⟨_,z⟩|⟨d,v,z,_⟩
    ·exact z
    ·rw [hl] at z;cases z
   refine ⟨a,dx,ws,rfl,e1,hl',δ,M1,_,s.go rh1 i1,h1,fun ds M2 h2 vs H2 rh2 i2 r2=>?_⟩
   try dsimp only
   rw [List.append_nil];exact dW (ds:=.ref a::ds) h2.2 rh2 (.cons rfl r2) (by rw [List.length_cons,<- r2.length];exact h2.1) (u.go (i1.trans i2)) ((s.ux ux).go (i1.trans i2))
  ·exact h1.elim
 ·exact h1.elim
def vZ(C:Addr)(T:Sd)(EE:DX)(n:Nat)(t:fO):bM:=fun δ M Q=>t δ M fun ds M1=>ds.length+1=n/\∀a,M1 a=none->calls T EE (.ref a::ds) (M1.upd a (.ins C [])) (fun d M2=>match d with
 |.non=>Q (.ref a) M2
 |_=>False) ⟨⟩
theorem qD(Mk':Mk X.K C f)(F:FnOk X.prog X.w X.K X.mg X.base CX k f fd ps (av X.K n T))(hr:Room (k+1) X.A)(hg:Gl X x)(hm:X.mg x=some (.ref C))(hb:Binds X.K fd ps [])(hx:de CX X E)(ux:B1 X.K B EE E)
  (ha:DA X B (e::es) t) (hdb:(x==("__debug__":Str))=false:=by decide) (he:starEach (e::es) X.env=(false,eval e X.env)::starEach es X.env:=by rfl) (hpl:(backTo pos (starEach es X.env)).any (·.1)=false:=by rfl):
  DE X B (.Call (.Name x p) (e::es) [] pos) (vZ C T EE n t):=by
 refine bg (xN Mk' F hr hg hm hb .nil hx ha hdb he hpl) ?_
 rintro σ H Q ⟨δ,M,QQ,s,h,u⟩
 refine ⟨δ,M,_,s,h,fun ds M1 h1 vs H1 rh1 i1 r1 a dx na ndx nex=>?_⟩;rw [List.append_nil];have nx1:upd H1 dx (.own a) a=none:=by rw [upd_ne (Ne.symm nex)];exact na
 have im1:Imm H1 (upd H1 dx (.own a)):=Imm.new ndx;have im2:Imm (upd H1 dx (.own a)) (upd (upd H1 dx (.own a)) a (.ins C dx [])):=Imm.new nx1;have rh2:RepH X.K (upd (upd H1 dx (.own a)) a (.ins C dx [])) (M1.upd a (.ins C [])):=(rh1.new ndx).put (by rw [nx1];trivial) ⟨dx,[],upd_same,.nil⟩
 have f2:Frm M1 H1 (M1.upd a (.ins C [])) (upd (upd H1 dx (.own a)) a (.ins C dx [])):=(Frm.new ndx).trans (Frm.put (.inl nx1));refine dW (h1.2 a (rh1.fresh na)) rh2 (.cons rfl ((r1.mono im1).mono im2)) (by rw [List.length_cons,<- r1.length];exact h1.1) (fun d M2 h2 v H2 rh f r=>?_) ((s.ux ux).go (i1.trans f2))
 cases d with
 |non=>exact ⟨r,u _ M2 h2 _ H2 rh ((i1.trans f2).trans f) rfl⟩
 |_=>exact (show False from h2).elim
end
end L3
namespace L3
open PySem L2
section
variable {X:Cx}{B:Bd}{K:W.Frag}{H H':Hp}{M M1 M':Mem}{o e:Expr}{es:List Expr}{to:bM}{t:fO}{name:Str}{apos cpos:Pos}{Ty id:String}
abbrev wU:=D->List D->Mem->DK->Prop
inductive liftM(X:Cx)(r:wU)(x:V)(xs:List V)(H:Hp)(Q:VK):Prop
 |mk (d:D) (ds:List D) (M:Mem) (QQ:DK) (rh:RepH X.K H M) (rx:Rp X.K H d x) (rs:Rps X.K H ds xs) (h:r d ds M QQ) (u:Up X.K M H QQ Q):liftM X r x xs H Q
def tN(Ty:String)(r:wU)(to:bM)(t:fO):bM:=fun δ M Q=>to δ M fun x M1=>eT M1 x=some Ty/\t δ M1 fun ds M2=>r x ds M2 Q
theorem C8{d:D}{v:V}(rh:RepH K H M)(r:Rp K H d v)(e:eT M d=some Ty)(h:Ty="list"\/Ty="str"\/Ty="int"\/Ty="dict"):tyV K Ty v H:=by
 cases d with
 |non=>cases e;rcases h with h|h|h|h<;>exact absurd h (by decide)
 |bl b=>cases e;rcases h with h|h|h|h<;>exact absurd h (by decide)
 |int i=>cases r;cases e;rfl
 |str x=>cases r;cases e;rfl
 |tup xs=>cases e;rcases h with h|h|h|h<;>exact absurd h (by decide)
 |lst xs=>
  cases e;obtain ⟨p,vs,rfl,hf,r⟩:=r;exact .inl ⟨rfl,vs,hf.sq⟩
 |ref a=>
  cases r;simp only [eT] at e
  split at e
  ·rename_i q;cases e;obtain ⟨ws,h1,h2⟩:=rh _ _ q;exact .inl ⟨rfl,ws,gA h1⟩
  ·rename_i q;cases e;obtain ⟨ws,h1,h2⟩:=rh _ _ q;exact .inr (.inr (.inl ⟨rfl,.inl ⟨ws,h1⟩⟩))
  ·rename_i q;cases e;obtain ⟨ws,h1,h2⟩:=rh _ _ q;exact .inr (.inr (.inl ⟨rfl,.inr ⟨ws,h1⟩⟩))
  ·cases e
 |_=>cases e
theorem gD{r:wU}(hT:Ty="list"\/Ty="str"\/Ty="int"\/Ty="dict")(pa:PlainAttrs Ty)(slot:Slot Ty name id)(hty:typeOf (.builtin id)=pure (.type "method_descriptor"))(hm:zT X id (liftM X r))(ho:DE X B o to)(ha:DA X B (e::es) t)
  (hbase:attributeBase o name X.env (eval o X.env)=eval o X.env:=by rfl)
  (hfew:((backTo cpos (starEach (e::es) X.env)).all (fun x=>!x.1)&&(backToKw cpos (keywordEach [] X.env)).all (fun x=>x.1.isSome)
   && decide ((e::es).length+([]:List Keyword).length+(if ([]:List Keyword).isEmpty then 0 else 1)<30))=true:=by rfl)
  (hline:(apos.endLine==cpos.line)=true:=by rfl) (hs:starEach (e::es) X.env=(false,eval e X.env)::starEach es X.env:=by rfl) (hplain:(backTo cpos (starEach es X.env)).any (·.1)=false:=by rfl):
  DE X B (.Call (.Attribute o name apos) (e::es) [] cpos) (tN Ty r to t):=by
 refine bg (Ea pa slot hty hm ho ha hbase hfew hline hs hplain) ?_
 rintro σ H Q ⟨δ,M,QQ,s,h,u⟩
 refine ⟨δ,M,_,s,h,fun x M1 h1 v H1 rh1 i1 r1=>⟨C8 rh1 r1 h1.1 hT,δ,M1,_,s.go rh1 i1,h1.2,fun ds M2 h2 vs H2 rh2 i2 r2=>?_⟩⟩;exact ⟨x,ds,M2,QQ,rh2,r1.mf rh1 i2,r2,h2,u.go (i1.trans i2)⟩
def cm:wU:=fun x ds M Q=>match x,ds with
 |.ref a,[y]=>match M a with
  |some (.lst xs)=>xs.length<sizeLine/\Q .non (M.upd a (.lst (xs++[y])))
  |_=>False
 |_,_=>False
theorem cn:zT X "list.append" (liftM X cm):=by
 intro pins s σ H x vs v us Q I rx rv h;obtain ⟨d,ds,M,QQ,rh,r,rs,h,up⟩:=h;unfold cm at h
 split at h
 ·rename_i a y
  cases r;obtain ⟨w,rfl,rw'⟩:=gS (ds:=[]) rs
  split at h
  ·rename_i xs hM
   obtain ⟨ws,h1,h2⟩:=rh _ _ hM;have im:Imm H (upd H a (.lst (ws++[w]))):=Imm.upd (by rw [h1];trivial)
   exact sV pins s σ H _ _ v us Q I rx rv ⟨a,ws,w,rfl,rfl,h1,by rw [<- h2.length];exact h.1,up _ _ h.2 _ _ (rh.put (by rw [h1];trivial) ⟨_,upd_same,(h2.append (.cons rw' .nil)).mono im⟩) (Frm.put (.inr ⟨_,hM⟩)) rfl⟩
  ·exact h.elim
 ·exact h.elim
def vJ:V->List V->Hp->VK->Prop:=fun x vs H Q=>∃l b xs zs,x=.ref l/\vs=[.ref b]/\H l=some (.lst xs)/\Rd H b (.lst zs)/\xs.length+zs.length<=sizeLine/\Q .non (upd H l (.lst (xs++zs)))
theorem pG:MtM X "list.extend" vJ:=by
 intro pins s σ H x vs v us Q I rx rv h;obtain ⟨l,b,xs,zs,rfl,rfl,hH,hB,hz,q⟩:=h;cases rx;obtain ⟨u,rfl,ru⟩:=rv.one;cases ru;obtain ⟨z,its,n,r,hl,e⟩:=I.lstM hH;obtain ⟨z2,its2,n2,r2,e2⟩:=hB.ok I.hok;have hl2:=r2.length;have hsz:its.toArray.size+its2.toArray.size<=sizeLine:=by rw [List.size_toArray,List.size_toArray];lia
 have hlong:¬(!its.toArray.isEmpty&&Builtin.List.listTooLong (its.toArray.size+its2.toArray.size))=true:=by
  rw [l_ hsz,Bool.and_false];exact Bool.false_ne_true
 refine call_meets F.slot_list_extend ⟨_,e,rfl⟩ F.entry_list_extend (F.args_list_extend_2 _ _)
  (AutoSeq1.list_extend_list_list_0 l its.toArray n b its2.toArray n2 hlong (by rw [List.size_toArray];lia) (by lia)) ⟨e,e2,?_⟩
 refine ⟨.non,_,I.lset (its':=its++its2) hH e (by simp) (r.append r2) ?_,rfl,q⟩
 rw [List.length_append];lia
def kJ:wU:=fun x ds M Q=>match x,ds with
 |.ref a,[y]=>match M a,seqL M y with
  |some (.lst xs),some ys=>xs.length+ys.length<=sizeLine/\Q .non (M.upd a (.lst (xs++ys)))
  |_,_=>False
 |_,_=>False
theorem pI:zT X "list.extend" (liftM X kJ):=by
 intro pins s σ H x vs v us Q I rx rv h;obtain ⟨d,ds,M,QQ,rh,r,rs,h,up⟩:=h;unfold kJ at h
 split at h
 ·rename_i a y
  cases r;obtain ⟨w,rfl,rw'⟩:=gS (ds:=[]) rs
  split at h
  ·rename_i xs ys hM hy
   obtain ⟨ws,h1,h2⟩:=rh _ _ hM;obtain ⟨p,zs,rfl,hq,r2⟩:=fi rh rw' hy;have l1:=h2.length;have l2:=r2.length;have im:Imm H (upd H a (.lst (ws++zs))):=Imm.upd (by rw [h1];trivial)
   exact pG pins s σ H _ _ v us Q I rx rv ⟨a,p,ws,zs,rfl,rfl,h1,hq,by lia,up _ _ h.2 _ _ (rh.put (by rw [h1];trivial) ⟨_,upd_same,(h2.append r2).mono im⟩) (Frm.put (.inr ⟨_,hM⟩)) rfl⟩
  ·exact h.elim
 ·exact h.elim
def mPop:wU:=fun x ds M Q=>match x,ds with
 |.ref a,[]=>match M a with
  |some (.lst xs)=>match xs[xs.length-1]? with
   |some y=>Q y (M.upd a (.lst xs.dropLast))
   |none=>False
  |_=>False
 |.ref a,[.int i]=>match M a with
  |some (.lst xs)=>match pJ xs.length i with
   |some k=>match xs[k]? with
    |some y=>Q y (M.upd a (.lst (xs.eraseIdx k)))
    |none=>False
   |none=>False
  |_=>False
 |_,_=>False
def gv:List D->Option (List Str)
 |[]=>some []
 |.str x::ds=>match gv ds with
  |some xs=>some (x::xs)
  |none=>none
 |_=>none
theorem me:∀{ds:List D} {vs:List V} {xs:List Str},Rps K H ds vs->gv ds=some xs->vs=xs.map V.str
 |[],vs,xs,r,e=>by cases e;exact r
 |d::ds,vs,xs,r,e=>by
  obtain ⟨v,r',rfl,a,b⟩:=r;cases d with
  |str c=>
   simp only [gv] at e
   split at e
   ·rename_i xs' e2
    cases e;cases a;rw [me b e2];rfl
   ·cases e
  |_=>cases e
def kI:wU:=fun x ds M Q=>match x,ds with
 |.tup xs,[.str z]=>match gv xs with
  |some names=>names.length<=1000/\match names.findIdx? (fun y=>decide (y=z)) with
   |some j=>Q (.int (j:Nat)) M
   |none=>False
  |none=>False
 |_,_=>False
theorem iV:zT X "tuple.index" (liftM X kI):=by
 intro pins s σ H x vs v us Q I rx rv h;obtain ⟨d,ds,M,QQ,rh,r,rs,h,up⟩:=h;unfold kI at h
 split at h
 ·rename_i xs z
  obtain ⟨p,ws,rfl,ht,r⟩:=r;obtain ⟨w,rfl,rw'⟩:=gS (ds:=[]) rs;cases rw'
  split at h
  ·rename_i names en
   obtain ⟨hl,h⟩:=h
   split at h
   ·rename_i j ej
    have:=me r en;subst this;rw [List.findIdx?_eq_some_iff_getElem] at ej;obtain ⟨hj,e1,e2⟩:=ej;refine sM pins s σ H _ _ v us Q I rx rv ⟨p,names,z,j,rfl,rfl,ht,hl,?_,fun m hm=>?_,up _ M h _ H rh Frm.refl rfl⟩
    ·rw [List.getElem?_eq_getElem hj];simpa using e1
    ·have:=e2 m hm
     rw [List.getElem?_eq_getElem (by lia)]
     simpa using this
   ·exact h.elim
  ·exact h.elim
 ·exact h.elim
def dTM(r:wU)(to:bM)(t:fO):bM:=fun δ M Q=>to δ M fun x M1=>match x with
 |.tup xs=>t δ M1 fun ds M2=>r (.tup xs) ds M2 Q
 |_=>False
theorem zI{r:wU}(slot:Slot "tuple" name id)(hty:typeOf (.builtin id)=pure (.type "method_descriptor"))(hm:zT X id (liftM X r))(ho:DE X B o to)(ha:DA X B (e::es) t)
  (hbase:attributeBase o name X.env (eval o X.env)=eval o X.env:=by rfl)
  (hfew:((backTo cpos (starEach (e::es) X.env)).all (fun x=>!x.1)&&(backToKw cpos (keywordEach [] X.env)).all (fun x=>x.1.isSome)
   && decide ((e::es).length+([]:List Keyword).length+(if ([]:List Keyword).isEmpty then 0 else 1)<30))=true:=by rfl)
  (hline:(apos.endLine==cpos.line)=true:=by rfl) (hs:starEach (e::es) X.env=(false,eval e X.env)::starEach es X.env:=by rfl) (hplain:(backTo cpos (starEach es X.env)).any (·.1)=false:=by rfl):
  DE X B (.Call (.Attribute o name apos) (e::es) [] cpos) (dTM r to t):=by
 refine bg (DQ slot hty hm ho ha hbase hfew hline hs hplain) ?_
 rintro σ H Q ⟨δ,M,QQ,s,h,u⟩
 refine ⟨δ,M,_,s,h,fun x M1 h1 v H1 rh1 i1 r1=>?_⟩;cases x with
 |tup xs=>
  have r1':=r1;obtain ⟨p,vs,rfl,ht,rr⟩:=r1';refine ⟨⟨p,vs,rfl,ht⟩,δ,M1,_,s.go rh1 i1,h1,fun ds M2 h2 vs H2 rh2 i2 r2=>?_⟩;exact ⟨_,ds,M2,QQ,rh2,r1.mf rh1 i2,r2,h2,u.go (i1.trans i2)⟩
 |_=>exact (show False from h1).elim
def zK:bM:=fun _ M Q=>∀p,M p=none->Q (.ref p) (M.upd p (.dT []))
theorem xr{pos:Pos}:DE X B (.Dict [] [] pos) zK:=by
 refine bg uY ?_
 rintro σ H Q ⟨δ,M,QQ,s,h,u⟩ p hp
 exact u _ _ (h p (s.rh.fresh hp)) _ _ (s.rh.put (by rw [hp];trivial) ⟨[],upd_same,.nil⟩) (Frm.put (.inl hp)) rfl
def eE(ks:List aT)(ys:List D):List (aT×D):=(ks.zip ys).foldl (fun a p=>cJ a p.1 p.2) []
theorem jz:∀{ks:List aT} {ds:List D} {vs:List V} {a:List (aT×D)} {b:List (aT×V)},Rps K H ds vs->Rkv K H a b->
  Rkv K H ((ks.zip ds).foldl (fun a p=>cJ a p.1 p.2) a) ((ks.zip vs).foldl (fun a p=>cE a p.1 p.2) b)
 |[],_,_,_,_,_,r=>r
 |_::_,[],_,_,_,h,r=>by cases h;exact r
 |k::ks,d::ds,_,_,_,h,r=>by
  obtain ⟨v,vs,rfl,a,b⟩:=h;exact jz (ks:=ks) b (r.put k a)
def gf(t:fO):bM:=fun δ M Q=>t δ M fun ds M1=>match ds with
 |[.tup xs,.tup ys]=>match dG xs with
  |some ks=>ks.length=ys.length/\0<ks.length/\ks.length<=1000/\∀p,M1 p=none->Q (.ref p) (M1.upd p (.dK (eE ks ys)))
  |none=>False
 |_=>False
theorem jm{a b:Expr}{ta:fO}{p p2 pos pos2:Pos}(hc:X.calm=true)(hg:Gl X "zip")(hm:X.mg "zip"=none)(hg2:Gl X "dict")(hm2:X.mg "dict"=none)(ha:DA X B [a,b] ta)
  (hs:starEach [a,b] X.env=[(false,eval a X.env),(false,eval b X.env)]:=by rfl) (hs2:starEach [b] X.env=[(false,eval b X.env)]:=by rfl)
  (hs3:starEach [Expr.Call (.Name "zip" p2) [a,b] [] pos2] X.env=[(false,eval (.Call (.Name "zip" p2) [a,b] [] pos2) X.env)]:=by rfl):
  DE X B (.Call (.Name "dict" p) [.Call (.Name "zip" p2) [a,b] [] pos2] [] pos) (gf ta):=by
 refine bg (oA false false hc hg hm hg2 hm2 ha hs hs2 hs3) ?_
 rintro σ H Q ⟨δ,M,QQ,s,h,u⟩
 refine ⟨δ,M,_,s,h,fun ds M1 h1 vs H1 rh1 i1 r1=>?_⟩
 split at h1
 ·obtain ⟨v,w,rfl,rv,rw'⟩:=xP r1
  obtain ⟨l1,us,rfl,t1,ru⟩:=rv;obtain ⟨l2,ws,rfl,t2,rw2⟩:=rw'
  split at h1
  ·rename_i ks ek
   obtain ⟨e1,e2,e3,h1⟩:=h1;have hk:=iU ru ek;subst hk;refine ⟨l1,l2,ks,ws,rfl,t1.sq,t2.sq,by rw [<- rw2.length];exact e1,e2,e3,fun d hd=>?_⟩
   have im:Imm H1 (upd H1 d (.dK ((ks.zip ws).foldl (fun a p=>cE a p.1 p.2) []))):=Imm.new hd;exact u _ _ (h1 d (rh1.fresh hd)) _ _ (rh1.put (by rw [hd];trivial) ⟨_,upd_same,(jz rw2 .nil).mono im⟩) (i1.trans (Frm.put (.inl hd))) rfl
  ·exact h1.elim
 ·exact h1.elim
end
section
variable {P:Program}{w:World}{K:W.Frag}{mg:Str->Option Value}{base:Heap}{N:List Str}{qual:Str}{scope:Scope}{f C:Addr}{cd:Value}{A:Around}{outer:List Env}{s0:Shared}{H0:Hp}{E:XK}{B:Bd}
theorem za{X:Cx}{st:Stmt}{t:TS}{E':Value->Shared->Prop}(h:PS X st t)(k:∀e s,X.xe e s->E' e s):PS (X.wish E') st t:=fun pins s σ H D I q=>
 wpAny_mono (h pins s σ H D (I.unwish) q) (fun f s' z=>by
  cases f with
  |next=>obtain ⟨σ',H',I,q⟩:=z;exact ⟨σ',H',I.wish _,q⟩
  |brk=>obtain ⟨σ',H',I,q⟩:=z;exact ⟨σ',H',I.wish _,q⟩
  |cont=>obtain ⟨σ',H',I,q⟩:=z;exact ⟨σ',H',I.wish _,q⟩
  |ret u=>obtain ⟨v,σ',H',I,r,q⟩:=z;exact ⟨v,σ',H',I.wish _,r,q⟩) k
def lm(C:Addr)(EE:DX):aC:=fun _ _ M=>EE C M
theorem je{x msg:Str}{np cpos pos apos:Pos}{jj}{EE:DX}(X:ExcAt K C)(hm:mg x=some (.ref C))(ux:B1 K B EE E)(hg:Gl (dM (bI P w) P w K mg base N qual scope f cd A outer s0 H0 E) x)
  (hd:(x==("__debug__":Str))=false:=by decide)
  (hs:starEach [.Constant (.str msg) jj apos] (dM (bI P w) P w K mg base N qual scope f cd A outer s0 H0 E).env=[(false,eval (.Constant (.str msg) jj apos) (dM (bI P w) P w K mg base N qual scope f cd A outer s0 H0 E).env)]:=by rfl):
  DS (dM (bI P w) P w K mg base N qual scope f cd A outer s0 H0 E) B (.Raise (some (.Call (.Name x np) [.Constant (.str msg) jj apos] [] cpos)) none pos) (lm C EE):=by
 have h1:PS (dM (oi P w C) P w K mg base N qual scope f cd A outer s0 H0 E) (.Raise (some (.Call (.Name x np) [.Constant (.str msg) jj apos] [] cpos)) none pos) (oJ E C):=u8 X hm hg hd hs;have h2:PS (dM (bI P w) P w K mg base N qual scope f cd A outer s0 H0 E) (.Raise (some (.Call (.Name x np) [.Constant (.str msg) jj apos] [] cpos)) none pos) (oJ E C):=
  za h1 fun e s h=>wpAny_mono h (fun _ _ z=>⟨C,z⟩) fun _ _ z=>⟨C,z⟩
 refine ck h2 ?_
 rintro D σ H ⟨δ,M,DD,s,h,up⟩
 exact ux C M h H s.rh s.i0
end
section
variable {X:Cx}{B:Bd}
def Eg(C:Addr)(T:Sd)(n:Nat)(ta:fO)(ts:aC):aC:=fun D δ M=>ta δ M fun ds M1=>ds.length=n/\calls T (fun C' M2=>C'=C/\ts D δ M2) ds M1 (fun _ M2=>D.nx δ M2) ⟨⟩
theorem SR.mark{δ:Dl}{M:Mem}{σ:L2.St}{H:Hp}{e:Value}(s:SR X B δ M σ H):SR (X.marked e) B δ M σ H:=⟨s.i0,s.rh,s.rs⟩
theorem SR.unmark{δ:Dl}{M:Mem}{σ:L2.St}{H:Hp}{e:Value}(s:SR (X.marked e) B δ M σ H):SR X B δ M σ H:=⟨s.i0,s.rh,s.rs⟩
theorem UpD.mark{M:Mem}{H:Hp}{DD:DEnds}{D:Ends}{e:Value}(u:UpD X B M H DD D):UpD (X.marked e) B M H DD D:=
 ⟨fun δ M q σ H' f s=>u.nx δ M q σ H' f s.unmark,u.rt,fun δ M q σ H' f s=>u.bk δ M q σ H' f s.unmark,fun δ M q σ H' f s=>u.ct δ M q σ H' f s.unmark⟩
theorem zi{P:Program}{w:World}{K:W.Frag}{mg:Str->Option Value}{base:Heap}{k:Nat}{f C:Addr}{fd:FuncData}{ps:List Str}{sp:Sp}(F:FnOk P w K mg base (bI P w) k f fd ps sp):
  FnOk P w K mg base (oi P w C) k f fd ps (fun vs H Q E=>sp vs H Q fun Cv a H'=>Cv=.ref C/\E Cv a H'):=
 ⟨fun vs H Q E h=>F.len _ _ _ _ h,fun A outer s H args us vs Q E hr he hb hv hs=>codeAny_mono (F.run A outer s H args us vs Q _ hr he hb hv hs) fun r s' h=>by
  cases r with
  |ok fl=>cases fl<;>exact h
  |error e=>
   obtain ⟨C',ea,H',B,a0,e1,e2,e3,e4,e5,e6,e7,e8,e9,e10⟩:=h;have eC:C'=C:=by injection e9
   subst eC;exact ⟨ea,H',B,a0,e1,e2,e3,e4,e5,e6,e7,e8,e10⟩⟩
theorem oX{C f:Addr}{k n:Nat}{fd:FuncData}{ps:List Str}{T:Sd}{x cx:Str}{p cp ep np hpos pos:Pos}{e:Expr}{es:List Expr}{ta:fO}{b₀:Stmt}{suite:List Stmt}{ts:aC}
  (hst:X.stack=X.env::X.outer) (hfL:X.env.frame=some X.env.locals) (F:FnOk X.prog X.w X.K X.mg X.base (bI X.prog X.w) k f fd ps (av X.K n T)) (hr:Room k X.A) (hg:Gl X x) (hm:X.mg x=some (.ref f)) (hk:W.keepIn X.K (.ref f)=true) (hb:Binds X.K fd ps [])
  (ha:DA X.nox B (e::es) ta) (EX:ExcAt X.K C) (hgC:Gl X cx) (hmC:X.mg cx=some (.ref C)) (hsu:∀ea:Addr,wy (X.marked (.ref ea)) B (b₀::suite) ts)
  (hdb:(x==("__debug__":Str))=false:=by decide) (hdC:(cx==("__debug__":Str))=false:=by decide) (he:starEach (e::es) X.env=(false,eval e X.env)::starEach es X.env:=by rfl) (hpl:(backTo cp (starEach es X.env)).any (·.1)=false:=by rfl)
  (hsw:swapsWith (.Call (.Name x p) (e::es) [] cp) none ep.line X.env=pure false:=by rfl):
  DS X B (.Try [.Expr (.Call (.Name x p) (e::es) [] cp) ep] [.ExceptHandler (some (.Name cx np)) none (b₀::suite) hpos] [] [] pos) (Eg C T n ta ts):=by
 have hsu':∀ea:Addr,pM (X.marked (.ref ea)) (b₀::suite) (liftS X B ts):=fun ea=>jb (hsu ea) fun D σ H ⟨δ,M,DD,s,h,u⟩=>⟨δ,M,DD,s.mark,h,u.mark⟩;refine ck (oG (C:=C) hst hfL (zi F) hr hg hm hk hb .nil ha EX hgC hmC hsu' hdb hdC he hpl hsw) ?_
 rintro D σ H ⟨δ,M,DD,s,h,up⟩
 refine ⟨δ,M,_,⟨s.i0,s.rh,s.rs⟩,h,fun ds M1 h1 vs H1 rh1 i1 r1=>?_⟩
 try dsimp only
 rw [List.append_nil];refine dW h1.2 rh1 r1 (by rw [<- r1.length];exact h1.1) (fun d M2 h2 v H2 rh2 i2 r2=>?_) fun C' M2 h2 H2 rh2 i2=>?_
 ·exact up.nx _ _ h2 σ H2 (i1.trans i2) (s.go rh2 (i1.trans i2))
 ·obtain ⟨rfl,h2⟩:=h2
  exact ⟨rfl,δ,M2,DD,s.go rh2 (i1.trans i2),h2,up.go (i1.trans i2)⟩
end
end L3
namespace L2
open PySem PySem.Spec PyProof.Rows
theorem eN{scope:Scope}{env:Env}{x:Str}{k:NameKind}(h:(relabel scope env).names.lookup x=some k):∃k',(x,k')∈scope.names/\(k=k'\/(k'=.free/\k=.cell)):=by
 have hm:=PySem.mem_of_lookup h;obtain ⟨⟨n,kk⟩,h1,h2⟩:=List.mem_map.mp hm
 by_cases hc:(kk==NameKind.free&&env.scope.kind==.function&&env.kindOf n==some .cell)=true
 ·have h2':(n,NameKind.cell)=(x,k):=by rw [<- h2];show _=(if _ then _ else _);rw [if_pos hc]
  cases h2';have hf:kk=.free:=by
   simp only [Bool.and_eq_true] at hc;exact beq_iff_eq.mp hc.1.1
  exact ⟨kk,h1,.inr ⟨hf,rfl⟩⟩
 ·have h2':(n,kk)=(x,k):=by rw [<- h2];show _=(if _ then _ else _);rw [if_neg hc]
  cases h2';exact ⟨_,h1,.inl rfl⟩
theorem gI{x:Str}:∀{fs:List Str} {cs:List Addr},fs.length=cs.length->x∈fs->∃c,(fs.zip cs).lookup x=some c
 |[],_,_,h=>by cases h
 |_::_,[],h,_=>by simp at h
 |y::fs,c::cs,hl,h=>by
  rw [List.zip_cons_cons,List.lookup_cons];cases e:x==y with
  |true=>exact ⟨c,rfl⟩
  |false=>
   have ne:¬x=y:=fun z=>by rw [z] at e;simp at e
   rcases List.mem_cons.mp h with z|z
   ·exact absurd z ne
   ·exact gI (by simpa using hl) z
theorem b_{X:Cx}{scope:Scope}{ls fs:List Str}{cs:List Addr}{js:List Nat}(hk:scope.kind=.function)(hn:∀y∈scope.names,y.2≠.cell/\(y.2=.free->y.1∈fs))(hl:∀x∈scope.names,x.2=.local->scope.names.lookup x.1=some .local)
  (hlen:fs.length=cs.length) (hcl:closureFor scope X.env=pure (fs.zip cs)) (hc:∀p∈fs.zip cs,X.env.cells.lookup p.1=some p.2) (hf:Frees X scope fs js):CompOk X scope (fs.zip cs) ls fs js where
 kind:=hk
 nocell:=fun y hy=>(hn y hy).1
 locs:=hl
 clos:=hcl
 cells:=fun y d h=>hc (y,d) (PySem.mem_of_lookup h)
 has:=fun y h=>by
  have hy:y∈fs:=by
   rcases h with h|h
   ·obtain ⟨k',h1,h2|⟨h2,_⟩⟩:=eN h
    ·exact absurd h2.symm (hn _ h1).1
    ·exact (hn _ h1).2 h2
   ·obtain ⟨k',h1,h2|⟨h2,_⟩⟩:=eN h
    ·exact (hn _ h1).2 h2.symm
    ·exact (hn _ h1).2 h2
  exact gI hlen hy
 frees:=hf
theorem fS{α:Type}{C:α->Prop}:∀p∈([]:List α),C p:=fun _ h=>by cases h
theorem dF{α:Type}{C:α->Prop}{a:α}{l:List α}(ha:C a)(hl:∀p∈l,C p):∀p∈a::l,C p:=fun p hp=>by
 rcases List.mem_cons.mp hp with rfl|z
 ·exact ha
 ·exact hl p z
end L2
namespace L3
open PySem L2
section
variable {X:Cx}{B:Bd}{pos:Pos}
theorem ai(i:Nat){x:Str}{pos:Pos}(hN:X.N[i]?=some x:=by rfl)(hv:Cn X.env.scope x:=by first|exact Or.inl rfl|exact Or.inr (Or.inl rfl)|exact Or.inr (Or.inr rfl))(hd:(x==("__debug__":Str))=false:=by decide)
  (hcd:(x==("__classdict__":Str))=false:=by decide):DE X B (.Name x pos) (aa i):=B6 hN hv hd hcd
def jA:DX:=fun _ _=>False
theorem zn{K:W.Frag}{E:XK}:B1 K B jA E:=fun _ _ z=>z.elim
theorem bt_list':bootBuiltins "list"=some (.type "list"):=by decide +kernel
theorem aV:bootBuiltins "tuple"=some (.type "tuple"):=by decide +kernel
theorem eS:bootBuiltins "isinstance"=some (.builtin "isinstance"):=by decide +kernel
theorem tq:bootBuiltins "bool"=some (.type "bool"):=by decide +kernel
theorem ff:bootBuiltins "int"=some (.type "int"):=by decide +kernel
theorem xa:bootBuiltins "str"=some (.type "str"):=by decide +kernel
theorem rD:bootBuiltins "min"=some (.builtin "min"):=by decide +kernel
theorem bn:bootBuiltins "len"=some (.builtin "len"):=by decide +kernel
theorem zN{x:Str}{T:String}(hg:Gl X x)(hm:X.mg x=none)(hv:bootBuiltins x=some (.type T))(hn:x≠"__name__":=by decide)(hd:(x==("__debug__":Str))=false:=by decide):DE X B (.Name x pos) (dC (.ty T)):=
 tz (xg (v:=.ty T) hg hm hv rfl hn hd) fun _=>rfl
def frzs:List D->Mem->(List D->Mem->Prop)->Prop
 |[],M,Q=>Q [] M
 |d::ds,M,Q=>match d with
  |.ref a=>match M a with
   |some (.lst xs)=>frzs ds (M.del a) fun es M'=>Q (.lst xs::es) M'
   |_=>frzs ds M fun es M'=>Q (d::es) M'
  |_=>frzs ds M fun es M'=>Q (d::es) M'
theorem gb{pins:List (Addr×Obj)}{σ:L2.St}{s:Shared}:∀{ds:List D} {vs:List V} {M:Mem} {H:Hp} {Q:List D->Mem->Prop},Inv X pins σ H s->RepH X.K H M->Rps X.K H ds vs->frzs ds M Q->
  ∃H' es M',Inv X pins σ H' s/\RepH X.K H' M'/\Frm M H M' H'/\Rps X.K H' es vs/\Q es M'
 |[],vs,M,H,Q,I,rh,r,h=>⟨H,[],M,I,rh,Frm.refl,r,h⟩
 |d::ds,vs,M,H,Q,I,rh,r,h=>by
  obtain ⟨v,vs',rfl,a,b⟩:=r;unfold frzs at h
  split at h
  ·rename_i a'
   cases a
   split at h
   ·rename_i xs e
    obtain ⟨ws,h1,h2⟩:=rh _ _ e;obtain ⟨o,I2⟩:=Inv.freeze I h1;have im:Imm H (upd H a' (.frz o (.lst ws))):=Imm.upd (by rw [h1];trivial)
    obtain ⟨H',es,M',I',rh',f,r',q⟩:=gb I2 (rh.freeze h1) (b.mono im) h;refine ⟨H',_,M',I',rh',(Frm.del ⟨_,e⟩).trans f,.cons ?_ r',q⟩;have z:Rp X.K (upd H a' (.frz o (.lst ws))) (.lst xs) (.ref a'):=⟨a',ws,rfl,⟨o,upd_same⟩,h2.mono im⟩;exact z.mf (rh.freeze h1) f
   ·obtain ⟨H',es,M',I',rh',f,r',q⟩:=gb I rh b h
    exact ⟨H',_,M',I',rh',f,.cons (d:=.ref a') rfl r',q⟩
  ·obtain ⟨H',es,M',I',rh',f,r',q⟩:=gb I rh b h
   exact ⟨H',_,M',I',rh',f,.cons (a.mf rh f) r',q⟩
def vj(d:D)(M:Mem)(Q:DK):Prop:=match d with
 |.tup ds=>frzs ds M fun es M'=>Q (.tup es) M'
 |d=>Q d M
def zx(t:bM):bM:=fun δ M Q=>t δ M fun d M'=>vj d M' Q
theorem yO{e:Expr}{te:bM}(h:DE X B e te):DE X B e (zx te):=by
 intro pins s σ H Q I hq;obtain ⟨δ,M,QQ,sr,hT,u⟩:=hq;refine thn (h pins s σ H (fun v H'=>∃d M',RepH X.K H' M'/\Frm M H M' H'/\Rp X.K H' d v/\vj d M' QQ) I ⟨δ,M,_,sr,hT,fun d M' q v H' rh i r=>⟨d,M',rh,i,r,q⟩⟩) ?_
 rintro w s' ⟨v,H',I',rv,d,M',rh,i,r,q⟩
 unfold vj at q
 split at q
 ·obtain ⟨p,vs,rfl,ht,r⟩:=r
  obtain ⟨H2,es,M2,I2,rh2,f2,r2,q2⟩:=gb I' rh r q;exact ⟨.ref p,H2,I2,rv,u _ _ q2 _ H2 rh2 (i.trans f2) ⟨p,vs,rfl,ht.mono (f2.imm rh),r2⟩⟩
 ·exact ⟨v,H',I',rv,u _ _ q v H' rh i r⟩
theorem zZ{P:Program}{w:World}{K:W.Frag}{mg:Str->Option Value}{base:Heap}{k n:Nat}{f:Addr}{fd:FuncData}{ps:List Str}{T:Sd}(F:FnOk P w K mg base (bI P w) k f fd ps (av K n T)):
  FnOk P w K mg base CX0 k f fd ps (fun vs H Q _=>av K n T vs H Q E0):=
 ⟨fun vs H Q E h=>F.len _ _ _ _ h,fun A outer s H args us vs Q E hr he hb hv hs=>codeAny_mono (F.run A outer s H args us vs Q E0 hr he hb hv hs) fun r s' h=>by
  cases r with
  |ok fl=>cases fl<;>exact h
  |error e=>
   obtain ⟨C',ea,H',B,a0,e1,e2,e3,e4,e5,e6,e7,e8,e9⟩:=h;exact (show False from e9).elim⟩
theorem xO{K:W.Frag}{T:Sd}{H:Hp}{a:Addr}{ns:List Int}{Q:VK}(hO:vf H)(hS:SqL K H a (ns.map V.int))(h:T [.ml (ns.map D.int)] (fun _=>none) (fun d _=>d=.bl true) jA)(k:∀H',Q (.bl true) H'):av K 1 T [.ref a] H Q E0:=by
 refine ⟨rfl,[.ml (ns.map D.int)],fun _=>none,_,_,fun b o e=>(by cases e),.cons ⟨a,_,rfl,?_,oh rfl⟩ .nil,h,fun d M' q v H' rh f r=>?_,fun _ _ z=>z.elim⟩
 ·rcases hS with (z|z)|z
  ·rcases hO a with e|⟨o,xs,e⟩
   ·rw [e] at z;cases z
   ·rw [e] at z;cases z
  ·exact .inl z
  ·exact .inr z
 ·subst q;cases r;exact k H'
end
theorem gX{K:W.Frag}{h h':Heap}{N:Addr}(X:K.In h)(X':K.In h')(e:W.nsOkIn K N=true):h'.nsMap N=h.nsMap N:=by
 unfold W.nsOkIn at e
 split at e
 ·rename_i ho
  funext x;unfold Heap.nsMap;rw [X _ _ ho,X' _ _ ho]
 ·cases e
theorem iT{K:W.Frag}{h:Heap}{C:Addr}(X:K.In h)(q:W.excIn K C [.type "ValueError",.type "Exception",.type "BaseException",.type "object"] "ValueError.__new__"=true):ExcAt K C:=by
 unfold W.excIn at q
 split at q
 ·rename_i dd cd sl ho
  split at q
  ·rename_i C' bm k0 k1 k2 k3 n k5 hm hs
   simp only [Bool.and_eq_true,beq_iff_eq,Bool.not_eq_true'] at q;obtain ⟨⟨⟨⟨⟨rfl,rfl⟩,hdel⟩,ht⟩,hok⟩,hni⟩:=q;obtain ⟨nm,bs,mro,ns,qn,hd,sn,sub,ab,col,del⟩:=cd;dsimp only at hm hdel hok hni;subst hm hdel;have hsl:sl=#[k0,k1,k2,k3,some (.builtin "ValueError.__new__"),k5]:=by
    obtain ⟨l⟩:=sl;simp only at hs;rw [hs]
   subst hsl;refine ⟨⟨nm,qn,ns,bs,bm,_,hd,sn,sub,ab,col,dd,k0,k1,k2,k3,k5,"ValueError.__new__","ValueError.__init__","ValueError",h.nsMap ns,fun h' X'=>⟨X' _ _ ho,?_,W.tail_of_in X' ht⟩,W.nsMap_none_of_in X hok hni,PySem.F.excBase_ValueError,by decide,(W.tail_of_in X ht).hasType (by decide)⟩⟩
   rw [<- gX X X' hok];exact .of_isNs (W.isNs_of_in X' hok)
  ·cases q
 ·cases q
end L3
namespace L2
open PySem
theorem yq{elt:Expr}{gens:List Comprehension}{scope:Scope}{pos px:Pos}{x:Str}{line:Nat}{env:Env}(h1:env.blockKind=.function)(h2:env.scope.names.lookup x=some .local)(h3:px.line=pos.line)
  (h4:(scope.names.any fun (n,k)=>n==x&&(k==.local||k==.cell))=false):swapsWith (.ListComp elt gens scope pos) (some (.Name x px)) line env=pure true:=by
 have e:(Expr.ListComp elt gens scope pos).pos=pos:=rfl;have h2':env.kindOf x=some .local:=h2;unfold swapsWith
 try dsimp only
 rw [h1,h2',e,h3,h4];simp
end L2
namespace L3
open PySem L2
def wb:Expr->Bool
 |.Starred ..=>false
 |_=>true
theorem t3{e:Expr}{es:List Expr}{env:Env}(h:wb e=true):starEach (e::es) env=(false,eval e env)::starEach es env:=by
 cases e<;>first|rfl|exact Bool.noConfusion h
section
variable {X:Cx}{B:Bd}
theorem fo{e:Expr}{es:List Expr}{te:bM}{t:fO}(ha:DE X B e te)(hr:DA X B es t)(hp:wb e=true:=by rfl):DA X B (e::es) (a9 te t):=a8 ha hr (t3 hp)
def jC:tj:=fun ds M Q=>match ds with
 |[.bl b]=>Q (.int (if b=true then 1 else 0)) M
 |_=>False
theorem cY:cr X (.type "int") (liftC X jC):=by
 intro pins s σ H xs us Q I r h;obtain ⟨ds,M,QQ,rh,rp,h,up⟩:=h;unfold jC at h
 split at h
 ·rename_i b
  obtain ⟨v,rfl,rv⟩:=gS (ds:=[]) rp;cases rv;obtain ⟨u,rfl,ru⟩:=j3 r;cases ru;exact call_int_bool ⟨.int _,H,I.tok _,⟨_,rfl⟩,up _ M h _ H rh Frm.refl rfl⟩
 ·exact h.elim
end
end L3
namespace L3
open PySem L2
section
variable {X:Cx}{B:Bd}
end
end L3
namespace L3
open PySem L2
section
variable {X:Cx}{B:Bd}
def vP(n:Nat)(t:jI):ic:=fun d δ M Q=>match d with
 |.lst xs=>xs.length=n/\t xs δ M Q
 |.ref a=>match M a with
  |some (.lst xs)=>xs.length=n/\t xs δ M Q
  |_=>False
 |_=>False
theorem oU{es:List Expr}{k:Nat}{t:jI}{n:Nat}{pos:Pos}(hc:X.calm=true)(h:Ej X B es t)
  (hn:(assignEach es X.env).length=n:=by rfl) (hst:(assignEach es X.env).findIdx? (·.1)=none:=by rfl):DG X B (.Tuple es k pos) (vP n t):=by
 intro pins s σ H v u Q I r hw;obtain ⟨d,δ,M,QQ,sr,rv,hd,up⟩:=hw;cases d with
 |lst xs=>
  obtain ⟨p,vs,rfl,ht,rr⟩:=rv;obtain ⟨hl,hd⟩:=hd;cases r;obtain ⟨its,rvv,pl,hz⟩:=I.list ht.sq;have hsz:(assignEach es X.env).length=its.toArray.size:=by have:=rvv.length;have:=rr.length;simp [hn];lia
  rw [PyProof.Rows.assign_Tuple];refine wpAny_bind (wpAny_standAt ?_);unfold unpack;rw [hsz,hst];refine wpAny_bind (wpAny_holding (W.kun_itemsOf (I.ok.hd hc) pl.isList fun h' hx=>?_));have I1:Inv X pins σ H { s with heap:=h' }:=I.kept (t':=s.toks) fun b o e=>hx b o (Nat.ne_of_lt (Heap.lt_size e)) e;exact h pins _ σ H vs _ Q I1 (by simpa using rvv) ⟨xs,δ,M,QQ,sr,rr,hd,up⟩
 |ref p=>
  cases rv;simp only [vP] at hd
  split at hd
  ·rename_i xs e
   obtain ⟨vs,h1,rr⟩:=sr.rh _ _ e;obtain ⟨hl,hd⟩:=hd;cases r;obtain ⟨its,rvv,pl,hz⟩:=I.list (gA h1);have hsz:(assignEach es X.env).length=its.toArray.size:=by have:=rvv.length;have:=rr.length;simp [hn];lia
   rw [PyProof.Rows.assign_Tuple];refine wpAny_bind (wpAny_standAt ?_);unfold unpack;rw [hsz,hst];refine wpAny_bind (wpAny_holding (W.kun_itemsOf (I.ok.hd hc) pl.isList fun h' hx=>?_));have I1:Inv X pins σ H { s with heap:=h' }:=I.kept (t':=s.toks) fun b o e=>hx b o (Nat.ne_of_lt (Heap.lt_size e)) e;exact h pins _ σ H vs _ Q I1 (by simpa using rvv) ⟨xs,δ,M,QQ,sr,rr,hd,up⟩
  ·exact hd.elim
 |_=>exact (show False from hd).elim
end
end L3
namespace L3
open PySem L2
section
variable {X:Cx}{B:Bd}
end
end L3
namespace LS
open PySem
end LS
namespace LS
open PySem
section
variable {prog:Program}{w:World}{K:Type}[DecidableEq K]{A:Around}{E:Value->Shared->Prop}{s:Shared}
variable {knd:KeyKind prog w K}
end
end LS
namespace LS
open PySem
section
variable {prog:Program}{w:World}{K:Type}[DecidableEq K]{A:Around}{E:Value->Shared->Prop}{s:Shared}{knd:KeyKind prog w K}
end
end LS
namespace LS
open PySem
section
variable {M:Model}{A:Around}{E:Value->Shared->Prop}
end
end LS
namespace LS
open PySem
section
variable {prog:Program}{w:World}{A:Around}{E:Value->Shared->Prop}{s:Shared}{I a:Addr}{f:Value}{i n ep:Nat}{es:Array (Int×Value)}{t:SetTable}
end
end LS
namespace LS
open PySem
section
variable {prog:Program}{w:World}{A:Around}{E:Value->Shared->Prop}{s:Shared}{I a:Addr}{ep:Nat}{es:Array (Int×Value)}{t:SetTable}
end
end LS
namespace LS
open PySem PySem.W PySem.Calls PyProof.Rows PyProof.V PySem.Spec
section
variable {prog:Program}{w:World}{A:Around}{E:Value->Shared->Prop}{s:Shared}{a:Addr}{ep:Nat}{es:Array (Int×Value)}{t:SetTable}
end
end LS
namespace LS
open PySem
section
variable {prog:Program}{w:World}{A:Around}{E:Value->Shared->Prop}{s:Shared}{a:Addr}
end
end LS
namespace LS
open PySem
section
variable {K:Type}[DecidableEq K](o:Ord K)
end
end LS
namespace L3
open PySem L2 LS
section
variable {X:Cx}{B:Bd}
end
end L3
namespace LS
open PySem
section
variable {prog:Program}{w:World}{A:Around}{E:Value->Shared->Prop}{s:Shared}{a:Addr}
end
end LS
namespace L3
open PySem L2 LS
def Ag:List D->Option (List Int)
 |[]=>some []
 |.int i::ds=>match Ag ds with
  |some is=>some (i::is)
  |none=>none
 |_=>none
section
variable {X:Cx}{B:Bd}
end
end L3
namespace L2
open PySem
section
variable {X:Cx}
theorem vt(hc:X.calm=true):cr X (.builtin "any") (fun xs H Q=>∃(l:Addr) (bs:List Bool),xs=[.ref l]/\SqL X.K H l (bs.map V.bl)/\Q (.bl (bs.any id)) H):=by
 intro pins s σ H xs us Q I r h;obtain ⟨l,bs,rfl,hq,q⟩:=h;obtain ⟨u,rfl,ru⟩:=r.one;cases ru;obtain ⟨its,rv,p,hz⟩:=I.list hq;have hl:=rv.length;have hli:l<s.heap.objs.size:=by obtain ⟨o,e,_⟩:=p.isList;exact Heap.lt_size e
 have hne:l≠s.heap.objs.size:=Nat.ne_of_lt hli;have val:∀(i:Nat) (v:Value),its.toArray[i]?=some v->∃c,bs[i]?=some c/\v=.bool c:=fun i v hv=>by
  have hv':its[i]?=some v:=by simpa using hv
  have hi:i<bs.length:=by
   have:=(List.getElem?_eq_some_iff.mp hv').1;rw [List.length_map] at hl;lia
  obtain ⟨w',h1,h2⟩:=rv.get (i:=i) (x:=.bl bs[i]) (by rw [List.getElem?_map,List.getElem?_eq_getElem hi];rfl)
  rw [hv'] at h1;cases h1;exact ⟨bs[i],List.getElem?_eq_getElem hi,h2⟩
 have hsz:its.toArray.size=bs.length:=by rw [List.size_toArray,<- hl,List.length_map]
 refine call_any_walk (wpAny_pyIter_list p.isList ⟨s.heap.objs.size,_,_,_,_,_,fun i=>bs.getD i false,rfl,Walks.list (A:=X.A.in1) (I.ok.hd hc) s.heap.objs.size l hne its.toArray,⟨⟨_,Heap.get?_push_size _ rfl,rfl,rfl⟩,p.isList.push _⟩,fun i v s' Q' E' hv hq'=>?_,fun h' tk hk=>?_⟩)
 ·obtain ⟨c,h1,rfl⟩:=val i v hv
  refine wpAny_truthy_bool ?_;have eb:bs.getD i false=c:=by rw [List.getD_eq_getElem?_getD,h1];rfl
  have hq2:Q' (bs.getD i false) s':=hq';rw [eb] at hq2;exact hq2
 ·have e:(List.range its.toArray.size).any (fun i=>bs.getD i false)=bs.any id:=by
   rw [hsz,Bool.eq_iff_iff,List.any_eq_true,List.any_eq_true];constructor
   ·rintro ⟨i,hi,h⟩
    have hi':=List.mem_range.mp hi;rw [List.getD_eq_getElem?_getD,List.getElem?_eq_getElem hi'] at h;exact ⟨_,List.getElem_mem hi',h⟩
   ·rintro ⟨b,hb,h⟩
    obtain ⟨i,hi,rfl⟩:=List.mem_iff_getElem.mp hb;exact ⟨i,List.mem_range.mpr hi,by rw [List.getD_eq_getElem?_getD,List.getElem?_eq_getElem hi];exact h⟩
  rw [e];refine ⟨.bl (bs.any id),H,?_,rfl,q⟩;exact I.kept (t':=tk) fun b o hb=>hk b o (by simp;exact Nat.ne_of_lt (Heap.lt_size hb)) (Heap.get?_push_of_some _ hb)
end
end L2
namespace L3
open PySem L2 LS
section
variable {X:Cx}{B:Bd}
def B9:tj:=fun ds M Q=>match ds with
 |[d]=>match seqL M d with
  |some xs=>match kj xs with
   |some bs=>Q (.bl (bs.any id)) M
   |none=>False
  |none=>False
 |_=>False
theorem sU(hc:X.calm=true):cr X (.builtin "any") (liftC X B9):=by
 intro pins s σ H xs us Q I r h;obtain ⟨ds,M,QQ,rh,rp,h,up⟩:=h;unfold B9 at h
 split at h
 ·obtain ⟨v,rfl,rv⟩:=gS (ds:=[]) rp
  split at h
  ·rename_i ys e
   split at h
   ·rename_i bs eb
    obtain ⟨q,vs,rfl,hq,rr⟩:=fi rh rv e;have ev:=ke rr eb;subst ev;exact vt hc pins s σ H _ us Q I r ⟨q,bs,rfl,.inl hq,up _ M h _ H rh Frm.refl rfl⟩
   ·exact h.elim
  ·exact h.elim
 ·exact h.elim
theorem zw:bootBuiltins "any"=some (.builtin "any"):=by decide +kernel
theorem sK:bootBuiltins "range"=some (.type "range"):=by decide +kernel
def jc(t:fO):bM:=fun δ M Q=>t δ M fun ds M1=>match ds with
 |[.int j]=>(-(2 ^ 62)<=j/\j<=1000)/\∀p,M1 p=none->Q (.ref p) (M1.upd p (.lst (bT 0 j.toNat)))
 |_=>False
def pb(n:Nat):List V:=(List.range n).map fun (i:Nat)=>V.int (0+(i:Int))
theorem y4{K:W.Frag}{H:Hp}{n:Nat}:Rps K H (bT 0 n) (pb n):=by
 unfold bT pb;generalize List.range n=l
 induction l with
 |nil=>rfl
 |cons i l ih=>exact ⟨_,_,rfl,rfl,ih⟩
theorem wc{acc:Array Value}{n:Nat}(h:ItemsOf (fun i v=>∃t,v=.int (0+i*1) t) acc n):Vals (pb n) acc.toList:=by
 obtain ⟨h1,h2⟩:=h;have key:∀(l:List Value) (k m:Nat),l.length=m->(∀(j:Nat) (v:Value),l[j]?=some v->∃t,v=.int (0+((k+j:Nat):Int)) t)->Vals ((List.range' k m).map fun (i:Nat)=>V.int (0+(i:Int))) l:=by
  intro l
  induction l with
  |nil=>intro k m e _;subst e;exact .nil
  |cons x l ih=>
   intro k m e h;subst e;rw [List.length_cons,List.range'_succ,List.map_cons];refine .cons ?_ (ih (k+1) _ rfl fun j v q=>?_)
   ·obtain ⟨t,rfl⟩:=h 0 x (by simp)
    exact ⟨t,rfl⟩
   ·obtain ⟨t,e⟩:=h (j+1) v (by simpa using q)
    exact ⟨t,by rw [e];congr 2;lia⟩
 have:=key acc.toList 0 n (by simpa using h1) fun j v q=>by
  obtain ⟨t,e⟩:=h2 j v (by simpa using q)
  exact ⟨t,by rw [e,Int.mul_one,Nat.zero_add]⟩
 unfold pb;rw [List.range_eq_range'];exact this
def uz(t:TA):TE:=fun σ H Q=>t σ H fun vs H1=>∃j:Int,vs=[.int j]/\(-(2 ^ 62)<=j/\j<=1000)/\∀p,H1 p=none->Q (.ref p) (upd H1 p (.lst (pb j.toNat)))
theorem ph{e:Expr}{t:TA}{p p2 pos pos2:Pos}(hc:X.calm=true)(hg:Gl X "range")(hm:X.mg "range"=none)(hg2:Gl X "list")(hm2:X.mg "list"=none)(ha:PA X [e] t)
  (hs:starEach [e] X.env=[(false,eval e X.env)]:=by rfl) (hs3:starEach [Expr.Call (.Name "range" p2) [e] [] pos2] X.env=[(false,eval (.Call (.Name "range" p2) [e] [] pos2) X.env)]:=by rfl):
  PE X (.Call (.Name "list" p) [.Call (.Name "range" p2) [e] [] pos2] [] pos) (uz t):=by
 intro pins s σ H Q I h;refine wpAny_Call_Name_kw (ld_blt I hg2 hm2 bt_list' (PyProof.Rows.callWith_type1 ?_ hs3 rfl));rw [hs3];show wpAny _ _ (spliced ((false,_)::backTo pos [])) _ _ s;refine Calls.spliced_cons ?_;refine wpAny_Call_Name_kw (ld_blt I hg hm sK (PyProof.Rows.callWith_type1 (thn (ha pos2 pins s σ H _ I h) fun us s1 ⟨vs,H1,I1,r1,q1⟩=>?_) hs rfl));obtain ⟨j,rfl,⟨j0,j1⟩,q⟩:=q1;obtain ⟨u,rfl,ru⟩:=j3 r1;obtain ⟨t',rfl⟩:=ru;refine call_range_1 ?_;refine Calls.spliced_nil ?_;have hh:=I1.ok.hd hc;refine call_list_range (n:=j.toNat) hh (IsRange.new ..) (small_one (by decide) (by decide) j0 (by lia)) (by rw [rangeSize_one];split<;>lia) (by lia) fun h' tk acc c' k1 hS hacc=>?_
 have hsz:(s1.heap.push { cls:=.type "range",data:=.fields #[.int 0 s1.toks,.int j t',.int 1 (s1.toks+1)] }).objs.size=s1.heap.objs.size+1:=Heap.size_push ..;have hn:H1 (s1.heap.objs.size+1)=none:=I1.hok.fresh (Nat.le_succ _);have hS':h'.get? (s1.heap.objs.size+1)=some { cls:=.type "list",dict:=none,data:=.seq acc c',slots:=#[] }:=by rw [<- hsz];exact hS
 refine ⟨.ref (s1.heap.objs.size+1),_,I1.laid (t':=tk) (o:=.lst (pb j.toNat)) (fun b o z=>k1 b o (Heap.get?_push_of_some _ z)) (Nat.le_succ _) (show ObjOk X.prog X.w _ _ _ (.lst _) from ⟨?_,acc.toList,c',wc hacc,by rw [Array.toArray_toList];exact hS'⟩),?_,q _ hn⟩
 ·simp only [pb,List.length_map,List.length_range]
  exact Nat.le_trans (by lia:j.toNat<=1000) (by decide)
 ·show Value.ref _=Value.ref _
  rw [<- hsz]
theorem jq{e:Expr}{t:fO}{p p2 pos pos2:Pos}(hc:X.calm=true)(hg:Gl X "range")(hm:X.mg "range"=none)(hg2:Gl X "list")(hm2:X.mg "list"=none)(ha:DA X B [e] t)
  (hs:starEach [e] X.env=[(false,eval e X.env)]:=by rfl) (hs3:starEach [Expr.Call (.Name "range" p2) [e] [] pos2] X.env=[(false,eval (.Call (.Name "range" p2) [e] [] pos2) X.env)]:=by rfl):
  DE X B (.Call (.Name "list" p) [.Call (.Name "range" p2) [e] [] pos2] [] pos) (jc t):=by
 refine bg (ph hc hg hm hg2 hm2 ha hs hs3) ?_
 rintro σ H Q ⟨δ,M,QQ,s,h,u⟩
 refine ⟨δ,M,_,s,h,fun ds M1 h1 vs H1 rh1 i1 r1=>?_⟩
 split at h1
 ·obtain ⟨v,rfl,rv⟩:=gS (ds:=[]) r1
  cases rv;refine ⟨_,rfl,h1.1,fun d hd=>?_⟩;exact u _ _ (h1.2 d (rh1.fresh hd)) _ _ (rh1.put (by rw [hd];trivial) ⟨_,upd_same,y4⟩) (i1.trans (Frm.put (.inl hd))) rfl
 ·exact h1.elim
end
end L3
namespace L3
open PySem L2 LS
section
variable {X:Cx}{B:Bd}{name:Str}{a:Addr}{tab:List (Str×D)}
end
end L3
namespace LS
open PySem
section
variable {prog:Program}{w:World}{K:Type}[DecidableEq K]{A:Around}{E:Value->Shared->Prop}{s:Shared}{knd:KeyKind prog w K}
end
end LS
namespace LS
open PySem
section
variable {prog:Program}{w:World}{K:Type}[DecidableEq K]{A:Around}{E:Value->Shared->Prop}{s:Shared}{knd:KeyKind prog w K}
end
end LS
namespace L2
open PySem PySem.Spec
section
variable {X:Cx}{tg:Expr}
end
end L2
namespace L3
open PySem L2 LS
section
variable {X:Cx}{B:Bd}{tg:Expr}{K:W.Frag}{H:Hp}{M:Mem}
end
end L3
namespace L3
open PySem L2
section
variable {X:Cx}{B:Bd}{pos:Pos}
end
end L3
namespace L3
open PySem L2
section
variable {X:Cx}{B:Bd}
end
end L3
namespace L3
open PySem L2 LS
section
variable {X:Cx}{B:Bd}
end
end L3
namespace LS
open PySem PySem.W PySem.Calls PyProof.Rows PyProof.V PySem.Spec
section
variable {prog:Program}{w:World}{K:Type}[DecidableEq K]{knd:KeyKind prog w K}{A:Around}{E:Value->Shared->Prop}{s:Shared}{v d:Addr}{ep:Nat}{kvs:List (K×Value)}
end
end LS
namespace L3
open PySem L2 LS
section
variable {X:Cx}{B:Bd}{pos:Pos}
end
end L3
namespace LX
open PySem PySem.W PySem.Spec PySem.Calls PyProof.Rows Builtin Builtin.ObjectAttr Builtin.Getset_descriptor
section
variable {K:Frag}{prog:Program}{w:World}{A:Around}{E:Value->Shared->Prop}{s:Shared}
end
end LX
namespace LX
open PySem PySem.W PySem.Spec PySem.Calls PyProof.Rows
end LX
namespace L2
open PySem PySem.Spec PyProof.Rows
section
variable {X:Cx}{pins:List (Addr×Obj)}{σ:St}{H:Hp}{s:Shared}{e:Value}
end
end L2
namespace L2
open PySem PySem.Spec PyProof.Rows
end L2
namespace L2
open PySem
end L2
namespace L3
open PySem L2
section
variable {X:Cx}{B:Bd}{K:W.Frag}{H H':Hp}{M M1 M':Mem}
end
section
variable {P:Program}{w:World}{K:W.Frag}{mg:Str->Option Value}{base:Heap}{f:Addr}{fd:FuncData}
end
section
variable {X:Cx}{B:Bd}{K:W.Frag}{H H':Hp}{M M1 M':Mem}
end
end L3
namespace L3
open PySem L2 LS
section
variable {X:Cx}{B:Bd}
end
end L3
namespace L3
open PySem L2
end L3
namespace L3
open PySem L2
section
variable {X:Cx}{B:Bd}
end
end L3
namespace L3
open PySem L2
section
variable {X:Cx}{B:Bd}
variable {C:Addr}{f:Str}{o value:Expr}{ta tv:bM}{pos tpos:Pos}
end
section
variable {X:Cx}{B:Bd}{CX:mI}{k n:Nat}{f C:Addr}{fd:FuncData}{ps:List Str}{T:Sd}{E:XK}{EE:DX}{x:Str}{p pos:Pos}
end
end L3
namespace L3
open PySem L2
section
variable {X:Cx}{B:Bd}{K:W.Frag}{H H':Hp}{M M1 M':Mem}{pos:Pos}
def AA:List (Str×bM)->Dl->Mem->(List D->Mem->Prop)->Prop
 |[],_,M,Q=>Q [] M
 |kt::r,δ,M,Q=>kt.2 δ M fun d M1=>AA r δ M1 fun ds M2=>Q (d::ds) M2
def kg(tab:List (Str×bM)):bM:=fun δ M Q=>∀p,M p=none->AA tab δ (M.upd p (.dK [])) fun ds M1=>M1 p=some (.dK [])/\ds.length<=15/\Q (.ref p) (M1.upd p (.dK (eE (tab.map fun kt=>Sum.inr kt.1) ds)))
theorem mE{δ:Dl}{σ:L2.St}:∀(tab:List (Str×bM)) (M:Mem) (H:Hp) (QQ:List D->Mem->Prop) (Q:List (V×V)->Hp->Prop),SR X B δ M σ H->AA tab δ M QQ->
  (∀ds M',QQ ds M'->∀(vs:List V) H',RepH X.K H' M'->Frm M H M' H'->Rps X.K H' ds vs->Q ((tab.map fun kt=>V.str kt.1).zip vs) H')->lf (tab.map fun kt=>(tC (.str kt.1),liftE X B kt.2)) σ H Q
 |[],M,H,QQ,Q,s,h,u=>u [] M h [] H s.rh Frm.refl rfl
 |kt::r,M,H,QQ,Q,s,h,u=>by
  show liftE X B kt.2 σ H _;refine ⟨δ,M,_,s,h,fun d M1 h1 v H1 rh1 i1 r1=>?_⟩;refine mE r M1 H1 _ _ (s.go rh1 i1) h1 fun ds M2 h2 vs H2 rh2 i2 r2=>?_;exact u _ _ h2 (v::vs) H2 rh2 (i1.trans i2) ⟨v,vs,rfl,r1.mf rh1 i2,r2⟩
theorem tW:∀(tab:List (Str×bM)) (vs:List V),(tab.map fun kt=>V.str kt.1).zip vs=((tab.map fun kt=>(Sum.inr kt.1:aT)).zip vs).map fun kv=>(kV kv.1,kv.2)
 |[],_=>rfl
 |_::_,[]=>rfl
 |kt::r,v::vs=>by
  simp only [List.map_cons,List.zip_cons_cons,tW r vs];rfl
theorem lT{keys:List (Option Expr)}{values:List Expr}{tab:List (Str×bM)}(h:zG X pos keys values (tab.map fun kt=>(tC (.str kt.1),liftE X B kt.2)))(hall:keys.all (·.isSome)=true)(hl:keys.length=values.length)(h0:keys≠[])
  (h15:keys.length<=15):DE X B (.Dict keys values pos) (kg tab):=by
 refine bg (xD h hall hl h0 h15) ?_
 rintro σ H Q ⟨δ,M,QQ,s,h,u⟩ p hp
 have hMp:=s.rh.fresh hp;have rh1:RepH X.K (upd H p (.dK [])) (M.upd p (.dK [])):=s.rh.put (by rw [hp];trivial) ⟨[],upd_same,.nil⟩
 have f1:Frm M H (M.upd p (.dK [])) (upd H p (.dK [])):=Frm.put (.inl hp);refine mE tab _ _ _ _ (s.go rh1 f1) (h p hMp) fun ds M2 ⟨e,hlen,q⟩ vs H2 rh2 i2 r2=>?_;obtain ⟨ws,e2,hw⟩:=rh2 _ _ e;cases hw;have rk:Rkv X.K H2 (eE (tab.map fun kt=>Sum.inr kt.1) ds) (fN [] ((tab.map fun kt=>(Sum.inr kt.1:aT)).zip vs)):=jz (ks:=tab.map fun (kt:Str×bM)=>(Sum.inr kt.1:aT)) (a:=[]) (b:=[]) r2 .nil;have im:Imm H2 (upd H2 p (.dK (fN [] ((tab.map fun kt=>(Sum.inr kt.1:aT)).zip vs)))):=Imm.upd (by rw [e2];trivial)
 refine ⟨e2,(tab.map fun kt=>(Sum.inr kt.1:aT)).zip vs,tW tab vs,?_,u _ _ q _ _ (rh2.put (by rw [e2];trivial) ⟨_,upd_same,rk.mono im⟩) (f1.trans (i2.trans (Frm.put (.inr ⟨_,e⟩)))) rfl⟩
 have:=r2.length;rw [List.length_zip];lia
theorem lI:zG X pos [] [] (([]:List (Str×bM)).map fun kt=>(tC (.str kt.1),liftE X B kt.2)):=yP
theorem bW{keys:List (Option Expr)}{values:List Expr}{tab:List (Str×bM)}{k:Str}{v:Expr}{T:bM}{j:Nat}{p1:Pos}(hv:DE X B v T)(h:zG X pos keys values (tab.map fun kt=>(tC (.str kt.1),liftE X B kt.2))):
  zG X pos (some (.Constant (.str k) j p1)::keys) (v::values) (((k,T)::tab).map fun kt=>(tC (.str kt.1),liftE X B kt.2)):=tm ot hv h
end
end L3
namespace L3
open PySem L2
section
variable {X:Cx}{B:Bd}
def uC:fZ:=fun x y M Q=>match x,y with
 |.ref a,.int k=>match M a with
  |some (.lst xs)=>-(2 ^ 63)<=k/\k<2 ^ 63/\xs.length*k.toNat<=sizeLine/\∀p,M p=none->Q (.ref p) (M.upd p (.lst (List.replicate k.toNat xs).flatten))
  |_=>False
 |_,_=>False
theorem xY:da X (binaryOp .Mult) (liftR2 X uC):=by
 intro pins s σ H x y v u Q I rx ry h;obtain ⟨d1,d2,M,QQ,rh,r1,r2,h,up⟩:=h;unfold uC at h
 split at h
 ·rename_i a k
  cases r1;cases r2
  split at h
  ·rename_i xs e
   obtain ⟨ws,e2,rw'⟩:=rh _ _ e;have hl:=rw'.length;refine Br pins s σ H _ _ v u Q I rx ry ⟨a,k,ws,rfl,rfl,e2,h.1,h.2.1,by rw [<- hl];exact h.2.2.1,fun q hq=>?_⟩
   exact up _ _ (h.2.2.2 q (rh.fresh hq)) _ _ (rh.put (by rw [hq];trivial) ⟨_,upd_same,(rw'.rep k.toNat).mono (Imm.new hq)⟩) (Frm.put (.inl hq)) rfl
  ·exact h.elim
 ·exact h.elim
end
end L3
namespace Tw
open PySem L2 L3
def dh(i:Nat):Stmt:=PySem.Challenge.pw_twinstride_k68_bare_mixes.main.body.getD i (.Pass ⟨0,0,0,0⟩)
abbrev AH:Stmt:=fh (dh 5) 0
abbrev B3:Stmt:=fh (dh 5) 1
abbrev tV:Stmt:=fh (dh 5) 2
abbrev tG:Stmt:=dh 6
abbrev uI:Stmt:=dh 7
abbrev tR:Stmt:=dh 8
abbrev vM:Stmt:=dh 9
abbrev v4:Stmt:=dh 10
abbrev vo:Stmt:=dh 11
abbrev vK:Stmt:=dh 12
abbrev vU:Stmt:=dh 13
abbrev uT:Stmt:=dh 14
abbrev vX:Stmt:=dh 16
abbrev tE:Stmt:=dh 18
abbrev tJ:Stmt:=dh 19
abbrev uO:Stmt:=dh 20
abbrev ua:Stmt:=dh 21
abbrev Be:Stmt:=fh (dh 23) 0
abbrev ve:Stmt:=fh (dh 23) 1
abbrev Bx:Stmt:=fh (dh 23) 2
abbrev zY:Stmt:=dh 24
abbrev uj:Stmt:=dh 25
abbrev tB:Stmt:=dh 27
abbrev tP:Stmt:=dh 28
abbrev vA:Stmt:=dh 29
abbrev uB:Stmt:=dh 30
abbrev vq:Stmt:=dh 31
abbrev AE:Stmt:=dh 32
abbrev wu:Stmt:=dh 33
abbrev v0:Stmt:=dh 34
abbrev wv:Stmt:=dh 35
abbrev vp:Stmt:=dh 36
abbrev tX:Stmt:=dh 37
abbrev uu:Stmt:=dh 38
abbrev Av:Stmt:=dh 39
abbrev tY:Stmt:=dh 40
abbrev Aa:Stmt:=dh 41
abbrev vN:Stmt:=dh 42
abbrev uZ:Stmt:=dh 43
abbrev vh:Stmt:=dh 44
abbrev uK:Stmt:=dh 45
abbrev tH:Stmt:=dh 46
abbrev BF:Stmt:=dh 47
abbrev Ac:Stmt:=dh 48
abbrev rK:Stmt:=dh 49
abbrev fT:Stmt:=dh 50
theorem CU:FnScope ["self","plan","stand","most"] ["self","plan","stand","most"] (ax AH):=⟨rfl,rfl,rfl,by decide +kernel,rfl,by decide +kernel,by decide +kernel⟩
theorem CD:FnScope ["self","place","number"] ["self","place","number"] (ax B3):=⟨rfl,rfl,rfl,by decide +kernel,rfl,by decide +kernel,by decide +kernel⟩
theorem sc_q25:FnScope ["self","place","name","seen"] ["self","place","name"] (ax tV):=⟨rfl,rfl,rfl,by decide +kernel,rfl,by decide +kernel,by decide +kernel⟩
theorem sc_q44:FnScope ["plan","stand","most","walk"] ["plan","stand","most"] (ax tG):=⟨rfl,rfl,rfl,by decide +kernel,rfl,by decide +kernel,by decide +kernel⟩
theorem sc_q43:FnScope ["plan","stand","most","end"] ["plan","stand","most"] (ax uI):=⟨rfl,rfl,rfl,by decide +kernel,rfl,by decide +kernel,by decide +kernel⟩
theorem sc_q37:FnScope ["walk","rows","place","j","row"] ["walk","rows","place"] (ax tR):=⟨rfl,rfl,rfl,by decide +kernel,rfl,by decide +kernel,by decide +kernel⟩
theorem sc_q40:FnScope ["walk","row","place","number"] ["walk","row","place"] (ax vM):=⟨rfl,rfl,rfl,by decide +kernel,rfl,by decide +kernel,by decide +kernel⟩
theorem sc_q42:FnScope ["walk","row","place","seen"] ["walk","row","place"] (ax v4):=⟨rfl,rfl,rfl,by decide +kernel,rfl,by decide +kernel,by decide +kernel⟩
theorem sc_q34:FnScope ["walk","row","place","turn"] ["walk","row","place"] (ax vo):=⟨rfl,rfl,rfl,by decide +kernel,rfl,by decide +kernel,by decide +kernel⟩
theorem sc_q26:FnScope ["plan","numbers","pieces","row","piece"] ["plan","numbers","pieces","row"] (ax vK):=⟨rfl,rfl,rfl,by decide +kernel,rfl,by decide +kernel,by decide +kernel⟩
theorem AN:FnScope ["plan","numbers","row"] ["plan","numbers","row"] (ax vU):=⟨rfl,rfl,rfl,by decide +kernel,rfl,by decide +kernel,by decide +kernel⟩
theorem Ab:FnScope ["word","y","z","wheel"] ["word","y","z","wheel"] (ax uT):=⟨rfl,rfl,rfl,by decide +kernel,rfl,by decide +kernel,by decide +kernel⟩
theorem Bq:FnScope ["plan","stand","thing"] ["plan","stand","thing"] (ax vX):=⟨rfl,rfl,rfl,by decide +kernel,rfl,by decide +kernel,by decide +kernel⟩
theorem sc_q41:FnScope ["case","sound","faulty"] ["case"] (ax tE):=⟨rfl,rfl,rfl,by decide +kernel,rfl,by decide +kernel,by decide +kernel⟩
theorem sc_q33:FnScope ["case","mix","names","pieces"] ["case","mix"] (ax tJ):=⟨rfl,rfl,rfl,by decide +kernel,rfl,by decide +kernel,by decide +kernel⟩
theorem BJ:FnScope ["case","mix","thing"] ["case","mix","thing"] (ax uO):=⟨rfl,rfl,rfl,by decide +kernel,rfl,by decide +kernel,by decide +kernel⟩
theorem A_:FnScope ["two","one"] ["two","one"] (ax ua):=⟨rfl,rfl,rfl,by decide +kernel,rfl,by decide +kernel,by decide +kernel⟩
theorem Em:FnScope ["self","case"] ["self","case"] (ax Be):=⟨rfl,rfl,rfl,by decide +kernel,rfl,by decide +kernel,by decide +kernel⟩
theorem C4:FnScope ["self","mix"] ["self","mix"] (ax ve):=⟨rfl,rfl,rfl,by decide +kernel,rfl,by decide +kernel,by decide +kernel⟩
theorem CY:FnScope ["self","mix"] ["self","mix"] (ax Bx):=⟨rfl,rfl,rfl,by decide +kernel,rfl,by decide +kernel,by decide +kernel⟩
theorem Du:FnScope ["mix"] ["mix"] (ax zY):=⟨rfl,rfl,rfl,by decide +kernel,rfl,by decide +kernel,by decide +kernel⟩
theorem sc_q36:FnScope ["case","mix","askings"] ["case","mix"] (ax uj):=⟨rfl,rfl,rfl,by decide +kernel,rfl,by decide +kernel,by decide +kernel⟩
theorem Cc:FnScope ["_law_script"] ["_law_script"] (ax tB):=⟨rfl,rfl,rfl,by decide +kernel,rfl,by decide +kernel,by decide +kernel⟩
theorem sc_q32:FnScope ["_law_tape_here","_law_many","_law_digit","_law_at","_law_cell","_law_mixed"] ["_law_tape_here","_law_many"] (ax tP):=⟨rfl,rfl,rfl,by decide +kernel,rfl,by decide +kernel,by decide +kernel⟩
theorem sc_q19:FnScope ["_law_tape_here","_law_all","_law_turn"] ["_law_tape_here"] (ax vA):=⟨rfl,rfl,rfl,by decide +kernel,rfl,by decide +kernel,by decide +kernel⟩
theorem sc_q12:FnScope ["_law_tape_here","_law_frame","_law_some","_law_x","_law_y","_law_z","_law_way"] ["_law_tape_here","_law_frame"] (ax uB):=⟨rfl,rfl,rfl,by decide +kernel,rfl,by decide +kernel,by decide +kernel⟩
theorem sc_q28:FnScope ["_law_tape_here","_law_frame","_law_deep","_law_some","_law_c","_law_d","_law_way","_law_body","_law_first"] ["_law_tape_here","_law_frame","_law_deep"] (ax vq):=⟨rfl,rfl,rfl,by decide +kernel,rfl,by decide +kernel,by decide +kernel⟩
theorem sc_q4:FnScope ["_law_tape_here","_law_frame","_law_many","_law_deep","_law_rows","_law_k","_law_way","_law_some","_law_name","_law_first","_law_other"] ["_law_tape_here","_law_frame","_law_many","_law_deep"] (ax AE):=⟨rfl,rfl,rfl,by decide +kernel,rfl,by decide +kernel,by decide +kernel⟩
theorem sc_q31:FnScope ["_law_tape_here","_law_most","_law_wheel","_law_frame","_law_rows","_law_mark"] ["_law_tape_here","_law_most"] (ax wu):=⟨rfl,rfl,rfl,by decide +kernel,rfl,by decide +kernel,by decide +kernel⟩
theorem sc_q23:FnScope ["_law_tape_here","_law_plan_here","_law_numbers","_law_k","_law_number","_law_cut"] ["_law_tape_here","_law_plan_here"] (ax v0):=⟨rfl,rfl,rfl,by decide +kernel,rfl,by decide +kernel,by decide +kernel⟩
theorem sc_q35:FnScope ["_law_here","_law_row","_law_numbers","_law_piece","_law_one","_law_other","_law_all"] ["_law_here","_law_row"] (ax wv):=⟨rfl,rfl,rfl,by decide +kernel,rfl,by decide +kernel,by decide +kernel⟩
theorem sc_q38:FnScope ["_law_here","_law_rows","_law_row","_law_turns","_law_truth"] ["_law_here","_law_rows"] (ax vp):=⟨rfl,rfl,rfl,by decide +kernel,rfl,by decide +kernel,by decide +kernel⟩
theorem Ah:FnScope ["_law_plan_here","_law_stand_here","_law_most"] ["_law_plan_here","_law_stand_here","_law_most"] (ax tX):=⟨rfl,rfl,rfl,by decide +kernel,rfl,by decide +kernel,by decide +kernel⟩
theorem sc_q13:FnScope ["_law_plan_here","_law_stand_here","_law_most","_law_here"] ["_law_plan_here","_law_stand_here","_law_most"] (ax uu):=⟨rfl,rfl,rfl,by decide +kernel,rfl,by decide +kernel,by decide +kernel⟩
theorem sc_q2:FnScope ["_law_tape_here","_law_plan_here","_law_first","_law_second","_law_found","_law_one","_law_other"] ["_law_tape_here","_law_plan_here"] (ax Av):=⟨rfl,rfl,rfl,by decide +kernel,rfl,by decide +kernel,by decide +kernel⟩
theorem sc_q24:FnScope ["_law_tape_here","_law_plan_here","_law_one","_law_other","_law_few","_law_numbers","_law_others","_law_turn","_law_k","_law_at","_law_cut"] ["_law_tape_here","_law_plan_here","_law_one","_law_other","_law_few"] (ax tY):=⟨rfl,rfl,rfl,by decide +kernel,rfl,by decide +kernel,by decide +kernel⟩
theorem sc_q7:FnScope ["_law_tape_here","_law_plan_here","_law_all","_law_word","_law_one","_law_other"] ["_law_tape_here","_law_plan_here"] (ax Aa):=⟨rfl,rfl,rfl,by decide +kernel,rfl,by decide +kernel,by decide +kernel⟩
theorem sc_q29:FnScope ["_law_tape_here","_law_rows","_law_most","_law_few","_law_plan_here","_law_rows_here","_law_turn","_law_one","_law_other","_law_here","_law_there","_law_long","_law_numbers","_law_pieces","_law_marked"] ["_law_tape_here","_law_rows","_law_most","_law_few"] (ax vN):=⟨rfl,rfl,rfl,by decide +kernel,rfl,by decide +kernel,by decide +kernel⟩
theorem Bf:FnScope ["_law_plan_here"] ["_law_plan_here"] (ax uZ):=⟨rfl,rfl,rfl,by decide +kernel,rfl,by decide +kernel,by decide +kernel⟩
theorem sc_q17:FnScope ["_law_plan_here","_law_one","_law_other","_law_all","_law_numbers","_law_others"] ["_law_plan_here","_law_one","_law_other"] (ax vh):=⟨rfl,rfl,rfl,by decide +kernel,rfl,by decide +kernel,by decide +kernel⟩
theorem sc_q22:FnScope ["_law_case_here","_law_mix","_law_plan_here","_law_one","_law_other","_law_most","_law_all","_law_numbers","_law_others","_law_k","_law_cut"] ["_law_case_here","_law_mix"] (ax uK):=⟨rfl,rfl,rfl,by decide +kernel,rfl,by decide +kernel,by decide +kernel⟩
theorem sc_q10:FnScope ["_law_case_here","_law_mix","_law_plan_here","_law_one","_law_other","_law_most","_law_found"] ["_law_case_here","_law_mix"] (ax tH):=⟨rfl,rfl,rfl,by decide +kernel,rfl,by decide +kernel,by decide +kernel⟩
theorem sc_q8:FnScope ["_law_tape_here","_law_all","_law_way"] ["_law_tape_here","_law_all"] (ax BF):=⟨rfl,rfl,rfl,by decide +kernel,rfl,by decide +kernel,by decide +kernel⟩
theorem Dx:FnScope ["_law_mix"] ["_law_mix"] (ax Ac):=⟨rfl,rfl,rfl,by decide +kernel,rfl,by decide +kernel,by decide +kernel⟩
theorem sc_q15:FnScope ["_law_tape_here","_law_case_here","_law_all","_law_mix","_law_turn","_law_some"] ["_law_tape_here","_law_case_here","_law_all"] (ax rK):=⟨rfl,rfl,rfl,by decide +kernel,rfl,by decide +kernel,by decide +kernel⟩
theorem sc_law:FnScope ["_law_script","_law_tape_here","_law_case_here","_law_all","_law_some","_law_k","_law_mix","_law_handed","_law_due","_law_less","_law_found"] ["_law_script"] (ax fT):=⟨rfl,rfl,rfl,by decide +kernel,rfl,by decide +kernel,by decide +kernel⟩
end Tw
namespace Tw
open PySem L2 L3
set_option genInjectivity false in
structure Ad where
 C_Askings:Addr
 C_Walk:Addr
 C_Dry:Addr
 C_NoCase:Addr
 a_q6:Addr
 d_q6:FuncData
 a_q3:Addr
 d_q3:FuncData
 a_q25:Addr
 d_q25:FuncData
 a_q44:Addr
 d_q44:FuncData
 a_q43:Addr
 d_q43:FuncData
 a_q37:Addr
 d_q37:FuncData
 a_q40:Addr
 d_q40:FuncData
 a_q42:Addr
 d_q42:FuncData
 a_q34:Addr
 d_q34:FuncData
 a_q26:Addr
 d_q26:FuncData
 a_q21:Addr
 d_q21:FuncData
 a_q39:Addr
 d_q39:FuncData
 a_q27:Addr
 d_q27:FuncData
 a_q41:Addr
 d_q41:FuncData
 a_q33:Addr
 d_q33:FuncData
 a_q11:Addr
 d_q11:FuncData
 a_q20:Addr
 d_q20:FuncData
 a_q1:Addr
 d_q1:FuncData
 a_q16:Addr
 d_q16:FuncData
 a_q0:Addr
 d_q0:FuncData
 a_q9:Addr
 d_q9:FuncData
 a_q36:Addr
 d_q36:FuncData
 a_q30:Addr
 d_q30:FuncData
 a_q32:Addr
 d_q32:FuncData
 a_q19:Addr
 d_q19:FuncData
 a_q12:Addr
 d_q12:FuncData
 a_q28:Addr
 d_q28:FuncData
 a_q4:Addr
 d_q4:FuncData
 a_q31:Addr
 d_q31:FuncData
 a_q23:Addr
 d_q23:FuncData
 a_q35:Addr
 d_q35:FuncData
 a_q38:Addr
 d_q38:FuncData
 a_q18:Addr
 d_q18:FuncData
 a_q13:Addr
 d_q13:FuncData
 a_q2:Addr
 d_q2:FuncData
 a_q24:Addr
 d_q24:FuncData
 a_q7:Addr
 d_q7:FuncData
 a_q29:Addr
 d_q29:FuncData
 a_q14:Addr
 d_q14:FuncData
 a_q17:Addr
 d_q17:FuncData
 a_q22:Addr
 d_q22:FuncData
 a_q10:Addr
 d_q10:FuncData
 a_q8:Addr
 d_q8:FuncData
 a_q5:Addr
 d_q5:FuncData
 a_q15:Addr
 d_q15:FuncData
 a_law:Addr
 d_law:FuncData
def BH(ad:Ad)(EE:DX):aC:=
 (aw (f_ ad.C_Walk (aa 0) (aa 3) "most")
  (f_ ad.C_Walk (aa 0) (bX dNil) "steps"))
def Bn(ad:Ad)(EE:DX):aC:=
 (aw (f_ ad.C_Walk (aa 0) (dOp aL (aa 2) (dC (.int 1))) "pieces")
  (BH ad EE))
def BV(ad:Ad)(EE:DX):aC:=
 (aw (f_ ad.C_Walk (aa 0) (gf (a9 (dOp aL (aa 1) (dC (.int 1))) (a9 (dOp aL (aa 2) (dC (.int 0))) dNil))) "numbers")
  (Bn ad EE))
def uh(ad:Ad)(EE:DX):aC:=
 (aw (f_ ad.C_Walk (aa 0) (aa 1) "plan")
  (BV ad EE))
def yU(ad:Ad):Sd:=ba ["self","plan","stand","most"] (uh ad)
theorem u_q6{ad:Ad}{n:Nat}{x0 x1 x2 x3:D}{M:Mem}{Q:DK}{E:DX}:yU ad [x0,x1,x2,x3] M Q E=uh ad (aN E) { nx:=fun _ M'=>drp Q .non M',rt:=drp Q } [some x0,some x1,some x2,some x3] M:=rfl
def B_(ad:Ad)(EE:DX):aC:=
 (ci (tN "list" cm (dL ad.C_Walk (aa 0) "steps") (a9 (bL (a9 (aa 1) (a9 (aa 2) dNil))) dNil)))
def ur(ad:Ad)(EE:DX):aC:=
 (aw (bw (aK (dOp oGe (bO cg (a9 (dL ad.C_Walk (aa 0) "steps") dNil)) (dL ad.C_Walk (aa 0) "most"))) (lm ad.C_Dry EE) bj)
  (B_ ad EE))
def oY(ad:Ad):Sd:=ba ["self","place","number"] (ur ad)
theorem u_q3{ad:Ad}{n:Nat}{x0 x1 x2:D}{M:Mem}{Q:DK}{E:DX}:oY ad [x0,x1,x2] M Q E=ur ad (aN E) { nx:=fun _ M'=>drp Q .non M',rt:=drp Q } [some x0,some x1,some x2] M:=rfl
def yW(ad:Ad)(EE:DX):aC:=
 (aw (ci (eD ad.C_Walk "note_step" (oY ad) EE 3 (aa 0) (a9 (aa 1) (a9 (aa 3) dNil))))
  (a_ (aa 3)))
def nO(ad:Ad)(EE:DX):aC:=
 (aw (aF (Co (aK (dOp dz (dOp aL (dL ad.C_Walk (aa 0) "numbers") (aa 2)) (dC (.int 0)))) (dC (.int 0)) (dC (.int 1))) (hName 3))
  (yW ad EE))
def ko(ad:Ad):Sd:=ba ["self","place","name","seen"] (nO ad)
theorem DV{ad:Ad}{n:Nat}{x0 x1 x2:D}{M:Mem}{Q:DK}{E:DX}:ko ad [x0,x1,x2] M Q E=nO ad (aN E) { nx:=fun _ M'=>drp Q .non M',rt:=drp Q } [some x0,some x1,some x2,none] M:=rfl
def yF(ad:Ad)(EE:DX):aC:=
 (a_ (dOp dD (ar (dOp bN (aa 1) (aa 2))) (aa 3)))
def xM(ad:Ad)(EE:DX):aC:=
 (a_ (Co (aK (dOp Bg (aa 1) (aa 2))) (dC (.int 1)) (dC (.int 0))))
def xT(ad:Ad)(EE:DX):aC:=
 (a_ (Co (aK (dOp dz (aa 1) (aa 2))) (dC (.int 1)) (dC (.int 0))))
def wY(ad:Ad)(EE:DX):aC:=
 (aw (bw (aK (dOp dz (aa 0) (dC (.str "less")))) (xM ad EE) bj)
  (xT ad EE))
def zq(ad:Ad)(EE:DX):aC:=
 (aw (bw (aK (dOp dz (aa 0) (dC (.str "by")))) (a_ (dOp dD (dOp fL (aa 1) (aa 2)) (aa 3))) bj)
  (wY ad EE))
def mT(ad:Ad)(EE:DX):aC:=
 (aw (bw (aK (dOp dz (aa 0) (dC (.str "sum")))) (yF ad EE) bj)
  (zq ad EE))
def qx(ad:Ad):Sd:=ba ["word","y","z","wheel"] (mT ad)
theorem Eh{ad:Ad}{n:Nat}{x0 x1 x2 x3:D}{M:Mem}{Q:DK}{E:DX}:qx ad [x0,x1,x2,x3] M Q E=mT ad (aN E) { nx:=fun _ M'=>drp Q .non M',rt:=drp Q } [some x0,some x1,some x2,some x3] M:=rfl
def zm(ad:Ad)(EE:DX):aC:=
 (a_ (dOp dD (dOp aL (aa 1) (dOp aL (aa 2) (dC (.int 2)))) (dOp aL (aa 0) (dC (.int 2)))))
def wD(ad:Ad)(EE:DX):aC:=
 (aw (bw (aK (dOp dz (dOp aL (aa 2) (dC (.int 0))) (dC (.str "pick")))) (zm ad EE) bj)
  (a_ (dC .non)))
def gJ(ad:Ad)(EE:DX):aC:=
 (aw (bw (aK (dOp dz (dOp aL (aa 2) (dC (.int 0))) (dC (.str "take")))) (a_ (dOp aL (aa 2) (dC (.int 2)))) bj)
  (wD ad EE))
def qq(ad:Ad):Sd:=ba ["plan","numbers","row"] (gJ ad)
theorem rb{ad:Ad}{n:Nat}{x0 x1 x2:D}{M:Mem}{Q:DK}{E:DX}:qq ad [x0,x1,x2] M Q E=gJ ad (aN E) { nx:=fun _ M'=>drp Q .non M',rt:=drp Q } [some x0,some x1,some x2] M:=rfl
def yX(ad:Ad)(EE:DX):aC:=
 (a_ (dCall (qx ad) EE 4 (a9 (dOp aL (aa 3) (dC (.int 0))) (a9 (dOp aL (aa 1) (dOp aL (aa 3) (dC (.int 2)))) (a9 (dOp aL (aa 1) (dOp aL (aa 3) (dC (.int 3)))) (a9 (dOp aL (aa 0) (dC (.int 0))) dNil))))))
def zg(ad:Ad)(EE:DX):aC:=
 (aw (bw (aK (dOp ud (aa 4) (dC .non))) (a_ (dOp aL (aa 2) (aa 4))) bj)
  (yX ad EE))
def xE(ad:Ad)(EE:DX):aC:=
 (aw (aF (ar (dCall (qq ad) EE 3 (a9 (aa 0) (a9 (aa 1) (a9 (aa 3) dNil))))) (hName 4))
  (zg ad EE))
def gF(ad:Ad)(EE:DX):aC:=
 (aw (bw (aK (dOp dz (dOp aL (aa 3) (dC (.int 0))) (dC (.str "put")))) (a_ (dOp aL (aa 3) (dC (.int 2)))) bj)
  (xE ad EE))
def nE(ad:Ad):Sd:=ba ["plan","numbers","pieces","row","piece"] (gF ad)
theorem qf{ad:Ad}{n:Nat}{x0 x1 x2 x3:D}{M:Mem}{Q:DK}{E:DX}:nE ad [x0,x1,x2,x3] M Q E=gF ad (aN E) { nx:=fun _ M'=>drp Q .non M',rt:=drp Q } [some x0,some x1,some x2,some x3,none] M:=rfl
def y0(ad:Ad)(S_q37 S_q40 S_q42 S_q34:Sd)(EE:DX):aC:=
 (ci (dCall S_q40 EE 3 (a9 (aa 0) (a9 (aa 4) (a9 (dOp bN (aa 2) (bL (a9 (aa 3) dNil))) dNil)))))
def T_q37(ad:Ad)(S_q37 S_q40 S_q42 S_q34:Sd)(EE:DX):aC:=
 (dFor (zB (a9 (aa 1) dNil)) (gn 2 (bB (hName 3) (bB (hName 4) ft))) (y0 ad S_q37 S_q40 S_q42 S_q34 EE))
def yg(ad:Ad)(S_q37 S_q40 S_q42 S_q34:Sd)(EE:DX):aC:=
 (ci (dCall S_q42 EE 3 (a9 (aa 0) (a9 (aa 1) (a9 (aa 2) dNil)))))
def ye(ad:Ad)(S_q37 S_q40 S_q42 S_q34:Sd)(EE:DX):aC:=
 (ci (dCall S_q34 EE 3 (a9 (aa 0) (a9 (aa 1) (a9 (aa 2) dNil)))))
def yx(ad:Ad)(S_q37 S_q40 S_q42 S_q34:Sd)(EE:DX):aC:=
 (aF (aa 3) (fG (dL ad.C_Walk (aa 0) "numbers") (dOp aL (aa 1) (dC (.int 1)))))
def xl(ad:Ad)(S_q37 S_q40 S_q42 S_q34:Sd)(EE:DX):aC:=
 (aw (ci (eD ad.C_Walk "note_step" (oY ad) EE 3 (aa 0) (a9 (aa 2) (a9 (aa 3) dNil))))
    (yx ad S_q37 S_q40 S_q42 S_q34 EE))
def xW(ad:Ad)(S_q37 S_q40 S_q42 S_q34:Sd)(EE:DX):aC:=
 (aw (aF (ar (dCall (nE ad) EE 4 (a9 (dL ad.C_Walk (aa 0) "plan") (a9 (dL ad.C_Walk (aa 0) "numbers") (a9 (dL ad.C_Walk (aa 0) "pieces") (a9 (aa 1) dNil)))))) (hName 3))
    (xl ad S_q37 S_q40 S_q42 S_q34 EE))
def xK(ad:Ad)(S_q37 S_q40 S_q42 S_q34:Sd)(EE:DX):aC:=
 (bw (aK (dOp dz (dOp aL (aa 1) (dC (.int 0))) (dC (.str "again")))) (ye ad S_q37 S_q40 S_q42 S_q34 EE) (xW ad S_q37 S_q40 S_q42 S_q34 EE))
def fD(ad:Ad)(S_q37 S_q40 S_q42 S_q34:Sd)(EE:DX):aC:=
 (bw (aK (dOp dz (dOp aL (aa 1) (dC (.int 0))) (dC (.str "if")))) (yg ad S_q37 S_q40 S_q42 S_q34 EE) (xK ad S_q37 S_q40 S_q42 S_q34 EE))
def yj(ad:Ad)(S_q37 S_q40 S_q42 S_q34:Sd)(EE:DX):aC:=
 (ci (dCall S_q37 EE 3 (a9 (aa 0) (a9 (Co (aK (dOp dz (aa 3) (dC (.int 1)))) (dOp aL (aa 1) (dC (.int 2))) (dOp aL (aa 1) (dC (.int 3)))) (a9 (dOp bN (aa 2) (bL (a9 (aa 3) dNil))) dNil)))))
def T_q42(ad:Ad)(S_q37 S_q40 S_q42 S_q34:Sd)(EE:DX):aC:=
 (aw (aF (ar (eD ad.C_Walk "look" (ko ad) EE 3 (aa 0) (a9 (aa 2) (a9 (dOp aL (aa 1) (dC (.int 1))) dNil)))) (hName 3))
  (yj ad S_q37 S_q40 S_q42 S_q34 EE))
def yh(ad:Ad)(S_q37 S_q40 S_q42 S_q34:Sd)(EE:DX):aC:=
 (aw (ci (dCall S_q37 EE 3 (a9 (aa 0) (a9 (dOp aL (aa 1) (dC (.int 2))) (a9 (dOp bN (aa 2) (bL (a9 (aa 3) dNil))) dNil)))))
   (wP 3 (dC (.int 1)) uV))
def x_(ad:Ad)(S_q37 S_q40 S_q42 S_q34:Sd)(EE:DX):aC:=
 (dWhile (aK (dOp dz (ar (eD ad.C_Walk "look" (ko ad) EE 3 (aa 0) (a9 (dOp bN (aa 2) (bL (a9 (aa 3) dNil))) (a9 (dOp aL (aa 1) (dC (.int 1))) dNil)))) (dC (.int 1)))) (yh ad S_q37 S_q40 S_q42 S_q34 EE))
def T_q34(ad:Ad)(S_q37 S_q40 S_q42 S_q34:Sd)(EE:DX):aC:=
 (aw (aF (dC (.int 0)) (hName 3))
  (x_ ad S_q37 S_q40 S_q42 S_q34 EE))
mutual
def S_q37(ad:Ad):Nat->Sd
 |0=>fun _ _ _ _=>False
 |n+1=>ba ["walk","rows","place","j","row"] (T_q37 ad (S_q37 ad n) (S_q40 ad n) (S_q42 ad n) (S_q34 ad n))
def S_q40(ad:Ad):Nat->Sd
 |0=>fun _ _ _ _=>False
 |n+1=>ba ["walk","row","place","number"] (fD ad (S_q37 ad n) (S_q40 ad n) (S_q42 ad n) (S_q34 ad n))
def S_q42(ad:Ad):Nat->Sd
 |0=>fun _ _ _ _=>False
 |n+1=>ba ["walk","row","place","seen"] (T_q42 ad (S_q37 ad n) (S_q40 ad n) (S_q42 ad n) (S_q34 ad n))
def S_q34(ad:Ad):Nat->Sd
 |0=>fun _ _ _ _=>False
 |n+1=>ba ["walk","row","place","turn"] (T_q34 ad (S_q37 ad n) (S_q40 ad n) (S_q42 ad n) (S_q34 ad n))
end
theorem u_q37{ad:Ad}{n:Nat}{x0 x1 x2:D}{M:Mem}{Q:DK}{E:DX}:S_q37 ad (n+1) [x0,x1,x2] M Q E=T_q37 ad (S_q37 ad n) (S_q40 ad n) (S_q42 ad n) (S_q34 ad n) (aN E) { nx:=fun _ M'=>drp Q .non M',rt:=drp Q } [some x0,some x1,some x2,none,none] M:=rfl
theorem jY{ad:Ad}{n:Nat}{x0 x1 x2:D}{M:Mem}{Q:DK}{E:DX}:S_q40 ad (n+1) [x0,x1,x2] M Q E=fD ad (S_q37 ad n) (S_q40 ad n) (S_q42 ad n) (S_q34 ad n) (aN E) { nx:=fun _ M'=>drp Q .non M',rt:=drp Q } [some x0,some x1,some x2,none] M:=rfl
theorem u_q42{ad:Ad}{n:Nat}{x0 x1 x2:D}{M:Mem}{Q:DK}{E:DX}:S_q42 ad (n+1) [x0,x1,x2] M Q E=T_q42 ad (S_q37 ad n) (S_q40 ad n) (S_q42 ad n) (S_q34 ad n) (aN E) { nx:=fun _ M'=>drp Q .non M',rt:=drp Q } [some x0,some x1,some x2,none] M:=rfl
theorem u_q34{ad:Ad}{n:Nat}{x0 x1 x2:D}{M:Mem}{Q:DK}{E:DX}:S_q34 ad (n+1) [x0,x1,x2] M Q E=T_q34 ad (S_q37 ad n) (S_q40 ad n) (S_q42 ad n) (S_q34 ad n) (aN E) { nx:=fun _ M'=>drp Q .non M',rt:=drp Q } [some x0,some x1,some x2,none] M:=rfl
def yM(ad:Ad)(EE:DX):aC:=
 (a_ (bL (a9 (dL ad.C_Walk (aa 3) "steps") (a9 (bO cTuple (a9 (ar (bD (eW (dOp aL (aa 0) (dC (.int 1)))) ["name"] [3] (hName 0) cL (dOp aL (dL ad.C_Walk (aa 1) "numbers") (aa 0)))) dNil)) dNil))))
def yV(ad:Ad)(EE:DX):aC:=
 (aw (Eg ad.C_Dry (S_q37 ad 24) 3 (a9 (aa 3) (a9 (dOp aL (aa 0) (dC (.int 3))) (a9 (bL dNil) dNil))) (a_ (bL (a9 (dL ad.C_Walk (aa 3) "steps") (a9 (dC .non) dNil)))))
  (yM ad EE))
def mx(ad:Ad)(EE:DX):aC:=
 (aw (aF (vZ ad.C_Walk (yU ad) EE 4 (a9 (aa 0) (a9 (aa 1) (a9 (aa 2) dNil)))) (hName 3))
  (yV ad EE))
def nA(ad:Ad):Sd:=ba ["plan","stand","most","walk"] (mx ad)
theorem Cu{ad:Ad}{n:Nat}{x0 x1 x2:D}{M:Mem}{Q:DK}{E:DX}:nA ad [x0,x1,x2] M Q E=mx ad (aN E) { nx:=fun _ M'=>drp Q .non M',rt:=drp Q } [some x0,some x1,some x2,none] M:=rfl
def yi(ad:Ad)(EE:DX):aC:=
 (a_ (dOp aL (aa 3) (dTM kI (dOp aL (aa 0) (dC (.int 1))) (a9 (dOp aL (aa 0) (dC (.int 4))) dNil))))
def y8(ad:Ad)(EE:DX):aC:=
 (aw (bw (aK (dOp vz (aa 3) (dC .non))) (a_ (dC .non)) bj)
  (yi ad EE))
def nG(ad:Ad)(EE:DX):aC:=
 (aw (aF (dOp aL (zx (dCall (nA ad) EE 3 (a9 (aa 0) (a9 (aa 1) (a9 (aa 2) dNil))))) (dC (.int 1))) (hName 3))
  (y8 ad EE))
def ja(ad:Ad):Sd:=ba ["plan","stand","most","end"] (nG ad)
theorem Da{ad:Ad}{n:Nat}{x0 x1 x2:D}{M:Mem}{Q:DK}{E:DX}:ja ad [x0,x1,x2] M Q E=nG ad (aN E) { nx:=fun _ M'=>drp Q .non M',rt:=drp Q } [some x0,some x1,some x2,none] M:=rfl
def yo(ad:Ad)(EE:DX):aC:=
 (a_ (dOp aL (dOp aL (aa 1) (dC (.int 0))) (dTM kI (dOp aL (aa 0) (dC (.int 1))) (a9 (aa 2) dNil))))
def kd(ad:Ad)(EE:DX):aC:=
 (aw (bw (gW (bO qA (a9 (aa 2) (a9 (dC (.ty "str")) dNil)))) (yo ad EE) bj)
  (a_ (dOp aL (dOp aL (aa 1) (dC (.int 1))) (aa 2))))
def rj(ad:Ad):Sd:=ba ["plan","stand","thing"] (kd ad)
theorem zC{ad:Ad}{n:Nat}{x0 x1 x2:D}{M:Mem}{Q:DK}{E:DX}:rj ad [x0,x1,x2] M Q E=kd ad (aN E) { nx:=fun _ M'=>drp Q .non M',rt:=drp Q } [some x0,some x1,some x2] M:=rfl
def qv(ad:Ad)(EE:DX):aC:=
 (aw (bw (aK (dOp dz (aa 1) (aa 2))) (lm ad.C_NoCase EE) bj)
  (a_ (bL (a9 (aa 1) (a9 (aa 2) dNil)))))
def kX(ad:Ad)(EE:DX):aC:=
 (aw (bw (Cr (aK (dOp vz (aa 1) (dC .non))) (aK (dOp vz (aa 2) (dC .non)))) (lm ad.C_NoCase EE) bj)
  (qv ad EE))
def qO(ad:Ad)(EE:DX):aC:=
 (aw (aF (ar (dCall (ja ad) EE 3 (a9 (dOp aL (aa 0) (dC (.int 0))) (a9 (dOp aL (aa 0) (dC (.int 2))) (a9 (dOp aL (aa 0) (dC (.int 3))) dNil))))) (hName 2))
  (kX ad EE))
def m_(ad:Ad)(EE:DX):aC:=
 (aw (aF (ar (dCall (ja ad) EE 3 (a9 (dOp aL (aa 0) (dC (.int 0))) (a9 (dOp aL (aa 0) (dC (.int 1))) (a9 (dOp aL (aa 0) (dC (.int 3))) dNil))))) (hName 1))
  (qO ad EE))
def pV(ad:Ad):Sd:=ba ["case","sound","faulty"] (m_ ad)
theorem Dj{ad:Ad}{n:Nat}{x0:D}{M:Mem}{Q:DK}{E:DX}:pV ad [x0] M Q E=m_ ad (aN E) { nx:=fun _ M'=>drp Q .non M',rt:=drp Q } [some x0,none,none] M:=rfl
def nZ(ad:Ad)(EE:DX):aC:=
 (a_ (dCall (rj ad) EE 3 (a9 (dOp aL (aa 0) (dC (.int 0))) (a9 (Co (aK (dOp An (aa 2) (aa 1))) (dOp aL (aa 0) (dC (.int 2))) (dOp aL (aa 0) (dC (.int 1)))) (a9 (aa 2) dNil)))))
def k6(ad:Ad):Sd:=ba ["case","mix","thing"] (nZ ad)
theorem DY{ad:Ad}{n:Nat}{x0 x1 x2:D}{M:Mem}{Q:DK}{E:DX}:k6 ad [x0,x1,x2] M Q E=nZ ad (aN E) { nx:=fun _ M'=>drp Q .non M',rt:=drp Q } [some x0,some x1,some x2] M:=rfl
def iI(ad:Ad)(EE:DX):aC:=
 (a_ (bL (a9 (bO cTuple (a9 (ar (bD (eW (aa 2)) ["name"] [1,0] (hName 0) cL (ar (dCall (k6 ad) jA 3 (a9 (aa 2) (a9 (aa 1) (a9 (aa 0) dNil))))))) dNil)) (a9 (bO cTuple (a9 (ar (bD (eW (aa 3)) ["piece"] [1,0] (hName 0) cL (ar (dCall (k6 ad) jA 3 (a9 (aa 2) (a9 (aa 1) (a9 (aa 0) dNil))))))) dNil)) dNil))))
def qG(ad:Ad)(EE:DX):aC:=
 (aw (aF (ar (jc (a9 (dOp aL (dOp aL (aa 0) (dC (.int 0))) (dC (.int 2))) dNil))) (hName 3))
  (iI ad EE))
def nX(ad:Ad)(EE:DX):aC:=
 (aw (aF (dOp aL (dOp aL (aa 0) (dC (.int 0))) (dC (.int 1))) (hName 2))
  (qG ad EE))
def pW(ad:Ad):Sd:=ba ["case","mix","names","pieces"] (nX ad)
theorem CW{ad:Ad}{n:Nat}{x0 x1:D}{M:Mem}{Q:DK}{E:DX}:pW ad [x0,x1] M Q E=nX ad (aN E) { nx:=fun _ M'=>drp Q .non M',rt:=drp Q } [some x0,some x1,none,none] M:=rfl
def yz(ad:Ad)(EE:DX):aC:=
 (aw (bw (aK (dOp dz (aa 1) (dOp aL (aa 0) (dC (.int 1))))) (a_ (dC (.str "faulty"))) bj)
  (a_ (dC (.str "other"))))
def kn(ad:Ad)(EE:DX):aC:=
 (aw (bw (aK (dOp dz (aa 1) (dOp aL (aa 0) (dC (.int 0))))) (a_ (dC (.str "sound"))) bj)
  (yz ad EE))
def qT(ad:Ad):Sd:=ba ["two","one"] (kn ad)
theorem zJ{ad:Ad}{n:Nat}{x0 x1:D}{M:Mem}{Q:DK}{E:DX}:qT ad [x0,x1] M Q E=kn ad (aN E) { nx:=fun _ M'=>drp Q .non M',rt:=drp Q } [some x0,some x1] M:=rfl
def v5(ad:Ad)(EE:DX):aC:=
 (aw (f_ ad.C_Askings (aa 0) (ar (dCall (pV ad) EE 1 (a9 (aa 1) dNil))) "two")
  (f_ ad.C_Askings (aa 0) zK "told"))
def vG(ad:Ad)(EE:DX):aC:=
 (aw (f_ ad.C_Askings (aa 0) (aa 1) "case")
  (v5 ad EE))
def zo(ad:Ad):Sd:=ba ["self","case"] (vG ad)
theorem u_q1{ad:Ad}{n:Nat}{x0 x1:D}{M:Mem}{Q:DK}{E:DX}:zo ad [x0,x1] M Q E=vG ad (aN E) { nx:=fun _ M'=>drp Q .non M',rt:=drp Q } [some x0,some x1] M:=rfl
def lh(ad:Ad)(EE:DX):aC:=
 (aF (ar (dCall (qT ad) EE 2 (a9 (dL ad.C_Askings (aa 0) "two") (a9 (ar (dCall (ja ad) EE 3 (a9 (dOp aL (dL ad.C_Askings (aa 0) "case") (dC (.int 0))) (a9 (ar (dCall (pW ad) EE 2 (a9 (dL ad.C_Askings (aa 0) "case") (a9 (aa 1) dNil)))) (a9 (dOp aL (dL ad.C_Askings (aa 0) "case") (dC (.int 3))) dNil))))) dNil)))) (fG (dL ad.C_Askings (aa 0) "told") (bO cTuple (a9 (aa 1) dNil))))
def iG(ad:Ad)(EE:DX):aC:=
 (a_ (dOp aL (dL ad.C_Askings (aa 0) "told") (bO cTuple (a9 (aa 1) dNil))))
def mD(ad:Ad)(EE:DX):aC:=
 (aw (bw (aK (dOp lO (bO cTuple (a9 (aa 1) dNil)) (dL ad.C_Askings (aa 0) "told"))) (lh ad EE) bj)
  (iG ad EE))
def pL(ad:Ad):Sd:=ba ["self","mix"] (mD ad)
theorem Ed{ad:Ad}{n:Nat}{x0 x1:D}{M:Mem}{Q:DK}{E:DX}:pL ad [x0,x1] M Q E=mD ad (aN E) { nx:=fun _ M'=>drp Q .non M',rt:=drp Q } [some x0,some x1] M:=rfl
def wn(ad:Ad)(EE:DX):aC:=
 (a_ (dOp dz (ar (eD ad.C_Askings "ask" (pL ad) EE 2 (aa 0) (a9 (aa 1) dNil))) (dC (.str "faulty"))))
def oZ(ad:Ad):Sd:=ba ["self","mix"] (wn ad)
theorem u_q0{ad:Ad}{n:Nat}{x0 x1:D}{M:Mem}{Q:DK}{E:DX}:oZ ad [x0,x1] M Q E=wn ad (aN E) { nx:=fun _ M'=>drp Q .non M',rt:=drp Q } [some x0,some x1] M:=rfl
def v8(ad:Ad)(EE:DX):aC:=
 (a_ (bD (cy (a9 (bO cg (a9 (aa 0) dNil)) dNil)) ["at"] [0] (hName 0) cL (ar (dOp bN (ar (lK (aa 1) bA (cu (aa 0)))) (ar (lK (aa 1) (cu (dOp bN (aa 0) (dC (.int 1)))) bA))))))
def z6(ad:Ad):Sd:=ba ["mix"] (v8 ad)
theorem u_q9{ad:Ad}{n:Nat}{x0:D}{M:Mem}{Q:DK}{E:DX}:z6 ad [x0] M Q E=v8 ad (aN E) { nx:=fun _ M'=>drp Q .non M',rt:=drp Q } [some x0] M:=rfl
def kO(ad:Ad)(EE:DX):aC:=
 (a_ (o8 (ar (eD ad.C_Askings "is_cause" (oZ ad) EE 2 (aa 2) (a9 (aa 1) dNil))) (zD (bO B9 (a9 (ar (bD (eW (ar (dCall (z6 ad) EE 1 (a9 (aa 1) dNil)))) ["less"] [2] (hName 0) cL (ar (eD ad.C_Askings "is_cause" (oZ ad) jA 2 (aa 1) (a9 (aa 0) dNil))))) dNil)))))
def ni(ad:Ad)(EE:DX):aC:=
 (aw (aF (vZ ad.C_Askings (zo ad) EE 2 (a9 (aa 0) dNil)) (hName 2))
  (kO ad EE))
def qk(ad:Ad):Sd:=ba ["case","mix","askings"] (ni ad)
theorem DB{ad:Ad}{n:Nat}{x0 x1:D}{M:Mem}{Q:DK}{E:DX}:qk ad [x0,x1] M Q E=ni ad (aN E) { nx:=fun _ M'=>drp Q .non M',rt:=drp Q } [some x0,some x1,none] M:=rfl
def mH(ad:Ad)(EE:DX):aC:=
 (a_ (bX (a9 (bO dJ (a9 (ar (lK (aa 0) bA (cu (dC (.int 63))))) dNil)) (a9 (dC (.int 0)) (a9 (dC (.int 0)) dNil)))))
def rB(ad:Ad):Sd:=ba ["_law_script"] (mH ad)
theorem Ef{ad:Ad}{n:Nat}{x0:D}{M:Mem}{Q:DK}{E:DX}:rB ad [x0] M Q E=mH ad (aN E) { nx:=fun _ M'=>drp Q .non M',rt:=drp Q } [some x0] M:=rfl
def z7(ad:Ad)(EE:DX):aC:=
 (aw (aF (dOp rG (dOp aL (aa 0) (dC (.int 2))) (aa 1)) (fG (aa 0) (dC (.int 2))))
   (a_ (aa 2)))
def yC(ad:Ad)(EE:DX):aC:=
 (aw (aF (dOp dD (dOp aL (aa 0) (dC (.int 2))) (aa 1)) (hName 2))
   (z7 ad EE))
def w_(ad:Ad)(EE:DX):aC:=
 (aF (dOp aL (dOp aL (aa 0) (dC (.int 0))) (dOp dD (aa 3) (bO cg (a9 (dOp aL (aa 0) (dC (.int 0))) dNil)))) (hName 4))
def xz(ad:Ad)(EE:DX):aC:=
 (aw (aF (dOp rG (aa 4) (aa 1)) (fG (aa 0) (dC (.int 2))))
   (a_ (dOp dD (aa 4) (aa 1))))
def yK(ad:Ad)(EE:DX):aC:=
 (a_ (dOp dD (dOp rG (aa 5) (dC (.int 8))) (aa 1)))
def yk(ad:Ad)(EE:DX):aC:=
 (aw (aF (dOp dD (dOp bN (dOp bN (dOp fL (aa 5) (aa 5)) (dOp fL (dC (.int 48271)) (aa 3))) (dOp dD (aa 4) (dC (.int 65537)))) (dC (.int 2147483629))) (hName 5))
  (yK ad EE))
def ia(ad:Ad)(EE:DX):aC:=
 (aw (aF (dOp dD (dOp fL (dOp bN (dOp dD (aa 4) (dC (.int 1000003))) (dC (.int 1))) (dOp bN (dOp bN (dOp fL (dOp fL (dC (.int 7919)) (aa 3)) (aa 3)) (dOp fL (dC (.int 104729)) (aa 3))) (dC (.int 12345)))) (dC (.int 2147483647))) (hName 5))
  (yk ad EE))
def pX(ad:Ad)(EE:DX):aC:=
 (aw (bw (gT (aK (dOp Bg (aa 3) (bO cg (a9 (dOp aL (aa 0) (dC (.int 0))) dNil)))) (aK (dOp oGe (aa 4) (dOp E5 (dC (.int 10)) (dC (.int 18)))))) (xz ad EE) bj)
  (ia ad EE))
def qm(ad:Ad)(EE:DX):aC:=
 (aw (bw (aK (dOp ue (bO cg (a9 (dOp aL (aa 0) (dC (.int 0))) dNil)) (dC (.int 0)))) (w_ ad EE) bj)
  (pX ad EE))
def mY(ad:Ad)(EE:DX):aC:=
 (aw (aF (dC (.int 0)) (hName 4))
  (qm ad EE))
def mU(ad:Ad)(EE:DX):aC:=
 (aw (aF (dOp bN (aa 3) (dC (.int 1))) (fG (aa 0) (dC (.int 1))))
  (mY ad EE))
def fU(ad:Ad)(EE:DX):aC:=
 (aw (aF (dOp aL (aa 0) (dC (.int 1))) (hName 3))
  (mU ad EE))
def my(ad:Ad)(EE:DX):aC:=
 (aw (bw (aK (dOp ue (dOp aL (aa 0) (dC (.int 2))) (dC (.int 0)))) (yC ad EE) bj)
  (fU ad EE))
def bi(ad:Ad):Sd:=ba ["_law_tape_here","_law_many","_law_digit","_law_at","_law_cell","_law_mixed"] (my ad)
theorem E7{ad:Ad}{n:Nat}{x0 x1:D}{M:Mem}{Q:DK}{E:DX}:bi ad [x0,x1] M Q E=my ad (aN E) { nx:=fun _ M'=>drp Q .non M',rt:=drp Q } [some x0,some x1,none,none,none,none] M:=rfl
def wJ(ad:Ad)(EE:DX):aC:=
 (a_ (lK (aa 1) bA (cu (dOp bN (dC (.int 1)) (ar (dCall (bi ad) EE 2 (a9 (aa 0) (a9 (dC (.int 5)) dNil))))))))
def wS(ad:Ad)(EE:DX):aC:=
 (aw (aF (ar (dOp bN (ar (lK (aa 1) (cu (aa 2)) bA)) (ar (lK (aa 1) bA (cu (aa 2)))))) (hName 1))
  (wJ ad EE))
def zt(ad:Ad)(EE:DX):aC:=
 (aw (aF (ar (dCall (bi ad) EE 2 (a9 (aa 0) (a9 (dC (.int 5)) dNil)))) (hName 2))
  (wS ad EE))
def mO(ad:Ad)(EE:DX):aC:=
 (aw (aF (dOp aL (ar (bX (a9 (ar (bX (a9 (dC (.str "a")) (a9 (dC (.str "b")) (a9 (dC (.str "c")) (a9 (dC (.str "d")) (a9 (dC (.str "e")) dNil))))))) (a9 (ar (bX (a9 (dC (.str "x")) (a9 (dC (.str "xx")) (a9 (dC (.str "xxx")) (a9 (dC (.str "xxxx")) (a9 (dC (.str "xxxxx")) dNil))))))) (a9 (ar (bX (a9 (dC (.str "if")) (a9 (dC (.str "end")) (a9 (dC (.str "else")) (a9 (dC (.str "piece")) (a9 (dC (.str "pick")) dNil))))))) (a9 (ar (bX (a9 (dC (.str "mark")) (a9 (dC (.str "again")) (a9 (dC (.str "names")) (a9 (dC (.str "plan")) (a9 (dC (.str "wheel")) dNil))))))) dNil)))))) (ar (dCall (bi ad) EE 2 (a9 (aa 0) (a9 (dC (.int 4)) dNil))))) (hName 1))
  (zt ad EE))
def nC(ad:Ad):Sd:=ba ["_law_tape_here","_law_all","_law_turn"] (mO ad)
theorem D2{ad:Ad}{n:Nat}{x0:D}{M:Mem}{Q:DK}{E:DX}:nC ad [x0] M Q E=mO ad (aN E) { nx:=fun _ M'=>drp Q .non M',rt:=drp Q } [some x0,none,none] M:=rfl
def xc(ad:Ad)(EE:DX):aC:=
 (a_ (bL (a9 (dOp aL (ar (bX (a9 (dC (.str "sum")) (a9 (dC (.str "sum")) (a9 (dC (.str "by")) (a9 (dC (.str "less")) (a9 (dC (.str "same")) dNil))))))) (dOp dD (aa 6) (dC (.int 5)))) (a9 (aa 3) (a9 (aa 4) (a9 (aa 5) dNil))))))
def zj(ad:Ad)(EE:DX):aC:=
 (a_ (bL (a9 (dC (.str "pick")) (a9 (aa 3) (a9 (aa 4) dNil)))))
def xS(ad:Ad)(EE:DX):aC:=
 (a_ (bL (a9 (dC (.str "take")) (a9 (aa 3) (a9 (dCall (bi ad) EE 2 (a9 (aa 0) (a9 (dOp aL (aa 1) (dC (.str "many"))) dNil))) dNil)))))
def xj(ad:Ad)(EE:DX):aC:=
 (aw (bw (aK (dOp dz (aa 6) (dC (.int 2)))) (zj ad EE) bj)
   (xS ad EE))
def yQ(ad:Ad)(EE:DX):aC:=
 (a_ (bL (a9 (dC (.str "put")) (a9 (aa 3) (a9 (dCall (bi ad) EE 2 (a9 (aa 0) (a9 (dOp aL (aa 1) (dC (.str "wheel"))) dNil))) dNil)))))
def xV(ad:Ad)(EE:DX):aC:=
 (aw (bw (gT (aK (dOp ue (aa 6) (dC (.int 1)))) (aK (dOp ue (dOp aL (aa 1) (dC (.str "many"))) (dC (.int 0))))) (xj ad EE) bj)
  (yQ ad EE))
def y6(ad:Ad)(EE:DX):aC:=
 (aw (bw (aK (dOp ue (aa 6) (dC (.int 6)))) (xc ad EE) bj)
  (xV ad EE))
def xQ(ad:Ad)(EE:DX):aC:=
 (aw (aF (ar (dCall (bi ad) EE 2 (a9 (aa 0) (a9 (dC (.int 11)) dNil)))) (hName 6))
  (y6 ad EE))
def wZ(ad:Ad)(EE:DX):aC:=
 (aw (aF (ar (bD (cy (a9 (dC (.int 3)) dNil)) ["_law_k"] [0,2] (hName 0) cL (dOp aL (aa 2) (ar (dCall (bi ad) jA 2 (a9 (aa 1) (a9 (bO cg (a9 (aa 2) dNil)) dNil))))))) (vP 3 (bB (hName 3) (bB (hName 4) (bB (hName 5) ft)))))
  (xQ ad EE))
def n4(ad:Ad)(EE:DX):aC:=
 (aw (aF (dOp aL (aa 1) (dC (.str "names"))) (hName 2))
  (wZ ad EE))
def pR(ad:Ad):Sd:=ba ["_law_tape_here","_law_frame","_law_some","_law_x","_law_y","_law_z","_law_way"] (n4 ad)
theorem DC{ad:Ad}{n:Nat}{x0 x1:D}{M:Mem}{Q:DK}{E:DX}:pR ad [x0,x1] M Q E=n4 ad (aN E) { nx:=fun _ M'=>drp Q .non M',rt:=drp Q } [some x0,some x1,none,none,none,none,none] M:=rfl
def zb(ad:Ad)(S_q28 S_q4:Sd)(EE:DX):aC:=
 (a_ (bX (a9 (bL (a9 (dC (.str "again")) (a9 (aa 4) (a9 (bO cTuple (a9 (aa 7) dNil)) dNil)))) dNil)))
def xI(ad:Ad)(S_q28 S_q4:Sd)(EE:DX):aC:=
 (a_ (bX (a9 (bL (a9 (dC (.str "again")) (a9 (aa 4) (a9 (bO cTuple (a9 (ar (dOp bN (aa 7) (ar (bX (a9 (bL (a9 (dC (.str "put")) (a9 (aa 4) (a9 (dC (.int 0)) dNil)))) dNil))))) dNil)) dNil)))) dNil)))
def wH(ad:Ad)(S_q28 S_q4:Sd)(EE:DX):aC:=
 (a_ (dOp bN (aa 8) (ar (bX (a9 (bL (a9 (dC (.str "put")) (a9 (aa 5) (a9 (dOp jE (dOp aL (aa 1) (dC (.str "wheel"))) (dC (.int 1))) dNil)))) (a9 (bL (a9 (dC (.str "again")) (a9 (aa 4) (a9 (bO cTuple (a9 (ar (dOp bN (aa 7) (ar (bX (a9 (bL (a9 (dC (.str "sum")) (a9 (aa 4) (a9 (aa 4) (a9 (aa 5) dNil))))) dNil))))) dNil)) dNil)))) dNil))))))
def xf(ad:Ad)(S_q28 S_q4:Sd)(EE:DX):aC:=
 (aw (aF (ar (dOp uC (bX (a9 (bL (a9 (dC (.str "put")) (a9 (aa 4) (a9 (dCall (bi ad) EE 2 (a9 (aa 0) (a9 (bO yD (a9 (dC (.int 4)) (a9 (dOp aL (aa 1) (dC (.str "wheel"))) dNil))) dNil))) dNil)))) dNil)) (bO jC (a9 (dOp dz (aa 6) (dC (.int 2))) dNil)))) (hName 8))
  (wH ad S_q28 S_q4 EE))
def xR(ad:Ad)(S_q28 S_q4:Sd)(EE:DX):aC:=
 (aw (bw (Cr (aK (dOp dz (aa 6) (dC (.int 1)))) (aK (dOp dz (aa 4) (aa 5)))) (xI ad S_q28 S_q4 EE) bj)
  (xf ad S_q28 S_q4 EE))
def yN(ad:Ad)(S_q28 S_q4:Sd)(EE:DX):aC:=
 (aw (bw (aK (dOp dz (aa 6) (dC (.int 0)))) (zb ad S_q28 S_q4 EE) bj)
  (xR ad S_q28 S_q4 EE))
def xy(ad:Ad)(S_q28 S_q4:Sd)(EE:DX):aC:=
 (aw (aF (ar (dCall S_q4 EE 4 (a9 (aa 0) (a9 (aa 1) (a9 (ar (dCall (bi ad) EE 2 (a9 (aa 0) (a9 (dC (.int 3)) dNil)))) (a9 (dOp jE (aa 2) (dC (.int 1))) dNil)))))) (hName 7))
  (yN ad S_q28 S_q4 EE))
def zk(ad:Ad)(S_q28 S_q4:Sd)(EE:DX):aC:=
 (aw (aF (ar (dCall (bi ad) EE 2 (a9 (aa 0) (a9 (dC (.int 4)) dNil)))) (hName 6))
  (xy ad S_q28 S_q4 EE))
def yI(ad:Ad)(S_q28 S_q4:Sd)(EE:DX):aC:=
 (aw (aF (ar (bD (cy (a9 (dC (.int 2)) dNil)) ["_law_k"] [0,3] (hName 0) cL (dOp aL (aa 2) (ar (dCall (bi ad) jA 2 (a9 (aa 1) (a9 (bO cg (a9 (aa 2) dNil)) dNil))))))) (vP 2 (bB (hName 4) (bB (hName 5) ft))))
  (zk ad S_q28 S_q4 EE))
def nj(ad:Ad)(S_q28 S_q4:Sd)(EE:DX):aC:=
 (aw (aF (dOp aL (aa 1) (dC (.str "names"))) (hName 3))
  (yI ad S_q28 S_q4 EE))
def zX(ad:Ad)(S_q28 S_q4:Sd)(EE:DX):aC:=
 (ci (tN "list" kJ (aa 4) (a9 (ar (dCall S_q28 EE 3 (a9 (aa 0) (a9 (aa 1) (a9 (aa 3) dNil))))) dNil)))
def AF(ad:Ad)(S_q28 S_q4:Sd)(EE:DX):aC:=
 (ci (tN "list" cm (aa 4) (a9 (bL (a9 (dC (.str "if")) (a9 (aa 8) (a9 (bO cTuple (a9 (aa 9) dNil)) (a9 (bO cTuple (a9 (aa 10) dNil)) dNil))))) dNil)))
def BR(ad:Ad)(S_q28 S_q4:Sd)(EE:DX):aC:=
 (aw (aF (ar (dCall S_q4 EE 4 (a9 (aa 0) (a9 (aa 1) (a9 (ar (dCall (bi ad) EE 2 (a9 (aa 0) (a9 (dC (.int 3)) dNil)))) (a9 (dOp jE (aa 3) (dC (.int 1))) dNil)))))) (hName 10))
     (AF ad S_q28 S_q4 EE))
def AJ(ad:Ad)(S_q28 S_q4:Sd)(EE:DX):aC:=
 (aw (aF (ar (dCall S_q4 EE 4 (a9 (aa 0) (a9 (aa 1) (a9 (ar (dCall (bi ad) EE 2 (a9 (aa 0) (a9 (dC (.int 3)) dNil)))) (a9 (dOp jE (aa 3) (dC (.int 1))) dNil)))))) (hName 9))
     (BR ad S_q28 S_q4 EE))
def Ai(ad:Ad)(S_q28 S_q4:Sd)(EE:DX):aC:=
 (aw (aF (dOp aL (aa 7) (ar (dCall (bi ad) EE 2 (a9 (aa 0) (a9 (bO cg (a9 (aa 7) dNil)) dNil))))) (hName 8))
     (AJ ad S_q28 S_q4 EE))
def B8(ad:Ad)(S_q28 S_q4:Sd)(EE:DX):aC:=
 (aw (aF (dOp aL (aa 1) (dC (.str "names"))) (hName 7))
     (Ai ad S_q28 S_q4 EE))
def pH(ad:Ad)(S_q28 S_q4:Sd)(EE:DX):aC:=
 (ci (tN "list" cm (aa 4) (a9 (ar (dCall (pR ad) EE 2 (a9 (aa 0) (a9 (aa 1) dNil)))) dNil)))
def ui(ad:Ad)(S_q28 S_q4:Sd)(EE:DX):aC:=
 (bw (gT (aK (dOp ue (aa 3) (dC (.int 0)))) (gT (aK (dOp ue (dOp aL (aa 1) (dC (.str "left"))) (dC (.int 0)))) (aK (dOp Bg (aa 6) (dC (.int 3)))))) (B8 ad S_q28 S_q4 EE) (pH ad S_q28 S_q4 EE))
def pw(ad:Ad)(S_q28 S_q4:Sd)(EE:DX):aC:=
 (bw (gT (aK (dOp ue (aa 3) (dC (.int 0)))) (gT (aK (dOp ue (dOp aL (aa 1) (dC (.str "left"))) (dC (.int 0)))) (aK (dOp dz (aa 6) (dC (.int 0)))))) (zX ad S_q28 S_q4 EE) (ui ad S_q28 S_q4 EE))
def wI(ad:Ad)(S_q28 S_q4:Sd)(EE:DX):aC:=
 (aw (aF (ar (dCall (bi ad) EE 2 (a9 (aa 0) (a9 (dC (.int 7)) dNil)))) (hName 6))
   (pw ad S_q28 S_q4 EE))
def wV(ad:Ad)(S_q28 S_q4:Sd)(EE:DX):aC:=
 (aw (aF (dOp jE (dOp aL (aa 1) (dC (.str "left"))) (dC (.int 4))) (fG (aa 1) (dC (.str "left"))))
   (wI ad S_q28 S_q4 EE))
def xL(ad:Ad)(S_q28 S_q4:Sd)(EE:DX):aC:=
 (aw (dFor (cy (a9 (aa 2) dNil)) (hName 5) (wV ad S_q28 S_q4 EE))
  (a_ (aa 4)))
def vc(ad:Ad)(S_q28 S_q4:Sd)(EE:DX):aC:=
 (aw (aF (bX dNil) (hName 4))
  (xL ad S_q28 S_q4 EE))
mutual
def S_q28(ad:Ad):Nat->Sd
 |0=>fun _ _ _ _=>False
 |n+1=>ba ["_law_tape_here","_law_frame","_law_deep","_law_some","_law_c","_law_d","_law_way","_law_body","_law_first"] (nj ad (S_q28 ad n) (S_q4 ad n))
def S_q4(ad:Ad):Nat->Sd
 |0=>fun _ _ _ _=>False
 |n+1=>ba ["_law_tape_here","_law_frame","_law_many","_law_deep","_law_rows","_law_k","_law_way","_law_some","_law_name","_law_first","_law_other"] (vc ad (S_q28 ad n) (S_q4 ad n))
end
theorem Dk{ad:Ad}{n:Nat}{x0 x1 x2:D}{M:Mem}{Q:DK}{E:DX}:S_q28 ad (n+1) [x0,x1,x2] M Q E=nj ad (S_q28 ad n) (S_q4 ad n) (aN E) { nx:=fun _ M'=>drp Q .non M',rt:=drp Q } [some x0,some x1,some x2,none,none,none,none,none,none] M:=rfl
theorem u_q4{ad:Ad}{n:Nat}{x0 x1 x2 x3:D}{M:Mem}{Q:DK}{E:DX}:S_q4 ad (n+1) [x0,x1,x2,x3] M Q E=vc ad (S_q28 ad n) (S_q4 ad n) (aN E) { nx:=fun _ M'=>drp Q .non M',rt:=drp Q } [some x0,some x1,some x2,some x3,none,none,none,none,none,none,none] M:=rfl
def yr(ad:Ad)(EE:DX):aC:=
 (a_ (bL (a9 (aa 2) (a9 (bO cTuple (a9 (dOp aL (aa 3) (dC (.str "names"))) dNil)) (a9 (dOp aL (aa 3) (dC (.str "many"))) (a9 (bO cTuple (a9 (aa 4) dNil)) (a9 (aa 5) dNil)))))))
def yR(ad:Ad)(EE:DX):aC:=
 (aw (aF (dOp aL (dOp aL (aa 3) (dC (.str "names"))) (ar (dCall (bi ad) EE 2 (a9 (aa 0) (a9 (bO cg (a9 (dOp aL (aa 3) (dC (.str "names"))) dNil)) dNil))))) (hName 5))
  (yr ad EE))
def yJ(ad:Ad)(EE:DX):aC:=
 (aw (aF (ar (dCall (S_q4 ad 24) EE 4 (a9 (aa 0) (a9 (aa 3) (a9 (ar (dCall (bi ad) EE 2 (a9 (aa 0) (a9 (dOp bN (aa 1) (dC (.int 1))) dNil)))) (a9 (dC (.int 4)) dNil)))))) (hName 4))
  (yR ad EE))
def wO(ad:Ad)(EE:DX):aC:=
 (aw (aF (dOp aL (ar (bX (a9 (dC (.int 0)) (a9 (dC (.int 1)) (a9 (dC (.int 2)) (a9 (dC (.int 3)) (a9 (dC (.int 4)) (a9 (dC (.int 6)) dNil)))))))) (ar (dCall (bi ad) EE 2 (a9 (aa 0) (a9 (dC (.int 6)) dNil))))) (fG (aa 3) (dC (.str "many"))))
  (yJ ad EE))
def yZ(ad:Ad)(EE:DX):aC:=
 (aw (aF (kg [("wheel",(aa 2)),("names",(ar (dCall (nC ad) EE 1 (a9 (aa 0) dNil)))),("left",(dOp fL (dC (.int 4)) (aa 1)))]) (hName 3))
  (wO ad EE))
def mG(ad:Ad)(EE:DX):aC:=
 (aw (aF (dOp aL (ar (bX (a9 (dC (.int 2)) (a9 (dC (.int 3)) (a9 (dC (.int 3)) (a9 (dC (.int 5)) (a9 (dC (.int 7)) (a9 (dC (.int 11)) (a9 (dC (.int 97)) (a9 (dC (.int 997)) dNil)))))))))) (ar (dCall (bi ad) EE 2 (a9 (aa 0) (a9 (dC (.int 8)) dNil))))) (hName 2))
  (yZ ad EE))
def pT(ad:Ad):Sd:=ba ["_law_tape_here","_law_most","_law_wheel","_law_frame","_law_rows","_law_mark"] (mG ad)
theorem DF{ad:Ad}{n:Nat}{x0 x1:D}{M:Mem}{Q:DK}{E:DX}:pT ad [x0,x1] M Q E=mG ad (aN E) { nx:=fun _ M'=>drp Q .non M',rt:=drp Q } [some x0,some x1,none,none,none,none] M:=rfl
def qV(ad:Ad)(EE:DX):aC:=
 (ci (tN "list" cm (aa 2) (a9 (dOp aL (ar (bX (a9 (aa 4) (a9 (dC (.int 0)) (a9 (dOp dD (dOp dD (aa 4) (dC (.int 3))) (dOp aL (aa 1) (dC (.int 0)))) dNil))))) (ar (dCall (bi ad) EE 2 (a9 (aa 0) (a9 (dC (.int 3)) dNil))))) dNil)))
def kR(ad:Ad)(EE:DX):aC:=
 (aw (aF (ar (dCall (bi ad) EE 2 (a9 (aa 0) (a9 (dOp aL (aa 1) (dC (.int 0))) dNil)))) (hName 4))
   (qV ad EE))
def qM(ad:Ad)(EE:DX):aC:=
 (a_ (bL (a9 (bO cTuple (a9 (ar (lK (aa 2) bA (cu (aa 5)))) dNil)) (a9 (bO cTuple (a9 (ar (lK (aa 2) (cu (aa 5)) bA)) dNil)) dNil))))
def i7(ad:Ad)(EE:DX):aC:=
 (aw (aF (bO cg (a9 (dOp aL (aa 1) (dC (.int 1))) dNil)) (hName 5))
  (qM ad EE))
def rz(ad:Ad)(EE:DX):aC:=
 (aw (dFor (cy (a9 (ar (dOp bN (bO cg (a9 (dOp aL (aa 1) (dC (.int 1))) dNil)) (dOp aL (aa 1) (dC (.int 2))))) dNil)) (hName 3) (kR ad EE))
  (i7 ad EE))
def mQ(ad:Ad)(EE:DX):aC:=
 (aw (aF (bX dNil) (hName 2))
  (rz ad EE))
def ny(ad:Ad):Sd:=ba ["_law_tape_here","_law_plan_here","_law_numbers","_law_k","_law_number","_law_cut"] (mQ ad)
theorem CB{ad:Ad}{n:Nat}{x0 x1:D}{M:Mem}{Q:DK}{E:DX}:ny ad [x0,x1] M Q E=mQ ad (aN E) { nx:=fun _ M'=>drp Q .non M',rt:=drp Q } [some x0,some x1,none,none,none,none] M:=rfl
def xt(ad:Ad)(EE:DX):aC:=
 (aF (dOp aL (aa 1) (dC (.int 2))) (fG (aa 2) (dOp aL (aa 1) (dC (.int 1)))))
def wE(ad:Ad)(EE:DX):aC:=
 (aF (dOp dD (dOp aL (aa 2) (dOp aL (aa 1) (dC (.int 2)))) (bO cg (a9 (dOp aL (aa 0) (dC (.str "pieces"))) dNil))) (hName 3))
def xb(ad:Ad)(EE:DX):aC:=
 (ci (tN "list" cm (dOp aL (aa 0) (dC (.str "read"))) (a9 (aa 3) dNil)))
def lw(ad:Ad)(EE:DX):aC:=
 (aF (dOp aL (dOp aL (aa 0) (dC (.str "pieces"))) (aa 3)) (fG (aa 2) (dOp aL (aa 1) (dC (.int 1)))))
def gg(ad:Ad)(EE:DX):aC:=
 (aw (bw (aK (dOp lO (aa 3) (dOp aL (aa 0) (dC (.str "read"))))) (xb ad EE) bj)
    (lw ad EE))
def lM(ad:Ad)(EE:DX):aC:=
 (aw (bw (aK (dOp dz (dOp aL (aa 1) (dC (.int 0))) (dC (.str "pick")))) (wE ad EE) bj)
    (gg ad EE))
def io(ad:Ad)(EE:DX):aC:=
 (aw (aF (dOp aL (aa 1) (dC (.int 2))) (hName 3))
    (lM ad EE))
def qc(ad:Ad)(EE:DX):aC:=
 (aF (dOp aL (aa 6) (dOp aL (aa 1) (dC (.int 0)))) (fG (aa 2) (dOp aL (aa 1) (dC (.int 1)))))
def iJ(ad:Ad)(EE:DX):aC:=
 (aw (aF (kg [("sum",(dOp dD (ar (dOp bN (aa 4) (aa 5))) (dOp aL (aa 0) (dC (.str "wheel"))))),("less",(bO jC (a9 (dOp Bg (aa 4) (aa 5)) dNil))),("by",(dOp dD (dOp fL (aa 4) (aa 5)) (dOp aL (aa 0) (dC (.str "wheel"))))),("same",(bO jC (a9 (dOp dz (aa 4) (aa 5)) dNil)))]) (hName 6))
    (qc ad EE))
def mF(ad:Ad)(EE:DX):aC:=
 (aw (aF (dOp aL (aa 2) (dOp aL (aa 1) (dC (.int 3)))) (hName 5))
    (iJ ad EE))
def gh(ad:Ad)(EE:DX):aC:=
 (aw (aF (dOp aL (aa 2) (dOp aL (aa 1) (dC (.int 2)))) (hName 4))
    (mF ad EE))
def eV(ad:Ad)(EE:DX):aC:=
 (bw (Cr (aK (dOp dz (dOp aL (aa 1) (dC (.int 0))) (dC (.str "take")))) (aK (dOp dz (dOp aL (aa 1) (dC (.int 0))) (dC (.str "pick"))))) (io ad EE) (gh ad EE))
def fb(ad:Ad)(EE:DX):aC:=
 (bw (aK (dOp dz (dOp aL (aa 1) (dC (.int 0))) (dC (.str "put")))) (xt ad EE) (eV ad EE))
def gE(ad:Ad)(EE:DX):aC:=
 (aw (aF (dOp aL (aa 0) (dC (.str "numbers"))) (hName 2))
  (fb ad EE))
def rT(ad:Ad):Sd:=ba ["_law_here","_law_row","_law_numbers","_law_piece","_law_one","_law_other","_law_all"] (gE ad)
theorem qI{ad:Ad}{n:Nat}{x0 x1:D}{M:Mem}{Q:DK}{E:DX}:rT ad [x0,x1] M Q E=gE ad (aN E) { nx:=fun _ M'=>drp Q .non M',rt:=drp Q } [some x0,some x1,none,none,none,none,none] M:=rfl
def ql(ad:Ad)(S_q38:Sd)(EE:DX):aC:=
 (bw (gT (gW (aa 3)) (uL (gW (ar (dCall S_q38 EE 2 (a9 (aa 0) (a9 (dOp aL (aa 2) (dC (.int 2))) dNil))))))) (a_ (dC (.bl false))) bj)
def kT(ad:Ad)(S_q38:Sd)(EE:DX):aC:=
 (aw (bw (gT (aK (dOp dz (dOp aL (aa 2) (dC (.int 0))) (dC (.str "if")))) (uL (gW (ar (dCall S_q38 EE 2 (a9 (aa 0) (a9 (dOp aL (aa 2) (dOp jE (dC (.int 3)) (bO jC (a9 (aa 4) dNil)))) dNil))))))) (a_ (dC (.bl false))) bj)
    (ql ad S_q38 EE))
def dl(ad:Ad)(S_q38:Sd)(EE:DX):aC:=
 (aw (aF (o8 (dOp dz (dOp aL (aa 2) (dC (.int 0))) (dC (.str "again"))) (aa 4)) (hName 3))
    (kT ad S_q38 EE))
def qz(ad:Ad)(S_q38:Sd)(EE:DX):aC:=
 (aw (aF (dOp tu (dOp aL (dOp aL (aa 0) (dC (.str "numbers"))) (dOp aL (aa 2) (dC (.int 1)))) (dC (.int 0))) (hName 4))
    (dl ad S_q38 EE))
def qb(ad:Ad)(S_q38:Sd)(EE:DX):aC:=
 (aw (bw (aK (dOp Bg (dOp aL (aa 0) (dC (.str "left"))) (dC (.int 0)))) (a_ (dC (.bl false))) bj)
    (qz ad S_q38 EE))
def ii(ad:Ad)(S_q38:Sd)(EE:DX):aC:=
 (aw (aF (dOp jE (dOp aL (aa 0) (dC (.str "left"))) (dC (.int 1))) (fG (aa 0) (dC (.str "left"))))
    (qb ad S_q38 EE))
def xh(ad:Ad)(S_q38:Sd)(EE:DX):aC:=
 (ci (dCall (rT ad) EE 2 (a9 (aa 0) (a9 (aa 2) dNil))))
def dR(ad:Ad)(S_q38:Sd)(EE:DX):aC:=
 (bw (gT (aK (dOp tu (dOp aL (aa 2) (dC (.int 0))) (dC (.str "if")))) (aK (dOp tu (dOp aL (aa 2) (dC (.int 0))) (dC (.str "again"))))) (xh ad S_q38 EE) bj)
def ij(ad:Ad)(S_q38:Sd)(EE:DX):aC:=
 (aw (dWhile (gW (aa 3)) (ii ad S_q38 EE))
   (dR ad S_q38 EE))
def cZ(ad:Ad)(S_q38:Sd)(EE:DX):aC:=
 (aw (aF (dC (.bl true)) (hName 3))
   (ij ad S_q38 EE))
def T_q38(ad:Ad)(S_q38:Sd)(EE:DX):aC:=
 (aw (dFor (eW (aa 1)) (hName 2) (cZ ad S_q38 EE))
  (a_ (dC (.bl true))))
def S_q38(ad:Ad):Nat->Sd
 |0=>fun _ _ _ _=>False
 |n+1=>ba ["_law_here","_law_rows","_law_row","_law_turns","_law_truth"] (T_q38 ad (S_q38 ad n))
theorem u_q38{ad:Ad}{n:Nat}{x0 x1:D}{M:Mem}{Q:DK}{E:DX}:S_q38 ad (n+1) [x0,x1] M Q E=T_q38 ad (S_q38 ad n) (aN E) { nx:=fun _ M'=>drp Q .non M',rt:=drp Q } [some x0,some x1,none,none,none] M:=rfl
def n8(ad:Ad)(EE:DX):aC:=
 (a_ (kg [("numbers",(gf (a9 (dOp aL (aa 0) (dC (.int 1))) (a9 (dOp aL (aa 1) (dC (.int 0))) dNil)))),("pieces",(dOp aL (aa 1) (dC (.int 1)))),("read",(bX dNil)),("wheel",(dOp aL (aa 0) (dC (.int 0)))),("left",(aa 2))]))
def j6(ad:Ad):Sd:=ba ["_law_plan_here","_law_stand_here","_law_most"] (n8 ad)
theorem E6{ad:Ad}{n:Nat}{x0 x1 x2:D}{M:Mem}{Q:DK}{E:DX}:j6 ad [x0,x1,x2] M Q E=n8 ad (aN E) { nx:=fun _ M'=>drp Q .non M',rt:=drp Q } [some x0,some x1,some x2] M:=rfl
def lH(ad:Ad)(EE:DX):aC:=
 (a_ (dOp aL (dOp aL (aa 3) (dC (.str "numbers"))) (dOp aL (aa 0) (dC (.int 4)))))
def kP(ad:Ad)(EE:DX):aC:=
 (aw (bw (uL (gW (ar (dCall (S_q38 ad 24) EE 2 (a9 (aa 3) (a9 (dOp aL (aa 0) (dC (.int 3))) dNil)))))) (a_ (dC .non)) bj)
  (lH ad EE))
def mZ(ad:Ad)(EE:DX):aC:=
 (aw (aF (dCall (j6 ad) EE 3 (a9 (aa 0) (a9 (aa 1) (a9 (aa 2) dNil)))) (hName 3))
  (kP ad EE))
def iS(ad:Ad):Sd:=ba ["_law_plan_here","_law_stand_here","_law_most","_law_here"] (mZ ad)
theorem DU{ad:Ad}{n:Nat}{x0 x1 x2:D}{M:Mem}{Q:DK}{E:DX}:iS ad [x0,x1,x2] M Q E=mZ ad (aN E) { nx:=fun _ M'=>drp Q .non M',rt:=drp Q } [some x0,some x1,some x2,none] M:=rfl
def oo(ad:Ad)(EE:DX):aC:=
 (ci (tN "list" cm (aa 4) (a9 (bO cTuple (a9 (ar (bD (uR (a9 (aa 5) (a9 (aa 6) dNil))) ["_law_number","_law_another"] [0] (gn 2 (bB (hName 0) (bB (hName 1) ft))) cL (dOp aL (ar (bX (a9 (aa 0) (a9 (aa 1) dNil)))) (ar (dCall (bi ad) jA 2 (a9 (aa 2) (a9 (dC (.int 2)) dNil))))))) dNil)) dNil)))
def pc(ad:Ad)(EE:DX):aC:=
 (a_ (bL (a9 (aa 2) (a9 (bO cTuple (a9 (aa 4) dNil)) dNil))))
def wk(ad:Ad)(EE:DX):aC:=
 (aw (dFor (uR (a9 (aa 2) (a9 (aa 3) dNil))) (gn 2 (bB (hName 5) (bB (hName 6) ft))) (oo ad EE))
  (pc ad EE))
def vB(ad:Ad)(EE:DX):aC:=
 (aw (aF (bX dNil) (hName 4))
  (wk ad EE))
def wf(ad:Ad)(EE:DX):aC:=
 (aw (aF (ar (dCall (ny ad) EE 2 (a9 (aa 0) (a9 (aa 1) dNil)))) (hName 3))
  (vB ad EE))
def uA(ad:Ad)(EE:DX):aC:=
 (aw (aF (ar (dCall (ny ad) EE 2 (a9 (aa 0) (a9 (aa 1) dNil)))) (hName 2))
  (wf ad EE))
def xA(ad:Ad):Sd:=ba ["_law_tape_here","_law_plan_here","_law_first","_law_second","_law_found","_law_one","_law_other"] (uA ad)
theorem u_q2{ad:Ad}{n:Nat}{x0 x1:D}{M:Mem}{Q:DK}{E:DX}:xA ad [x0,x1] M Q E=uA ad (aN E) { nx:=fun _ M'=>drp Q .non M',rt:=drp Q } [some x0,some x1,none,none,none,none,none] M:=rfl
def ra(ad:Ad)(EE:DX):aC:=
 (bw (aK (dOp dz (aa 4) (dC (.int 0)))) (aF (dOp aL (aa 5) (aa 9)) (fG (aa 6) (aa 9))) (aF (dOp jE (aa 4) (dC (.int 1))) (hName 4)))
def rM(ad:Ad)(EE:DX):aC:=
 (bw (aK (dOp tu (dOp aL (aa 5) (aa 9)) (dOp aL (aa 6) (aa 9)))) (ra ad EE) bj)
def iy(ad:Ad)(EE:DX):aC:=
 (aw (aF (dOp dD (ar (dOp bN (aa 8) (aa 7))) (bO cg (a9 (aa 5) dNil))) (hName 9))
   (rM ad EE))
def rL(ad:Ad)(EE:DX):aC:=
 (a_ (bL (a9 (bO cTuple (a9 (ar (lK (aa 6) bA (cu (aa 10)))) dNil)) (a9 (bO cTuple (a9 (ar (lK (aa 6) (cu (aa 10)) bA)) dNil)) dNil))))
def kY(ad:Ad)(EE:DX):aC:=
 (aw (aF (bO cg (a9 (dOp aL (aa 1) (dC (.int 1))) dNil)) (hName 10))
  (rL ad EE))
def qw(ad:Ad)(EE:DX):aC:=
 (aw (dFor (cy (a9 (bO cg (a9 (aa 5) dNil)) dNil)) (hName 8) (iy ad EE))
  (kY ad EE))
def pS(ad:Ad)(EE:DX):aC:=
 (aw (aF (ar (dCall (bi ad) EE 2 (a9 (aa 0) (a9 (bO cg (a9 (aa 5) dNil)) dNil)))) (hName 7))
  (qw ad EE))
def rR(ad:Ad)(EE:DX):aC:=
 (aw (aF (bO dJ (a9 (ar (dOp bN (dOp aL (aa 3) (dC (.int 0))) (dOp aL (aa 3) (dC (.int 1))))) dNil)) (hName 6))
  (pS ad EE))
def nL(ad:Ad)(EE:DX):aC:=
 (aw (aF (ar (bO dJ (a9 (ar (dOp bN (dOp aL (aa 2) (dC (.int 0))) (dOp aL (aa 2) (dC (.int 1))))) dNil))) (hName 5))
  (rR ad EE))
def q_(ad:Ad):Sd:=ba ["_law_tape_here","_law_plan_here","_law_one","_law_other","_law_few","_law_numbers","_law_others","_law_turn","_law_k","_law_at","_law_cut"] (nL ad)
theorem CM{ad:Ad}{n:Nat}{x0 x1 x2 x3 x4:D}{M:Mem}{Q:DK}{E:DX}:q_ ad [x0,x1,x2,x3,x4] M Q E=nL ad (aN E) { nx:=fun _ M'=>drp Q .non M',rt:=drp Q } [some x0,some x1,some x2,some x3,some x4,none,none,none,none,none,none] M:=rfl
def oH(ad:Ad)(EE:DX):aC:=
 (a_ (bL (a9 (aa 3) (a9 (dOp aL (aa 1) (dC (.int 4))) (a9 (aa 4) (a9 (aa 5) dNil))))))
def w8(ad:Ad)(EE:DX):aC:=
 (aw (aF (ar (bD (cy (a9 (dC (.int 2)) dNil)) ["_law_k"] [0,2] (hName 0) cL (dOp aL (aa 2) (ar (dCall (bi ad) jA 2 (a9 (aa 1) (a9 (bO cg (a9 (aa 2) dNil)) dNil))))))) (vP 2 (bB (hName 4) (bB (hName 5) ft))))
  (oH ad EE))
def vR(ad:Ad)(EE:DX):aC:=
 (aw (aF (dOp aL (ar (bX (a9 (dC (.str "sum")) (a9 (dC (.str "by")) (a9 (dC (.str "less")) (a9 (dC (.str "same")) dNil)))))) (ar (dCall (bi ad) EE 2 (a9 (aa 0) (a9 (dC (.int 4)) dNil))))) (hName 3))
  (w8 ad EE))
def vE(ad:Ad)(EE:DX):aC:=
 (aw (aF (dOp aL (aa 1) (dC (.int 1))) (hName 2))
  (vR ad EE))
def yS(ad:Ad):Sd:=ba ["_law_tape_here","_law_plan_here","_law_all","_law_word","_law_one","_law_other"] (vE ad)
theorem u_q7{ad:Ad}{n:Nat}{x0 x1:D}{M:Mem}{Q:DK}{E:DX}:yS ad [x0,x1] M Q E=vE ad (aN E) { nx:=fun _ M'=>drp Q .non M',rt:=drp Q } [some x0,some x1,none,none,none,none] M:=rfl
def qZ(ad:Ad)(EE:DX):aC:=
 (aF (dOp bN (ar (lK (aa 4) bA (cu (dC (.int 3))))) (bL (a9 (aa 5) (a9 (dOp aL (aa 4) (dC (.int 4))) dNil)))) (hName 4))
def lE(ad:Ad)(EE:DX):aC:=
 (aw (aF (dOp bN (dOp aL (aa 4) (dC (.int 3))) (bL (a9 (ar (dCall (yS ad) EE 2 (a9 (aa 0) (a9 (aa 4) dNil)))) dNil))) (hName 5))
   (qZ ad EE))
def qo(ad:Ad)(EE:DX):aC:=
 (a_ (bL (a9 (aa 4) (a9 (aa 7) (a9 (aa 8) (a9 (dOp aL (ar (bX (a9 (aa 2) (a9 (aa 11) dNil)))) (ar (dCall (bi ad) EE 2 (a9 (aa 0) (a9 (dC (.int 2)) dNil))))) dNil))))))
def iD(ad:Ad)(EE:DX):aC:=
 (aw (aF (dOp bN (dOp jE (aa 2) (bO yD (a9 (dOp aL (aa 9) (dC (.str "left"))) (a9 (dOp aL (aa 10) (dC (.str "left"))) dNil)))) (ar (dCall (bi ad) EE 2 (a9 (aa 0) (a9 (dC (.int 4)) dNil))))) (hName 11))
    (qo ad EE))
def ip(ad:Ad)(EE:DX):aC:=
 (bw (gT (gW (ar (dCall (S_q38 ad 24) EE 2 (a9 (aa 9) (a9 (dOp aL (aa 4) (dC (.int 3))) dNil))))) (gT (gW (ar (dCall (S_q38 ad 24) EE 2 (a9 (aa 10) (a9 (dOp aL (aa 4) (dC (.int 3))) dNil))))) (aK (dOp tu (dOp aL (dOp aL (aa 9) (dC (.str "numbers"))) (dOp aL (aa 4) (dC (.int 4)))) (dOp aL (dOp aL (aa 10) (dC (.str "numbers"))) (dOp aL (aa 4) (dC (.int 4)))))))) (iD ad EE) bj)
def rW(ad:Ad)(EE:DX):aC:=
 (aw (aF (dCall (j6 ad) EE 3 (a9 (aa 4) (a9 (aa 8) (a9 (aa 2) dNil)))) (hName 10))
   (ip ad EE))
def qt(ad:Ad)(EE:DX):aC:=
 (aw (aF (dCall (j6 ad) EE 3 (a9 (aa 4) (a9 (aa 7) (a9 (aa 2) dNil)))) (hName 9))
   (rW ad EE))
def qy(ad:Ad)(EE:DX):aC:=
 (aw (aF (ar (dCall (q_ ad) EE 5 (a9 (aa 0) (a9 (aa 4) (a9 (aa 7) (a9 (aa 8) (a9 (aa 3) dNil))))))) (hName 8))
   (qt ad EE))
def ik(ad:Ad)(EE:DX):aC:=
 (aw (aF (ar (dCall (xA ad) EE 2 (a9 (aa 0) (a9 (aa 4) dNil)))) (gn 2 (bB (hName 7) (bB (hName 8) ft))))
   (qy ad EE))
def i_(ad:Ad)(EE:DX):aC:=
 (a_ (bL (a9 (dOp bN (ar (lK (aa 4) bA (cu (dC (.int 3))))) (bL (a9 (bL dNil) (a9 (dOp aL (aa 4) (dC (.int 4))) dNil)))) (a9 (bL (a9 (aa 12) (a9 (aa 13) dNil))) (a9 (bL (a9 (aa 14) (a9 (aa 13) dNil))) (a9 (aa 2) dNil))))))
def m9(ad:Ad)(EE:DX):aC:=
 (aw (aF (bO cTuple (a9 (ar (bD (eW (dOp aL (aa 4) (dC (.int 1)))) ["_law_name"] [4] (hName 0) cL (bO jC (a9 (dOp dz (aa 0) (dOp aL (aa 1) (dC (.int 4)))) dNil)))) dNil)) (hName 14))
  (i_ ad EE))
def m7(ad:Ad)(EE:DX):aC:=
 (aw (aF (dOp fL (bL (a9 (dC (.int 0)) dNil)) (dOp aL (aa 4) (dC (.int 2)))) (hName 13))
  (m9 ad EE))
def fY(ad:Ad)(EE:DX):aC:=
 (aw (aF (dOp fL (bL (a9 (dC (.int 0)) dNil)) (bO cg (a9 (dOp aL (aa 4) (dC (.int 1))) dNil))) (hName 12))
  (m7 ad EE))
def g6(ad:Ad)(EE:DX):aC:=
 (aw (dFor (cy (a9 (dC (.int 10)) dNil)) (hName 6) (ik ad EE))
  (fY ad EE))
def nB(ad:Ad)(EE:DX):aC:=
 (aw (bw (aK (dOp ue (ar (dCall (bi ad) EE 2 (a9 (aa 0) (a9 (dC (.int 3)) dNil)))) (dC (.int 0)))) (lE ad EE) bj)
  (g6 ad EE))
def lZ(ad:Ad)(EE:DX):aC:=
 (aw (aF (ar (dCall (pT ad) EE 2 (a9 (aa 0) (a9 (aa 1) dNil)))) (hName 4))
  (nB ad EE))
def qW(ad:Ad):Sd:=ba ["_law_tape_here","_law_rows","_law_most","_law_few","_law_plan_here","_law_rows_here","_law_turn","_law_one","_law_other","_law_here","_law_there","_law_long","_law_numbers","_law_pieces","_law_marked"] (lZ ad)
theorem Ec{ad:Ad}{n:Nat}{x0 x1 x2 x3:D}{M:Mem}{Q:DK}{E:DX}:qW ad [x0,x1,x2,x3] M Q E=lZ ad (aN E) { nx:=fun _ M'=>drp Q .non M',rt:=drp Q } [some x0,some x1,some x2,some x3,none,none,none,none,none,none,none,none,none,none,none] M:=rfl
def m8(ad:Ad)(EE:DX):aC:=
 (a_ (dOp bN (ar (bO dJ (a9 (dOp aL (aa 0) (dC (.int 1))) dNil))) (ar (jc (a9 (dOp aL (aa 0) (dC (.int 2))) dNil)))))
def jU(ad:Ad):Sd:=ba ["_law_plan_here"] (m8 ad)
theorem Cz{ad:Ad}{n:Nat}{x0:D}{M:Mem}{Q:DK}{E:DX}:jU ad [x0] M Q E=m8 ad (aN E) { nx:=fun _ M'=>drp Q .non M',rt:=drp Q } [some x0] M:=rfl
def ir(ad:Ad)(EE:DX):aC:=
 (a_ (bD (cy (a9 (bO cg (a9 (aa 3) dNil)) dNil)) ["_law_k"] [5,4,3] (hName 0) (aK (dOp tu (dOp aL (aa 2) (aa 0)) (dOp aL (aa 1) (aa 0)))) (dOp aL (aa 3) (aa 0))))
def rE(ad:Ad)(EE:DX):aC:=
 (aw (aF (ar (dOp bN (dOp aL (aa 2) (dC (.int 0))) (dOp aL (aa 2) (dC (.int 1))))) (hName 5))
  (ir ad EE))
def rC(ad:Ad)(EE:DX):aC:=
 (aw (aF (ar (dOp bN (dOp aL (aa 1) (dC (.int 0))) (dOp aL (aa 1) (dC (.int 1))))) (hName 4))
  (rE ad EE))
def mi(ad:Ad)(EE:DX):aC:=
 (aw (aF (ar (dCall (jU ad) EE 1 (a9 (aa 0) dNil))) (hName 3))
  (rC ad EE))
def pN(ad:Ad):Sd:=ba ["_law_plan_here","_law_one","_law_other","_law_all","_law_numbers","_law_others"] (mi ad)
theorem CI{ad:Ad}{n:Nat}{x0 x1 x2:D}{M:Mem}{Q:DK}{E:DX}:pN ad [x0,x1,x2] M Q E=mi ad (aN E) { nx:=fun _ M'=>drp Q .non M',rt:=drp Q } [some x0,some x1,some x2,none,none,none] M:=rfl
def hV(ad:Ad)(EE:DX):aC:=
 (bw (aK (dOp An (dOp aL (aa 6) (aa 9)) (aa 1))) (aF (dOp aL (aa 8) (aa 9)) (fG (aa 7) (aa 9))) bj)
def qB(ad:Ad)(EE:DX):aC:=
 (a_ (bL (a9 (bO cTuple (a9 (ar (lK (aa 7) bA (cu (aa 10)))) dNil)) (a9 (bO cTuple (a9 (ar (lK (aa 7) (cu (aa 10)) bA)) dNil)) dNil))))
def kA(ad:Ad)(EE:DX):aC:=
 (aw (aF (bO cg (a9 (dOp aL (aa 2) (dC (.int 1))) dNil)) (hName 10))
  (qB ad EE))
def rQ(ad:Ad)(EE:DX):aC:=
 (aw (dFor (cy (a9 (bO cg (a9 (aa 6) dNil)) dNil)) (hName 9) (hV ad EE))
  (kA ad EE))
def rJ(ad:Ad)(EE:DX):aC:=
 (aw (aF (ar (dOp bN (dOp aL (aa 4) (dC (.int 0))) (dOp aL (aa 4) (dC (.int 1))))) (hName 8))
  (rQ ad EE))
def rF(ad:Ad)(EE:DX):aC:=
 (aw (aF (bO dJ (a9 (ar (dOp bN (dOp aL (aa 3) (dC (.int 0))) (dOp aL (aa 3) (dC (.int 1))))) dNil)) (hName 7))
  (rJ ad EE))
def qu(ad:Ad)(EE:DX):aC:=
 (aw (aF (ar (dCall (jU ad) EE 1 (a9 (aa 2) dNil))) (hName 6))
  (rF ad EE))
def mC(ad:Ad)(EE:DX):aC:=
 (aw (aF (aa 0) (gn 4 (bB (hName 2) (bB (hName 3) (bB (hName 4) (bB (hName 5) ft))))))
  (qu ad EE))
def r9(ad:Ad):Sd:=ba ["_law_case_here","_law_mix","_law_plan_here","_law_one","_law_other","_law_most","_law_all","_law_numbers","_law_others","_law_k","_law_cut"] (mC ad)
theorem Dt{ad:Ad}{n:Nat}{x0 x1:D}{M:Mem}{Q:DK}{E:DX}:r9 ad [x0,x1] M Q E=mC ad (aN E) { nx:=fun _ M'=>drp Q .non M',rt:=drp Q } [some x0,some x1,none,none,none,none,none,none,none,none,none] M:=rfl
def lg(ad:Ad)(EE:DX):aC:=
 (a_ (dOp aL (ar (bX (a9 (dC (.str "other")) (a9 (dC (.str "faulty")) dNil)))) (bO jC (a9 (dOp dz (aa 6) (ar (dCall (iS ad) EE 3 (a9 (aa 2) (a9 (aa 4) (a9 (aa 5) dNil)))))) dNil))))
def iA(ad:Ad)(EE:DX):aC:=
 (aw (bw (aK (dOp dz (aa 6) (ar (dCall (iS ad) EE 3 (a9 (aa 2) (a9 (aa 3) (a9 (aa 5) dNil))))))) (a_ (dC (.str "sound"))) bj)
  (lg ad EE))
def qE(ad:Ad)(EE:DX):aC:=
 (aw (aF (ar (dCall (iS ad) EE 3 (a9 (aa 2) (a9 (ar (dCall (r9 ad) EE 2 (a9 (aa 0) (a9 (aa 1) dNil)))) (a9 (aa 5) dNil))))) (hName 6))
  (iA ad EE))
def nk(ad:Ad)(EE:DX):aC:=
 (aw (aF (aa 0) (gn 4 (bB (hName 2) (bB (hName 3) (bB (hName 4) (bB (hName 5) ft))))))
  (qE ad EE))
def iN(ad:Ad):Sd:=ba ["_law_case_here","_law_mix","_law_plan_here","_law_one","_law_other","_law_most","_law_found"] (nk ad)
theorem Dp{ad:Ad}{n:Nat}{x0 x1:D}{M:Mem}{Q:DK}{E:DX}:iN ad [x0,x1] M Q E=nk ad (aN E) { nx:=fun _ M'=>drp Q .non M',rt:=drp Q } [some x0,some x1,none,none,none,none,none] M:=rfl
def p7(ad:Ad)(EE:DX):aC:=
 (a_ (dOp aL (ar (bX (a9 (ar (bX dNil)) (a9 (ar (bO dJ (a9 (aa 1) dNil))) dNil)))) (ar (dCall (bi ad) EE 2 (a9 (aa 0) (a9 (dC (.int 2)) dNil))))))
def oF(ad:Ad)(EE:DX):aC:=
 (a_ (bD (eW (aa 1)) ["_law_one"] [0] (hName 0) (aK (dOp dz (ar (dCall (bi ad) jA 2 (a9 (aa 1) (a9 (dC (.int 2)) dNil)))) (dC (.int 0)))) (aa 0)))
def wq(ad:Ad)(EE:DX):aC:=
 (aw (bw (aK (dOp dz (aa 2) (dC (.int 0)))) (p7 ad EE) bj)
  (oF ad EE))
def wo(ad:Ad)(EE:DX):aC:=
 (aw (aF (ar (dCall (bi ad) EE 2 (a9 (aa 0) (a9 (dC (.int 6)) dNil)))) (hName 2))
  (wq ad EE))
def xw(ad:Ad):Sd:=ba ["_law_tape_here","_law_all","_law_way"] (wo ad)
theorem u_q8{ad:Ad}{n:Nat}{x0 x1:D}{M:Mem}{Q:DK}{E:DX}:xw ad [x0,x1] M Q E=wo ad (aN E) { nx:=fun _ M'=>drp Q .non M',rt:=drp Q } [some x0,some x1,none] M:=rfl
def uo(ad:Ad)(EE:DX):aC:=
 (a_ (bD (cy (a9 (bO cg (a9 (aa 0) dNil)) dNil)) ["_law_k"] [0] (hName 0) cL (ar (dOp bN (ar (lK (aa 1) bA (cu (aa 0)))) (ar (lK (aa 1) (cu (dOp bN (aa 0) (dC (.int 1)))) bA))))))
def mR(ad:Ad):Sd:=ba ["_law_mix"] (uo ad)
theorem u_q5{ad:Ad}{n:Nat}{x0:D}{M:Mem}{Q:DK}{E:DX}:mR ad [x0] M Q E=uo ad (aN E) { nx:=fun _ M'=>drp Q .non M',rt:=drp Q } [some x0] M:=rfl
def qH(ad:Ad)(EE:DX):aC:=
 (aF (dOp aL (aa 5) (ar (dCall (bi ad) EE 2 (a9 (aa 0) (a9 (bO cg (a9 (aa 5) dNil)) dNil))))) (hName 3))
def ld(ad:Ad)(EE:DX):aC:=
 (aw (bw (aK (dOp dz (aa 5) (ar (bX dNil)))) (a_ (aa 3)) bj)
   (qH ad EE))
def iE(ad:Ad)(EE:DX):aC:=
 (aw (iR (oR 5 (bD (eW (ar (dCall (mR ad) EE 1 (a9 (aa 3) dNil)))) ["_law_less"] [1] (hName 0) (aK (dOp dz (ar (dCall (iN ad) jA 2 (a9 (aa 1) (a9 (aa 0) dNil)))) (dC (.str "faulty")))) (aa 0))) 5)
   (ld ad EE))
def pZ(ad:Ad)(EE:DX):aC:=
 (aw (dFor (cy (a9 (bO cg (a9 (aa 2) dNil)) dNil)) (hName 4) (iE ad EE))
  (a_ (aa 3)))
def nz(ad:Ad)(EE:DX):aC:=
 (aw (aF (ar (bO dJ (a9 (aa 2) dNil))) (hName 3))
  (pZ ad EE))
def rU(ad:Ad):Sd:=ba ["_law_tape_here","_law_case_here","_law_all","_law_mix","_law_turn","_law_some"] (nz ad)
theorem Eo{ad:Ad}{n:Nat}{x0 x1 x2:D}{M:Mem}{Q:DK}{E:DX}:rU ad [x0,x1,x2] M Q E=nz ad (aN E) { nx:=fun _ M'=>drp Q .non M',rt:=drp Q } [some x0,some x1,some x2,none,none,none] M:=rfl
def lb(ad:Ad)(EE:DX):aC:=
 (ci (tN "list" cm (aa 4) (a9 (ar (dCall (xw ad) EE 2 (a9 (aa 1) (a9 (aa 3) dNil)))) dNil)))
def iz(ad:Ad)(EE:DX):aC:=
 (aF (o8 (aa 8) (dOp tu (ar (dCall (iN ad) EE 2 (a9 (aa 2) (a9 (aa 9) dNil)))) (dC (.str "faulty")))) (hName 8))
def lx(ad:Ad)(EE:DX):aC:=
 (bw (Cr (uL (gW (bO qA (a9 (aa 10) (a9 (dC (.ty "bool")) dNil))))) (Cr (aK (dOp tu (aa 10) (aa 8))) (aK (dOp tu (aa 7) (aa 6))))) (a_ (dC (.bl false))) bj)
def iC(ad:Ad)(EE:DX):aC:=
 (aw (aF (ar (dCall (qk ad) EE 2 (a9 (aa 2) (a9 (aa 7) dNil)))) (hName 10))
   (lx ad EE))
def rS(ad:Ad)(EE:DX):aC:=
 (aw (dFor (eW (ar (dCall (mR ad) EE 1 (a9 (aa 6) dNil)))) (hName 9) (iz ad EE))
   (iC ad EE))
def rA(ad:Ad)(EE:DX):aC:=
 (aw (aF (dOp dz (ar (dCall (iN ad) EE 2 (a9 (aa 2) (a9 (aa 6) dNil)))) (dC (.str "faulty"))) (hName 8))
   (rS ad EE))
def iB(ad:Ad)(EE:DX):aC:=
 (aw (aF (ar (bO dJ (a9 (aa 6) dNil))) (hName 7))
   (rA ad EE))
def lQ(ad:Ad)(EE:DX):aC:=
 (aw (dFor (eW (aa 4)) (hName 6) (iB ad EE))
  (a_ (dC (.bl true))))
def pQ(ad:Ad)(EE:DX):aC:=
 (aw (dFor (cy (a9 (dC (.int 5)) dNil)) (hName 5) (lb ad EE))
  (lQ ad EE))
def nu(ad:Ad)(EE:DX):aC:=
 (aw (aF (bX (a9 (ar (dCall (rU ad) EE 3 (a9 (aa 1) (a9 (aa 2) (a9 (aa 3) dNil))))) (a9 (ar (bX dNil)) (a9 (ar (bO dJ (a9 (aa 3) dNil))) dNil)))) (hName 4))
  (pQ ad EE))
def mP(ad:Ad)(EE:DX):aC:=
 (aw (aF (ar (dCall (pN ad) EE 3 (a9 (dOp aL (aa 2) (dC (.int 0))) (a9 (dOp aL (aa 2) (dC (.int 1))) (a9 (dOp aL (aa 2) (dC (.int 2))) dNil))))) (hName 3))
  (nu ad EE))
def no(ad:Ad)(EE:DX):aC:=
 (aw (aF (ar (dCall (qW ad) EE 4 (a9 (aa 1) (a9 (dC (.int 7)) (a9 (dC (.int 50)) (a9 (dC (.int 5)) dNil)))))) (hName 2))
  (mP ad EE))
def nI(ad:Ad)(EE:DX):aC:=
 (aw (aF (dCall (rB ad) EE 1 (a9 (aa 0) dNil)) (hName 1))
  (no ad EE))
def tO(ad:Ad):Sd:=ba ["_law_script","_law_tape_here","_law_case_here","_law_all","_law_some","_law_k","_law_mix","_law_handed","_law_due","_law_less","_law_found"] (nI ad)
theorem CJ{ad:Ad}{n:Nat}{x0:D}{M:Mem}{Q:DK}{E:DX}:tO ad [x0] M Q E=nI ad (aN E) { nx:=fun _ M'=>drp Q .non M',rt:=drp Q } [some x0,none,none,none,none,none,none,none,none,none,none] M:=rfl
end Tw
namespace Tw
open PySem L2 L3
set_option genInjectivity false in
structure En(K:W.Frag)(mg:Str->Option Value)(ad:Ad):Prop where
 c_Askings:Cls K ad.C_Askings
 mC_Askings:mg "Askings"=some (.ref ad.C_Askings)
 mk_Askings:Mk K ad.C_Askings ad.a_q1
 n_Askings_case:NoAttr K ad.C_Askings "case"
 n_Askings_told:NoAttr K ad.C_Askings "told"
 n_Askings_two:NoAttr K ad.C_Askings "two"
 c_Walk:Cls K ad.C_Walk
 mC_Walk:mg "Walk"=some (.ref ad.C_Walk)
 mk_Walk:Mk K ad.C_Walk ad.a_q6
 n_Walk_most:NoAttr K ad.C_Walk "most"
 n_Walk_numbers:NoAttr K ad.C_Walk "numbers"
 n_Walk_pieces:NoAttr K ad.C_Walk "pieces"
 n_Walk_plan:NoAttr K ad.C_Walk "plan"
 n_Walk_steps:NoAttr K ad.C_Walk "steps"
 x_Dry:ExcAt K ad.C_Dry
 mC_Dry:mg "Dry"=some (.ref ad.C_Dry)
 x_NoCase:ExcAt K ad.C_NoCase
 mC_NoCase:mg "NoCase"=some (.ref ad.C_NoCase)
 F_q6:Fun K "__init__" "Walk.__init__" AH ad.a_q6 ad.d_q6
 b_q6:Binds K ad.d_q6 ["self","plan","stand","most"] []
 k_q6:W.keepIn K (.ref ad.a_q6)=true
 F_q3:Fun K "note_step" "Walk.note_step" B3 ad.a_q3 ad.d_q3
 b_q3:Binds K ad.d_q3 ["self","place","number"] []
 k_q3:W.keepIn K (.ref ad.a_q3)=true
 me_q3:Meth K ad.C_Walk "note_step" ad.a_q3
 F_q25:Fun K "look" "Walk.look" tV ad.a_q25 ad.d_q25
 b_q25:Binds K ad.d_q25 ["self","place","name"] []
 k_q25:W.keepIn K (.ref ad.a_q25)=true
 me_q25:Meth K ad.C_Walk "look" ad.a_q25
 F_q44:Fun K "run" "run" tG ad.a_q44 ad.d_q44
 b_q44:Binds K ad.d_q44 ["plan","stand","most"] []
 k_q44:W.keepIn K (.ref ad.a_q44)=true
 m_q44:mg "run"=some (.ref ad.a_q44)
 F_q43:Fun K "mark" "mark" uI ad.a_q43 ad.d_q43
 b_q43:Binds K ad.d_q43 ["plan","stand","most"] []
 k_q43:W.keepIn K (.ref ad.a_q43)=true
 m_q43:mg "mark"=some (.ref ad.a_q43)
 F_q37:Fun K "do_rows" "do_rows" tR ad.a_q37 ad.d_q37
 b_q37:Binds K ad.d_q37 ["walk","rows","place"] []
 k_q37:W.keepIn K (.ref ad.a_q37)=true
 m_q37:mg "do_rows"=some (.ref ad.a_q37)
 F_q40:Fun K "do_row" "do_row" vM ad.a_q40 ad.d_q40
 b_q40:Binds K ad.d_q40 ["walk","row","place"] []
 k_q40:W.keepIn K (.ref ad.a_q40)=true
 m_q40:mg "do_row"=some (.ref ad.a_q40)
 F_q42:Fun K "do_if" "do_if" v4 ad.a_q42 ad.d_q42
 b_q42:Binds K ad.d_q42 ["walk","row","place"] []
 k_q42:W.keepIn K (.ref ad.a_q42)=true
 m_q42:mg "do_if"=some (.ref ad.a_q42)
 F_q34:Fun K "do_again" "do_again" vo ad.a_q34 ad.d_q34
 b_q34:Binds K ad.d_q34 ["walk","row","place"] []
 k_q34:W.keepIn K (.ref ad.a_q34)=true
 m_q34:mg "do_again"=some (.ref ad.a_q34)
 F_q26:Fun K "number_of" "number_of" vK ad.a_q26 ad.d_q26
 b_q26:Binds K ad.d_q26 ["plan","numbers","pieces","row"] []
 k_q26:W.keepIn K (.ref ad.a_q26)=true
 m_q26:mg "number_of"=some (.ref ad.a_q26)
 F_q21:Fun K "piece_read" "piece_read" vU ad.a_q21 ad.d_q21
 b_q21:Binds K ad.d_q21 ["plan","numbers","row"] []
 k_q21:W.keepIn K (.ref ad.a_q21)=true
 m_q21:mg "piece_read"=some (.ref ad.a_q21)
 F_q39:Fun K "joined" "joined" uT ad.a_q39 ad.d_q39
 b_q39:Binds K ad.d_q39 ["word","y","z","wheel"] []
 k_q39:W.keepIn K (.ref ad.a_q39)=true
 m_q39:mg "joined"=some (.ref ad.a_q39)
 F_q27:Fun K "number_in" "number_in" vX ad.a_q27 ad.d_q27
 b_q27:Binds K ad.d_q27 ["plan","stand","thing"] []
 k_q27:W.keepIn K (.ref ad.a_q27)=true
 m_q27:mg "number_in"=some (.ref ad.a_q27)
 F_q41:Fun K "marks" "marks" tE ad.a_q41 ad.d_q41
 b_q41:Binds K ad.d_q41 ["case"] []
 k_q41:W.keepIn K (.ref ad.a_q41)=true
 m_q41:mg "marks"=some (.ref ad.a_q41)
 F_q33:Fun K "stand_of" "stand_of" tJ ad.a_q33 ad.d_q33
 b_q33:Binds K ad.d_q33 ["case","mix"] []
 k_q33:W.keepIn K (.ref ad.a_q33)=true
 m_q33:mg "stand_of"=some (.ref ad.a_q33)
 F_q11:Fun K "number_mixed" "number_mixed" uO ad.a_q11 ad.d_q11
 b_q11:Binds K ad.d_q11 ["case","mix","thing"] []
 k_q11:W.keepIn K (.ref ad.a_q11)=true
 m_q11:mg "number_mixed"=some (.ref ad.a_q11)
 F_q20:Fun K "verdict_of" "verdict_of" ua ad.a_q20 ad.d_q20
 b_q20:Binds K ad.d_q20 ["two","one"] []
 k_q20:W.keepIn K (.ref ad.a_q20)=true
 m_q20:mg "verdict_of"=some (.ref ad.a_q20)
 F_q1:Fun K "__init__" "Askings.__init__" Be ad.a_q1 ad.d_q1
 b_q1:Binds K ad.d_q1 ["self","case"] []
 k_q1:W.keepIn K (.ref ad.a_q1)=true
 F_q16:Fun K "ask" "Askings.ask" ve ad.a_q16 ad.d_q16
 b_q16:Binds K ad.d_q16 ["self","mix"] []
 k_q16:W.keepIn K (.ref ad.a_q16)=true
 me_q16:Meth K ad.C_Askings "ask" ad.a_q16
 F_q0:Fun K "is_cause" "Askings.is_cause" Bx ad.a_q0 ad.d_q0
 b_q0:Binds K ad.d_q0 ["self","mix"] []
 k_q0:W.keepIn K (.ref ad.a_q0)=true
 me_q0:Meth K ad.C_Askings "is_cause" ad.a_q0
 F_q9:Fun K "all_one_less" "all_one_less" zY ad.a_q9 ad.d_q9
 b_q9:Binds K ad.d_q9 ["mix"] []
 k_q9:W.keepIn K (.ref ad.a_q9)=true
 m_q9:mg "all_one_less"=some (.ref ad.a_q9)
 F_q36:Fun K "is_bare" "is_bare" uj ad.a_q36 ad.d_q36
 b_q36:Binds K ad.d_q36 ["case","mix"] []
 k_q36:W.keepIn K (.ref ad.a_q36)=true
 m_q36:mg "is_bare"=some (.ref ad.a_q36)
 F_q30:Fun K "_law_tape" "_law_tape" tB ad.a_q30 ad.d_q30
 b_q30:Binds K ad.d_q30 ["_law_script"] []
 k_q30:W.keepIn K (.ref ad.a_q30)=true
 m_q30:mg "_law_tape"=some (.ref ad.a_q30)
 F_q32:Fun K "_law_draw" "_law_draw" tP ad.a_q32 ad.d_q32
 b_q32:Binds K ad.d_q32 ["_law_tape_here","_law_many"] []
 k_q32:W.keepIn K (.ref ad.a_q32)=true
 m_q32:mg "_law_draw"=some (.ref ad.a_q32)
 F_q19:Fun K "_law_names" "_law_names" vA ad.a_q19 ad.d_q19
 b_q19:Binds K ad.d_q19 ["_law_tape_here"] []
 k_q19:W.keepIn K (.ref ad.a_q19)=true
 m_q19:mg "_law_names"=some (.ref ad.a_q19)
 F_q12:Fun K "_law_one_row" "_law_one_row" uB ad.a_q12 ad.d_q12
 b_q12:Binds K ad.d_q12 ["_law_tape_here","_law_frame"] []
 k_q12:W.keepIn K (.ref ad.a_q12)=true
 m_q12:mg "_law_one_row"=some (.ref ad.a_q12)
 F_q28:Fun K "_law_loop" "_law_loop" vq ad.a_q28 ad.d_q28
 b_q28:Binds K ad.d_q28 ["_law_tape_here","_law_frame","_law_deep"] []
 k_q28:W.keepIn K (.ref ad.a_q28)=true
 m_q28:mg "_law_loop"=some (.ref ad.a_q28)
 F_q4:Fun K "_law_some_rows" "_law_some_rows" AE ad.a_q4 ad.d_q4
 b_q4:Binds K ad.d_q4 ["_law_tape_here","_law_frame","_law_many","_law_deep"] []
 k_q4:W.keepIn K (.ref ad.a_q4)=true
 m_q4:mg "_law_some_rows"=some (.ref ad.a_q4)
 F_q31:Fun K "_law_plan" "_law_plan" wu ad.a_q31 ad.d_q31
 b_q31:Binds K ad.d_q31 ["_law_tape_here","_law_most"] []
 k_q31:W.keepIn K (.ref ad.a_q31)=true
 m_q31:mg "_law_plan"=some (.ref ad.a_q31)
 F_q23:Fun K "_law_stand" "_law_stand" v0 ad.a_q23 ad.d_q23
 b_q23:Binds K ad.d_q23 ["_law_tape_here","_law_plan_here"] []
 k_q23:W.keepIn K (.ref ad.a_q23)=true
 m_q23:mg "_law_stand"=some (.ref ad.a_q23)
 F_q35:Fun K "_law_set" "_law_set" wv ad.a_q35 ad.d_q35
 b_q35:Binds K ad.d_q35 ["_law_here","_law_row"] []
 k_q35:W.keepIn K (.ref ad.a_q35)=true
 m_q35:mg "_law_set"=some (.ref ad.a_q35)
 F_q38:Fun K "_law_do" "_law_do" vp ad.a_q38 ad.d_q38
 b_q38:Binds K ad.d_q38 ["_law_here","_law_rows"] []
 k_q38:W.keepIn K (.ref ad.a_q38)=true
 m_q38:mg "_law_do"=some (.ref ad.a_q38)
 F_q18:Fun K "_law_begun" "_law_begun" tX ad.a_q18 ad.d_q18
 b_q18:Binds K ad.d_q18 ["_law_plan_here","_law_stand_here","_law_most"] []
 k_q18:W.keepIn K (.ref ad.a_q18)=true
 m_q18:mg "_law_begun"=some (.ref ad.a_q18)
 F_q13:Fun K "_law_mark_by" "_law_mark_by" uu ad.a_q13 ad.d_q13
 b_q13:Binds K ad.d_q13 ["_law_plan_here","_law_stand_here","_law_most"] []
 k_q13:W.keepIn K (.ref ad.a_q13)=true
 m_q13:mg "_law_mark_by"=some (.ref ad.a_q13)
 F_q2:Fun K "_law_two_stands" "_law_two_stands" Av ad.a_q2 ad.d_q2
 b_q2:Binds K ad.d_q2 ["_law_tape_here","_law_plan_here"] []
 k_q2:W.keepIn K (.ref ad.a_q2)=true
 m_q2:mg "_law_two_stands"=some (.ref ad.a_q2)
 F_q24:Fun K "_law_fewer" "_law_fewer" tY ad.a_q24 ad.d_q24
 b_q24:Binds K ad.d_q24 ["_law_tape_here","_law_plan_here","_law_one","_law_other","_law_few"] []
 k_q24:W.keepIn K (.ref ad.a_q24)=true
 m_q24:mg "_law_fewer"=some (.ref ad.a_q24)
 F_q7:Fun K "_law_last_row" "_law_last_row" Aa ad.a_q7 ad.d_q7
 b_q7:Binds K ad.d_q7 ["_law_tape_here","_law_plan_here"] []
 k_q7:W.keepIn K (.ref ad.a_q7)=true
 m_q7:mg "_law_last_row"=some (.ref ad.a_q7)
 F_q29:Fun K "_law_case" "_law_case" vN ad.a_q29 ad.d_q29
 b_q29:Binds K ad.d_q29 ["_law_tape_here","_law_rows","_law_most","_law_few"] []
 k_q29:W.keepIn K (.ref ad.a_q29)=true
 m_q29:mg "_law_case"=some (.ref ad.a_q29)
 F_q14:Fun K "_law_things" "_law_things" uZ ad.a_q14 ad.d_q14
 b_q14:Binds K ad.d_q14 ["_law_plan_here"] []
 k_q14:W.keepIn K (.ref ad.a_q14)=true
 m_q14:mg "_law_things"=some (.ref ad.a_q14)
 F_q17:Fun K "_law_unlike" "_law_unlike" vh ad.a_q17 ad.d_q17
 b_q17:Binds K ad.d_q17 ["_law_plan_here","_law_one","_law_other"] []
 k_q17:W.keepIn K (.ref ad.a_q17)=true
 m_q17:mg "_law_unlike"=some (.ref ad.a_q17)
 F_q22:Fun K "_law_mixed" "_law_mixed" uK ad.a_q22 ad.d_q22
 b_q22:Binds K ad.d_q22 ["_law_case_here","_law_mix"] []
 k_q22:W.keepIn K (.ref ad.a_q22)=true
 m_q22:mg "_law_mixed"=some (.ref ad.a_q22)
 F_q10:Fun K "_law_verdict" "_law_verdict" tH ad.a_q10 ad.d_q10
 b_q10:Binds K ad.d_q10 ["_law_case_here","_law_mix"] []
 k_q10:W.keepIn K (.ref ad.a_q10)=true
 m_q10:mg "_law_verdict"=some (.ref ad.a_q10)
 F_q8:Fun K "_law_some_mix" "_law_some_mix" BF ad.a_q8 ad.d_q8
 b_q8:Binds K ad.d_q8 ["_law_tape_here","_law_all"] []
 k_q8:W.keepIn K (.ref ad.a_q8)=true
 m_q8:mg "_law_some_mix"=some (.ref ad.a_q8)
 F_q5:Fun K "_law_lessened" "_law_lessened" Ac ad.a_q5 ad.d_q5
 b_q5:Binds K ad.d_q5 ["_law_mix"] []
 k_q5:W.keepIn K (.ref ad.a_q5)=true
 m_q5:mg "_law_lessened"=some (.ref ad.a_q5)
 F_q15:Fun K "_law_shrunk" "_law_shrunk" rK ad.a_q15 ad.d_q15
 b_q15:Binds K ad.d_q15 ["_law_tape_here","_law_case_here","_law_all"] []
 k_q15:W.keepIn K (.ref ad.a_q15)=true
 m_q15:mg "_law_shrunk"=some (.ref ad.a_q15)
 F_law:Fun K "law" "law" fT ad.a_law ad.d_law
 b_law:Binds K ad.d_law ["_law_script"] []
 k_law:W.keepIn K (.ref ad.a_law)=true
 m_law:mg "law"=some (.ref ad.a_law)
 z_any:mg "any"=none
 z_bool:mg "bool"=none
 z_dict:mg "dict"=none
 z_enumerate:mg "enumerate"=none
 z_int:mg "int"=none
 z_isinstance:mg "isinstance"=none
 z_len:mg "len"=none
 z_list:mg "list"=none
 z_min:mg "min"=none
 z_range:mg "range"=none
 z_str:mg "str"=none
 z_tuple:mg "tuple"=none
 z_zip:mg "zip"=none
abbrev O1(P:Program)(w:World)(K:W.Frag)(mg:Str->Option Value)(base:Heap)(ad:Ad):Prop:=FnOk P w K mg base (bI P w) 1 ad.a_q6 ad.d_q6 ["self","plan","stand","most"] (av K 4 (yU ad))
abbrev O2(P:Program)(w:World)(K:W.Frag)(mg:Str->Option Value)(base:Heap)(ad:Ad):Prop:=FnOk P w K mg base (bI P w) 1 ad.a_q3 ad.d_q3 ["self","place","number"] (av K 3 (oY ad))
abbrev O3(P:Program)(w:World)(K:W.Frag)(mg:Str->Option Value)(base:Heap)(ad:Ad):Prop:=FnOk P w K mg base (bI P w) 2 ad.a_q25 ad.d_q25 ["self","place","name"] (av K 3 (ko ad))
abbrev O4(P:Program)(w:World)(K:W.Frag)(mg:Str->Option Value)(base:Heap)(ad:Ad):Prop:=FnOk P w K mg base (bI P w) 1 ad.a_q39 ad.d_q39 ["word","y","z","wheel"] (av K 4 (qx ad))
abbrev O5(P:Program)(w:World)(K:W.Frag)(mg:Str->Option Value)(base:Heap)(ad:Ad):Prop:=FnOk P w K mg base (bI P w) 1 ad.a_q21 ad.d_q21 ["plan","numbers","row"] (av K 3 (qq ad))
abbrev O6(P:Program)(w:World)(K:W.Frag)(mg:Str->Option Value)(base:Heap)(ad:Ad):Prop:=FnOk P w K mg base (bI P w) 2 ad.a_q26 ad.d_q26 ["plan","numbers","pieces","row"] (av K 4 (nE ad))
abbrev O7(P:Program)(w:World)(K:W.Frag)(mg:Str->Option Value)(base:Heap)(ad:Ad):Prop:=FnOk P w K mg base (bI P w) 27 ad.a_q44 ad.d_q44 ["plan","stand","most"] (av K 3 (nA ad))
abbrev O8(P:Program)(w:World)(K:W.Frag)(mg:Str->Option Value)(base:Heap)(ad:Ad):Prop:=FnOk P w K mg base (bI P w) 28 ad.a_q43 ad.d_q43 ["plan","stand","most"] (av K 3 (ja ad))
abbrev O9(P:Program)(w:World)(K:W.Frag)(mg:Str->Option Value)(base:Heap)(ad:Ad):Prop:=FnOk P w K mg base (bI P w) 1 ad.a_q27 ad.d_q27 ["plan","stand","thing"] (av K 3 (rj ad))
abbrev O10(P:Program)(w:World)(K:W.Frag)(mg:Str->Option Value)(base:Heap)(ad:Ad):Prop:=FnOk P w K mg base (bI P w) 29 ad.a_q41 ad.d_q41 ["case"] (av K 1 (pV ad))
abbrev O11(P:Program)(w:World)(K:W.Frag)(mg:Str->Option Value)(base:Heap)(ad:Ad):Prop:=FnOk P w K mg base (bI P w) 2 ad.a_q11 ad.d_q11 ["case","mix","thing"] (av K 3 (k6 ad))
abbrev O12(P:Program)(w:World)(K:W.Frag)(mg:Str->Option Value)(base:Heap)(ad:Ad):Prop:=FnOk P w K mg base (bI P w) 3 ad.a_q33 ad.d_q33 ["case","mix"] (av K 2 (pW ad))
abbrev O13(P:Program)(w:World)(K:W.Frag)(mg:Str->Option Value)(base:Heap)(ad:Ad):Prop:=FnOk P w K mg base (bI P w) 1 ad.a_q20 ad.d_q20 ["two","one"] (av K 2 (qT ad))
abbrev O14(P:Program)(w:World)(K:W.Frag)(mg:Str->Option Value)(base:Heap)(ad:Ad):Prop:=FnOk P w K mg base (bI P w) 30 ad.a_q1 ad.d_q1 ["self","case"] (av K 2 (zo ad))
abbrev O15(P:Program)(w:World)(K:W.Frag)(mg:Str->Option Value)(base:Heap)(ad:Ad):Prop:=FnOk P w K mg base (bI P w) 29 ad.a_q16 ad.d_q16 ["self","mix"] (av K 2 (pL ad))
abbrev O16(P:Program)(w:World)(K:W.Frag)(mg:Str->Option Value)(base:Heap)(ad:Ad):Prop:=FnOk P w K mg base (bI P w) 30 ad.a_q0 ad.d_q0 ["self","mix"] (av K 2 (oZ ad))
abbrev O17(P:Program)(w:World)(K:W.Frag)(mg:Str->Option Value)(base:Heap)(ad:Ad):Prop:=FnOk P w K mg base (bI P w) 1 ad.a_q9 ad.d_q9 ["mix"] (av K 1 (z6 ad))
abbrev O18(P:Program)(w:World)(K:W.Frag)(mg:Str->Option Value)(base:Heap)(ad:Ad):Prop:=FnOk P w K mg base (bI P w) 32 ad.a_q36 ad.d_q36 ["case","mix"] (av K 2 (qk ad))
abbrev O19(P:Program)(w:World)(K:W.Frag)(mg:Str->Option Value)(base:Heap)(ad:Ad):Prop:=FnOk P w K mg base (bI P w) 1 ad.a_q30 ad.d_q30 ["_law_script"] (av K 1 (rB ad))
abbrev pU(P:Program)(w:World)(K:W.Frag)(mg:Str->Option Value)(base:Heap)(ad:Ad):Prop:=FnOk P w K mg base (bI P w) 1 ad.a_q32 ad.d_q32 ["_law_tape_here","_law_many"] (av K 2 (bi ad))
abbrev O21(P:Program)(w:World)(K:W.Frag)(mg:Str->Option Value)(base:Heap)(ad:Ad):Prop:=FnOk P w K mg base (bI P w) 2 ad.a_q19 ad.d_q19 ["_law_tape_here"] (av K 1 (nC ad))
abbrev O22(P:Program)(w:World)(K:W.Frag)(mg:Str->Option Value)(base:Heap)(ad:Ad):Prop:=FnOk P w K mg base (bI P w) 2 ad.a_q12 ad.d_q12 ["_law_tape_here","_law_frame"] (av K 2 (pR ad))
abbrev O23(P:Program)(w:World)(K:W.Frag)(mg:Str->Option Value)(base:Heap)(ad:Ad):Prop:=FnOk P w K mg base (bI P w) 27 ad.a_q31 ad.d_q31 ["_law_tape_here","_law_most"] (av K 2 (pT ad))
abbrev O24(P:Program)(w:World)(K:W.Frag)(mg:Str->Option Value)(base:Heap)(ad:Ad):Prop:=FnOk P w K mg base (bI P w) 2 ad.a_q23 ad.d_q23 ["_law_tape_here","_law_plan_here"] (av K 2 (ny ad))
abbrev O25(P:Program)(w:World)(K:W.Frag)(mg:Str->Option Value)(base:Heap)(ad:Ad):Prop:=FnOk P w K mg base (bI P w) 1 ad.a_q35 ad.d_q35 ["_law_here","_law_row"] (av K 2 (rT ad))
abbrev O26(P:Program)(w:World)(K:W.Frag)(mg:Str->Option Value)(base:Heap)(ad:Ad):Prop:=FnOk P w K mg base (bI P w) 1 ad.a_q18 ad.d_q18 ["_law_plan_here","_law_stand_here","_law_most"] (av K 3 (j6 ad))
abbrev O27(P:Program)(w:World)(K:W.Frag)(mg:Str->Option Value)(base:Heap)(ad:Ad):Prop:=FnOk P w K mg base (bI P w) 25 ad.a_q38 ad.d_q38 ["_law_here","_law_rows"] (av K 2 (S_q38 ad 24))
abbrev O28(P:Program)(w:World)(K:W.Frag)(mg:Str->Option Value)(base:Heap)(ad:Ad):Prop:=FnOk P w K mg base (bI P w) 26 ad.a_q13 ad.d_q13 ["_law_plan_here","_law_stand_here","_law_most"] (av K 3 (iS ad))
abbrev O29(P:Program)(w:World)(K:W.Frag)(mg:Str->Option Value)(base:Heap)(ad:Ad):Prop:=FnOk P w K mg base (bI P w) 3 ad.a_q2 ad.d_q2 ["_law_tape_here","_law_plan_here"] (av K 2 (xA ad))
abbrev O30(P:Program)(w:World)(K:W.Frag)(mg:Str->Option Value)(base:Heap)(ad:Ad):Prop:=FnOk P w K mg base (bI P w) 2 ad.a_q24 ad.d_q24 ["_law_tape_here","_law_plan_here","_law_one","_law_other","_law_few"] (av K 5 (q_ ad))
abbrev O31(P:Program)(w:World)(K:W.Frag)(mg:Str->Option Value)(base:Heap)(ad:Ad):Prop:=FnOk P w K mg base (bI P w) 2 ad.a_q7 ad.d_q7 ["_law_tape_here","_law_plan_here"] (av K 2 (yS ad))
abbrev O32(P:Program)(w:World)(K:W.Frag)(mg:Str->Option Value)(base:Heap)(ad:Ad):Prop:=FnOk P w K mg base (bI P w) 28 ad.a_q29 ad.d_q29 ["_law_tape_here","_law_rows","_law_most","_law_few"] (av K 4 (qW ad))
abbrev O33(P:Program)(w:World)(K:W.Frag)(mg:Str->Option Value)(base:Heap)(ad:Ad):Prop:=FnOk P w K mg base (bI P w) 1 ad.a_q14 ad.d_q14 ["_law_plan_here"] (av K 1 (jU ad))
abbrev O34(P:Program)(w:World)(K:W.Frag)(mg:Str->Option Value)(base:Heap)(ad:Ad):Prop:=FnOk P w K mg base (bI P w) 2 ad.a_q17 ad.d_q17 ["_law_plan_here","_law_one","_law_other"] (av K 3 (pN ad))
abbrev O35(P:Program)(w:World)(K:W.Frag)(mg:Str->Option Value)(base:Heap)(ad:Ad):Prop:=FnOk P w K mg base (bI P w) 2 ad.a_q22 ad.d_q22 ["_law_case_here","_law_mix"] (av K 2 (r9 ad))
abbrev O36(P:Program)(w:World)(K:W.Frag)(mg:Str->Option Value)(base:Heap)(ad:Ad):Prop:=FnOk P w K mg base (bI P w) 27 ad.a_q10 ad.d_q10 ["_law_case_here","_law_mix"] (av K 2 (iN ad))
abbrev O37(P:Program)(w:World)(K:W.Frag)(mg:Str->Option Value)(base:Heap)(ad:Ad):Prop:=FnOk P w K mg base (bI P w) 2 ad.a_q8 ad.d_q8 ["_law_tape_here","_law_all"] (av K 2 (xw ad))
abbrev O38(P:Program)(w:World)(K:W.Frag)(mg:Str->Option Value)(base:Heap)(ad:Ad):Prop:=FnOk P w K mg base (bI P w) 1 ad.a_q5 ad.d_q5 ["_law_mix"] (av K 1 (mR ad))
abbrev O39(P:Program)(w:World)(K:W.Frag)(mg:Str->Option Value)(base:Heap)(ad:Ad):Prop:=FnOk P w K mg base (bI P w) 28 ad.a_q15 ad.d_q15 ["_law_tape_here","_law_case_here","_law_all"] (av K 3 (rU ad))
abbrev O40(P:Program)(w:World)(K:W.Frag)(mg:Str->Option Value)(base:Heap)(ad:Ad):Prop:=FnOk P w K mg base (bI P w) 33 ad.a_law ad.d_law ["_law_script"] (av K 1 (tO ad))
section
variable {P:Program}{w:World}{K:W.Frag}{mg:Str->Option Value}{base:Heap}{ad:Ad}
theorem CZ(En:En K mg ad)  : O1 P w K mg base ad:=by
 refine dg (k:=0) (T:=uh ad) En.F_q6 CU fun cdv A outer s H E B EE hr ux=>?_;have hU:=hr.units;have hu:=bc hr;unfold uh
 exact (af (eP En.c_Walk En.n_Walk_plan (ai 0) (ai 1))
  (af (eP En.c_Walk En.n_Walk_numbers (ai 0) (jm rfl rfl En.z_zip rfl En.z_dict (a8 (ak (ag hu) (ai 1) ae (fun _ _=>rfl)) (a8 (ak (ag hu) (ai 2) ae (fun _ _=>rfl)) ac))))
  (af (eP En.c_Walk En.n_Walk_pieces (ai 0) (ak (ag hu) (ai 2) ae (fun _ _=>rfl)))
  (af (eP En.c_Walk En.n_Walk_most (ai 0) (ai 3))
  (am (eP En.c_Walk En.n_Walk_steps (ai 0) (bo ac)))))))
theorem Dh(En:En K mg ad)  : O2 P w K mg base ad:=by
 refine dg (k:=0) (T:=ur ad) En.F_q3 CD fun cdv A outer s H E B EE hr ux=>?_;have hU:=hr.units;have hu:=bc hr;unfold ur
 exact (af (bf (aG vV (aR aS rfl En.z_len bn (a8 (bZ En.c_Walk En.n_Walk_steps (ai 0)) ac)) (bZ En.c_Walk En.n_Walk_most (ai 0)) (az _)) (am (je En.x_Dry En.mC_Dry ux rfl)) aP)
  (am (bQ (gD (Or.inl rfl) PySem.F.plainAttrs_list PySem.F.slot_list_append PySem.F.type_list_append cn (bZ En.c_Walk En.n_Walk_steps (ai 0)) (a8 (aW (a8 (ai 1) (a8 (ai 2) ac))) ac)))))
theorem Bw(En:En K mg ad)(G_q3:O2 P w K mg base ad):O3 P w K mg base ad:=by
 refine dg (k:=1) (T:=nO ad) En.F_q25 sc_q25 fun cdv A outer s H E B EE hr ux=>?_;have hU:=hr.units;have hu:=bc hr;unfold nO
 exact (af (au (i:=3) sc_q25.nd rfl (Or.inl rfl) (eU (aG (aX hU) (ak (ag hu) (bZ En.c_Walk En.n_Walk_numbers (ai 0)) (ai 2) (fun _ _=>rfl)) ae (az _)) ae ae))
  (af (bQ (eh (ai 0) En.c_Walk En.me_q3 G_q3 (hr.mono (by decide)) En.b_q3 aA ux (a8 (ai 1) (a8 (ai 3) ac))))
  (am (aD (ai 3)))))
theorem AM(En:En K mg ad)  : O4 P w K mg base ad:=by
 refine dg (k:=0) (T:=mT ad) En.F_q39 Ab fun cdv A outer s H E B EE hr ux=>?_;have hU:=hr.units;have hu:=bc hr;unfold mT
 exact (af (bf (aG (aX hU) (ai 0) aq (az _)) (am (aD (aH bE (aj (aH aQ (ai 1) (ai 2))) (ai 3)))) aP)
  (af (bf (aG (aX hU) (ai 0) aq (az _)) (am (aD (aH bE (aH cB (ai 1) (ai 2)) (ai 3)))) aP)
  (af (bf (aG (aX hU) (ai 0) aq (az _)) (am (aD (eU (aG jo (ai 1) (ai 2) (az _)) ae ae))) aP)
  (am (aD (eU (aG (aX hU) (ai 1) (ai 2) (az _)) ae ae))))))
theorem A5(En:En K mg ad)  : O5 P w K mg base ad:=by
 refine dg (k:=0) (T:=gJ ad) En.F_q21 AN fun cdv A outer s H E B EE hr ux=>?_;have hU:=hr.units;have hu:=bc hr;unfold gJ
 exact (af (bf (aG (aX hU) (ak (ag hu) (ai 2) ae (fun _ _=>rfl)) aq (az _)) (am (aD (ak (ag hu) (ai 2) ae (fun _ _=>rfl)))) aP)
  (af (bf (aG (aX hU) (ak (ag hu) (ai 2) ae (fun _ _=>rfl)) aq (az _)) (am (aD (aH bE (ak (ag hu) (ai 1) (ak (ag hu) (ai 2) ae (fun _ _=>rfl)) (fun _ _=>rfl)) (ak (ag hu) (ai 0) ae (fun _ _=>rfl))))) aP)
  (am (aD eM))))
theorem BY(En:En K mg ad)(G_q39:O4 P w K mg base ad)(G_q21:O5 P w K mg base ad):O6 P w K mg base ad:=by
 refine dg (k:=1) (T:=gF ad) En.F_q26 sc_q26 fun cdv A outer s H E B EE hr ux=>?_;have hU:=hr.units;have hu:=bc hr;unfold gF
 exact (af (bf (aG (aX hU) (ak (ag hu) (ai 3) ae (fun _ _=>rfl)) aq (az _)) (am (aD (ak (ag hu) (ai 3) ae (fun _ _=>rfl)))) aP)
  (af (au (i:=4) sc_q26.nd rfl (Or.inl rfl) (aj (ap G_q21 (hr.mono (by decide)) rfl En.m_q21 En.k_q21 En.b_q21 aA ux (a8 (ai 0) (a8 (ai 1) (a8 (ai 3) ac))))))
  (af (bf (aG uX (ai 4) eM (az _)) (am (aD (ak (ag hu) (ai 2) (ai 4) (fun _ _=>rfl)))) aP)
  (am (aD (ap G_q39 (hr.mono (by decide)) rfl En.m_q39 En.k_q39 En.b_q39 aA ux (a8 (ak (ag hu) (ai 3) ae (fun _ _=>rfl)) (a8 (ak (ag hu) (ai 1) (ak (ag hu) (ai 3) ae (fun _ _=>rfl)) (fun _ _=>rfl)) (a8 (ak (ag hu) (ai 1) (ak (ag hu) (ai 3) ae (fun _ _=>rfl)) (fun _ _=>rfl)) (a8 (ak (ag hu) (ai 0) ae (fun _ _=>rfl)) ac))))))))))
theorem ms(En:En K mg ad)(G_q25:O3 P w K mg base ad)(G_q3:O2 P w K mg base ad)(G_q26:O6 P w K mg base ad)(n:Nat)(G_q37:FnOk P w K mg base (bI P w) (2+n) ad.a_q37 ad.d_q37 ["walk","rows","place"] (av K 3 (S_q37 ad n)))(G_q40:FnOk P w K mg base (bI P w) (2+n) ad.a_q40 ad.d_q40 ["walk","row","place"] (av K 3 (S_q40 ad n)))(G_q42:FnOk P w K mg base (bI P w) (2+n) ad.a_q42 ad.d_q42 ["walk","row","place"] (av K 3 (S_q42 ad n)))(G_q34:FnOk P w K mg base (bI P w) (2+n) ad.a_q34 ad.d_q34 ["walk","row","place"] (av K 3 (S_q34 ad n))):FnOk P w K mg base (bI P w) (2+n+1) ad.a_q37 ad.d_q37 ["walk","rows","place"] (av K 3 (S_q37 ad (n+1))):=by
 refine dg (k:=2+n) (T:=T_q37 ad (S_q37 ad n) (S_q40 ad n) (S_q42 ad n) (S_q34 ad n)) En.F_q37 sc_q37 fun cdv A outer s H E B EE hr ux=>?_;have hU:=hr.units;have hu:=bc hr;unfold T_q37;exact (am (cN PassesOwn.leaving rfl (ym rfl En.z_enumerate (a8 (ai 1) ac)) (gw (n:=2) rfl (b0 (aI (i:=3) sc_q37.nd rfl (Or.inl rfl)) (b0 (aI (i:=4) sc_q37.nd rfl (Or.inl rfl)) cT))) (am (bQ (ap G_q40 (hr.mono (by lia)) rfl En.m_q40 En.k_q40 En.b_q40 aA ux (a8 (ai 0) (a8 (ai 4) (a8 (aH aQ (ai 2) (aW (a8 (ai 3) ac))) ac))))))))
theorem pz(En:En K mg ad)(G_q25:O3 P w K mg base ad)(G_q3:O2 P w K mg base ad)(G_q26:O6 P w K mg base ad)(n:Nat)(G_q37:FnOk P w K mg base (bI P w) (2+n) ad.a_q37 ad.d_q37 ["walk","rows","place"] (av K 3 (S_q37 ad n)))(G_q40:FnOk P w K mg base (bI P w) (2+n) ad.a_q40 ad.d_q40 ["walk","row","place"] (av K 3 (S_q40 ad n)))(G_q42:FnOk P w K mg base (bI P w) (2+n) ad.a_q42 ad.d_q42 ["walk","row","place"] (av K 3 (S_q42 ad n)))(G_q34:FnOk P w K mg base (bI P w) (2+n) ad.a_q34 ad.d_q34 ["walk","row","place"] (av K 3 (S_q34 ad n))):FnOk P w K mg base (bI P w) (2+n+1) ad.a_q40 ad.d_q40 ["walk","row","place"] (av K 3 (S_q40 ad (n+1))):=by
 refine dg (k:=2+n) (T:=fD ad (S_q37 ad n) (S_q40 ad n) (S_q42 ad n) (S_q34 ad n)) En.F_q40 sc_q40 fun cdv A outer s H E B EE hr ux=>?_;have hU:=hr.units;have hu:=bc hr;unfold fD
 exact (am (bf (aG (aX hU) (ak (ag hu) (ai 1) ae (fun _ _=>rfl)) aq (az _)) (am (bQ (ap G_q42 (hr.mono (by lia)) rfl En.m_q42 En.k_q42 En.b_q42 aA ux (a8 (ai 0) (a8 (ai 1) (a8 (ai 2) ac)))))) (am (bf (aG (aX hU) (ak (ag hu) (ai 1) ae (fun _ _=>rfl)) aq (az _)) (am (bQ (ap G_q34 (hr.mono (by lia)) rfl En.m_q34 En.k_q34 En.b_q34 aA ux (a8 (ai 0) (a8 (ai 1) (a8 (ai 2) ac)))))) (af (au (i:=3) sc_q40.nd rfl (Or.inl rfl) (aj (ap G_q26 (hr.mono (by lia)) rfl En.m_q26 En.k_q26 En.b_q26 aA ux (a8 (bZ En.c_Walk En.n_Walk_plan (ai 0)) (a8 (bZ En.c_Walk En.n_Walk_numbers (ai 0)) (a8 (bZ En.c_Walk En.n_Walk_pieces (ai 0)) (a8 (ai 1) ac)))))))
    (af (bQ (eh (ai 0) En.c_Walk En.me_q3 G_q3 (hr.mono (by lia)) En.b_q3 aA ux (a8 (ai 2) (a8 (ai 3) ac))))
    (am (bU (ai 3) (cD hu (bZ En.c_Walk En.n_Walk_numbers (ai 0)) (ak (ag hu) (ai 1) ae (fun _ _=>rfl)))))))))))
theorem sB(En:En K mg ad)(G_q25:O3 P w K mg base ad)(G_q3:O2 P w K mg base ad)(G_q26:O6 P w K mg base ad)(n:Nat)(G_q37:FnOk P w K mg base (bI P w) (2+n) ad.a_q37 ad.d_q37 ["walk","rows","place"] (av K 3 (S_q37 ad n)))(G_q40:FnOk P w K mg base (bI P w) (2+n) ad.a_q40 ad.d_q40 ["walk","row","place"] (av K 3 (S_q40 ad n)))(G_q42:FnOk P w K mg base (bI P w) (2+n) ad.a_q42 ad.d_q42 ["walk","row","place"] (av K 3 (S_q42 ad n)))(G_q34:FnOk P w K mg base (bI P w) (2+n) ad.a_q34 ad.d_q34 ["walk","row","place"] (av K 3 (S_q34 ad n))):FnOk P w K mg base (bI P w) (2+n+1) ad.a_q42 ad.d_q42 ["walk","row","place"] (av K 3 (S_q42 ad (n+1))):=by
 refine dg (k:=2+n) (T:=T_q42 ad (S_q37 ad n) (S_q40 ad n) (S_q42 ad n) (S_q34 ad n)) En.F_q42 sc_q42 fun cdv A outer s H E B EE hr ux=>?_;have hU:=hr.units;have hu:=bc hr;unfold T_q42
 exact (af (au (i:=3) sc_q42.nd rfl (Or.inl rfl) (aj (eh (ai 0) En.c_Walk En.me_q25 G_q25 (hr.mono (by lia)) En.b_q25 aA ux (a8 (ai 2) (a8 (ak (ag hu) (ai 1) ae (fun _ _=>rfl)) ac)))))
  (am (bQ (ap G_q37 (hr.mono (by lia)) rfl En.m_q37 En.k_q37 En.b_q37 aA ux (a8 (ai 0) (a8 (eU (aG (aX hU) (ai 3) ae (az _)) (ak (ag hu) (ai 1) ae (fun _ _=>rfl)) (ak (ag hu) (ai 1) ae (fun _ _=>rfl))) (a8 (aH aQ (ai 2) (aW (a8 (ai 3) ac))) ac)))))))
theorem lD(En:En K mg ad)(G_q25:O3 P w K mg base ad)(G_q3:O2 P w K mg base ad)(G_q26:O6 P w K mg base ad)(n:Nat)(G_q37:FnOk P w K mg base (bI P w) (2+n) ad.a_q37 ad.d_q37 ["walk","rows","place"] (av K 3 (S_q37 ad n)))(G_q40:FnOk P w K mg base (bI P w) (2+n) ad.a_q40 ad.d_q40 ["walk","row","place"] (av K 3 (S_q40 ad n)))(G_q42:FnOk P w K mg base (bI P w) (2+n) ad.a_q42 ad.d_q42 ["walk","row","place"] (av K 3 (S_q42 ad n)))(G_q34:FnOk P w K mg base (bI P w) (2+n) ad.a_q34 ad.d_q34 ["walk","row","place"] (av K 3 (S_q34 ad n))):FnOk P w K mg base (bI P w) (2+n+1) ad.a_q34 ad.d_q34 ["walk","row","place"] (av K 3 (S_q34 ad (n+1))):=by
 refine dg (k:=2+n) (T:=T_q34 ad (S_q37 ad n) (S_q40 ad n) (S_q42 ad n) (S_q34 ad n)) En.F_q34 sc_q34 fun cdv A outer s H E B EE hr ux=>?_;have hU:=hr.units;have hu:=bc hr;unfold T_q34
 exact (af (au (i:=3) sc_q34.nd rfl (Or.inl rfl) ae)
  (am (n_ PassesOwn.leaving (aG (aX hU) (aj (eh (ai 0) En.c_Walk En.me_q25 G_q25 (hr.mono (by lia)) En.b_q25 aA ux (a8 (aH aQ (ai 2) (aW (a8 (ai 3) ac))) (a8 (ak (ag hu) (ai 1) ae (fun _ _=>rfl)) ac)))) ae (az _)) (af (bQ (ap G_q37 (hr.mono (by lia)) rfl En.m_q37 En.k_q37 En.b_q37 aA ux (a8 (ai 0) (a8 (ak (ag hu) (ai 1) ae (fun _ _=>rfl)) (a8 (aH aQ (ai 2) (aW (a8 (ai 3) ac))) ac)))))
   (am (BB (i:=3) sc_q34.nd rfl (Or.inl rfl) ae xn))))))
theorem gH(En:En K mg ad)(G_q25:O3 P w K mg base ad)(G_q3:O2 P w K mg base ad)(G_q26:O6 P w K mg base ad):∀n:Nat,FnOk P w K mg base (bI P w) (2+n) ad.a_q37 ad.d_q37 ["walk","rows","place"] (av K 3 (S_q37 ad n))/\FnOk P w K mg base (bI P w) (2+n) ad.a_q40 ad.d_q40 ["walk","row","place"] (av K 3 (S_q40 ad n))/\FnOk P w K mg base (bI P w) (2+n) ad.a_q42 ad.d_q42 ["walk","row","place"] (av K 3 (S_q42 ad n))/\FnOk P w K mg base (bI P w) (2+n) ad.a_q34 ad.d_q34 ["walk","row","place"] (av K 3 (S_q34 ad n))
 |0=>⟨fM,fM,fM,fM⟩
 |n+1=>by
  obtain ⟨G_q37,G_q40,G_q42,G_q34⟩:=gH En G_q25 G_q3 G_q26 n;exact ⟨ms En G_q25 G_q3 G_q26 n G_q37 G_q40 G_q42 G_q34,pz En G_q25 G_q3 G_q26 n G_q37 G_q40 G_q42 G_q34,sB En G_q25 G_q3 G_q26 n G_q37 G_q40 G_q42 G_q34,lD En G_q25 G_q3 G_q26 n G_q37 G_q40 G_q42 G_q34⟩
theorem BU(En:En K mg ad)(G_q6:O1 P w K mg base ad)(G_q37:FnOk P w K mg base (bI P w) 26 ad.a_q37 ad.d_q37 ["walk","rows","place"] (av K 3 (S_q37 ad 24))):O7 P w K mg base ad:=by
 refine dg (k:=26) (T:=mx ad) En.F_q44 sc_q44 fun cdv A outer s H E B EE hr ux=>?_;have hU:=hr.units;have hu:=bc hr;unfold mx
 exact (af (au (i:=3) sc_q44.nd rfl (Or.inr rfl) (qD En.mk_Walk G_q6 (hr.mono (by decide)) rfl En.mC_Walk En.b_q6 aA ux (a8 (ai 0) (a8 (ai 1) (a8 (ai 2) ac)))))
  (af (oX (C:=ad.C_Dry) rfl rfl G_q37 (hr.mono (by decide)) rfl En.m_q37 En.k_q37 En.b_q37 (a8 (ai 3) (a8 (ak (ag hu) (ai 0) ae (fun _ _=>rfl)) (a8 (aW ac) ac))) En.x_Dry rfl En.mC_Dry (fun ea=>(am (aD (aW (a8 (bZ En.c_Walk En.n_Walk_steps (ai 3)) (a8 eM ac)))))))
  (am (aD (aW (a8 (bZ En.c_Walk En.n_Walk_steps (ai 3)) (a8 (aE aO rfl En.z_tuple aV (a8 (aj (cc (ls:=["name"]) (fs:=["walk"]) (js:=[3]) rfl (b_ (cs:=[s.heap.objs.size+1]) rfl (by decide +kernel) (by decide +kernel) rfl rfl (dF rfl fS) (.cons rfl (.inl rfl) (.inl rfl) .nil)) (dB (ak (ag hu) (ai 0) ae (fun _ _=>rfl))) (fun C' s₀ H₀ fp pl'=>⟨(aI (i:=0) (show List.Nodup [("name":Str),("walk":Str)] from (by decide +kernel)) rfl (Or.inl rfl)),cA,(ak (ag hu) (bZ En.c_Walk En.n_Walk_numbers (ai 1)) (ai 0) (fun _ _=>rfl))⟩))) ac)) ac)))))))
theorem C5(En:En K mg ad)(G_q44:O7 P w K mg base ad):O8 P w K mg base ad:=by
 refine dg (k:=27) (T:=nG ad) En.F_q43 sc_q43 fun cdv A outer s H E B EE hr ux=>?_;have hU:=hr.units;have hu:=bc hr;unfold nG
 exact (af (au (i:=3) sc_q43.nd rfl (Or.inl rfl) (ak (ag hu) (yO (ap G_q44 (hr.mono (by decide)) rfl En.m_q44 En.k_q44 En.b_q44 aA ux (a8 (ai 0) (a8 (ai 1) (a8 (ai 2) ac))))) ae (fun _ _=>rfl)))
  (af (bf (aG lL (ai 3) eM (az _)) (am (aD eM)) aP)
  (am (aD (ak (ag hu) (ai 3) (zI PySem.F.slot_tuple_index PySem.F.type_tuple_index iV (ak (ag hu) (ai 0) ae (fun _ _=>rfl)) (a8 (ak (ag hu) (ai 0) ae (fun _ _=>rfl)) ac)) (fun _ _=>rfl))))))
theorem Bc(En:En K mg ad)  : O9 P w K mg base ad:=by
 refine dg (k:=0) (T:=kd ad) En.F_q27 Bq fun cdv A outer s H E B EE hr ux=>?_;have hU:=hr.units;have hu:=bc hr;unfold kd
 exact (af (bf (dS (aR fQ rfl En.z_isinstance eS (a8 (ai 2) (a8 (zN rfl En.z_str xa) ac)))) (am (aD (ak (ag hu) (ak (ag hu) (ai 1) ae (fun _ _=>rfl)) (zI PySem.F.slot_tuple_index PySem.F.type_tuple_index iV (ak (ag hu) (ai 0) ae (fun _ _=>rfl)) (a8 (ai 2) ac)) (fun _ _=>rfl)))) aP)
  (am (aD (ak (ag hu) (ak (ag hu) (ai 1) ae (fun _ _=>rfl)) (ai 2) (fun _ _=>rfl)))))
theorem B2(En:En K mg ad)(G_q43:O8 P w K mg base ad):O10 P w K mg base ad:=by
 refine dg (k:=28) (T:=m_ ad) En.F_q41 sc_q41 fun cdv A outer s H E B EE hr ux=>?_;have hU:=hr.units;have hu:=bc hr;unfold m_
 exact (af (au (i:=1) sc_q41.nd rfl (Or.inl rfl) (aj (ap G_q43 (hr.mono (by decide)) rfl En.m_q43 En.k_q43 En.b_q43 aA ux (a8 (ak (ag hu) (ai 0) ae (fun _ _=>rfl)) (a8 (ak (ag hu) (ai 0) ae (fun _ _=>rfl)) (a8 (ak (ag hu) (ai 0) ae (fun _ _=>rfl)) ac))))))
  (af (au (i:=2) sc_q41.nd rfl (Or.inl rfl) (aj (ap G_q43 (hr.mono (by decide)) rfl En.m_q43 En.k_q43 En.b_q43 aA ux (a8 (ak (ag hu) (ai 0) ae (fun _ _=>rfl)) (a8 (ak (ag hu) (ai 0) ae (fun _ _=>rfl)) (a8 (ak (ag hu) (ai 0) ae (fun _ _=>rfl)) ac))))))
  (af (bf (eG (mj (aG lL (ai 1) eM (az _)) (lc (aG lL (ai 2) eM (az _))))) (am (je En.x_NoCase En.mC_NoCase ux rfl)) aP)
  (af (bf (aG (aX hU) (ai 1) (ai 2) (az _)) (am (je En.x_NoCase En.mC_NoCase ux rfl)) aP)
  (am (aD (aW (a8 (ai 1) (a8 (ai 2) ac)))))))))
theorem Bh(En:En K mg ad)(G_q27:O9 P w K mg base ad):O11 P w K mg base ad:=by
 refine dg (k:=1) (T:=nZ ad) En.F_q11 BJ fun cdv A outer s H E B EE hr ux=>?_;have hU:=hr.units;have hu:=bc hr;unfold nZ;exact (am (aD (ap G_q27 (hr.mono (by decide)) rfl En.m_q27 En.k_q27 En.b_q27 aA ux (a8 (ak (ag hu) (ai 0) ae (fun _ _=>rfl)) (a8 (eU (aG (uP hU) (ai 2) (ai 1) (by rfl)) (ak (ag hu) (ai 0) ae (fun _ _=>rfl)) (ak (ag hu) (ai 0) ae (fun _ _=>rfl))) (a8 (ai 2) ac))))))
theorem Bv(En:En K mg ad)(G_q11:O11 P w K mg base ad):O12 P w K mg base ad:=by
 refine dg (k:=2) (T:=nX ad) En.F_q33 sc_q33 fun cdv A outer s H E B EE hr ux=>?_;have hU:=hr.units;have hu:=bc hr;unfold nX
 exact (af (au (i:=2) sc_q33.nd rfl (Or.inl rfl) (ak (ag hu) (ak (ag hu) (ai 0) ae (fun _ _=>rfl)) ae (fun _ _=>rfl)))
  (af (au (i:=3) sc_q33.nd rfl (Or.inl rfl) (aj (jq rfl rfl En.z_range rfl En.z_list (a8 (ak (ag hu) (ak (ag hu) (ai 0) ae (fun _ _=>rfl)) ae (fun _ _=>rfl)) ac))))
  (am (aD (aW (a8 (aE aO rfl En.z_tuple aV (a8 (aj (cc (ls:=["name"]) (fs:=["mix","case"]) (js:=[1,0]) rfl (b_ (cs:=[s.heap.objs.size+2,s.heap.objs.size+1]) rfl (by decide +kernel) (by decide +kernel) rfl rfl (dF rfl (dF rfl fS)) (.cons rfl (.inl rfl) (.inl rfl) (.cons rfl (.inl rfl) (.inl rfl) .nil))) (dB (ai 2)) (fun C' s₀ H₀ fp pl'=>⟨(aI (i:=0) (show List.Nodup [("name":Str),("mix":Str),("case":Str)] from (by decide +kernel)) rfl (Or.inl rfl)),cA,(aj (ap G_q11 (hr.mono (by decide)) rfl En.m_q11 En.k_q11 En.b_q11 dZ zn (a8 (ai 2) (a8 (ai 1) (a8 (ai 0) ac)))))⟩))) ac)) (a8 (aE aO rfl En.z_tuple aV (a8 (aj (cc (ls:=["piece"]) (fs:=["mix","case"]) (js:=[1,0]) rfl (b_ (cs:=[s.heap.objs.size+2,s.heap.objs.size+1]) rfl (by decide +kernel) (by decide +kernel) rfl rfl (dF rfl (dF rfl fS)) (.cons rfl (.inl rfl) (.inl rfl) (.cons rfl (.inl rfl) (.inl rfl) .nil))) (dB (ai 3)) (fun C' s₀ H₀ fp pl'=>⟨(aI (i:=0) (show List.Nodup [("piece":Str),("mix":Str),("case":Str)] from (by decide +kernel)) rfl (Or.inl rfl)),cA,(aj (ap G_q11 (hr.mono (by decide)) rfl En.m_q11 En.k_q11 En.b_q11 dZ zn (a8 (ai 2) (a8 (ai 1) (a8 (ai 0) ac)))))⟩))) ac)) ac)))))))
theorem Ao(En:En K mg ad)  : O13 P w K mg base ad:=by
 refine dg (k:=0) (T:=kn ad) En.F_q20 A_ fun cdv A outer s H E B EE hr ux=>?_;have hU:=hr.units;have hu:=bc hr;unfold kn
 exact (af (bf (aG (aX hU) (ai 1) (ak (ag hu) (ai 0) ae (fun _ _=>rfl)) (az _)) (am (aD aq)) aP)
  (af (bf (aG (aX hU) (ai 1) (ak (ag hu) (ai 0) ae (fun _ _=>rfl)) (az _)) (am (aD aq)) aP)
  (am (aD aq))))
theorem CH(En:En K mg ad)(G_q41:O10 P w K mg base ad):O14 P w K mg base ad:=by
 refine dg (k:=29) (T:=vG ad) En.F_q1 Em fun cdv A outer s H E B EE hr ux=>?_;have hU:=hr.units;have hu:=bc hr;unfold vG
 exact (af (eP En.c_Askings En.n_Askings_case (ai 0) (ai 1))
  (af (eP En.c_Askings En.n_Askings_two (ai 0) (aj (ap G_q41 (hr.mono (by decide)) rfl En.m_q41 En.k_q41 En.b_q41 aA ux (a8 (ai 1) ac))))
  (am (eP En.c_Askings En.n_Askings_told (ai 0) xr))))
theorem A8(En:En K mg ad)(G_q43:O8 P w K mg base ad)(G_q33:O12 P w K mg base ad)(G_q20:O13 P w K mg base ad):O15 P w K mg base ad:=by
 refine dg (k:=28) (T:=mD ad) En.F_q16 C4 fun cdv A outer s H E B EE hr ux=>?_;have hU:=hr.units;have hu:=bc hr;unfold mD
 exact (af (bf (aG (km hU) (aE aO rfl En.z_tuple aV (a8 (ai 1) ac)) (bZ En.c_Askings En.n_Askings_told (ai 0)) (by rfl)) (am (bU (aj (ap G_q20 (hr.mono (by decide)) rfl En.m_q20 En.k_q20 En.b_q20 aA ux (a8 (bZ En.c_Askings En.n_Askings_two (ai 0)) (a8 (aj (ap G_q43 (hr.mono (by decide)) rfl En.m_q43 En.k_q43 En.b_q43 aA ux (a8 (ak (ag hu) (bZ En.c_Askings En.n_Askings_case (ai 0)) ae (fun _ _=>rfl)) (a8 (aj (ap G_q33 (hr.mono (by decide)) rfl En.m_q33 En.k_q33 En.b_q33 aA ux (a8 (bZ En.c_Askings En.n_Askings_case (ai 0)) (a8 (ai 1) ac)))) (a8 (ak (ag hu) (bZ En.c_Askings En.n_Askings_case (ai 0)) ae (fun _ _=>rfl)) ac))))) ac)))) (cD hu (bZ En.c_Askings En.n_Askings_told (ai 0)) (aE aO rfl En.z_tuple aV (a8 (ai 1) ac))))) aP)
  (am (aD (ak (ag hu) (bZ En.c_Askings En.n_Askings_told (ai 0)) (aE aO rfl En.z_tuple aV (a8 (ai 1) ac)) (fun _ _=>rfl)))))
theorem Dc(En:En K mg ad)(G_q16:O15 P w K mg base ad):O16 P w K mg base ad:=by
 refine dg (k:=29) (T:=wn ad) En.F_q0 CY fun cdv A outer s H E B EE hr ux=>?_;have hU:=hr.units;have hu:=bc hr;unfold wn;exact (am (aD (dE (aX hU) (aj (eh (ai 0) En.c_Askings En.me_q16 G_q16 (hr.mono (by decide)) En.b_q16 aA ux (a8 (ai 1) ac))) aq (az _))))
theorem Eb(En:En K mg ad)  : O17 P w K mg base ad:=by
 refine dg (k:=0) (T:=v8 ad) En.F_q9 Du fun cdv A outer s H E B EE hr ux=>?_;have hU:=hr.units;have hu:=bc hr;unfold v8;exact (am (aD (cc (ls:=["at"]) (fs:=["mix"]) (js:=[0]) rfl (b_ (cs:=[s.heap.objs.size+1]) rfl (by decide +kernel) (by decide +kernel) rfl rfl (dF rfl fS) (.cons rfl (.inl rfl) (.inl rfl) .nil)) (bC rfl En.z_range (a8 (aR aS rfl En.z_len bn (a8 (ai 0) ac)) ac)) (fun C' s₀ H₀ fp pl'=>⟨(aI (i:=0) (show List.Nodup [("at":Str),("mix":Str)] from (by decide +kernel)) rfl (Or.inl rfl)),cA,(aj (aH aQ (aj (bu (ai 1) bP (bR (ai 0)))) (aj (bu (ai 1) (bR (aH aQ (ai 0) ae)) bP))))⟩))))
theorem Ch(En:En K mg ad)(G_q1:O14 P w K mg base ad)(G_q0:O16 P w K mg base ad)(G_q9:O17 P w K mg base ad):O18 P w K mg base ad:=by
 refine dg (k:=31) (T:=ni ad) En.F_q36 sc_q36 fun cdv A outer s H E B EE hr ux=>?_;have hU:=hr.units;have hu:=bc hr;unfold ni
 exact (af (au (i:=2) sc_q36.nd rfl (Or.inr rfl) (qD En.mk_Askings G_q1 (hr.mono (by decide)) rfl En.mC_Askings En.b_q1 aA ux (a8 (ai 0) ac)))
  (am (aD (p9 (aj (eh (ai 2) En.c_Askings En.me_q0 G_q0 (hr.mono (by decide)) En.b_q0 aA ux (a8 (ai 1) ac))) (o_ (z_ (aR (sU rfl) rfl En.z_any zw (a8 (aj (cc (ls:=["less"]) (fs:=["askings"]) (js:=[2]) rfl (b_ (cs:=[s.heap.objs.size+1]) rfl (by decide +kernel) (by decide +kernel) rfl rfl (dF rfl fS) (.cons rfl (.inl rfl) (.inl rfl) .nil)) (dB (aj (ap G_q9 (hr.mono (by decide)) rfl En.m_q9 En.k_q9 En.b_q9 aA ux (a8 (ai 1) ac)))) (fun C' s₀ H₀ fp pl'=>⟨(aI (i:=0) (show List.Nodup [("less":Str),("askings":Str)] from (by decide +kernel)) rfl (Or.inl rfl)),cA,(aj (eh (ai 1) En.c_Askings En.me_q0 G_q0 (hr.mono (by decide)) En.b_q0 dZ zn (a8 (ai 0) ac)))⟩))) ac))))))))
theorem AK(En:En K mg ad)  : O19 P w K mg base ad:=by
 refine dg (k:=0) (T:=mH ad) En.F_q30 Cc fun cdv A outer s H E B EE hr ux=>?_;have hU:=hr.units;have hu:=bc hr;unfold mH;exact (am (aD (bo (a8 (aE bV rfl En.z_list bt_list' (a8 (aj (bu (ai 0) bP (bR ae))) ac)) (a8 ae (a8 ae ac))))))
theorem Bo(En:En K mg ad)  : pU P w K mg base ad:=by
 refine dg (k:=0) (T:=my ad) En.F_q32 sc_q32 fun cdv A outer s H E B EE hr ux=>?_;have hU:=hr.units;have hu:=bc hr;unfold my
 exact (af (bf (aG dA (ak (ag hu) (ai 0) ae (fun _ _=>rfl)) ae (az _)) (af (au (i:=2) sc_q32.nd rfl (Or.inl rfl) (aH bE (ak (ag hu) (ai 0) ae (fun _ _=>rfl)) (ai 1)))
   (af (bU (aH iQ (ak (ag hu) (ai 0) ae (fun _ _=>rfl)) (ai 1)) (cD hu (ai 0) ae))
   (am (aD (ai 2))))) aP)
  (af (au (i:=3) sc_q32.nd rfl (Or.inl rfl) (ak (ag hu) (ai 0) ae (fun _ _=>rfl)))
  (af (bU (aH aQ (ai 3) ae) (cD hu (ai 0) ae))
  (af (au (i:=4) sc_q32.nd rfl (Or.inl rfl) ae)
  (af (bf (aG dA (aR aS rfl En.z_len bn (a8 (ak (ag hu) (ai 0) ae (fun _ _=>rfl)) ac)) ae (az _)) (am (au (i:=4) sc_q32.nd rfl (Or.inl rfl) (ak (ag hu) (ak (ag hu) (ai 0) ae (fun _ _=>rfl)) (aH bE (ai 3) (aR aS rfl En.z_len bn (a8 (ak (ag hu) (ai 0) ae (fun _ _=>rfl)) ac))) (fun _ _=>rfl)))) aP)
  (af (bf (eG (d9 (aG jo (ai 3) (aR aS rfl En.z_len bn (a8 (ak (ag hu) (ai 0) ae (fun _ _=>rfl)) ac)) (az _)) (du (aG vV (ai 4) (aH wW ae ae) (az _))))) (af (bU (aH iQ (ai 4) (ai 1)) (cD hu (ai 0) ae))
   (am (aD (aH bE (ai 4) (ai 1))))) aP)
  (af (au (i:=5) sc_q32.nd rfl (Or.inl rfl) (aH bE (aH cB (aH aQ (aH bE (ai 4) ae) ae) (aH aQ (aH aQ (aH cB (aH cB ae (ai 3)) (ai 3)) (aH cB ae (ai 3))) ae)) ae))
  (af (au (i:=5) sc_q32.nd rfl (Or.inl rfl) (aH bE (aH aQ (aH aQ (aH cB (ai 5) (ai 5)) (aH cB ae (ai 3))) (aH bE (ai 4) ae)) ae))
  (am (aD (aH bE (aH iQ (ai 5) ae) (ai 1))))))))))))
theorem Bj(En:En K mg ad)(G_q32:pU P w K mg base ad):O21 P w K mg base ad:=by
 refine dg (k:=1) (T:=mO ad) En.F_q19 sc_q19 fun cdv A outer s H E B EE hr ux=>?_;have hU:=hr.units;have hu:=bc hr;unfold mO;refine af ?_ ?_
 ·refine au (i:=1) (hs:=?_) (hf:=?_) ?_ ?_ ?_ ?_
  ·exact sc_q19.nd
  ·rfl
  ·exact Or.inl rfl
  ·refine ak ?_ ?_ ?_ ?_
   ·exact ag hu
   ·refine aj ?_
    refine bo ?_;refine fo ?_ ?_ ?_
    ·exact (aj (bo (a8 aq (a8 aq (a8 aq (a8 aq (a8 aq ac)))))))
    ·refine fo ?_ ?_ ?_
     ·exact (aj (bo (a8 aq (a8 aq (a8 aq (a8 aq (a8 aq ac)))))))
     ·refine fo ?_ ?_ ?_
      ·exact (aj (bo (a8 aq (a8 aq (a8 aq (a8 aq (a8 aq ac)))))))
      ·refine fo ?_ ?_ ?_
       ·exact (aj (bo (a8 aq (a8 aq (a8 aq (a8 aq (a8 aq ac)))))))
       ·exact ac
       ·rfl
      ·rfl
     ·rfl
    ·rfl
   ·exact (aj (ap G_q32 (hr.mono (by decide)) rfl En.m_q32 En.k_q32 En.b_q32 aA ux (a8 (ai 0) (a8 ae ac))))
   ·exact fun _ _=>rfl
  ·rfl
  ·exact .inl rfl
 refine af ?_ ?_
 ·exact (au (i:=2) sc_q19.nd rfl (Or.inl rfl) (aj (ap G_q32 (hr.mono (by decide)) rfl En.m_q32 En.k_q32 En.b_q32 aA ux (a8 (ai 0) (a8 ae ac)))))
 refine af ?_ ?_
 ·exact (au (i:=1) sc_q19.nd rfl (Or.inl rfl) (aj (aH aQ (aj (bu (ai 1) (bR (ai 2)) bP)) (aj (bu (ai 1) bP (bR (ai 2)))))))
 refine am ?_;exact (aD (bu (ai 1) bP (bR (aH aQ ae (aj (ap G_q32 (hr.mono (by decide)) rfl En.m_q32 En.k_q32 En.b_q32 aA ux (a8 (ai 0) (a8 ae ac))))))))
theorem BC(En:En K mg ad)(G_q32:pU P w K mg base ad):O22 P w K mg base ad:=by
 refine dg (k:=1) (T:=n4 ad) En.F_q12 sc_q12 fun cdv A outer s H E B EE hr ux=>?_;have hU:=hr.units;have hu:=bc hr;unfold n4
 exact (af (au (i:=2) sc_q12.nd rfl (Or.inr rfl) (ak (ag hu) (ai 1) aq (fun _ _=>rfl)))
  (af (bU (aj (cc (ls:=["_law_k"]) (fs:=["_law_tape_here","_law_some"]) (js:=[0,2]) rfl (b_ (cs:=[s.heap.objs.size+1,s.heap.objs.size+2]) rfl (by decide +kernel) (by decide +kernel) rfl rfl (dF rfl (dF rfl fS)) (.cons rfl (.inl rfl) (.inl rfl) (.cons rfl (.inl rfl) (.inl rfl) .nil))) (bC rfl En.z_range (a8 ae ac)) (fun C' s₀ H₀ fp pl'=>⟨(aI (i:=0) (show List.Nodup [("_law_k":Str),("_law_tape_here":Str),("_law_some":Str)] from (by decide +kernel)) rfl (Or.inl rfl)),cA,(ak (ag hu) (ai 2) (aj (ap G_q32 (hr.mono (by decide)) rfl En.m_q32 En.k_q32 En.b_q32 dZ zn (a8 (ai 1) (a8 (aR aS rfl En.z_len bn (a8 (ai 2) ac)) ac)))) (fun _ _=>rfl))⟩))) (oU (n:=3) rfl (b0 (aI (i:=3) sc_q12.nd rfl (Or.inl rfl)) (b0 (aI (i:=4) sc_q12.nd rfl (Or.inl rfl)) (b0 (aI (i:=5) sc_q12.nd rfl (Or.inl rfl)) cT)))))
  (af (au (i:=6) sc_q12.nd rfl (Or.inl rfl) (aj (ap G_q32 (hr.mono (by decide)) rfl En.m_q32 En.k_q32 En.b_q32 aA ux (a8 (ai 0) (a8 ae ac)))))
  (af (bf (aG dA (ai 6) ae (az _)) (am (aD (aW (a8 (ak (ag hu) (aj (bo (a8 aq (a8 aq (a8 aq (a8 aq (a8 aq ac))))))) (aH bE (ai 6) ae) (fun _ _=>rfl)) (a8 (ai 3) (a8 (ai 4) (a8 (ai 5) ac))))))) aP)
  (af (bf (eG (d9 (aG dA (ai 6) ae (az _)) (du (aG dA (ak (ag hu) (ai 1) aq (fun _ _=>rfl)) ae (az _))))) (af (bf (aG (aX hU) (ai 6) ae (az _)) (am (aD (aW (a8 aq (a8 (ai 3) (a8 (ai 4) ac)))))) aP)
   (am (aD (aW (a8 aq (a8 (ai 3) (a8 (ap G_q32 (hr.mono (by decide)) rfl En.m_q32 En.k_q32 En.b_q32 aA ux (a8 (ai 0) (a8 (ak (ag hu) (ai 1) aq (fun _ _=>rfl)) ac))) ac))))))) aP)
  (am (aD (aW (a8 aq (a8 (ai 3) (a8 (ap G_q32 (hr.mono (by decide)) rfl En.m_q32 En.k_q32 En.b_q32 aA ux (a8 (ai 0) (a8 (ak (ag hu) (ai 1) aq (fun _ _=>rfl)) ac))) ac)))))))))))
theorem jH(En:En K mg ad)(G_q32:pU P w K mg base ad)(G_q12:O22 P w K mg base ad)(n:Nat)(G_q28:FnOk P w K mg base (bI P w) (2+n) ad.a_q28 ad.d_q28 ["_law_tape_here","_law_frame","_law_deep"] (av K 3 (S_q28 ad n)))(G_q4:FnOk P w K mg base (bI P w) (2+n) ad.a_q4 ad.d_q4 ["_law_tape_here","_law_frame","_law_many","_law_deep"] (av K 4 (S_q4 ad n))):FnOk P w K mg base (bI P w) (2+n+1) ad.a_q28 ad.d_q28 ["_law_tape_here","_law_frame","_law_deep"] (av K 3 (S_q28 ad (n+1))):=by
 refine dg (k:=2+n) (T:=nj ad (S_q28 ad n) (S_q4 ad n)) En.F_q28 sc_q28 fun cdv A outer s H E B EE hr ux=>?_;have hU:=hr.units;have hu:=bc hr;unfold nj
 exact (af (au (i:=3) sc_q28.nd rfl (Or.inr rfl) (ak (ag hu) (ai 1) aq (fun _ _=>rfl)))
  (af (bU (aj (cc (ls:=["_law_k"]) (fs:=["_law_tape_here","_law_some"]) (js:=[0,3]) rfl (b_ (cs:=[s.heap.objs.size+1,s.heap.objs.size+2]) rfl (by decide +kernel) (by decide +kernel) rfl rfl (dF rfl (dF rfl fS)) (.cons rfl (.inl rfl) (.inl rfl) (.cons rfl (.inl rfl) (.inl rfl) .nil))) (bC rfl En.z_range (a8 ae ac)) (fun C' s₀ H₀ fp pl'=>⟨(aI (i:=0) (show List.Nodup [("_law_k":Str),("_law_tape_here":Str),("_law_some":Str)] from (by decide +kernel)) rfl (Or.inl rfl)),cA,(ak (ag hu) (ai 2) (aj (ap G_q32 (hr.mono (by lia)) rfl En.m_q32 En.k_q32 En.b_q32 dZ zn (a8 (ai 1) (a8 (aR aS rfl En.z_len bn (a8 (ai 2) ac)) ac)))) (fun _ _=>rfl))⟩))) (oU (n:=2) rfl (b0 (aI (i:=4) sc_q28.nd rfl (Or.inl rfl)) (b0 (aI (i:=5) sc_q28.nd rfl (Or.inl rfl)) cT))))
  (af (au (i:=6) sc_q28.nd rfl (Or.inl rfl) (aj (ap G_q32 (hr.mono (by lia)) rfl En.m_q32 En.k_q32 En.b_q32 aA ux (a8 (ai 0) (a8 ae ac)))))
  (af (au (i:=7) sc_q28.nd rfl (Or.inl rfl) (aj (ap G_q4 (hr.mono (by lia)) rfl En.m_q4 En.k_q4 En.b_q4 aA ux (a8 (ai 0) (a8 (ai 1) (a8 (aj (ap G_q32 (hr.mono (by lia)) rfl En.m_q32 En.k_q32 En.b_q32 aA ux (a8 (ai 0) (a8 ae ac)))) (a8 (aH cR (ai 2) ae) ac)))))))
  (af (bf (aG (aX hU) (ai 6) ae (az _)) (am (aD (bo (a8 (aW (a8 aq (a8 (ai 4) (a8 (aE aO rfl En.z_tuple aV (a8 (ai 7) ac)) ac)))) ac)))) aP)
  (af (bf (eG (mj (aG (aX hU) (ai 6) ae (az _)) (lc (aG (aX hU) (ai 4) (ai 5) (az _))))) (am (aD (bo (a8 (aW (a8 aq (a8 (ai 4) (a8 (aE aO rfl En.z_tuple aV (a8 (aj (aH aQ (ai 7) (aj (bo (a8 (aW (a8 aq (a8 (ai 4) (a8 ae ac)))) ac))))) ac)) ac)))) ac)))) aP)
  (af (au (i:=8) sc_q28.nd rfl (Or.inl rfl) (aj (aH xY (bo (a8 (aW (a8 aq (a8 (ai 4) (a8 (ap G_q32 (hr.mono (by lia)) rfl En.m_q32 En.k_q32 En.b_q32 aA ux (a8 (ai 0) (a8 (aR (jX rfl) rfl En.z_min rD (a8 ae (a8 (ak (ag hu) (ai 1) aq (fun _ _=>rfl)) ac))) ac))) ac)))) ac)) (aE cY rfl En.z_int ff (a8 (dE (aX hU) (ai 6) ae (az _)) ac)))))
  (am (aD (aH aQ (ai 8) (aj (bo (a8 (aW (a8 aq (a8 (ai 5) (a8 (aH cR (ak (ag hu) (ai 1) aq (fun _ _=>rfl)) ae) ac)))) (a8 (aW (a8 aq (a8 (ai 4) (a8 (aE aO rfl En.z_tuple aV (a8 (aj (aH aQ (ai 7) (aj (bo (a8 (aW (a8 aq (a8 (ai 4) (a8 (ai 4) (a8 (ai 5) ac))))) ac))))) ac)) ac)))) ac))))))))))))))
theorem fH(En:En K mg ad)(G_q32:pU P w K mg base ad)(G_q12:O22 P w K mg base ad)(n:Nat)(G_q28:FnOk P w K mg base (bI P w) (2+n) ad.a_q28 ad.d_q28 ["_law_tape_here","_law_frame","_law_deep"] (av K 3 (S_q28 ad n)))(G_q4:FnOk P w K mg base (bI P w) (2+n) ad.a_q4 ad.d_q4 ["_law_tape_here","_law_frame","_law_many","_law_deep"] (av K 4 (S_q4 ad n))):FnOk P w K mg base (bI P w) (2+n+1) ad.a_q4 ad.d_q4 ["_law_tape_here","_law_frame","_law_many","_law_deep"] (av K 4 (S_q4 ad (n+1))):=by
 refine dg (k:=2+n) (T:=vc ad (S_q28 ad n) (S_q4 ad n)) En.F_q4 sc_q4 fun cdv A outer s H E B EE hr ux=>?_;have hU:=hr.units;have hu:=bc hr;unfold vc
 exact (af (au (i:=4) sc_q4.nd rfl (Or.inl rfl) (bo ac))
  (af (cN PassesOwn.leaving rfl (bC rfl En.z_range (a8 (ai 2) ac)) (aI (i:=5) sc_q4.nd rfl (Or.inl rfl)) (af (bU (aH cR (ak (ag hu) (ai 1) aq (fun _ _=>rfl)) ae) (cD hu (ai 1) aq))
   (af (au (i:=6) sc_q4.nd rfl (Or.inl rfl) (aj (ap G_q32 (hr.mono (by lia)) rfl En.m_q32 En.k_q32 En.b_q32 aA ux (a8 (ai 0) (a8 ae ac)))))
   (am (bf (eG (d9 (aG dA (ai 3) ae (az _)) (d9 (aG dA (ak (ag hu) (ai 1) aq (fun _ _=>rfl)) ae (az _)) (du (aG (aX hU) (ai 6) ae (az _)))))) (am (bQ (gD (Or.inl rfl) PySem.F.plainAttrs_list PySem.F.slot_list_extend PySem.F.type_list_extend pI (ai 4) (a8 (aj (ap G_q28 (hr.mono (by lia)) rfl En.m_q28 En.k_q28 En.b_q28 aA ux (a8 (ai 0) (a8 (ai 1) (a8 (ai 3) ac))))) ac)))) (am (bf (eG (d9 (aG dA (ai 3) ae (az _)) (d9 (aG dA (ak (ag hu) (ai 1) aq (fun _ _=>rfl)) ae (az _)) (du (aG jo (ai 6) ae (az _)))))) (af (au (i:=7) sc_q4.nd rfl (Or.inl rfl) (ak (ag hu) (ai 1) aq (fun _ _=>rfl)))
     (af (au (i:=8) sc_q4.nd rfl (Or.inl rfl) (ak (ag hu) (ai 7) (aj (ap G_q32 (hr.mono (by lia)) rfl En.m_q32 En.k_q32 En.b_q32 aA ux (a8 (ai 0) (a8 (aR aS rfl En.z_len bn (a8 (ai 7) ac)) ac)))) (fun _ _=>rfl)))
     (af (au (i:=9) sc_q4.nd rfl (Or.inl rfl) (aj (ap G_q4 (hr.mono (by lia)) rfl En.m_q4 En.k_q4 En.b_q4 aA ux (a8 (ai 0) (a8 (ai 1) (a8 (aj (ap G_q32 (hr.mono (by lia)) rfl En.m_q32 En.k_q32 En.b_q32 aA ux (a8 (ai 0) (a8 ae ac)))) (a8 (aH cR (ai 3) ae) ac)))))))
     (af (au (i:=10) sc_q4.nd rfl (Or.inl rfl) (aj (ap G_q4 (hr.mono (by lia)) rfl En.m_q4 En.k_q4 En.b_q4 aA ux (a8 (ai 0) (a8 (ai 1) (a8 (aj (ap G_q32 (hr.mono (by lia)) rfl En.m_q32 En.k_q32 En.b_q32 aA ux (a8 (ai 0) (a8 ae ac)))) (a8 (aH cR (ai 3) ae) ac)))))))
     (am (bQ (gD (Or.inl rfl) PySem.F.plainAttrs_list PySem.F.slot_list_append PySem.F.type_list_append cn (ai 4) (a8 (aW (a8 aq (a8 (ai 8) (a8 (aE aO rfl En.z_tuple aV (a8 (ai 9) ac)) (a8 (aE aO rfl En.z_tuple aV (a8 (ai 10) ac)) ac))))) ac)))))))) (am (bQ (gD (Or.inl rfl) PySem.F.plainAttrs_list PySem.F.slot_list_append PySem.F.type_list_append cn (ai 4) (a8 (aj (ap G_q12 (hr.mono (by lia)) rfl En.m_q12 En.k_q12 En.b_q12 aA ux (a8 (ai 0) (a8 (ai 1) ac)))) ac)))))))))))
  (am (aD (ai 4)))))
theorem fE(En:En K mg ad)(G_q32:pU P w K mg base ad)(G_q12:O22 P w K mg base ad):∀n:Nat,FnOk P w K mg base (bI P w) (2+n) ad.a_q28 ad.d_q28 ["_law_tape_here","_law_frame","_law_deep"] (av K 3 (S_q28 ad n))/\FnOk P w K mg base (bI P w) (2+n) ad.a_q4 ad.d_q4 ["_law_tape_here","_law_frame","_law_many","_law_deep"] (av K 4 (S_q4 ad n))
 |0=>⟨fM,fM⟩
 |n+1=>by
  obtain ⟨G_q28,G_q4⟩:=fE En G_q32 G_q12 n;exact ⟨jH En G_q32 G_q12 n G_q28 G_q4,fH En G_q32 G_q12 n G_q28 G_q4⟩
theorem AD(En:En K mg ad)(G_q32:pU P w K mg base ad)(G_q19:O21 P w K mg base ad)(G_q4:FnOk P w K mg base (bI P w) 26 ad.a_q4 ad.d_q4 ["_law_tape_here","_law_frame","_law_many","_law_deep"] (av K 4 (S_q4 ad 24))):O23 P w K mg base ad:=by
 refine dg (k:=26) (T:=mG ad) En.F_q31 sc_q31 fun cdv A outer s H E B EE hr ux=>?_;have hU:=hr.units;have hu:=bc hr;unfold mG;refine af ?_ ?_
 ·refine au (i:=2) (hs:=?_) (hf:=?_) ?_ ?_ ?_ ?_
  ·exact sc_q31.nd
  ·rfl
  ·exact Or.inl rfl
  ·refine ak ?_ ?_ ?_ ?_
   ·exact ag hu
   ·refine aj ?_
    refine bo ?_;refine fo ?_ ?_ ?_
    ·exact ae
    ·refine fo ?_ ?_ ?_
     ·exact ae
     ·refine fo ?_ ?_ ?_
      ·exact ae
      ·refine fo ?_ ?_ ?_
       ·exact ae
       ·refine fo ?_ ?_ ?_
        ·exact ae
        ·refine fo ?_ ?_ ?_
         ·exact ae
         ·refine fo ?_ ?_ ?_
          ·exact ae
          ·refine fo ?_ ?_ ?_
           ·exact ae
           ·exact ac
           ·rfl
          ·rfl
         ·rfl
        ·rfl
       ·rfl
      ·rfl
     ·rfl
    ·rfl
   ·exact (aj (ap G_q32 (hr.mono (by decide)) rfl En.m_q32 En.k_q32 En.b_q32 aA ux (a8 (ai 0) (a8 ae ac))))
   ·exact fun _ _=>rfl
  ·rfl
  ·exact .inl rfl
 refine af ?_ ?_
 ·exact (au (i:=3) sc_q31.nd rfl (Or.inl rfl) (lT (tab:=[("wheel",(aa 2)),("names",(ar (dCall (nC ad) EE 1 (a9 (aa 0) dNil)))),("left",(dOp fL (dC (.int 4)) (aa 1)))]) (bW (ai 2) (bW (aj (ap G_q19 (hr.mono (by decide)) rfl En.m_q19 En.k_q19 En.b_q19 aA ux (a8 (ai 0) ac))) (bW (aH cB ae (ai 1)) lI))) rfl rfl (by simp) (by simp)))
 refine af ?_ ?_
 ·exact (bU (ak (ag hu) (aj (bo (a8 ae (a8 ae (a8 ae (a8 ae (a8 ae (a8 ae ac)))))))) (aj (ap G_q32 (hr.mono (by decide)) rfl En.m_q32 En.k_q32 En.b_q32 aA ux (a8 (ai 0) (a8 ae ac)))) (fun _ _=>rfl)) (cD hu (ai 3) aq))
 refine af ?_ ?_
 ·exact (au (i:=4) sc_q31.nd rfl (Or.inl rfl) (aj (ap G_q4 (hr.mono (by decide)) rfl En.m_q4 En.k_q4 En.b_q4 aA ux (a8 (ai 0) (a8 (ai 3) (a8 (aj (ap G_q32 (hr.mono (by decide)) rfl En.m_q32 En.k_q32 En.b_q32 aA ux (a8 (ai 0) (a8 (aH aQ (ai 1) ae) ac)))) (a8 ae ac)))))))
 refine af ?_ ?_
 ·exact (au (i:=5) sc_q31.nd rfl (Or.inl rfl) (ak (ag hu) (ak (ag hu) (ai 3) aq (fun _ _=>rfl)) (aj (ap G_q32 (hr.mono (by decide)) rfl En.m_q32 En.k_q32 En.b_q32 aA ux (a8 (ai 0) (a8 (aR aS rfl En.z_len bn (a8 (ak (ag hu) (ai 3) aq (fun _ _=>rfl)) ac)) ac)))) (fun _ _=>rfl)))
 refine am ?_;exact (aD (aW (a8 (ai 2) (a8 (aE aO rfl En.z_tuple aV (a8 (ak (ag hu) (ai 3) aq (fun _ _=>rfl)) ac)) (a8 (ak (ag hu) (ai 3) aq (fun _ _=>rfl)) (a8 (aE aO rfl En.z_tuple aV (a8 (ai 4) ac)) (a8 (ai 5) ac)))))))
theorem AX(En:En K mg ad)(G_q32:pU P w K mg base ad):O24 P w K mg base ad:=by
 refine dg (k:=1) (T:=mQ ad) En.F_q23 sc_q23 fun cdv A outer s H E B EE hr ux=>?_;have hU:=hr.units;have hu:=bc hr;unfold mQ
 exact (af (au (i:=2) sc_q23.nd rfl (Or.inl rfl) (bo ac))
  (af (cN PassesOwn.leaving rfl (bC rfl En.z_range (a8 (aj (aH aQ (aR aS rfl En.z_len bn (a8 (ak (ag hu) (ai 1) ae (fun _ _=>rfl)) ac)) (ak (ag hu) (ai 1) ae (fun _ _=>rfl)))) ac)) (aI (i:=3) sc_q23.nd rfl (Or.inl rfl)) (af (au (i:=4) sc_q23.nd rfl (Or.inl rfl) (aj (ap G_q32 (hr.mono (by decide)) rfl En.m_q32 En.k_q32 En.b_q32 aA ux (a8 (ai 0) (a8 (ak (ag hu) (ai 1) ae (fun _ _=>rfl)) ac)))))
   (am (bQ (gD (Or.inl rfl) PySem.F.plainAttrs_list PySem.F.slot_list_append PySem.F.type_list_append cn (ai 2) (a8 (ak (ag hu) (aj (bo (a8 (ai 4) (a8 ae (a8 (aH bE (aH bE (ai 4) ae) (ak (ag hu) (ai 1) ae (fun _ _=>rfl))) ac))))) (aj (ap G_q32 (hr.mono (by decide)) rfl En.m_q32 En.k_q32 En.b_q32 aA ux (a8 (ai 0) (a8 ae ac)))) (fun _ _=>rfl)) ac))))))
  (af (au (i:=5) sc_q23.nd rfl (Or.inl rfl) (aR aS rfl En.z_len bn (a8 (ak (ag hu) (ai 1) ae (fun _ _=>rfl)) ac)))
  (am (aD (aW (a8 (aE aO rfl En.z_tuple aV (a8 (aj (bu (ai 2) bP (bR (ai 5)))) ac)) (a8 (aE aO rfl En.z_tuple aV (a8 (aj (bu (ai 2) (bR (ai 5)) bP)) ac)) ac))))))))
theorem As(En:En K mg ad)  : O25 P w K mg base ad:=by
 refine dg (k:=0) (T:=gE ad) En.F_q35 sc_q35 fun cdv A outer s H E B EE hr ux=>?_;have hU:=hr.units;have hu:=bc hr;unfold gE
 exact (af (au (i:=2) sc_q35.nd rfl (Or.inl rfl) (ak (ag hu) (ai 0) aq (fun _ _=>rfl)))
  (am (bf (aG (aX hU) (ak (ag hu) (ai 1) ae (fun _ _=>rfl)) aq (az _)) (am (bU (ak (ag hu) (ai 1) ae (fun _ _=>rfl)) (cD hu (ai 2) (ak (ag hu) (ai 1) ae (fun _ _=>rfl))))) (am (bf (eG (mj (aG (aX hU) (ak (ag hu) (ai 1) ae (fun _ _=>rfl)) aq (az _)) (lc (aG (aX hU) (ak (ag hu) (ai 1) ae (fun _ _=>rfl)) aq (az _))))) (af (au (i:=3) sc_q35.nd rfl (Or.inl rfl) (ak (ag hu) (ai 1) ae (fun _ _=>rfl)))
    (af (bf (aG (aX hU) (ak (ag hu) (ai 1) ae (fun _ _=>rfl)) aq (az _)) (am (au (i:=3) sc_q35.nd rfl (Or.inl rfl) (aH bE (ak (ag hu) (ai 2) (ak (ag hu) (ai 1) ae (fun _ _=>rfl)) (fun _ _=>rfl)) (aR aS rfl En.z_len bn (a8 (ak (ag hu) (ai 0) aq (fun _ _=>rfl)) ac))))) aP)
    (af (bf (aG (km hU) (ai 3) (ak (ag hu) (ai 0) aq (fun _ _=>rfl)) (by rfl)) (am (bQ (gD (Or.inl rfl) PySem.F.plainAttrs_list PySem.F.slot_list_append PySem.F.type_list_append cn (ak (ag hu) (ai 0) aq (fun _ _=>rfl)) (a8 (ai 3) ac)))) aP)
    (am (bU (ak (ag hu) (ak (ag hu) (ai 0) aq (fun _ _=>rfl)) (ai 3) (fun _ _=>rfl)) (cD hu (ai 2) (ak (ag hu) (ai 1) ae (fun _ _=>rfl)))))))) (af (au (i:=4) sc_q35.nd rfl (Or.inl rfl) (ak (ag hu) (ai 2) (ak (ag hu) (ai 1) ae (fun _ _=>rfl)) (fun _ _=>rfl)))
    (af (au (i:=5) sc_q35.nd rfl (Or.inl rfl) (ak (ag hu) (ai 2) (ak (ag hu) (ai 1) ae (fun _ _=>rfl)) (fun _ _=>rfl)))
    (af (au (i:=6) sc_q35.nd rfl (Or.inl rfl) (lT (tab:=[("sum",(dOp dD (ar (dOp bN (aa 4) (aa 5))) (dOp aL (aa 0) (dC (.str "wheel"))))),("less",(bO jC (a9 (dOp Bg (aa 4) (aa 5)) dNil))),("by",(dOp dD (dOp fL (aa 4) (aa 5)) (dOp aL (aa 0) (dC (.str "wheel"))))),("same",(bO jC (a9 (dOp dz (aa 4) (aa 5)) dNil)))]) (bW (aH bE (aj (aH aQ (ai 4) (ai 5))) (ak (ag hu) (ai 0) aq (fun _ _=>rfl))) (bW (aE cY rfl En.z_int ff (a8 (dE jo (ai 4) (ai 5) (az _)) ac)) (bW (aH bE (aH cB (ai 4) (ai 5)) (ak (ag hu) (ai 0) aq (fun _ _=>rfl))) (bW (aE cY rfl En.z_int ff (a8 (dE (aX hU) (ai 4) (ai 5) (az _)) ac)) lI)))) rfl rfl (by simp) (by simp)))
    (am (bU (ak (ag hu) (ai 6) (ak (ag hu) (ai 1) ae (fun _ _=>rfl)) (fun _ _=>rfl)) (cD hu (ai 2) (ak (ag hu) (ai 1) ae (fun _ _=>rfl)))))))))))))
theorem nb(En:En K mg ad)(G_q35:O25 P w K mg base ad)(n:Nat)(G_q38:FnOk P w K mg base (bI P w) (1+n) ad.a_q38 ad.d_q38 ["_law_here","_law_rows"] (av K 2 (S_q38 ad n))):FnOk P w K mg base (bI P w) (1+n+1) ad.a_q38 ad.d_q38 ["_law_here","_law_rows"] (av K 2 (S_q38 ad (n+1))):=by
 refine dg (k:=1+n) (T:=T_q38 ad (S_q38 ad n)) En.F_q38 sc_q38 fun cdv A outer s H E B EE hr ux=>?_;have hU:=hr.units;have hu:=bc hr;unfold T_q38
 exact (af (cN PassesOwn.leaving rfl (dB (ai 1)) (aI (i:=2) sc_q38.nd rfl (Or.inl rfl)) (af (au (i:=3) sc_q38.nd rfl (Or.inl rfl) jk)
   (af (n_ PassesOwn.leaving (dS (ai 3)) (af (bU (aH cR (ak (ag hu) (ai 0) aq (fun _ _=>rfl)) ae) (cD hu (ai 0) aq))
    (af (bf (aG jo (ak (ag hu) (ai 0) aq (fun _ _=>rfl)) ae (az _)) (am (aD jk)) aP)
    (af (au (i:=4) sc_q38.nd rfl (Or.inl rfl) (dE (dU hU) (ak (ag hu) (ak (ag hu) (ai 0) aq (fun _ _=>rfl)) (ak (ag hu) (ai 2) ae (fun _ _=>rfl)) (fun _ _=>rfl)) ae (az _)))
    (af (au (i:=3) sc_q38.nd rfl (Or.inl rfl) (p9 (dE (aX hU) (ak (ag hu) (ai 2) ae (fun _ _=>rfl)) aq (az _)) (o_ (ai 4))))
    (af (bf (eG (d9 (aG (aX hU) (ak (ag hu) (ai 2) ae (fun _ _=>rfl)) aq (az _)) (du (lA (dS (aj (ap G_q38 (hr.mono (by lia)) rfl En.m_q38 En.k_q38 En.b_q38 aA ux (a8 (ai 0) (a8 (ak (ag hu) (ai 2) (aH cR ae (aE cY rfl En.z_int ff (a8 (ai 4) ac))) (fun _ _=>rfl)) ac))))))))) (am (aD jk)) aP)
    (am (bf (eG (d9 (dS (ai 3)) (du (lA (dS (aj (ap G_q38 (hr.mono (by lia)) rfl En.m_q38 En.k_q38 En.b_q38 aA ux (a8 (ai 0) (a8 (ak (ag hu) (ai 2) ae (fun _ _=>rfl)) ac))))))))) (am (aD jk)) aP))))))))
   (am (bf (eG (d9 (aG (dU hU) (ak (ag hu) (ai 2) ae (fun _ _=>rfl)) aq (az _)) (du (aG (dU hU) (ak (ag hu) (ai 2) ae (fun _ _=>rfl)) aq (az _))))) (am (bQ (ap G_q35 (hr.mono (by lia)) rfl En.m_q35 En.k_q35 En.b_q35 aA ux (a8 (ai 0) (a8 (ai 2) ac))))) aP)))))
  (am (aD jk)))
theorem gP(En:En K mg ad)(G_q35:O25 P w K mg base ad):∀n:Nat,FnOk P w K mg base (bI P w) (1+n) ad.a_q38 ad.d_q38 ["_law_here","_law_rows"] (av K 2 (S_q38 ad n))
 |0=>fM
 |n+1=>nb En G_q35 n (gP En G_q35 n)
theorem Ay(En:En K mg ad)  : O26 P w K mg base ad:=by
 refine dg (k:=0) (T:=n8 ad) En.F_q18 Ah fun cdv A outer s H E B EE hr ux=>?_;have hU:=hr.units;have hu:=bc hr;unfold n8;exact (am (aD (lT (tab:=[("numbers",(gf (a9 (dOp aL (aa 0) (dC (.int 1))) (a9 (dOp aL (aa 1) (dC (.int 0))) dNil)))),("pieces",(dOp aL (aa 1) (dC (.int 1)))),("read",(bX dNil)),("wheel",(dOp aL (aa 0) (dC (.int 0)))),("left",(aa 2))]) (bW (jm rfl rfl En.z_zip rfl En.z_dict (a8 (ak (ag hu) (ai 0) ae (fun _ _=>rfl)) (a8 (ak (ag hu) (ai 1) ae (fun _ _=>rfl)) ac))) (bW (ak (ag hu) (ai 1) ae (fun _ _=>rfl)) (bW (bo ac) (bW (ak (ag hu) (ai 0) ae (fun _ _=>rfl)) (bW (ai 2) lI))))) rfl rfl (by simp) (by simp))))
theorem BI(En:En K mg ad)(G_q18:O26 P w K mg base ad)(G_q38:O27 P w K mg base ad):O28 P w K mg base ad:=by
 refine dg (k:=25) (T:=mZ ad) En.F_q13 sc_q13 fun cdv A outer s H E B EE hr ux=>?_;have hU:=hr.units;have hu:=bc hr;unfold mZ
 exact (af (au (i:=3) sc_q13.nd rfl (Or.inl rfl) (ap G_q18 (hr.mono (by decide)) rfl En.m_q18 En.k_q18 En.b_q18 aA ux (a8 (ai 0) (a8 (ai 1) (a8 (ai 2) ac)))))
  (af (bf (lA (dS (aj (ap G_q38 (hr.mono (by decide)) rfl En.m_q38 En.k_q38 En.b_q38 aA ux (a8 (ai 3) (a8 (ak (ag hu) (ai 0) ae (fun _ _=>rfl)) ac)))))) (am (aD eM)) aP)
  (am (aD (ak (ag hu) (ak (ag hu) (ai 3) aq (fun _ _=>rfl)) (ak (ag hu) (ai 0) ae (fun _ _=>rfl)) (fun _ _=>rfl))))))
theorem D4(En:En K mg ad)(G_q32:pU P w K mg base ad)(G_q23:O24 P w K mg base ad):O29 P w K mg base ad:=by
 refine dg (k:=2) (T:=uA ad) En.F_q2 sc_q2 fun cdv A outer s H E B EE hr ux=>?_;have hU:=hr.units;have hu:=bc hr;unfold uA
 exact (af (au (i:=2) sc_q2.nd rfl (Or.inl rfl) (aj (ap G_q23 (hr.mono (by decide)) rfl En.m_q23 En.k_q23 En.b_q23 aA ux (a8 (ai 0) (a8 (ai 1) ac)))))
  (af (au (i:=3) sc_q2.nd rfl (Or.inl rfl) (aj (ap G_q23 (hr.mono (by decide)) rfl En.m_q23 En.k_q23 En.b_q23 aA ux (a8 (ai 0) (a8 (ai 1) ac)))))
  (af (au (i:=4) sc_q2.nd rfl (Or.inl rfl) (bo ac))
  (af (cN PassesOwn.leaving rfl (uN rfl En.z_zip (a8 (ai 2) (a8 (ai 3) ac))) (gw (n:=2) rfl (b0 (aI (i:=5) sc_q2.nd rfl (Or.inl rfl)) (b0 (aI (i:=6) sc_q2.nd rfl (Or.inl rfl)) cT))) (am (bQ (gD (Or.inl rfl) PySem.F.plainAttrs_list PySem.F.slot_list_append PySem.F.type_list_append cn (ai 4) (a8 (aE aO rfl En.z_tuple aV (a8 (aj (cc (ls:=["_law_number","_law_another"]) (fs:=["_law_tape_here"]) (js:=[0]) rfl (b_ (cs:=[s.heap.objs.size+1]) rfl (by decide +kernel) (by decide +kernel) rfl rfl (dF rfl fS) (.cons rfl (.inl rfl) (.inl rfl) .nil)) (uN rfl En.z_zip (a8 (ai 5) (a8 (ai 6) ac))) (fun C' s₀ H₀ fp pl'=>⟨(gw (n:=2) rfl (b0 (aI (i:=0) (show List.Nodup [("_law_number":Str),("_law_another":Str),("_law_tape_here":Str)] from (by decide +kernel)) rfl (Or.inl rfl)) (b0 (aI (i:=1) (show List.Nodup [("_law_number":Str),("_law_another":Str),("_law_tape_here":Str)] from (by decide +kernel)) rfl (Or.inl rfl)) cT))),cA,(ak (ag hu) (aj (bo (a8 (ai 0) (a8 (ai 1) ac)))) (aj (ap G_q32 (hr.mono (by decide)) rfl En.m_q32 En.k_q32 En.b_q32 dZ zn (a8 (ai 2) (a8 ae ac)))) (fun _ _=>rfl))⟩))) ac)) ac)))))
  (am (aD (aW (a8 (ai 2) (a8 (aE aO rfl En.z_tuple aV (a8 (ai 4) ac)) ac)))))))))
theorem BO(En:En K mg ad)(G_q32:pU P w K mg base ad):O30 P w K mg base ad:=by
 refine dg (k:=1) (T:=nL ad) En.F_q24 sc_q24 fun cdv A outer s H E B EE hr ux=>?_;have hU:=hr.units;have hu:=bc hr;unfold nL
 exact (af (au (i:=5) sc_q24.nd rfl (Or.inl rfl) (aj (aE bV rfl En.z_list bt_list' (a8 (aj (aH aQ (ak (ag hu) (ai 2) ae (fun _ _=>rfl)) (ak (ag hu) (ai 2) ae (fun _ _=>rfl)))) ac))))
  (af (au (i:=6) sc_q24.nd rfl (Or.inl rfl) (aE bV rfl En.z_list bt_list' (a8 (aj (aH aQ (ak (ag hu) (ai 3) ae (fun _ _=>rfl)) (ak (ag hu) (ai 3) ae (fun _ _=>rfl)))) ac)))
  (af (au (i:=7) sc_q24.nd rfl (Or.inl rfl) (aj (ap G_q32 (hr.mono (by decide)) rfl En.m_q32 En.k_q32 En.b_q32 aA ux (a8 (ai 0) (a8 (aR aS rfl En.z_len bn (a8 (ai 5) ac)) ac)))))
  (af (cN PassesOwn.leaving rfl (bC rfl En.z_range (a8 (aR aS rfl En.z_len bn (a8 (ai 5) ac)) ac)) (aI (i:=8) sc_q24.nd rfl (Or.inl rfl)) (af (au (i:=9) sc_q24.nd rfl (Or.inl rfl) (aH bE (aj (aH aQ (ai 8) (ai 7))) (aR aS rfl En.z_len bn (a8 (ai 5) ac))))
   (am (bf (aG (dU hU) (ak (ag hu) (ai 5) (ai 9) (fun _ _=>rfl)) (ak (ag hu) (ai 6) (ai 9) (fun _ _=>rfl)) (az _)) (am (bf (aG (aX hU) (ai 4) ae (az _)) (am (bU (ak (ag hu) (ai 5) (ai 9) (fun _ _=>rfl)) (cD hu (ai 6) (ai 9)))) (am (au (i:=4) sc_q24.nd rfl (Or.inl rfl) (aH cR (ai 4) ae))))) aP))))
  (af (au (i:=10) sc_q24.nd rfl (Or.inl rfl) (aR aS rfl En.z_len bn (a8 (ak (ag hu) (ai 1) ae (fun _ _=>rfl)) ac)))
  (am (aD (aW (a8 (aE aO rfl En.z_tuple aV (a8 (aj (bu (ai 6) bP (bR (ai 10)))) ac)) (a8 (aE aO rfl En.z_tuple aV (a8 (aj (bu (ai 6) (bR (ai 10)) bP)) ac)) ac))))))))))
theorem CS(En:En K mg ad)(G_q32:pU P w K mg base ad):O31 P w K mg base ad:=by
 refine dg (k:=1) (T:=vE ad) En.F_q7 sc_q7 fun cdv A outer s H E B EE hr ux=>?_;have hU:=hr.units;have hu:=bc hr;unfold vE
 exact (af (au (i:=2) sc_q7.nd rfl (Or.inr rfl) (ak (ag hu) (ai 1) ae (fun _ _=>rfl)))
  (af (au (i:=3) sc_q7.nd rfl (Or.inl rfl) (ak (ag hu) (aj (bo (a8 aq (a8 aq (a8 aq (a8 aq ac)))))) (aj (ap G_q32 (hr.mono (by decide)) rfl En.m_q32 En.k_q32 En.b_q32 aA ux (a8 (ai 0) (a8 ae ac)))) (fun _ _=>rfl)))
  (af (bU (aj (cc (ls:=["_law_k"]) (fs:=["_law_tape_here","_law_all"]) (js:=[0,2]) rfl (b_ (cs:=[s.heap.objs.size+1,s.heap.objs.size+2]) rfl (by decide +kernel) (by decide +kernel) rfl rfl (dF rfl (dF rfl fS)) (.cons rfl (.inl rfl) (.inl rfl) (.cons rfl (.inl rfl) (.inl rfl) .nil))) (bC rfl En.z_range (a8 ae ac)) (fun C' s₀ H₀ fp pl'=>⟨(aI (i:=0) (show List.Nodup [("_law_k":Str),("_law_tape_here":Str),("_law_all":Str)] from (by decide +kernel)) rfl (Or.inl rfl)),cA,(ak (ag hu) (ai 2) (aj (ap G_q32 (hr.mono (by decide)) rfl En.m_q32 En.k_q32 En.b_q32 dZ zn (a8 (ai 1) (a8 (aR aS rfl En.z_len bn (a8 (ai 2) ac)) ac)))) (fun _ _=>rfl))⟩))) (oU (n:=2) rfl (b0 (aI (i:=4) sc_q7.nd rfl (Or.inl rfl)) (b0 (aI (i:=5) sc_q7.nd rfl (Or.inl rfl)) cT))))
  (am (aD (aW (a8 (ai 3) (a8 (ak (ag hu) (ai 1) ae (fun _ _=>rfl)) (a8 (ai 4) (a8 (ai 5) ac))))))))))
theorem BD(En:En K mg ad)(G_q18:O26 P w K mg base ad)(G_q38:O27 P w K mg base ad)(G_q32:pU P w K mg base ad)(G_q24:O30 P w K mg base ad)(G_q7:O31 P w K mg base ad)(G_q31:O23 P w K mg base ad)(G_q2:O29 P w K mg base ad):O32 P w K mg base ad:=by
 refine dg (k:=27) (T:=lZ ad) En.F_q29 sc_q29 fun cdv A outer s H E B EE hr ux=>?_;have hU:=hr.units;have hu:=bc hr;unfold lZ;refine af ?_ ?_
 ·exact (au (i:=4) sc_q29.nd rfl (Or.inr rfl) (aj (ap G_q31 (hr.mono (by decide)) rfl En.m_q31 En.k_q31 En.b_q31 aA ux (a8 (ai 0) (a8 (ai 1) ac)))))
 refine af ?_ ?_
 ·exact (bf (aG dA (aj (ap G_q32 (hr.mono (by decide)) rfl En.m_q32 En.k_q32 En.b_q32 aA ux (a8 (ai 0) (a8 ae ac)))) ae (az _)) (af (au (i:=5) sc_q29.nd rfl (Or.inl rfl) (aH aQ (ak (ag hu) (ai 4) ae (fun _ _=>rfl)) (aW (a8 (aj (ap G_q7 (hr.mono (by decide)) rfl En.m_q7 En.k_q7 En.b_q7 aA ux (a8 (ai 0) (a8 (ai 4) ac)))) ac))))
   (am (au (i:=4) sc_q29.nd rfl (Or.inr rfl) (aH aQ (aj (bu (ai 4) bP (bR ae))) (aW (a8 (ai 5) (a8 (ak (ag hu) (ai 4) ae (fun _ _=>rfl)) ac))))))) aP)
 refine af ?_ ?_
 ·exact (cN PassesOwn.leaving rfl (bC rfl En.z_range (a8 ae ac)) (aI (i:=6) sc_q29.nd rfl (Or.inl rfl)) (af (bU (aj (ap G_q2 (hr.mono (by decide)) rfl En.m_q2 En.k_q2 En.b_q2 aA ux (a8 (ai 0) (a8 (ai 4) ac)))) (gw (n:=2) rfl (b0 (aI (i:=7) sc_q29.nd rfl (Or.inl rfl)) (b0 (aI (i:=8) sc_q29.nd rfl (Or.inl rfl)) cT))))
   (af (au (i:=8) sc_q29.nd rfl (Or.inl rfl) (aj (ap G_q24 (hr.mono (by decide)) rfl En.m_q24 En.k_q24 En.b_q24 aA ux (a8 (ai 0) (a8 (ai 4) (a8 (ai 7) (a8 (ai 8) (a8 (ai 3) ac))))))))
   (af (au (i:=9) sc_q29.nd rfl (Or.inl rfl) (ap G_q18 (hr.mono (by decide)) rfl En.m_q18 En.k_q18 En.b_q18 aA ux (a8 (ai 4) (a8 (ai 7) (a8 (ai 2) ac)))))
   (af (au (i:=10) sc_q29.nd rfl (Or.inl rfl) (ap G_q18 (hr.mono (by decide)) rfl En.m_q18 En.k_q18 En.b_q18 aA ux (a8 (ai 4) (a8 (ai 8) (a8 (ai 2) ac)))))
   (am (bf (eG (d9 (dS (aj (ap G_q38 (hr.mono (by decide)) rfl En.m_q38 En.k_q38 En.b_q38 aA ux (a8 (ai 9) (a8 (ak (ag hu) (ai 4) ae (fun _ _=>rfl)) ac))))) (d9 (dS (aj (ap G_q38 (hr.mono (by decide)) rfl En.m_q38 En.k_q38 En.b_q38 aA ux (a8 (ai 10) (a8 (ak (ag hu) (ai 4) ae (fun _ _=>rfl)) ac))))) (du (aG (dU hU) (ak (ag hu) (ak (ag hu) (ai 9) aq (fun _ _=>rfl)) (ak (ag hu) (ai 4) ae (fun _ _=>rfl)) (fun _ _=>rfl)) (ak (ag hu) (ak (ag hu) (ai 10) aq (fun _ _=>rfl)) (ak (ag hu) (ai 4) ae (fun _ _=>rfl)) (fun _ _=>rfl)) (az _)))))) (af (au (i:=11) sc_q29.nd rfl (Or.inl rfl) (aH aQ (aH cR (ai 2) (aR (jX rfl) rfl En.z_min rD (a8 (ak (ag hu) (ai 9) aq (fun _ _=>rfl)) (a8 (ak (ag hu) (ai 10) aq (fun _ _=>rfl)) ac)))) (aj (ap G_q32 (hr.mono (by decide)) rfl En.m_q32 En.k_q32 En.b_q32 aA ux (a8 (ai 0) (a8 ae ac))))))
    (am (aD (aW (a8 (ai 4) (a8 (ai 7) (a8 (ai 8) (a8 (ak (ag hu) (aj (bo (a8 (ai 2) (a8 (ai 11) ac)))) (aj (ap G_q32 (hr.mono (by decide)) rfl En.m_q32 En.k_q32 En.b_q32 aA ux (a8 (ai 0) (a8 ae ac)))) (fun _ _=>rfl)) ac)))))))) aP)))))))
 refine af ?_ ?_
 ·exact (au (i:=12) sc_q29.nd rfl (Or.inl rfl) (aH cB (aW (a8 ae ac)) (aR aS rfl En.z_len bn (a8 (ak (ag hu) (ai 4) ae (fun _ _=>rfl)) ac))))
 refine af ?_ ?_
 ·exact (au (i:=13) sc_q29.nd rfl (Or.inl rfl) (aH cB (aW (a8 ae ac)) (ak (ag hu) (ai 4) ae (fun _ _=>rfl))))
 refine af ?_ ?_
 ·exact (au (i:=14) sc_q29.nd rfl (Or.inl rfl) (aE aO rfl En.z_tuple aV (a8 (aj (cc (ls:=["_law_name"]) (fs:=["_law_plan_here"]) (js:=[4]) rfl (b_ (cs:=[s.heap.objs.size+1]) rfl (by decide +kernel) (by decide +kernel) rfl rfl (dF rfl fS) (.cons rfl (.inl rfl) (.inl rfl) .nil)) (dB (ak (ag hu) (ai 4) ae (fun _ _=>rfl))) (fun C' s₀ H₀ fp pl'=>⟨(aI (i:=0) (show List.Nodup [("_law_name":Str),("_law_plan_here":Str)] from (by decide +kernel)) rfl (Or.inl rfl)),cA,(aE cY rfl En.z_int ff (a8 (dE (aX hU) (ai 0) (ak (ag hu) (ai 1) ae (fun _ _=>rfl)) (az _)) ac))⟩))) ac)))
 refine am ?_;refine aD ?_;refine aW ?_;refine fo ?_ ?_ ?_
 ·exact (aH aQ (aj (bu (ai 4) bP (bR ae))) (aW (a8 (aW ac) (a8 (ak (ag hu) (ai 4) ae (fun _ _=>rfl)) ac))))
 ·refine fo ?_ ?_ ?_
  ·exact (aW (a8 (ai 12) (a8 (ai 13) ac)))
  ·refine fo ?_ ?_ ?_
   ·exact (aW (a8 (ai 14) (a8 (ai 13) ac)))
   ·refine fo ?_ ?_ ?_
    ·exact (ai 2)
    ·exact ac
    ·rfl
   ·rfl
  ·rfl
 ·rfl
theorem A2(En:En K mg ad)  : O33 P w K mg base ad:=by
 refine dg (k:=0) (T:=m8 ad) En.F_q14 Bf fun cdv A outer s H E B EE hr ux=>?_;have hU:=hr.units;have hu:=bc hr;unfold m8;exact (am (aD (aH aQ (aj (aE bV rfl En.z_list bt_list' (a8 (ak (ag hu) (ai 0) ae (fun _ _=>rfl)) ac))) (aj (jq rfl rfl En.z_range rfl En.z_list (a8 (ak (ag hu) (ai 0) ae (fun _ _=>rfl)) ac))))))
theorem Ce(En:En K mg ad)(G_q14:O33 P w K mg base ad):O34 P w K mg base ad:=by
 refine dg (k:=1) (T:=mi ad) En.F_q17 sc_q17 fun cdv A outer s H E B EE hr ux=>?_;have hU:=hr.units;have hu:=bc hr;unfold mi
 exact (af (au (i:=3) sc_q17.nd rfl (Or.inr rfl) (aj (ap G_q14 (hr.mono (by decide)) rfl En.m_q14 En.k_q14 En.b_q14 aA ux (a8 (ai 0) ac))))
  (af (au (i:=4) sc_q17.nd rfl (Or.inr rfl) (aj (aH aQ (ak (ag hu) (ai 1) ae (fun _ _=>rfl)) (ak (ag hu) (ai 1) ae (fun _ _=>rfl)))))
  (af (au (i:=5) sc_q17.nd rfl (Or.inr rfl) (aj (aH aQ (ak (ag hu) (ai 2) ae (fun _ _=>rfl)) (ak (ag hu) (ai 2) ae (fun _ _=>rfl)))))
  (am (aD (cc (ls:=["_law_k"]) (fs:=["_law_others","_law_numbers","_law_all"]) (js:=[5,4,3]) rfl (b_ (cs:=[s.heap.objs.size+3,s.heap.objs.size+2,s.heap.objs.size+1]) rfl (by decide +kernel) (by decide +kernel) rfl rfl (dF rfl (dF rfl (dF rfl fS))) (.cons rfl (.inl rfl) (.inl rfl) (.cons rfl (.inl rfl) (.inl rfl) (.cons rfl (.inl rfl) (.inl rfl) .nil)))) (bC rfl En.z_range (a8 (aR aS rfl En.z_len bn (a8 (ai 3) ac)) ac)) (fun C' s₀ H₀ fp pl'=>⟨(aI (i:=0) (show List.Nodup [("_law_k":Str),("_law_others":Str),("_law_numbers":Str),("_law_all":Str)] from (by decide +kernel)) rfl (Or.inl rfl)),(kG (aG (dU hU) (ak (ag hu) (ai 2) (ai 0) (fun _ _=>rfl)) (ak (ag hu) (ai 1) (ai 0) (fun _ _=>rfl)) (az _))),(ak (ag hu) (ai 3) (ai 0) (fun _ _=>rfl))⟩)))))))
theorem Ax(En:En K mg ad)(G_q14:O33 P w K mg base ad):O35 P w K mg base ad:=by
 refine dg (k:=1) (T:=mC ad) En.F_q22 sc_q22 fun cdv A outer s H E B EE hr ux=>?_;have hU:=hr.units;have hu:=bc hr;unfold mC
 exact (af (bU (ai 0) (gw (n:=4) rfl (b0 (aI (i:=2) sc_q22.nd rfl (Or.inl rfl)) (b0 (aI (i:=3) sc_q22.nd rfl (Or.inl rfl)) (b0 (aI (i:=4) sc_q22.nd rfl (Or.inl rfl)) (b0 (aI (i:=5) sc_q22.nd rfl (Or.inl rfl)) cT))))))
  (af (au (i:=6) sc_q22.nd rfl (Or.inl rfl) (aj (ap G_q14 (hr.mono (by decide)) rfl En.m_q14 En.k_q14 En.b_q14 aA ux (a8 (ai 2) ac))))
  (af (au (i:=7) sc_q22.nd rfl (Or.inl rfl) (aE bV rfl En.z_list bt_list' (a8 (aj (aH aQ (ak (ag hu) (ai 3) ae (fun _ _=>rfl)) (ak (ag hu) (ai 3) ae (fun _ _=>rfl)))) ac)))
  (af (au (i:=8) sc_q22.nd rfl (Or.inl rfl) (aj (aH aQ (ak (ag hu) (ai 4) ae (fun _ _=>rfl)) (ak (ag hu) (ai 4) ae (fun _ _=>rfl)))))
  (af (cN PassesOwn.leaving rfl (bC rfl En.z_range (a8 (aR aS rfl En.z_len bn (a8 (ai 6) ac)) ac)) (aI (i:=9) sc_q22.nd rfl (Or.inl rfl)) (am (bf (aG (uP hU) (ak (ag hu) (ai 6) (ai 9) (fun _ _=>rfl)) (ai 1) (by rfl)) (am (bU (ak (ag hu) (ai 8) (ai 9) (fun _ _=>rfl)) (cD hu (ai 7) (ai 9)))) aP)))
  (af (au (i:=10) sc_q22.nd rfl (Or.inl rfl) (aR aS rfl En.z_len bn (a8 (ak (ag hu) (ai 2) ae (fun _ _=>rfl)) ac)))
  (am (aD (aW (a8 (aE aO rfl En.z_tuple aV (a8 (aj (bu (ai 7) bP (bR (ai 10)))) ac)) (a8 (aE aO rfl En.z_tuple aV (a8 (aj (bu (ai 7) (bR (ai 10)) bP)) ac)) ac)))))))))))
theorem By(En:En K mg ad)(G_q13:O28 P w K mg base ad)(G_q22:O35 P w K mg base ad):O36 P w K mg base ad:=by
 refine dg (k:=26) (T:=nk ad) En.F_q10 sc_q10 fun cdv A outer s H E B EE hr ux=>?_;have hU:=hr.units;have hu:=bc hr;unfold nk
 exact (af (bU (ai 0) (gw (n:=4) rfl (b0 (aI (i:=2) sc_q10.nd rfl (Or.inl rfl)) (b0 (aI (i:=3) sc_q10.nd rfl (Or.inl rfl)) (b0 (aI (i:=4) sc_q10.nd rfl (Or.inl rfl)) (b0 (aI (i:=5) sc_q10.nd rfl (Or.inl rfl)) cT))))))
  (af (au (i:=6) sc_q10.nd rfl (Or.inl rfl) (aj (ap G_q13 (hr.mono (by decide)) rfl En.m_q13 En.k_q13 En.b_q13 aA ux (a8 (ai 2) (a8 (aj (ap G_q22 (hr.mono (by decide)) rfl En.m_q22 En.k_q22 En.b_q22 aA ux (a8 (ai 0) (a8 (ai 1) ac)))) (a8 (ai 5) ac))))))
  (af (bf (aG (aX hU) (ai 6) (aj (ap G_q13 (hr.mono (by decide)) rfl En.m_q13 En.k_q13 En.b_q13 aA ux (a8 (ai 2) (a8 (ai 3) (a8 (ai 5) ac))))) (az _)) (am (aD aq)) aP)
  (am (aD (ak (ag hu) (aj (bo (a8 aq (a8 aq ac)))) (aE cY rfl En.z_int ff (a8 (dE (aX hU) (ai 6) (aj (ap G_q13 (hr.mono (by decide)) rfl En.m_q13 En.k_q13 En.b_q13 aA ux (a8 (ai 2) (a8 (ai 4) (a8 (ai 5) ac))))) (az _)) ac)) (fun _ _=>rfl)))))))
theorem Dm(En:En K mg ad)(G_q32:pU P w K mg base ad):O37 P w K mg base ad:=by
 refine dg (k:=1) (T:=wo ad) En.F_q8 sc_q8 fun cdv A outer s H E B EE hr ux=>?_;have hU:=hr.units;have hu:=bc hr;unfold wo
 exact (af (au (i:=2) sc_q8.nd rfl (Or.inl rfl) (aj (ap G_q32 (hr.mono (by decide)) rfl En.m_q32 En.k_q32 En.b_q32 aA ux (a8 (ai 0) (a8 ae ac)))))
  (af (bf (aG (aX hU) (ai 2) ae (az _)) (am (aD (ak (ag hu) (aj (bo (a8 (aj (bo ac)) (a8 (aj (aE bV rfl En.z_list bt_list' (a8 (ai 1) ac))) ac)))) (aj (ap G_q32 (hr.mono (by decide)) rfl En.m_q32 En.k_q32 En.b_q32 aA ux (a8 (ai 0) (a8 ae ac)))) (fun _ _=>rfl)))) aP)
  (am (aD (cc (ls:=["_law_one"]) (fs:=["_law_tape_here"]) (js:=[0]) rfl (b_ (cs:=[s.heap.objs.size+1]) rfl (by decide +kernel) (by decide +kernel) rfl rfl (dF rfl fS) (.cons rfl (.inl rfl) (.inl rfl) .nil)) (dB (ai 1)) (fun C' s₀ H₀ fp pl'=>⟨(aI (i:=0) (show List.Nodup [("_law_one":Str),("_law_tape_here":Str)] from (by decide +kernel)) rfl (Or.inl rfl)),(kG (aG (aX hU) (aj (ap G_q32 (hr.mono (by decide)) rfl En.m_q32 En.k_q32 En.b_q32 dZ zn (a8 (ai 1) (a8 ae ac)))) ae (az _))),(ai 0)⟩))))))
theorem D5(En:En K mg ad)  : O38 P w K mg base ad:=by
 refine dg (k:=0) (T:=uo ad) En.F_q5 Dx fun cdv A outer s H E B EE hr ux=>?_;have hU:=hr.units;have hu:=bc hr;unfold uo;exact (am (aD (cc (ls:=["_law_k"]) (fs:=["_law_mix"]) (js:=[0]) rfl (b_ (cs:=[s.heap.objs.size+1]) rfl (by decide +kernel) (by decide +kernel) rfl rfl (dF rfl fS) (.cons rfl (.inl rfl) (.inl rfl) .nil)) (bC rfl En.z_range (a8 (aR aS rfl En.z_len bn (a8 (ai 0) ac)) ac)) (fun C' s₀ H₀ fp pl'=>⟨(aI (i:=0) (show List.Nodup [("_law_k":Str),("_law_mix":Str)] from (by decide +kernel)) rfl (Or.inl rfl)),cA,(aj (aH aQ (aj (bu (ai 1) bP (bR (ai 0)))) (aj (bu (ai 1) (bR (aH aQ (ai 0) ae)) bP))))⟩))))
theorem B7(En:En K mg ad)(G_q32:pU P w K mg base ad)(G_q5:O38 P w K mg base ad)(G_q10:O36 P w K mg base ad):O39 P w K mg base ad:=by
 refine dg (k:=27) (T:=nz ad) En.F_q15 sc_q15 fun cdv A outer s H E B EE hr ux=>?_;have hU:=hr.units;have hu:=bc hr;unfold nz
 exact (af (au (i:=3) sc_q15.nd rfl (Or.inl rfl) (aj (aE bV rfl En.z_list bt_list' (a8 (ai 2) ac))))
  (af (cN PassesOwn.leaving rfl (bC rfl En.z_range (a8 (aR aS rfl En.z_len bn (a8 (ai 2) ac)) ac)) (aI (i:=4) sc_q15.nd rfl (Or.inl rfl)) (af (AZ 5 (yH (i:=5) (hsw:=yq rfl (show List.lookup ("_law_some":Str) (ax rK).names=some .local by decide +kernel) rfl (by decide +kernel)) sc_q15.nd rfl (Or.inl rfl) (ls:=["_law_less"]) (fs:=["_law_case_here"]) (js:=[1]) rfl (b_ (cs:=[s.heap.objs.size+1]) rfl (by decide +kernel) (by decide +kernel) rfl rfl (dF rfl fS) (.cons rfl (.inl rfl) (.inl rfl) .nil)) (dB (aj (ap G_q5 (hr.mono (by decide)) rfl En.m_q5 En.k_q5 En.b_q5 aA ux (a8 (ai 3) ac)))) (fun C' s₀ H₀ fp pl'=>⟨(aI (i:=0) (show List.Nodup [("_law_less":Str),("_law_case_here":Str)] from (by decide +kernel)) rfl (Or.inl rfl)),(kG (aG (aX hU) (aj (ap G_q10 (hr.mono (by decide)) rfl En.m_q10 En.k_q10 En.b_q10 dZ zn (a8 (ai 1) (a8 (ai 0) ac)))) aq (az _))),(ai 0)⟩)))
   (af (bf (aG (aX hU) (ai 5) (aj (bo ac)) (az _)) (am (aD (ai 3))) aP)
   (am (au (i:=3) sc_q15.nd rfl (Or.inl rfl) (ak (ag hu) (ai 5) (aj (ap G_q32 (hr.mono (by decide)) rfl En.m_q32 En.k_q32 En.b_q32 aA ux (a8 (ai 0) (a8 (aR aS rfl En.z_len bn (a8 (ai 5) ac)) ac)))) (fun _ _=>rfl)))))))
  (am (aD (ai 3)))))
theorem Ap(En:En K mg ad)(G_q29:O32 P w K mg base ad)(G_q5:O38 P w K mg base ad)(G_q15:O39 P w K mg base ad)(G_q8:O37 P w K mg base ad)(G_q30:O19 P w K mg base ad)(G_q17:O34 P w K mg base ad)(G_q10:O36 P w K mg base ad)(G_q36:O18 P w K mg base ad):O40 P w K mg base ad:=by
 refine dg (k:=32) (T:=nI ad) En.F_law sc_law fun cdv A outer s H E B EE hr ux=>?_;have hU:=hr.units;have hu:=bc hr;unfold nI
 exact (af (au (i:=1) sc_law.nd rfl (Or.inl rfl) (ap G_q30 (hr.mono (by decide)) rfl En.m_q30 En.k_q30 En.b_q30 aA ux (a8 (ai 0) ac)))
  (af (au (i:=2) sc_law.nd rfl (Or.inl rfl) (aj (ap G_q29 (hr.mono (by decide)) rfl En.m_q29 En.k_q29 En.b_q29 aA ux (a8 (ai 1) (a8 ae (a8 ae (a8 ae ac)))))))
  (af (au (i:=3) sc_law.nd rfl (Or.inl rfl) (aj (ap G_q17 (hr.mono (by decide)) rfl En.m_q17 En.k_q17 En.b_q17 aA ux (a8 (ak (ag hu) (ai 2) ae (fun _ _=>rfl)) (a8 (ak (ag hu) (ai 2) ae (fun _ _=>rfl)) (a8 (ak (ag hu) (ai 2) ae (fun _ _=>rfl)) ac))))))
  (af (au (i:=4) sc_law.nd rfl (Or.inl rfl) (bo (a8 (aj (ap G_q15 (hr.mono (by decide)) rfl En.m_q15 En.k_q15 En.b_q15 aA ux (a8 (ai 1) (a8 (ai 2) (a8 (ai 3) ac))))) (a8 (aj (bo ac)) (a8 (aj (aE bV rfl En.z_list bt_list' (a8 (ai 3) ac))) ac)))))
  (af (cN PassesOwn.leaving rfl (bC rfl En.z_range (a8 ae ac)) (aI (i:=5) sc_law.nd rfl (Or.inl rfl)) (am (bQ (gD (Or.inl rfl) PySem.F.plainAttrs_list PySem.F.slot_list_append PySem.F.type_list_append cn (ai 4) (a8 (aj (ap G_q8 (hr.mono (by decide)) rfl En.m_q8 En.k_q8 En.b_q8 aA ux (a8 (ai 1) (a8 (ai 3) ac)))) ac)))))
  (af (cN PassesOwn.leaving rfl (dB (ai 4)) (aI (i:=6) sc_law.nd rfl (Or.inl rfl)) (af (au (i:=7) sc_law.nd rfl (Or.inl rfl) (aj (aE bV rfl En.z_list bt_list' (a8 (ai 6) ac))))
   (af (au (i:=8) sc_law.nd rfl (Or.inl rfl) (dE (aX hU) (aj (ap G_q10 (hr.mono (by decide)) rfl En.m_q10 En.k_q10 En.b_q10 aA ux (a8 (ai 2) (a8 (ai 6) ac)))) aq (az _)))
   (af (cN PassesOwn.leaving rfl (dB (aj (ap G_q5 (hr.mono (by decide)) rfl En.m_q5 En.k_q5 En.b_q5 aA ux (a8 (ai 6) ac)))) (aI (i:=9) sc_law.nd rfl (Or.inl rfl)) (am (au (i:=8) sc_law.nd rfl (Or.inl rfl) (p9 (ai 8) (o_ (dE (dU hU) (aj (ap G_q10 (hr.mono (by decide)) rfl En.m_q10 En.k_q10 En.b_q10 aA ux (a8 (ai 2) (a8 (ai 9) ac)))) aq (az _)))))))
   (af (au (i:=10) sc_law.nd rfl (Or.inl rfl) (aj (ap G_q36 (hr.mono (by decide)) rfl En.m_q36 En.k_q36 En.b_q36 aA ux (a8 (ai 2) (a8 (ai 7) ac)))))
   (am (bf (eG (mj (lA (dS (aR fQ rfl En.z_isinstance eS (a8 (ai 10) (a8 (zN rfl En.z_bool tq) ac))))) (mj (aG (dU hU) (ai 10) (ai 8) (az _)) (lc (aG (dU hU) (ai 7) (ai 6) (az _)))))) (am (aD jk)) aP)))))))
  (am (aD jk))))))))
theorem Bp(En:En K mg ad):O40 P w K mg base ad:=by
 have G_q6:=CZ (P:=P) (w:=w) (base:=base) En;have G_q3:=Dh (P:=P) (w:=w) (base:=base) En;have G_q25:=Bw (P:=P) (w:=w) (base:=base) En G_q3;have G_q39:=AM (P:=P) (w:=w) (base:=base) En;have G_q21:=A5 (P:=P) (w:=w) (base:=base) En;have G_q26:=BY (P:=P) (w:=w) (base:=base) En G_q39 G_q21;obtain ⟨G_q37,G_q40,G_q42,G_q34⟩:=gH (P:=P) (w:=w) (base:=base) En G_q25 G_q3 G_q26 24;have G_q44:=BU (P:=P) (w:=w) (base:=base) En G_q6 G_q37;have G_q43:=C5 (P:=P) (w:=w) (base:=base) En G_q44;have G_q27:=Bc (P:=P) (w:=w) (base:=base) En;have G_q41:=B2 (P:=P) (w:=w) (base:=base) En G_q43;have G_q11:=Bh (P:=P) (w:=w) (base:=base) En G_q27;have G_q33:=Bv (P:=P) (w:=w) (base:=base) En G_q11;have G_q20:=Ao (P:=P) (w:=w) (base:=base) En;have G_q1:=CH (P:=P) (w:=w) (base:=base) En G_q41;have G_q16:=A8 (P:=P) (w:=w) (base:=base) En G_q43 G_q33 G_q20;have G_q0:=Dc (P:=P) (w:=w) (base:=base) En G_q16;have G_q9:=Eb (P:=P) (w:=w) (base:=base) En;have G_q36:=Ch (P:=P) (w:=w) (base:=base) En G_q1 G_q0 G_q9;have G_q30:=AK (P:=P) (w:=w) (base:=base) En;have G_q32:=Bo (P:=P) (w:=w) (base:=base) En;have G_q19:=Bj (P:=P) (w:=w) (base:=base) En G_q32;have G_q12:=BC (P:=P) (w:=w) (base:=base) En G_q32;obtain ⟨G_q28,G_q4⟩:=fE (P:=P) (w:=w) (base:=base) En G_q32 G_q12 24;have G_q31:=AD (P:=P) (w:=w) (base:=base) En G_q32 G_q19 G_q4;have G_q23:=AX (P:=P) (w:=w) (base:=base) En G_q32;have G_q35:=As (P:=P) (w:=w) (base:=base) En;have G_q38:=gP (P:=P) (w:=w) (base:=base) En G_q35 24;have G_q18:=Ay (P:=P) (w:=w) (base:=base) En;have G_q13:=BI (P:=P) (w:=w) (base:=base) En G_q18 G_q38;have G_q2:=D4 (P:=P) (w:=w) (base:=base) En G_q32 G_q23;have G_q24:=BO (P:=P) (w:=w) (base:=base) En G_q32;have G_q7:=CS (P:=P) (w:=w) (base:=base) En G_q32;have G_q29:=BD (P:=P) (w:=w) (base:=base) En G_q18 G_q38 G_q32 G_q24 G_q7 G_q31 G_q2;have G_q14:=A2 (P:=P) (w:=w) (base:=base) En;have G_q17:=Ce (P:=P) (w:=w) (base:=base) En G_q14;have G_q22:=Ax (P:=P) (w:=w) (base:=base) En G_q14;have G_q10:=By (P:=P) (w:=w) (base:=base) En G_q13 G_q22;have G_q8:=Dm (P:=P) (w:=w) (base:=base) En G_q32;have G_q5:=D5 (P:=P) (w:=w) (base:=base) En;have G_q15:=B7 (P:=P) (w:=w) (base:=base) En G_q32 G_q5 G_q10;have G_law:=Ap (P:=P) (w:=w) (base:=base) En G_q29 G_q5 G_q15 G_q8 G_q30 G_q17 G_q10 G_q36;exact G_law
end
end Tw
namespace L3
open PySem L2
theorem bv{T:Sd}{EE:DX}{ds:List D}{M:Mem}{Q:DK}{b:BxQ EE Q}{d:D}(hm:∀Q' E',Q' d M->T ds M Q' E')(h:Q d M):calls T EE ds M Q b:=
 calls_of fun Q' E' hq _=>hm Q' E' (hq d M h)
theorem bY{α:Type}{xs:List α}{i:Int}(h:0<=i):atI xs i=xs[i.toNat]?:=by
 unfold atI pJ;rw [if_pos h]
 by_cases hi:i<xs.length
 ·rw [if_pos hi];rfl
 ·rw [if_neg hi,List.getElem?_eq_none (by lia)];rfl
@[simp] theorem atI_0 {α:Type} {xs:List α}:atI xs 0=xs[0]?:=bY (by decide)
@[simp] theorem atI_1 {α:Type} {xs:List α}:atI xs 1=xs[1]?:=bY (by decide)
@[simp] theorem atI_2 {α:Type} {xs:List α}:atI xs 2=xs[2]?:=bY (by decide)
@[simp] theorem atI_3 {α:Type} {xs:List α}:atI xs 3=xs[3]?:=bY (by decide)
@[simp] theorem atI_4 {α:Type} {xs:List α}:atI xs 4=xs[4]?:=bY (by decide)
theorem forD_inv{g:ic}{tb:aC}{DD:DEnds}{ok:Mem->Prop}{b:BxF g tb DD ok}(I:List D->Dl->Mem->Prop)(hok:∀xs δ M,I xs δ M->ok M)(h0:∀δ M,I [] δ M->DD.nx δ M)
  (hs:∀x xs δ M,I (x::xs) δ M->∀D':DEnds,(∀δ' M',I xs δ' M'->D'.nx δ' M')->(∀δ' M',I xs δ' M'->D'.ct δ' M')->D'.rt=DD.rt->D'.bk=DD.nx->g x δ M fun δ2 M2=>tb D' δ2 M2):∀xs δ M,I xs δ M->oV g tb DD ok b xs δ M
 |[],δ,M,h=>⟨hok _ _ _ h,h0 δ M h⟩
 |x::xs,δ,M,h=>⟨hok _ _ _ h,hs x xs δ M h _ (fun δ' M' h'=>forD_inv I hok h0 hs xs δ' M' h') (fun δ' M' h'=>forD_inv I hok h0 hs xs δ' M' h') rfl rfl⟩
theorem ce{g:ic}{tt:eI}{te:bM}{ok:Mem->Prop}{Q:List D->Mem->Prop}{b:BxC g tt te ok Q}(I:List D->List D->Dl->Mem->Prop)(hok:∀xs acc δ M,I xs acc δ M->ok M)(h0:∀acc δ M,I [] acc δ M->Q acc M)
  (hs:∀x xs acc δ M,I (x::xs) acc δ M->∀N:Bool->D->Dl->Mem->Prop,(∀y δ' M',acc.length<sizeLine->I xs (acc++[y]) δ' M'->N true y δ' M')->(∀y δ' M',I xs acc δ' M'->N false y δ' M')->g x δ M fun δ2 M2=>tt δ2 M2 fun c M3=>if c=true then te δ2 M3 fun y M4=>N true y δ2 M4 else N false .non δ2 M3)
  (hl:∀x xs acc δ M,I (x::xs) acc δ M->acc.length<sizeLine):∀xs acc δ M,I xs acc δ M->cI g tt te ok Q b xs acc δ M
 |[],acc,δ,M,h=>⟨hok _ _ _ _ h,h0 acc δ M h⟩
 |x::xs,acc,δ,M,h=>⟨hok _ _ _ _ h,hs x xs acc δ M h (fun k y δ' M'=>if k=true then acc.length<sizeLine/\cI g tt te ok Q b xs (acc++[y]) δ' M' else cI g tt te ok Q b xs acc δ' M')
   (fun y δ' M' hlen h'=>by rw [if_pos rfl];exact ⟨hlen,ce I hok h0 hs hl xs _ δ' M' h'⟩) (fun y δ' M' h'=>by rw [if_neg (by simp)];exact ce I hok h0 hs hl xs _ δ' M' h') |> fun z=>by simpa using z⟩
theorem szl{n:Nat}(h:n<=1000000):n<=sizeLine:=Nat.le_trans h (by decide)
theorem fP{n:Nat}(h:n<1000000):n<sizeLine:=Nat.lt_of_lt_of_le h (by decide)
end L3
namespace Tw
open PySem L2 L3
inductive Rw where
 |put (x:Str) (k:Int)|take (x:Str) (i:Int)|pick (x y:Str)|two (w x y z:Str)|ifr (x:Str) (a b:List Rw)|again (x:Str) (a:List Rw)
mutual
def Rw.d:Rw->D
 |.put x k=>.tup [.str "put",.str x,.int k]
 |.take x i=>.tup [.str "take",.str x,.int i]
 |.pick x y=>.tup [.str "pick",.str x,.str y]
 |.two w x y z=>.tup [.str w,.str x,.str y,.str z]
 |.ifr x a b=>.tup [.str "if",.str x,.tup (aB a),.tup (aB b)]
 |.again x a=>.tup [.str "again",.str x,.tup (aB a)]
def aB:List Rw->List D
 |[]=>[]
 |r::rs=>r.d::aB rs
end
abbrev gm:=List (Str×Int)
def gN(n:gm)(x:Str):Option Int:=(n.find? fun p=>decide (p.1=x)).map (·.2)
def nm(n:gm)(x:Str):Int:=(gN n x).getD 0
def sN(n:gm)(x:Str)(v:Int):gm:=n.map fun p=>if p.1=x then (p.1,v) else p
def kvD(n:gm):List (aT×D):=n.map fun p=>(Sum.inr p.1,D.int p.2)
theorem zE:∀{n:gm} {x:Str},x∈n.map (·.1)->gN n x=some (nm n x)
 |[],_,h=>by simp at h
 |(y,v)::n,x,h=>by
  by_cases e:y=x
  ·simp [gN,nm,e]
  ·have:=zE (n:=n) (x:=x) (by simpa [Ne.symm e,eq_comm,e] using h)
   simpa [gN,nm,e] using this
theorem cF:∀{n:gm} {x:Str},cb (kvD n) (Sum.inr x)=(gN n x).map D.int
 |[],x=>rfl
 |(y,v)::n,x=>by
  by_cases e:y=x
  ·simp [cb,kvD,gN,e]
  ·have:=cF (n:=n) (x:=x)
   simpa [cb,kvD,gN,e] using this
theorem vy:∀{n:gm} {x:Str},x∈n.map (·.1)->((kvD n).any fun kv=>decide (kv.1=Sum.inr x))=true
 |[],_,h=>by simp at h
 |(y,v)::n,x,h=>by
  by_cases e:y=x
  ·simp [kvD,e]
  ·have:=vy (n:=n) (x:=x) (by simpa [Ne.symm e,eq_comm,e] using h)
   simp only [kvD,List.map_cons,List.any_cons,Bool.or_eq_true] at this ⊢;exact .inr this
theorem i6{n:gm}{x:Str}{v:Int}(h:x∈n.map (·.1)):cJ (kvD n) (Sum.inr x) (.int v)=kvD (sN n x v):=by
 unfold cJ;rw [vy h,if_pos rfl];simp only [kvD,sN,List.map_map];apply List.map_congr_left;intro p _
 by_cases e:p.1=x
 ·simp [e]
 ·simp [e]
theorem x8{n:gm}{x:Str}{v:Int}:(sN n x v).map (·.1)=n.map (·.1):=by
 simp only [sN,List.map_map];apply List.map_congr_left;intro p _
 by_cases e:p.1=x<;>simp [e]
structure Cf where
 m:Int
 pieces:List Int
 most:Nat
structure Sx where
 nums:gm
 steps:List (List Int×Int)
def x6(w:Str)(y z m:Int):Int:=if w="sum" then (y+z) % m else if w="by" then y*z % m else if w="less" then (if y<z then 1 else 0) else if y=z then 1 else 0
def num(c:Cf)(n:gm):Rw->Int
 |.put _ k=>k
 |.take _ i=>(c.pieces[i.toNat]?).getD 0
 |.pick _ y=>(c.pieces[(nm n y % (c.pieces.length:Int)).toNat]?).getD 0
 |.two w _ y z=>x6 w (nm n y) (nm n z) c.m
 |_=>0
def oj:Rw->Str
 |.put x _=>x
 |.take x _=>x
 |.pick x _=>x
 |.two _ x _ _=>x
 |.ifr x _ _=>x
 |.again x _=>x
def nt(c:Cf)(pl:List Int)(v:Int)(s:Sx):Bool×Sx:=if s.steps.length<c.most then (true,⟨s.nums,s.steps++[(pl,v)]⟩) else (false,s)
def lk(n:gm)(x:Str):Int:=if nm n x=0 then 0 else 1
def bS(c:Cf)(x:Str)(pl:List Int)(body:Nat->Sx->Bool×Sx):Nat->Nat->Sx->Bool×Sx
 |0,_,s=>(false,s)
 |f+1,t,s=>if (nt c (pl++[(t:Int)]) (lk s.nums x) s).1=true then
   (if lk s.nums x=1 then
    (if (body t (nt c (pl++[(t:Int)]) (lk s.nums x) s).2).1=true then bS c x pl body f (t+1) (body t (nt c (pl++[(t:Int)]) (lk s.nums x) s).2).2 else body t (nt c (pl++[(t:Int)]) (lk s.nums x) s).2)
   else nt c (pl++[(t:Int)]) (lk s.nums x) s)
  else nt c (pl++[(t:Int)]) (lk s.nums x) s
mutual
def exR(c:Cf):Rw->List Int->Sx->Bool×Sx
 |.ifr x a b,pl,s=>if (nt c pl (lk s.nums x) s).1=true then (if lk s.nums x=1 then bp c a (pl++[lk s.nums x]) 0 (nt c pl (lk s.nums x) s).2 else bp c b (pl++[lk s.nums x]) 0 (nt c pl (lk s.nums x) s).2) else nt c pl (lk s.nums x) s
 |.again x a,pl,s=>bS c x pl (fun t s=>bp c a (pl++[(t:Int)]) 0 s) (c.most+1) 0 s
 |.put x k,pl,s=>if (nt c pl (num c s.nums (.put x k)) s).1=true then (true,⟨sN s.nums x (num c s.nums (.put x k)),(nt c pl (num c s.nums (.put x k)) s).2.steps⟩) else nt c pl (num c s.nums (.put x k)) s
 |.take x i,pl,s=>if (nt c pl (num c s.nums (.take x i)) s).1=true then (true,⟨sN s.nums x (num c s.nums (.take x i)),(nt c pl (num c s.nums (.take x i)) s).2.steps⟩) else nt c pl (num c s.nums (.take x i)) s
 |.pick x y,pl,s=>if (nt c pl (num c s.nums (.pick x y)) s).1=true then (true,⟨sN s.nums x (num c s.nums (.pick x y)),(nt c pl (num c s.nums (.pick x y)) s).2.steps⟩) else nt c pl (num c s.nums (.pick x y)) s
 |.two w x y z,pl,s=>if (nt c pl (num c s.nums (.two w x y z)) s).1=true then (true,⟨sN s.nums x (num c s.nums (.two w x y z)),(nt c pl (num c s.nums (.two w x y z)) s).2.steps⟩) else nt c pl (num c s.nums (.two w x y z)) s
def bp(c:Cf):List Rw->List Int->Nat->Sx->Bool×Sx
 |[],_,_,s=>(true,s)
 |r::rs,pl,j,s=>if (exR c r (pl++[(j:Int)]) s).1=true then bp c rs pl (j+1) (exR c r (pl++[(j:Int)]) s).2 else exR c r (pl++[(j:Int)]) s
end
def dO(c:Cf)(r:Rw)(pl:List Int)(s:Sx):Bool×Sx:=if s.steps.length<c.most then (true,⟨sN s.nums (oj r) (num c s.nums r),s.steps++[(pl,num c s.nums r)]⟩) else (false,s)
def rg:Rw->Bool
 |.ifr _ _ _=>false
 |.again _ _=>false
 |_=>true
theorem bh{c:Cf}{r:Rw}{pl:List Int}{s:Sx}(h:rg r=true):exR c r pl s=dO c r pl s:=by
 cases r with
 |ifr x a b=>simp [rg] at h
 |again x a=>simp [rg] at h
 |put x k=>simp only [exR,dO,nt,oj];split<;>simp_all
 |take x k=>simp only [exR,dO,nt,oj];split<;>simp_all
 |pick x k=>simp only [exR,dO,nt,oj];split<;>simp_all
 |two w x y z=>simp only [exR,dO,nt,oj];split<;>simp_all
theorem br(a b:String):(Str.ofString a=Str.ofString b)=(a=b):=by
 refine propext ⟨fun h=>?_,fun h=>by rw [h]⟩
 rw [Str.ofString_eq_byList] at h;have h1:=congrArg (fun x:Str=>x.cps.toList) h;simp only [Str.ofStringByList] at h1;exact String.toList_inj.mp ((List.map_inj_right fun x y e=>Char.toNat_inj.mp e).mp h1)
end Tw
open PySem L2 L3 Tw
local macro_rules | `(tactic| simp! [$a,*]) => do let p <- ("BH Bn BV B_ yW yF xM xT wY zq zm wD yX zg xE y0 yg ye yx xl xW xK yj yh x_ yM yV yi y8 yo qv kX qO iI qG yz v5 lh iG kO z7 yC w_ xz yK yk ia pX qm mY mU fU wJ wS zt xc zj xS xj yQ xV y6 xQ wZ zb xI wH xf xR yN xy zk yI zX AF BR AJ Ai B8 pH ui pw wI wV xL yr yR yJ wO yZ qV kR qM i7 rz xt wE xb lw gg lM io qc iJ mF gh eV fb ql kT dl qz qb ii xh dR ij cZ lH kP oo pc wk vB wf ra rM iy rL kY qw pS rR oH w8 vR qZ lE qo iD ip rW qt qy ik i_ m9 m7 fY g6 nB ir rE rC hV qB kA rQ rJ rF qu lg iA qE p7 oF wq qH ld iE pZ lb iz lx iC rS rA iB lQ pQ nu mP no jC vP kg AA uC B9 jc zK ba startN aw bw aK gW tru dOp dz tu dv fit dH aZ eX aa dC a_ Co bj uL gT Cr o8 zD oI yY fL aL cP seqL ar frz bN vz ud vn aF hName gn bB ft fG At a9 dNil bL bX bO cg dJ cTuple qA eT kj yD dL f_ ci tN cm kJ dTM kI gv gf dG gG BX xU lm wP oSl lK cu bA dCall eD vZ eW cy zB uR srcOf oR cL iR gl zx vj frzs Eg sw An lO".splitOn " ").toArray.mapM (fun s => `(Lean.Parser.Tactic.simpLemma| ↓$(Lean.mkIdent s.toName):ident)); let q <- ("List.map_cons List.map_nil List.cons_append List.nil_append List.length_cons List.length_nil List.getElem?_cons_succ List.getElem?_cons_zero List.set_cons_succ List.set_cons_zero Nat.zero_add Nat.reduceAdd Nat.reduceSub List.replicate_succ List.replicate_zero List.append_nil true_and and_true if_true if_false Bool.false_eq_true decide_eq_true_eq decide_eq_false_iff_not Bool.not_true Bool.not_false Bool.and_true Bool.true_and Bool.and_false Bool.false_and Mem.upd_same Option.isSome_some Option.isSome_none br String.reduceEq".splitOn " ").toArray.mapM (fun s => `(Lean.Parser.Tactic.simpLemma| $(Lean.mkIdent s.toName):ident)); let r : Lean.TSyntaxArray [`Lean.Parser.Tactic.simpStar, `Lean.Parser.Tactic.simpErase, `Lean.Parser.Tactic.simpLemma] := (p.map (⟨·.raw⟩)) ++ (q.map (⟨·.raw⟩)) ++ a.getElems; `(tactic| simp -dsimp only [$r,*])
namespace Tw
open PySem L2 L3
theorem mV{ad:Ad}{M:Mem}{Q:DK}{E:DX}{w:Str}{y z m:Int}(hm:0<m)(hy:0<=y)(hy2:y<1000)(h:Q (.int (x6 w y z m)) M):qx ad [.str w,.int y,.int z,.int m] M Q E:=by
 have hc:CMul y z:=.inl ⟨by lia,by lia⟩
 unfold x6 at h;simp! [Eh,mT]
 split
 ·rename_i e;rw [if_pos e] at h;exact ⟨hm,ay h⟩
 ·rename_i e;rw [if_neg e] at h
  split
  ·rename_i e;rw [if_pos e] at h;exact ⟨hc,hm,ay h⟩
  ·rename_i e;rw [if_neg e] at h
   split
   ·rename_i e;rw [if_pos e] at h
    split<;>rename_i e2
    ·rw [if_pos e2] at h;exact ay h
    ·rw [if_neg e2] at h;exact ay h
   ·rename_i e;rw [if_neg e] at h
    split<;>rename_i e2
    ·rw [if_pos e2] at h;exact ay h
    ·rw [if_neg e2] at h;exact ay h
def RwOk(names:List Str)(m many:Int):Rw->Prop
 |.put x k=>x∈names/\0<=k/\k<m
 |.take x i=>x∈names/\0<=i/\i<many
 |.pick x y=>x∈names/\y∈names/\0<many
 |.two w x y z=>(w="sum"\/w="by"\/w="less"\/w="same")/\x∈names/\y∈names/\z∈names
 |_=>False
structure NOk(names:List Str)(m:Int)(n:gm):Prop where
 keys:n.map (·.1)=names
 rng:∀p∈n,0<=p.2/\p.2<m
theorem NOk.at{names:List Str}{m:Int}{n:gm}(h:NOk names m n){x:Str}(hx:x∈names):gN n x=some (nm n x)/\0<=nm n x/\nm n x<m:=by
 have e:gN n x=some (nm n x):=zE (by rw [h.keys];exact hx)
 refine ⟨e,?_⟩;unfold gN at e;obtain ⟨p,hp,hv⟩:=Option.map_eq_some_iff.mp e;rw [<- hv];exact h.rng p (List.mem_of_find?_eq_some hp)
theorem x9{w:Str}{y z m:Int}(h2:2<=m):0<=x6 w y z m/\x6 w y z m<m:=by
 unfold x6;have a1:=Int.emod_nonneg (y+z) (show m≠0 by lia)
 have a2:=Int.emod_lt_of_pos (y+z) (show 0<m by lia)
 have a3:=Int.emod_nonneg (y*z) (show m≠0 by lia)
 have a4:=Int.emod_lt_of_pos (y*z) (show 0<m by lia)
 repeat' split
 all_goals lia
structure COk(c:Cf):Prop where
 m2:2<=c.m
 m1:c.m<=997
 rng:∀v∈c.pieces,0<=v/\v<c.m
 few:c.pieces.length<=1000
 most:c.most<=10000
theorem COk.piece{c:Cf}(h:COk c){i:Nat}(hi:i<c.pieces.length):c.pieces[i]?=some ((c.pieces[i]?).getD 0)/\0<=(c.pieces[i]?).getD 0/\(c.pieces[i]?).getD 0<c.m:=by
 rw [List.getElem?_eq_getElem hi];exact ⟨rfl,h.rng _ (List.getElem_mem hi)⟩
theorem z8{c:Cf}(h:COk c){names:List Str}{n:gm}(hn:NOk names c.m n){r:Rw}(hr:RwOk names c.m c.pieces.length r):0<=num c n r/\num c n r<c.m:=by
 cases r with
 |put x k=>exact hr.2
 |take x i=>exact (h.piece (i:=i.toNat) (by have:=hr.2;lia)).2
 |pick x y=>
  have h0:=hr.2.2;have h1:=Int.emod_nonneg (nm n y) (show (c.pieces.length:Int)≠0 by lia)
  have h2:=Int.emod_lt_of_pos (nm n y) h0;exact (h.piece (i:=(nm n y % (c.pieces.length:Int)).toNat) (by lia)).2
 |two w x y z=>exact x9 h.m2
 |ifr=>exact hr.elim
 |again=>exact hr.elim
def planD(c:Cf)(names:List Str)(rows:List Rw)(mk:Str):D:=.tup [.int c.m,.tup (names.map D.str),.int (c.pieces.length:Nat),.tup (aB rows),.str mk]
theorem cM{ad:Ad}{M:Mem}{Q:DK}{E:DX}{c:Cf}{names:List Str}{rows:List Rw}{mk:Str}{dn:Addr}{n:gm}{r:Rw}(hn:NOk names c.m n)(hr:RwOk names c.m c.pieces.length r)(hd:M dn=some (.dK (kvD n)))
  (h:Q (match r with|.take _ i=>.int i|.pick _ y=>.int (nm n y % (c.pieces.length:Int))|_=>.non) M):qq ad [planD c names rows mk,.ref dn,r.d] M Q E:=by
 cases r with
 |put x k=>(simp! [rb,gJ,planD,Rw.d,atI_0,atI_2];exact ay h)
 |take x i=>(simp! [rb,gJ,planD,Rw.d,atI_0,atI_2];exact ay h)
 |pick x y=>
  simp! [rb,gJ,planD,Rw.d,atI_0,atI_2,hd,cF,(hn.at hr.2.1).1,Option.map_some];exact ⟨hr.2.2,ay h⟩
 |two w x y z=>
  obtain ⟨hw,_⟩:=hr;rcases hw with rfl|rfl|rfl|rfl<;>(simp! [rb,gJ,planD,Rw.d,atI_0,atI_2];exact ay h)
 |ifr=>exact hr.elim
 |again=>exact hr.elim
theorem iY{ad:Ad}{M:Mem}{Q:DK}{E:DX}{c:Cf}{names:List Str}{rows:List Rw}{mk:Str}{dn:Addr}{n:gm}{r:Rw}(hc:COk c)(hn:NOk names c.m n)(hr:RwOk names c.m c.pieces.length r)(hd:M dn=some (.dK (kvD n)))
  (h:Q (.int (num c n r)) M):nE ad [planD c names rows mk,.ref dn,.tup (c.pieces.map D.int),r.d] M Q E:=by
 have hm1:=hc.m1;have hm2:=hc.m2;cases r with
 |put x k=>
  simp! [qf,gF,planD,Rw.d,atI_0,atI_2];exact ay h
 |take x i=>
  have hr':=hr;obtain ⟨hx,h0,h1⟩:=hr';have hp:=hc.piece (i:=i.toNat) (by lia)
  have e1:(c.pieces.map D.int)[i.toNat]?=some (.int (num c n (.take x i))):=by rw [List.getElem?_map,hp.1];rfl
  simp! [qf,gF,planD,Rw.d,atI_0,atI_2];refine bv (d:=.int i) (fun _ _ q=>cM (c:=c) (names:=names) (rows:=rows) (mk:=mk) (r:=.take x i) hn hr hd q) ?_;simp! [bY h0,e1];exact ay h
 |pick x y=>
  have hr':=hr;obtain ⟨hx,hy,h0⟩:=hr';have g0:=Int.emod_nonneg (nm n y) (show (c.pieces.length:Int)≠0 by lia)
  have g1:=Int.emod_lt_of_pos (nm n y) h0;have hp:=hc.piece (i:=(nm n y % (c.pieces.length:Int)).toNat) (by lia)
  have e1:(c.pieces.map D.int)[(nm n y % (c.pieces.length:Int)).toNat]?=some (.int (num c n (.pick x y))):=by rw [List.getElem?_map,hp.1];rfl
  simp! [qf,gF,planD,Rw.d,atI_0,atI_2];refine bv (d:=.int (nm n y % (c.pieces.length:Int))) (fun _ _ q=>cM (c:=c) (names:=names) (rows:=rows) (mk:=mk) (r:=.pick x y) hn hr hd q) ?_;simp! [bY g0,e1];exact ay h
 |two w x y z=>
  have hr':=hr;obtain ⟨hw,hx,hy,hz⟩:=hr';have a1:=hn.at hy;have a2:=hn.at hz;have hw1:((w=Str.ofString "put")=False):=by rcases hw with rfl|rfl|rfl|rfl<;>exact eq_false (by decide +kernel)
  simp! [qf,gF,planD,Rw.d,atI_0,atI_2,hw1];refine bv (d:=.non) (fun _ _ q=>cM (c:=c) (names:=names) (rows:=rows) (mk:=mk) (r:=.two w x y z) hn hr hd q) ?_;simp! [atI_0,atI_2,atI_3,hd,cF,a1.1,a2.1,Option.map_some];exact bv (d:=.int (num c n (.two w x y z))) (fun _ _ q=>mV (by lia) (by lia) (by lia) q) (ay h)
 |ifr=>exact hr.elim
 |again=>exact hr.elim
structure Wk where
 a:Addr
 dn:Addr
 ls:Addr
 h1:a≠dn
 h2:a≠ls
 h3:dn≠ls
def plD(l:List Int):D:=.tup (l.map D.int)
def zM(l:List (List Int×Int)):List D:=l.map fun p=>.tup [plD p.1,.int p.2]
def wM(ad:Ad)(k:Wk)(c:Cf)(pD:D)(s:Sx)(M:Mem):Mem:=
 ((M.upd k.a (.ins ad.C_Walk [("plan",pD),("numbers",.ref k.dn),("pieces",.tup (c.pieces.map D.int)),("most",.int (c.most:Nat)),("steps",.ref k.ls)])).upd k.dn (.dK (kvD s.nums))).upd k.ls (.lst (zM s.steps))
section
variable {ad:Ad}{k:Wk}{c:Cf}{pD:D}{s:Sx}{M:Mem}
theorem wM_a:wM ad k c pD s M k.a=some (.ins ad.C_Walk [("plan",pD),("numbers",.ref k.dn),("pieces",.tup (c.pieces.map D.int)),("most",.int (c.most:Nat)),("steps",.ref k.ls)]):=by
 unfold wM;rw [ao k.h2,ao k.h1,Mem.upd_same]
theorem jn:wM ad k c pD s M k.dn=some (.dK (kvD s.nums)):=by unfold wM;rw [ao k.h3,Mem.upd_same]
theorem zH:wM ad k c pD s M k.ls=some (.lst (zM s.steps)):=by unfold wM;rw [Mem.upd_same]
theorem u3{x:List (List Int×Int)}:(wM ad k c pD s M).upd k.ls (.lst (zM x))=wM ad k c pD ⟨s.nums,x⟩ M:=by unfold wM;rw [Mem.upd_upd]
theorem yG{x:gm}:(wM ad k c pD s M).upd k.dn (.dK (kvD x))=wM ad k c pD ⟨x,s.steps⟩ M:=by
 unfold wM;rw [bd (Ne.symm k.h3),Mem.upd_upd]
theorem lf0:List.lookup ("plan":Str) [(("plan":Str),x0),(("numbers":Str),x1),(("pieces":Str),x2),(("most":Str),x3),(("steps":Str),x4)]=some (x0:D):=rfl
theorem wA:List.lookup ("numbers":Str) [(("plan":Str),x0),(("numbers":Str),x1),(("pieces":Str),x2),(("most":Str),x3),(("steps":Str),x4)]=some (x1:D):=rfl
theorem lf2:List.lookup ("pieces":Str) [(("plan":Str),x0),(("numbers":Str),x1),(("pieces":Str),x2),(("most":Str),x3),(("steps":Str),x4)]=some (x2:D):=rfl
theorem lf3:List.lookup ("most":Str) [(("plan":Str),x0),(("numbers":Str),x1),(("pieces":Str),x2),(("most":Str),x3),(("steps":Str),x4)]=some (x3:D):=rfl
theorem lf4:List.lookup ("steps":Str) [(("plan":Str),x0),(("numbers":Str),x1),(("pieces":Str),x2),(("most":Str),x3),(("steps":Str),x4)]=some (x4:D):=rfl
theorem lfm:List.lookup ("note_step":Str) [(("plan":Str),x0),(("numbers":Str),x1),(("pieces":Str),x2),(("most":Str),x3),(("steps":Str),x4)]=(none:Option D):=rfl
theorem lfl:List.lookup ("look":Str) [(("plan":Str),x0),(("numbers":Str),x1),(("pieces":Str),x2),(("most":Str),x3),(("steps":Str),x4)]=(none:Option D):=rfl
theorem eR{Q:DK}{E:DX}{pl:List Int}{v:Int}(hc:c.most<=10000)(h1:(nt c pl v s).1=true->Q .non (wM ad k c pD (nt c pl v s).2 M))(h2:(nt c pl v s).1=false->E ad.C_Dry (wM ad k c pD (nt c pl v s).2 M)):
  oY ad [.ref k.a,plD pl,.int v] (wM ad k c pD s M) Q E:=by
 unfold nt at h1 h2;simp! [u_q3,ur,wM_a,zH,lf3,lf4,zM,List.length_map]
 split
 ·rename_i e
  have:¬s.steps.length<c.most:=by lia
  rw [if_neg this] at h2;exact dk (h2 rfl)
 ·rename_i e
  have hl:s.steps.length<c.most:=by lia
  rw [if_pos hl] at h1;refine ⟨szl (by decide),fP (by lia),ay ?_⟩
  have:=h1 rfl;rw [<- u3] at this;simpa [zM] using this
end
end Tw
namespace L3
open PySem L2
def iP:Nat->List D->List D
 |_,[]=>[]
 |k,x::xs=>.tup [.int (k:Nat),x]::iP (k+1) xs
theorem nH:∀(xs:List D) (k:Nat),(xs.zipIdx k).map (fun p=>D.tup [.int (p.2:Nat),p.1])=iP k xs
 |[],_=>rfl
 |x::xs,k=>by rw [List.zipIdx_cons,List.map_cons,nH xs (k+1)];rfl
theorem enumD_eq(xs:List D):nN xs=iP 0 xs:=nH xs 0
theorem bG{xs:List D}{M:Mem}:DIt.ok ⟨xs,[]⟩ M:=fun _ h=>by cases h
end L3
namespace Tw
open PySem L2 L3
mutual
def OkR(names:List Str)(m many:Int):Rw->Prop
 |.ifr x a b=>x∈names/\cC names m many a/\cC names m many b
 |.again x a=>x∈names/\cC names m many a
 |.put x k=>RwOk names m many (.put x k)
 |.take x k=>RwOk names m many (.take x k)
 |.pick x k=>RwOk names m many (.pick x k)
 |.two w x y z=>RwOk names m many (.two w x y z)
def cC(names:List Str)(m many:Int):List Rw->Prop
 |[]=>True
 |r::rs=>OkR names m many r/\cC names m many rs
end
mutual
def hR:Rw->Nat
 |.ifr _ a b=>1+max (fv a) (fv b)
 |.again _ a=>1+fv a
 |_=>0
def fv:List Rw->Nat
 |[]=>0
 |r::rs=>max (hR r) (fv rs)
end
section
variable {c:Cf}{names:List Str}
theorem D3{n:gm}(hn:NOk names c.m n){x:Str}{v:Int}(hv:0<=v/\v<c.m):NOk names c.m (sN n x v):=by
 refine ⟨by rw [x8];exact hn.keys,fun p hp=>?_⟩
 simp only [sN,List.mem_map] at hp;obtain ⟨q,hq,rfl⟩:=hp
 split
 ·exact hv
 ·exact hn.rng q hq
theorem iu{pl:List Int}{v:Int}{s:Sx}:(nt c pl v s).2.nums=s.nums:=by unfold nt;split<;>rfl
theorem i8(hc:COk c){r:Rw}(hr:RwOk names c.m c.pieces.length r){pl:List Int}{s:Sx}(hn:NOk names c.m s.nums):NOk names c.m (dO c r pl s).2.nums:=by
 unfold dO
 split
 ·exact D3 hn (z8 hc hn hr)
 ·exact hn
theorem qU{x:Str}{pl:List Int}{body:Nat->Sx->Bool×Sx}(hb:∀t s,NOk names c.m s.nums->NOk names c.m (body t s).2.nums):∀(f t:Nat) (s:Sx),NOk names c.m s.nums->NOk names c.m (bS c x pl body f t s).2.nums
 |0,_,s,h=>h
 |f+1,t,s,h=>by
  have h1:NOk names c.m (nt c (pl++[(t:Int)]) (lk s.nums x) s).2.nums:=by rw [iu];exact h
  unfold bS
  split
  ·split
   ·split
    ·exact qU hb f (t+1) _ (hb t _ h1)
    ·exact hb t _ h1
   ·exact h1
  ·exact h1
mutual
theorem kQ(hc:COk c):∀(r:Rw),OkR names c.m c.pieces.length r->∀(pl:List Int) (s:Sx),NOk names c.m s.nums->NOk names c.m (exR c r pl s).2.nums
 |.ifr x a b,h,pl,s,hn=>by
  have h1:NOk names c.m (nt c pl (lk s.nums x) s).2.nums:=by rw [iu];exact hn
  simp only [OkR] at h;unfold exR
  split
  ·split
   ·exact cG hc a h.2.1 _ _ _ h1
   ·exact cG hc b h.2.2 _ _ _ h1
  ·exact h1
 |.again x a,h,pl,s,hn=>by
  simp only [OkR] at h;unfold exR;exact qU (fun t s hs=>cG hc a h.2 _ _ _ hs) _ _ _ hn
 |.put x k,h,pl,s,hn=>by rw [bh rfl];exact i8 hc (by simpa only [OkR] using h) hn
 |.take x k,h,pl,s,hn=>by rw [bh rfl];exact i8 hc (by simpa only [OkR] using h) hn
 |.pick x k,h,pl,s,hn=>by rw [bh rfl];exact i8 hc (by simpa only [OkR] using h) hn
 |.two w x y z,h,pl,s,hn=>by rw [bh rfl];exact i8 hc (by simpa only [OkR] using h) hn
theorem cG(hc:COk c):∀(rs:List Rw),cC names c.m c.pieces.length rs->∀(pl:List Int) (j:Nat) (s:Sx),NOk names c.m s.nums->NOk names c.m (bp c rs pl j s).2.nums
 |[],_,_,_,s,hn=>by simpa only [bp] using hn
 |r::rs,h,pl,j,s,hn=>by
  simp only [cC] at h;unfold bp
  split
  ·exact cG hc rs h.2 _ _ _ (kQ hc r h.1 _ _ hn)
  ·exact kQ hc r h.1 _ _ hn
end
end
def Post(ad:Ad)(k:Wk)(c:Cf)(pD:D)(r:Bool×Sx)(M:Mem)(d:D)(Q:DK)(E:DX):Prop:=(r.1=true->Q d (wM ad k c pD r.2 M))/\(r.1=false->E ad.C_Dry (wM ad k c pD r.2 M))
theorem calls_post{ad:Ad}{k:Wk}{c:Cf}{pD:D}{r:Bool×Sx}{M M0:Mem}{d:D}{T:Sd}{ds:List D}{Q:DK}{E:DX}(hm:∀Q' E',Post ad k c pD r M d Q' E'->T ds M0 Q' E'){b:BxQ E Q}(h:Post ad k c pD r M d Q E):calls T E ds M0 Q b:=
 calls_of fun Q' E' hq he=>hm Q' E' ⟨fun e=>hq _ _ (h.1 e),fun e=>he _ _ (h.2 e)⟩
theorem Post.drp{ad:Ad}{k:Wk}{c:Cf}{pD:D}{r:Bool×Sx}{M:Mem}{d:D}{Q:DK}{E:DX}(h:Post ad k c pD r M d Q E):Post ad k c pD r M d (L3.drp Q) (aN E):=⟨fun e=>ay (h.1 e),fun e=>dk (h.2 e)⟩
section
variable {ad:Ad}{k:Wk}{c:Cf}{s:Sx}{M:Mem}{names:List Str}{rows0:List Rw}{mk:Str}
theorem k4{Q:DK}{E:DX}{pl:List Int}{x:Str}(hc:COk c)(hn:NOk names c.m s.nums)(hx:x∈names)(h:Post ad k c (planD c names rows0 mk) (nt c pl (lk s.nums x) s) M (.int (lk s.nums x)) Q E):
  ko ad [.ref k.a,plD pl,.str x] (wM ad k c (planD c names rows0 mk) s M) Q E:=by
 have hv:=hn.at hx;have key:∀v:Int,v=lk s.nums x->calls (oY ad) (aN E) [.ref k.a,plD pl,.int v] (wM ad k c (planD c names rows0 mk) s M) (fun _ M1=>L3.drp Q (.int v) M1) ⟨⟩:=by
  rintro v rfl
  exact calls_post (d:=.non) (fun Q' E' z=>eR hc.most z.1 z.2) ⟨fun e=>ay (h.1 e),fun e=>dk (h.2 e)⟩
 simp! [DV,nO,wM_a,jn,wA,lfm,cF,hv.1,Option.map_some]
 split
 ·rename_i e
  exact key 0 (by unfold lk;rw [if_pos e])
 ·rename_i e
  exact key 1 (by unfold lk;rw [if_neg e])
theorem cU{n:Nat}{Q:DK}{E:DX}{pl:List Int}{r:Rw}(hnl:names.length<=1000)(hc:COk c)(hn:NOk names c.m s.nums)(hr:RwOk names c.m c.pieces.length r)(h:Post ad k c (planD c names rows0 mk) (dO c r pl s) M .non Q E):
  S_q40 ad (n+1) [.ref k.a,r.d,plD pl] (wM ad k c (planD c names rows0 mk) s M) Q E:=by
 have fin:calls (nE ad) (aN E) [planD c names rows0 mk,.ref k.dn,.tup (c.pieces.map D.int),r.d] (wM ad k c (planD c names rows0 mk) s M) (fun d M'=>frz d M' fun x M1=>
   hName 3 x [some (.ref k.a),some r.d,some (plD pl),none] M1 fun δ M2=>aw (ci (eD ad.C_Walk "note_step" (oY ad) (aN E) 3 (aa 0) (a9 (aa 2) (a9 (aa 3) dNil))))
    (aF (aa 3) (fG (dL ad.C_Walk (aa 0) "numbers") (dOp aL (aa 1) (dC (.int 1))))) { nx:=fun _ M'=>L3.drp Q .non M',rt:=L3.drp Q } δ M2) ⟨⟩:=by
  refine bv (d:=.int (num c s.nums r)) (fun _ _ q=>iY hc hn hr jn q) ?_;simp! [wM_a,lfm];refine calls_post (r:=nt c pl (num c s.nums r) s) (d:=.non) (fun Q' E' z=>eR hc.most z.1 z.2) ?_;unfold dO at h;unfold nt;have hkeys:oj r∈s.nums.map (·.1):=by
   rw [hn.keys];cases r with
   |put x k=>exact hr.1
   |take x k=>exact hr.1
   |pick x k=>exact hr.1
   |two w x y z=>exact hr.2.1
   |ifr=>exact hr.elim
   |again=>exact hr.elim
  split
  ·rename_i hl
   rw [if_pos hl] at h;refine ⟨fun _=>?_,fun e=>by simp at e⟩
   have h2:=h.1 rfl;have e2:wM ad k c (planD c names rows0 mk) ⟨sN s.nums (oj r) (num c s.nums r),s.steps++[(pl,num c s.nums r)]⟩ M=(wM ad k c (planD c names rows0 mk) ⟨s.nums,s.steps++[(pl,num c s.nums r)]⟩ M).upd k.dn (.dK (cJ (kvD s.nums) (Sum.inr (oj r)) (.int (num c s.nums r)))):=by
    rw [i6 hkeys,yG]
   rw [e2] at h2;have hlen:(kvD s.nums).length<sizeLine:=by rw [kvD,List.length_map,<- List.length_map (f:=(·.1)),hn.keys];exact fP (by lia)
   cases r with
   |put x kk=>simp! [Rw.d,wM_a,jn,wA,atI_1];exact ⟨hlen,ay h2⟩
   |take x kk=>simp! [Rw.d,wM_a,jn,wA,atI_1];exact ⟨hlen,ay h2⟩
   |pick x kk=>simp! [Rw.d,wM_a,jn,wA,atI_1];exact ⟨hlen,ay h2⟩
   |two w x y z=>simp! [Rw.d,wM_a,jn,wA,atI_1];exact ⟨hlen,ay h2⟩
   |ifr=>exact hr.elim
   |again=>exact hr.elim
  ·rename_i hl
   rw [if_neg hl] at h;exact ⟨fun e=>by simp at e,fun _=>dk (h.2 rfl)⟩
 cases r with
 |put x kk=>simp! [jY,fD,Rw.d,wM_a,lf0,wA,lf2,atI_0];exact fin
 |take x kk=>simp! [jY,fD,Rw.d,wM_a,lf0,wA,lf2,atI_0];exact fin
 |pick x kk=>simp! [jY,fD,Rw.d,wM_a,lf0,wA,lf2,atI_0];exact fin
 |two w x y z=>
  have hw1:((w=Str.ofString "if")=False):=by rcases hr.1 with rfl|rfl|rfl|rfl<;>exact eq_false (by decide +kernel)
  have hw2:((w=Str.ofString "again")=False):=by rcases hr.1 with rfl|rfl|rfl|rfl<;>exact eq_false (by decide +kernel)
  simp! [jY,fD,Rw.d,wM_a,lf0,wA,lf2,atI_0,hw1,hw2];exact fin
 |ifr=>exact hr.elim
 |again=>exact hr.elim
end
end Tw
namespace Tw
open PySem L2 L3
section
variable {c:Cf}
def Gr(c:Cf)(s s':Sx):Prop:=s.steps.length<=s'.steps.length/\(s.steps.length<=c.most->s'.steps.length<=c.most)
theorem Gr.refl{s:Sx}:Gr c s s:=⟨Nat.le_refl _,id⟩
theorem Gr.trans{s s1 s2:Sx}(a:Gr c s s1)(b:Gr c s1 s2):Gr c s s2:=⟨Nat.le_trans a.1 b.1,fun h=>b.2 (a.2 h)⟩
theorem nt_gr{pl:List Int}{v:Int}{s:Sx}:Gr c s (nt c pl v s).2:=by
 unfold nt
 split
 ·refine ⟨by simp,fun _=>?_⟩;simp;lia
 ·exact Gr.refl
theorem il{r:Rw}{pl:List Int}{s:Sx}:Gr c s (dO c r pl s).2:=by
 unfold dO
 split
 ·refine ⟨by simp,fun _=>?_⟩;simp;lia
 ·exact Gr.refl
theorem qa{x:Str}{pl:List Int}{body:Nat->Sx->Bool×Sx}(hb:∀t s,Gr c s (body t s).2):∀(f t:Nat) (s:Sx),Gr c s (bS c x pl body f t s).2
 |0,_,s=>Gr.refl
 |f+1,t,s=>by
  unfold bS
  split
  ·split
   ·split
    ·exact nt_gr.trans ((hb t _).trans (qa hb f (t+1) _))
    ·exact nt_gr.trans (hb t _)
   ·exact nt_gr
  ·exact nt_gr
mutual
theorem jw:∀(r:Rw) (pl:List Int) (s:Sx),Gr c s (exR c r pl s).2
 |.ifr x a b,pl,s=>by
  unfold exR
  split
  ·split
   ·exact nt_gr.trans (cq a _ _ _)
   ·exact nt_gr.trans (cq b _ _ _)
  ·exact nt_gr
 |.again x a,pl,s=>by
  unfold exR;exact qa (fun t s=>cq a _ _ _) _ _ _
 |.put x k,pl,s=>by rw [bh rfl];exact il
 |.take x k,pl,s=>by rw [bh rfl];exact il
 |.pick x k,pl,s=>by rw [bh rfl];exact il
 |.two w x y z,pl,s=>by rw [bh rfl];exact il
theorem cq:∀(rs:List Rw) (pl:List Int) (j:Nat) (s:Sx),Gr c s (bp c rs pl j s).2
 |[],_,_,s=>by unfold bp;exact Gr.refl
 |r::rs,pl,j,s=>by
  unfold bp
  split
  ·exact (jw r _ _).trans (cq rs _ _ _)
  ·exact jw r _ _
end
end
theorem eZ{pl:List Int}{v:Int}:D.tup (pl.map D.int++[D.int v])=plD (pl++[v]):=by simp [plD]
section
variable {ad:Ad}{k:Wk}{c:Cf}{names:List Str}{rows0:List Rw}{mk:Str}
def rq(ad:Ad)(k:Wk)(c:Cf)(names:List Str)(rows0:List Rw)(mk:Str)(n:Nat):Prop:=∀(rs:List Rw) (pl:List Int) (s:Sx) (M:Mem) (Q:DK) (E:DX),cC names c.m c.pieces.length rs->3*fv rs+2<=n->pl.length+2*fv rs+2<=1000->NOk names c.m s.nums->s.steps.length<=c.most->
 Post ad k c (planD c names rows0 mk) (bp c rs pl 0 s) M .non Q E->S_q37 ad n [.ref k.a,.tup (aB rs),plD pl] (wM ad k c (planD c names rows0 mk) s M) Q E
def Al(ad:Ad)(k:Wk)(c:Cf)(names:List Str)(rows0:List Rw)(mk:Str)(n:Nat):Prop:=∀(r:Rw) (pl:List Int) (s:Sx) (M:Mem) (Q:DK) (E:DX),OkR names c.m c.pieces.length r->3*hR r+1<=n->pl.length+2*hR r+1<=1000->NOk names c.m s.nums->s.steps.length<=c.most->
 Post ad k c (planD c names rows0 mk) (exR c r pl s) M .non Q E->S_q40 ad n [.ref k.a,r.d,plD pl] (wM ad k c (planD c names rows0 mk) s M) Q E
def PIf(ad:Ad)(k:Wk)(c:Cf)(names:List Str)(rows0:List Rw)(mk:Str)(n:Nat):Prop:=∀(x:Str) (a b:List Rw) (pl:List Int) (s:Sx) (M:Mem) (Q:DK) (E:DX),OkR names c.m c.pieces.length (.ifr x a b)->3*hR (.ifr x a b)<=n->pl.length+2*hR (.ifr x a b)+1<=1000->NOk names c.m s.nums->s.steps.length<=c.most->
 Post ad k c (planD c names rows0 mk) (exR c (.ifr x a b) pl s) M .non Q E->S_q42 ad n [.ref k.a,(Rw.ifr x a b).d,plD pl] (wM ad k c (planD c names rows0 mk) s M) Q E
def PAg(ad:Ad)(k:Wk)(c:Cf)(names:List Str)(rows0:List Rw)(mk:Str)(n:Nat):Prop:=∀(x:Str) (a:List Rw) (pl:List Int) (s:Sx) (M:Mem) (Q:DK) (E:DX),OkR names c.m c.pieces.length (.again x a)->3*hR (.again x a)<=n->pl.length+2*hR (.again x a)+1<=1000->NOk names c.m s.nums->s.steps.length<=c.most->
 Post ad k c (planD c names rows0 mk) (exR c (.again x a) pl s) M .non Q E->S_q34 ad n [.ref k.a,(Rw.again x a).d,plD pl] (wM ad k c (planD c names rows0 mk) s M) Q E
theorem sD(hc:COk c){n:Nat}(ih:Al ad k c names rows0 mk n):rq ad k c names rows0 mk (n+1):=by
 intro rs pl s M Q E hok hn hpl hno hst h;simp! [u_q37,T_q37,dFor,enumD_eq]
 refine forD_inv (fun xs δ M'=>∃(rs':List Rw) (j:Nat) (s':Sx) (c3 c4:Option D),xs=iP j (aB rs')/\δ=[some (.ref k.a),some (.tup (aB rs)),some (plD pl),c3,c4]/\M'=wM ad k c (planD c names rows0 mk) s' M/\cC names c.m c.pieces.length rs'/\3*fv rs'+2<=n+1/\pl.length+2*fv rs'+2<=1000/\NOk names c.m s'.nums/\s'.steps.length<=c.most/\
  Post ad k c (planD c names rows0 mk) (bp c rs' pl j s') M .non Q E) (fun _ _ _ _=>bG) ?_ ?_ _ _ _ ⟨rs,0,s,none,none,rfl,rfl,rfl,hok,hn,hpl,hno,hst,h⟩
 ·rintro δ M' ⟨rs',j,s',c3,c4,e1,rfl,rfl,hok,hn,hpl,hno,hst,h⟩
  cases rs' with
  |nil=>exact ay (by simpa [bp] using h.1 (by simp [bp]))
  |cons r rs=>simp [aB,iP] at e1
 ·rintro x xs δ M' ⟨rs',j,s',c3,c4,e1,rfl,rfl,hok,hn,hpl,hno,hst,h⟩ D' hnx _ _ _
  cases rs' with
  |nil=>simp [aB,iP] at e1
  |cons r rs'=>
   simp only [aB,iP,List.cons.injEq] at e1;obtain ⟨rfl,rfl⟩:=e1;simp only [cC] at hok;have h1:hR r<=fv (r::rs')/\fv rs'<=fv (r::rs'):=by simp only [fv];lia
   simp! [plD,List.length_append,List.length_map];refine ⟨szl (by decide),szl (by lia),?_⟩
   rw [eZ];refine calls_post (r:=exR c r (pl++[(j:Int)]) s') (d:=.non) (fun Q' E' z=>ih r (pl++[(j:Int)]) s' M Q' E' hok.1 (by lia) (by simp;lia) hno hst z) ?_
   simp only [bp] at h;cases hb:(exR c r (pl++[(j:Int)]) s').1 with
   |true=>
    rw [if_pos hb] at h;refine ⟨fun _=>hnx _ _ ⟨rs',j+1,_,_,_,rfl,rfl,rfl,hok.2,by lia,by lia,kQ hc r hok.1 _ _ hno,(jw r _ _).2 hst,h⟩,fun e=>by rw [hb] at e;cases e⟩
   |false=>
    rw [if_neg (by rw [hb];simp)] at h
    exact ⟨fun e=>(by rw [hb] at e;cases e),fun _=>dk (h.2 hb)⟩
theorem vw(hnl:names.length<=1000)(hc:COk c){n:Nat}(ihf:PIf ad k c names rows0 mk n)(iha:PAg ad k c names rows0 mk n):Al ad k c names rows0 mk (n+1):=by
 intro r pl s M Q E hok hn hpl hno hst h;cases r with
 |put x kk=>rw [bh rfl] at h;exact cU hnl hc hno (by simpa only [OkR] using hok) h
 |take x kk=>rw [bh rfl] at h;exact cU hnl hc hno (by simpa only [OkR] using hok) h
 |pick x kk=>rw [bh rfl] at h;exact cU hnl hc hno (by simpa only [OkR] using hok) h
 |two w x y z=>rw [bh rfl] at h;exact cU hnl hc hno (by simpa only [OkR] using hok) h
 |ifr x a b=>
  have hf:=fun Q' E' z=>ihf x a b pl s M Q' E' hok (by lia) hpl hno hst z
  simp only [Rw.d] at hf;simp! [jY,fD,Rw.d,atI_0];exact calls_post hf h.drp
 |again x a=>
  have hf:=fun Q' E' z=>iha x a pl s M Q' E' hok (by lia) hpl hno hst z
  simp only [Rw.d] at hf;simp! [jY,fD,Rw.d,atI_0];exact calls_post hf h.drp
theorem yu(hc:COk c){n:Nat}(ih:rq ad k c names rows0 mk n):PIf ad k c names rows0 mk (n+1):=by
 intro x a b pl s M Q E hok hn hpl hno hst h;simp only [OkR] at hok;simp only [hR] at hn hpl;simp! [u_q42,T_q42,Rw.d,wM_a,lfl,atI_1,atI_2,atI_3];refine calls_post (r:=nt c pl (lk s.nums x) s) (d:=.int (lk s.nums x)) (fun Q' E' z=>k4 hc hno hok.1 z) ?_;have hl:lk s.nums x=0\/lk s.nums x=1:=by unfold lk;split<;>simp
 have hno1:NOk names c.m (nt c pl (lk s.nums x) s).2.nums:=by rw [iu];exact hno
 have hst1:=(nt_gr (c:=c) (pl:=pl) (v:=lk s.nums x) (s:=s)).2 hst;unfold exR at h;cases hb:(nt c pl (lk s.nums x) s).1 with
 |false=>
  rw [if_neg (by rw [hb];simp)] at h
  exact ⟨fun e=>(by rw [hb] at e;cases e),fun _=>dk (h.2 hb)⟩
 |true=>
  rw [if_pos hb] at h;refine ⟨fun _=>?_,fun e=>by rw [hb] at e;cases e⟩
  rcases hl with hl|hl
  ·rw [if_neg (by rw [hl];decide)] at h
   rw [hl] at h hno1 hst1 ⊢;simp! [atI_2,atI_3,plD,List.length_append,List.length_map,show ((0:Int)=1)=False from eq_false (by decide)]
   refine ⟨szl (by decide),szl (by lia),?_⟩
   rw [eZ];exact calls_post (fun Q' E' z=>ih b (pl++[0]) _ M Q' E' hok.2.2 (by lia) (by simp;lia) hno1 hst1 z) h.drp
  ·rw [if_pos hl] at h
   rw [hl] at h hno1 hst1 ⊢;simp! [atI_2,atI_3,plD,List.length_append,List.length_map];refine ⟨szl (by decide),szl (by lia),?_⟩
   rw [eZ];exact calls_post (fun Q' E' z=>ih a (pl++[1]) _ M Q' E' hok.2.1 (by lia) (by simp;lia) hno1 hst1 z) h.drp
end
end Tw
namespace Tw
open PySem L2 L3
section
variable {ad:Ad}{k:Wk}{c:Cf}{names:List Str}{rows0:List Rw}{mk:Str}
theorem pC(hc:COk c){n:Nat}(ih:rq ad k c names rows0 mk n):PAg ad k c names rows0 mk (n+1):=by
 intro x a pl s M Q E hok hn hpl hno hst h;simp only [OkR] at hok;simp only [hR] at hn hpl;simp! [u_q34,T_q34,Rw.d,dWhile];refine ⟨c.most+1,?_⟩;unfold exR at h
 have key:∀(f t:Nat) (s:Sx) (tc:eI) (tb:aC) (DD:DEnds) (b:BxW tc tb DD),NOk names c.m s.nums->s.steps.length<=c.most->c.most<s.steps.length+f->
   tc=aK (dOp dz (ar (eD ad.C_Walk "look" (ko ad) (aN E) 3 (aa 0) (a9 (dOp bN (aa 2) (bL (a9 (aa 3) dNil))) (a9 (dOp aL (aa 1) (dC (.int 1))) dNil)))) (dC (.int 1)))->
   tb=aw (ci (dCall (S_q37 ad n) (aN E) 3 (a9 (aa 0) (a9 (dOp aL (aa 1) (dC (.int 2))) (a9 (dOp bN (aa 2) (bL (a9 (aa 3) dNil))) dNil))))) (wP 3 (dC (.int 1)) uV)->
   DD.nx=(fun _ M'=>L3.drp Q .non M')->
   Post ad k c (planD c names rows0 mk) (bS c x pl (fun t s=>bp c a (pl++[(t:Int)]) 0 s) f t s) M .non Q E->
   whileD tc tb DD b f [some (.ref k.a),some (.tup [.str "again",.str x,.tup (aB a)]),some (plD pl),some (.int (t:Int))] (wM ad k c (planD c names rows0 mk) s M):=by
  intro f
  induction f with
  |zero=>intro t s tc tb DD b hno hst hf;lia
  |succ f ihf=>
   intro t s tc tb DD b hno hst hf htc htb hDD h;unfold whileD;subst htc;simp! [wM_a,lfl,atI_1,plD,List.length_append,List.length_map];refine ⟨szl (by decide),szl (by lia),?_⟩
   rw [eZ];refine calls_post (r:=nt c (pl++[(t:Int)]) (lk s.nums x) s) (d:=.int (lk s.nums x)) (fun Q' E' z=>k4 hc hno hok.1 z) ?_;have hl:lk s.nums x=0\/lk s.nums x=1:=by unfold lk;split<;>simp
   have hno1:NOk names c.m (nt c (pl++[(t:Int)]) (lk s.nums x) s).2.nums:=by rw [iu];exact hno
   have hst1:=(nt_gr (c:=c) (pl:=pl++[(t:Int)]) (v:=lk s.nums x) (s:=s)).2 hst;unfold bS at h;cases hb:(nt c (pl++[(t:Int)]) (lk s.nums x) s).1 with
   |false=>
    rw [if_neg (by rw [hb];simp)] at h
    exact ⟨fun e=>(by rw [hb] at e;cases e),fun _=>dk (h.2 hb)⟩
   |true=>
    rw [if_pos hb] at h;refine ⟨fun _=>?_,fun e=>by rw [hb] at e;cases e⟩
    have hlen:(nt c (pl++[(t:Int)]) (lk s.nums x) s).2.steps.length=s.steps.length+1:=by
     unfold nt at hb ⊢
     split at hb
     ·rename_i q;rw [if_pos q];simp
     ·cases hb
    rcases hl with hl|hl
    ·rw [if_neg (by rw [hl];decide)] at h
     rw [hl] at h ⊢;simp! [show ((0:Int)=1)=False from eq_false (by decide)]
     rw [hDD];rw [hl] at hb;exact ay (h.1 hb)
    ·rw [if_pos hl] at h
     rw [hl] at h hno1 hst1 hlen ⊢;simp! [];subst htb;simp! [atI_2,plD,List.length_append,List.length_map];refine ⟨szl (by decide),szl (by lia),?_⟩
     rw [eZ];refine calls_post (r:=bp c a (pl++[(t:Int)]) 0 (nt c (pl++[(t:Int)]) 1 s).2) (fun Q' E' z=>ih a (pl++[(t:Int)]) _ M Q' E' hok.2 (by lia) (by simp;lia) hno1 hst1 z) ?_
     have hg:=cq (c:=c) a (pl++[(t:Int)]) 0 (nt c (pl++[(t:Int)]) 1 s).2;cases hb2:(bp c a (pl++[(t:Int)]) 0 (nt c (pl++[(t:Int)]) 1 s).2).1 with
     |true=>
      rw [if_pos hb2] at h;refine ⟨fun _=>?_,fun e=>by rw [hb2] at e;cases e⟩
      simp! [];exact ihf (t+1) _ _ _ _ _ (cG hc a hok.2 _ _ _ hno1) (hg.2 hst1) (by have:=hg.1;lia) rfl rfl hDD h
     |false=>
      rw [if_neg (by rw [hb2];simp)] at h
      exact ⟨fun e=>(by rw [hb2] at e;cases e),fun _=>dk (h.2 hb2)⟩
 exact key (c.most+1) 0 s _ _ _ _ hno hst (by lia) rfl rfl rfl h
theorem nP(hnl:names.length<=1000)(hc:COk c):∀n:Nat,rq ad k c names rows0 mk n/\Al ad k c names rows0 mk n/\PIf ad k c names rows0 mk n/\PAg ad k c names rows0 mk n
 |0=>⟨fun rs pl s M Q E _ h=>by lia,fun r pl s M Q E _ h=>by lia,fun x a b pl s M Q E _ h=>by simp only [hR] at h;lia,fun x a pl s M Q E _ h=>by simp only [hR] at h;lia⟩
 |n+1=>by
  obtain ⟨h1,h2,h3,h4⟩:=nP hnl hc n;exact ⟨sD hc h2,vw hnl hc h3 h4,yu hc h1,pC hc h1⟩
end
end Tw
namespace Tw
open PySem L2 L3
theorem mv:∀(names:List Str) (nums:List Int) (acc:gm),names.length=nums.length->(acc.map (·.1)++names).Nodup->
  ((names.map (fun x=>(Sum.inr x:aT))).zip (nums.map D.int)).foldl (fun a p=>cJ a p.1 p.2) (kvD acc)=kvD (acc++names.zip nums)
 |[],nums,acc,_,_=>by simp
 |x::names,[],acc,h,_=>by simp at h
 |x::names,v::nums,acc,h,nd=>by
  have hx:x∉acc.map (·.1):=by
   have:=(List.nodup_append.mp nd).2.2;exact fun hm=>this x hm x (by simp) rfl
  have hany:((kvD acc).any fun kv=>decide (kv.1=Sum.inr x))=false:=by
   rw [List.any_eq_false];intro p hp;simp only [kvD,List.mem_map] at hp;obtain ⟨q,hq,rfl⟩:=hp;simp only [decide_eq_true_eq];intro e;have:q.1=x:=Sum.inr.inj e;exact hx (by rw [<- this];exact List.mem_map_of_mem hq)
  simp only [List.map_cons,List.zip_cons_cons,List.foldl_cons];have e1:cJ (kvD acc) (Sum.inr x) (.int v)=kvD (acc++[(x,v)]):=by
   unfold cJ;rw [hany];simp [kvD]
  rw [e1,mv names nums (acc++[(x,v)]) (by simpa using h) (by simpa using nd)]
  simp
theorem keysOf_strs:∀names:List Str,dG (names.map D.str)=some (names.map fun x=>(Sum.inr x:aT))
 |[]=>rfl
 |x::names=>by simp [dG,gG,keysOf_strs names]
theorem gL{names:List Str}{nums:List Int}(h:names.length=nums.length)(nd:names.Nodup):eE (names.map fun x=>(Sum.inr x:aT)) (nums.map D.int)=kvD (names.zip nums):=by
 have:=mv names nums [] h (by simpa using nd)
 simpa [eE,kvD] using this
theorem dp1{d:D}:dQ "plan" d []=[(("plan":Str),d)]:=rfl
theorem dp2{a d:D}:dQ "numbers" d [(("plan":Str),a)]=[(("plan":Str),a),(("numbers":Str),d)]:=rfl
theorem dp3{a b d:D}:dQ "pieces" d [(("plan":Str),a),(("numbers":Str),b)]=[(("plan":Str),a),(("numbers":Str),b),(("pieces":Str),d)]:=rfl
theorem dp4{a b e d:D}:dQ "most" d [(("plan":Str),a),(("numbers":Str),b),(("pieces":Str),e)]=[(("plan":Str),a),(("numbers":Str),b),(("pieces":Str),e),(("most":Str),d)]:=rfl
theorem dp5{a b e g d:D}:dQ "steps" d [(("plan":Str),a),(("numbers":Str),b),(("pieces":Str),e),(("most":Str),g)]=[(("plan":Str),a),(("numbers":Str),b),(("pieces":Str),e),(("most":Str),g),(("steps":Str),d)]:=rfl
def standD(nums pieces:List Int):D:=.tup [.tup (nums.map D.int),.tup (pieces.map D.int)]
section
variable {ad:Ad}{c:Cf}{names:List Str}{rows:List Rw}{mk:Str}{M:Mem}{nums:List Int}
theorem si{a:Addr}{Q:DK}{E:DX}(ha:M a=none)(hl:names.length=nums.length)(nd:names.Nodup)(h0:0<names.length)(h1:names.length<=1000)
  (h:∀(k:Wk),k.a=a->M k.dn=none->M k.ls=none->Q .non (wM ad k c (planD c names rows mk) ⟨names.zip nums,[]⟩ M)):
  yU ad [.ref a,planD c names rows mk,standD nums c.pieces,.int (c.most:Nat)] (M.upd a (.ins ad.C_Walk [])) Q E:=by
 simp! [u_q6,uh,planD,standD,Mem.upd_upd,atI_0,atI_1,keysOf_strs,List.length_map,dp1];refine ⟨by decide,hl,h0,h1,fun dn hdn=>?_⟩
 have n1:a≠dn:=Mem.ne Mem.upd_same hdn;have hdn':M dn=none:=by rw [ao (Ne.symm n1)] at hdn;exact hdn
 simp! [ao n1,Mem.upd_same,dp2,bd (Ne.symm n1),Mem.upd_upd,gL hl nd];refine ⟨by simp,?_⟩
 simp! [ao n1,Mem.upd_same,dp3,bd (Ne.symm n1),Mem.upd_upd];refine ⟨by simp,?_⟩
 simp! [ao n1,Mem.upd_same,dp4,bd (Ne.symm n1),Mem.upd_upd];refine ⟨by simp,szl (by simp),fun ls hls=>?_⟩
 have n2:a≠ls:=by
  intro e;subst e;rw [ao n1,Mem.upd_same] at hls;cases hls
 have n3:dn≠ls:=by
  intro e;subst e;rw [Mem.upd_same] at hls;cases hls
 have hls':M ls=none:=by rw [ao (Ne.symm n3),ao (Ne.symm n2)] at hls;exact hls
 simp! [ao n2,ao n1,Mem.upd_same,dp5];refine ⟨by simp,ay ?_⟩
 have:=h ⟨a,dn,ls,n1,n2,n3⟩ rfl hdn' hls';have e:wM ad ⟨a,dn,ls,n1,n2,n3⟩ c (planD c names rows mk) ⟨names.zip nums,[]⟩ M=(((M.upd a (.ins ad.C_Walk [("plan",planD c names rows mk),("numbers",.ref dn),("pieces",.tup (c.pieces.map D.int)),("most",.int (c.most:Nat))])).upd dn (.dK (kvD (names.zip nums)))).upd ls (.lst [])).upd a (.ins ad.C_Walk [("plan",planD c names rows mk),("numbers",.ref dn),("pieces",.tup (c.pieces.map D.int)),("most",.int (c.most:Nat)),("steps",.ref ls)]):=by
  unfold wM;rw [bd (Ne.symm n2),bd (Ne.symm n1),Mem.upd_upd];rfl
 rw [e] at this;exact this
def fq(c:Cf)(names:List Str)(rows:List Rw)(nums:List Int):Bool×Sx:=bp c rows [] 0 ⟨names.zip nums,[]⟩
def ou(names:List Str)(r:Bool×Sx):D:=if r.1=true then .tup (names.map fun x=>.int (nm r.2.nums x)) else .non
structure PlOk(c:Cf)(names:List Str)(rows:List Rw)(nums:List Int):Prop where
 co:COk c
 ln:names.length=nums.length
 nd:names.Nodup
 l0:0<names.length
 l1:names.length<=1000
 rng:∀v∈nums,0<=v/\v<c.m
 ok:cC names c.m c.pieces.length rows
 h:fv rows<=7
theorem ma:∀{names:List Str} {nums:List Int},names.length=nums.length->(names.zip nums).map (·.1)=names
 |[],[],_=>rfl
 |[],_::_,h=>by simp at h
 |_::_,[],h=>by simp at h
 |x::xs,v::vs,h=>by simp [ma (by simpa using h)]
theorem PlOk.nok(p:PlOk c names rows nums):NOk names c.m (names.zip nums):=⟨ma p.ln,fun q hq=>p.rng _ (List.of_mem_zip hq).2⟩
theorem t_{Q:DK}{E:DX}(p:PlOk c names rows nums)(h:∀l,M l=none->Q (.tup [.ref l,ou names (fq c names rows nums)]) (M.upd l (.lst (zM (fq c names rows nums).2.steps)))):
  nA ad [planD c names rows mk,standD nums c.pieces,.int (c.most:Nat)] M Q E:=by
 simp! [Cu,mx];intro a ha;refine calls_of fun Q' E' hq _=>si ha p.ln p.nd p.l0 p.l1 fun k hk hdn hls=>hq _ _ ?_;subst hk;have hsub:∀(s':Sx),∀b o,(M.upd k.ls (.lst (zM s'.steps))) b=some o->wM ad k c (planD c names rows mk) s' M b=some o:=by
  intro s' b o e
  by_cases h1:b=k.ls
  ·subst h1;rw [Mem.upd_same] at e;rw [zH];exact e
  ·rw [ao h1] at e
   have h2:b≠k.dn:=by rintro rfl;rw [hdn] at e;cases e
   have h3:b≠k.a:=by rintro rfl;rw [ha] at e;cases e
   unfold wM;rw [ao h1,ao h2,ao h3];exact e
 have hr:=(nP (ad:=ad) (k:=k) (rows0:=rows) (mk:=mk) p.l1 p.co 24).1 rows [] ⟨names.zip nums,[]⟩ M;unfold planD at hr;simp! [planD,atI_3];refine ⟨szl (by decide),?_⟩
 refine calls_of fun Q2 E2 hq2 he2=>hr Q2 E2 p.ok (by have:=p.h;lia) (by have:=p.h;simp;lia) p.nok (Nat.zero_le _) ⟨fun e=>hq2 _ _ ?_,fun e=>he2 _ _ ⟨rfl,?_⟩⟩
 ·have hn:NOk names c.m (fq c names rows nums).2.nums:=cG p.co rows p.ok [] 0 ⟨names.zip nums,[]⟩ p.nok
  have e':(fq c names rows nums).1=true:=e;simp! [wM_a,lf4,atI_1,bD]
  refine ce (fun xs acc δ M'=>∃n1 n2 c0,names=n1++n2/\xs=n2.map D.str/\acc=n1.map (fun x=>D.int (nm (fq c names rows nums).2.nums x))/\δ=[c0,some (.ref k.a)]/\M'=wM ad k c (planD c names rows mk) (fq c names rows nums).2 M)
   (fun _ _ _ _ _=>bG) ?_ ?_ ?_ _ _ _ _ ⟨[],names,none,rfl,rfl,rfl,rfl,rfl⟩
  ·rintro acc δ M' ⟨n1,n2,c0,e1,e2,rfl,rfl,rfl⟩
   have:n2=[]:=by cases n2 with|nil=>rfl|cons _ _=>simp at e2
   subst this;intro q hq;simp! [Mem.upd_upd,Mem.upd_del,ah hq];refine ⟨szl (by decide),⟨_,hsub _,?_⟩⟩
   have:=h k.ls hls;unfold ou at this;rw [if_pos e'] at this;have en:n1=names:=by simpa using e1.symm
   rw [en];exact this
  ·rintro x xs acc δ M' ⟨n1,n2,c0,e1,e2,rfl,rfl,rfl⟩ N hN _
   cases n2 with
   |nil=>simp at e2
   |cons y n2=>
    simp only [List.map_cons,List.cons.injEq] at e2;obtain ⟨rfl,rfl⟩:=e2;have hy:y∈names:=by rw [e1];simp
    simp! [wM_a,jn,wA,cF,(hn.at hy).1,Option.map_some];refine hN _ _ _ ?_ ⟨n1++[y],n2,_,by simp [e1],rfl,by simp,rfl,rfl⟩
    have hl:=congrArg List.length e1;have:=p.l1;simp at hl ⊢;exact fP (by lia)
  ·rintro x xs acc δ M' ⟨n1,n2,c0,e1,e2,rfl,rfl,rfl⟩
   have hl:=congrArg List.length e1;have:=p.l1;simp at hl ⊢;exact fP (by lia)
 ·have e':(fq c names rows nums).1=false:=e
  simp! [wM_a,lf4];refine ⟨szl (by decide),⟨_,hsub _,?_⟩⟩
  have:=h k.ls hls;unfold ou at this;rw [if_neg (by rw [e'];simp)] at this
  exact this
end
end Tw
namespace Tw
open PySem L2 L3
structure Pt where
 p:Addr
 q:Addr
 ne:p≠q
def Has(k:Pt)(b:Nat)(M:Mem):Prop:=∃(cells:List Int) (t h:Int),cells.length<=63/\0<=t/\t+b<=2 ^ 50/\M k.p=some (.lst [.ref k.q,.int t,.int h])/\M k.q=some (.lst (cells.map D.int))
def Dr(k:Pt)(b:Nat)(M M':Mem):Prop:=Has k b M'/\∀x,x≠k.p->x≠k.q->M' x=M x
section
variable {k:Pt}{b c:Nat}{M M1 M2:Mem}{l:Addr}{o:MO}
theorem Has.le(h:Has k b M)(e:c<=b):Has k c M:=by
 obtain ⟨cells,t,hh,a1,a2,a3,e1,e2⟩:=h;exact ⟨cells,t,hh,a1,a2,by lia,e1,e2⟩
theorem Dr.le(h:Dr k b M M1)(e:c<=b):Dr k c M M1:=⟨h.1.le e,h.2⟩
theorem Has.refl(h:Has k b M):Dr k b M M:=⟨h,fun _ _ _=>rfl⟩
theorem Dr.trans(x:Dr k b M M1)(y:Dr k c M1 M2):Dr k c M M2:=⟨y.1,fun z h1 h2=>(y.2 z h1 h2).trans (x.2 z h1 h2)⟩
theorem Has.nep(h:Has k b M)(hl:M l=none):l≠k.p/\l≠k.q:=by
 obtain ⟨cells,t,hh,_,_,_,e1,e2⟩:=h;exact ⟨fun e=>(by rw [e,e1] at hl;cases hl),fun e=>(by rw [e,e2] at hl;cases hl)⟩
theorem Has.upd(h:Has k b M)(h1:l≠k.p/\l≠k.q):Has k b (M.upd l o):=by
 obtain ⟨cells,t,hh,a1,a2,a3,e1,e2⟩:=h;exact ⟨cells,t,hh,a1,a2,a3,by rw [ao (Ne.symm h1.1)];exact e1,by rw [ao (Ne.symm h1.2)];exact e2⟩
theorem Dr.none(h0:Has k c M)(h:Dr k b M M1)(hl:M l=none):M1 l=none:=by
 have:=h0.nep hl;rw [h.2 l this.1 this.2];exact hl
end
theorem atL0{α:Type}{x:α}{xs:List α}:atI (x::xs) 0=some x:=by rw [atI_0];rfl
theorem cK{a m:Int}(h:0<m):0<=a % m/\a % m<m:=⟨Int.emod_nonneg _ (by lia),Int.emod_lt_of_pos _ h⟩
theorem u6{n:Nat}{i:Int}(h:0<=i)(h2:i<n):pJ n i=some i.toNat:=by unfold pJ;rw [if_pos h,if_pos h2]
theorem Dq:pJ 3 1=some 1:=rfl
theorem zQ:pJ 3 2=some 2:=rfl
section
variable {ad:Ad}{EE:DX}{D0:DEnds}{M:Mem}{k:Pt}
theorem v_{t cell many:Int}{x0:D}{c2 c5:Option D}(h0:0<many)(ht:0<=t)(ht2:t<2 ^ 51)(h:∀r,D0.rt (.int (r % many)) M):
  ia ad EE D0 [some x0,some (.int many),c2,some (.int t),some (.int cell),c5] M:=by
 simp! [];have a1:=cK (a:=cell) (m:=1000003) (by decide)
 have a2:=cK (a:=(cell % 1000003+1)*(7919*t*t+104729*t+12345)) (m:=2147483647) (by decide)
 exact ⟨by decide,.inl ⟨by decide,by decide⟩,.inr ⟨by lia,by lia⟩,.inl ⟨by decide,by decide⟩,.inl ⟨by lia,by lia⟩,by decide,.inl ⟨by lia,by lia⟩,.inl ⟨by decide,by decide⟩,by decide,by decide,⟨by decide,by decide⟩,h0,h _⟩
theorem sh{Q:DK}{E:DX}{b:Nat}{many:Int}(hp:Has k (b+1) M)(h0:0<many)(h1:many<2 ^ 62)(h:∀r M',0<=r->r<many->Dr k b M M'->Q (.int r) M'):bi ad [.ref k.p,.int many] M Q E:=by
 obtain ⟨cells,t,hh,a1,a2,a3,e1,e2⟩:=hp;have hne:=k.ne;have fin:∀(r t' h':Int) (M':Mem),(t'=t\/t'=t+1)->(∀x,x≠k.p->M' x=M x)->M' k.p=some (.lst [.ref k.q,.int t',.int h'])->drp Q (.int (r % many)) M':=fun r t' h' M' c1 c2 c3=>
  ay (h _ _ (cK h0).1 (cK h0).2 ⟨⟨cells,t',h',a1,by lia,by lia,c3,by rw [c2 _ (Ne.symm hne)];exact e2⟩,fun x h1 _=>c2 x h1⟩)
 have g1:∀o,(M.upd k.p o) k.q=some (.lst (cells.map D.int)):=fun o=>by rw [ao (Ne.symm hne)];exact e2
 rw [E7 (n:=0)];unfold my;have t12:fU ad (aN E) { nx:=fun _ M'=>drp Q .non M',rt:=drp Q } [some (.ref k.p),some (.int many),none,none,none,none] M:=by
  unfold fU mU mY qm pX;have t7:∀cell:Int,ia ad (aN E) { nx:=fun _ M'=>drp Q .non M',rt:=drp Q } [some (.ref k.p),some (.int many),none,some (.int t),some (.int cell),none] (M.upd k.p (.lst [.ref k.q,.int (t+1),.int hh])):=fun cell=>
   v_ h0 a2 (by lia) fun r=>fin r (t+1) hh _ (.inr rfl) (fun x hx=>ao hx) Mem.upd_same
  generalize ia ad (aN E)=K7 at t7 ⊢;simp! [e1,atI_1,atI_2,atL0,Dq,g1,List.length_map]
  by_cases c1:(0:Int)<(cells.length:Nat)
  ·rw [if_pos c1]
   have a4:=cK (a:=t) c1;obtain ⟨y,ey⟩:∃y,atI (cells.map D.int) (t % (cells.length:Nat))=some (.int y):=by
    have hr:(t % (cells.length:Nat)).toNat<cells.length:=by lia
    exact ⟨cells[(t % (cells.length:Nat)).toNat],by rw [bY a4.1,List.getElem?_map,List.getElem?_eq_getElem hr];rfl⟩
   refine ⟨c1,?_⟩;simp! [ey]
   by_cases c2:t<(cells.length:Nat)
   ·rw [if_pos c2]
    refine ⟨⟨by decide,by decide,by decide⟩,?_⟩
    simp! [zQ]
    by_cases c3:10 ^ Int.toNat 18<=y
    ·rw [if_pos c3]
     exact ⟨⟨h0,by lia⟩,h0,fin y (t+1) _ _ (.inr rfl) (fun x hx=>by rw [ao hx,ao hx]) Mem.upd_same⟩
    ·rw [if_neg c3];exact t7 y
   ·rw [if_neg c2];exact t7 y
  ·rw [if_neg c1,if_neg (by lia)]
   exact t7 0
 generalize fU ad (aN E)=K12 at t12 ⊢;simp! [e1,atI_2]
 by_cases c:0<hh
 ·rw [if_pos c]
  simp! [e1,atI_2,zQ];exact ⟨h0,⟨h0,by lia⟩,fin hh t _ _ (.inl rfl) (fun x hx=>ao hx) Mem.upd_same⟩
 ·rw [if_neg c]
  exact t12
theorem aJ{Q:DK}{b:Nat}{many:Int}{bx:BxQ EE Q}(hp:Has k (b+1) M)(h0:0<many)(h1:many<2 ^ 62)(h:∀r M',0<=r->r<many->Dr k b M M'->Q (.int r) M'):calls (bi ad) EE [.ref k.p,.int many] M Q bx:=
 calls_of fun Q' E' hq _=>sh hp h0 h1 fun r M' a b d=>hq _ _ (h r M' a b d)
theorem cS{xs:List D}{k:Nat}:gZ xs none (some (k:Int))=xs.take k:=by
 unfold gZ;rw [HT.nr,HT.qQ,List.drop_zero,Nat.sub_zero];rcases Nat.le_total k xs.length with h|h
 ·rw [Nat.min_eq_left h]
 ·rw [Nat.min_eq_right h,List.take_of_length_le (Nat.le_refl _),List.take_of_length_le h]
theorem cutD_lo{xs:List D}{k:Nat}:gZ xs (some (k:Int)) none=xs.drop k:=by
 unfold gZ;rw [HT.nr,HT.qQ];rcases Nat.le_total k xs.length with h|h
 ·rw [Nat.min_eq_left h,List.take_of_length_le (by simp)]
 ·rw [Nat.min_eq_right h,List.drop_of_length_le (Nat.le_refl _),List.drop_of_length_le h];simp
theorem sZ{Q:DK}{E:DX}{ns:List Int}(h:∀(k:Pt) M',Has k (2 ^ 49) M'->(∀b,b≠k.p->b≠k.q->M' b=M b)->Q (.ref k.p) M'):rB ad [.ml (ns.map D.int)] M Q E:=by
 have c63:gZ (ns.map D.int) none (some 63)=(ns.take 63).map D.int:=by rw [List.map_take];exact cS (k:=63)
 simp! [Ef,mH,c63];intro b hb;rw [Mem.upd_del,ah hb];intro q hq;refine ⟨szl (by decide),fun p hp=>?_⟩
 have ne:p≠q:=by intro e;subst e;rw [Mem.upd_same] at hp;cases hp
 refine ay (h ⟨p,q,ne⟩ _ ⟨ns.take 63,0,0,by simp;lia,by decide,by decide,Mem.upd_same,?_⟩ fun b b1 b2=>?_)
 ·show ((M.upd q _).upd p _) q=_
  rw [ao (Ne.symm ne),Mem.upd_same]
 ·rw [ao b1,ao b2]
end
end Tw
namespace Tw
open PySem L2 L3
def pool:List (List Str):=[["a","b","c","d","e"],["x","xx","xxx","xxxx","xxxxx"],["if","end","else","piece","pick"],["mark","again","names","plan","wheel"]]
def k9(i j l:Nat):List Str:=(((pool[i]?).getD []).drop j++((pool[i]?).getD []).take j).take (1+l)
structure NmOk(names:List Str):Prop where
 nd:names.Nodup
 n0:0<names.length
 n1:names.length<=5
 w:∀x∈names,x∈pool.flatten
theorem uM:∀i<4,∀j<5,∀l<5,0<(k9 i j l).length/\(k9 i j l).length<=5:=by decide +kernel
theorem yb:∀i<4,((pool[i]?).getD []).Pairwise (fun a b=>¬a=b):=by decide +kernel
theorem mJ{i:Nat}{x:Str}(h:x∈(pool[i]?).getD []):x∈pool.flatten:=by
 cases e:pool[i]? with
 |none=>rw [e] at h;simp at h
 |some l=>rw [e] at h;exact List.mem_flatten.mpr ⟨l,List.mem_of_getElem? e,h⟩
theorem wj{i j l:Nat}{x:Str}(h:x∈k9 i j l):x∈pool.flatten:=by
 rcases List.mem_append.mp (List.mem_of_mem_take h) with z|z
 ·exact mJ (List.mem_of_mem_drop z)
 ·exact mJ (List.mem_of_mem_take z)
theorem xu{i j l:Nat}(hi:i<4)(hj:j<5)(hl:l<5):NmOk (k9 i j l):=by
 obtain ⟨n0,n1⟩:=uM i hi j hj l hl;refine ⟨?_,n0,n1,fun x hx=>wj hx⟩;have nd:((pool[i]?).getD []).Nodup:=yb i hi;have p:(((pool[i]?).getD []).drop j++((pool[i]?).getD []).take j).Perm ((pool[i]?).getD []):=List.perm_append_comm.trans (by rw [List.take_append_drop])
 exact (p.nodup_iff.mpr nd).sublist (List.take_sublist ..)
theorem xF{r:Int}(h0:0<=r)(h1:r<4):atI (pool.map fun l=>D.lst (l.map D.str)) r=some (.lst (((pool[r.toNat]?).getD []).map D.str)):=by
 have hr:r.toNat<pool.length:=by show r.toNat<4;lia
 rw [bY h0,List.getElem?_map,List.getElem?_eq_getElem hr];rfl
section
variable {ad:Ad}{M:Mem}{k:Pt}{Q:DK}{E:DX}
theorem pE{b:Nat}(hp:Has k (b+3) M)(h:∀names M' q,NmOk names->Dr k b M M'->M' q=none->Q (.ref q) (M'.upd q (.lst (names.map D.str)))):nC ad [.ref k.p] M Q E:=by
 simp! [D2,mO];refine ⟨szl (by decide),fun p1 h1=>?_⟩
 simp only [Mem.upd_del,ah h1];refine ⟨szl (by decide),fun p2 h2=>?_⟩
 simp only [Mem.upd_del,ah h2];refine ⟨szl (by decide),fun p3 h3=>?_⟩
 simp only [Mem.upd_del,ah h3];refine ⟨szl (by decide),fun p4 h4=>?_⟩
 simp only [Mem.upd_del,ah h4];refine ⟨szl (by decide),fun p5 h5=>?_⟩
 simp only [Mem.upd_del,ah h5];refine aJ (b:=b+2) hp (by decide) (by decide) fun x1 M1 a1 b1 d1=>?_
 have e1:=xF a1 b1;have l5:((pool[x1.toNat]?).getD []).length<=5:=by
  have:∀i<4,((pool[i]?).getD []).length<=5:=by decide +kernel
  exact this _ (by lia)
 generalize hL:(pool[x1.toNat]?).getD []=L at e1 l5;simp only [pool,List.map_cons,List.map_nil] at e1;simp! [e1];refine aJ (b:=b+1) d1.1 (by decide) (by decide) fun x2 M2 a2 b2 d2=>?_
 obtain ⟨j,rfl⟩:=Int.eq_ofNat_of_zero_le a2;simp! [cutD_lo,cS];intro q1 g1;simp only [Mem.upd_del,ah g1];intro q2 g2;simp only [Mem.upd_del,ah g2];refine ⟨szl (by simp only [List.length_drop,List.length_take,List.length_map];lia),fun q3 g3=>?_⟩
 simp! [Mem.upd_del,ah g3];refine aJ (b:=b) d2.1 (by decide) (by decide) fun x3 M3 a3 b3 d3=>?_
 obtain ⟨l,rfl⟩:=Int.eq_ofNat_of_zero_le a3;have e3:(1:Int)+(l:Nat)=((1+l:Nat):Int):=by lia
 simp! [e3,cS];intro q4 g4;have e4:((L.map D.str).drop j++(L.map D.str).take j).take (1+l)=(k9 x1.toNat j l).map D.str:=by
  unfold k9;rw [hL,<- List.map_drop,<- List.map_take,<- List.map_append,<- List.map_take]
 rw [e4];exact ay (h _ _ _ (xu (by lia) (by lia) (by lia)) (d1.trans (d2.trans d3)) g4)
end
end Tw
namespace Tw
open PySem L2 L3
def lX(w:Int)(names:List Str)(left many:Int):List (aT×D):=[(Sum.inr "wheel",.int w),(Sum.inr "names",.lst (names.map D.str)),(Sum.inr "left",.int left),(Sum.inr "many",.int many)]
section
variable {w left many:Int}{names:List Str}
theorem jr:cb (lX w names left many) (Sum.inr "wheel")=some (.int w):=by simp [cb,lX,br]
theorem eJ:cb (lX w names left many) (Sum.inr "names")=some (.lst (names.map D.str)):=by simp [cb,lX,br]
theorem qe:cb (lX w names left many) (Sum.inr "left")=some (.int left):=by simp [cb,lX,br]
theorem lz:cb (lX w names left many) (Sum.inr "many")=some (.int many):=by simp [cb,lX,br]
theorem Ca{v:Int}:cJ (lX w names left many) (Sum.inr "left") (.int v)=lX w names v many:=by simp [cJ,lX,br]
end
structure FrOk(w many:Int)(names:List Str):Prop where
 w2:2<=w
 w1:w<=997
 m0:0<=many
 m1:many<=6
 nm:NmOk names
structure Tf(k:Pt)(f:Addr)(b:Nat)(w many:Int)(names:List Str)(M:Mem):Prop where
 has:Has k b M
 f1:f≠k.p
 f2:f≠k.q
 fr:∃left,M f=some (.dK (lX w names left many))
section
variable {ad:Ad}{k:Pt}{f:Addr}{b c:Nat}{w many:Int}{names:List Str}{M M':Mem}{Q:DK}{E:DX}
theorem Tf.dr(t:Tf k f b w many names M)(d:Dr k c M M'):Tf k f c w many names M':=⟨d.1,t.f1,t.f2,by obtain ⟨l,e⟩:=t.fr;exact ⟨l,by rw [d.2 f t.f1 t.f2];exact e⟩⟩
theorem Tf.le(t:Tf k f b w many names M)(e:c<=b):Tf k f c w many names M:=⟨t.has.le e,t.f1,t.f2,t.fr⟩
theorem rO{r:Int}(h0:0<=r)(h1:r<names.length):∃y,y∈names/\atI (names.map D.str) r=some (.str y):=by
 have hr:r.toNat<names.length:=by lia
 exact ⟨names[r.toNat],List.getElem_mem hr,by rw [bY h0,List.getElem?_map,List.getElem?_eq_getElem hr];rfl⟩
theorem o9{n:Nat}(hn:n<=3)(nm:NmOk names)(hp:Has k (b+n) M){c0:Option D}{xs:List D}(hx:xs.length=n){Q:List D->Mem->Prop}{bx:BxC (hName 0) cL (dOp aL (aa 2) (ar (dCall (bi ad) jA 2 (a9 (aa 1) (a9 (bO cg (a9 (aa 2) dNil)) dNil))))) (DIt.ok ⟨xs,[]⟩) Q}
  (h:∀(ys:List Str) M',ys.length=n->(∀y∈ys,y∈names)->Dr k b M M'->Q (ys.map D.str) M'):
  cI (hName 0) cL (dOp aL (aa 2) (ar (dCall (bi ad) jA 2 (a9 (aa 1) (a9 (bO cg (a9 (aa 2) dNil)) dNil))))) (DIt.ok ⟨xs,[]⟩) Q bx xs [] [c0,some (.ref k.p),some (.lst (names.map D.str))] M:=by
 have n0:=nm.n0;have n1:=nm.n1;refine ce (fun xs acc δ N=>∃(ys:List Str) (c0:Option D),xs.length+ys.length=n/\acc=ys.map D.str/\(∀y∈ys,y∈names)/\δ=[c0,some (.ref k.p),some (.lst (names.map D.str))]/\Dr k (b+xs.length) M N) (fun _ _ _ _ _=>bG) ?_ ?_ ?_ _ _ _ _ ⟨[],c0,by simpa using hx,rfl,by simp,rfl,by rw [hx];exact hp.refl⟩
 ·rintro acc δ N ⟨ys,c0,e1,rfl,hy,rfl,d⟩
  exact h ys N (by simpa using e1) hy (by simpa using d)
 ·rintro x xs acc δ N ⟨ys,c0,e1,rfl,hy,rfl,d⟩ N' hN _
  simp only [List.length_cons] at e1 d;simp! [List.length_map];refine aJ (b:=b+xs.length) d.1 (by lia) (by lia) fun r M1 a1 b1 d1=>?_
  obtain ⟨y,hym,ey⟩:=rO a1 b1;simp! [ey];refine hN _ _ _ (by simp;exact fP (by lia)) ⟨ys++[y],_,by simp;lia,by simp,fun z hz=>?_,rfl,d.trans d1⟩
  rcases List.mem_append.mp hz with q|q
  ·exact hy z q
  ·rw [List.mem_singleton] at q;subst q;exact hym
 ·rintro x xs acc δ N ⟨ys,c0,e1,rfl,hy,rfl,d⟩
  simp at e1 ⊢;exact fP (by lia)
def wds:List Str:=["sum","sum","by","less","same"]
theorem D7{r:Int}(h0:0<=r)(h1:r<5):∃y:Str,(y="sum"\/y="by"\/y="less"\/y="same")/\atI (wds.map D.str) r=some (.str y):=by
 have:r=0\/r=1\/r=2\/r=3\/r=4:=by lia
 rcases this with rfl|rfl|rfl|rfl|rfl
 ·exact ⟨_,.inl rfl,rfl⟩
 ·exact ⟨_,.inl rfl,rfl⟩
 ·exact ⟨_,.inr (.inl rfl),rfl⟩
 ·exact ⟨_,.inr (.inr (.inl rfl)),rfl⟩
 ·exact ⟨_,.inr (.inr (.inr rfl)),rfl⟩
theorem nD(ok:FrOk w many names)(t:Tf k f (b+5) w many names M)(h:∀(r:Rw) M',RwOk names w many r->Dr k b M M'->Q r.d M'):pR ad [.ref k.p,.ref f] M Q E:=by
 obtain ⟨left,e⟩:=t.fr;have w1:=ok.w1;have w2:=ok.w2;have m1:=ok.m1;simp! [DC,n4,e,eJ,↓bD];refine ⟨by decide,by decide,o9 (n:=3) (b:=b+2) (by decide) ok.nm t.has ?_ fun ys M1 l1 hy d1=>?_⟩
 ·rfl
 intro p hp;obtain ⟨x,y,z,rfl⟩:∃x y z,ys=[x,y,z]:=by
  match ys,l1 with
  |[x,y,z],_=>exact ⟨x,y,z,rfl⟩
 have hx:=hy x (by simp)
 have hy':=hy y (by simp)
 have hz:=hy z (by simp)
 have t1:=(t.dr d1);simp! [Mem.upd_del,ah hp];refine aJ (b:=b+1) d1.1 (by decide) (by decide) fun way M2 a2 b2 d2=>?_
 have t2:=t1.dr d2;obtain ⟨l2,e2⟩:=t2.fr;have D12:=d1.trans d2;simp! []
 by_cases c1:6<way
 ·rw [if_pos c1]
  obtain ⟨v,hv,ev⟩:=D7 (r:=way % 5) (by lia) (by lia)
  simp only [wds,List.map_cons,List.map_nil] at ev;refine ⟨szl (by decide),fun q hq=>?_⟩
  simp! [Mem.upd_del,ah hq,ev];exact ⟨by decide,szl (by decide),ay (h (.two v x y z) M2 ⟨hv,hx,hy',hz⟩ (D12.le (by lia)))⟩
 ·rw [if_neg c1]
  simp! [e2,lz,jr];have put:calls (bi ad) (aN E) [D.ref k.p,D.int w] M2 (fun d M'=>3<=sizeLine/\drp Q (.tup [.str "put",.str x,d]) M') ⟨⟩:=
   aJ (b:=b) d2.1 (by lia) (by lia) fun r M3 a3 b3 d3=>⟨szl (by decide),ay (h (.put x r) M3 ⟨hx,a3,b3⟩ (D12.trans d3))⟩
  by_cases c2:1<way
  ·rw [if_pos c2]
   by_cases c3:0<many
   ·rw [if_pos c3]
    by_cases c4:way=2
    ·rw [if_pos c4]
     exact ⟨szl (by decide),ay (h (.pick x y) M2 ⟨hx,hy',c3⟩ (D12.le (by lia)))⟩
    ·rw [if_neg c4]
     exact aJ (b:=b) d2.1 c3 (by lia) fun r M3 a3 b3 d3=>⟨(szl (by decide):3<=sizeLine),ay (h (.take x r) M3 ⟨hx,a3,b3⟩ (D12.trans d3))⟩
   ·rw [if_neg c3]
    exact put
  ·rw [if_neg c2]
   exact put
end
end Tw
namespace Tw
open PySem L2 L3
theorem cv:∀{a b:List Rw},aB (a++b)=aB a++aB b
 |[],b=>rfl
 |r::a,b=>by simp only [List.cons_append,aB,cv]
theorem cV:∀{a:List Rw},(aB a).length=a.length
 |[]=>rfl
 |r::a=>by simp [aB,cV]
theorem OkRs_append{names:List Str}{m many:Int}:∀{a b:List Rw},cC names m many (a++b)↔cC names m many a/\cC names m many b
 |[],b=>by simp [cC]
 |r::a,b=>by simp [cC,OkRs_append,and_assoc]
theorem fJ:∀{a b:List Rw},fv (a++b)=max (fv a) (fv b)
 |[],b=>by simp [fv]
 |r::a,b=>by simp only [List.cons_append,fv,fJ];lia
mutual
def szR:Rw->Prop
 |.ifr _ a b=>(a.length<=7/\jF a)/\(b.length<=7/\jF b)
 |.again _ a=>a.length<=7/\jF a
 |.put _ _=>True
 |.take _ _=>True
 |.pick _ _=>True
 |.two _ _ _ _=>True
def jF:List Rw->Prop
 |[]=>True
 |r::rs=>szR r/\jF rs
end
theorem szRs_append:∀{a b:List Rw},jF (a++b)↔jF a/\jF b
 |[],b=>by simp [jF]
 |r::a,b=>by simp [jF,szRs_append,and_assoc]
mutual
def wR:Rw->Nat
 |.ifr _ a b=>1+(gM a+gM b)
 |.again _ a=>1+gM a
 |.put _ _=>1
 |.take _ _=>1
 |.pick _ _=>1
 |.two _ _ _ _=>1
def gM:List Rw->Nat
 |[]=>0
 |r::rs=>wR r+gM rs
end
theorem df:∀{a b:List Rw},gM (a++b)=gM a+gM b
 |[],b=>by simp [gM]
 |r::a,b=>by simp only [List.cons_append,gM,df];lia
def wd:Nat->Nat
 |0=>1
 |d+1=>4+4*wd d
theorem AQ:∀d,1<=wd d
 |0=>Nat.le_refl _
 |d+1=>by unfold wd;lia
theorem RwOk.wt{names:List Str}{m many:Int}{r:Rw}(h:RwOk names m many r):wR r=1:=by
 cases r with
 |ifr=>exact h.elim
 |again=>exact h.elim
 |put=>rfl
 |take=>rfl
 |pick=>rfl
 |two=>rfl
theorem RwOk.all{names:List Str}{m many:Int}{r:Rw}(h:RwOk names m many r):OkR names m many r/\hR r=0/\szR r:=by
 cases r with
 |ifr=>exact h.elim
 |again=>exact h.elim
 |put=>exact ⟨h,rfl,trivial⟩
 |take=>exact ⟨h,rfl,trivial⟩
 |pick=>exact ⟨h,rfl,trivial⟩
 |two=>exact ⟨h,rfl,trivial⟩
structure Drn(names:List Str)(w many:Int)(deep:Nat)(rs:List Rw):Prop where
 ok:cC names w many rs
 h:fv rs<=deep
 s:jF rs
section
variable {names:List Str}{w many:Int}{deep d2:Nat}{a c:List Rw}
theorem Drn.nil:Drn names w many deep []:=⟨trivial,Nat.zero_le _,trivial⟩
theorem Drn.app(x:Drn names w many deep a)(y:Drn names w many deep c):Drn names w many deep (a++c):=⟨OkRs_append.mpr ⟨x.ok,y.ok⟩,by rw [fJ];have:=x.h;have:=y.h;lia,szRs_append.mpr ⟨x.s,y.s⟩⟩
theorem Drn.one{r:Rw}(x:RwOk names w many r):Drn names w many deep [r]:=⟨⟨x.all.1,trivial⟩,by simp only [fv,x.all.2.1];lia,⟨x.all.2.2,trivial⟩⟩
theorem Drn.again{x:Str}(hx:x∈names)(y:Drn names w many deep a)(hl:a.length<=7):Drn names w many (deep+1) [.again x a]:=⟨⟨⟨hx,y.ok⟩,trivial⟩,by simp only [fv,hR];have:=y.h;lia,⟨⟨hl,y.s⟩,trivial⟩⟩
theorem Drn.ifr{x:Str}(hx:x∈names)(y:Drn names w many deep a)(z:Drn names w many deep c)(hl:a.length<=7)(hl2:c.length<=7):Drn names w many (deep+1) [.ifr x a c]:=⟨⟨⟨hx,y.ok,z.ok⟩,trivial⟩,by simp only [fv,hR];have:=y.h;have:=z.h;lia,⟨⟨⟨hl,y.s⟩,⟨hl2,z.s⟩⟩,trivial⟩⟩
end
structure Kf(k:Pt)(f:Addr)(b:Nat)(w many:Int)(names:List Str)(M M':Mem):Prop where
 tf:Tf k f b w many names M'
 kp:∀x o,x≠k.p->x≠k.q->x≠f->M x=some o->M' x=some o
section
variable {ad:Ad}{k:Pt}{f:Addr}{b c:Nat}{w many:Int}{names:List Str}{M M1 M2:Mem}{Q:DK}{E:DX}
theorem Tf.kf(t:Tf k f b w many names M):Kf k f b w many names M M:=⟨t,fun _ _ _ _ _ e=>e⟩
theorem Kf.trans(x:Kf k f b w many names M M1)(y:Kf k f c w many names M1 M2):Kf k f c w many names M M2:=⟨y.tf,fun z o h1 h2 h3 e=>y.kp z o h1 h2 h3 (x.kp z o h1 h2 h3 e)⟩
theorem Kf.dr(x:Kf k f b w many names M M1)(y:Dr k c M1 M2):Kf k f c w many names M M2:=⟨x.tf.dr y,fun z o h1 h2 h3 e=>by rw [y.2 z h1 h2];exact x.kp z o h1 h2 h3 e⟩
theorem Kf.le(x:Kf k f b w many names M M1)(e:c<=b):Kf k f c w many names M M1:=⟨x.tf.le e,x.kp⟩
theorem Kf.non(K:Kf k f b w many names M M1){l:Addr}(h:M1 l=none):M l=none:=by
 obtain ⟨⟨cells,t,hh,_,_,_,e1,e2⟩,f1,f2,left,e3⟩:=K.tf;cases e:M l with
 |none=>rfl
 |some o=>
  by_cases h1:l=k.p
  ·rw [h1,e1] at h;cases h
  ·by_cases h2:l=k.q
   ·rw [h2,e2] at h;cases h
   ·by_cases h3:l=f
    ·rw [h3,e3] at h;cases h
    ·rw [K.kp l o h1 h2 h3 e] at h;cases h
theorem Tf.nep(t:Tf k f b w many names M){l:Addr}(hl:M l=none):l≠k.p/\l≠k.q/\l≠f:=by
 obtain ⟨h1,h2⟩:=t.has.nep hl;obtain ⟨left,e⟩:=t.fr;exact ⟨h1,h2,fun z=>by rw [z,e] at hl;cases hl⟩
theorem Tf.upd(t:Tf k f b w many names M){l:Addr}{o:MO}(h:l≠k.p/\l≠k.q/\l≠f):Tf k f b w many names (M.upd l o):=⟨t.has.upd ⟨h.1,h.2.1⟩,t.f1,t.f2,by obtain ⟨left,e⟩:=t.fr;exact ⟨left,by rw [ao (Ne.symm h.2.2)];exact e⟩⟩
theorem Kf.new(K:Kf k f b w many names M M1){l:Addr}{o:MO}(h:M1 l=none):Kf k f b w many names M (M1.upd l o):=⟨K.tf.upd (K.tf.nep h),fun x u h1 h2 h3 e=>by
 rw [ao (fun z=>by rw [z,K.non h] at e;cases e)];exact K.kp x u h1 h2 h3 e⟩
theorem Tf.left(t:Tf k f b w many names M)(v:Int):Kf k f b w many names M (M.upd f (.dK (lX w names v many))):=
 ⟨⟨t.has.upd ⟨t.f1,t.f2⟩,t.f1,t.f2,v,Mem.upd_same⟩,fun x o _ _ h3 e=>by rw [ao h3];exact e⟩
def PRo(ad:Ad)(k:Pt)(f:Addr)(w many:Int)(names:List Str)(n:Nat):Prop:=∀(m deep b:Nat) (M:Mem) (Q:DK) (E:DX),m<=9->2*deep+1<=n->Tf k f (b+m*100 ^ (deep+1)) w many names M->
 (∀(rs:List Rw) (l:Addr) (M':Mem),Drn names w many deep rs->(rs.length<=3*m/\gM rs<=m*wd deep)->Kf k f b w many names M M'->M' l=none->M l=none->Q (.ref l) (M'.upd l (.lst (aB rs))))->S_q4 ad n [.ref k.p,.ref f,.int (m:Nat),.int (deep:Nat)] M Q E
def PLo(ad:Ad)(k:Pt)(f:Addr)(w many:Int)(names:List Str)(n:Nat):Prop:=∀(deep b:Nat) (M:Mem) (Q:DK) (E:DX),2*deep+2<=n->Tf k f (b+(10+2*100 ^ (deep+1))) w many names M->
 (∀(rs:List Rw) (l:Addr) (M':Mem),Drn names w many (deep+1) rs->(rs.length<=3/\gM rs<=wd (deep+1))->Kf k f b w many names M M'->M' l=none->M l=none->Q (.ref l) (M'.upd l (.lst (aB rs))))->S_q28 ad n [.ref k.p,.ref f,.int ((deep+1:Nat):Int)] M Q E
theorem sW(ok:FrOk w many names){n:Nat}(ih:PRo ad k f w many names n):PLo ad k f w many names (n+1):=by
 intro deep b M Q E hn t h;have w2:=ok.w2;have w1:=ok.w1;obtain ⟨left,e⟩:=t.fr;simp! [Dk,nj,e,eJ,↓bD];refine ⟨by decide,by decide,o9 (n:=2) (b:=b+(8+2*100 ^ (deep+1))) (by decide) ok.nm (t.has.le (by lia)) ?_ fun ys M1 l1 hy d1=>?_⟩
 ·rfl
 intro p hp;obtain ⟨x,y,rfl⟩:∃x y,ys=[x,y]:=by
  match ys,l1 with
  |[x,y],_=>exact ⟨x,y,rfl⟩
 have hx:=hy x (by simp)
 have hy':=hy y (by simp)
 simp! [Mem.upd_del,ah hp];refine aJ (b:=b+(7+2*100 ^ (deep+1))) (d1.1.le (by lia)) (by decide) (by decide) fun way M2 a2 b2 d2=>?_
 simp! [];refine aJ (b:=b+(6+2*100 ^ (deep+1))) (d2.1.le (by lia)) (by decide) (by decide) fun m M3 a3 b3 d3=>?_
 obtain ⟨m,rfl⟩:=Int.eq_ofNat_of_zero_le a3;have K3:=t.kf.dr (d1.trans (d2.trans d3));have ed:((deep+1:Nat):Int)-1=(deep:Nat):=by lia
 simp! [ed];have hm:m*100 ^ (deep+1)<=2*100 ^ (deep+1):=Nat.mul_le_mul_right _ (by lia)
 refine calls_of fun Q' E' hq _=>ih m deep (b+6) _ _ _ (by lia) (by lia) (K3.tf.le (by lia)) fun rs l M4 dr lr0 K4 hl _=>hq _ _ ?_
 have lr:=lr0.1;have hw:gM rs<=2*wd deep:=Nat.le_trans lr0.2 (Nat.mul_le_mul_right _ (by lia))
 have K5:=K3.trans K4;have hlr:(aB rs).length<=6:=by rw [cV];lia
 simp! [Mem.upd_del,ah hl];have put0:RwOk names w many (.put x 0):=⟨hx,by decide,by lia⟩
 have more:∀(p:Addr),M4 p=none->drp Q (.ref p) (M4.upd p (.lst [.tup [.str "again",.str x,.tup (aB rs++[.tup [.str "put",.str x,.int 0]])]])):=fun p hp=>by
  have:=h [.again x (rs++[.put x 0])] p M4 (Drn.again hx (dr.app (Drn.one put0)) (by simp;lia)) ⟨by simp,by simp only [gM,wR,df,wd];lia⟩ (K5.le (by lia)) hp (K5.non hp)
  simp only [aB,Rw.d,cv] at this;exact ay this
 by_cases c0:way=0
 ·rw [if_pos c0]
  refine ⟨szl (by decide),szl (by decide),fun p hp=>?_⟩
  have:=h [.again x rs] p M4 (Drn.again hx dr (by lia)) ⟨by simp,by simp only [gM,wR,df,wd];lia⟩ (K5.le (by lia)) hp (K5.non hp)
  simp only [aB,Rw.d] at this;exact ay this
 rw [if_neg c0]
 by_cases c1:way=1
 ·rw [if_pos c1]
  refine ⟨szl (by decide),szl (by decide),fun p1 h1=>⟨szl (by lia),fun p2 h2=>⟨szl (by decide),szl (by decide),fun p3 h3=>?_⟩⟩⟩
  rw [ah h1] at h2 h3 ⊢;rw [ah h2] at h3 ⊢;exact more p3 h3
 rw [if_neg c1]
 by_cases c2:x=y
 ·rw [if_pos c2]
  refine ⟨szl (by decide),szl (by decide),fun p1 h1=>⟨szl (by lia),fun p2 h2=>⟨szl (by decide),szl (by decide),fun p3 h3=>?_⟩⟩⟩
  rw [ah h1] at h2 h3 ⊢;rw [ah h2] at h3 ⊢;exact more p3 h3
 rw [if_neg c2];obtain ⟨l5,e5⟩:=K5.tf.fr;simp! [e5,jr];refine aJ (b:=b) (K5.tf.has.le (by lia)) (by split<;>lia) (by split<;>lia) fun r M6 a6 b6 d6=>?_
 have hr:r<w:=by split at b6<;>lia
 have K6:=K5.dr d6;obtain ⟨l6,e6⟩:=K6.tf.fr;have putr:RwOk names w many (.put x r):=⟨hx,a6,hr⟩;have putw:RwOk names w many (.put y (w-1)):=⟨hy',by lia,by lia⟩
 have sumr:RwOk names w many (.two "sum" x x y):=⟨.inl rfl,hx,hx,hy'⟩;simp! [];refine ⟨szl (by decide),szl (by decide),fun p6 h6=>?_⟩
 have K7:Kf k f b w many names M (M6.upd p6 (.lst [.tup [.str "put",.str x,.int r]])):=K6.new h6;obtain ⟨l7,e7⟩:=K7.tf.fr;obtain ⟨v,ev,hv⟩:∃v:Int,(if way=2 then (1:Int) else 0)=v/\(v=0\/v=1):=⟨_,rfl,by split<;>simp⟩
 rw [ev];obtain ⟨fs,ef,hf,hfl,hfw⟩:∃fs:List Rw,(List.replicate v.toNat [D.tup [.str "put",.str x,.int r]]).flatten=aB fs/\Drn names w many (deep+1) fs/\fs.length<=1/\gM fs<=1:=by
  rcases hv with rfl|rfl
  ·exact ⟨[],rfl,Drn.nil,by simp,by simp [gM]⟩
  ·exact ⟨[.put x r],rfl,Drn.one putr,by simp,by simp [gM,wR]⟩
 refine ⟨by lia,by lia,by rcases hv with rfl|rfl<;>decide,fun q7 h7=>?_⟩
 rw [Mem.upd_del,ah h7,ef];have K8:=K7.le (c:=b) (Nat.le_refl _);simp! [e7,jr];refine ⟨szl (by decide),szl (by decide),szl (by decide),fun q8 h8=>?_⟩
 rw [Mem.upd_del,ah h8];refine ⟨szl (by lia),fun q9 h9=>?_⟩
 rw [Mem.upd_del,ah h9];refine ⟨szl (by decide),szl (by decide),fun q10 h10=>?_⟩
 rw [Mem.upd_del,ah h10];refine ⟨szl (by rw [cV];lia),fun q11 h11=>?_⟩
 have:=h (fs++[.put y (w-1),.again x (rs++[.two "sum" x x y])]) q11 _ (hf.app ((Drn.one (deep:=deep+1) putw).app (Drn.again hx (dr.app (Drn.one sumr)) (by simp;lia)))) ⟨by simp;lia,by simp only [gM,wR,df,wd];lia⟩ K8 h11 (K8.non h11)
 simp only [aB,Rw.d,cv] at this;exact ay this
end
end Tw
namespace Tw
open PySem L2 L3
section
variable {ad:Ad}{k:Pt}{f:Addr}{w many:Int}{names:List Str}
theorem oO(ok:FrOk w many names){n:Nat}(ihl:PLo ad k f w many names n)(ih:PRo ad k f w many names n):PRo ad k f w many names (n+1):=by
 intro m deep b M Q E hm hn t h;have n0:=ok.nm.n0;have n1:=ok.nm.n1;simp! [u_q4,vc,↓dFor];refine ⟨szl (by decide),fun l hl=>?_⟩
 have nel:=t.nep hl;refine ⟨by lia,by lia,?_⟩
 refine forD_inv (fun xs δ N=>∃(acc:List Rw) (c5 c6 c7 c8 c9 c10:Option D),xs.length<=m/\δ=[some (.ref k.p),some (.ref f),some (.int (m:Nat)),some (.int (deep:Nat)),some (.ref l),c5,c6,c7,c8,c9,c10]/\Drn names w many deep acc/\(acc.length+3*xs.length<=3*m/\gM acc+xs.length*wd deep<=m*wd deep)/\N l=some (.lst (aB acc))/\Kf k f (b+xs.length*100 ^ (deep+1)) w many names M N) (fun _ _ _ _=>bG) ?_ ?_ _ _ _ ⟨[],none,none,none,none,none,none,by simp [bT],rfl,Drn.nil,⟨by simp [bT],by simp [bT,gM]⟩,Mem.upd_same,by
  have e:(bT 0 (Int.toNat (m:Nat))).length=m:=by simp [bT]
  rw [e];exact t.kf.new hl⟩
 ·rintro δ N ⟨acc,c5,c6,c7,c8,c9,c10,hx,rfl,dr,la,hN,K⟩
  simp! [];have e:N=(N.del l).upd l (.lst (aB acc)):=by
   funext x
   by_cases c:x=l
   ·subst c;rw [Mem.upd_same];exact hN
   ·rw [ao c];unfold Mem.del;rw [if_neg c]
  rw [e];have hd:(N.del l) l=none:=by unfold Mem.del;rw [if_pos rfl]
  have fd:∀x,x≠l->(N.del l) x=N x:=fun x hx=>by unfold Mem.del;rw [if_neg hx]
  refine ay (h acc l (N.del l) dr ⟨by have:=la.1;simp at this;lia,by have:=la.2;simp at this;lia⟩ ⟨⟨?_,K.tf.f1,K.tf.f2,?_⟩,fun x o h1 h2 h3 e=>?_⟩ hd hl)
  ·obtain ⟨cells,t',hh,a1,a2,a3,e1,e2⟩:=K.tf.has
   exact ⟨cells,t',hh,a1,a2,by simp at a3;lia,by rw [fd _ (Ne.symm nel.1)];exact e1,by rw [fd _ (Ne.symm nel.2.1)];exact e2⟩
  ·obtain ⟨left,e3⟩:=K.tf.fr
   exact ⟨left,by rw [fd _ (Ne.symm nel.2.2)];exact e3⟩
  ·rw [fd x (fun z=>by rw [z,hl] at e;cases e)]
   exact K.kp x o h1 h2 h3 e
 ·rintro x xs δ N ⟨acc,c5,c6,c7,c8,c9,c10,hx,rfl,dr,la,hN,K⟩ D' hnx _ _ _
  simp only [List.length_cons] at hx la K;have law:=la.2;rw [Nat.succ_mul] at law
  replace la:=la.1
  have hP:1<=100 ^ deep:=Nat.one_le_pow _ _ (by decide)
  have hPs:100 ^ (deep+1)=100*100 ^ deep:=by rw [Nat.pow_succ,Nat.mul_comm]
  have hsz:(aB acc).length<=30:=by rw [cV];lia
  have K0:Kf k f (b+xs.length*100 ^ (deep+1)+100*100 ^ deep) w many names M N:=K.le (by have:=Nat.succ_mul xs.length (100 ^ (deep+1));simp only [Nat.succ_eq_add_one] at this;lia)
  generalize hB:b+xs.length*100 ^ (deep+1)=B at K0;obtain ⟨left,e⟩:=K0.tf.fr;simp! [e,qe,Ca];have K1:=K0.trans (K0.tf.left (left-4));have nl:l≠f:=nel.2.2;refine ⟨(fP (by decide):4<sizeLine),?_⟩
  refine aJ (b:=B+(100*100 ^ deep-1)) (K1.tf.has.le (by lia)) (by decide) (by decide) fun way M2 a2 b2 d2=>?_
  have K2:=K1.dr d2;have h2l:M2 l=some (.lst (aB acc)):=by rw [d2.2 l nel.1 nel.2.1,ao nl];exact hN
  obtain ⟨l2,e2⟩:=K2.tf.fr;have fin:∀(rs:List Rw) (c6 c7 c8 c9 c10:Option D) (M':Mem),Drn names w many deep rs->(rs.length<=3/\gM rs<=wd deep)->Kf k f B w many names M M'->M' l=some (.lst (aB acc))->D'.nx [some (.ref k.p),some (.ref f),some (.int (m:Nat)),some (.int (deep:Nat)),some (.ref l),some x,c6,c7,c8,c9,c10] (M'.upd l (.lst (aB acc++aB rs))):=fun rs c6 c7 c8 c9 c10 M' d1 lr K' e'=>
   hnx _ _ ⟨acc++rs,_,_,_,_,_,_,by lia,rfl,dr.app d1,⟨by have:=lr.1;simp;lia,by have:=lr.2;rw [df];lia⟩,by rw [Mem.upd_same,cv],by
    rw [hB];refine ⟨K'.tf.upd nel,fun z o z1 z2 z3 ez=>?_⟩;rw [ao (fun q=>by rw [q,hl] at ez;cases ez)]
    exact K'.kp z o z1 z2 z3 ez⟩
  have one:pH ad (S_q28 ad n) (S_q4 ad n) (aN E) D' [some (.ref k.p),some (.ref f),some (.int (m:Nat)),some (.int (deep:Nat)),some (.ref l),some x,some (.int way),c7,c8,c9,c10] M2:=by
   simp! [h2l];refine calls_of fun Q' E' hq _=>nD (b:=B) ok (K2.tf.le (by lia)) fun r M3 hr d3=>hq _ _ ?_
   have h3l:M3 l=some (.lst (aB acc)):=by rw [d3.2 l nel.1 nel.2.1];exact h2l
   have:=fin [r] (some (.int way)) c7 c8 c9 c10 M3 (Drn.one hr) ⟨by simp,by simp only [gM,hr.wt];have:=AQ deep;lia⟩ (K2.dr d3) h3l
   simp only [aB] at this;cases r with
   |ifr=>exact hr.elim
   |again=>exact hr.elim
   |_=>
    simp only [Rw.d] at this;simp! [Rw.d,h3l];exact ⟨fP (by lia),this⟩
  show pw ad (S_q28 ad n) (S_q4 ad n) (aN E) D' [some (.ref k.p),some (.ref f),some (.int (m:Nat)),some (.int (deep:Nat)),some (.ref l),some x,some (.int way),c7,c8,c9,c10] M2;unfold pw ui;generalize pH ad (S_q28 ad n) (S_q4 ad n) (aN E)=K7 at one ⊢;simp! [e2,qe]
  by_cases c0:(0:Int)<(deep:Nat)
  ·rw [if_pos c0]
   by_cases c1:0<l2
   ·rw [if_pos c1]
    obtain ⟨dp,rfl⟩:∃dp,deep=dp+1:=⟨deep-1,by lia⟩
    have hQ:1<=100 ^ dp:=Nat.one_le_pow _ _ (by decide)
    have hQs:100 ^ (dp+1)=100*100 ^ dp:=by rw [Nat.pow_succ,Nat.mul_comm]
    by_cases c2:way=0
    ·rw [if_pos c2]
     simp! [h2l];refine calls_of fun Q' E' hq _=>ihl dp B _ _ _ (by lia) (K2.tf.le (by lia)) fun rs l3 M3 dr3 lr K3 h3 _=>hq _ _ ?_
     have h3l:M3 l=some (.lst (aB acc)):=K3.kp l _ nel.1 nel.2.1 nel.2.2 h2l;have hrl:(aB rs).length<=3:=by rw [cV];exact lr.1
     simp! [Mem.upd_del,ah h3,h3l];exact ⟨szl (by lia),fin rs _ _ _ _ _ M3 dr3 lr (K2.trans K3) h3l⟩
    ·rw [if_neg c2]
     rw [if_pos c0,if_pos c1]
     by_cases c3:way<3
     ·rw [if_pos c3]
      simp! [e2,eJ,List.length_map];refine aJ (b:=B+(100*100 ^ (dp+1)-2)) (K2.tf.has.le (by lia)) (by lia) (by lia) fun r3 M3 a3 b3 d3=>?_
      obtain ⟨y,hy,ey⟩:=rO a3 b3;have K3:=K2.dr d3;have h3l:M3 l=some (.lst (aB acc)):=by rw [d3.2 l nel.1 nel.2.1];exact h2l
      simp! [ey];refine aJ (b:=B+(100*100 ^ (dp+1)-3)) (K3.tf.has.le (by lia)) (by decide) (by decide) fun m4 M4 a4 b4 d4=>?_
      obtain ⟨m4,rfl⟩:=Int.eq_ofNat_of_zero_le a4;have K4:=K3.dr d4;have h4l:M4 l=some (.lst (aB acc)):=by rw [d4.2 l nel.1 nel.2.1];exact h3l
      have ed:((dp+1:Nat):Int)-1=(dp:Nat):=by lia
      have hm4:m4*100 ^ (dp+1)<=2*100 ^ (dp+1):=Nat.mul_le_mul_right _ (by lia)
      simp! [ed];refine calls_of fun Q' E' hq _=>ih m4 dp (B+(10+3*100 ^ (dp+1))) _ _ _ (by lia) (by lia) (K4.tf.le (by lia)) fun r5 l5 M5 dr5 lr5 K5 h5 _=>hq _ _ ?_
      have K5':=K4.trans K5;have h5l:M5 l=some (.lst (aB acc)):=K5.kp l _ nel.1 nel.2.1 nel.2.2 h4l;simp! [Mem.upd_del,ah h5];refine aJ (b:=B+(9+3*100 ^ (dp+1))) (K5'.tf.has.le (by lia)) (by decide) (by decide) fun m6 M6 a6 b6 d6=>?_
      obtain ⟨m6,rfl⟩:=Int.eq_ofNat_of_zero_le a6;have K6:=K5'.dr d6;have h6l:M6 l=some (.lst (aB acc)):=by rw [d6.2 l nel.1 nel.2.1];exact h5l
      have hm6:m6*100 ^ (dp+1)<=2*100 ^ (dp+1):=Nat.mul_le_mul_right _ (by lia)
      simp! [ed];refine calls_of fun Q' E' hq _=>ih m6 dp B _ _ _ (by lia) (by lia) (K6.tf.le (by lia)) fun r7 l7 M7 dr7 lr7 K7' h7 _=>hq _ _ ?_
      have h7l:M7 l=some (.lst (aB acc)):=K7'.kp l _ nel.1 nel.2.1 nel.2.2 h6l;have w5:gM r5<=2*wd dp:=Nat.le_trans lr5.2 (Nat.mul_le_mul_right _ (by lia))
      have w7:gM r7<=2*wd dp:=Nat.le_trans lr7.2 (Nat.mul_le_mul_right _ (by lia))
      have:=fin [.ifr y r5 r7] (some (.int way)) (some (.lst (names.map D.str))) (some (.str y)) (some (.lst (aB r5))) (some (.lst (aB r7))) M7 (Drn.ifr hy dr5 dr7 (by have:=lr5.1;lia) (by have:=lr7.1;lia)) ⟨by simp,by simp only [gM,wR,wd];lia⟩ (K6.trans K7') h7l
      simp only [aB,Rw.d] at this;simp! [Mem.upd_del,ah h7,h7l];exact ⟨szl (by decide),fP (by lia),this⟩
     ·rw [if_neg c3]
      exact one
   ·rw [if_neg c1,if_pos c0,if_neg c1]
    exact one
  ·rw [if_neg c0,if_neg c0]
   exact one
theorem fg(ok:FrOk w many names):∀n,PLo ad k f w many names n/\PRo ad k f w many names n
 |0=>⟨fun deep b M Q E hn=>by lia,fun m deep b M Q E hm hn=>by lia⟩
 |n+1=>⟨sW ok (fg ok n).2,oO ok (fg ok n).1 (fg ok n).2⟩
end
end Tw
namespace Tw
open PySem L2 L3
structure PlT(w many:Int)(names:List Str)(rows:List Rw)(mk:Str):Prop where
 f:FrOk w many names
 r:Drn names w many 4 rows
 l:rows.length<=27
 m:mk∈names
 wt:gM rows<=5364
def mW(w many:Int)(names:List Str)(rows:List Rw)(mk:Str):D:=.tup [.int w,.tup (names.map D.str),.int many,.tup (aB rows),.str mk]
structure Kq(k:Pt)(b:Nat)(M M':Mem):Prop where
 has:Has k b M'
 kp:∀x o,x≠k.p->x≠k.q->M x=some o->M' x=some o
section
variable {ad:Ad}{k:Pt}{b c:Nat}{M M1 M2:Mem}{Q:DK}{E:DX}
theorem Dr.kq(d:Dr k b M M1):Kq k b M M1:=⟨d.1,fun x o h1 h2 e=>by rw [d.2 x h1 h2];exact e⟩
theorem Kq.trans(x:Kq k b M M1)(y:Kq k c M1 M2):Kq k c M M2:=⟨y.has,fun z o h1 h2 e=>y.kp z o h1 h2 (x.kp z o h1 h2 e)⟩
theorem sY{most:Nat}(hm:most<=9)(hp:Has k (b+(10+9*100 ^ 5)) M)(h:∀(w many:Int) (names:List Str) (rows:List Rw) (mk:Str) (M':Mem),PlT w many names rows mk->Kq k b M M'->Q (mW w many names rows mk) M'):pT ad [.ref k.p,.int (most:Nat)] M Q E:=by
 simp! [DF,mG];refine ⟨szl (by decide),fun p1 h1=>?_⟩
 simp only [Mem.upd_del,ah h1];refine aJ (b:=b+(9+9*100 ^ 5)) hp (by decide) (by decide) fun x1 M1 a1 b1 d1=>?_
 obtain ⟨w,ew,w2,w1⟩:∃w:Int,atI [D.int 2,.int 3,.int 3,.int 5,.int 7,.int 11,.int 97,.int 997] x1=some (.int w)/\2<=w/\w<=997:=by
  have:x1=0\/x1=1\/x1=2\/x1=3\/x1=4\/x1=5\/x1=6\/x1=7:=by omega
  rcases this with rfl|rfl|rfl|rfl|rfl|rfl|rfl|rfl
  all_goals exact ⟨_,rfl,by decide,by decide⟩
 simp! [ew];intro f hf;have nef:=d1.1.nep hf;refine calls_of fun Q' E' hq _=>pE (b:=b+(6+9*100 ^ 5)) (d1.1.upd nef) fun names M2 q2 nm d2 h2=>hq _ _ ?_;have e2:M2 f=some (.dK []):=by rw [d2.2 f nef.1 nef.2,Mem.upd_same]
 simp! [Mem.upd_del,ah h2,e2];refine ⟨.inl ⟨by decide,by omega⟩,by decide,szl (by decide),fun f2 hf2=>?_⟩
 have ek:eE [Sum.inr "wheel",Sum.inr "names",Sum.inr "left"] [D.int w,.lst (names.map D.str),.int (4*(most:Nat))]=([(Sum.inr "wheel",.int w),(Sum.inr "names",.lst (names.map D.str)),(Sum.inr "left",.int (4*(most:Nat)))]:List (aT×D)):=by simp [eE,cJ,br]
 rw [ek] at hf2 ⊢;generalize hM3:M2.upd f (MO.dK ([(Sum.inr "wheel",.int w),(Sum.inr "names",.lst (names.map D.str)),(Sum.inr "left",.int (4*(most:Nat)))]:List (aT×D)))=M3 at hf2 ⊢;have hm3:Has k (b+(6+9*100 ^ 5)) M3:=by rw [<- hM3];exact d2.1.upd nef
 have e3:M3 f=some (MO.dK ([(Sum.inr "wheel",.int w),(Sum.inr "names",.lst (names.map D.str)),(Sum.inr "left",.int (4*(most:Nat)))]:List (aT×D))):=by rw [<- hM3];exact Mem.upd_same
 simp only [Mem.upd_del,ah hf2];refine aJ (b:=b+(5+9*100 ^ 5)) hm3 (by decide) (by decide) fun x4 M4 a4 b4 d4=>?_
 obtain ⟨many,em,m0,m1⟩:∃w:Int,atI [D.int 0,.int 1,.int 2,.int 3,.int 4,.int 6] x4=some (.int w)/\0<=w/\w<=6:=by
  have:x4=0\/x4=1\/x4=2\/x4=3\/x4=4\/x4=5:=by omega
  rcases this with rfl|rfl|rfl|rfl|rfl|rfl
  all_goals exact ⟨_,rfl,by decide,by decide⟩
 have e4:M4 f=some (MO.dK ([(Sum.inr "wheel",.int w),(Sum.inr "names",.lst (names.map D.str)),(Sum.inr "left",.int (4*(most:Nat)))]:List (aT×D))):=by rw [d4.2 f nef.1 nef.2];exact e3
 have ep:cJ ([(Sum.inr "wheel",.int w),(Sum.inr "names",.lst (names.map D.str)),(Sum.inr "left",.int (4*(most:Nat)))]:List (aT×D)) (Sum.inr "many") (.int many)=lX w names (4*(most:Nat)) many:=by simp [cJ,lX,br]
 simp! [em,e4,ep];clear hq ek;refine ⟨?_,?_⟩
 ·exact fP (by decide)
 have hm4:Has k (b+(5+9*100 ^ 5)) (M4.upd f (.dK (lX w names (4*(most:Nat)) many))):=d4.1.upd nef;refine aJ (b:=b+(4+9*100 ^ 5)) hm4 (by omega) (by omega) fun x5 M5 a5 b5 d5=>?_
 have e5:M5 f=some (.dK (lX w names (4*(most:Nat)) many)):=by rw [d5.2 f nef.1 nef.2,Mem.upd_same]
 obtain ⟨m5,rfl⟩:=Int.eq_ofNat_of_zero_le a5;have ok:FrOk w many names:=⟨w2,w1,m0,m1,nm⟩;have hm5:m5*100 ^ 5<=9*100 ^ 5:=Nat.mul_le_mul_right _ (by omega)
 simp! [];refine calls_of fun Q' E' hq _=>(fg ok 24).2 m5 4 (b+4) _ _ _ (by omega) (by omega) ⟨d5.1.le (by omega),nef.1,nef.2,_,e5⟩ fun rs l M6 dr6 lr6 K6 h6 h6'=>hq _ _ ?_
 obtain ⟨left,e6⟩:=K6.tf.fr;simp! [e6,eJ,lz,Mem.upd_del,ah h6,List.length_map];have n0:=nm.n0;have n1:=nm.n1;refine aJ (b:=b) (K6.tf.has.le (by omega)) (by omega) (by omega) fun x7 M7 a7 b7 d7=>?_
 obtain ⟨mk,hmk,emk⟩:=rO a7 b7;have e7:M7 f=some (.dK (lX w names left many)):=by rw [d7.2 f nef.1 nef.2];exact e6
 simp! [emk,e7,eJ,lz];refine ⟨szl (by decide),ay (h w many names rs mk M7 ⟨ok,dr6,by have:=lr6.1;omega,hmk,Nat.le_trans lr6.2 (Nat.le_trans (Nat.mul_le_mul_right _ (by omega:m5<=9)) (by decide))⟩ ⟨d7.1,fun x o z1 z2 e=>?_⟩)⟩
 have zf:x≠f:=fun z=>by subst z;rw [d1.2 x z1 z2,e] at hf;cases hf
 rw [d7.2 x z1 z2];refine K6.kp x o z1 z2 zf ?_;rw [d5.2 x z1 z2,ao zf,d4.2 x z1 z2,<- hM3,ao zf,d2.2 x z1 z2,ao zf,d1.2 x z1 z2];exact e
end
end Tw
namespace Tw
open PySem L2 L3
structure Hk where
 h:Addr
 dn:Addr
 lr:Addr
 n1:h≠dn
 n2:h≠lr
 n3:dn≠lr
def hD(k:Hk)(c:Cf)(left:Int):List (aT×D):=[(Sum.inr "numbers",.ref k.dn),(Sum.inr "pieces",.tup (c.pieces.map D.int)),(Sum.inr "read",.ref k.lr),(Sum.inr "wheel",.int c.m),(Sum.inr "left",.int left)]
def hM(k:Hk)(c:Cf)(left:Int)(n:gm)(rd:List Int)(M:Mem):Mem:=((M.upd k.h (.dK (hD k c left))).upd k.dn (.dK (kvD n))).upd k.lr (.lst (rd.map D.int))
section
variable {ad:Ad}{k:Hk}{c:Cf}{left v:Int}{n n':gm}{rd rd':List Int}{M:Mem}{names:List Str}{Q:DK}{E:DX}
theorem fK:cb (hD k c left) (Sum.inr "numbers")=some (.ref k.dn):=by simp [cb,hD,br]
theorem tS:cb (hD k c left) (Sum.inr "pieces")=some (.tup (c.pieces.map D.int)):=by simp [cb,hD,br]
theorem yv:cb (hD k c left) (Sum.inr "read")=some (.ref k.lr):=by simp [cb,hD,br]
theorem oa:cb (hD k c left) (Sum.inr "wheel")=some (.int c.m):=by simp [cb,hD,br]
theorem rV:cb (hD k c left) (Sum.inr "left")=some (.int left):=by simp [cb,hD,br]
theorem Bt:cJ (hD k c left) (Sum.inr "left") (.int v)=hD k c v:=by simp [cJ,hD,br]
theorem eg:hM k c left n rd M k.h=some (.dK (hD k c left)):=by unfold hM;rw [ao k.n2,ao k.n1,Mem.upd_same]
theorem cQ:hM k c left n rd M k.dn=some (.dK (kvD n)):=by unfold hM;rw [ao k.n3,Mem.upd_same]
theorem jR:hM k c left n rd M k.lr=some (.lst (rd.map D.int)):=by unfold hM;rw [Mem.upd_same]
theorem CA:(hM k c left n rd M).upd k.h (.dK (hD k c v))=hM k c v n rd M:=by unfold hM;rw [bd k.n2.symm,bd k.n1.symm,Mem.upd_upd]
theorem vT:(hM k c left n rd M).upd k.dn (.dK (kvD n'))=hM k c left n' rd M:=by unfold hM;rw [bd k.n3.symm,Mem.upd_upd]
theorem Do:(hM k c left n rd M).upd k.lr (.lst (rd'.map D.int))=hM k c left n rd' M:=by unfold hM;rw [Mem.upd_upd]
theorem jZ:∀rd:List Int,dH 60 (rd.map D.int)=true
 |[]=>rfl
 |v::rd=>by
  have:=jZ rd;simp only [List.map_cons,dH,Bool.and_eq_true];exact ⟨rfl,this⟩
theorem jP{x:Str}{a:D}{rest:List D}{p:Int}{D':DEnds}{EE:DX}{c4 c5 c6:Option D}(hc:COk c)(hn:NOk names c.m n)(hnl:names.length<=1000)(hx:x∈names)(p0:0<=p)(p1:p<c.pieces.length)(hl:rd.length<=10000)
  (h:∀rd',rd'.length<=rd.length+1->D'.nx [some (.ref k.h),some (.tup (a::.str x::rest)),some (.ref k.dn),some (.int p),c4,c5,c6] (hM k c left (sN n x ((c.pieces[p.toNat]?).getD 0)) rd' M)):
  gg ad EE D' [some (.ref k.h),some (.tup (a::.str x::rest)),some (.ref k.dn),some (.int p),c4,c5,c6] (hM k c left n rd M):=by
 have hk:(kvD n).length<sizeLine:=by rw [kvD,List.length_map,<- List.length_map (f:=(·.1)),hn.keys];exact fP (by lia)
 have pt:∀{x:Str} {v:Int},x∈names->cJ (kvD n) (Sum.inr x) (.int v)=kvD (sN n x v):=fun hx=>i6 (by rw [hn.keys];exact hx)
 have ep:atI (c.pieces.map D.int) p=some (.int ((c.pieces[p.toNat]?).getD 0)):=by
  rw [bY p0,List.getElem?_map,(hc.piece (i:=p.toNat) (by lia)).1]
  rfl
 have st:∀rd':List Int,rd'.length<=rd.length+1->lw ad EE D' [some (.ref k.h),some (.tup (a::.str x::rest)),some (.ref k.dn),some (.int p),c4,c5,c6] (hM k c left n rd' M):=fun rd' hr=>by
  simp! [cQ,eg,tS,atI_1,ep,pt hx,vT];exact ⟨hk,h rd' hr⟩
 unfold gg;generalize lw ad EE=K at st ⊢;simp! [eg,yv,jR,jZ,List.length_map]
 split
 ·refine ⟨fP (by lia),?_⟩
  have:=st (rd++[p]) (by simp)
  rw [<- Do (rd:=rd),List.map_append] at this;exact this
 ·exact st rd (by lia)
theorem wr{w x y z:Str}{D':DEnds}{EE:DX}{c3 c6:Option D}(hc:COk c)(hn:NOk names c.m n)(hnl:names.length<=1000)(hr:RwOk names c.m c.pieces.length (.two w x y z))
  (h:∀d M',(∀b o,hM k c left (sN n x (x6 w (nm n y) (nm n z) c.m)) rd M b=some o->M' b=some o)->D'.nx [some (.ref k.h),some (.tup [.str w,.str x,.str y,.str z]),some (.ref k.dn),c3,some (.int (nm n y)),some (.int (nm n z)),some d] M'):
  iJ ad EE D' [some (.ref k.h),some (.tup [.str w,.str x,.str y,.str z]),some (.ref k.dn),c3,some (.int (nm n y)),some (.int (nm n z)),c6] (hM k c left n rd M):=by
 have hk:(kvD n).length<sizeLine:=by rw [kvD,List.length_map,<- List.length_map (f:=(·.1)),hn.keys];exact fP (by lia)
 have pt:∀{x:Str} {v:Int},x∈names->cJ (kvD n) (Sum.inr x) (.int v)=kvD (sN n x v):=fun hx=>i6 (by rw [hn.keys];exact hx)
 have a1:=hn.at hr.2.2.1;have a2:=hn.at hr.2.2.2;have hmul:CMul (nm n y) (nm n z):=.inl ⟨by have:=hc.m1;lia,by have:=hc.m1;lia⟩
 unfold iJ;generalize hK:qc ad EE=K;simp only [aw,aF,kg];intro p hp;have n1:k.h≠p:=fun e=>by rw [<- e,eg] at hp;cases hp
 have n2:k.dn≠p:=fun e=>by rw [<- e,cQ] at hp;cases hp
 have e1:∀o,((hM k c left n rd M).upd p o) k.h=some (.dK (hD k c left)):=fun o=>by rw [ao n1,eg]
 simp! [e1,oa];have m2:=hc.m2;refine ⟨by lia,hmul,by lia,by decide,?_⟩
 rw [Mem.upd_upd];have ev:cb (eE [Sum.inr "sum",Sum.inr "less",Sum.inr "by",Sum.inr "same"] [D.int ((nm n y+nm n z) % c.m),D.int (if nm n y<nm n z then 1 else 0),D.int (nm n y*nm n z % c.m),D.int (if nm n y=nm n z then 1 else 0)]) (Sum.inr w)=some (.int (x6 w (nm n y) (nm n z) c.m)):=by
  have w1:w="sum"\/w="by"\/w="less"\/w="same":=hr.1;rcases w1 with rfl|rfl|rfl|rfl
  all_goals simp [cb,eE,cJ,x6,br]
 generalize eE [Sum.inr "sum",Sum.inr "less",Sum.inr "by",Sum.inr "same"] [D.int ((nm n y+nm n z) % c.m),D.int (if nm n y<nm n z then 1 else 0),D.int (nm n y*nm n z % c.m),D.int (if nm n y=nm n z then 1 else 0)]=al at ev ⊢
 have e2:((hM k c left n rd M).upd p (.dK al)) k.dn=some (.dK (kvD n)):=by rw [ao n2,cQ]
 rw [<- hK];simp! [Mem.upd_same,atI_0,atI_1,ev,e2,pt hr.2.1];refine ⟨hk,h _ _ fun b o e=>?_⟩;rw [bd n2.symm,vT];have:b≠p:=fun q=>by
  subst q;unfold hM at hp e;rw [ao (fun q=>by rw [q,Mem.upd_same] at hp;cases hp)] at e hp
  rw [ao n2.symm] at e hp;rw [e] at hp;cases hp
 rw [ao this];exact e
theorem sS{r:Rw}(hc:COk c)(hn:NOk names c.m n)(hnl:names.length<=1000)(hr:RwOk names c.m c.pieces.length r)(hl:rd.length<=10000)
  (h:∀rd',rd'.length<=rd.length+1->Q .non (hM k c left (sN n (oj r) (num c n r)) rd' M)):rT ad [.ref k.h,r.d] (hM k c left n rd M) Q E:=by
 have hk:(kvD n).length<sizeLine:=by rw [kvD,List.length_map,<- List.length_map (f:=(·.1)),hn.keys];exact fP (by lia)
 have pt:∀{x:Str} {v:Int},x∈names->cJ (kvD n) (Sum.inr x) (.int v)=kvD (sN n x v):=fun hx=>i6 (by rw [hn.keys];exact hx)
 cases r with
 |put x v=>
  simp only [qI];unfold gE fb;generalize eV ad (aN E)=K;simp! [eg,fK,Rw.d,cQ,atI_0,atI_1,atI_2,pt hr.1,vT];exact ⟨hk,ay (h rd (by lia))⟩
 |take x i=>
  have tl:=jP (ad:=ad) (k:=k) (left:=left) (M:=M) (a:=.str "take") (rest:=[.int i]) (p:=i) (D':={ nx:=fun _ M'=>drp Q .non M',rt:=drp Q }) (EE:=aN E) (c4:=none) (c5:=none) (c6:=none) hc hn hnl hr.1 hr.2.1 hr.2.2 hl fun rd' l=>ay (h rd' l);simp only [qI];unfold gE fb eV io lM;generalize gg ad (aN E)=K at tl ⊢;generalize gh ad (aN E)=K11;simp! [eg,fK,Rw.d,cQ,atI_0,atI_1,atI_2];exact tl
 |pick x y=>
  have m0:=hr.2.2;have tl:=jP (ad:=ad) (k:=k) (left:=left) (M:=M) (a:=.str "pick") (rest:=[.str y]) (p:=nm n y % (c.pieces.length:Int)) (D':={ nx:=fun _ M'=>drp Q .non M',rt:=drp Q }) (EE:=aN E) (c4:=none) (c5:=none) (c6:=none) hc hn hnl hr.1 (Int.emod_nonneg _ (by lia)) (Int.emod_lt_of_pos _ (by lia)) hl fun rd' l=>ay (h rd' l)
  simp only [qI];unfold gE fb eV io lM;generalize gg ad (aN E)=K at tl ⊢;generalize gh ad (aN E)=K11;simp! [eg,fK,tS,Rw.d,cQ,atI_0,atI_1,atI_2,cF,(hn.at hr.2.1).1,Option.map_some,List.length_map];exact ⟨by lia,tl⟩
 |two w x y z=>
  have tl:=wr (ad:=ad) (k:=k) (left:=left) (M:=M) (rd:=rd) (D':={ nx:=fun _ M'=>drp Q .non M',rt:=drp Q }) (EE:=aN E) (c3:=none) (c6:=none) hc hn hnl hr fun d M' s=>⟨_,s,h rd (by lia)⟩
  simp only [qI];unfold gE fb eV gh mF;generalize io ad (aN E)=K7;generalize iJ ad (aN E)=K9 at tl ⊢;have w1:w="sum"\/w="by"\/w="less"\/w="same":=hr.1;rcases w1 with rfl|rfl|rfl|rfl
  all_goals
   simp! [Rw.d,cQ,eg,fK,oa,atI_0,atI_1,atI_2,atI_3,cF,(hn.at hr.2.2.1).1,(hn.at hr.2.2.2).1,Option.map_some];exact tl
 |ifr=>exact hr.elim
 |again=>exact hr.elim
end
end Tw
namespace Tw
open PySem L2 L3
def hS(k:Hk)(c:Cf)(s:Sx)(rd:List Int)(M:Mem):Mem:=hM k c ((c.most:Int)-s.steps.length) s.nums rd M
section
variable {ad:Ad}{k:Hk}{c:Cf}{names:List Str}{M:Mem}
def DJ(ad:Ad)(k:Hk)(c:Cf)(names:List Str)(n:Nat):Prop:=∀(rs:List Rw) (pl:List Int) (j:Nat) (s:Sx) (rd:List Int) (M:Mem) (Q:DK) (E:DX),cC names c.m c.pieces.length rs->fv rs+1<=n->NOk names c.m s.nums->s.steps.length<=c.most->rd.length<=s.steps.length->
 (∀rd',(bp c rs pl j s).1=true->rd'.length<=(bp c rs pl j s).2.steps.length->Q (.bl true) (hS k c (bp c rs pl j s).2 rd' M))->(∀l n rd',(bp c rs pl j s).1=false->Q (.bl false) (hM k c l n rd' M))->S_q38 ad n [.ref k.h,.tup (aB rs)] (hS k c s rd M) Q E
theorem ub{S:Sd}{EE:DX}{D':DEnds}{rw0:D}{w x:Str}{rest:List D}{c3 c4:Option D}{left:Int}{n:gm}{rd:List Int}(hn:NOk names c.m n)(hx:x∈names)
  (h1:left-1<0->D'.rt (.bl false) (hM k c (left-1) n rd M)) (h2:0<=left-1->dl ad S EE D' [some (.ref k.h),some rw0,some (.tup (.str w::.str x::rest)),c3,some (.bl (!decide (nm n x=0)))] (hM k c (left-1) n rd M)):
  ii ad S EE D' [some (.ref k.h),some rw0,some (.tup (.str w::.str x::rest)),c3,c4] (hM k c left n rd M):=by
 unfold ii qb qz;generalize dl ad S EE=K at h2 ⊢;simp! [eg,rV,Bt,CA,fK,cQ,atI_1,cF,(hn.at hx).1,Option.map_some];refine ⟨fP (by simp [hD]),?_⟩
 split
 ·rename_i q;exact h1 q
 ·exact h2 (by lia)
theorem BA{S:Sd}{EE:DX}{D':DEnds}{rw0:D}{w:Str}{rest:List D}{c3:Option D}{t:Bool}(w1:w≠"if")(w2:w≠"again")(h:D'.nx [some (.ref k.h),some rw0,some (.tup (.str w::rest)),some (.bl false),some (.bl t)] M):
  dl ad S EE D' [some (.ref k.h),some rw0,some (.tup (.str w::rest)),c3,some (.bl t)] M:=by
 simp! [atI_0,w1,w2,decide_false];exact h
theorem DZ{S:Sd}{EE:DX}{D':DEnds}{rw0:D}{x:Str}{a b:List Rw}{c3:Option D}{t:Bool}
  (h:∀(Q':DK) (E':DX),(∀M',D'.nx [some (.ref k.h),some rw0,some (.tup [.str "if",.str x,.tup (aB a),.tup (aB b)]),some (.bl false),some (.bl t)] M'->Q' (.bl true) M')->(∀M',D'.rt (.bl false) M'->Q' (.bl false) M')->S [.ref k.h,.tup (if t=true then aB a else aB b)] M Q' E'):
  dl ad S EE D' [some (.ref k.h),some rw0,some (.tup [.str "if",.str x,.tup (aB a),.tup (aB b)]),c3,some (.bl t)] M:=by
 unfold dl kT;generalize hK:ql ad S EE=K;cases t with
 |true=>
  simp! [atI_0,atI_2,decide_false,decide_true,show (3:Int)-1=2 from rfl];refine calls_of fun Q' E' hq _=>h Q' E' (fun M' z=>hq _ _ ?_) (fun M' z=>hq _ _ ?_)
  ·simp! [<- hK]
   exact z
  ·simp! []
   exact z
 |false=>
  simp! [atI_0,atI_3,decide_false,decide_true,show (3:Int)-0=3 from rfl];refine calls_of fun Q' E' hq _=>h Q' E' (fun M' z=>hq _ _ ?_) (fun M' z=>hq _ _ ?_)
  ·simp! [<- hK]
   exact z
  ·simp! []
   exact z
theorem uG{S:Sd}{EE:DX}{D':DEnds}{rw0:D}{x:Str}{a:List Rw}{c3:Option D}{t:Bool}
  (h0:t=false->D'.nx [some (.ref k.h),some rw0,some (.tup [.str "again",.str x,.tup (aB a)]),some (.bl false),some (.bl false)] M)
  (h:t=true->∀(Q':DK) (E':DX),(∀M',D'.nx [some (.ref k.h),some rw0,some (.tup [.str "again",.str x,.tup (aB a)]),some (.bl true),some (.bl true)] M'->Q' (.bl true) M')->(∀M',D'.rt (.bl false) M'->Q' (.bl false) M')->S [.ref k.h,.tup (aB a)] M Q' E'):
  dl ad S EE D' [some (.ref k.h),some rw0,some (.tup [.str "again",.str x,.tup (aB a)]),c3,some (.bl t)] M:=by
 unfold dl kT;cases t with
 |true=>
  simp! [atI_0,atI_2,decide_false,decide_true];refine calls_of fun Q' E' hq _=>h rfl Q' E' (fun M' z=>hq _ _ ?_) (fun M' z=>hq _ _ ?_)
  ·simp! []
   exact z
  ·simp! []
   exact z
 |false=>
  simp! [atI_0,atI_2,decide_false,decide_true];exact h0 rfl
end
end Tw
namespace Tw
open PySem L2 L3
section
variable {ad:Ad}{k:Hk}{c:Cf}{names:List Str}{M:Mem}
theorem rN{m many:Int}{r:Rw}(h:RwOk names m many r):∃w rest,r.d=.tup (.str w::.str (oj r)::rest)/\w≠("if":Str)/\w≠("again":Str)/\oj r∈names/\rg r=true:=by
 cases r with
 |put x v=>exact ⟨"put",[.int v],by simp only [Rw.d,oj],by simp [br],by simp [br],h.1,rfl⟩
 |take x v=>exact ⟨"take",[.int v],by simp only [Rw.d,oj],by simp [br],by simp [br],h.1,rfl⟩
 |pick x v=>exact ⟨"pick",[.str v],by simp only [Rw.d,oj],by simp [br],by simp [br],h.1,rfl⟩
 |two w x y z=>
  have w1:w="sum"\/w="by"\/w="less"\/w="same":=h.1;refine ⟨w,[.str y,.str z],by simp only [Rw.d,oj],?_,?_,h.2.1,rfl⟩
  all_goals rcases w1 with rfl|rfl|rfl|rfl
  all_goals simp [br]
 |ifr=>exact h.elim
 |again=>exact h.elim
theorem wh_on{c3:eI}{tb:aC}{D':DEnds}{bx:BxW c3 tb D'}{n:Nat}{δ:Dl}{M:Mem}(ht:∀K:Bool->Mem->Prop,K true M->c3 δ M K)(h:tb { D' with nx:=whileD c3 tb D' bx n,ct:=whileD c3 tb D' bx n,bk:=D'.nx } δ M):whileD c3 tb D' bx (n+1) δ M:=by
 unfold whileD;refine ht _ ?_;rw [if_pos rfl];exact h
theorem kW{c3:eI}{tb:aC}{D':DEnds}{bx:BxW c3 tb D'}{n:Nat}{δ:Dl}{M:Mem}(ht:∀K:Bool->Mem->Prop,K false M->c3 δ M K)(h:D'.nx δ M):whileD c3 tb D' bx (n+1) δ M:=by
 unfold whileD;refine ht _ ?_;rw [if_neg (by simp)]
 exact h
theorem oK{x0 x1 x2 x4:Option D}{t:Bool}(K:Bool->Mem->Prop)(h:K t M):gW (aa 3) [x0,x1,x2,some (.bl t),x4] M K:=by
 simp! [];exact h
theorem iw{n:Nat}{EE:DX}{D':DEnds}{r:Rw}{pl:List Int}{s:Sx}{rd:List Int}{rw0:D}{c3 c4:Option D}(hc:COk c)(hnl:names.length<=1000)(hr:RwOk names c.m c.pieces.length r)(hno:NOk names c.m s.nums)(hst:s.steps.length<=c.most)(hrd:rd.length<=s.steps.length)
  (h1:∀c3 c4 rd',(exR c r pl s).1=true->rd'.length<=(exR c r pl s).2.steps.length->D'.nx [some (.ref k.h),some rw0,some r.d,c3,c4] (hS k c (exR c r pl s).2 rd' M)) (h2:∀l n rd',(exR c r pl s).1=false->D'.rt (.bl false) (hM k c l n rd' M)):
  cZ ad (S_q38 ad n) EE D' [some (.ref k.h),some rw0,some r.d,c3,c4] (hS k c s rd M):=by
 obtain ⟨w,rest,ed,w1,w2,hx,hs⟩:=rN hr;have hm:=hc.most;rw [bh hs] at h1 h2;have tl:0<=((c.most:Int)-s.steps.length)-1->∀t,dR ad (S_q38 ad n) EE D' [some (.ref k.h),some rw0,some r.d,some (.bl false),some (.bl t)] (hM k c ((c.most:Int)-s.steps.length-1) s.nums rd M):=fun q t=>by
  have e:dO c r pl s=(true,⟨sN s.nums (oj r) (num c s.nums r),s.steps++[(pl,num c s.nums r)]⟩):=by unfold dO;rw [if_pos (by lia)]
  rw [e] at h1;simp! [ed,atI_0,w1,w2,decide_false];refine calls_of fun Q' E' hq _=>?_;rw [<- ed];refine sS hc hno hnl hr (by lia) fun rd' l=>hq _ _ ?_
  have:=h1 (some (.bl false)) (some (.bl t)) rd' rfl (by simp;lia)
  unfold hS at this;simp only [List.length_append,List.length_cons,List.length_nil] at this;have e3:(c.most:Int)-((s.steps.length+(0+1):Nat):Int)=(c.most:Int)-s.steps.length-1:=by lia
  rw [e3] at this;exact this
 unfold cZ ij;generalize dR ad (S_q38 ad n) EE=K8 at tl ⊢;rw [ed] at tl ⊢;simp only [aw,aF,dC,hName,List.set,dWhile];refine ⟨2,wh_on (fun K h=>oK K h) ?_⟩;unfold hS;have nd:((c.most:Int)-s.steps.length)-1<0->(dO c r pl s).1=false:=fun q=>by
  unfold dO;rw [if_neg (by lia)]
 refine ub hno hx (fun q=>h2 _ _ _ (nd q)) fun q=>?_;refine BA w1 w2 ?_;dsimp only;exact kW (n:=0) (fun K h=>oK K h) (tl q _)
theorem B4{n:Nat}(ih:DJ ad k c names n){EE:DX}{D':DEnds}{x:Str}{a b:List Rw}{pl:List Int}{s:Sx}{rd:List Int}{rw0:D}{c3 c4:Option D}(hc:COk c)(hx:x∈names)(hoa:cC names c.m c.pieces.length a)(hob:cC names c.m c.pieces.length b)(ha:fv a+1<=n)(hb:fv b+1<=n)(hno:NOk names c.m s.nums)(hst:s.steps.length<=c.most)(hrd:rd.length<=s.steps.length)
  (h1:∀c3 c4 rd',(exR c (.ifr x a b) pl s).1=true->rd'.length<=(exR c (.ifr x a b) pl s).2.steps.length->D'.nx [some (.ref k.h),some rw0,some (.tup [.str "if",.str x,.tup (aB a),.tup (aB b)]),c3,c4] (hS k c (exR c (.ifr x a b) pl s).2 rd' M)) (h2:∀l n rd',(exR c (.ifr x a b) pl s).1=false->D'.rt (.bl false) (hM k c l n rd' M)):
  cZ ad (S_q38 ad n) EE D' [some (.ref k.h),some rw0,some (.tup [.str "if",.str x,.tup (aB a),.tup (aB b)]),c3,c4] (hS k c s rd M):=by
 have hm:=hc.most;have tl:∀c4 M',D'.nx [some (.ref k.h),some rw0,some (.tup [.str "if",.str x,.tup (aB a),.tup (aB b)]),some (.bl false),c4] M'->dR ad (S_q38 ad n) EE D' [some (.ref k.h),some rw0,some (.tup [.str "if",.str x,.tup (aB a),.tup (aB b)]),some (.bl false),c4] M':=fun c4 M' z=>by
  simp! [atI_0,decide_false];exact z
 unfold cZ ij;generalize dR ad (S_q38 ad n) EE=K8 at tl ⊢;simp only [aw,aF,dC,hName,List.set,dWhile];refine ⟨2,wh_on (fun K h=>oK K h) ?_⟩;unfold hS;refine ub hno hx (fun q=>h2 _ _ _ ?_) fun q=>?_
 ·unfold exR nt
  rw [if_neg (by rw [if_neg (by lia)];simp),if_neg (by lia)]
 have e0:∀v,nt c pl v s=(true,⟨s.nums,s.steps++[(pl,v)]⟩):=fun v=>by unfold nt;rw [if_pos (by lia)]
 have e3:∀v,hM k c ((c.most:Int)-s.steps.length-1) s.nums rd M=hS k c ⟨s.nums,s.steps++[(pl,v)]⟩ rd M:=fun v=>by
  unfold hS;congr 1;simp only [List.length_append,List.length_cons,List.length_nil];lia
 refine DZ fun Q' E' g1 g2=>?_
 by_cases cz:nm s.nums x=0
 ·have el:lk s.nums x=0:=by unfold lk;rw [if_pos cz]
  have ee:exR c (.ifr x a b) pl s=bp c b (pl++[0]) 0 ⟨s.nums,s.steps++[(pl,0)]⟩:=by
   unfold exR;rw [el,e0,if_pos rfl,if_neg (by decide)]
  rw [ee] at h1 h2;rw [if_neg (by simp [cz]),e3 0]
  refine ih b (pl++[0]) 0 _ rd M Q' E' hob hb hno (by simp;lia) (by simp;lia) (fun rd' z1 z2=>g1 _ ?_) fun l n rd' z=>g2 _ (h2 l n rd' z)
  dsimp only;exact kW (n:=0) (fun K h=>oK K h) (tl _ _ (h1 _ _ rd' z1 z2))
 ·have el:lk s.nums x=1:=by unfold lk;rw [if_neg cz]
  have ee:exR c (.ifr x a b) pl s=bp c a (pl++[1]) 0 ⟨s.nums,s.steps++[(pl,1)]⟩:=by
   unfold exR;rw [el,e0,if_pos rfl,if_pos rfl]
  rw [ee] at h1 h2;rw [if_pos (by simp [cz]),e3 1]
  refine ih a (pl++[1]) 0 _ rd M Q' E' hoa ha hno (by simp;lia) (by simp;lia) (fun rd' z1 z2=>g1 _ ?_) fun l n rd' z=>g2 _ (h2 l n rd' z)
  dsimp only;exact kW (n:=0) (fun K h=>oK K h) (tl _ _ (h1 _ _ rd' z1 z2))
theorem so{n:Nat}(ih:DJ ad k c names n){EE:DX}{D':DEnds}{x:Str}{a:List Rw}{pl:List Int}{s:Sx}{rd:List Int}{rw0:D}{c3 c4:Option D}(hc:COk c)(hx:x∈names)(hoa:cC names c.m c.pieces.length a)(ha:fv a+1<=n)(hno:NOk names c.m s.nums)(hst:s.steps.length<=c.most)(hrd:rd.length<=s.steps.length)
  (h1:∀c3 c4 rd',(exR c (.again x a) pl s).1=true->rd'.length<=(exR c (.again x a) pl s).2.steps.length->D'.nx [some (.ref k.h),some rw0,some (.tup [.str "again",.str x,.tup (aB a)]),c3,c4] (hS k c (exR c (.again x a) pl s).2 rd' M)) (h2:∀l n rd',(exR c (.again x a) pl s).1=false->D'.rt (.bl false) (hM k c l n rd' M)):
  cZ ad (S_q38 ad n) EE D' [some (.ref k.h),some rw0,some (.tup [.str "again",.str x,.tup (aB a)]),c3,c4] (hS k c s rd M):=by
 have hm:=hc.most;have tl:∀c4 M',D'.nx [some (.ref k.h),some rw0,some (.tup [.str "again",.str x,.tup (aB a)]),some (.bl false),c4] M'->dR ad (S_q38 ad n) EE D' [some (.ref k.h),some rw0,some (.tup [.str "again",.str x,.tup (aB a)]),some (.bl false),c4] M':=fun c4 M' z=>by
  simp! [atI_0,decide_false];exact z
 unfold cZ ij;generalize dR ad (S_q38 ad n) EE=K8 at tl ⊢;simp only [aw,aF,dC,hName,List.set,dWhile];refine ⟨c.most+1+1,?_⟩;unfold exR at h1 h2
 have key:∀(f t:Nat) (s:Sx) (rd:List Int) (c4:Option D),NOk names c.m s.nums->s.steps.length<=c.most->c.most<s.steps.length+f->rd.length<=s.steps.length->
   (∀c3 c4 rd',(bS c x pl (fun t s=>bp c a (pl++[(t:Int)]) 0 s) f t s).1=true->rd'.length<=(bS c x pl (fun t s=>bp c a (pl++[(t:Int)]) 0 s) f t s).2.steps.length->D'.nx [some (.ref k.h),some rw0,some (.tup [.str "again",.str x,.tup (aB a)]),c3,c4] (hS k c (bS c x pl (fun t s=>bp c a (pl++[(t:Int)]) 0 s) f t s).2 rd' M))->
   (∀l n rd',(bS c x pl (fun t s=>bp c a (pl++[(t:Int)]) 0 s) f t s).1=false->D'.rt (.bl false) (hM k c l n rd' M))->
   whileD (gW (aa 3)) (ii ad (S_q38 ad n) EE) { nx:=K8 D',rt:=D'.rt,bk:=D'.bk,ct:=D'.ct } { } (f+1) [some (.ref k.h),some rw0,some (.tup [.str "again",.str x,.tup (aB a)]),some (.bl true),c4] (hS k c s rd M):=by
  intro f
  induction f with
  |zero=>intro t s rd c4 hno hst hf;lia
  |succ f ihf=>
   intro t s rd c4 hno hst hf hrd h1 h2;refine wh_on (fun K h=>oK K h) ?_;unfold hS;refine ub hno hx (fun q=>h2 _ _ _ ?_) fun q=>?_
   ·unfold bS nt
    rw [if_neg (by rw [if_neg (by lia)];simp),if_neg (by lia)]
   have e0:∀pl v,nt c pl v s=(true,⟨s.nums,s.steps++[(pl,v)]⟩):=fun pl v=>by unfold nt;rw [if_pos (by lia)]
   have e3:∀(pl:List Int) v,hM k c ((c.most:Int)-s.steps.length-1) s.nums rd M=hS k c ⟨s.nums,s.steps++[(pl,v)]⟩ rd M:=fun pl v=>by
    unfold hS;congr 1;simp only [List.length_append,List.length_cons,List.length_nil];lia
   refine uG (fun q=>?_) fun q Q' E' g1 g2=>?_
   ·have cz:nm s.nums x=0:=by simpa using q
    have el:lk s.nums x=0:=by unfold lk;rw [if_pos cz]
    have ee:bS c x pl (fun t s=>bp c a (pl++[(t:Int)]) 0 s) (f+1) t s=(true,⟨s.nums,s.steps++[(pl++[(t:Int)],0)]⟩):=by
     unfold bS;rw [el,e0,if_pos rfl,if_neg (by decide)]
    rw [ee] at h1 h2;rw [e3 (pl++[(t:Int)]) 0];dsimp only;exact kW (n:=f) (fun K h=>oK K h) (tl _ _ (h1 _ _ rd rfl (by simp;lia)))
   ·have cz:¬nm s.nums x=0:=by simpa using q
    have el:lk s.nums x=1:=by unfold lk;rw [if_neg cz]
    have ee:bS c x pl (fun t s=>bp c a (pl++[(t:Int)]) 0 s) (f+1) t s=if (bp c a (pl++[(t:Int)]) 0 ⟨s.nums,s.steps++[(pl++[(t:Int)],1)]⟩).1=true then bS c x pl (fun t s=>bp c a (pl++[(t:Int)]) 0 s) f (t+1) (bp c a (pl++[(t:Int)]) 0 ⟨s.nums,s.steps++[(pl++[(t:Int)],1)]⟩).2 else bp c a (pl++[(t:Int)]) 0 ⟨s.nums,s.steps++[(pl++[(t:Int)],1)]⟩:=by
     conv=>lhs;unfold bS
     rw [el,e0,if_pos rfl,if_pos rfl]
    rw [ee] at h1 h2;rw [e3 (pl++[(t:Int)]) 1];have hg:=cq (c:=c) a (pl++[(t:Int)]) 0 ⟨s.nums,s.steps++[(pl++[(t:Int)],1)]⟩;have hl1:(s.steps++[(pl++[(t:Int)],(1:Int))]).length=s.steps.length+1:=by simp
    have hno1:=cG hc a hoa (pl++[(t:Int)]) 0 ⟨s.nums,s.steps++[(pl++[(t:Int)],1)]⟩ hno;refine ih a (pl++[(t:Int)]) 0 _ rd M Q' E' hoa ha hno (by simp;lia) (by simp;lia) (fun rd' z1 z2=>g1 _ ?_) fun l n rd' z=>g2 _ (h2 l n rd' (by rw [if_neg (by rw [z];simp)];exact z))
    rw [if_pos z1] at h1 h2;have hg1:=hg.1;have hg2:=hg.2;simp only [hl1] at hg1 hg2;dsimp only;exact ihf (t+1) _ rd' _ hno1 (by lia) (by lia) z2 h1 h2
 exact key (c.most+1) 0 s rd c4 hno hst (by lia) hrd h1 h2
theorem zu(hc:COk c)(hnl:names.length<=1000){n:Nat}(ih:DJ ad k c names n):DJ ad k c names (n+1):=by
 intro rs pl j s rd M Q E hok hh hno hst hrd h1 h2;simp only [u_q38];unfold T_q38;simp! [↓dFor];refine forD_inv (fun xs δ N=>∃(rs':List Rw) (j':Nat) (s':Sx) (rd':List Int) (c2 c3 c4:Option D),xs=aB rs'/\δ=[some (.ref k.h),some (.tup (aB rs)),c2,c3,c4]/\N=hS k c s' rd' M/\cC names c.m c.pieces.length rs'/\fv rs'<=n/\NOk names c.m s'.nums/\s'.steps.length<=c.most/\rd'.length<=s'.steps.length/\bp c rs pl j s=bp c rs' pl j' s') (fun _ _ _ _=>bG) ?_ ?_ _ _ _ ⟨rs,j,s,rd,none,none,none,rfl,rfl,rfl,hok,by lia,hno,hst,hrd,rfl⟩
 ·rintro δ N ⟨rs',j',s',rd',c2,c3,c4,ex,rfl,rfl,ok',hh',hno',hst',hrd',ee⟩
  have:rs'=[]:=by cases rs' with|nil=>rfl|cons _ _=>simp [aB] at ex
  subst this;simp only [bp] at ee;rw [ee] at h1;simp! [];exact ay (h1 rd' rfl hrd')
 ·rintro x xs δ N ⟨rs',j',s',rd',c2,c3,c4,ex,rfl,rfl,ok',hh',hno',hst',hrd',ee⟩ D' hnx _ hrt _
  cases rs' with
  |nil=>simp [aB] at ex
  |cons r rs'=>
   simp only [aB,List.cons.injEq] at ex;obtain ⟨rfl,rfl⟩:=ex;simp only [cC] at ok';simp only [fv] at hh';have hg:=jw (c:=c) r (pl++[(j':Int)]) s';have hno1:=kQ hc r ok'.1 (pl++[(j':Int)]) s' hno'
   conv at ee=>rhs;unfold bp
   have g1:∀(c3 c4:Option D) (rd1:List Int),(exR c r (pl++[(j':Int)]) s').1=true->rd1.length<=(exR c r (pl++[(j':Int)]) s').2.steps.length->D'.nx [some (.ref k.h),some (.tup (aB rs)),some r.d,c3,c4] (hS k c (exR c r (pl++[(j':Int)]) s').2 rd1 M):=fun c3 c4 rd1 z1 z2=>
    hnx _ _ ⟨rs',j'+1,_,rd1,_,_,_,rfl,rfl,rfl,ok'.2,by lia,hno1,hg.2 hst',z2,by rw [ee,if_pos z1]⟩
   have g2:∀l n rd1,(exR c r (pl++[(j':Int)]) s').1=false->D'.rt (.bl false) (hM k c l n rd1 M):=fun l n rd1 z=>by
    rw [hrt];exact ay (h2 l n rd1 (by rw [ee,if_neg (by rw [z];simp)];exact z))
   simp only [hName,List.set];cases r with
   |ifr x a b=>
    simp only [Rw.d] at g1 ⊢;have o:=ok'.1;simp only [OkR] at o;simp only [hR] at hh';exact B4 ih hc o.1 o.2.1 o.2.2 (by lia) (by lia) hno' hst' hrd' g1 g2
   |again x a=>
    simp only [Rw.d] at g1 ⊢;have o:=ok'.1;simp only [OkR] at o;simp only [hR] at hh';exact so ih hc o.1 o.2 (by lia) hno' hst' hrd' g1 g2
   |put x v=>exact iw hc hnl (by simpa only [OkR] using ok'.1) hno' hst' hrd' g1 g2
   |take x v=>exact iw hc hnl (by simpa only [OkR] using ok'.1) hno' hst' hrd' g1 g2
   |pick x v=>exact iw hc hnl (by simpa only [OkR] using ok'.1) hno' hst' hrd' g1 g2
   |two w x y z=>exact iw hc hnl (by simpa only [OkR] using ok'.1) hno' hst' hrd' g1 g2
theorem pq(hc:COk c)(hnl:names.length<=1000):∀n,DJ ad k c names n
 |0=>fun rs pl j s rd M Q E _ h=>by lia
 |n+1=>zu hc hnl (pq hc hnl n)
end
end Tw
namespace Tw
open PySem L2 L3
section
variable {c c':Cf}
theorem kF(b:Bool):b=false\/b=true:=by cases b<;>simp
def Pre(s s':Sx):Prop:=∃t,s'.steps=s.steps++t
theorem Pre.refl{s:Sx}:Pre s s:=⟨[],by simp⟩
theorem Pre.trans{s s1 s2:Sx}(a:Pre s s1)(b:Pre s1 s2):Pre s s2:=by
 obtain ⟨t,e⟩:=a;obtain ⟨u,e'⟩:=b;exact ⟨t++u,by rw [e',e,List.append_assoc]⟩
theorem nt_pre{pl:List Int}{v:Int}{s:Sx}:Pre s (nt c pl v s).2:=by
 unfold nt;split
 ·exact ⟨[(pl,v)],rfl⟩
 ·exact Pre.refl
theorem gk{r:Rw}{pl:List Int}{s:Sx}:Pre s (dO c r pl s).2:=by
 unfold dO;split
 ·exact ⟨[(pl,num c s.nums r)],rfl⟩
 ·exact Pre.refl
theorem fW{x:Str}{pl:List Int}{body:Nat->Sx->Bool×Sx}(hb:∀t s,Pre s (body t s).2):∀(f t:Nat) (s:Sx),Pre s (bS c x pl body f t s).2
 |0,_,s=>Pre.refl
 |f+1,t,s=>by
  unfold bS
  split
  ·split
   ·split
    ·exact nt_pre.trans ((hb t _).trans (fW hb f (t+1) _))
    ·exact nt_pre.trans (hb t _)
   ·exact nt_pre
  ·exact nt_pre
mutual
theorem qi:∀(r:Rw) (pl:List Int) (s:Sx),Pre s (exR c r pl s).2
 |.ifr x a b,pl,s=>by
  unfold exR
  split
  ·split
   ·exact nt_pre.trans (cH a _ _ _)
   ·exact nt_pre.trans (cH b _ _ _)
  ·exact nt_pre
 |.again x a,pl,s=>by
  unfold exR;exact fW (fun t s=>cH a _ _ _) _ _ _
 |.put x k,pl,s=>by rw [bh rfl];exact gk
 |.take x k,pl,s=>by rw [bh rfl];exact gk
 |.pick x k,pl,s=>by rw [bh rfl];exact gk
 |.two w x y z,pl,s=>by rw [bh rfl];exact gk
theorem cH:∀(rs:List Rw) (pl:List Int) (j:Nat) (s:Sx),Pre s (bp c rs pl j s).2
 |[],_,_,s=>by unfold bp;exact Pre.refl
 |r::rs,pl,j,s=>by
  unfold bp
  split
  ·exact (qi r _ _).trans (cH rs _ _ _)
  ·exact qi r _ _
end
end
end Tw
namespace Tw
open PySem L2 L3
section
variable {c c':Cf}
structure More(c c':Cf):Prop where
 m:c'.m=c.m
 pieces:c'.pieces=c.pieces
 most:c.most<=c'.most
def MR(c:Cf)(r r':Bool×Sx):Prop:=(r.1=true->r'=r)/\(r.1=false->Pre r.2 r'.2/\(r'.1=true->c.most<r'.2.steps.length))
theorem Pre.len{s s':Sx}(h:Pre s s'):s.steps.length<=s'.steps.length:=by
 obtain ⟨t,e⟩:=h;rw [e];simp
theorem ib(h:More c c'){pl:List Int}{v:Int}{s:Sx}:MR c (nt c pl v s) (nt c' pl v s):=by
 have:=h.most;unfold nt
 by_cases q:s.steps.length<c.most
 ·rw [if_pos q,if_pos (by lia)]
  exact ⟨fun _=>rfl,fun e=>by cases e⟩
 ·rw [if_neg q]
  refine ⟨fun e=>(by cases e),fun _=>?_⟩
  split
  ·refine ⟨⟨[(pl,v)],rfl⟩,fun _=>?_⟩
   simp;lia
  ·exact ⟨Pre.refl,fun e=>by cases e⟩
theorem tT(h:More c c'){n:gm}:∀r:Rw,num c' n r=num c n r:=by
 intro r;cases r<;>simp [num,h.m,h.pieces]
theorem fj(h:More c c'){r:Rw}{pl:List Int}{s:Sx}:MR c (dO c r pl s) (dO c' r pl s):=by
 have:=h.most;unfold dO;rw [tT h]
 by_cases q:s.steps.length<c.most
 ·rw [if_pos q,if_pos (by lia)]
  exact ⟨fun _=>rfl,fun e=>by cases e⟩
 ·rw [if_neg q]
  refine ⟨fun e=>(by cases e),fun _=>?_⟩
  split
  ·refine ⟨⟨[(pl,num c s.nums r)],rfl⟩,fun _=>?_⟩
   simp;lia
  ·exact ⟨Pre.refl,fun e=>by cases e⟩
theorem MR.seq{r r':Bool×Sx}{f f':Sx->Bool×Sx}(h:MR c r r')(hf:r.1=true->MR c (f r.2) (f' r.2))(hp:∀s,Pre s (f' s).2):MR c (if r.1=true then f r.2 else r) (if r'.1=true then f' r'.2 else r'):=by
 rcases kF r.1 with e|e
 ·rw [if_neg (by rw [e];simp)]
  obtain ⟨h1,h2⟩:=h.2 e;refine ⟨fun z=>(by rw [e] at z;cases z),fun _=>?_⟩
  rcases kF r'.1 with e'|e'
  ·rw [if_neg (by rw [e'];simp)]
   exact ⟨h1,h2⟩
  ·rw [if_pos e']
   exact ⟨h1.trans (hp _),fun _=>Nat.lt_of_lt_of_le (h2 e') (hp _).len⟩
 ·have er:=h.1 e
  subst er;rw [if_pos e,if_pos e];exact hf e
theorem MR.refl{r:Bool×Sx}(h:r.1=true):MR c r r:=⟨fun _=>rfl,fun e=>by rw [h] at e;cases e⟩
theorem jW(h:More c c'){x:Str}{pl:List Int}{body body':Nat->Sx->Bool×Sx}(hg:∀t s,Gr c s (body t s).2)(hpb:∀t s,Pre s (body' t s).2)(hb:∀t s,s.steps.length<=c.most->MR c (body t s) (body' t s)):
  ∀(f f' t:Nat) (s:Sx),s.steps.length<=c.most->c.most<s.steps.length+f->c'.most<s.steps.length+f'->MR c (bS c x pl body f t s) (bS c' x pl body' f' t s)
 |0,_,_,s,h0,h1,_=>by lia
 |_,0,_,s,h0,_,h2=>by have:=h.most;lia
 |f+1,f'+1,t,s,h0,h1,h2=>by
  have hg1:=(nt_gr (c:=c) (pl:=pl++[(t:Int)]) (v:=lk s.nums x) (s:=s)).2 h0;unfold bS
  by_cases hl:lk s.nums x=1
  ·simp only [if_pos hl]
   refine MR.seq (f:=fun u=>if (body t u).1=true then bS c x pl body f (t+1) (body t u).2 else body t u) (f':=fun u=>if (body' t u).1=true then bS c' x pl body' f' (t+1) (body' t u).2 else body' t u) (ib h) (fun e=>?_) (fun u=>?_)
   ·have hlen:(nt c (pl++[(t:Int)]) (lk s.nums x) s).2.steps.length=s.steps.length+1:=by
     unfold nt at e ⊢
     split at e
     ·rename_i q;rw [if_pos q];simp
     ·cases e
    have hg2:=hg t (nt c (pl++[(t:Int)]) (lk s.nums x) s).2;have:=hg2.1;exact MR.seq (f:=bS c x pl body f (t+1)) (f':=bS c' x pl body' f' (t+1)) (hb t _ hg1) (fun _=>jW h hg hpb hb f f' (t+1) _ (hg2.2 hg1) (by lia) (by lia)) (fun u=>fW hpb _ _ _)
   ·split
    ·exact (hpb t u).trans (fW hpb _ _ _)
    ·exact hpb t u
  ·simp only [if_neg hl]
   have:=ib h (pl:=pl++[(t:Int)]) (v:=lk s.nums x) (s:=s);simpa using this
mutual
theorem uJ(h:More c c'):∀(r:Rw) (pl:List Int) (s:Sx),s.steps.length<=c.most->MR c (exR c r pl s) (exR c' r pl s)
 |.ifr x r1 r2,pl,s,h0=>by
  have hg1:=(nt_gr (c:=c) (pl:=pl) (v:=lk s.nums x) (s:=s)).2 h0;unfold exR
  by_cases hl:lk s.nums x=1
  ·simp only [if_pos hl]
   exact MR.seq (f:=bp c r1 (pl++[lk s.nums x]) 0) (f':=bp c' r1 (pl++[lk s.nums x]) 0) (ib h) (fun _=>cW h r1 _ _ _ hg1) (fun u=>cH r1 _ _ _)
  ·simp only [if_neg hl]
   exact MR.seq (f:=bp c r2 (pl++[lk s.nums x]) 0) (f':=bp c' r2 (pl++[lk s.nums x]) 0) (ib h) (fun _=>cW h r2 _ _ _ hg1) (fun u=>cH r2 _ _ _)
 |.again x r1,pl,s,h0=>by
  unfold exR;have:=h.most;exact jW h (fun t s=>cq r1 _ _ _) (fun t s=>cH r1 _ _ _) (fun t s hs=>cW h r1 _ _ _ hs) _ _ _ _ h0 (by lia) (by lia)
 |.put x k,pl,s,h0=>by rw [bh rfl,bh rfl];exact fj h
 |.take x k,pl,s,h0=>by rw [bh rfl,bh rfl];exact fj h
 |.pick x k,pl,s,h0=>by rw [bh rfl,bh rfl];exact fj h
 |.two w x y z,pl,s,h0=>by rw [bh rfl,bh rfl];exact fj h
theorem cW(h:More c c'):∀(rs:List Rw) (pl:List Int) (j:Nat) (s:Sx),s.steps.length<=c.most->MR c (bp c rs pl j s) (bp c' rs pl j s)
 |[],_,_,s,_=>by simp only [bp];exact MR.refl rfl
 |r::rs,pl,j,s,h0=>by
  unfold bp;exact MR.seq (f:=bp c rs pl (j+1)) (f':=bp c' rs pl (j+1)) (uJ h r _ _ h0) (fun _=>cW h rs _ _ _ ((jw r _ _).2 h0)) (fun u=>cH rs _ _ _)
end
end
end Tw
namespace Tw
open PySem L2 L3
section
variable {te:bM}{M:Mem}
theorem lJ{tt:eI}{ok:Mem->Prop}{Q:List D->Mem->Prop}{b:BxC (hName 0) tt te ok Q}{rest:Dl}{c:Option D}{xs:List D}(p:D->Bool)(f:D->D)(ho:ok M)(hl:xs.length<=100000)
  (ht:∀x∈xs,∀K:Bool->Mem->Prop,K (p x) M->tt (some x::rest) M K) (he:∀x∈xs,p x=true->∀K:DK,K (f x) M->te (some x::rest) M K) (h:Q ((xs.filter p).map f) M):
  cI (hName 0) tt te ok Q b xs [] (c::rest) M:=by
 refine ce (fun ys acc δ N=>∃(us:List D) (c0:Option D),xs=us++ys/\acc=(us.filter p).map f/\δ=c0::rest/\M=N) (fun _ _ _ _ z=>by obtain ⟨_,_,_,_,_,rfl⟩:=z;exact ho) ?_ ?_ ?_ _ _ _ _ ⟨[],c,rfl,rfl,rfl,rfl⟩
 ·rintro acc δ N ⟨us,c0,e1,rfl,rfl,rfl⟩
  rw [List.append_nil] at e1;subst e1;exact h
 ·rintro y ys acc δ N ⟨us,c0,e1,rfl,rfl,rfl⟩ N' hN1 hN2
  have hy:y∈xs:=by rw [e1];simp
  have h2:=congrArg List.length e1;simp only [List.length_append,List.length_cons] at h2;have h3:=List.length_filter_le p us;simp only [hName,List.set];refine ht y hy _ ?_;cases hp:p y with
  |true=>
   rw [if_pos rfl];exact he y hy hp _ (hN1 _ _ _ (by rw [List.length_map];exact fP (by lia)) ⟨us++[y],_,by simp [e1],by simp [hp],rfl,rfl⟩)
  |false=>
   rw [if_neg (by simp)]
   exact hN2 .non _ _ ⟨us++[y],_,by simp [e1],by simp [hp],rfl,rfl⟩
 ·rintro y ys acc δ N ⟨us,c0,e1,rfl,rfl,rfl⟩
  have h2:=congrArg List.length e1;simp only [List.length_append,List.length_cons] at h2;have h3:=List.length_filter_le p us;rw [List.length_map];exact fP (by lia)
theorem j9{ok:Mem->Prop}{Q:List D->Mem->Prop}{b:BxC (hName 0) cL te ok Q}{rest:Dl}{c:Option D}{xs:List D}(f:D->D)(ho:ok M)(hl:xs.length<=100000)
  (he:∀x∈xs,∀K:DK,K (f x) M->te (some x::rest) M K) (h:Q (xs.map f) M):cI (hName 0) cL te ok Q b xs [] (c::rest) M:=by
 refine lJ (fun _=>true) f ho hl (fun x _ K q=>q) (fun x hx _=>he x hx) ?_;rw [List.filter_eq_self.mpr fun _ _=>rfl];exact h
end
instance lawKey:LawfulBEq aT where
 eq_of_beq {a b} h:=by
  cases a<;>cases b
  ·exact congrArg Sum.inl (eq_of_beq (α:=Int) h)
  ·cases h
  ·cases h
  ·exact congrArg Sum.inr (eq_of_beq (α:=Str) h)
 rfl {a}:=by
  cases a
  ·exact beq_self_eq_true (α:=Int) _
  ·exact beq_self_eq_true (α:=Str) _
def kD:aT->D
 |.inl i=>.int i
 |.inr x=>.str x
theorem kD_inj{a b:aT}(h:kD a=kD b):a=b:=by
 cases a<;>cases b<;>simp only [kD] at h<;>cases h<;>rfl
theorem vi(a b:aT):aZ (kD a) (kD b)=decide (a=b):=by
 cases a<;>cases b<;>simp [kD,aZ]
theorem ut(n:Nat)(a:aT):fit n (kD a)=true:=by cases a<;>cases n<;>rfl
theorem h_(n:Nat):∀ks:List aT,dH n (ks.map kD)=true
 |[]=>by cases n<;>rfl
 |k::ks=>by simp only [List.map_cons,dH,ut,h_ n ks,Bool.and_self]
theorem cX:∀ks:List aT,dG (ks.map kD)=some ks
 |[]=>rfl
 |k::ks=>by
  have:=cX ks;cases k<;>simp [dG,kD,gG,this]
theorem rf:∀a b:List aT,eX (a.map kD) (b.map kD)=decide (a=b)
 |[],[]=>rfl
 |[],_::_=>rfl
 |_::_,[]=>rfl
 |a::as,b::bs=>by
  simp only [List.map_cons,eX,vi,rf as bs]
  by_cases h:a=b
  ·by_cases h2:as=bs<;>simp [h,h2]
  ·simp [h]
theorem A6{ks:List aT}{k:aT}:((ks.map kD).any fun d=>aZ d (kD k))=decide (k∈ks):=by
 induction ks with
 |nil=>rfl
 |cons a ks ih=>
  rw [List.map_cons,List.any_cons,ih,vi]
  by_cases h:a=k
  ·simp [h]
  ·have:¬k=a:=fun e=>h e.symm
   simp [h,this]
def bK(ks:List aT):D:=.lst (ks.map kD)
theorem E3{M:Mem}{k:aT}:dv M (kD k)=kD k:=by cases k<;>rfl
theorem xp{M:Mem}{ks:List aT}{k:aT}:sw M (kD k) (bK ks)=some (decide (k∈ks)):=by
 unfold sw bK;simp only [cP,E3,ut,h_,and_self,if_true,A6]
structure Cse where
 w:Int
 many:Nat
 names:List Str
 rows:List Rw
 mn:Str
 most:Nat
structure Sta where
 nums:List Int
 pieces:List Int
def Sta.d(s:Sta):D:=standD s.nums s.pieces
def Cse.cf(C:Cse)(s:Sta):Cf:=⟨C.w,s.pieces,C.most⟩
def Cse.d(C:Cse):D:=.tup [.int C.w,.tup (C.names.map D.str),.int (C.many:Nat),.tup (aB C.rows),.str C.mn]
structure Cse.Ok(C:Cse):Prop where
 m2:2<=C.w
 m1:C.w<=997
 few:C.many<=100
 most:C.most<=10000
 nd:C.names.Nodup
 l0:0<C.names.length
 l1:C.names.length<=100
 ok:cC C.names C.w C.many C.rows
 h:fv C.rows<=7
 mn:C.mn∈C.names
structure SOk(C:Cse)(s:Sta):Prop where
 ln:s.nums.length=C.names.length
 lp:s.pieces.length=C.many
 rn:∀v∈s.nums,0<=v/\v<C.w
 rp:∀v∈s.pieces,0<=v/\v<C.w
def jG(mk:Str)(r:Bool×Sx):D:=if r.1=true then .int (nm r.2.nums mk) else .non
def Cse.run(C:Cse)(s:Sta):Bool×Sx:=fq (C.cf s) C.names C.rows s.nums
def Cse.mark(C:Cse)(s:Sta):D:=jG C.mn (C.run s)
section
variable {C:Cse}{s:Sta}{ad:Ad}{M:Mem}{Q:DK}{E:DX}
theorem Cse.Ok.pl(o:C.Ok)(k:SOk C s):PlOk (C.cf s) C.names C.rows s.nums:=
 ⟨⟨o.m2,o.m1,k.rp,by show s.pieces.length<=1000;rw [k.lp];have:=o.few;lia,o.most⟩,k.ln.symm,o.nd,o.l0,by have:=o.l1;lia,k.rn,by show cC C.names C.w s.pieces.length C.rows;rw [k.lp];exact o.ok,o.h⟩
theorem SOk.pd(k:SOk C s):C.d=planD (C.cf s) C.names C.rows C.mn:=by unfold Cse.d planD Cse.cf;rw [k.lp]
theorem dY(C:Cse)(s:Sta):C.mark s=.non\/∃v,C.mark s=.int v:=by
 unfold Cse.mark jG
 split
 ·exact .inr ⟨_,rfl⟩
 ·exact .inl rfl
theorem g7:fit 60 (C.mark s)=true:=by rcases dY C s with e|⟨v,e⟩<;>rw [e]<;>rfl
theorem rX:dv M (C.mark s)=C.mark s:=by rcases dY C s with e|⟨v,e⟩<;>rw [e]<;>rfl
theorem dN{Q:DK}(h:Q (C.mark s) M):frz (C.mark s) M Q:=by rcases dY C s with e|⟨v,e⟩<;>rw [e] at h ⊢<;>exact h
theorem pv{mk:Str}:∀{names:List Str},mk∈names->∃j,names.findIdx? (fun y=>decide (y=mk))=some j/\names[j]?=some mk
 |[],h=>by simp at h
 |x::names,h=>by
  by_cases e:x=mk
  ·subst e;exact ⟨0,by simp [List.findIdx?_cons],rfl⟩
  ·have h2:mk∈names:=by
    rcases List.mem_cons.mp h with z|z
    ·exact absurd z.symm e
    ·exact z
   obtain ⟨j,h3,h4⟩:=pv h2;exact ⟨j+1,by simp [List.findIdx?_cons,e,h3],by simpa using h4⟩
theorem fI:∀names:List Str,gv (names.map D.str)=some names
 |[]=>rfl
 |x::names=>by rw [List.map_cons,gv,fI names]
def AB(names:List Str)(r:Bool×Sx):D:=.tup [.lst (zM r.2.steps),ou names r]
theorem uq{c:Cf}{names:List Str}{rows:List Rw}{mk:Str}{nums:List Int}{EE:DX}{b:BxQ EE fun d M'=>vj d M' Q}(p:PlOk c names rows nums)(h:Q (AB names (fq c names rows nums)) M):
  calls (nA ad) EE [planD c names rows mk,standD nums c.pieces,.int (c.most:Nat)] M (fun d M'=>vj d M' Q) b:=by
 refine calls_of fun Q' E' hq _=>t_ p fun l hl=>hq _ _ ?_;unfold AB ou at h;unfold ou;cases e:(fq c names rows nums).1 with
 |true=>
  rw [e,if_pos rfl] at h;rw [if_pos rfl];simp! [Mem.upd_del,ah hl];exact h
 |false=>
  rw [e,if_neg (by simp)] at h
  rw [if_neg (by simp)]
  simp! [Mem.upd_del,ah hl];exact h
theorem sR{c:Cf}{names:List Str}{rows:List Rw}{mk:Str}{nums:List Int}(p:PlOk c names rows nums)(hm:mk∈names)(h:Q (jG mk (fq c names rows nums)) M):ja ad [planD c names rows mk,standD nums c.pieces,.int (c.most:Nat)] M Q E:=by
 have l1:=p.l1;obtain ⟨j,e1,e2⟩:=pv hm;simp! [Da,nG];refine uq p ?_;simp! [AB,atI_1];unfold jG at h;unfold ou;cases e:(fq c names rows nums).1 with
 |true=>
  rw [e,if_pos rfl] at h;rw [if_pos rfl];simp! [planD,atI_1,atI_4,fI,e1];refine ⟨l1,?_⟩;have e3:atI (names.map fun x=>D.int (nm (fq c names rows nums).2.nums x)) (j:Nat)=some (.int (nm (fq c names rows nums).2.nums mk)):=by
   rw [bY (by lia),Int.toNat_natCast,List.getElem?_map,e2];rfl
  simp! [e3];exact ay h
 |false=>
  rw [e,if_neg (by simp)] at h
  rw [if_neg (by simp)]
  simp! [];exact ay h
theorem gq{EE:DX}{b:BxQ EE Q}(o:C.Ok)(k:SOk C s)(h:Q (C.mark s) M):calls (ja ad) EE [C.d,s.d,.int (C.most:Nat)] M Q b:=by
 refine bv (d:=C.mark s) (fun Q' E' q=>?_) h;rw [k.pd];exact sR (o.pl k) o.mn q
def aU(C:Cse)(s t:Sta):D:=.tup [C.d,s.d,t.d,.int (C.most:Nat)]
def dj(C:Cse):List aT:=C.names.map Sum.inr++(List.range C.many).map fun (i:Nat)=>Sum.inl (i:Int)
def bb(C:Cse)(s:Sta):aT->Int
 |.inl i=>(s.pieces[i.toNat]?).getD 0
 |.inr x=>nm (C.names.zip s.nums) x
theorem pr:∀{names:List Str} {nums:List Int} {j:Nat} {x:Str},names.Nodup->names.length=nums.length->names[j]?=some x->nums[j]?=some (nm (names.zip nums) x)
 |[],_,j,x,_,_,h=>by simp at h
 |y::names,[],j,x,_,h,_=>by simp at h
 |y::names,v::nums,0,x,nd,hl,h=>by
  simp at h;subst h;simp [nm,gN]
 |y::names,v::nums,j+1,x,nd,hl,h=>by
  simp only [List.getElem?_cons_succ] at h ⊢;have nd':=List.nodup_cons.mp nd;have hne:¬y=x:=fun e=>nd'.1 (e▸List.mem_of_getElem? h);rw [pr nd'.2 (by simpa using hl) h]
  simp [nm,gN,hne]
theorem pO{k:aT}(h:k∈dj C):(∃x,x∈C.names/\k=.inr x)\/∃i:Nat,i<C.many/\k=.inl (i:Int):=by
 rcases List.mem_append.mp h with q|q
 ·obtain ⟨x,hx,rfl⟩:=List.mem_map.mp q
  exact .inl ⟨x,hx,rfl⟩
 ·obtain ⟨i,hi,rfl⟩:=List.mem_map.mp q
  exact .inr ⟨i,List.mem_range.mp hi,rfl⟩
theorem fm(o:C.Ok)(k:SOk C s){t:aT}(ht:t∈dj C):0<=bb C s t/\bb C s t<C.w:=by
 rcases pO ht with ⟨x,hx,rfl⟩|⟨i,hi,rfl⟩
 ·exact ((o.pl k).nok.at hx).2
 ·exact ((o.pl k).co.piece (i:=(i:Int).toNat) (by show _<s.pieces.length;rw [k.lp];lia)).2
theorem eK(o:C.Ok)(k:SOk C s){t:aT}(ht:t∈dj C)(h:Q (.int (bb C s t)) M):rj ad [C.d,s.d,kD t] M Q E:=by
 have l1:=o.l1;rcases pO ht with ⟨x,hx,rfl⟩|⟨i,hi,rfl⟩
 ·obtain ⟨j,e1,e2⟩:=pv hx
  have e3:atI (s.nums.map D.int) (j:Nat)=some (.int (nm (C.names.zip s.nums) x)):=by
   rw [bY (by lia),Int.toNat_natCast,List.getElem?_map,pr o.nd k.ln.symm e2];rfl
  simp! [zC,kd,kD,Cse.d,Sta.d,standD,j8,vH,atI_0,atI_1,fI,e1,String.reduceBEq,Bool.or_true,Bool.or_false,Bool.false_or,Bool.true_or];refine ⟨by lia,?_⟩
  simp! [e3];exact ay h
 ·have e3:atI (s.pieces.map D.int) (i:Nat)=some (.int ((s.pieces[(i:Int).toNat]?).getD 0)):=by
   rw [bY (by lia),Int.toNat_natCast,List.getElem?_map,List.getElem?_eq_getElem (by rw [k.lp];exact hi)];rfl
  simp! [zC,kd,kD,Cse.d,Sta.d,standD,j8,vH,atI_0,atI_1,e3,String.reduceBEq,Bool.or_true,Bool.or_false,Bool.false_or,Bool.true_or,Bool.false_and,Bool.and_false];exact ay h
end
end Tw
namespace Tw
open PySem L2 L3
def dy(C:Cse)(s t:Sta)(ks:List aT):Sta:=
 ⟨C.names.map fun x=>bb C (if Sum.inr x∈ks then t else s) (.inr x),(List.range C.many).map fun (i:Nat)=>bb C (if Sum.inl (i:Int)∈ks then t else s) (.inl (i:Int))⟩
section
variable {C:Cse}{s t:Sta}{ad:Ad}{M:Mem}{Q:DK}{E:DX}{ks:List aT}
theorem r8(o:C.Ok)(hs:SOk C s)(ht:SOk C t):SOk C (dy C s t ks):=by
 refine ⟨by simp [dy],by simp [dy],fun v hv=>?_,fun v hv=>?_⟩
 ·simp only [dy,List.mem_map] at hv
  obtain ⟨x,hx,rfl⟩:=hv;have hm:Sum.inr x∈dj C:=List.mem_append.mpr (.inl (List.mem_map.mpr ⟨x,hx,rfl⟩))
  split
  ·exact fm o ht hm
  ·exact fm o hs hm
 ·simp only [dy,List.mem_map] at hv
  obtain ⟨i,hi,rfl⟩:=hv;have hm:(Sum.inl (i:Int):aT)∈dj C:=List.mem_append.mpr (.inr (List.mem_map.mpr ⟨i,hi,rfl⟩))
  split
  ·exact fm o ht hm
  ·exact fm o hs hm
theorem CT{ta tb:bM}{δ:Dl}{k:aT}{K:Bool->Mem->Prop}(ha:∀K,K (kD k) M->ta δ M K)(hb:∀K,K (bK ks) M->tb δ M K)(h:K (decide (k∈ks)) M):aK (dOp An ta tb) δ M K:=by
 unfold aK dOp;refine ha _ (hb _ ?_);unfold An;rw [xp];exact h
theorem fV(o:C.Ok)(hs:SOk C s)(ht:SOk C t){k:aT}(hk:k∈dj C)(h:Q (.int (bb C (if k∈ks then t else s) k)) M):k6 ad [aU C s t,bK ks,kD k] M Q E:=by
 rw [DY (n:=0)];unfold nZ;generalize hT:aK (dOp An (aa 2) (aa 1))=TT;simp! [aU,atI_0,atI_1,atI_2];rw [<- hT];refine CT (k:=k) (ks:=ks) (fun K q=>q) (fun K q=>q) ?_
 by_cases c:k∈ks
 ·rw [if_pos c] at h
  rw [if_pos (by simpa using c)]
  exact bv (fun _ _ q=>eK o ht hk q) (ay h)
 ·rw [if_neg c] at h
  rw [if_neg (by simpa using c)]
  exact bv (fun _ _ q=>eK o hs hk q) (ay h)
theorem nT{wi:tw}{x0:Str}{c2 c3:Option D}{us:List aT}{K:DK}(o:C.Ok)(hs:SOk C s)(ht:SOk C t)(hu:∀k∈us,k∈dj C)(hl:us.length<=1000)(hw:∀R:DIt->Mem->Prop,R ⟨us.map kD,[]⟩ M->wi [some (aU C s t),some (bK ks),c2,c3] M R)
  (h:K (.tup ((us.map fun k=>bb C (if k∈ks then t else s) k).map D.int)) M):bO cTuple (a9 (ar (bD wi [x0] [1,0] (hName 0) cL (ar (dCall (k6 ad) jA 3 (a9 (aa 2) (a9 (aa 1) (a9 (aa 0) dNil))))))) dNil) [some (aU C s t),some (bK ks),c2,c3] M K:=by
 simp only [bO,a9,ar,bD];refine hw _ ?_;simp only [eO,List.map_cons,List.map_nil,List.cons_append,List.nil_append,List.getElem?_cons_succ,List.getElem?_cons_zero,Option.join_some];refine j9 (fun d=>match gG d with|some k=>.int (bb C (if k∈ks then t else s) k)|none=>.non) bG (by simp;lia) (fun x hx K q=>?_) ?_
 ·obtain ⟨k,hk,rfl⟩:=List.mem_map.mp hx
  simp! [];refine bv (fun _ _ q=>fV o hs ht (hu k hk) q) ?_;cases k<;>exact q
 intro p1 h1;simp only [frz,Mem.upd_same,Mem.upd_del,ah h1,dNil,cTuple,seqL];have e:(us.map kD).map (fun d=>match gG d with|some k=>D.int (bb C (if k∈ks then t else s) k)|none=>.non)=(us.map fun k=>bb C (if k∈ks then t else s) k).map D.int:=by
  rw [List.map_map,List.map_map];refine List.map_congr_left fun k _=>?_;cases k<;>rfl
 rw [e];exact h
theorem jL(o:C.Ok)(hs:SOk C s)(ht:SOk C t)(h:Q (dy C s t ks).d M):pW ad [aU C s t,bK ks] M Q E:=by
 have l1:=o.l1;have few:=o.few;have e2:bT 0 (Int.toNat (C.many:Nat))=((List.range C.many).map fun (i:Nat)=>(Sum.inl (i:Int):aT)).map kD:=by
  simp [bT,kD]
 have e1:C.names.map D.str=(C.names.map fun x=>(Sum.inr x:aT)).map kD:=by simp [kD]
 have t1:iI ad (aN E) { nx:=fun _ M'=>drp Q .non M',rt:=drp Q } [some (aU C s t),some (bK ks),some (.tup (C.names.map D.str)),some (.lst (bT 0 (Int.toNat (C.many:Nat))))] M:=by
  unfold iI a_ bL;rw [e1,e2];refine nT (us:=C.names.map fun x=>Sum.inr x) o hs ht (fun k hk=>List.mem_append.mpr (.inl hk)) (by simp;lia) (fun R q=>q) ?_
  refine nT (us:=(List.range C.many).map fun (i:Nat)=>Sum.inl (i:Int)) o hs ht (fun k hk=>List.mem_append.mpr (.inr hk)) (by simp;lia) (fun R q=>q) ?_
  refine ⟨szl (by simp),ay ?_⟩
  simpa [dy,Sta.d,standD,Function.comp_def] using h
 rw [CW (n:=0)];unfold nX qG;generalize iI ad (aN E)=K at t1 ⊢;unfold aU Cse.d at t1 ⊢;simp! [atI_0,atI_1,atI_2];refine ⟨⟨by lia,by lia⟩,fun p hp=>?_⟩
 simp only [Mem.upd_del,ah hp];exact t1
theorem pA{a b:Int}(o:C.Ok)(hs:SOk C s)(ht:SOk C t)(ea:C.mark s=.int a)(eb:C.mark t=.int b)(hab:a≠b)(h:Q (.tup [.int a,.int b]) M):pV ad [aU C s t] M Q E:=by
 rw [Dj (n:=0)];unfold m_ qO;generalize hK:kX ad (aN E)=K;simp! [aU,atI_0,atI_1,atI_2,atI_3];refine gq o hs (dN ?_);rw [ea];simp! [];refine gq o ht (dN ?_);rw [eb];simp! [List.set];rw [<- hK];unfold kX qv;simp! [hab,decide_false];exact ⟨szl (by decide),ay h⟩
def Cse.ver(C:Cse)(s t:Sta)(ks:List aT):Str:=if aZ (C.mark (dy C s t ks)) (C.mark s)=true then "sound" else if aZ (C.mark (dy C s t ks)) (C.mark t)=true then "faulty" else "other"
theorem gU{a b:Int}{m:D}(hm:m=.non\/∃v,m=.int v)(h:Q (.str (if aZ m (.int a)=true then "sound" else if aZ m (.int b)=true then "faulty" else "other")) M):qT ad [.tup [.int a,.int b],m] M Q E:=by
 rcases hm with rfl|⟨v,rfl⟩
 ·simp! [zJ,kn,atI_0,atI_1]
  exact ay h
 ·simp! [zJ,kn,atI_0,atI_1]
  simp only [aZ,decide_eq_true_eq] at h
  split
  ·rename_i q;rw [if_pos q] at h;exact ay h
  ·rename_i q;rw [if_neg q] at h
   split
   ·rename_i q;rw [if_pos q] at h;exact ay h
   ·rename_i q;rw [if_neg q] at h;exact ay h
end
end Tw
namespace Tw
open PySem L2 L3
structure Ak where
 a:Addr
 t:Addr
 ne:a≠t
def sk(C:Cse)(s t:Sta)(ts:List (List aT)):List (List aT×D):=ts.map fun ks=>(ks,.str (C.ver s t ks))
def Bb(k:Ak)(C:Cse)(s t:Sta)(two:D):List (Str×D):=[("case",aU C s t),("two",two),("told",.ref k.t)]
def aM(ad:Ad)(k:Ak)(C:Cse)(s t:Sta)(two:D)(ts:List (List aT))(M:Mem):Mem:=(M.upd k.a (.ins ad.C_Askings (Bb k C s t two))).upd k.t (.dT (sk C s t ts))
def tQ(ts:List (List aT))(ks:List aT):List (List aT):=if ks∈ts then ts else ts++[ks]
section
variable {C:Cse}{s t:Sta}{ad:Ad}{M:Mem}{Q:DK}{E:DX}{ks:List aT}{k:Ak}{ts ts':List (List aT)}{two:D}
theorem nK:aM ad k C s t two ts M k.a=some (.ins ad.C_Askings (Bb k C s t two)):=by unfold aM;rw [ao k.ne,Mem.upd_same]
theorem Cj:aM ad k C s t two ts M k.t=some (.dT (sk C s t ts)):=by unfold aM;rw [Mem.upd_same]
theorem aM_u:(aM ad k C s t two ts M).upd k.t (.dT (sk C s t ts'))=aM ad k C s t two ts' M:=by unfold aM;rw [Mem.upd_upd]
theorem qr:List.lookup ("case":Str) (Bb k C s t two)=some (aU C s t):=rfl
theorem Bl:List.lookup ("two":Str) (Bb k C s t two)=some two:=rfl
theorem kH:List.lookup ("told":Str) (Bb k C s t two)=some (.ref k.t):=rfl
theorem Aq:List.lookup ("ask":Str) (Bb k C s t two)=none:=rfl
theorem o6:List.lookup ("is_cause":Str) (Bb k C s t two)=none:=rfl
theorem vC:cb (sk C s t ts) ks=if ks∈ts then some (.str (C.ver s t ks)) else none:=by
 induction ts with
 |nil=>rfl
 |cons x ts ih=>
  by_cases e:x=ks
  ·subst e;simp [sk,cb]
  ·have e':¬ks=x:=fun z=>e z.symm
   have:cb (sk C s t (x::ts)) ks=cb (sk C s t ts) ks:=by simp [sk,cb,e]
   rw [this,ih];simp [e']
theorem AR(h:ks∉ts):cJ (sk C s t ts) ks (.str (C.ver s t ks))=sk C s t (ts++[ks]):=by
 unfold cJ;rw [if_neg ?_]
 ·simp [sk]
 ·simp only [sk,List.any_map,List.any_eq_true,Function.comp_apply,decide_eq_true_eq,not_exists,not_and]
  exact fun x hx e=>h (e▸hx)
theorem tM{a b:Int}(o:C.Ok)(hs:SOk C s)(ht:SOk C t)(ea:C.mark s=.int a)(eb:C.mark t=.int b)(hl:ts.length<=100000)(h:Q (.str (C.ver s t ks)) (aM ad k C s t (.tup [.int a,.int b]) (tQ ts ks) M)):
  pL ad [.ref k.a,bK ks] (aM ad k C s t (.tup [.int a,.int b]) ts M) Q E:=by
 have hmx:bK ks=.lst (ks.map kD):=rfl;have hcs:aU C s t=.tup [C.d,s.d,t.d,.int (C.most:Nat)]:=rfl;have t2:∀us,ks∈us->drp Q (.str (C.ver s t ks)) (aM ad k C s t (.tup [.int a,.int b]) us M)->iG ad (aN E) { nx:=fun _ M'=>drp Q .non M',rt:=drp Q } [some (.ref k.a),some (bK ks)] (aM ad k C s t (.tup [.int a,.int b]) us M):=fun us hu z=>by
  unfold iG;simp! [hmx,nK,Cj,kH,cX,vC,if_pos hu];exact z
 rw [Ed (n:=0)];unfold mD;unfold tQ at h;generalize iG ad (aN E)=K2 at t2 ⊢;generalize hK1:lh ad (aN E)=K1;simp! [hmx,nK,Cj,kH,cX,vC]
 by_cases c:ks∈ts
 ·rw [if_pos c] at h
  simp only [if_pos c,Option.isSome_some,Bool.not_true,Bool.false_eq_true,if_false];exact t2 ts c (ay h)
 ·rw [if_neg c] at h
  simp only [if_neg c,Option.isSome_none,Bool.not_false,if_true,<- hK1];unfold lh;simp! [nK,Bl,qr,hcs,atI_0,atI_3];rw [<- hcs,<- hmx];refine bv (fun _ _ q=>jL o hs ht q) ?_;have hsd:(dy C s t ks).d=.tup [.tup ((dy C s t ks).nums.map D.int),.tup ((dy C s t ks).pieces.map D.int)]:=rfl;simp! [hsd,nK,qr,hcs,atI_0,atI_3];rw [<- hsd];refine gq o (r8 o hs ht) (dN ?_);simp! [];refine bv (d:=.str (C.ver s t ks)) (fun _ _ q=>gU (dY C _) (by unfold Cse.ver at q;rw [ea,eb] at q;exact q)) ?_
  simp! [nK,kH,hmx,Cj,cX,AR c,aM_u];exact ⟨by rw [sk,List.length_map];exact fP (by lia),t2 (ts++[ks]) (by simp) (ay h)⟩
theorem j5{a b:Int}(o:C.Ok)(hs:SOk C s)(ht:SOk C t)(ea:C.mark s=.int a)(eb:C.mark t=.int b)(hl:ts.length<=100000)(h:Q (.bl (decide (C.ver s t ks="faulty"))) (aM ad k C s t (.tup [.int a,.int b]) (tQ ts ks) M)):
  oZ ad [.ref k.a,bK ks] (aM ad k C s t (.tup [.int a,.int b]) ts M) Q E:=by
 have hmx:bK ks=.lst (ks.map kD):=rfl;rw [u_q0 (n:=0)];unfold wn;simp! [hmx,nK,Aq];rw [<- hmx];refine calls_of fun Q' E' hq _=>tM o hs ht ea eb hl (hq _ _ ?_);simp! [];exact ay h
theorem mL:(tQ ts ks).length<=ts.length+1:=by unfold tQ;split<;>simp
theorem xi{a b:Int}{x:Addr}(hx:M x=none)(o:C.Ok)(hs:SOk C s)(ht:SOk C t)(ea:C.mark s=.int a)(eb:C.mark t=.int b)(hab:a≠b)
  (h:∀k:Ak,k.a=x->M k.t=none->Q .non (aM ad k C s t (.tup [.int a,.int b]) [] M)):zo ad [.ref x,aU C s t] (M.upd x (.ins ad.C_Askings [])) Q E:=by
 have hcs:aU C s t=.tup [C.d,s.d,t.d,.int (C.most:Nat)]:=rfl;have d1:dQ "case" (aU C s t) []=[(("case":Str),aU C s t)]:=rfl;have d2:∀d,dQ "two" d [(("case":Str),aU C s t)]=[(("case":Str),aU C s t),(("two":Str),d)]:=fun _=>rfl;have d3:∀d e,dQ "told" e [(("case":Str),aU C s t),(("two":Str),d)]=[(("case":Str),aU C s t),(("two":Str),d),(("told":Str),e)]:=fun _ _=>rfl;rw [u_q1 (n:=0)];unfold vG v5;simp! [Mem.upd_upd,Mem.upd_same,d1];refine ⟨by decide,?_⟩
 refine bv (fun _ _ q=>pA o hs ht ea eb hab q) ?_;simp! [Mem.upd_upd,Mem.upd_same,d2];refine ⟨by simp,fun p hp=>?_⟩
 have n1:x≠p:=Mem.ne Mem.upd_same hp;rw [ao n1.symm] at hp;simp! [ao n1,Mem.upd_same,d3];refine ⟨by simp,ay ?_⟩
 have:=h ⟨x,p,n1⟩ rfl hp;unfold aM at this;rw [bd n1.symm,Mem.upd_upd];exact this
theorem BT(h1:M k.a=none)(h2:M k.t=none)(b:Addr)(o:MO)(e:M b=some o):aM ad k C s t two ts M b=some o:=by
 unfold aM;rw [ao (fun q=>by rw [q,h2] at e;cases e),ao (fun q=>by rw [q,h1] at e;cases e)]
 exact e
def cj(ks:List aT):List (List aT):=(List.range ks.length).map fun i=>ks.take i++ks.drop (i+1)
theorem jV{x0:Str}(hl:ks.length<=1000)(h:∀p,M p=none->Q (.ref p) (M.upd p (.lst ((cj ks).map bK)))):
  bD (cy (a9 (bO cg (a9 (aa 0) dNil)) dNil)) [x0] [0] (hName 0) cL (ar (dOp bN (ar (lK (aa 1) bA (cu (aa 0)))) (ar (lK (aa 1) (cu (dOp bN (aa 0) (dC (.int 1)))) bA)))) [some (bK ks)] M Q:=by
 have hmx:∀ks,bK ks=.lst (ks.map kD):=fun _=>rfl;simp! [bD,hmx,List.length_map];refine ⟨by lia,by lia,?_⟩
 refine j9 (fun d=>match d with|.int i=>bK (ks.take i.toNat++ks.drop (i.toNat+1))|_=>.non) bG (by simp [bT];lia) (fun x hx K q=>?_) ?_
 ·simp only [bT,List.mem_map,List.mem_range] at hx
  obtain ⟨i,hi,rfl⟩:=hx;have e0:(0:Int)+(i:Nat)=(i:Nat):=by lia
  have e1:((i:Nat):Int)+1=((i+1:Nat):Int):=by lia
  rw [e0] at q ⊢;simp! [cS];intro p1 h1;simp only [Mem.upd_del,ah h1,e1,cutD_lo];intro p2 h2;simp only [Mem.upd_del,ah h2];refine ⟨szl (by simp only [List.length_take,List.length_drop,List.length_map];lia),fun p3 h3=>?_⟩
  simp! [Mem.upd_del,ah h3];simp only [hmx,Int.toNat_natCast,List.map_append,List.map_take,List.map_drop] at q;exact q
 ·intro p hp
  have:=h p hp;simp only [cj,List.map_map] at this;simp only [bT,List.map_map,Int.toNat_natCast];have e:(((fun d=>match d with|.int i=>bK (ks.take i.toNat++ks.drop (i.toNat+1))|_=>.non) ∘ fun (i:Nat)=>D.int (0+(i:Int))):Nat->D)=(bK ∘ fun i=>ks.take i++ks.drop (i+1)):=by
   funext i;simp
  rw [e];exact this
theorem k_(hl:ks.length<=1000)(h:∀p,M p=none->Q (.ref p) (M.upd p (.lst ((cj ks).map bK)))):z6 ad [bK ks] M Q E:=by
 rw [u_q9 (n:=0)];unfold v8;exact jV hl fun p hp=>ay (h p hp)
def Cse.bare(C:Cse)(s t:Sta)(ks:List aT):Bool:=decide (C.ver s t ks="faulty")&&!((cj ks).any fun l=>decide (C.ver s t l="faulty"))
theorem jT:∀bs:List Bool,kj (bs.map D.bl)=some bs
 |[]=>rfl
 |b::bs=>by rw [List.map_cons,kj,jT bs]
theorem uc{l:List aT}(h:l∈cj ks):l.length<=ks.length:=by
 simp only [cj,List.mem_map,List.mem_range] at h;obtain ⟨i,hi,rfl⟩:=h;simp only [List.length_append,List.length_take,List.length_drop];lia
theorem nR{a b:Int}{ls:List (List aT)}(o:C.Ok)(hs:SOk C s)(ht:SOk C t)(ea:C.mark s=.int a)(eb:C.mark t=.int b)(hll:ls.length<=1000)(hl:ts.length+ls.length<=100000){Q:List D->Mem->Prop}{c0:Option D}{its:List D}{bx:BxC (hName 0) cL (ar (eD ad.C_Askings "is_cause" (oZ ad) jA 2 (aa 1) (a9 (aa 0) dNil))) (DIt.ok ⟨its,[]⟩) Q}
  (h:∀ts',ts'.length<=ts.length+ls.length->Q (ls.map fun l=>.bl (decide (C.ver s t l="faulty"))) (aM ad k C s t (.tup [.int a,.int b]) ts' M)):
  cI (hName 0) cL (ar (eD ad.C_Askings "is_cause" (oZ ad) jA 2 (aa 1) (a9 (aa 0) dNil))) (DIt.ok ⟨its,[]⟩) Q bx (ls.map bK) [] [c0,some (.ref k.a)] (aM ad k C s t (.tup [.int a,.int b]) ts M):=by
 refine ce (fun xs acc δ N=>∃(l1 l2:List (List aT)) (c0:Option D) (us:List (List aT)),ls=l1++l2/\xs=l2.map bK/\acc=l1.map (fun l=>D.bl (decide (C.ver s t l="faulty")))/\δ=[c0,some (.ref k.a)]/\us.length<=ts.length+l1.length/\N=aM ad k C s t (.tup [.int a,.int b]) us M)
  (fun _ _ _ _ _=>bG) ?_ ?_ ?_ _ _ _ _ ⟨[],ls,c0,ts,rfl,rfl,rfl,rfl,by simp,rfl⟩
 ·rintro acc δ N ⟨l1,l2,c0,us,e1,e2,rfl,rfl,hu,rfl⟩
  have:l2=[]:=by cases l2 with|nil=>rfl|cons _ _=>simp at e2
  subst this;rw [List.append_nil] at e1;subst e1;exact h us hu
 ·rintro x xs acc δ N ⟨l1,l2,c0,us,e1,e2,rfl,rfl,hu,rfl⟩ N' hN _
  cases l2 with
  |nil=>simp at e2
  |cons y l2=>
   simp only [List.map_cons,List.cons.injEq] at e2;obtain ⟨rfl,rfl⟩:=e2;have hl2:=congrArg List.length e1;simp only [List.length_append,List.length_cons] at hl2;have hmx:bK y=.lst (y.map kD):=rfl;simp! [nK,o6];refine calls_of fun Q' E' hq _=>j5 o hs ht ea eb (by lia) (hq _ _ ?_)
   simp! [];exact hN _ _ _ (by rw [List.length_map];exact fP (by lia)) ⟨l1++[y],l2,_,_,by simp [e1],rfl,by simp,rfl,by have:=mL (ts:=us) (ks:=y);simp;lia,rfl⟩
 ·rintro x xs acc δ N ⟨l1,l2,c0,us,e1,e2,rfl,rfl,hu,rfl⟩
  have hl2:=congrArg List.length e1;simp only [List.length_append] at hl2;rw [List.length_map];exact fP (by lia)
theorem sC{a b:Int}(o:C.Ok)(hs:SOk C s)(ht:SOk C t)(ea:C.mark s=.int a)(eb:C.mark t=.int b)(hab:a≠b)(hl:ks.length<=1000)(h:Q (.bl (C.bare s t ks)) M):qk ad [aU C s t,bK ks] M Q E:=by
 have hcs:aU C s t=.tup [C.d,s.d,t.d,.int (C.most:Nat)]:=rfl;have hmx:bK ks=.lst (ks.map kD):=rfl;rw [DB (n:=0)];unfold ni;generalize hK:kO ad (aN E)=K;simp! [];intro x hx;refine calls_of fun Q' E' hq _=>xi hx o hs ht ea eb hab fun k hk hkt=>hq _ _ ?_;subst hk;simp! [];rw [<- hK];unfold kO;have sb:∀(ts:List (List aT)) (r:Bool),Q (.bl r) M->drp Q (.bl r) (aM ad k C s t (.tup [.int a,.int b]) ts M):=fun ts r q=>⟨M,BT hx hkt,q⟩;simp! [hmx,nK,o6];rw [<- hmx];refine calls_of fun Q' E' hq _=>j5 o hs ht ea eb (by simp) (hq _ _ ?_)
 unfold Cse.bare at h
 by_cases c:C.ver s t ks="faulty"
 ·simp only [c,decide_true,Bool.true_and] at h
  simp! [c,decide_true,↓bD];refine calls_of fun Q' E' hq _=>k_ hl fun p hp=>hq _ _ ?_;simp! [Mem.upd_del,ah hp];have ll:(cj ks).length=ks.length:=by simp [cj]
  have al:=mL (ts:=[]) (ks:=ks);simp only [List.length_nil] at al;refine nR o hs ht ea eb (by lia) (by lia) fun ts' hts=>?_
  intro q hq;have eb2:((cj ks).map fun l=>D.bl (decide (C.ver s t l="faulty")))=((cj ks).map fun l=>decide (C.ver s t l="faulty")).map D.bl:=by simp
  simp! [Mem.upd_del,ah hq,eb2,jT];refine sb _ _ ?_;simpa [List.any_map,Function.comp_def] using h
 ·simp only [c,decide_false,Bool.false_and] at h
  simp! [c,decide_false];exact sb _ _ h
end
end Tw
namespace Tw
open PySem L2 L3
section
variable {ad:Ad}{c:Cf}{names:List Str}{rows:List Rw}{mk:Str}{nums:List Int}{M:Mem}{Q:DK}{E:DX}
theorem jp(hl:names.length=nums.length)(nd:names.Nodup)(h0:0<names.length)(h1:names.length<=1000)
  (h:∀(k:Hk),M k.h=none->M k.dn=none->M k.lr=none->Q (.ref k.h) (hM k c (c.most:Nat) (names.zip nums) [] M)):
  j6 ad [planD c names rows mk,standD nums c.pieces,.int (c.most:Nat)] M Q E:=by
 simp only [E6];unfold n8;simp only [a_,kg];intro p hp;simp! [planD,standD,atI_0,atI_1,keysOf_strs,List.length_map];refine ⟨hl,h0,h1,fun dn hdn=>⟨szl (by decide),fun lr hlr=>?_⟩⟩
 have n1:p≠dn:=Mem.ne Mem.upd_same hdn;have hdn':M dn=none:=by rw [ao n1.symm] at hdn;exact hdn
 have n3:dn≠lr:=Mem.ne Mem.upd_same hlr;rw [ao n3.symm] at hlr;have n2:p≠lr:=Mem.ne Mem.upd_same hlr;rw [ao n2.symm] at hlr;refine ⟨by rw [ao n2,ao n1,Mem.upd_same],by decide,?_⟩
 have ef:eE [Sum.inr "numbers",Sum.inr "pieces",Sum.inr "read",Sum.inr "wheel",Sum.inr "left"] [D.ref dn,D.tup (c.pieces.map D.int),D.ref lr,D.int c.m,D.int (c.most:Nat)]=hD ⟨p,dn,lr,n1,n2,n3⟩ c (c.most:Nat):=by simp [eE,cJ,hD,br]
 have:=h ⟨p,dn,lr,n1,n2,n3⟩ hp hdn' hlr;unfold hM at this;rw [ef,gL hl nd,bd n2.symm,bd n1.symm,Mem.upd_upd];exact ay this
theorem pK{k:Hk}{left:Int}{n:gm}{rd:List Int}(h1:M k.h=none)(h2:M k.dn=none)(h3:M k.lr=none)(b:Addr)(o:MO)(e:M b=some o):hM k c left n rd M b=some o:=by
 unfold hM;rw [ao (fun q=>by rw [q,h3] at e;cases e),ao (fun q=>by rw [q,h2] at e;cases e),ao (fun q=>by rw [q,h1] at e;cases e)]
 exact e
end
section
variable {C:Cse}{s t:Sta}{ad:Ad}{M:Mem}{Q:DK}{E:DX}{ks:List aT}
theorem mS(o:C.Ok)(k:SOk C s)(h:Q (C.mark s) M):iS ad [C.d,s.d,.int (C.most:Nat)] M Q E:=by
 have p:=o.pl k;have hn:NOk C.names (C.cf s).m (C.run s).2.nums:=cG p.co C.rows p.ok [] 0 ⟨C.names.zip s.nums,[]⟩ p.nok;have e0:∀kk,hM kk (C.cf s) ((C.cf s).most:Nat) (C.names.zip s.nums) [] M=hS kk (C.cf s) ⟨C.names.zip s.nums,[]⟩ [] M:=fun kk=>by unfold hS;simp
 rw [DU (n:=0)];unfold mZ;generalize hK:kP ad (aN E)=K;rw [k.pd];simp only [aw,aF,dCall,a9,aa,dNil,List.getElem?_cons_succ,List.getElem?_cons_zero,startN,List.map_cons,List.map_nil,List.length_cons,List.length_nil,List.replicate,List.cons_append,List.nil_append];refine ⟨trivial,?_⟩;refine calls_of fun Q' E' hq _=>jp (c:=C.cf s) p.ln p.nd p.l0 p.l1 fun kk z1 z2 z3=>hq _ _ ?_;rw [<- hK];unfold kP;generalize hK1:lH ad (aN E)=K1;simp! [planD,atI_3];rw [e0];refine calls_of fun Q' E' hq _=>pq p.co p.l1 24 C.rows [] 0 ⟨C.names.zip s.nums,[]⟩ [] M Q' E' p.ok (by have:=p.h;lia) p.nok (Nat.zero_le _) (by simp) (fun rd' g1 g2=>hq _ _ ?_) (fun l n rd' g=>hq _ _ ?_)
 ·have g1':(C.run s).1=true:=g1
  have em:C.mark s=.int (nm (C.run s).2.nums C.mn):=by unfold Cse.mark jG;rw [if_pos g1']
  rw [em] at h;simp! [];rw [<- hK1];unfold lH hS;have ev:gN (bp (C.cf s) C.rows [] 0 ⟨C.names.zip s.nums,[]⟩).2.nums C.mn=some (nm (C.run s).2.nums C.mn):=(hn.at o.mn).1;simp! [planD,eg,fK,cQ,atI_4,cF,ev,Option.map_some];exact ⟨M,pK z1 z2 z3,h⟩
 ·have g':(C.run s).1=false:=g
  have em:C.mark s=.non:=by unfold Cse.mark jG;rw [if_neg (by rw [g'];simp)]
  rw [em] at h;simp! [];exact ⟨M,pK z1 z2 z3,h⟩
theorem eY{EE:DX}{b:BxQ EE Q}(o:C.Ok)(k:SOk C s)(h:Q (C.mark s) M):calls (iS ad) EE [C.d,s.d,.int (C.most:Nat)] M Q b:=
 bv (fun _ _ q=>mS o k q) h
theorem C9{n:Nat}:bT 0 (Int.toNat (n:Nat))=((List.range n).map fun (i:Nat)=>(Sum.inl (i:Int):aT)).map kD:=by simp [bT,kD]
theorem m3(o:C.Ok)(h:∀p,M p=none->Q (.ref p) (M.upd p (.lst ((dj C).map kD)))):jU ad [C.d] M Q E:=by
 have l1:=o.l1;have few:=o.few;rw [Cz (n:=0)];unfold m8 Cse.d;simp! [atI_1,atI_2];intro p1 h1;simp only [Mem.upd_del,ah h1];refine ⟨⟨by lia,by lia⟩,fun p2 h2=>?_⟩
 simp only [Mem.upd_del,ah h2];refine ⟨szl (by simp [bT];lia),fun p3 h3=>ay ?_⟩
 have:=h p3 h3;rw [C9];have e:(dj C).map kD=C.names.map D.str++((List.range C.many).map fun (i:Nat)=>(Sum.inl (i:Int):aT)).map kD:=by simp [dj,kD]
 rw [e] at this;exact this
theorem gB{EE:DX}{b:BxQ EE fun d M'=>frz d M' Q}(o:C.Ok)(h:Q (.lst ((dj C).map kD)) M):calls (jU ad) EE [C.d] M (fun d M'=>frz d M' Q) b:=by
 refine calls_of fun Q' E' hq _=>m3 o fun p hp=>hq _ _ ?_;simp only [frz,Mem.upd_same,Mem.upd_del,ah hp];exact h
theorem ig:(dj C).length=C.names.length+C.many:=by simp [dj]
theorem ga(o:C.Ok)(k:SOk C s):s.nums.map D.int++s.pieces.map D.int=(dj C).map fun x=>D.int (bb C s x):=by
 have e1:s.nums=C.names.map fun x=>nm (C.names.zip s.nums) x:=by
  refine List.ext_getElem? fun i=>?_;rw [List.getElem?_map];cases e:C.names[i]? with
  |none=>
   have:=List.getElem?_eq_none_iff.mp e;rw [List.getElem?_eq_none (by rw [k.ln];exact this)]
   rfl
  |some x=>rw [pr o.nd k.ln.symm e];rfl
 have e2:s.pieces=(List.range C.many).map fun (i:Nat)=>(s.pieces[i]?).getD 0:=by
  refine List.ext_getElem? fun i=>?_;rw [List.getElem?_map]
  by_cases c:i<C.many
  ·have e:=List.getElem?_eq_getElem (l:=s.pieces) (i:=i) (by rw [k.lp];exact c)
   rw [List.getElem?_range c,e];simp [e]
  ·rw [List.getElem?_eq_none (by rw [k.lp];lia),List.getElem?_eq_none (by simp;lia)]
   rfl
 unfold dj;rw [List.map_append,List.map_map,List.map_map]
 conv=>lhs;rw [e1,e2]
 rw [List.map_map,List.map_map];rfl
end
end Tw
namespace Tw
open PySem L2 L3
theorem p_{α:Type}(q:α->Bool)(g:α->D):∀l:List α,((List.range l.length).filter fun (i:Nat)=>match l[i]? with|some x=>q x|none=>false).map (fun i=>match l[i]? with|some x=>g x|none=>D.non)=(l.filter q).map g
 |[]=>rfl
 |x::l=>by
  have ih:=p_ q g l;rw [List.length_cons,List.range_succ_eq_map,List.filter_cons,List.filter_map,List.filter_cons];have e1:((fun (i:Nat)=>match (x::l)[i]? with|some x=>q x|none=>false) ∘ Nat.succ)=fun (i:Nat)=>match l[i]? with|some x=>q x|none=>false:=by funext i;simp
  rw [e1];have e2:((List.range l.length).filter fun (i:Nat)=>match l[i]? with|some x=>q x|none=>false).map ((fun i=>match (x::l)[i]? with|some x=>g x|none=>D.non) ∘ Nat.succ)=(l.filter q).map g:=by
   rw [<- ih];refine List.map_congr_left fun i _=>?_;simp
  cases hq:q x with
  |true=>simp only [List.getElem?_cons_zero,hq,if_true,List.map_cons,List.map_map,e2]
  |false=>simp only [List.getElem?_cons_zero,hq,Bool.false_eq_true,if_false,List.map_map,e2]
theorem oP{α:Type}{l:List α}{q:α->Bool}{g:α->D}{p:D->Bool}{f:D->D}(hp:∀(i:Nat) x,l[i]?=some x->p (.int (i:Nat))=q x)(hf:∀(i:Nat) x,l[i]?=some x->f (.int (i:Nat))=g x):((bT 0 l.length).filter p).map f=(l.filter q).map g:=by
 rw [<- p_ q g l];unfold bT;rw [List.filter_map,List.map_map];have e1:(List.range l.length).filter (p ∘ fun (i:Nat)=>D.int (0+(i:Int)))=(List.range l.length).filter fun (i:Nat)=>match l[i]? with|some x=>q x|none=>false:=by
  refine List.filter_congr fun i hi=>?_;have hi':=List.mem_range.mp hi;have e:=List.getElem?_eq_getElem hi';rw [Function.comp_apply,Int.zero_add,hp i _ e,e]
 rw [e1];refine List.map_congr_left fun i hi=>?_;have hi':=List.mem_range.mp (List.mem_filter.mp hi).1;have e:=List.getElem?_eq_getElem hi';rw [Function.comp_apply,Int.zero_add,hf i _ e,e]
def kS:Nat->Nat->List D
 |_,0=>[]
 |j,n+1=>.int (j:Nat)::kS (j+1) n
theorem qd:∀(n j:Nat),(List.range n).map (fun (i:Nat)=>D.int ((j+i:Nat):Int))=kS j n
 |0,_=>rfl
 |n+1,j=>by
  rw [List.range_succ_eq_map,List.map_cons,List.map_map,kS,<- qd n (j+1)];congr 1;refine List.map_congr_left fun i _=>?_;simp only [Function.comp_apply];congr 2;lia
theorem BP(n:Nat):bT 0 n=kS 0 n:=by
 rw [<- qd];unfold bT;refine List.map_congr_left fun i _=>?_;simp
theorem zp(n:Nat):bT 0 (Int.toNat (n:Nat))=kS 0 n:=by rw [Int.toNat_natCast,BP]
theorem yE{α:Type}{a b:List α}{x y:α}:(a++x::b).set a.length y=a++y::b:=by
 induction a with
 |nil=>rfl
 |cons z a ih=>simp [ih]
theorem at_mid{α:Type}{a b:List α}{x:α}:atI (a++x::b) (a.length:Nat)=some x:=by
 rw [bY (by lia),Int.toNat_natCast];simp
theorem Am{α:Type}{a b:List α}{x:α}:pJ (a++x::b).length (a.length:Nat)=some a.length:=by
 rw [u6 (by lia) (by simp;lia),Int.toNat_natCast]
def nY(C:Cse)(s t:Sta):List aT:=(dj C).filter fun k=>decide (bb C s k≠bb C t k)
section
variable {C:Cse}{s t:Sta}{ad:Ad}{M:Mem}{Q:DK}{E:DX}{ks:List aT}
theorem frz_new{p:Addr}{xs:List D}(hp:M p=none)(h:Q (.lst xs) M):frz (.ref p) (M.upd p (.lst xs)) Q:=by
 simp only [frz,Mem.upd_same,Mem.upd_del,ah hp];exact h
theorem ie(h:Q s.d M):frz s.d M Q:=h
theorem mq{i:Nat}{x:aT}{f:aT->D}(h:(dj C)[i]?=some x):atI ((dj C).map f) (i:Nat)=some (f x):=by
 rw [bY (by lia),Int.toNat_natCast,List.getElem?_map,h];rfl
theorem mr(o:C.Ok)(hs:SOk C s)(ht:SOk C t)(h:∀p,M p=none->Q (.ref p) (M.upd p (.lst ((nY C s t).map kD)))):pN ad [C.d,s.d,t.d] M Q E:=by
 have l1:=o.l1;have few:=o.few;have tl:=ig (C:=C);have t1:ir ad (aN E) { nx:=fun _ M'=>drp Q .non M',rt:=drp Q } [some C.d,some s.d,some t.d,some (.lst ((dj C).map kD)),some (.tup ((dj C).map fun x=>.int (bb C s x))),some (.tup ((dj C).map fun x=>.int (bb C t x)))] M:=by
  unfold ir;simp! [bD,List.length_map];refine ⟨by lia,by lia,?_⟩
  have e0:Int.toNat ((dj C).length:Nat)=(dj C).length:=Int.toNat_natCast _;rw [e0];show cI _ _ _ _ _ _ _ _ [none,some (.tup ((dj C).map fun x=>.int (bb C t x))),some (.tup ((dj C).map fun x=>.int (bb C s x))),some (.lst ((dj C).map kD))] M;refine lJ (fun d=>match d with|.int i=>(match (dj C)[i.toNat]? with|some k=>decide (bb C s k≠bb C t k)|none=>false)|_=>false) (fun d=>match d with|.int i=>(match (dj C)[i.toNat]? with|some k=>kD k|none=>.non)|_=>.non) bG (by simp [bT];lia) (fun x hx K q=>?_) (fun x hx _ K q=>?_) ?_
  ·simp only [bT,List.mem_map,List.mem_range] at hx
   obtain ⟨i,hi,rfl⟩:=hx;have e:=List.getElem?_eq_getElem hi;rw [Int.zero_add] at q ⊢;simp only [Int.toNat_natCast,e] at q;have a1:=mq (f:=fun x=>D.int (bb C s x)) e;have a2:=mq (f:=fun x=>D.int (bb C t x)) e;simp! [a1,a2];simpa using q
  ·simp only [bT,List.mem_map,List.mem_range] at hx
   obtain ⟨i,hi,rfl⟩:=hx;have e:=List.getElem?_eq_getElem hi;rw [Int.zero_add] at q ⊢;simp only [Int.toNat_natCast,e] at q;have a1:=mq (f:=kD) e;simp! [a1];exact q
  ·intro p hp
   rw [oP (l:=dj C) (q:=fun k=>decide (bb C s k≠bb C t k)) (g:=kD) (fun i x e=>by simp only [Int.toNat_natCast,e]) (fun i x e=>by simp only [Int.toNat_natCast,e])]
   exact ay (h p hp)
 rw [CI (n:=0)];unfold mi rC rE;generalize ir ad (aN E)=K at t1 ⊢;simp only [aw,aF,ar,dCall,a9,aa,dNil,List.getElem?_cons_succ,List.getElem?_cons_zero,startN,List.map_cons,List.map_nil,List.length_cons,List.length_nil,List.replicate,List.cons_append,List.nil_append];refine ⟨trivial,gB o ?_⟩;have es:s.d=.tup [.tup (s.nums.map D.int),.tup (s.pieces.map D.int)]:=rfl;have et:t.d=.tup [.tup (t.nums.map D.int),.tup (t.pieces.map D.int)]:=rfl;have z1:=hs.ln;have z2:=hs.lp;have z3:=ht.ln;have z4:=ht.lp;simp! [es,et,atI_0,atI_1,ga o hs,ga o ht,List.length_map];refine ⟨szl (by lia),szl (by lia),?_⟩
 rw [<- es,<- et];exact t1
theorem oB{c9:Option D}{cd md pd sd td od:D}{l:Addr}{D':DEnds}{EE:DX}(o:C.Ok)(hl:M l=none)(hmd:md=bK ks)
  (h:∀c9,D'.nx [some cd,some md,some pd,some sd,some td,some od,some (.lst ((dj C).map kD)),some (.ref l),some (.tup ((dj C).map fun x=>.int (bb C t x))),c9,none] (M.upd l (.lst ((dj C).map fun k=>.int (bb C (if k∈ks then t else s) k))))):
  dFor (cy (a9 (bO cg (a9 (aa 6) dNil)) dNil)) (hName 9) (hV ad EE) D' [some cd,some md,some pd,some sd,some td,some od,some (.lst ((dj C).map kD)),some (.ref l),some (.tup ((dj C).map fun x=>.int (bb C t x))),c9,none] (M.upd l (.lst ((dj C).map fun k=>.int (bb C s k)))):=by
 have l1:=o.l1;have few:=o.few;have tl:=ig (C:=C);subst hmd;simp only [dFor,cy,bO,a9,aa,dNil,cg,cP,List.getElem?_cons_succ,List.getElem?_cons_zero,List.length_map];refine ⟨by lia,by lia,?_⟩
 refine forD_inv (fun xs δ N=>∃(a b:List aT) (c9:Option D),dj C=a++b/\xs=kS a.length b.length/\δ=[some cd,some (bK ks),some pd,some sd,some td,some od,some (.lst ((dj C).map kD)),some (.ref l),some (.tup ((dj C).map fun x=>.int (bb C t x))),c9,none]/\N=M.upd l (.lst (a.map (fun k=>.int (bb C (if k∈ks then t else s) k))++b.map fun k=>.int (bb C s k))))
  (fun _ _ _ _=>bG) ?_ ?_ _ _ _ ⟨[],dj C,c9,rfl,zp _,rfl,rfl⟩
 ·rintro δ N ⟨a,b,c9,e1,e2,rfl,rfl⟩
  have:b=[]:=by cases b with|nil=>rfl|cons _ _=>simp [kS] at e2
  subst this;rw [List.append_nil] at e1;have:=h c9;rw [e1] at this ⊢;simpa using this
 ·rintro x xs δ N ⟨a,b,c9,e1,e2,rfl,rfl⟩ E' hnx _ _ _
  cases b with
  |nil=>simp [kS] at e2
  |cons y b=>
   simp only [List.length_cons,kS,List.cons.injEq] at e2;obtain ⟨rfl,rfl⟩:=e2;have ey:(dj C)[a.length]?=some y:=by rw [e1];simp
   have fin:∀v,v=D.int (bb C (if y∈ks then t else s) y)->E'.nx [some cd,some (bK ks),some pd,some sd,some td,some od,some (.lst ((dj C).map kD)),some (.ref l),some (.tup ((dj C).map fun x=>.int (bb C t x))),some (.int (a.length:Nat)),none] (M.upd l (.lst (a.map (fun k=>.int (bb C (if k∈ks then t else s) k))++v::b.map fun k=>.int (bb C s k)))):=fun v hv=>
    hnx _ _ ⟨a++[y],b,_,by simp [e1],by simp,rfl,by subst hv;simp⟩
   simp only [hName,List.set];unfold hV bw;refine CT (k:=y) (ks:=ks) (fun K q=>?_) (fun K q=>q) ?_
   ·have a1:=mq (f:=kD) ey
    simp! [a1];exact q
   by_cases c:y∈ks
   ·have:=fin (.int (bb C t y)) (by rw [if_pos c])
    rw [if_pos (by simpa using c)]
    have e3:(a.map (fun k=>D.int (bb C (if k∈ks then t else s) k))).length=a.length:=by simp
    have e4:=Am (a:=a.map fun k=>D.int (bb C (if k∈ks then t else s) k)) (b:=b.map fun k=>D.int (bb C s k)) (x:=D.int (bb C s y))
    rw [e3] at e4;have e5:=yE (a:=a.map fun k=>D.int (bb C (if k∈ks then t else s) k)) (b:=b.map fun k=>D.int (bb C s k)) (x:=D.int (bb C s y)) (y:=D.int (bb C t y))
    rw [e3] at e5;have a1:=mq (f:=fun x=>D.int (bb C t x)) ey;simp! [a1,e4,e5,Mem.upd_upd];exact this
   ·have:=fin (.int (bb C s y)) (by rw [if_neg c])
    rw [if_neg (by simpa using c)]
    exact this
theorem oC(o:C.Ok)(hs:SOk C s)(ht:SOk C t)(h:Q (dy C s t ks).d M):r9 ad [aU C s t,bK ks] M Q E:=by
 have l1:=o.l1;have few:=o.few;have tl:=ig (C:=C);have z1:=hs.ln;have z2:=hs.lp;have z3:=ht.ln;have z4:=ht.lp;have es:s.d=.tup [.tup (s.nums.map D.int),.tup (s.pieces.map D.int)]:=rfl;have et:t.d=.tup [.tup (t.nums.map D.int),.tup (t.pieces.map D.int)]:=rfl;rw [Dt (n:=0)];unfold mC qu rF rJ rQ;generalize hK:kA ad (aN E)=K;generalize hF:dFor (cy (a9 (bO cg (a9 (aa 6) dNil)) dNil)) (hName 9) (hV ad (aN E))=F;simp! [aU];refine gB o ?_;simp! [es,et,atI_0,atI_1,ga o hs,ga o ht,List.length_map];refine ⟨szl (by lia),fun l hl=>⟨szl (by lia),?_⟩⟩
 rw [<- hF];refine oB (s:=s) (t:=t) (ks:=ks) o hl rfl fun c9=>?_;dsimp only;rw [<- hK];unfold kA qB Cse.d;have e1:((dj C).map fun k=>D.int (bb C (if k∈ks then t else s) k))=(dy C s t ks).nums.map D.int++(dy C s t ks).pieces.map D.int:=by
  simp [dj,dy,Function.comp_def]
 have e2:(dy C s t ks).nums.length=C.names.length:=by simp [dy]
 rw [e1];simp! [atI_1,List.length_map,cS,cutD_lo];intro p1 h1;simp! [Mem.upd_del,ah h1];intro p2 h2;simp! [Mem.upd_del,ah h2];refine ⟨szl (by simp),M,fun b o e=>by rw [ao (fun q=>by rw [q,hl] at e;cases e)];exact e,?_⟩
 rw [List.take_left' (by simp [e2]),List.drop_left' (by simp [e2])]
 exact h
theorem lG(o:C.Ok)(hs:SOk C s)(ht:SOk C t)(h:Q (.str (C.ver s t ks)) M):iN ad [aU C s t,bK ks] M Q E:=by
 have hcs:aU C s t=.tup [C.d,s.d,t.d,.int (C.most:Nat)]:=rfl;have t2:iA ad (aN E) { nx:=fun _ M'=>drp Q .non M',rt:=drp Q } [some (aU C s t),some (bK ks),some C.d,some s.d,some t.d,some (.int (C.most:Nat)),some (C.mark (dy C s t ks))] M:=by
  unfold iA;generalize hK:lg ad (aN E)=K;simp only [aw,bw,aK,dOp,aa,ar,dCall,a9,dNil,List.getElem?_cons_succ,List.getElem?_cons_zero];refine ⟨rfl,eY o hs (dN ?_)⟩;simp only [dz,rX];refine ⟨g7,g7,?_⟩;unfold Cse.ver at h
  by_cases c1:aZ (C.mark (dy C s t ks)) (C.mark s)=true
  ·rw [if_pos c1] at h ⊢
   exact ay h
  ·rw [if_neg c1] at h ⊢
   dsimp only [bj];rw [<- hK];unfold lg;simp only [a_,dOp,aa,ar,dCall,a9,dNil,bX,dC,bO,List.getElem?_cons_succ,List.getElem?_cons_zero];refine ⟨szl (by decide),fun p hp=>frz_new hp ?_⟩
   refine ⟨rfl,eY o ht (dN ?_)⟩;simp only [dz,rX];refine ⟨g7,g7,?_⟩
   by_cases c2:aZ (C.mark (dy C s t ks)) (C.mark t)=true
   ·rw [if_pos c2] at h
    rw [c2];exact ay h
   ·rw [if_neg c2] at h
    rw [Bool.not_eq_true _ |>.mp c2]
    exact ay h
 rw [Dp (n:=0)];unfold nk qE;generalize iA ad (aN E)=K at t2 ⊢;simp only [aw,aF,gn,bB,ft,hName,aa,startN,List.map_cons,List.map_nil,List.length_cons,List.length_nil,List.replicate,List.cons_append,List.nil_append,List.getElem?_cons_succ,List.getElem?_cons_zero,hcs];refine ⟨trivial,?_⟩;simp only [List.set,ar,dCall,a9,aa,dNil,List.getElem?_cons_succ,List.getElem?_cons_zero];rw [<- hcs];refine ⟨rfl,bv (fun _ _ q=>oC o hs ht q) ?_⟩;refine ie ?_;refine ⟨rfl,eY o (r8 o hs ht) (dN t2)⟩
theorem verdict_call{EE:DX}{b:BxQ EE Q}(o:C.Ok)(hs:SOk C s)(ht:SOk C t)(h:Q (.str (C.ver s t ks)) M):calls (iN ad) EE [aU C s t,bK ks] M Q b:=
 bv (fun _ _ q=>lG o hs ht q) h
theorem jB(hl:ks.length<=1000)(h:∀p,M p=none->Q (.ref p) (M.upd p (.lst ((cj ks).map bK)))):mR ad [bK ks] M Q E:=by
 rw [u_q5 (n:=0)];unfold uo;exact jV hl fun p hp=>ay (h p hp)
end
end Tw
namespace Tw
open PySem L2 L3
structure Lo(k:Pt)(b:Nat)(M:Mem)(l:Addr)(xs:List D)(N:Mem):Prop where
 has:Has k b N
 np:l≠k.p
 nq:l≠k.q
 fr:M l=none
 kp:∀x,x≠k.p->x≠k.q->x≠l->N x=M x
 at':N l=some (.lst xs)
section
variable {k:Pt}{b c:Nat}{M N N':Mem}{l:Addr}{xs ys:List D}
theorem Lo.new(h:Has k b M)(hl:M l=none):Lo k b M l xs (M.upd l (.lst xs)):=
 ⟨h.upd (h.nep hl),(h.nep hl).1,(h.nep hl).2,hl,fun x _ _ n=>ao n,Mem.upd_same⟩
theorem zV(h0:Has k c M)(d:Dr k b M N)(hl:N l=none):Lo k b M l xs (N.upd l (.lst xs)):=by
 have ne:=d.1.nep hl;exact ⟨d.1.upd ne,ne.1,ne.2,by rw [<- d.2 l ne.1 ne.2];exact hl,fun x h1 h2 n=>by rw [ao n];exact d.2 x h1 h2,Mem.upd_same⟩
theorem Lo.dr(h:Lo k b M l xs N)(d:Dr k c N N'):Lo k c M l xs N':=
 ⟨d.1,h.np,h.nq,h.fr,fun x h1 h2 n=>by rw [d.2 x h1 h2];exact h.kp x h1 h2 n,by rw [d.2 l h.np h.nq];exact h.at'⟩
theorem Lo.put(h:Lo k b M l xs N):Lo k b M l ys (N.upd l (.lst ys)):=
 ⟨h.has.upd ⟨h.np,h.nq⟩,h.np,h.nq,h.fr,fun x h1 h2 n=>by rw [ao n];exact h.kp x h1 h2 n,Mem.upd_same⟩
theorem Lo.le(h:Lo k b M l xs N)(e:c<=b):Lo k c M l xs N:=⟨h.has.le e,h.np,h.nq,h.fr,h.kp,h.at'⟩
theorem Lo.fin(h:Lo k b M l xs N):Dr k b M (N.del l)/\∀x o,(N.del l) x=some o->N x=some o:=by
 have fd:∀x,x≠l->(N.del l) x=N x:=fun x hx=>by unfold Mem.del;rw [if_neg hx]
 obtain ⟨cells,t',hh,a1,a2,a3,e1,e2⟩:=h.has;refine ⟨⟨⟨cells,t',hh,a1,a2,a3,by rw [fd _ (Ne.symm h.np)];exact e1,by rw [fd _ (Ne.symm h.nq)];exact e2⟩,fun x h1 h2=>?_⟩,fun x o e=>?_⟩
 ·by_cases c:x=l
  ·subst c;unfold Mem.del;rw [if_pos rfl,h.fr]
  ·rw [fd x c];exact h.kp x h1 h2 c
 ·by_cases c:x=l
  ·subst c;unfold Mem.del at e;rw [if_pos rfl] at e;cases e
  ·rw [fd x c] at e;exact e
theorem Lo.drp{Q:DK}{d:D}(h:Lo k b M l xs N)(q:∀M',Dr k b M M'->Q d M'):L3.drp Q d N:=⟨N.del l,h.fin.2,q _ h.fin.1⟩
end
theorem we{te:bM}{k:Pt}{b:Nat}{M:Mem}{items:List D}{Q:List D->Mem->Prop}{bx:BxC (hName 0) cL te (DIt.ok ⟨items,[]⟩) Q}{rest:Dl}{c0:Option D}{xs:List D}(c:Nat)(P:D->Prop)(hl:xs.length<=100000)(hp:Has k (b+c*xs.length) M)
  (he:∀x∈xs,∀N b',Dr k (b'+c) M N->∀K:DK,(∀y N',P y->Dr k b' N N'->K y N')->te (some x::rest) N K) (h:∀ys N,ys.length=xs.length->(∀y∈ys,P y)->Dr k b M N->Q ys N):
  cI (hName 0) cL te (DIt.ok ⟨items,[]⟩) Q bx xs [] (c0::rest) M:=by
 refine ce (fun zs acc δ N=>∃(us:List D) (c0:Option D),xs=us++zs/\acc.length=us.length/\(∀y∈acc,P y)/\δ=c0::rest/\Dr k (b+c*zs.length) M N) (fun _ _ _ _ _=>bG) ?_ ?_ ?_ _ _ _ _ ⟨[],c0,rfl,rfl,by simp,rfl,hp.refl⟩
 ·rintro acc δ N ⟨us,c0,e1,e2,e3,rfl,d⟩
  rw [List.append_nil] at e1;subst e1;exact h acc N e2 e3 (by simpa using d)
 ·rintro y ys acc δ N ⟨us,c0,e1,e2,e3,rfl,d⟩ N' hN1 _
  have h2:=congrArg List.length e1;simp only [List.length_append,List.length_cons] at h2;have hy:y∈xs:=by rw [e1];simp
  have d':Dr k (b+c*ys.length+c) M N:=d.le (by rw [List.length_cons,Nat.mul_succ];lia)
  simp only [hName,List.set,cL,if_true];refine he y hy N _ d' _ fun z N2 hz d2=>hN1 _ _ _ (by rw [e2];exact fP (by lia)) ⟨us++[y],_,by simp [e1],by simp [e2],fun w hw=>?_,rfl,d.trans d2⟩
  rcases List.mem_append.mp hw with q|q
  ·exact e3 w q
  ·rw [List.mem_singleton] at q;subst q;exact hz
 ·rintro y ys acc δ N ⟨us,c0,e1,e2,e3,rfl,d⟩
  have h2:=congrArg List.length e1;simp only [List.length_append] at h2;rw [e2];exact fP (by lia)
theorem yl{w:Int}:∀{ys:List D},(∀y∈ys,∃v,y=D.int v/\0<=v/\v<w)->∃vs:List Int,ys=vs.map D.int/\∀v∈vs,0<=v/\v<w
 |[],_=>⟨[],rfl,by simp⟩
 |y::ys,h=>by
  obtain ⟨v,rfl,hv⟩:=h y (by simp)
  obtain ⟨vs,rfl,hvs⟩:=yl fun z hz=>h z (List.mem_cons_of_mem _ hz);exact ⟨v::vs,rfl,fun u hu=>by rcases List.mem_cons.mp hu with rfl|q;exact hv;exact hvs u q⟩
section
variable {C:Cse}{s t:Sta}{ad:Ad}{M:Mem}{Q:DK}{E:DX}{k:Pt}{b:Nat}
theorem qF{vs:List Int}(hl:vs.length=C.names.length+C.many)(hv:∀v∈vs,0<=v/\v<C.w):SOk C ⟨vs.take C.names.length,vs.drop C.names.length⟩:=
 ⟨by simp;lia,by simp;lia,fun v h=>hv v (List.mem_of_mem_take h),fun v h=>hv v (List.mem_of_mem_drop h)⟩
theorem oz{EE:DX}{Q:DK}{l:Addr}{vs:List Int}{N:Mem}{c3 c4:Option D}(hl:vs.length=C.names.length+C.many)(hv:∀v∈vs,0<=v/\v<C.w)(lo:Lo k b M l (vs.map D.int) N)(h:∀s M',SOk C s->Dr k b M M'->Q s.d M'):
  i7 ad EE { nx:=fun _ M'=>drp Q .non M',rt:=drp Q } [some (.ref k.p),some C.d,some (.ref l),c3,c4,none] N:=by
 unfold i7 qM Cse.d;simp! [atI_1,List.length_map,lo.at',cS,cutD_lo];intro p1 h1;simp! [Mem.upd_del,ah h1,lo.at'];intro p2 h2;simp! [Mem.upd_del,ah h2];refine ⟨szl (by simp),lo.drp fun M' d=>?_⟩
 have:=h _ M' (qF hl hv) d;unfold Sta.d standD at this;simpa using this
theorem gQ(o:C.Ok)(n5:C.names.length<=5)(m6:C.many<=6)(hp:Has k (b+22) M)(h:∀s M',SOk C s->Dr k b M M'->Q s.d M'):ny ad [.ref k.p,C.d] M Q E:=by
 have w2:=o.m2;have w1:=o.m1;have ed:C.d=.tup [.int C.w,.tup (C.names.map D.str),.int (C.many:Nat),.tup (aB C.rows),.str C.mn]:=rfl;rw [CB (n:=0)];unfold mQ rz;generalize hK4:i7 ad (aN E)=K4;generalize hK2:kR ad (aN E)=K2;simp! [ed,atI_1,atI_2,↓dFor,List.length_map];refine ⟨szl (by decide),fun l hl=>⟨by lia,by lia,?_⟩⟩
 have e0:Int.toNat ((C.names.length:Int)+(C.many:Int))=C.names.length+C.many:=by lia
 rw [e0,<- ed]
 refine forD_inv (fun xs δ N=>∃(vs:List Int) (c3 c4:Option D),xs.length+vs.length=C.names.length+C.many/\(∀v∈vs,0<=v/\v<C.w)/\δ=[some (.ref k.p),some C.d,some (.ref l),c3,c4,none]/\Lo k (b+2*xs.length) M l (vs.map D.int) N)
  (fun _ _ _ _=>bG) ?_ ?_ _ _ _ ⟨[],none,none,by simp [bT],by simp,rfl,(Lo.new hp hl).le (by simp [bT];lia)⟩
 ·rintro δ N ⟨vs,c3,c4,e1,hv,rfl,lo⟩
  dsimp only;rw [<- hK4];exact oz (by simpa using e1) hv (lo.le (by simp)) h
 ·rintro x xs δ N ⟨vs,c3,c4,e1,hv,rfl,lo⟩ D' hnx _ _ _
  simp only [List.length_cons] at e1 lo;simp only [hName,List.set];rw [<- hK2];unfold kR qV;simp! [ed,atI_0];refine aJ (b:=b+2*xs.length+1) (lo.has.le (by lia)) (by lia) (by lia) fun v N1 a1 b1 d1=>?_
  have lo1:=lo.dr d1;simp! [lo1.at'];refine ⟨by lia,by lia,szl (by decide),fun p hp=>?_⟩
  simp! [Mem.upd_del,ah hp];refine aJ (b:=b+2*xs.length) lo1.has (by decide) (by decide) fun r N2 a2 b2 d2=>?_
  have lo2:=lo1.dr d2;obtain ⟨u,eu,u0,u1⟩:∃u:Int,atI [D.int v,.int 0,.int (v % 3 % C.w)] r=some (.int u)/\0<=u/\u<C.w:=by
   have:r=0\/r=1\/r=2:=by lia
   rcases this with rfl|rfl|rfl
   ·exact ⟨_,rfl,a1,b1⟩
   ·exact ⟨_,rfl,by lia,by lia⟩
   ·exact ⟨_,rfl,(cK (by lia)).1,(cK (by lia)).2⟩
  simp! [eu,lo2.at',List.length_map];refine ⟨fP (by lia),?_⟩
  have:=hnx [some (.ref k.p),some C.d,some (.ref l),some x,some (.int v),none] (N2.upd l (.lst ((vs++[u]).map D.int))) ⟨vs++[u],_,_,by simp;lia,fun y hy=>?_,rfl,lo2.put⟩
  ·simpa using this
  ·rcases List.mem_append.mp hy with q|q
   ·exact hv y q
   ·rw [List.mem_singleton] at q;subst q;exact ⟨u0,u1⟩
theorem xZ{w:Int}{xs ys:List Int}{c0 c1:Option D}{its:List D}{Q:List D->Mem->Prop}{bx:BxC (gn 2 (bB (hName 0) (bB (hName 1) ft))) cL (dOp aL (ar (bX (a9 (aa 0) (a9 (aa 1) dNil)))) (ar (dCall (bi ad) jA 2 (a9 (aa 2) (a9 (dC (.int 2)) dNil))))) (DIt.ok ⟨its,[]⟩) Q}
  (hx:∀v∈xs,0<=v/\v<w) (hy:∀v∈ys,0<=v/\v<w) (hl:xs.length=ys.length) (hs:xs.length<=1000) (hp:Has k (b+xs.length) M)
  (h:∀(vs:List Int) N,vs.length=xs.length->(∀v∈vs,0<=v/\v<w)->Dr k b M N->Q (vs.map D.int) N):
  cI (gn 2 (bB (hName 0) (bB (hName 1) ft))) cL (dOp aL (ar (bX (a9 (aa 0) (a9 (aa 1) dNil)))) (ar (dCall (bi ad) jA 2 (a9 (aa 2) (a9 (dC (.int 2)) dNil))))) (DIt.ok ⟨its,[]⟩) Q bx (jM (xs.map D.int) (ys.map D.int)) [] [c0,c1,some (.ref k.p)] M:=by
 refine ce (fun zs acc δ N=>∃(x2 y2 vs:List Int) (c0 c1:Option D),zs=jM (x2.map D.int) (y2.map D.int)/\x2.length=y2.length/\vs.length+x2.length=xs.length/\(∀v∈x2,0<=v/\v<w)/\(∀v∈y2,0<=v/\v<w)/\(∀v∈vs,0<=v/\v<w)/\acc=vs.map D.int/\δ=[c0,c1,some (.ref k.p)]/\Dr k (b+x2.length) M N)
  (fun _ _ _ _ _=>bG) ?_ ?_ ?_ _ _ _ _ ⟨xs,ys,[],c0,c1,rfl,hl,by simp,hx,hy,by simp,rfl,rfl,hp.refl⟩
 ·rintro acc δ N ⟨x2,y2,vs,c0,c1,e1,e2,e3,_,_,hv,rfl,rfl,d⟩
  have:x2=[]:=by
   cases x2 with
   |nil=>rfl
   |cons _ _=>
    cases y2 with
    |nil=>simp at e2
    |cons _ _=>simp [jM] at e1
  subst this;exact h vs N (by simpa using e3) hv (by simpa using d)
 ·rintro z zs acc δ N ⟨x2,y2,vs,c0,c1,e1,e2,e3,h1,h2,hv,rfl,rfl,d⟩ N' hN _
  cases x2 with
  |nil=>simp [jM] at e1
  |cons x x2=>
   cases y2 with
   |nil=>simp at e2
   |cons y y2=>
    simp only [jM,List.map_cons,List.zip_cons_cons,List.cons.injEq] at e1;obtain ⟨rfl,rfl⟩:=e1;simp only [List.length_cons] at d e3 e2;simp! [];refine ⟨szl (by decide),fun p hp=>?_⟩
    simp! [Mem.upd_del,ah hp];refine aJ (b:=b+x2.length) (d.1.le (by lia)) (by decide) (by decide) fun r N2 a2 b2 d2=>?_
    obtain ⟨u,eu,hu⟩:∃u:Int,atI [D.int x,.int y] r=some (.int u)/\0<=u/\u<w:=by
     have:r=0\/r=1:=by lia
     rcases this with rfl|rfl
     ·exact ⟨_,rfl,h1 x (by simp)⟩
     ·exact ⟨_,rfl,h2 y (by simp)⟩
    simp! [eu];refine hN _ _ _ (by rw [List.length_map];exact fP (by lia)) ⟨x2,y2,vs++[u],_,_,rfl,by lia,by simp;lia,fun v q=>h1 v (List.mem_cons_of_mem _ q),fun v q=>h2 v (List.mem_cons_of_mem _ q),fun v q=>?_,by simp,rfl,d.trans d2⟩
    rcases List.mem_append.mp q with q|q
    ·exact hv v q
    ·rw [List.mem_singleton] at q;subst q;exact hu
 ·rintro z zs acc δ N ⟨x2,y2,vs,c0,c1,e1,e2,e3,h1,h2,hv,rfl,rfl,d⟩
  rw [List.length_map];exact fP (by lia)
theorem nU{w:Int}{xs ys:List Int}{acc:List D}{c1 c2 c3:Option D}{l:Addr}{N:Mem}{D':DEnds}{EE:DX}(hx:∀v∈xs,0<=v/\v<w)(hy:∀v∈ys,0<=v/\v<w)(hl:xs.length=ys.length)(hs:xs.length<=1000)(ha:acc.length<=10)(lo:Lo k (b+xs.length) M l acc N)
  (h:∀(vs:List Int) N,vs.length=xs.length->(∀v∈vs,0<=v/\v<w)->Lo k b M l (acc++[.tup (vs.map D.int)]) N->D'.nx [some (.ref k.p),c1,c2,c3,some (.ref l),some (.tup (xs.map D.int)),some (.tup (ys.map D.int))] N):
  oo ad EE D' [some (.ref k.p),c1,c2,c3,some (.ref l),some (.tup (xs.map D.int)),some (.tup (ys.map D.int))] N:=by
 unfold oo;simp only [ci,tN,aa,bO,a9,ar,bD,uR,dNil,List.getElem?_cons_succ,List.getElem?_cons_zero,cP,eT,lo.at',true_and,srcOf,List.append_nil];refine xZ hx hy hl hs lo.has fun vs N1 lv hv d1=>fun p hp=>?_;have lo1:=lo.dr d1;simp only [frz,Mem.upd_same,Mem.upd_del,ah hp,cTuple,seqL,cm,lo1.at'];exact ⟨fP (by lia),h vs _ lv hv lo1.put⟩
theorem j4(o:C.Ok)(n5:C.names.length<=5)(m6:C.many<=6)(hp:Has k (b+55) M)(h:∀s t M',SOk C s->SOk C t->Dr k b M M'->Q (.tup [s.d,t.d]) M'):xA ad [.ref k.p,C.d] M Q E:=by
 rw [u_q2 (n:=0)];unfold uA wf vB wk;generalize hK:pc ad (aN E)=K;simp only [aw,aF,ar,dCall,a9,aa,dNil,List.getElem?_cons_succ,List.getElem?_cons_zero,startN,List.map_cons,List.map_nil,List.length_cons,List.length_nil,List.replicate,List.cons_append,List.nil_append];refine ⟨trivial,calls_of fun Q' E' hq _=>gQ (b:=b+33) o n5 m6 hp fun s M1 hs d1=>hq _ _ (ie ?_)⟩;simp only [hName,List.set,List.getElem?_cons_succ,List.getElem?_cons_zero];refine ⟨rfl,calls_of fun Q' E' hq _=>gQ (b:=b+11) o n5 m6 d1.1 fun u M2 hu d2=>hq _ _ (ie ?_)⟩;simp only [List.set,bX,dNil,List.length_nil];refine ⟨szl (by decide),fun l hl=>?_⟩
 have z1:=hs.ln;have z2:=hs.lp;have z3:=hu.ln;have z4:=hu.lp;have es:s.d=.tup [.tup (s.nums.map D.int),.tup (s.pieces.map D.int)]:=rfl;have eu:u.d=.tup [.tup (u.nums.map D.int),.tup (u.pieces.map D.int)]:=rfl;have lo:=zV (xs:=[]) hp (d1.trans d2) hl;simp only [dFor,uR,a9,aa,dNil,List.getElem?_cons_succ,List.getElem?_cons_zero,es,eu,cP,srcOf,List.append_nil]
 refine forD_inv (fun zs δ N=>∃c5 c6:Option D,δ=[some (.ref k.p),some C.d,some s.d,some u.d,some (.ref l),c5,c6]/\
  ((zs=[.tup [.tup (s.nums.map D.int),.tup (u.nums.map D.int)],.tup [.tup (s.pieces.map D.int),.tup (u.pieces.map D.int)]]/\Lo k (b+11) M l [] N)\/
   (zs=[.tup [.tup (s.pieces.map D.int),.tup (u.pieces.map D.int)]]/\∃vs:List Int,vs.length=C.names.length/\(∀v∈vs,0<=v/\v<C.w)/\Lo k (b+6) M l [.tup (vs.map D.int)] N)\/
   (zs=[]/\∃vs us:List Int,vs.length=C.names.length/\(∀v∈vs,0<=v/\v<C.w)/\us.length=C.many/\(∀v∈us,0<=v/\v<C.w)/\Lo k b M l [.tup (vs.map D.int),.tup (us.map D.int)] N)))
  (fun _ _ _ _=>bG) ?_ ?_ _ _ _ ⟨none,none,rfl,.inl ⟨rfl,lo⟩⟩
 ·rintro δ N ⟨c5,c6,rfl,⟨e,_⟩|⟨e,_⟩|⟨_,vs,us,lv,hv,lu,hu',lo3⟩⟩
  ·cases e
  ·cases e
  dsimp only;rw [<- hK];unfold pc;simp only [a_,bL,a9,aa,dNil,bO,List.getElem?_cons_succ,List.getElem?_cons_zero,cTuple,seqL,lo3.at'];refine ⟨szl (by simp),lo3.drp fun M' d=>?_⟩
  exact h s ⟨vs,us⟩ M' hs ⟨lv,lu,hv,hu'⟩ d
 ·rintro x xs δ N ⟨c5,c6,rfl,⟨e,lo1⟩|⟨e,vs,lv,hv,lo2⟩|⟨e,_⟩⟩ D' hnx _ _ _
  ·cases e
   simp only [gn,bB,ft,hName,List.set,List.length_cons,List.length_nil,true_and];refine nU (b:=b+6) (w:=C.w) hs.rn hu.rn (by lia) (by lia) (by simp) (lo1.le (by lia)) fun vs N1 lv hv lo2=>hnx _ _ ⟨_,_,rfl,.inr (.inl ⟨rfl,vs,by lia,hv,lo2⟩)⟩
  ·cases e
   simp only [gn,bB,ft,hName,List.set,List.length_cons,List.length_nil,true_and];refine nU (b:=b) (w:=C.w) hs.rp hu.rp (by lia) (by lia) (by simp) (lo2.le (by lia)) fun us N1 lu hu' lo3=>hnx _ _ ⟨_,_,rfl,.inr (.inr ⟨rfl,vs,us,lv,hv,by lia,hu',lo3⟩)⟩
  ·cases e
end
end Tw
namespace Tw
open PySem L2 L3
section
variable {C:Cse}{s t:Sta}{ad:Ad}{M:Mem}{Q:DK}{E:DX}{k:Pt}{b:Nat}
theorem qY{xs:List Int}{i:Int}(h0:0<=i)(h1:i<xs.length):∃v,v∈xs/\xs[i.toNat]?=some v/\atI (xs.map D.int) i=some (.int v):=by
 have hr:i.toNat<xs.length:=by lia
 exact ⟨xs[i.toNat],List.getElem_mem hr,List.getElem?_eq_getElem hr,by rw [bY h0,List.getElem?_map,List.getElem?_eq_getElem hr];rfl⟩
theorem pf{xs ys:List Int}{few turn j:Int}{c0 c1 c2 c3 c9 c10:Option D}{l:Addr}{N:Mem}{D':DEnds}{EE:DX}(hx:∀v∈xs,0<=v/\v<C.w)(hy:∀v∈ys,0<=v/\v<C.w)(hl:xs.length=ys.length)(h0:0<xs.length)(lo:Lo k b M l (ys.map D.int) N)
  (h:∀(ys':List Int) (few':Int) c9 N',ys'.length=ys.length->(∀v∈ys',0<=v/\v<C.w)->Lo k b M l (ys'.map D.int) N'->D'.nx [c0,c1,c2,c3,some (.int few'),some (.lst (xs.map D.int)),some (.ref l),some (.int turn),some (.int j),c9,c10] N'):
  iy ad EE D' [c0,c1,c2,c3,some (.int few),some (.lst (xs.map D.int)),some (.ref l),some (.int turn),some (.int j),c9,c10] N:=by
 have a:=cK (a:=j+turn) (m:=(xs.length:Nat)) (by lia)
 obtain ⟨v,hv,_,ev⟩:=qY (xs:=xs) a.1 a.2;obtain ⟨u,hu,_,eu⟩:=qY (xs:=ys) (i:=(j+turn) % (xs.length:Nat)) a.1 (by rw [<- hl];exact a.2)
 have ei:pJ ys.length ((j+turn) % (xs.length:Nat))=some ((j+turn) % (xs.length:Nat)).toNat:=u6 a.1 (by rw [<- hl];exact a.2)
 unfold iy rM ra;simp! [List.length_map,lo.at',ev,eu];refine ⟨by lia,?_⟩
 by_cases c1:v=u
 ·simp only [c1,decide_true,Bool.not_true,Bool.false_eq_true,if_false]
  exact h ys few _ N rfl hy lo
 ·simp only [c1,decide_false,Bool.not_false,if_true]
  by_cases c2:few=0
  ·rw [if_pos c2]
   simp only [List.length_map,ei];have:=h (ys.set ((j+turn) % (xs.length:Nat)).toNat v) few (some (.int ((j+turn) % (xs.length:Nat)))) _ (by simp) (fun z hz=>?_) (lo.put (ys:=(ys.set ((j+turn) % (xs.length:Nat)).toNat v).map D.int))
   ·rw [List.map_set] at this
    exact this
   ·rcases List.mem_or_eq_of_mem_set hz with q|q
    ·exact hy z q
    ·subst q;exact hx z hv
  ·rw [if_neg c2]
   exact h ys _ _ N rfl hy lo
theorem lY(k:SOk C s):∀v∈s.nums++s.pieces,0<=v/\v<C.w:=fun v h=>by
 rcases List.mem_append.mp h with q|q
 ·exact k.rn v q
 ·exact k.rp v q
theorem pB{few:Int}(o:C.Ok)(n5:C.names.length<=5)(m6:C.many<=6)(hs:SOk C s)(ht:SOk C t)(hp:Has k (b+1) M)(h:∀t M',SOk C t->Dr k b M M'->Q t.d M'):q_ ad [.ref k.p,C.d,s.d,t.d,.int few] M Q E:=by
 have z1:=hs.ln;have z2:=hs.lp;have z3:=ht.ln;have z4:=ht.lp;have l0:=o.l0;have es:s.d=.tup [.tup (s.nums.map D.int),.tup (s.pieces.map D.int)]:=rfl;have et:t.d=.tup [.tup (t.nums.map D.int),.tup (t.pieces.map D.int)]:=rfl;have ed:C.d=.tup [.int C.w,.tup (C.names.map D.str),.int (C.many:Nat),.tup (aB C.rows),.str C.mn]:=rfl;have l1:(s.nums++s.pieces).length=C.names.length+C.many:=by simp;lia
 have l2:(t.nums++t.pieces).length=C.names.length+C.many:=by simp;lia
 have l1m:((s.nums++s.pieces).map D.int).length=C.names.length+C.many:=by rw [List.length_map];exact l1
 rw [CM (n:=0)];unfold nL rR pS qw;generalize hK5:kY ad (aN E)=K5;generalize hK3:iy ad (aN E)=K3;simp! [es,et,atI_0,atI_1,List.length_map,<- List.map_append,↓dFor];refine ⟨szl (by lia),fun p1 h1=>?_⟩
 simp only [Mem.upd_del,ah h1];refine ⟨szl (by lia),fun l hl=>?_⟩
 have lo0:=Lo.new (xs:=(t.nums++t.pieces).map D.int) hp hl;refine aJ (b:=b) lo0.has (by lia) (by lia) fun turn N1 a1 b1 d1=>?_
 have lo1:=lo0.dr d1;simp! [List.length_map];refine ⟨by lia,by lia,?_⟩
 refine forD_inv (fun xs δ N=>(∀x∈xs,∃j,x=D.int j)/\∃(ys:List Int) (few:Int) (c8 c9:Option D),ys.length=C.names.length+C.many/\(∀v∈ys,0<=v/\v<C.w)/\δ=[some (.ref k.p),some C.d,some s.d,some t.d,some (.int few),some (.lst ((s.nums++s.pieces).map D.int)),some (.ref l),some (.int turn),c8,c9,none]/\Lo k b M l (ys.map D.int) N)
  (fun _ _ _ _=>bG) ?_ ?_ _ _ _ ⟨?_,_,_,_,_,l2,lY ht,rfl,lo1⟩
 ·rintro δ N ⟨_,ys,few,c8,c9,ly,hy,rfl,lo⟩
  dsimp only;rw [<- hK5];unfold kY rL Cse.d;simp! [atI_1,List.length_map,lo.at',cS,cutD_lo];intro p1 h1;simp! [Mem.upd_del,ah h1,lo.at'];intro p2 h2;simp! [Mem.upd_del,ah h2];refine ⟨szl (by simp),lo.drp fun M' d=>?_⟩
  have:=h _ M' (qF ly hy) d;unfold Sta.d standD at this;simpa using this
 ·rintro x xs δ N ⟨hx,ys,few,c8,c9,ly,hy,rfl,lo⟩ D' hnx _ _ _
  obtain ⟨j,rfl⟩:=hx x (by simp)
  simp only [hName,List.set];rw [<- hK3];exact pf (lY hs) hy (by lia) (by lia) lo fun ys' few' c9 N' ly' hy' lo'=>hnx _ _ ⟨fun y q=>hx y (List.mem_cons_of_mem _ q),ys',few',_,_,by lia,hy',rfl,lo'⟩
 ·intro x hx
  simp only [bT,List.mem_map] at hx;obtain ⟨j,_,rfl⟩:=hx;exact ⟨_,rfl⟩
theorem kN(o:C.Ok)(n5:C.names.length<=5)(hp:Has k (b+3) M)(h:∀r M',RwOk C.names C.w C.many r->Dr k b M M'->Q r.d M'):yS ad [.ref k.p,C.d] M Q E:=by
 have l0:=o.l0;have ed:C.d=.tup [.int C.w,.tup (C.names.map D.str),.int (C.many:Nat),.tup (aB C.rows),.str C.mn]:=rfl;rw [u_q7 (n:=0)];unfold vE vR w8;generalize hK:oH ad (aN E)=K;simp! [ed,atI_1];refine ⟨szl (by decide),fun p1 h1=>?_⟩
 simp! [Mem.upd_del,ah h1];refine aJ (b:=b+2) hp (by decide) (by decide) fun r N1 a1 b1 d1=>?_
 obtain ⟨v,ev,hv⟩:∃v:Str,atI [D.str "sum",.str "by",.str "less",.str "same"] r=some (.str v)/\(v="sum"\/v="by"\/v="less"\/v="same"):=by
  have:r=0\/r=1\/r=2\/r=3:=by lia
  rcases this with rfl|rfl|rfl|rfl
  ·exact ⟨_,rfl,.inl rfl⟩
  ·exact ⟨_,rfl,.inr (.inl rfl)⟩
  ·exact ⟨_,rfl,.inr (.inr (.inl rfl))⟩
  ·exact ⟨_,rfl,.inr (.inr (.inr rfl))⟩
 simp! [ev,↓bD];refine ⟨by decide,by decide,?_⟩
 refine we (k:=k) (b:=b) 1 (fun d=>∃x,d=.str x/\x∈C.names) (by simp [bT]) (by simpa [bT] using d1.1) (fun x hx N b' d K hK=>?_) fun ys N2 ly hy d2=>?_
 ·have lnm:(C.names.map D.str).length=C.names.length:=List.length_map _
  simp! [];refine aJ (b:=b') d.1 (by lia) (by lia) fun r2 N2 a2 b2 d2=>?_
  obtain ⟨y,hym,ey⟩:=rO (names:=C.names) a2 (by lia)
  simp! [ey];exact hK _ _ ⟨y,rfl,hym⟩ d2
 ·intro p hp
  obtain ⟨y1,y2,rfl⟩:∃y1 y2,ys=[y1,y2]:=by
   have ly':ys.length=2:=by rw [ly];rfl
   match ys,ly' with
   |[y1,y2],_=>exact ⟨y1,y2,rfl⟩
  obtain ⟨x1,rfl,h1⟩:=hy y1 (by simp)
  obtain ⟨x2,rfl,h2⟩:=hy y2 (by simp)
  simp! [Mem.upd_del,ah hp];rw [<- hK];unfold oH;simp! [atI_4];exact ⟨szl (by decide),ay (h (.two v C.mn x1 x2) _ ⟨hv,o.mn,h1,h2⟩ (d1.trans d2))⟩
end
end Tw
namespace Tw
open PySem L2 L3
theorem nc{C:Cse}{s:Sta}{m:Nat}(h1:(C.run s).1=true)(h2:(C.run s).2.steps.length<=m):({ C with most:=m }:Cse).run s=C.run s:=by
 have h1':(bp (C.cf s) C.rows [] 0 ⟨C.names.zip s.nums,[]⟩).1=true:=h1;have h2':(bp (C.cf s) C.rows [] 0 ⟨C.names.zip s.nums,[]⟩).2.steps.length<=m:=h2;show bp ⟨C.w,s.pieces,m⟩ C.rows [] 0 ⟨C.names.zip s.nums,[]⟩=bp (C.cf s) C.rows [] 0 ⟨C.names.zip s.nums,[]⟩
 by_cases c:C.most<=m
 ·exact (cW (c:=C.cf s) (c':=⟨C.w,s.pieces,m⟩) ⟨rfl,rfl,c⟩ C.rows [] 0 ⟨C.names.zip s.nums,[]⟩ (Nat.zero_le _)).1 h1'
 ·have q:=cW (c:=⟨C.w,s.pieces,m⟩) (c':=C.cf s) ⟨rfl,rfl,by show m<=C.most;lia⟩ C.rows [] 0 ⟨C.names.zip s.nums,[]⟩ (Nat.zero_le _)
  rcases kF (bp ⟨C.w,s.pieces,m⟩ C.rows [] 0 ⟨C.names.zip s.nums,[]⟩).1 with e|e
  ·have:=(q.2 e).2 h1'
   have this:m<_:=this;lia
  ·exact (q.1 e).symm
section
variable {k1 k2:Hk}{c1 c2:Cf}{l1 l2:Int}{n1 n2:gm}{r1 r2:List Int}{M N:Mem}{x:Addr}
theorem dm(e1:x≠k1.h)(e2:x≠k1.dn)(e3:x≠k1.lr):hM k1 c1 l1 n1 r1 M x=M x:=by unfold hM;rw [ao e3,ao e2,ao e1]
theorem lB(h:hM k1 c1 l1 n1 r1 M x=none):x≠k1.h/\x≠k1.dn/\x≠k1.lr/\M x=none:=by
 have e1:x≠k1.h:=fun e=>by rw [e,eg] at h;cases h
 have e2:x≠k1.dn:=fun e=>by rw [e,cQ] at h;cases h
 have e3:x≠k1.lr:=fun e=>by rw [e,jR] at h;cases h
 rw [dm e1 e2 e3] at h;exact ⟨e1,e2,e3,h⟩
structure Apart(k1 k2:Hk):Prop where
 h:k2.h≠k1.h/\k2.h≠k1.dn/\k2.h≠k1.lr
 d:k2.dn≠k1.h/\k2.dn≠k1.dn/\k2.dn≠k1.lr
 l:k2.lr≠k1.h/\k2.lr≠k1.dn/\k2.lr≠k1.lr
theorem kC(a:Apart k1 k2):hM k2 c2 l2 n2 r2 (hM k1 c1 l1 n1 r1 M)=hM k1 c1 l1 n1 r1 (hM k2 c2 l2 n2 r2 M):=by
 funext x
 by_cases e1:x=k1.h
 ·subst e1;rw [dm a.h.1.symm a.d.1.symm a.l.1.symm,eg,eg]
 by_cases e2:x=k1.dn
 ·subst e2;rw [dm a.h.2.1.symm a.d.2.1.symm a.l.2.1.symm,cQ,cQ]
 by_cases e3:x=k1.lr
 ·subst e3;rw [dm a.h.2.2.symm a.d.2.2.symm a.l.2.2.symm,jR,jR]
 rw [dm (k1:=k1) e1 e2 e3]
 by_cases f1:x=k2.h
 ·subst f1;rw [eg,eg]
 by_cases f2:x=k2.dn
 ·subst f2;rw [cQ,cQ]
 by_cases f3:x=k2.lr
 ·subst f3;rw [jR,jR]
 rw [dm f1 f2 f3,dm f1 f2 f3,dm e1 e2 e3]
theorem Kq.hm{k:Pt}{b:Nat}(K:Kq k b M N)(z1:N k1.h=none)(z2:N k1.dn=none)(z3:N k1.lr=none):Kq k b M (hM k1 c1 l1 n1 r1 N):=by
 refine ⟨?_,fun x o h1 h2 e=>pK z1 z2 z3 x o (K.kp x o h1 h2 e)⟩;unfold hM;exact ((K.has.upd (K.has.nep z1)).upd (K.has.nep z2)).upd (K.has.nep z3)
theorem Kq.le{k:Pt}{b c:Nat}(K:Kq k b M N)(e:c<=b):Kq k c M N:=⟨K.has.le e,K.kp⟩
theorem Has.kq{k:Pt}{b:Nat}(h:Has k b M):Kq k b M M:=⟨h,fun _ _ _ _ e=>e⟩
end
structure CsOk(C:Cse)(s t:Sta):Prop where
 o:C.Ok
 hs:SOk C s
 ht:SOk C t
 n:C.names.length<=5
 m:C.many<=6
 e:∃a b:Int,C.mark s=.int a/\C.mark t=.int b/\a≠b
section
variable {C:Cse}{s t:Sta}{ad:Ad}{M N:Mem}{Q:DK}{E:DX}{k:Pt}{b:Nat}
theorem v3{few:D}{EE:DX}{D':DEnds}{c5 c6 c11 c12 c13 c14:Option D}{r0:D}{k1 k2:Hk}{rd1 rd2:List Int}{N:Mem}(o:C.Ok)(n5:C.names.length<=5)(m6:C.many<=6)(mo:C.most<=1000)(hs:SOk C s)(ht:SOk C t)(a:Apart k1 k2)(g1:(C.run s).1=true)(g2:(C.run t).1=true)(hne:nm (C.run s).2.nums C.mn≠nm (C.run t).2.nums C.mn)
  (K:Kq k (b+2) M (hS k2 (C.cf t) (C.run t).2 rd2 (hS k1 (C.cf s) (C.run s).2 rd1 N))) (hrt:∀C' s t N',CsOk C' s t->Kq k b M N'->D'.rt (aU C' s t) N'):
  iD ad EE D' [some (.ref k.p),some r0,some (.int (C.most:Nat)),some few,some C.d,c5,c6,some s.d,some t.d,some (.ref k1.h),some (.ref k2.h),c11,c12,c13,c14] (hS k2 (C.cf t) (C.run t).2 rd2 (hS k1 (C.cf s) (C.run s).2 rd1 N)):=by
 have e1:hS k2 (C.cf t) (C.run t).2 rd2 (hS k1 (C.cf s) (C.run s).2 rd1 N) k1.h=some (.dK (hD k1 (C.cf s) ((C.most:Int)-(C.run s).2.steps.length))):=by
  unfold hS;rw [dm a.h.1.symm a.d.1.symm a.l.1.symm,eg];rfl
 have e2:hS k2 (C.cf t) (C.run t).2 rd2 (hS k1 (C.cf s) (C.run s).2 rd1 N) k2.h=some (.dK (hD k2 (C.cf t) ((C.most:Int)-(C.run t).2.steps.length))):=by unfold hS;rw [eg];rfl
 generalize hS k2 (C.cf t) (C.run t).2 rd2 (hS k1 (C.cf s) (C.run s).2 rd1 N)=N1 at K e1 e2 ⊢;unfold iD qo;simp! [e1,e2,rV];refine aJ (b:=b+1) K.has (by decide) (by decide) fun r N2 a2 b2 d2=>?_
 obtain ⟨m,em,mk1,mk2,mk3⟩:∃m:Nat,((C.most:Int)-(if (C.most:Int)-(C.run t).2.steps.length<(C.most:Int)-(C.run s).2.steps.length then (C.most:Int)-(C.run t).2.steps.length else (C.most:Int)-(C.run s).2.steps.length)+r=(m:Nat))/\(C.run s).2.steps.length<=m/\(C.run t).2.steps.length<=m/\m<=10000:=by
  have q1:(C.run s).2.steps.length<=C.most:=(cq (c:=C.cf s) C.rows [] 0 ⟨C.names.zip s.nums,[]⟩).2 (Nat.zero_le _);have q2:(C.run t).2.steps.length<=C.most:=(cq (c:=C.cf t) C.rows [] 0 ⟨C.names.zip t.nums,[]⟩).2 (Nat.zero_le _)
  split
  ·exact ⟨(C.run t).2.steps.length+r.toNat,by lia,by lia,by lia,by lia⟩
  ·exact ⟨(C.run s).2.steps.length+r.toNat,by lia,by lia,by lia,by lia⟩
 simp! [em];refine ⟨szl (by decide),fun p hp=>?_⟩
 simp! [Mem.upd_del,ah hp];refine aJ (b:=b) d2.1 (by decide) (by decide) fun q N3 a3 b3 d3=>?_
 have fin:∀m:Nat,m<=10000->(C.run s).2.steps.length<=m->(C.run t).2.steps.length<=m->D'.rt (.tup [C.d,s.d,t.d,.int (m:Nat)]) N3:=fun m mo f1 f2=>by
  refine hrt { C with most:=m } s t N3 ⟨⟨o.m2,o.m1,o.few,mo,o.nd,o.l0,o.l1,o.ok,o.h,o.mn⟩,⟨hs.ln,hs.lp,hs.rn,hs.rp⟩,⟨ht.ln,ht.lp,ht.rn,ht.rp⟩,n5,m6,nm (C.run s).2.nums C.mn,nm (C.run t).2.nums C.mn,?_,?_,hne⟩ ?_
  ·unfold Cse.mark;rw [nc g1 f1];unfold jG;rw [if_pos g1]
  ·unfold Cse.mark;rw [nc g2 f2];unfold jG;rw [if_pos g2]
  ·exact (K.trans d2.kq).trans d3.kq
 have:q=0\/q=1:=by lia
 rcases this with rfl|rfl
 ·simp only [atI_0,List.getElem?_cons_zero]
  refine ⟨szl (by simp),fin C.most (by lia) ?_ ?_⟩
  ·exact (cq (c:=C.cf s) C.rows [] 0 ⟨C.names.zip s.nums,[]⟩).2 (Nat.zero_le _)
  ·exact (cq (c:=C.cf t) C.rows [] 0 ⟨C.names.zip t.nums,[]⟩).2 (Nat.zero_le _)
 ·simp only [atI_1,List.getElem?_cons_zero,List.getElem?_cons_succ]
  exact ⟨szl (by simp),fin m mk3 mk1 mk2⟩
end
end Tw
namespace Tw
open PySem L2 L3
section
variable {C:Cse}{s t:Sta}{ad:Ad}{M N:Mem}{Q:DK}{E:DX}{k:Pt}{b:Nat}
theorem e0S{c:Cf}{n:gm}{kk:Hk}:hM kk c (c.most:Nat) n [] M=hS kk c ⟨n,[]⟩ [] M:=by unfold hS;simp
theorem qj{EE:DX}{bx:BxQ EE Q}{kk:Hk}(o:C.Ok)(hs:SOk C s)(h1:∀rd,(C.run s).1=true->Q (.bl true) (hS kk (C.cf s) (C.run s).2 rd M))(h2:∀l n rd,(C.run s).1=false->Q (.bl false) (hM kk (C.cf s) l n rd M)):
  calls (S_q38 ad 24) EE [.ref kk.h,.tup (aB C.rows)] (hS kk (C.cf s) ⟨C.names.zip s.nums,[]⟩ [] M) Q bx:=by
 have p:=o.pl hs;exact calls_of fun Q' E' hq _=>pq p.co p.l1 24 C.rows [] 0 ⟨C.names.zip s.nums,[]⟩ [] M Q' E' p.ok (by have:=p.h;omega) p.nok (Nat.zero_le _) (by simp) (fun rd' g1 _=>hq _ _ (h1 rd' g1)) (fun l n rd' g=>hq _ _ (h2 l n rd' g))
theorem D9{few:D}{EE:DX}{D':DEnds}{c5 c6 c11 c12 c13 c14:Option D}{r0:D}{k1 k2:Hk}{N:Mem}(o:C.Ok)(n5:C.names.length<=5)(m6:C.many<=6)(mo:C.most<=1000)(hs:SOk C s)(ht:SOk C t)(a:Apart k1 k2)(z1:N k1.h=none/\N k1.dn=none/\N k1.lr=none)(z2:N k2.h=none/\N k2.dn=none/\N k2.lr=none)
  (K:Kq k (b+2) M N) (hnx:∀c11 N',Kq k b M N'->D'.nx [some (.ref k.p),some r0,some (.int (C.most:Nat)),some few,some C.d,c5,c6,some s.d,some t.d,some (.ref k1.h),some (.ref k2.h),c11,c12,c13,c14] N') (hrt:∀C' s t N',CsOk C' s t->Kq k b M N'->D'.rt (aU C' s t) N'):
  ip ad EE D' [some (.ref k.p),some r0,some (.int (C.most:Nat)),some few,some C.d,c5,c6,some s.d,some t.d,some (.ref k1.h),some (.ref k2.h),c11,c12,c13,c14] (hM k2 (C.cf t) (C.most:Nat) (C.names.zip t.nums) [] (hM k1 (C.cf s) (C.most:Nat) (C.names.zip s.nums) [] N)):=by
 have kq1:∀l n rd l' n' rd',Kq k (b+2) M (hM k1 (C.cf s) l n rd (hM k2 (C.cf t) l' n' rd' N)):=fun l n rd l' n' rd'=>(K.hm z2.1 z2.2.1 z2.2.2).hm (by rw [dm a.h.1.symm a.d.1.symm a.l.1.symm];exact z1.1) (by rw [dm a.h.2.1.symm a.d.2.1.symm a.l.2.1.symm];exact z1.2.1) (by rw [dm a.h.2.2.symm a.d.2.2.symm a.l.2.2.symm];exact z1.2.2)
 have kq2:∀l n rd l' n' rd',Kq k (b+2) M (hM k2 (C.cf t) l n rd (hM k1 (C.cf s) l' n' rd' N)):=fun l n rd l' n' rd'=>by rw [kC a];exact kq1 _ _ _ _ _ _
 have hn1:NOk C.names (C.cf s).m (C.run s).2.nums:=cG (o.pl hs).co C.rows (o.pl hs).ok [] 0 ⟨C.names.zip s.nums,[]⟩ (o.pl hs).nok;have hn2:NOk C.names (C.cf t).m (C.run t).2.nums:=cG (o.pl ht).co C.rows (o.pl ht).ok [] 0 ⟨C.names.zip t.nums,[]⟩ (o.pl ht).nok;have ed:C.d=.tup [.int C.w,.tup (C.names.map D.str),.int (C.many:Nat),.tup (aB C.rows),.str C.mn]:=rfl;unfold ip;generalize hK4:iD ad EE=K4;generalize hT:aK (dOp tu (dOp aL (dOp aL (aa 9) (dC (.str "numbers"))) (dOp aL (aa 4) (dC (.int 4)))) (dOp aL (dOp aL (aa 10) (dC (.str "numbers"))) (dOp aL (aa 4) (dC (.int 4)))))=TT;rw [kC a];simp! [ed,atI_3];rw [show ((C.most:Nat):Int)=((C.cf s).most:Nat) from rfl,e0S];refine qj o hs (fun rd1 g1=>?_) fun l n rd g=>?_
 ·simp! []
  have er:hS k1 (C.cf s) (C.run s).2 rd1 (hM k2 (C.cf t) ((C.cf s).most:Nat) (C.names.zip t.nums) [] N)=hS k2 (C.cf t) ⟨C.names.zip t.nums,[]⟩ [] (hS k1 (C.cf s) (C.run s).2 rd1 N):=by
   rw [<- e0S];unfold hS;rw [<- kC a];rfl
  rw [er];refine qj o ht (fun rd2 g2=>?_) fun l n rd g=>?_
  ·have f1:hS k2 (C.cf t) (C.run t).2 rd2 (hS k1 (C.cf s) (C.run s).2 rd1 N) k1.h=some (.dK (hD k1 (C.cf s) ((C.most:Int)-(C.run s).2.steps.length))):=by
    unfold hS;rw [dm a.h.1.symm a.d.1.symm a.l.1.symm,eg];rfl
   have f2:hS k2 (C.cf t) (C.run t).2 rd2 (hS k1 (C.cf s) (C.run s).2 rd1 N) k2.h=some (.dK (hD k2 (C.cf t) ((C.most:Int)-(C.run t).2.steps.length))):=by unfold hS;rw [eg];rfl
   have f3:hS k2 (C.cf t) (C.run t).2 rd2 (hS k1 (C.cf s) (C.run s).2 rd1 N) k1.dn=some (.dK (kvD (C.run s).2.nums)):=by
    unfold hS;rw [dm a.h.2.1.symm a.d.2.1.symm a.l.2.1.symm,cQ]
   have f4:hS k2 (C.cf t) (C.run t).2 rd2 (hS k1 (C.cf s) (C.run s).2 rd1 N) k2.dn=some (.dK (kvD (C.run t).2.nums)):=by unfold hS;rw [cQ]
   have kk:Kq k (b+2) M (hS k2 (C.cf t) (C.run t).2 rd2 (hS k1 (C.cf s) (C.run s).2 rd1 N)):=kq2 _ _ _ _ _ _;simp! [];rw [<- hT];simp! [ed,f1,f2,f3,f4,fK,atI_4,cF,(hn1.at o.mn).1,(hn2.at o.mn).1,Option.map_some]
   by_cases c:nm (C.run s).2.nums C.mn=nm (C.run t).2.nums C.mn
   ·simp only [c,decide_true,Bool.not_true,Bool.false_eq_true,if_false]
    exact hnx _ _ (kk.le (by omega))
   ·simp only [c,decide_false,Bool.not_false,if_true]
    rw [<- hK4];exact v3 o n5 m6 mo hs ht a g1 g2 c kk hrt
  ·simp! []
   exact hnx _ _ ((kq2 _ _ _ _ _ _).le (by omega))
 ·simp! []
  exact hnx _ _ ((kq1 _ _ _ _ _ _).le (by omega))
theorem iX{EE:DX}{bx:BxQ EE Q}(o:C.Ok)(hs:SOk C s)(h:∀kk:Hk,M kk.h=none->M kk.dn=none->M kk.lr=none->Q (.ref kk.h) (hM kk (C.cf s) (C.most:Nat) (C.names.zip s.nums) [] M)):
  calls (j6 ad) EE [C.d,s.d,.int (C.most:Nat)] M Q bx:=by
 have p:=o.pl hs;rw [hs.pd];exact calls_of fun Q' E' hq _=>jp (c:=C.cf s) p.ln p.nd p.l0 p.l1 fun kk z1 z2 z3=>hq _ _ (h kk z1 z2 z3)
theorem sv{few:Int}{EE:DX}{D':DEnds}{c5 c6 c7 c8 c9 c10 c11 c12 c13 c14:Option D}{r0:D}(o:C.Ok)(n5:C.names.length<=5)(m6:C.many<=6)(mo:C.most<=1000)
  (K:Kq k (b+58) M N) (hnx:∀c7 c8 c9 c10 c11 N',Kq k b M N'->D'.nx [some (.ref k.p),some r0,some (.int (C.most:Nat)),some (.int few),some C.d,c5,c6,c7,c8,c9,c10,c11,c12,c13,c14] N') (hrt:∀C' s t N',CsOk C' s t->Kq k b M N'->D'.rt (aU C' s t) N'):
  ik ad EE D' [some (.ref k.p),some r0,some (.int (C.most:Nat)),some (.int few),some C.d,c5,c6,c7,c8,c9,c10,c11,c12,c13,c14] N:=by
 unfold ik qy qt rW;generalize hK5:ip ad EE=K5;simp only [aw,aF,ar,dCall,a9,aa,dNil,List.getElem?_cons_succ,List.getElem?_cons_zero];refine ⟨rfl,calls_of fun Q' E' hq _=>j4 (b:=b+3) o n5 m6 (K.has.le (by omega)) fun s t0 N1 hs ht0 d1=>hq _ _ ?_⟩
 simp only [frz,gn,bB,ft,hName,List.set,List.length_cons,List.length_nil,List.getElem?_cons_succ,List.getElem?_cons_zero];refine ⟨trivial,rfl,calls_of fun Q' E' hq _=>pB (b:=b+2) o n5 m6 hs ht0 d1.1 fun t N2 ht d2=>hq _ _ (ie ?_)⟩;simp only [List.set,List.getElem?_cons_succ,List.getElem?_cons_zero];refine ⟨rfl,iX o hs fun k1 x1 x2 x3=>?_⟩;simp only [List.set,List.getElem?_cons_succ,List.getElem?_cons_zero];refine ⟨rfl,iX o ht fun k2 y1 y2 y3=>?_⟩;simp only [List.set];rw [<- hK5];obtain ⟨q1,q2,q3,q4⟩:=lB y1;obtain ⟨q5,q6,q7,q8⟩:=lB y2;obtain ⟨q9,q10,q11,q12⟩:=lB y3;exact D9 o n5 m6 mo hs ht ⟨⟨q1,q2,q3⟩,⟨q5,q6,q7⟩,⟨q9,q10,q11⟩⟩ ⟨x1,x2,x3⟩ ⟨q4,q8,q12⟩ ((K.trans d1.kq).trans d2.kq) (fun c11 N' z=>hnx _ _ _ _ _ _ z) hrt
theorem sJ{EE:DX}{D':DEnds}{c1 c3 c5 c6 c7 c8 c9 c10 c11:Option D}(o:C.Ok)(n5:C.names.length<=5)(m6:C.many<=6)(hrt:∀C' s t,CsOk C' s t->D'.rt (aU C' s t) M):
  fY ad EE D' [some (.ref k.p),c1,some (.int (C.most:Nat)),c3,some C.d,c5,c6,c7,c8,c9,c10,c11,none,none,none] M:=by
 have l0:=o.l0;have w2:=o.m2;have w1:=o.m1;have ed:C.d=.tup [.int C.w,.tup (C.names.map D.str),.int (C.many:Nat),.tup (aB C.rows),.str C.mn]:=rfl;have rep:∀n:Nat,(List.replicate n [D.int 0]).flatten=(List.replicate n (0:Int)).map D.int:=fun n=>by
  induction n with
  |zero=>rfl
  |succ n ih=>rw [List.replicate_succ,List.flatten_cons,ih,List.replicate_succ];rfl
 have z0:∀(n:Nat) (v:Int),v∈List.replicate n (0:Int)->0<=v/\v<C.w:=fun n v h=>by
  have:=List.eq_of_mem_replicate h;omega
 have zz:∀(l:List Str) (n:Nat),nm (l.zip (List.replicate n (0:Int))) C.mn=0:=fun l=>by
  induction l with
  |nil=>intro n;rfl
  |cons y l ih=>
   intro n;cases n with
   |zero=>rfl
   |succ n=>
    by_cases c:y=C.mn
    ·simp [List.replicate_succ,nm,gN,c]
    ·have:=ih n
     simp [List.replicate_succ,nm,gN,c] at this ⊢;exact this
 have z1:nm (C.names.zip (C.names.map fun x=>if x=C.mn then (1:Int) else 0)) C.mn=1:=by
  have h1:=o.mn;generalize C.names=l at h1
  induction l with
  |nil=>simp at h1
  |cons y l ih=>
   by_cases c:y=C.mn
   ·simp [nm,gN,c]
   ·have:=ih (by rcases List.mem_cons.mp h1 with q|q;exact absurd q.symm c;exact q)
    simp [nm,gN,c] at this ⊢;exact this
 have cs:CsOk { C with rows:=[] } ⟨List.replicate C.names.length 0,List.replicate C.many 0⟩ ⟨C.names.map fun x=>if x=C.mn then (1:Int) else 0,List.replicate C.many 0⟩:=by
  refine ⟨⟨o.m2,o.m1,o.few,o.most,o.nd,o.l0,o.l1,trivial,by simp [fv],o.mn⟩,⟨by simp,by simp,z0 _,z0 _⟩,⟨by simp,by simp,fun v hv=>?_,z0 _⟩,n5,m6,0,1,?_,?_,by decide⟩
  ·simp only [List.mem_map] at hv
   obtain ⟨x,_,rfl⟩:=hv;show _/\_<C.w
   split<;>omega
  ·unfold Cse.mark jG Cse.run fq
   simp only [bp,if_true];rw [zz]
  ·unfold Cse.mark jG Cse.run fq
   simp only [bp,if_true];rw [z1]
 have cut3:∀a b c d e:D,gZ [a,b,c,d,e] none (some 3)=[a,b,c]:=fun a b c d e=>cS (k:=3);unfold fY m7 m9;generalize hK:i_ ad EE=K;simp! [ed,atI_1,atI_2,List.length_map,rep,Int.toNat_natCast,bD];refine ⟨szl (by decide),by simp,by omega,by omega,by decide,szl (by decide),by simp,by omega,by omega,by decide,?_⟩
 show cI _ _ _ _ _ _ _ _ [none,some C.d] M;refine j9 (fun d=>match d with|.str x=>.int (if x=C.mn then 1 else 0)|_=>.non) bG (by simp;omega) (fun x hx K q=>?_) ?_
 ·obtain ⟨y,hy,rfl⟩:=List.mem_map.mp hx
  simp! [ed,atI_4]
  by_cases c:y=C.mn
  ·simp only [c,decide_true,if_true] at q ⊢
   exact q
  ·simp only [c,decide_false,if_false,Bool.false_eq_true] at q ⊢
   exact q
 intro p hp;have lnm:(C.names.map D.str).length=C.names.length:=List.length_map _;simp! [Mem.upd_del,ah hp,rep,lnm,Int.toNat_natCast];rw [<- hK];unfold i_;have em:(C.names.map D.str).map (fun d=>match d with|.str x=>D.int (if x=C.mn then 1 else 0)|_=>.non)=(C.names.map fun x=>if x=C.mn then (1:Int) else 0).map D.int:=by
  rw [List.map_map,List.map_map];rfl
 have:=hrt _ _ _ cs;simp! [ed,cut3,atI_4,em];simp only [aU,Cse.d,Sta.d,standD,aB] at this;exact ⟨szl (by decide),szl (by decide),szl (by decide),szl (by decide),szl (by decide),szl (by decide),this⟩
theorem Az{few:Int}{r0:D}{EE:DX}{Q:DK}{c5:Option D}(o:C.Ok)(n5:C.names.length<=5)(m6:C.many<=6)(mo:C.most<=1000)(K:Kq k (b+580) M N)(h:∀C' s t N',CsOk C' s t->Kq k b M N'->Q (aU C' s t) N'):
  g6 ad EE { nx:=fun _ M'=>drp Q .non M',rt:=drp Q } [some (.ref k.p),some r0,some (.int (C.most:Nat)),some (.int few),some C.d,c5,none,none,none,none,none,none,none,none,none] N:=by
 unfold g6;generalize hK13:fY ad EE=K13;generalize hK9:ik ad EE=K9;simp! [↓dFor];refine ⟨by decide,by decide,?_⟩
 refine forD_inv (fun xs δ N'=>xs.length<=10/\∃c6 c7 c8 c9 c10 c11:Option D,δ=[some (.ref k.p),some r0,some (.int (C.most:Nat)),some (.int few),some C.d,c5,c6,c7,c8,c9,c10,c11,none,none,none]/\Kq k (b+58*xs.length) M N')
  (fun _ _ _ _=>bG) ?_ ?_ _ _ _ ⟨by decide,_,_,_,_,_,_,rfl,K.le (by simp [bT])⟩
 ·rintro δ N' ⟨_,c6,c7,c8,c9,c10,c11,rfl,K'⟩
  dsimp only;rw [<- hK13];exact sJ o n5 m6 fun C' s t cs=>ay (h C' s t N' cs (K'.le (by simp)))
 ·rintro x xs δ N' ⟨hl,c6,c7,c8,c9,c10,c11,rfl,K'⟩ D' hnx _ hrt _
  simp only [List.length_cons] at hl K';simp only [hName,List.set];rw [<- hK9];refine sv (b:=b+58*xs.length) o n5 m6 mo (K'.le (by omega)) (fun c7 c8 c9 c10 c11 N2 K2=>hnx _ _ ⟨by omega,_,_,_,_,_,_,rfl,K2⟩) fun C' s t N2 cs K2=>?_
  rw [hrt];exact ay (h C' s t N2 cs (K2.le (by omega)))
theorem sg{most:Nat}{few:Int}{rn:Nat}(hr:rn<=9)(hm:most<=1000)(hp:Has k (b+(600+9*100 ^ 5)) M)(h:∀C s t M',CsOk C s t->Kq k b M M'->Q (aU C s t) M'):qW ad [.ref k.p,.int (rn:Nat),.int (most:Nat),.int few] M Q E:=by
 rw [Ec (n:=0)];unfold lZ nB;generalize hK:g6 ad (aN E)=K;generalize hK2:lE ad (aN E)=K2;simp! [];refine calls_of fun Q' E' hq _=>sY (b:=b+590) hr (hp.le (by omega)) fun w many names rows mk M1 pl K1=>hq _ _ ?_
 have m0:=pl.f.m0;have m1:=pl.f.m1;have n1:=pl.f.nm.n1;have em:((many.toNat:Nat):Int)=many:=by omega
 have mk0:∀rs,cC names w many rs->fv rs<=7->(⟨w,many.toNat,names,rs,mk,most⟩:Cse).Ok:=fun rs ok hh=>⟨pl.f.w2,pl.f.w1,by show many.toNat<=100;omega,by show most<=10000;omega,pl.f.nm.nd,pl.f.nm.n0,by show names.length<=100;omega,by show cC names w ((many.toNat:Nat):Int) rs;rw [em];exact ok,hh,pl.m⟩
 have o0:=mk0 rows pl.r.ok (by have:=pl.r.h;omega)
 have e0:mW w many names rows mk=(⟨w,many.toNat,names,rows,mk,most⟩:Cse).d:=by unfold mW Cse.d;rw [em]
 have fin:∀(rs:List Rw) (c5:Option D) (N:Mem),cC names w many rs->fv rs<=7->Kq k (b+580) M N->K { nx:=fun _ M'=>drp Q .non M',rt:=drp Q } [some (.ref k.p),some (.int (rn:Nat)),some (.int (most:Nat)),some (.int few),some (mW w many names rs mk),c5,none,none,none,none,none,none,none,none,none] N:=fun rs c5 N ok hh KN=>by
  have e1:mW w many names rs mk=(⟨w,many.toNat,names,rs,mk,most⟩:Cse).d:=by unfold mW Cse.d;rw [em]
  rw [e1,<- hK];exact Az (C:=⟨w,many.toNat,names,rs,mk,most⟩) (mk0 rs ok hh) n1 (by show many.toNat<=6;omega) hm KN h
 have hpl:mW w many names rows mk=.tup [.int w,.tup (names.map D.str),.int many,.tup (aB rows),.str mk]:=rfl;have cut3:∀a b c d e:D,gZ [a,b,c,d,e] none (some 3)=[a,b,c]:=fun a b c d e=>cS (k:=3);simp! [hpl];refine aJ (b:=b+589) K1.has (by decide) (by decide) fun r N2 a2 b2 d2=>?_
 simp! []
 by_cases c:0<r
 ·rw [if_pos c]
  rw [<- hK2];unfold lE qZ;simp! [hpl,atI_3];rw [<- hpl,e0];refine calls_of fun Q' E' hq _=>kN (b:=b+580) o0 n1 (d2.1.le (by omega)) fun rr N3 hrr d3=>hq _ _ ?_
  have hrr':RwOk names w many rr:=by have:RwOk names w ((many.toNat:Nat):Int) rr:=hrr;rw [em] at this;exact this
  obtain ⟨wd,rest,ed,_,_,_,_⟩:=rN hrr';have rl:(aB rows).length<=27:=by rw [cV];exact pl.l
  rw [<- e0,ed];simp! [hpl,atI_4,cut3];refine ⟨szl (by decide),szl (by omega),szl (by decide),szl (by decide),?_⟩
  have:=fin (rows++[rr]) (some (.tup (aB (rows++[rr])))) N3 (OkRs_append.mpr ⟨pl.r.ok,hrr'.all.1,trivial⟩) (by rw [fJ];simp only [fv,hrr'.all.2.1];have:=pl.r.h;omega) ((K1.trans d2.kq).trans d3.kq)
  simp only [mW,cv,aB,ed] at this;exact this
 ·rw [if_neg c]
  exact fin rows none N2 pl.r.ok (by have:=pl.r.h;omega) ((K1.trans d2.kq).le (by omega))
end
end Tw
namespace Tw
open PySem L2 L3
section
variable {C:Cse}{s t:Sta}{ad:Ad}{M N:Mem}{Q:DK}{E:DX}{k:Pt}{b:Nat}{ks all:List aT}
theorem kE(hl:all.length<=100)(hp:Has k (b+2+all.length) M)(h1:∀(ks:List aT) M',ks.length<=all.length->Dr k b M M'->Q (bK ks) M')(h2:∀(ks:List aT) M' p,ks.length<=all.length->Dr k b M M'->M' p=none->Q (.ref p) (M'.upd p (.lst (ks.map kD)))):xw ad [.ref k.p,bK all] M Q E:=by
 have hmx:bK all=.lst (all.map kD):=rfl;rw [u_q8 (n:=0)];unfold wo wq;generalize hK2:oF ad (aN E)=K2;generalize hK1:p7 ad (aN E)=K1;simp! [];refine aJ (b:=b+1+all.length) (hp.le (by lia)) (by decide) (by decide) fun r N1 a1 b1 d1=>?_
 simp! []
 by_cases c:r=0
 ·rw [if_pos c,<- hK1]
  unfold p7;simp! [hmx];refine ⟨szl (by decide),fun p1 h1'=>?_⟩
  simp! [Mem.upd_del,ah h1'];intro p2 h2';simp! [Mem.upd_del,ah h2'];refine ⟨szl (by decide),fun p3 h3'=>?_⟩
  simp! [Mem.upd_del,ah h3'];refine aJ (b:=b) (d1.1.le (by lia)) (by decide) (by decide) fun q N2 a2 b2 d2=>?_
  have:q=0\/q=1:=by lia
  rcases this with rfl|rfl
  ·simp only [atI_0,List.getElem?_cons_zero]
   exact ay (h1 [] N2 (by simp) (d1.trans d2))
  ·simp only [atI_1,List.getElem?_cons_zero,List.getElem?_cons_succ]
   exact ay (h1 all N2 (by simp) (d1.trans d2))
 ·rw [if_neg c,<- hK2]
  unfold oF;simp only [a_,bD,eW,aa,List.getElem?_cons_succ,List.getElem?_cons_zero,hmx,cP,srcOf,eO,List.map_cons,List.map_nil,List.cons_append,List.nil_append,Option.join_some];refine ce (fun xs acc δ N=>∃(l2 ks:List aT) (c0:Option D),xs=l2.map kD/\acc=ks.map kD/\ks.length+l2.length<=all.length/\δ=[c0,some (.ref k.p)]/\Dr k (b+l2.length) M N) (fun _ _ _ _ _=>bG) ?_ ?_ ?_ _ _ _ _ ⟨all,[],none,rfl,rfl,by simp,rfl,d1.le (by lia)⟩
  ·rintro acc δ N ⟨l2,ks,c0,e1,rfl,e3,rfl,d⟩
   have:l2=[]:=by cases l2 with|nil=>rfl|cons _ _=>simp at e1
   subst this;exact fun p hp=>ay (h2 ks N p (by simpa using e3) (by simpa using d) hp)
  ·rintro x xs acc δ N ⟨l2,ks,c0,e1,rfl,e3,rfl,d⟩ N' hN1 hN2
   cases l2 with
   |nil=>simp at e1
   |cons y l2=>
    simp only [List.map_cons,List.cons.injEq] at e1;obtain ⟨rfl,rfl⟩:=e1;simp only [List.length_cons] at e3 d;simp only [hName,List.set,aK,dOp,ar,dCall,a9,aa,dC,dNil,List.getElem?_cons_succ,List.getElem?_cons_zero];refine ⟨rfl,aJ (b:=b+l2.length) (d.1.le (by lia)) (by decide) (by decide) fun r N2 a2 b2 d2=>?_⟩
    show fit 60 (.int r)=true/\fit 60 (.int 0)=true/\_;refine ⟨rfl,rfl,?_⟩;show if decide (r=0)=true then _ else _
    by_cases c:r=0
    ·rw [if_pos (by simpa using c)]
     exact hN1 _ _ _ (by rw [List.length_map];exact fP (by lia)) ⟨l2,ks++[y],_,rfl,by simp,by simp;lia,rfl,d.trans d2⟩
    ·rw [if_neg (by simpa using c)]
     exact hN2 .non _ _ ⟨l2,ks,_,rfl,rfl,by lia,rfl,d.trans d2⟩
  ·rintro x xs acc δ N ⟨l2,ks,c0,e1,rfl,e3,rfl,d⟩
   rw [List.length_map];exact fP (by lia)
def zd(C:Cse)(s t:Sta)(ls:List (List aT)):List (List aT):=ls.filter fun l=>decide (C.ver s t l="faulty")
theorem filter_mx{p:List aT->Bool}{f:D->Bool}(hf:∀l,f (bK l)=p l)(ls:List (List aT)):((ls.map bK).filter f).map id=(ls.filter p).map bK:=by
 rw [List.map_id,List.filter_map];congr 1;exact List.filter_congr fun l _=>hf l
theorem fB{EE:DX}{bx:BxQ EE fun d M'=>frz d M' Q}(hl:ks.length<=1000)(h:Q (.lst ((cj ks).map bK)) M):calls (mR ad) EE [bK ks] M (fun d M'=>frz d M' Q) bx:=
 calls_of fun Q' E' hq _=>jB hl fun p hp=>hq _ _ (frz_new hp h)
theorem mm{EE:DX}{D':DEnds}{c2 c4 c5:Option D}(o:C.Ok)(hs:SOk C s)(ht:SOk C t)(hl:ks.length<=100)(hp:Has k (b+1) N)
  (hnx:∀c5 (ks':List aT) N',ks'.length<=ks.length->Dr k b N N'->D'.nx [some (.ref k.p),some (aU C s t),c2,some (bK ks'),c4,c5] N') (hrt:D'.rt (bK ks) N):
  iE ad EE D' [some (.ref k.p),some (aU C s t),c2,some (bK ks),c4,c5] N:=by
 have ll:(cj ks).length=ks.length:=by simp [cj]
 unfold iE;generalize hK2:ld ad EE=K2;simp only [aw,iR,oR,bD,eW,ar,dCall,a9,aa,dNil,List.getElem?_cons_succ,List.getElem?_cons_zero];refine ⟨rfl,fB (by lia) ?_⟩
 simp only [cP,srcOf,eO,List.map_cons,List.map_nil,List.cons_append,List.nil_append,List.getElem?_cons_succ,List.getElem?_cons_zero,Option.join_some];refine lJ (fun d=>match d with|.lst xs=>(match dG xs with|some l=>decide (C.ver s t l="faulty")|none=>false)|_=>false) id bG (by simp;lia) (fun x hx K q=>?_) (fun x hx _ K q=>q) ?_
 ·obtain ⟨l,hl,rfl⟩:=List.mem_map.mp hx
  simp only [bK,cX] at q;simp only [aK,dOp,ar,dCall,a9,aa,dC,dNil,List.getElem?_cons_succ,List.getElem?_cons_zero];refine ⟨rfl,verdict_call o hs ht ?_⟩;show fit 60 (.str _)=true/\fit 60 (.str _)=true/\_;exact ⟨rfl,rfl,q⟩
 intro p hp1;rw [filter_mx (p:=fun l=>decide (C.ver s t l="faulty")) (fun l=>by simp only [bK,cX])]
 have hc:∀l∈zd C s t (cj ks),l.length<=ks.length:=fun l hl=>uc (List.mem_filter.mp hl).1;have hcl:(zd C s t (cj ks)).length<=100:=Nat.le_trans (List.length_filter_le _ _) (by lia)
 show gl 5 _ _ _;simp only [gl,List.set,List.getElem?_cons_succ,List.getElem?_cons_zero];refine frz_new (Q:=fun d M'=>K2 D' ([some (.ref k.p),some (aU C s t),c2,some (bK ks),c4,some d]) M') hp1 ?_;show K2 D' [some (.ref k.p),some (aU C s t),c2,some (bK ks),c4,some (.lst ((zd C s t (cj ks)).map bK))] N;generalize zd C s t (cj ks)=cs at hc hcl;rw [<- hK2];unfold ld qH;have fits_mx:∀cs:List (List aT),dH 59 (cs.map bK)=true:=fun cs=>by
  induction cs with
  |nil=>rfl
  |cons l cs ih=>
   rw [List.map_cons,dH,ih,Bool.and_true];exact h_ 58 l
 cases cs with
 |nil=>
  simp! [];refine ⟨szl (by decide),fun p2 h2=>?_⟩
  simp! [Mem.upd_del,ah h2];exact hrt
 |cons l cs=>
  have f1:=fits_mx (l::cs);simp only [aw,bw,aK,dOp,ar,bX,dNil,aa,List.getElem?_cons_succ,List.getElem?_cons_zero];refine ⟨szl (by decide),fun p2 h2=>frz_new h2 ?_⟩
  show fit 60 (.lst ((l::cs).map bK))=true/\fit 60 (.lst [])=true/\_;refine ⟨f1,rfl,?_⟩;show if false=true then _ else _
  rw [if_neg (by simp)]
  simp only [bj,aF,dOp,ar,dCall,a9,aa,bO,dNil,cg,cP,List.getElem?_cons_succ,List.getElem?_cons_zero];have hm:((l::cs).map bK).length<=100:=by rw [List.length_map];exact hcl
  have hm0:0<((l::cs).map bK).length:=by simp
  refine ⟨rfl,aJ (b:=b) hp (by lia) (by lia) fun r N2 a2 b2 d2=>?_⟩
  obtain ⟨l',hl',el⟩:∃l',l'∈l::cs/\atI ((l::cs).map bK) r=some (bK l'):=by
   have hr:r.toNat<(l::cs).length:=by simp only [List.length_map] at b2;lia
   exact ⟨(l::cs)[r.toNat],List.getElem_mem hr,by rw [bY a2,List.getElem?_map,List.getElem?_eq_getElem hr];rfl⟩
  simp only [frz,aL,cP,el,hName,List.set];exact hnx _ l' N2 (hc l' hl') d2
theorem nn(o:C.Ok)(hs:SOk C s)(ht:SOk C t)(hl:all.length<=100)(hp:Has k (b+all.length) M)(h:∀(ks:List aT) M',ks.length<=all.length->Dr k b M M'->Q (bK ks) M'):rU ad [.ref k.p,aU C s t,bK all] M Q E:=by
 have hmx:bK all=.lst (all.map kD):=rfl;rw [Eo (n:=0)];unfold nz pZ;generalize hK3:iE ad (aN E)=K3;simp! [hmx,↓dFor,List.length_map];intro p1 h1;simp only [Mem.upd_del,ah h1];rw [<- hmx];refine ⟨by lia,by lia,?_⟩
 refine forD_inv (fun xs δ N=>xs.length<=all.length/\∃(ks:List aT) (c4 c5:Option D),ks.length<=all.length/\δ=[some (.ref k.p),some (aU C s t),some (bK all),some (bK ks),c4,c5]/\Dr k (b+xs.length) M N)
  (fun _ _ _ _=>bG) ?_ ?_ _ _ _ ⟨by simp [bT],all,none,none,by simp,rfl,hp.refl.le (by simp [bT])⟩
 ·rintro δ N ⟨_,ks,c4,c5,hk,rfl,d⟩
  exact ay (h ks N hk (by simpa using d))
 ·rintro x xs δ N ⟨hx,ks,c4,c5,hk,rfl,d⟩ D' hnx _ hrt _
  simp only [List.length_cons] at hx d;simp only [hName,List.set];rw [<- hK3];refine mm (b:=b+xs.length) o hs ht (by lia) d.1 (fun c5 ks' N' hk' d'=>hnx _ _ ⟨by lia,ks',_,_,by lia,rfl,d.trans d'⟩) ?_
  rw [hrt];exact ay (h ks N hk (d.le (by lia)))
end
end Tw
namespace Tw
open PySem L2 L3
section
variable {C:Cse}{s t:Sta}{ad:Ad}{M N:Mem}{Q:DK}{E:DX}{k:Pt}{b:Nat}{ks all:List aT}
theorem qN:∀(p:List aT->Bool) (d:Bool) (ls:List (List aT)),(ls.foldl (fun d l=>d&&!p l) d)=(d&&!ls.any p)
 |p,d,[]=>by simp
 |p,d,l::ls=>by
  rw [List.foldl_cons,qN p _ ls,List.any_cons];cases d<;>cases p l<;>simp
theorem vO{EE:DX}{D':DEnds}{c0 c1 c3 c4 c5 c7 c9 c10:Option D}{d0:Bool}(o:C.Ok)(hs:SOk C s)(ht:SOk C t)(hl:ks.length<=100)
  (h:∀c9,D'.nx [c0,c1,some (aU C s t),c3,c4,c5,some (bK ks),c7,some (.bl (d0&&!(cj ks).any fun l=>decide (C.ver s t l="faulty"))),c9,c10] M):
  dFor (eW (ar (dCall (mR ad) EE 1 (a9 (aa 6) dNil)))) (hName 9) (iz ad EE) D' [c0,c1,some (aU C s t),c3,c4,c5,some (bK ks),c7,some (.bl d0),c9,c10] M:=by
 simp only [dFor,eW,ar,dCall,a9,aa,dNil,List.getElem?_cons_succ,List.getElem?_cons_zero];refine ⟨rfl,fB (by lia) ?_⟩
 simp only [cP,srcOf];rw [<- qN] at h
 refine forD_inv (fun xs δ N=>∃(l1 l2:List (List aT)) (c9:Option D),cj ks=l1++l2/\xs=l2.map bK/\δ=[c0,c1,some (aU C s t),c3,c4,c5,some (bK ks),c7,some (.bl (l1.foldl (fun d l=>d&&!decide (C.ver s t l="faulty")) d0)),c9,c10]/\N=M)
  (fun _ _ _ _=>bG) ?_ ?_ _ _ _ ⟨[],cj ks,c9,rfl,rfl,rfl,rfl⟩
 ·rintro δ N ⟨l1,l2,c9,e1,e2,rfl,rfl⟩
  have:l2=[]:=by cases l2 with|nil=>rfl|cons _ _=>simp at e2
  subst this;rw [List.append_nil] at e1;have:=h c9;rw [e1] at this;exact this
 ·rintro x xs δ N ⟨l1,l2,c9,e1,e2,rfl,rfl⟩ E' hnx _ _ _
  cases l2 with
  |nil=>simp at e2
  |cons y l2=>
   simp only [List.map_cons,List.cons.injEq] at e2;obtain ⟨rfl,rfl⟩:=e2;have fin:∀v,v=(l1.foldl (fun d l=>d&&!decide (C.ver s t l="faulty")) d0&&!decide (C.ver s t y="faulty"))->E'.nx [c0,c1,some (aU C s t),c3,c4,c5,some (bK ks),c7,some (.bl v),some (bK y),c10] N:=fun v hv=>
    hnx _ _ ⟨l1++[y],l2,some (bK y),by simp [e1],rfl,by rw [hv,List.foldl_append];rfl,rfl⟩
   generalize l1.foldl (fun d l=>d&&!decide (C.ver s t l="faulty")) d0=dd at fin;unfold iz;simp only [hName,List.set,aF,o8,aa,List.getElem?_cons_succ,List.getElem?_cons_zero];cases dd with
   |false=>exact fin false (by simp)
   |true=>
    simp only [dOp,ar,dCall,a9,aa,dC,dNil,List.getElem?_cons_succ,List.getElem?_cons_zero];refine ⟨rfl,verdict_call o hs ht ?_⟩;show fit 60 (.str _)=true/\fit 60 (.str _)=true/\_;exact ⟨rfl,rfl,fin _ (by simp [dv,aZ])⟩
theorem w6{EE:DX}{D':DEnds}{c0 c1 c3 c4 c5 c7 c8 c9 c10:Option D}(cs:CsOk C s t)(hl:ks.length<=100)(h:∀c7 c8 c9 c10,D'.nx [c0,c1,some (aU C s t),c3,c4,c5,some (bK ks),c7,c8,c9,c10] M):
  iB ad EE D' [c0,c1,some (aU C s t),c3,c4,c5,some (bK ks),c7,c8,c9,c10] M:=by
 obtain ⟨a,b,ea,eb,hab⟩:=cs.e;have hmx:bK ks=.lst (ks.map kD):=rfl;have t4:∀c9,iC ad EE D' [c0,c1,some (aU C s t),c3,c4,c5,some (bK ks),some (bK ks),some (.bl (C.bare s t ks)),c9,c10] M:=fun c9=>by
  unfold iC;generalize hK:lx ad EE=K;simp only [aw,aF,ar,dCall,a9,aa,dNil,List.getElem?_cons_succ,List.getElem?_cons_zero];refine ⟨rfl,bv (fun _ _ q=>sC cs.o cs.hs cs.ht ea eb hab (by lia) q) ?_⟩
  simp only [frz,hName,List.set];rw [<- hK];unfold lx;have hf:dH 59 (ks.map kD)=true:=h_ 59 ks;have hd:eX (ks.map kD) (ks.map kD)=true:=by rw [rf];simp
  have:=h (some (bK ks)) (some (.bl (C.bare s t ks))) c9 (some (.bl (C.bare s t ks)));simp! [hmx,j8,vH,hf,hd,String.reduceBEq,Bool.or_true,Bool.or_false,Bool.false_or,Bool.true_or,beq_self_eq_true];exact this
 unfold iB rA rS;generalize iC ad EE=K4 at t4 ⊢;generalize hF:dFor (eW (ar (dCall (mR ad) EE 1 (a9 (aa 6) dNil)))) (hName 9) (iz ad EE)=F;simp only [aw,aF,ar,bO,a9,aa,dNil,dJ,List.getElem?_cons_succ,List.getElem?_cons_zero,hmx,cP];intro p hp;refine frz_new hp ?_;simp only [hName,List.set,dOp,dCall,dC,List.getElem?_cons_succ,List.getElem?_cons_zero];rw [<- hmx];refine ⟨rfl,verdict_call cs.o cs.hs cs.ht ?_⟩;show fit 60 (.str _)=true/\fit 60 (.str _)=true/\_;refine ⟨rfl,rfl,?_⟩;rw [<- hF];exact vO cs.o cs.hs cs.ht hl fun c9=>t4 c9
end
theorem sx(ad:Ad)(ns:List Int)(hl:ns.length<=63):tO ad [.ml (ns.map D.int)] (fun _=>none) (fun d _=>d=.bl true) jA:=by
 simp only [CJ];unfold nI no mP nu pQ;generalize hK8:lQ ad (aN jA)=K8;generalize hK1:lb ad (aN jA)=K1;simp only [aw,aF,dCall,a9,aa,dNil,startN,List.map_cons,List.map_nil,List.length_cons,List.length_nil,List.replicate,List.cons_append,List.nil_append,List.getElem?_cons_succ,List.getElem?_cons_zero];refine ⟨trivial,calls_of fun Q' E' hq _=>sZ fun k M1 h1 _=>hq _ _ ?_⟩;simp only [aw,aF,hName,List.set,ar,dCall,a9,aa,dC,dNil,List.getElem?_cons_succ,List.getElem?_cons_zero];refine ⟨rfl,calls_of fun Q' E' hq _=>sg (rn:=7) (most:=50) (b:=600) (by decide) (by decide) (h1.le (by decide)) fun C s t M2 cs K2=>hq _ _ ?_⟩
 have l1:=cs.n;have m1:=cs.m;have ec:aU C s t=.tup [C.d,s.d,t.d,.int (C.most:Nat)]:=rfl;have ul:(nY C s t).length<=11:=Nat.le_trans (List.length_filter_le _ _) (by rw [ig];lia)
 have f1:∀{M:Mem} {Q:DK},Q (aU C s t) M->frz (aU C s t) M Q:=fun h=>h;refine f1 ?_;simp only [aw,aF,hName,List.set,ar,dCall,a9,aa,dOp,dC,dNil,List.getElem?_cons_succ,List.getElem?_cons_zero];have ix:∀{M:Mem} {Q:DK} (i:Int) (d:D),atI [C.d,s.d,t.d,.int (C.most:Nat)] i=some d->Q d M->aL (aU C s t) (.int i) M Q:=fun i d e h=>by
  simp only [ec,aL,cP,e];exact h
 refine ix 0 C.d rfl ?_;refine ix 1 s.d rfl ?_;refine ix 2 t.d rfl ?_;refine ⟨rfl,calls_of fun Q' E' hq _=>mr cs.o cs.hs cs.ht fun p hp=>hq _ _ (frz_new hp ?_)⟩;have hmx:∀l,bK l=.lst (l.map kD):=fun _=>rfl;rw [<- hmx];simp only [aw,aF,hName,List.set,bX,ar,dCall,a9,aa,dNil,bO,List.getElem?_cons_succ,List.getElem?_cons_zero];refine ⟨rfl,calls_of fun Q' E' hq _=>nn (b:=580) cs.o cs.hs cs.ht (by lia) (K2.has.le (by lia)) fun k3 M3 l3 d3=>hq _ _ ?_⟩
 have f2:∀{M:Mem} {Q:DK} {l:List aT},Q (bK l) M->frz (bK l) M Q:=fun h=>h;refine f2 ⟨szl (by decide),fun p1 h1'=>frz_new h1' ?_⟩
 have cl:∀{M:Mem} {Q:DK} {l:List aT},(∀p,M p=none->Q (.ref p) (M.upd p (.lst (l.map kD))))->dJ [bK l] M Q:=fun h=>h;refine cl fun p2 h2=>frz_new h2 ⟨szl (by simp),fun l hl=>?_⟩
 have lo:=zV (xs:=[bK k3,.lst [],.lst ((nY C s t).map kD)]) K2.has d3 hl;simp only [aw,hName,List.set,dFor,cy,a9,dC,dNil];refine ⟨by decide,by decide,?_⟩
 refine forD_inv (fun xs δ N=>∃(mxs:List (List aT)) (c5:Option D),xs.length+mxs.length<=8/\(∀m∈mxs,m.length<=11)/\δ=[some (.ml (ns.map D.int)),some (.ref k.p),some (aU C s t),some (bK (nY C s t)),some (.ref l),c5,none,none,none,none,none]/\Lo k (13*xs.length) M2 l (mxs.map bK) N)
  (fun _ _ _ _=>bG) ?_ ?_ _ _ _ ⟨[k3,[],nY C s t],none,by simp [bT],?_,rfl,lo.le (by simp [bT])⟩
 ·rintro δ N ⟨mxs,c5,e1,hm,rfl,lo⟩
  dsimp only;rw [<- hK8];unfold lQ;generalize hK7:iB ad (aN jA)=K7;simp only [aw,dFor,eW,aa,List.getElem?_cons_succ,List.getElem?_cons_zero,cP,lo.at',srcOf]
  refine forD_inv (fun xs δ N'=>∃(m2:List (List aT)) (c6 c7 c8 c9 c10:Option D),xs=m2.map bK/\(∀m∈m2,m.length<=11)/\δ=[some (.ml (ns.map D.int)),some (.ref k.p),some (aU C s t),some (bK (nY C s t)),some (.ref l),c5,c6,c7,c8,c9,c10]/\N'=N)
   (fun _ _ _ z=>?_) ?_ ?_ _ _ _ ⟨mxs,_,_,_,_,_,rfl,hm,rfl,rfl⟩
  ·obtain ⟨_,_,_,_,_,_,_,_,_,rfl⟩:=z
   intro p hp;simp only [List.mem_singleton] at hp;subst hp;exact lo.at'
  ·rintro δ N' ⟨m2,c6,c7,c8,c9,c10,e2,hm2,rfl,rfl⟩
   exact ⟨N',fun _ _ e=>e,rfl⟩
  ·rintro x xs δ N' ⟨m2,c6,c7,c8,c9,c10,e2,hm2,rfl,rfl⟩ D' hnx _ _ _
   cases m2 with
   |nil=>simp at e2
   |cons y m2=>
    simp only [List.map_cons,List.cons.injEq] at e2;obtain ⟨rfl,rfl⟩:=e2;simp only [hName,List.set];rw [<- hK7];exact w6 cs (by have:=hm2 y (by simp);lia) fun c7 c8 c9 c10=>hnx _ _ ⟨m2,_,_,_,_,_,rfl,fun m q=>hm2 m (List.mem_cons_of_mem _ q),rfl,rfl⟩
 ·rintro x xs δ N ⟨mxs,c5,e1,hm,rfl,lo⟩ D' hnx _ _ _
  simp only [List.length_cons] at e1 lo;simp only [hName,List.set];rw [<- hK1];unfold lb;have fin:∀(l4:List aT) (N':Mem),l4.length<=(nY C s t).length->Lo k (13*xs.length) M2 l (mxs.map bK) N'->D'.nx [some (.ml (ns.map D.int)),some (.ref k.p),some (aU C s t),some (bK (nY C s t)),some (.ref l),some x,none,none,none,none,none] (N'.upd l (.lst (mxs.map bK++[bK l4]))):=fun l4 N' h4 lo'=>by
   refine hnx _ _ ⟨mxs++[l4],_,by simp;lia,fun m q=>?_,rfl,?_⟩
   ·rcases List.mem_append.mp q with q|q
    ·exact hm m q
    ·rw [List.mem_singleton] at q;subst q;lia
   ·rw [List.map_append];exact lo'.put
  simp only [ci,tN,ar,dCall,a9,aa,dNil,List.getElem?_cons_succ,List.getElem?_cons_zero,eT,lo.at',true_and];refine ⟨rfl,calls_of fun Q' E' hq _=>kE (b:=13*xs.length) (by lia) (lo.has.le (by lia)) (fun l4 N' h4 d4=>hq _ _ (f2 ?_)) fun l4 N' p h4 d4 hp=>hq _ _ (frz_new hp ?_)⟩
  ·have lo':=lo.dr d4
   simp only [cm,lo'.at',List.length_map];exact ⟨fP (by lia),fin l4 N' h4 lo'⟩
  ·have lo':=lo.dr d4
   simp only [cm,lo'.at',List.length_map];exact ⟨fP (by lia),fin l4 N' h4 lo'⟩
 ·intro m q
  simp only [List.mem_cons,List.not_mem_nil,or_false] at q;rcases q with rfl|rfl|rfl
  ·lia
  ·simp
  ·exact ul
end Tw
namespace Tw
open PySem L2 L3
def uE(K:W.Frag):Sp:=fun vs H Q _=>∃(a:Addr) (ns:List Int),vs=[.ref a]/\vf H/\SqL K H a (ns.map V.int)/\ns.length<=63/\∀H',Q (.bl true) H'
theorem AC{α:Type}{P:List α->Prop}(h:∀a0,P [a0]):∀us:List α,us.length=1->P us
 |[a0],_=>h a0
theorem o5{α:Type}{P:List α->Prop}(h:∀a0 a1,P [a0,a1]):∀us:List α,us.length=2->P us
 |[a0,a1],_=>h a0 a1
theorem om{α:Type}{P:List α->Prop}(h:∀a0 a1 a2,P [a0,a1,a2]):∀us:List α,us.length=3->P us
 |[a0,a1,a2],_=>h a0 a1 a2
theorem Cs{α:Type}{P:List α->Prop}(h:∀a0 a1 a2 a3,P [a0,a1,a2,a3]):∀us:List α,us.length=4->P us
 |[a0,a1,a2,a3],_=>h a0 a1 a2 a3
theorem us5{α:Type}{P:List α->Prop}(h:∀a0 a1 a2 a3 a4,P [a0,a1,a2,a3,a4]):∀us:List α,us.length=5->P us
 |[a0,a1,a2,a3,a4],_=>h a0 a1 a2 a3 a4
structure Nf(K:W.Frag)(x:Str)(st:Stmt)(f:Addr)(fd:FuncData):Prop where
 a:W.nsIn K mainGlobals x=some (some (.ref f))
 F:Fun K x x st f fd
structure Mf(K:W.Frag)(C:Addr)(x q:Str)(st:Stmt)(f:Addr)(fd:FuncData):Prop where
 a:W.findIn K (.ref C) x=some (some (.ref f))
 i:W.isFn K (.ref f)=true
 F:Fun K x q st f fd
theorem all_mk{l:W.OpenLaw}{w:World}{K:W.Frag}{h:Heap}{mg:Str->Option Value}{fa C_Askings C_Walk C_Dry C_NoCase f1 f2 f3 f4 f5 f6 f7 f8 f9 f10 f11 f12 f13 f14 f15 f16 f17 f18 f19 f20 f21 f22 f23 f24 f25 f26 f27 f28 f29 f30 f31 f32 f33 f34 f35 f36 f37 f38 f39 f40 f41 f42 f43 f44 f45 f46:Addr}(X:K.In h)(G:h.Ns mainGlobals mg)(hfa:mg "law"=some (.ref fa))
  {e1 e2 e3 e4 e5 e6 e7 e8 e9 e10 e11 e12 e13 e14 e15 e16 e17 e18 e19 e20 e21 e22 e23 e24 e25 e26 e27 e28 e29 e30 e31 e32 e33 e34 e35 e36 e37 e38 e39 e40 e41 e42 e43 e44 e45 e46:FuncData}
  (aC_Askings:W.nsIn K mainGlobals "Askings"=some (some (.ref C_Askings)))
  (aC_Walk:W.nsIn K mainGlobals "Walk"=some (some (.ref C_Walk)))
  (aC_Dry:W.nsIn K mainGlobals "Dry"=some (some (.ref C_Dry)))
  (aC_NoCase:W.nsIn K mainGlobals "NoCase"=some (some (.ref C_NoCase)))
  (l1:Mf K C_Walk "__init__" "Walk.__init__" AH f1 e1)
  (l2:Mf K C_Walk "note_step" "Walk.note_step" B3 f2 e2)
  (l3:Mf K C_Walk "look" "Walk.look" tV f3 e3)
  (l4:Nf K "run" tG f4 e4)
  (l5:Nf K "mark" uI f5 e5)
  (l6:Nf K "do_rows" tR f6 e6)
  (l7:Nf K "do_row" vM f7 e7)
  (l8:Nf K "do_if" v4 f8 e8)
  (l9:Nf K "do_again" vo f9 e9)
  (l10:Nf K "number_of" vK f10 e10)
  (l11:Nf K "piece_read" vU f11 e11)
  (l12:Nf K "joined" uT f12 e12)
  (l13:Nf K "number_in" vX f13 e13)
  (l14:Nf K "marks" tE f14 e14)
  (l15:Nf K "stand_of" tJ f15 e15)
  (l16:Nf K "number_mixed" uO f16 e16)
  (l17:Nf K "verdict_of" ua f17 e17)
  (l18:Mf K C_Askings "__init__" "Askings.__init__" Be f18 e18)
  (l19:Mf K C_Askings "ask" "Askings.ask" ve f19 e19)
  (l20:Mf K C_Askings "is_cause" "Askings.is_cause" Bx f20 e20)
  (l21:Nf K "all_one_less" zY f21 e21)
  (l22:Nf K "is_bare" uj f22 e22)
  (l23:Nf K "_law_tape" tB f23 e23)
  (l24:Nf K "_law_draw" tP f24 e24)
  (l25:Nf K "_law_names" vA f25 e25)
  (l26:Nf K "_law_one_row" uB f26 e26)
  (l27:Nf K "_law_loop" vq f27 e27)
  (l28:Nf K "_law_some_rows" AE f28 e28)
  (l29:Nf K "_law_plan" wu f29 e29)
  (l30:Nf K "_law_stand" v0 f30 e30)
  (l31:Nf K "_law_set" wv f31 e31)
  (l32:Nf K "_law_do" vp f32 e32)
  (l33:Nf K "_law_begun" tX f33 e33)
  (l34:Nf K "_law_mark_by" uu f34 e34)
  (l35:Nf K "_law_two_stands" Av f35 e35)
  (l36:Nf K "_law_fewer" tY f36 e36)
  (l37:Nf K "_law_last_row" Aa f37 e37)
  (l38:Nf K "_law_case" vN f38 e38)
  (l39:Nf K "_law_things" uZ f39 e39)
  (l40:Nf K "_law_unlike" vh f40 e40)
  (l41:Nf K "_law_mixed" uK f41 e41)
  (l42:Nf K "_law_verdict" tH f42 e42)
  (l43:Nf K "_law_some_mix" BF f43 e43)
  (l44:Nf K "_law_lessened" Ac f44 e44)
  (l45:Nf K "_law_shrunk" rK f45 e45)
  (l46:Nf K "law" fT f46 e46)
  (x_Dry:W.excIn K C_Dry [.type "ValueError",.type "Exception",.type "BaseException",.type "object"] "ValueError.__new__"=true)
  (x_NoCase:W.excIn K C_NoCase [.type "ValueError",.type "Exception",.type "BaseException",.type "object"] "ValueError.__new__"=true)
  (pg_Askings:W.plainGet K C_Askings Str.empty=true)
  (hd_Askings:W.hasDictIn K C_Askings=true)
  (po_Askings:W.plainOver K C_Askings=true)
  (sa_Askings:W.findIn K (.ref C_Askings) "__setattr__"=some (some (.builtin "object.__setattr__")))
  (mk_Askings:W.makesIn K C_Askings=true)
  (kc_Askings:W.keepIn K (.ref C_Askings)=true)
  (pg_Walk:W.plainGet K C_Walk Str.empty=true)
  (hd_Walk:W.hasDictIn K C_Walk=true)
  (po_Walk:W.plainOver K C_Walk=true)
  (sa_Walk:W.findIn K (.ref C_Walk) "__setattr__"=some (some (.builtin "object.__setattr__")))
  (mk_Walk:W.makesIn K C_Walk=true)
  (kc_Walk:W.keepIn K (.ref C_Walk)=true)
  (n_Askings_case:W.findIn K (.ref C_Askings) "case"=some none)
  (n_Askings_told:W.findIn K (.ref C_Askings) "told"=some none)
  (n_Askings_two:W.findIn K (.ref C_Askings) "two"=some none)
  (n_Walk_most:W.findIn K (.ref C_Walk) "most"=some none)
  (n_Walk_numbers:W.findIn K (.ref C_Walk) "numbers"=some none)
  (n_Walk_pieces:W.findIn K (.ref C_Walk) "pieces"=some none)
  (n_Walk_plan:W.findIn K (.ref C_Walk) "plan"=some none)
  (n_Walk_steps:W.findIn K (.ref C_Walk) "steps"=some none)
  (z_any:W.nsIn K mainGlobals "any"=some none)
  (z_bool:W.nsIn K mainGlobals "bool"=some none)
  (z_dict:W.nsIn K mainGlobals "dict"=some none)
  (z_enumerate:W.nsIn K mainGlobals "enumerate"=some none)
  (z_int:W.nsIn K mainGlobals "int"=some none)
  (z_isinstance:W.nsIn K mainGlobals "isinstance"=some none)
  (z_len:W.nsIn K mainGlobals "len"=some none)
  (z_list:W.nsIn K mainGlobals "list"=some none)
  (z_min:W.nsIn K mainGlobals "min"=some none)
  (z_range:W.nsIn K mainGlobals "range"=some none)
  (z_str:W.nsIn K mainGlobals "str"=some none)
  (z_tuple:W.nsIn K mainGlobals "tuple"=some none)
  (z_zip:W.nsIn K mainGlobals "zip"=some none):
  ∃fd:FuncData,(∀(s:Shared) (v:Value),BindsTo s fd ⟨[v],[]⟩ [("_law_script",v)])/\∀base:Heap,K.In base->base.Ns mainGlobals mg->FnOk l.prog w K mg base CX0 33 fa fd ["_law_script"] (uE K):=by
 have e:=hfa.symm.trans (W.mg_of X G l46.a);cases e;obtain ⟨_,_,kV,dc,pm,an,cd,ct,_,rfl,_⟩:=l46.F.ex;have b1:=l1.F.binds (ps:=["self","plan","stand","most"]) fun _ _ _ _ _ _=>Cs fun _ _ _ _=>rfl;have b2:=l2.F.binds (ps:=["self","place","number"]) fun _ _ _ _ _ _=>om fun _ _ _=>rfl;have b3:=l3.F.binds (ps:=["self","place","name"]) fun _ _ _ _ _ _=>om fun _ _ _=>rfl;have b4:=l4.F.binds (ps:=["plan","stand","most"]) fun _ _ _ _ _ _=>om fun _ _ _=>rfl;have b5:=l5.F.binds (ps:=["plan","stand","most"]) fun _ _ _ _ _ _=>om fun _ _ _=>rfl;have b6:=l6.F.binds (ps:=["walk","rows","place"]) fun _ _ _ _ _ _=>om fun _ _ _=>rfl;have b7:=l7.F.binds (ps:=["walk","row","place"]) fun _ _ _ _ _ _=>om fun _ _ _=>rfl;have b8:=l8.F.binds (ps:=["walk","row","place"]) fun _ _ _ _ _ _=>om fun _ _ _=>rfl;have b9:=l9.F.binds (ps:=["walk","row","place"]) fun _ _ _ _ _ _=>om fun _ _ _=>rfl;have b10:=l10.F.binds (ps:=["plan","numbers","pieces","row"]) fun _ _ _ _ _ _=>Cs fun _ _ _ _=>rfl;have b11:=l11.F.binds (ps:=["plan","numbers","row"]) fun _ _ _ _ _ _=>om fun _ _ _=>rfl;have b12:=l12.F.binds (ps:=["word","y","z","wheel"]) fun _ _ _ _ _ _=>Cs fun _ _ _ _=>rfl;have b13:=l13.F.binds (ps:=["plan","stand","thing"]) fun _ _ _ _ _ _=>om fun _ _ _=>rfl;have b14:=l14.F.binds (ps:=["case"]) fun _ _ _ _ _ _=>AC fun _=>rfl;have b15:=l15.F.binds (ps:=["case","mix"]) fun _ _ _ _ _ _=>o5 fun _ _=>rfl;have b16:=l16.F.binds (ps:=["case","mix","thing"]) fun _ _ _ _ _ _=>om fun _ _ _=>rfl;have b17:=l17.F.binds (ps:=["two","one"]) fun _ _ _ _ _ _=>o5 fun _ _=>rfl;have b18:=l18.F.binds (ps:=["self","case"]) fun _ _ _ _ _ _=>o5 fun _ _=>rfl;have b19:=l19.F.binds (ps:=["self","mix"]) fun _ _ _ _ _ _=>o5 fun _ _=>rfl;have b20:=l20.F.binds (ps:=["self","mix"]) fun _ _ _ _ _ _=>o5 fun _ _=>rfl;have b21:=l21.F.binds (ps:=["mix"]) fun _ _ _ _ _ _=>AC fun _=>rfl;have b22:=l22.F.binds (ps:=["case","mix"]) fun _ _ _ _ _ _=>o5 fun _ _=>rfl;have b23:=l23.F.binds (ps:=["_law_script"]) fun _ _ _ _ _ _=>AC fun _=>rfl;have b24:=l24.F.binds (ps:=["_law_tape_here","_law_many"]) fun _ _ _ _ _ _=>o5 fun _ _=>rfl;have b25:=l25.F.binds (ps:=["_law_tape_here"]) fun _ _ _ _ _ _=>AC fun _=>rfl;have b26:=l26.F.binds (ps:=["_law_tape_here","_law_frame"]) fun _ _ _ _ _ _=>o5 fun _ _=>rfl;have b27:=l27.F.binds (ps:=["_law_tape_here","_law_frame","_law_deep"]) fun _ _ _ _ _ _=>om fun _ _ _=>rfl;have b28:=l28.F.binds (ps:=["_law_tape_here","_law_frame","_law_many","_law_deep"]) fun _ _ _ _ _ _=>Cs fun _ _ _ _=>rfl;have b29:=l29.F.binds (ps:=["_law_tape_here","_law_most"]) fun _ _ _ _ _ _=>o5 fun _ _=>rfl;have b30:=l30.F.binds (ps:=["_law_tape_here","_law_plan_here"]) fun _ _ _ _ _ _=>o5 fun _ _=>rfl;have b31:=l31.F.binds (ps:=["_law_here","_law_row"]) fun _ _ _ _ _ _=>o5 fun _ _=>rfl;have b32:=l32.F.binds (ps:=["_law_here","_law_rows"]) fun _ _ _ _ _ _=>o5 fun _ _=>rfl;have b33:=l33.F.binds (ps:=["_law_plan_here","_law_stand_here","_law_most"]) fun _ _ _ _ _ _=>om fun _ _ _=>rfl;have b34:=l34.F.binds (ps:=["_law_plan_here","_law_stand_here","_law_most"]) fun _ _ _ _ _ _=>om fun _ _ _=>rfl;have b35:=l35.F.binds (ps:=["_law_tape_here","_law_plan_here"]) fun _ _ _ _ _ _=>o5 fun _ _=>rfl;have b36:=l36.F.binds (ps:=["_law_tape_here","_law_plan_here","_law_one","_law_other","_law_few"]) fun _ _ _ _ _ _=>us5 fun _ _ _ _ _=>rfl;have b37:=l37.F.binds (ps:=["_law_tape_here","_law_plan_here"]) fun _ _ _ _ _ _=>o5 fun _ _=>rfl;have b38:=l38.F.binds (ps:=["_law_tape_here","_law_rows","_law_most","_law_few"]) fun _ _ _ _ _ _=>Cs fun _ _ _ _=>rfl;have b39:=l39.F.binds (ps:=["_law_plan_here"]) fun _ _ _ _ _ _=>AC fun _=>rfl;have b40:=l40.F.binds (ps:=["_law_plan_here","_law_one","_law_other"]) fun _ _ _ _ _ _=>om fun _ _ _=>rfl;have b41:=l41.F.binds (ps:=["_law_case_here","_law_mix"]) fun _ _ _ _ _ _=>o5 fun _ _=>rfl;have b42:=l42.F.binds (ps:=["_law_case_here","_law_mix"]) fun _ _ _ _ _ _=>o5 fun _ _=>rfl;have b43:=l43.F.binds (ps:=["_law_tape_here","_law_all"]) fun _ _ _ _ _ _=>o5 fun _ _=>rfl;have b44:=l44.F.binds (ps:=["_law_mix"]) fun _ _ _ _ _ _=>AC fun _=>rfl;have b45:=l45.F.binds (ps:=["_law_tape_here","_law_case_here","_law_all"]) fun _ _ _ _ _ _=>om fun _ _ _=>rfl;have b46:=l46.F.binds (ps:=["_law_script"]) fun _ _ _ _ _ _=>AC fun _=>rfl
 let ad:Ad:={ C_Askings:=C_Askings,C_Walk:=C_Walk,C_Dry:=C_Dry,C_NoCase:=C_NoCase,a_q6:=f1,d_q6:=e1,a_q3:=f2,d_q3:=e2,a_q25:=f3,d_q25:=e3,a_q44:=f4,d_q44:=e4,a_q43:=f5,d_q43:=e5,a_q37:=f6,d_q37:=e6,a_q40:=f7,d_q40:=e7,a_q42:=f8,d_q42:=e8,a_q34:=f9,d_q34:=e9,a_q26:=f10,d_q26:=e10,a_q21:=f11,d_q21:=e11,a_q39:=f12,d_q39:=e12,a_q27:=f13,d_q27:=e13,a_q41:=f14,d_q41:=e14,a_q33:=f15,d_q33:=e15,a_q11:=f16,d_q11:=e16,a_q20:=f17,d_q20:=e17,a_q1:=f18,d_q1:=e18,a_q16:=f19,d_q16:=e19,a_q0:=f20,d_q0:=e20,a_q9:=f21,d_q9:=e21,a_q36:=f22,d_q36:=e22,a_q30:=f23,d_q30:=e23,a_q32:=f24,d_q32:=e24,a_q19:=f25,d_q19:=e25,a_q12:=f26,d_q12:=e26,a_q28:=f27,d_q28:=e27,a_q4:=f28,d_q4:=e28,a_q31:=f29,d_q31:=e29,a_q23:=f30,d_q23:=e30,a_q35:=f31,d_q35:=e31,a_q38:=f32,d_q38:=e32,a_q18:=f33,d_q18:=e33,a_q13:=f34,d_q13:=e34,a_q2:=f35,d_q2:=e35,a_q24:=f36,d_q24:=e36,a_q7:=f37,d_q7:=e37,a_q29:=f38,d_q29:=e38,a_q14:=f39,d_q14:=e39,a_q17:=f40,d_q17:=e40,a_q22:=f41,d_q22:=e41,a_q10:=f42,d_q10:=e42,a_q8:=f43,d_q8:=e43,a_q5:=f44,d_q5:=e44,a_q15:=f45,d_q15:=e45,a_law:=fa,d_law:=W.fnOf "law" "law" (fc fT) (eA fT) (ax fT) .none kV dc pm an cd ct }
 have T:En K mg ad:={
  c_Askings:=⟨pg_Askings,hd_Askings,po_Askings,sa_Askings⟩
  mC_Askings:=W.mg_of X G aC_Askings
  mk_Askings:=⟨mk_Askings,l18.a,l18.i,kc_Askings⟩
  c_Walk:=⟨pg_Walk,hd_Walk,po_Walk,sa_Walk⟩
  mC_Walk:=W.mg_of X G aC_Walk
  mk_Walk:=⟨mk_Walk,l1.a,l1.i,kc_Walk⟩
  n_Askings_case:=n_Askings_case
  n_Askings_told:=n_Askings_told
  n_Askings_two:=n_Askings_two
  n_Walk_most:=n_Walk_most
  n_Walk_numbers:=n_Walk_numbers
  n_Walk_pieces:=n_Walk_pieces
  n_Walk_plan:=n_Walk_plan
  n_Walk_steps:=n_Walk_steps
  x_Dry:=iT X x_Dry
  mC_Dry:=W.mg_of X G aC_Dry
  x_NoCase:=iT X x_NoCase
  mC_NoCase:=W.mg_of X G aC_NoCase
  F_q6:=l1.F
  b_q6:=b1
  k_q6:=l1.F.kp
  F_q3:=l2.F
  b_q3:=b2
  k_q3:=l2.F.kp
  me_q3:=⟨l2.a,l2.i,l2.F.kp⟩
  F_q25:=l3.F
  b_q25:=b3
  k_q25:=l3.F.kp
  me_q25:=⟨l3.a,l3.i,l3.F.kp⟩
  F_q44:=l4.F
  b_q44:=b4
  k_q44:=l4.F.kp
  m_q44:=W.mg_of X G l4.a
  F_q43:=l5.F
  b_q43:=b5
  k_q43:=l5.F.kp
  m_q43:=W.mg_of X G l5.a
  F_q37:=l6.F
  b_q37:=b6
  k_q37:=l6.F.kp
  m_q37:=W.mg_of X G l6.a
  F_q40:=l7.F
  b_q40:=b7
  k_q40:=l7.F.kp
  m_q40:=W.mg_of X G l7.a
  F_q42:=l8.F
  b_q42:=b8
  k_q42:=l8.F.kp
  m_q42:=W.mg_of X G l8.a
  F_q34:=l9.F
  b_q34:=b9
  k_q34:=l9.F.kp
  m_q34:=W.mg_of X G l9.a
  F_q26:=l10.F
  b_q26:=b10
  k_q26:=l10.F.kp
  m_q26:=W.mg_of X G l10.a
  F_q21:=l11.F
  b_q21:=b11
  k_q21:=l11.F.kp
  m_q21:=W.mg_of X G l11.a
  F_q39:=l12.F
  b_q39:=b12
  k_q39:=l12.F.kp
  m_q39:=W.mg_of X G l12.a
  F_q27:=l13.F
  b_q27:=b13
  k_q27:=l13.F.kp
  m_q27:=W.mg_of X G l13.a
  F_q41:=l14.F
  b_q41:=b14
  k_q41:=l14.F.kp
  m_q41:=W.mg_of X G l14.a
  F_q33:=l15.F
  b_q33:=b15
  k_q33:=l15.F.kp
  m_q33:=W.mg_of X G l15.a
  F_q11:=l16.F
  b_q11:=b16
  k_q11:=l16.F.kp
  m_q11:=W.mg_of X G l16.a
  F_q20:=l17.F
  b_q20:=b17
  k_q20:=l17.F.kp
  m_q20:=W.mg_of X G l17.a
  F_q1:=l18.F
  b_q1:=b18
  k_q1:=l18.F.kp
  F_q16:=l19.F
  b_q16:=b19
  k_q16:=l19.F.kp
  me_q16:=⟨l19.a,l19.i,l19.F.kp⟩
  F_q0:=l20.F
  b_q0:=b20
  k_q0:=l20.F.kp
  me_q0:=⟨l20.a,l20.i,l20.F.kp⟩
  F_q9:=l21.F
  b_q9:=b21
  k_q9:=l21.F.kp
  m_q9:=W.mg_of X G l21.a
  F_q36:=l22.F
  b_q36:=b22
  k_q36:=l22.F.kp
  m_q36:=W.mg_of X G l22.a
  F_q30:=l23.F
  b_q30:=b23
  k_q30:=l23.F.kp
  m_q30:=W.mg_of X G l23.a
  F_q32:=l24.F
  b_q32:=b24
  k_q32:=l24.F.kp
  m_q32:=W.mg_of X G l24.a
  F_q19:=l25.F
  b_q19:=b25
  k_q19:=l25.F.kp
  m_q19:=W.mg_of X G l25.a
  F_q12:=l26.F
  b_q12:=b26
  k_q12:=l26.F.kp
  m_q12:=W.mg_of X G l26.a
  F_q28:=l27.F
  b_q28:=b27
  k_q28:=l27.F.kp
  m_q28:=W.mg_of X G l27.a
  F_q4:=l28.F
  b_q4:=b28
  k_q4:=l28.F.kp
  m_q4:=W.mg_of X G l28.a
  F_q31:=l29.F
  b_q31:=b29
  k_q31:=l29.F.kp
  m_q31:=W.mg_of X G l29.a
  F_q23:=l30.F
  b_q23:=b30
  k_q23:=l30.F.kp
  m_q23:=W.mg_of X G l30.a
  F_q35:=l31.F
  b_q35:=b31
  k_q35:=l31.F.kp
  m_q35:=W.mg_of X G l31.a
  F_q38:=l32.F
  b_q38:=b32
  k_q38:=l32.F.kp
  m_q38:=W.mg_of X G l32.a
  F_q18:=l33.F
  b_q18:=b33
  k_q18:=l33.F.kp
  m_q18:=W.mg_of X G l33.a
  F_q13:=l34.F
  b_q13:=b34
  k_q13:=l34.F.kp
  m_q13:=W.mg_of X G l34.a
  F_q2:=l35.F
  b_q2:=b35
  k_q2:=l35.F.kp
  m_q2:=W.mg_of X G l35.a
  F_q24:=l36.F
  b_q24:=b36
  k_q24:=l36.F.kp
  m_q24:=W.mg_of X G l36.a
  F_q7:=l37.F
  b_q7:=b37
  k_q7:=l37.F.kp
  m_q7:=W.mg_of X G l37.a
  F_q29:=l38.F
  b_q29:=b38
  k_q29:=l38.F.kp
  m_q29:=W.mg_of X G l38.a
  F_q14:=l39.F
  b_q14:=b39
  k_q14:=l39.F.kp
  m_q14:=W.mg_of X G l39.a
  F_q17:=l40.F
  b_q17:=b40
  k_q17:=l40.F.kp
  m_q17:=W.mg_of X G l40.a
  F_q22:=l41.F
  b_q22:=b41
  k_q22:=l41.F.kp
  m_q22:=W.mg_of X G l41.a
  F_q10:=l42.F
  b_q10:=b42
  k_q10:=l42.F.kp
  m_q10:=W.mg_of X G l42.a
  F_q8:=l43.F
  b_q8:=b43
  k_q8:=l43.F.kp
  m_q8:=W.mg_of X G l43.a
  F_q5:=l44.F
  b_q5:=b44
  k_q5:=l44.F.kp
  m_q5:=W.mg_of X G l44.a
  F_q15:=l45.F
  b_q15:=b45
  k_q15:=l45.F.kp
  m_q15:=W.mg_of X G l45.a
  F_law:=l46.F
  b_law:=b46
  k_law:=l46.F.kp
  m_law:=W.mg_of X G l46.a
  z_any:=W.mg_none_of X G z_any
  z_bool:=W.mg_none_of X G z_bool
  z_dict:=W.mg_none_of X G z_dict
  z_enumerate:=W.mg_none_of X G z_enumerate
  z_int:=W.mg_none_of X G z_int
  z_isinstance:=W.mg_none_of X G z_isinstance
  z_len:=W.mg_none_of X G z_len
  z_list:=W.mg_none_of X G z_list
  z_min:=W.mg_none_of X G z_min
  z_range:=W.mg_none_of X G z_range
  z_str:=W.mg_none_of X G z_str
  z_tuple:=W.mg_none_of X G z_tuple
  z_zip:=W.mg_none_of X G z_zip
 }
 refine ⟨W.fnOf "law" "law" (fc fT) (eA fT) (ax fT) .none kV dc pm an cd ct,fun s v=>.of_eq rfl,fun base _ _=>?_⟩;exact (zZ (Bp (P:=l.prog) (w:=w) (base:=base) T)).imp fun vs H Q E ⟨a,ns,e,hO,hS,hl,k⟩=>by subst e;exact xO hO hS (sx ad ns hl) k
theorem walk{l:W.OpenLaw}{q:Program}{loose:List Str}{XP:(Str->Option Value)->Heap->Prop}{YP:World->Heap->Prop}{d:DefRec}{K:Params->W.Frag}(hn:l.most=some 63)(hdf:d.params.defaults=[])
  (hY:∀(w:World) (h:Heap),YP w h->(K w.params).In h)
  (F:∀(w:World) (mg:Str->Option Value) (fa:Addr) (h:Heap),(K w.params).In h->h.Ns mainGlobals mg->mg d.name=some (.ref fa)->
   ∃fd:FuncData,(∀(s:Shared) (u:Value),BindsTo s fd ⟨[u],[]⟩ [("_law_script",u)])/\∀base:Heap,(K w.params).In base->base.Ns mainGlobals mg->FnOk l.prog w (K w.params) mg base CX0 33 fa fd ["_law_script"] (uE (K w.params))):
  W.WalkO q loose XP YP l.row.toRowW d [] (fun f vs=>PySem.call f vs):=
 L2.xG (n:=63) (k:=33) (x:="_law_script") (CX:=fun _=>CX0) (sp:=fun w=>uE (K w.params)) hn (by decide) hdf ⟨rfl,by decide,by decide,rfl⟩ hY F (fun _ _ a ns hl hO hS=>⟨a,ns,rfl,hO,hS,hl,fun _=>rfl⟩) fun _ _ _ _ _ z=>z
end Tw
open PySem PySem.W PyProof.Rows
namespace PySem.W.Fast
theorem tw8081888503844310190:0=0:=rfl
theorem tw4563783805752713368:0=0:=rfl
theorem tw2933611250524525891:0=0:=rfl
theorem tw13687085411430504142:0=0:=rfl
theorem tw1021521205142120280:0=0:=rfl
theorem tw17031348044307452642:0=0:=rfl
theorem tw3527137300211406184:0=0:=rfl
theorem tw9165411341579564567:0=0:=rfl
theorem tw10863478457237574193:0=0:=rfl
theorem tw7199036137126779126:0=0:=rfl
theorem tw9292806872084146692:0=0:=rfl
theorem tw9901137527694928833:0=0:=rfl
theorem tw2411998282526314780:0=0:=rfl
theorem tw16261727694293878028:0=0:=rfl
theorem tw6349605768539401823:0=0:=rfl
theorem tw4466425583369962405:0=0:=rfl
theorem tw2315127292868909167:0=0:=rfl
theorem tw10047641590286407707:0=0:=rfl
theorem tw3536002106449221944:0=0:=rfl
theorem tw7083251154926974311:0=0:=rfl
theorem tw17466294777548772396:0=0:=rfl
theorem tw5634555154794820489:0=0:=rfl
theorem tw5658992565656702817:0=0:=rfl
theorem tw11484560781460155922:0=0:=rfl
theorem tw10301951201696006931:0=0:=rfl
theorem tw1404059229878569829:0=0:=rfl
theorem tw11663195979149093778:0=0:=rfl
theorem tw4634518401087708176:0=0:=rfl
theorem tw17972346854166901168:0=0:=rfl
theorem tw4923166063560809247:0=0:=rfl
theorem tw3598361311392609380:0=0:=rfl
theorem tw11056495047381139533:0=0:=rfl
theorem tw9355286575654111793:0=0:=rfl
theorem tw5914375061836119819:0=0:=rfl
theorem tw17024421036439162749:0=0:=rfl
theorem tw14535114990870632209:0=0:=rfl
theorem tw6605686363453475313:0=0:=rfl
theorem tw17660954206851610911:0=0:=rfl
theorem tw5405752508882283836:0=0:=rfl
theorem tw15320509792378228692:0=0:=rfl
theorem tw15882634712970490018:0=0:=rfl
theorem tw1493523987041017369:0=0:=rfl
theorem tw4928623668630038154:0=0:=rfl
theorem tw7134910640287816793:0=0:=rfl
theorem tw4660642825509032204:0=0:=rfl
theorem tw8475322844876599683:0=0:=rfl
theorem tw10692420936767425468:0=0:=rfl
theorem tw7449405922868088072:0=0:=rfl
theorem tw12807234040762592914:0=0:=rfl
theorem tw1683490716476763952:0=0:=rfl
theorem tw9011126942772907215:0=0:=rfl
theorem tw2627341333862542954:0=0:=rfl
theorem tw5746292575209296085:0=0:=rfl
theorem tw17362522968127038108:0=0:=rfl
theorem tw7017277088099185783:0=0:=rfl
theorem tw3566421320811893170:0=0:=rfl
theorem tw12759005247285805258:0=0:=rfl
theorem tw1096769690883429771:0=0:=rfl
theorem tw8283919396502941998:0=0:=rfl
theorem tw15306650929860832427:0=0:=rfl
theorem tw8021259155368783955:0=0:=rfl
end PySem.W.Fast
set_option maxRecDepth 100000 in
set_option maxHeartbeats 0 in
theorem PySem.Challenge.cw_twinstride_k68_bare_mixes_holds : PySem.Challenge.rw_twinstride_k68_bare_mixes.Holds := by
 w_on;o_law;k_head;(case hw=>w_witness2)
 k_fill
 refine Tw.walk (l:=PySem.Challenge.rw_twinstride_k68_bare_mixes) rfl rfl (fun w h Y=>W.kIn_of Y) ?F
 case F=>
  intro w mg fa h KX G hmg;refine' Tw.all_mk KX G hmg ..
  any_goals k_is
  any_goals (first|refine' Tw.Nf.mk ?_ (L2.uw ?_ ?_ ?_)|refine' Tw.Mf.mk ?_ ?_ (L2.uw ?_ ?_ ?_))
  any_goals k_is
  any_goals k_exc
