import PyProof.Rows.All
import Wide.All
import OpenK.AllK
import Wide.FinOn
import Lean
import PyProof.EqAt
import PyProof.EqKinds
import PyProof.TupleCall
import PySem.Challenge.RW_twinstride_k64_whole_causes_of_several_t
set_option Elab.async false
set_option linter.all false
set_option maxRecDepth 100000
set_option maxHeartbeats 4000000
set_option compiler.extract_closed false
set_option Elab.async false
set_option linter.all false
set_option maxRecDepth 100000
namespace L2
open PySem PySem.Spec PyProof.Rows
abbrev au:=Sum Int Str
def kG:au->Value->Bool
 |.inl k,v=>Value.isInt k v
 |.inr x,v=>Value.isStrOf x v
def keyH(w:World):au->Int
 |.inl k=>hashInt k
 |.inr x=>hashStr w x
theorem bJ:∀{k:au} {v:Value},kG k v=true->(∃i t,k=Sum.inl i/\v=Value.int i t)\/(∃x t,k=Sum.inr x/\v=Value.str x t)
 |.inl i,v,h=>by
  obtain ⟨t,e⟩:=Value.isInt_shape (k:=i) (v:=v) h;exact .inl ⟨i,t,rfl,e⟩
 |.inr x,v,h=>by
  obtain ⟨t,e⟩:=Value.isStrOf_shape (x:=x) (v:=v) h;exact .inr ⟨x,t,rfl,e⟩
theorem tR(i:Int)(t:Tok):kG (.inl i) (.int i t)=true:=by simp [kG,Value.isInt]
theorem tE(x:Str)(t:Tok):kG (.inr x) (.str x t)=true:=by simp [kG,Value.isStrOf]
theorem BI(a b:Int):decide ((Sum.inl a:au)=Sum.inl b)=(a==b):=by
 by_cases e:a=b
 ·subst e;simp
 ·have h:¬(Sum.inl a:au)=Sum.inl b:=fun q=>e (Sum.inl.inj q)
  rw [decide_eq_false h];exact (beq_eq_false_iff_ne.mpr e).symm
theorem A3(a b:Str):decide ((Sum.inr a:au)=Sum.inr b)=decide (a=b):=by
 by_cases e:a=b
 ·subst e;simp
 ·have h:¬(Sum.inr a:au)=Sum.inr b:=fun q=>e (Sum.inr.inj q)
  rw [decide_eq_false h,decide_eq_false e]
theorem BF(a:Int)(b:Str):decide ((Sum.inl a:au)=Sum.inr b)=false:=decide_eq_false (fun q=>nomatch q)
theorem An(a:Str)(b:Int):decide ((Sum.inr a:au)=Sum.inl b)=false:=decide_eq_false (fun q=>nomatch q)
def aO(prog:Program)(w:World):PySem.KeyKind prog w au where
 is:=kG
 hash:=keyH w
 inj:=fun v a b ha hb=>by
  rcases bJ ha with ⟨i,t,rfl,rfl⟩|⟨x,t,rfl,rfl⟩
  ·rcases bJ hb with ⟨j,u,rfl,e⟩|⟨y,u,rfl,e⟩
   ·injection e with e1 _;rw [e1]
   ·exact nomatch e
  ·rcases bJ hb with ⟨j,u,rfl,e⟩|⟨y,u,rfl,e⟩
   ·exact nomatch e
   ·injection e with e1 _;rw [e1]
 byValue:=fun k v h=>by
  rcases bJ h with ⟨i,t,rfl,rfl⟩|⟨x,t,rfl,rfl⟩<;>rfl
 pyHash:=fun hv h=>by
  rcases bJ hv with ⟨i,t,rfl,rfl⟩|⟨x,t,rfl,rfl⟩
  ·exact wpAny_pyHash_int h
  ·exact wpAny_pyHash_str h
 eqBool:=fun hu hv h=>by
  rcases bJ hu with ⟨i,t,rfl,rfl⟩|⟨x,t,rfl,rfl⟩
  ·rcases bJ hv with ⟨j,u,rfl,rfl⟩|⟨y,u,rfl,rfl⟩
   ·rw [BI] at h;exact wpAny_eqBool_int h
   ·rw [BF] at h;exact SeqAt.EqAt.int_str i t y u _ _ _ _ h
  ·rcases bJ hv with ⟨j,u,rfl,rfl⟩|⟨y,u,rfl,rfl⟩
   ·rw [An] at h;exact SeqAt.EqAt.str_int x t j u _ _ _ _ h
   ·rw [A3] at h;exact wpAny_eqBool_str h
 «strs»:=fun k x t v h=>by
  rcases bJ h with ⟨i,u,rfl,e⟩|⟨y,u,rfl,e⟩
  ·exact nomatch e
  ·injection e with e1 _
   subst e1;cases v<;>rfl
theorem oC(prog:Program)(w:World)(i:Int)(t:Tok):(aO prog w).is (.inl i) (.int i t)=true:=tR i t
theorem oM(prog:Program)(w:World)(x:Str)(t:Tok):(aO prog w).is (.inr x) (.str x t)=true:=tE x t
end L2
namespace L2
open PySem PySem.Spec PyProof.Rows
inductive V where
 |non|bl (b:Bool)|int (i:Int)|str (x:Str)|byt (b:Array UInt8)|flt (b:UInt64)|ref (a:Addr)|ty (n:String)
 deriving DecidableEq
def RelV:V->Value->Prop
 |.non,u=>u=Value.none
 |.bl b,u=>u=Value.bool b
 |.int i,u=>∃t,u=Value.int i t
 |.str x,u=>∃t,u=Value.str x t
 |.byt b,u=>∃t,u=Value.bytes b t
 |.flt b,u=>∃t,u=Value.float b t
 |.ref a,u=>u=Value.ref a
 |.ty n,u=>u=Value.type n
abbrev Vals:List V->List Value->Prop:=Paired RelV
theorem Vals.length{xs:List V}{us:List Value}(r:Vals xs us):xs.length=us.length:=Paired.length r
theorem Vals.get:∀{xs:List V} {us:List Value} {i:Nat} {x:V},Vals xs us->xs[i]?=some x->∃u,us[i]?=some u/\RelV x u
 |_,_,_,_,.nil,e=>by simp at e
 |_,_,0,_,.cons r _,e=>by simp at e;subst e;exact ⟨_,rfl,r⟩
 |_,_,i+1,x,.cons _ t,e=>by
  obtain ⟨u,h1,h2⟩:=Vals.get (i:=i) (x:=x) t (by simpa using e)
  exact ⟨u,by simpa using h1,h2⟩
theorem Vals.set{x:V}{u:Value}(r:RelV x u):∀{xs:List V} {us:List Value} (i:Nat),Vals xs us->Vals (xs.set i x) (us.set i u)
 |_,_,_,.nil=>.nil
 |_,_,0,.cons _ t=>.cons r t
 |_,_,i+1,.cons q t=>.cons q (Vals.set r i t)
theorem Vals.append:∀{xs ys:List V} {us ws:List Value},Vals xs us->Vals ys ws->Vals (xs++ys) (us++ws)
 |_,_,_,_,.nil,s=>s
 |_,_,_,_,.cons r t,s=>.cons r (Vals.append t s)
theorem Vals.take:∀{xs:List V} {us:List Value} (n:Nat),Vals xs us->Vals (xs.take n) (us.take n)
 |_,_,0,_=>.nil
 |_,_,_+1,.nil=>.nil
 |_,_,n+1,.cons r t=>.cons r (Vals.take n t)
theorem Vals.drop:∀{xs:List V} {us:List Value} (n:Nat),Vals xs us->Vals (xs.drop n) (us.drop n)
 |_,_,0,r=>r
 |_,_,_+1,.nil=>.nil
 |_,_,n+1,.cons _ t=>Vals.drop n t
def RelO:Option V->Option Value->Prop
 |some v,some u=>RelV v u
 |none,none=>True
 |_,_=>False
def KV{κ:Type}:List (κ×V)->List (κ×Value)->Prop:=Paired fun (p:κ×V) (q:κ×Value)=>p.1=q.1/\RelV p.2 q.2
def kV:au->V
 |.inl i=>.int i
 |.inr x=>.str x
inductive HO where
  |lst (xs:List V)
  |tup (xs:List V)
  |dK (kvs:List (au×V))|dT (kvs:List (List au×V))
  |set (S:Int->Bool) (n:Nat)
  |ins (C dx:Addr) (fs:List (Str×V))
  |own (x:Addr)
  |xd (fs:List (Str×V))
  |met (f x:Addr)
  |rng (lo hi:Int)
  |frz (o:Obj) (u:HO)
  |tbl (ps:Array Value)
  |ext (φ:Heap->Prop)
abbrev Hp:=Addr->Option HO
def upd(H:Hp)(a:Addr)(o:HO):Hp:=fun b=>if b=a then some o else H b
theorem upd_same{H:Hp}{a:Addr}{o:HO}:upd H a o a=some o:=by unfold upd;rw [if_pos rfl]
theorem upd_ne{H:Hp}{a b:Addr}{o:HO}(h:b≠a):upd H a o b=H b:=by unfold upd;rw [if_neg h]
theorem Eh{H:Hp}{a b:Addr}{o u:HO}(h:H a=some o)(h':H b=some u)(d:o≠u):a≠b:=by
 intro e;subst e;rw [h] at h';exact d (Option.some.inj h')
theorem a_{H:Hp}{a b:Addr}{o:HO}(h:H a=some o)(h':H b=none):a≠b:=by
 intro e;subst e;rw [h] at h';cases h'
section
variable (P:Program)(w:World)
def ObjOk(H:Hp)(h:Heap)(a:Addr):HO->Prop
 |.lst xs=>xs.length<=sizeLine/\∃(its:List Value) (n:Nat),Vals xs its/\h.get? a=some { cls:=.type "list",data:=.seq its.toArray n }
 |.tup xs=>xs.length<=sizeLine/\∃its:List Value,Vals xs its/\∃o,h.get? a=some o/\(o.cls=.type "tuple"/\∃n,o.data=.seq its.toArray n)/\o.dict=none
 |.dK kvs=>kvs.length<=sizeLine/\(a==sysModules)=false/\∃vs,KV kvs vs/\h.DictOf (aO P w) a vs
 |.dT kvs=>kvs.length<=sizeLine/\(a==sysModules)=false/\∃xs:List (List au×Addr×Value),
   Paired (fun (p:List au×V) (q:List au×Addr×Value)=>p.1=q.1/\H q.2.1=some (.tup (p.1.map kV))/\RelV p.2 q.2.2) kvs xs/\
   ∃o es ep,h.get? a=some o/\o.ExactDict/\o.data=.dict es ep/\es.toList=xs.map (entryOfKey (tupleKind (aO P w)))/\(xs.map (·.1)).Nodup
 |.set S n=>h.SetOf (intKind P w) a S n
 |.ins C dx fs=>H dx=some (.own a)/\fs.length<=1000/\dx≠a/\h.get? a=some (W.instObj C dx)/\
   ∃mA,h.Ns1 dx mA/\(∀f,RelO (fs.lookup f) (mA f))/\PySem.Within mA (fs.map (·.1))
 |.own _=>∃o,h.get? a=some o
 |.xd fs=>∃mA,h.Ns1 a mA/\∀f,RelO (fs.lookup f) (mA f)
 |.rng lo hi=>∃t u v,h.get? a=some { cls:=.type "range",data:=.fields #[.int lo t,.int hi u,.int 1 v] }
 |.frz o u=>h.get? a=some o/\ObjOk H h a u
 |.tbl ps=>h.get? a=some { cls:=.none,data:=.fields ps }
 |.met f x=>h.get? a=some (W.methodObj (.ref f) (.ref x))
 |.ext φ=>φ h/\(∃o,h.get? a=some o)/\∀h1 h2:Heap,φ h1->(∀o,h1.get? a=some o->h2.get? a=some o)->φ h2
def HOk(H:Hp)(h:Heap):Prop:=∀a o,H a=some o->ObjOk P w H h a o
end
section
variable {P:Program}{w:World}{H H':Hp}{h h':Heap}{a:Addr}{o:HO}
theorem ObjOk.lt(x:ObjOk P w H h a o):a<h.objs.size:=by
 cases o with
 |lst xs=>obtain ⟨_,_,_,_,e⟩:=x;exact Heap.lt_size e
 |tup xs=>obtain ⟨_,_,_,_,e,_⟩:=x;exact Heap.lt_size e
 |dK kvs=>obtain ⟨_,_,_,_,o,_,_,e,_⟩:=x;exact Heap.lt_size e
 |dT kvs=>obtain ⟨_,_,_,_,o,_,_,e,_⟩:=x;exact Heap.lt_size e
 |set S n=>obtain ⟨o,_,_,_,e,_⟩:=x;exact Heap.lt_size e
 |ins C dx fs=>obtain ⟨_,_,_,e,_⟩:=x;exact Heap.lt_size e
 |own y=>obtain ⟨_,e⟩:=x;exact Heap.lt_size e
 |xd fs=>obtain ⟨_,⟨_,_,_,e,_⟩,_⟩:=x;exact Heap.lt_size e
 |rng lo hi=>obtain ⟨_,_,_,e⟩:=x;exact Heap.lt_size e
 |frz ob u=>obtain ⟨e,_⟩:=x;exact Heap.lt_size e
 |tbl ps=>exact Heap.lt_size (show h.get? a=some _ from x)
 |met f y=>exact Heap.lt_size (show h.get? a=some _ from x)
 |ext φ=>obtain ⟨_,⟨_,e⟩,_⟩:=x;exact Heap.lt_size e
theorem de{α β:Type}{F G:α->β->Prop}:∀{l₁:List α} {l₂:List β},Paired F l₁ l₂->(∀a b,F a b->G a b)->Paired G l₁ l₂
 |_,_,.nil,_=>.nil
 |_,_,.cons r t,f=>.cons (f _ _ r) (de t f)
theorem ObjOk.stay(x:ObjOk P w H h a o)(k:∀b u,(b=a\/H b=some (.own a))->h.get? b=some u->h'.get? b=some u)
  (ho:∀b,H b=some (.own a)->H' b=some (.own a)) (ht:∀b xs,H b=some (.tup xs)->H' b=some (.tup xs)):ObjOk P w H' h' a o:=by
 induction o with
 |lst xs=>obtain ⟨z,its,n,r,e⟩:=x;exact ⟨z,its,n,r,k _ _ (.inl rfl) e⟩
 |tup xs=>obtain ⟨z,its,r,ob,e,c⟩:=x;exact ⟨z,its,r,ob,k _ _ (.inl rfl) e,c⟩
 |dK kvs=>obtain ⟨z,y,vs,r,ob,es,ep,e,c⟩:=x;exact ⟨z,y,vs,r,ob,es,ep,k _ _ (.inl rfl) e,c⟩
 |dT kvs=>
  obtain ⟨z,y,xs,r,ob,es,ep,e,c⟩:=x;exact ⟨z,y,xs,de r fun p q z=>⟨z.1,ht _ _ z.2.1,z.2.2⟩,ob,es,ep,k _ _ (.inl rfl) e,c⟩
 |set S n=>obtain ⟨ob,es,ep,t,e,c⟩:=x;exact ⟨ob,es,ep,t,k _ _ (.inl rfl) e,c⟩
 |ins C dx fs=>
  obtain ⟨d,z,ne,e,mA,⟨od,es,ep,e2,c⟩,r⟩:=x;exact ⟨ho _ d,z,ne,k _ _ (.inl rfl) e,mA,⟨od,es,ep,k _ _ (.inr d) e2,c⟩,r⟩
 |own y=>obtain ⟨ob,e⟩:=x;exact ⟨ob,k _ _ (.inl rfl) e⟩
 |xd fs=>obtain ⟨mA,⟨od,es,ep,e,c⟩,r⟩:=x;exact ⟨mA,⟨od,es,ep,k _ _ (.inl rfl) e,c⟩,r⟩
 |rng lo hi=>obtain ⟨t,u,v,e⟩:=x;exact ⟨t,u,v,k _ _ (.inl rfl) e⟩
 |frz ob u ih=>obtain ⟨e,q⟩:=x;exact ⟨k _ _ (.inl rfl) e,ih q⟩
 |tbl ps=>
  have e:h.get? a=some { cls:=.none,data:=.fields ps }:=x;show h'.get? a=some { cls:=.none,data:=.fields ps };exact k a _ (.inl rfl) e
 |met f y=>
  have e:h.get? a=some (W.methodObj (.ref f) (.ref y)):=x;show h'.get? a=some (W.methodObj (.ref f) (.ref y));exact k a _ (.inl rfl) e
 |ext φ=>obtain ⟨p,⟨o,e⟩,st⟩:=x;exact ⟨st _ _ p fun o q=>k _ _ (.inl rfl) q,⟨o,k _ _ (.inl rfl) e⟩,st⟩
theorem HOk.lt(x:HOk P w H h)(e:H a=some o):a<h.objs.size:=(x a o e).lt
theorem HOk.fresh(x:HOk P w H h)(e:h.objs.size<=a):H a=none:=by
 cases q:H a with
 |none=>rfl
 |some u=>exact absurd (Nat.lt_of_lt_of_le (x.lt q) e) (Nat.lt_irrefl _)
theorem HOk.kept(x:HOk P w H h)(k:∀b u,h.get? b=some u->h'.get? b=some u):HOk P w H h':=fun a o e=>
 (x a o e).stay (fun b u _ q=>k b u q) (fun _ q=>q) fun _ _ q=>q
theorem HOk.laid(x:HOk P w H h)(k:∀b u,h.get? b=some u->h'.get? b=some u)(hp:h.objs.size<=a)(new:ObjOk P w (upd H a o) h' a o):HOk P w (upd H a o) h':=fun b u e=>by
 have hn:=x.fresh hp
 by_cases hb:b=a
 ·subst hb;rw [upd_same] at e;cases e;exact new
 ·rw [upd_ne hb] at e
  exact (x b u e).stay (fun c v _ q=>k c v q) (fun c q=>by rw [upd_ne (a_ q hn)];exact q) fun c xs q=>by rw [upd_ne (a_ q hn)];exact q
end
def Rd(H:Hp)(a:Addr)(u:HO):Prop:=H a=some u\/∃o,H a=some (.frz o u)
theorem Rd.ok{P:Program}{w:World}{H:Hp}{h:Heap}{a:Addr}{u:HO}(r:Rd H a u)(x:HOk P w H h):ObjOk P w H h a u:=by
 rcases r with r|⟨o,r⟩
 ·exact x a u r
 ·obtain ⟨_,q⟩:=x a _ r
  exact q
def Cr:Option HO->Prop
 |some (.lst _)=>True
 |some (.dK _)=>True
 |some (.dT _)=>True
 |some (.set _ _)=>True
 |some (.ins _ _ _)=>True
 |some (.ext _)=>True
 |_=>False
section
variable {P:Program}{w:World}{H:Hp}{h h':Heap}{x e:Addr}{o':HO}
theorem HOk.write(ok:HOk P w H h)(mu:Cr (H x))(he:e=x\/H e=some (.own x))(k:∀b u,b≠e->h.get? b=some u->h'.get? b=some u)(heo:∃u,h'.get? e=some u)
  (new:ObjOk P w (upd H x o') h' x o'):HOk P w (upd H x o') h':=fun b u q=>by
 have nown:∀c y,H c=some (.own y)->c≠x:=fun c y r z=>by subst z;rw [r] at mu;exact mu
 have ntup:∀c xs,H c=some (.tup xs)->c≠x:=fun c xs r z=>by subst z;rw [r] at mu;exact mu
 by_cases hb:b=x
 ·subst hb;rw [upd_same] at q;cases q;exact new
 ·rw [upd_ne hb] at q
  by_cases hbe:b=e
  ·have q':H b=some (.own x):=by
    rcases he with z|z
    ·exact absurd (hbe.trans z) hb
    ·rw [hbe];exact z
   rw [q] at q';cases q';obtain ⟨v,hv⟩:=heo;exact ⟨v,by rw [hbe];exact hv⟩
  ·refine (ok b u q).stay (fun c v hc r=>k c v ?_ r) (fun c r=>by rw [upd_ne (nown c b r)];exact r) fun c xs r=>by rw [upd_ne (ntup c xs r)];exact r
   rcases hc with rfl|hc
   ·exact hbe
   ·rintro rfl
    rcases he with z|z
    ·exact nown c b hc z
    ·rw [hc] at z;cases z;exact hb rfl
end
structure Un(fs ex:List Addr)(H H':Hp)(h h':Heap):Prop where
 keep:∀b o,h.get? b=some o->H b=none->b∉fs->b∉ex->h'.get? b=some o
 slot:∀b o,h.get? b=some o->H b=none->b∈fs->b∉ex->∃sl,h'.get? b=some { o with slots:=sl }
 free:∀b o,h.get? b=some o->H b=none->b∉ex->H' b=none
 there:∀b o,h.get? b=some o->b∉ex->∃o',h'.get? b=some o'
 tups:∀b xs,H b=some (.tup xs)->H' b=some (.tup xs)
 frzs:∀b o u,H b=some (.frz o u)->H' b=some (.frz o u)
 tbls:∀b ps,H b=some (.tbl ps)->∃more,H' b=some (.tbl (ps++more))
section
variable {fs fs' ex ex':List Addr}{H H1 H2:Hp}{h h1 h2 h':Heap}{a x e:Addr}{o:HO}
theorem Un.any(u:Un fs ex H H1 h h1){b:Addr}{ob:Obj}(q:h.get? b=some ob)(n:H b=none)(hx:b∉ex):∃sl,h1.get? b=some { ob with slots:=sl }:=by
 by_cases hb:b∈fs
 ·exact u.slot b ob q n hb hx
 ·exact ⟨ob.slots,u.keep b ob q n hb hx⟩
theorem Un.kept(k:∀b u,h.get? b=some u->h'.get? b=some u):Un fs ex H H h h':=
 ⟨fun b ob q _ _ _=>k b ob q,fun b ob q _ _ _=>⟨ob.slots,k b ob q⟩,fun _ _ _ n _=>n,fun b ob q _=>⟨ob,k b ob q⟩,fun _ _ q=>q,fun _ _ _ q=>q,fun _ ps q=>⟨#[],by rw [q];simp⟩⟩
theorem Un.refl:Un fs ex H H h h:=Un.kept fun _ _ q=>q
theorem Un.laid(k:∀b u,h.get? b=some u->h'.get? b=some u)(hp:h.objs.size<=a)(hn:H a=none):Un fs ex H (upd H a o) h h' where
 keep:=fun b u q _ _ _=>k b u q
 slot:=fun b u q _ _ _=>⟨u.slots,k b u q⟩
 free:=fun b u q n _=>by rw [upd_ne (Nat.ne_of_lt (Nat.lt_of_lt_of_le (Heap.lt_size q) hp))];exact n
 there:=fun b u q _=>⟨u,k b u q⟩
 tups:=fun b xs q=>by rw [upd_ne (a_ q hn)];exact q
 frzs:=fun b u xs q=>by rw [upd_ne (a_ q hn)];exact q
 tbls:=fun b ps q=>⟨#[],by rw [upd_ne (a_ q hn),q];simp⟩
theorem Un.write(mu:Cr (H x))(he:e=x\/H e=some (.own x))(k:∀b u,b≠e->h.get? b=some u->h'.get? b=some u)(heo:∃u,h'.get? e=some u):Un fs ex H (upd H x o) h h':=by
 have hx:∀b,H b=none->b≠x:=fun b n z=>by subst z;rw [n] at mu;exact mu
 have hb:∀b,H b=none->b≠e:=fun b n z=>by
  subst z;rcases he with r|r
  ·exact hx b n r
  ·rw [n] at r;cases r
 have hm:∀b u,H b=some u->¬Cr (some u)->b≠x:=fun b u q nm z=>by subst z;rw [q] at mu;exact nm mu
 refine ⟨fun b u q n _ _=>k b u (hb b n) q,fun b u q n _ _=>⟨u.slots,k b u (hb b n) q⟩,fun b u q n _=>by rw [upd_ne (hx b n)];exact n,fun b u q _=>?_,
  fun b xs q=>by rw [upd_ne (hm b _ q fun z=>z)];exact q,fun b u xs q=>by rw [upd_ne (hm b _ q fun z=>z)];exact q,fun b ps q=>⟨#[],by rw [upd_ne (hm b _ q fun z=>z),q];simp⟩⟩
 by_cases hbe:b=e
 ·subst hbe;exact heo
 ·exact ⟨u,k b u hbe q⟩
end
def trk(h:Heap)(H:Hp):List Addr:=(List.range h.objs.size).filter fun a=>(H a).isSome
def lQ(h:Heap)(H:Hp):Heap:=W.hideAll h (trk h H)
theorem sW(h:Heap)(H:Hp):(lQ h H).objs.size=h.objs.size:=W.hideAll_size _ _
theorem vJ{h:Heap}{H:Hp}{b:Addr}{o:Obj}(e:h.get? b=some o)(n:H b=none):(lQ h H).get? b=some o:=
 W.hideAll_get _ e fun hm=>by
  have q:(H b).isSome=true:=(List.mem_filter.mp hm).2;rw [n] at q;simp at q
theorem xz{h:Heap}{H:Hp}{b:Addr}{o:Obj}(e:(lQ h H).get? b=some o):h.get? b=some o/\H b=none:=by
 have e':h.get? b=some o:=W.of_hideAll (trk h H) e;refine ⟨e',?_⟩;cases q:H b with
 |none=>rfl
 |some x=>
  have hm:b∈trk h H:=List.mem_filter.mpr ⟨List.mem_range.mpr (Heap.lt_size e'),by simp [q]⟩
  have z:(lQ h H).get? b=none:=W.hideAll_none (trk h H) hm;rw [z] at e;cases e
end L2
namespace L2
open PySem PySem.Spec PyProof.Rows
structure Mod(K:W.Frag)(mg:Str->Option Value)(base:Heap):Prop where
 kin:K.In base
 glob:base.Ns mainGlobals mg
 blt:∃mb,base.Ns builtinsNs mb/\∀x:Str,x≠"__name__"->mb x=bootBuiltins x
 nolimit:base.NoLimit
structure Cx where
 prog:Program
 w:World
 K:W.Frag
 mg:Str->Option Value
 base:Heap
 A:Around
 N:List Str
 s₀:Shared
 H₀:Hp
 env:Env
 outer:List Env
 stack:List Env
 ex:List Addr
 fn:Str->Bool
 calm:Bool
 pn:List (Addr×Obj)
 xe:Value->Shared->Prop
def fc(l:List Env):List Addr:=l.filterMap (·.frame)
abbrev Cx.fs(X:Cx):List Addr:=fc X.outer
def Ce(sc:Scope)(x:Str):Prop:=sc.names.lookup x=some .local\/sc.names.lookup x=some .cell\/sc.names.lookup x=some .free
def xg(sc:Scope)(x:Str):Prop:=sc.names.lookup x=some .local\/sc.names.lookup x=some .cell
def Look(env:Env)(h:Heap)(m:Str->Option Value)(x:Str)(u:Value):Prop:=
 (env.kindOf x=some .local/\m x=some u)\/((env.kindOf x=some .cell\/env.kindOf x=some .free)/\∃c,env.cells.lookup x=some c/\h.IsCell c (some u))
structure Cx.Ok(X:Cx):Prop where
 mod:Mod X.K X.mg X.base
 kind:X.env.scope.kind=.function
 glob:X.env.globals=mainGlobals
 blt:X.env.builtins=builtinsNs
 above:X.s₀.heap.objs.size<=X.env.locals
 inj:∀x y c,X.env.cells.lookup x=some c->X.env.cells.lookup y=some c->x=y
 has:∀x,(X.env.kindOf x=some .cell\/X.env.kindOf x=some .free)->∃c,X.env.cells.lookup x=some c
 cab:∀x c,X.fn x=true->X.env.cells.lookup x=some c->X.s₀.heap.objs.size<=c
 hd:X.calm=true->X.A.handled=none
 frames:X.A.frames=some X.stack
 stk:X.stack=X.outer\/(X.stack=X.env::X.outer/\X.env.frame=some X.env.locals)
 exf:∀b∈X.ex,b≠X.env.locals/\∀x c,X.env.cells.lookup x=some c->c≠b
 bs:∀b o,X.base.get? b=some o->X.s₀.heap.get? b=some o/\X.H₀ b=none
 bsz:X.base.objs.size<=X.s₀.heap.objs.size
 noex:∀b o,X.base.get? b=some o->b∉X.ex
 exfs:∀b∈X.ex,b∉X.fs
 funs:X.s₀.heap.FunFrames X.base X.outer
 frf:∀b∈X.fs,X.H₀ b=none
structure Inv(X:Cx)(pins:List (Addr×Obj))(σ:List (Option V))(H:Hp)(s:Shared):Prop where
 ok:X.Ok
 os:s.os=X.s₀.os
 bare:AllBare s.gens
 base:Un X.fs X.ex X.H₀ H X.s₀.heap s.heap
 loc:∃m,s.heap.Ns X.env.locals m/\∀(i:Nat) (x:Str) (v:V),X.N[i]?=some x->σ[i]?=some (some v)->Ce X.env.scope x->∃u,RelV v u/\Look X.env s.heap m x u
 cell:∀x c,X.env.cells.lookup x=some c->∃v,s.heap.IsCell c v
 free:H X.env.locals=none
 freeC:∀x c,X.env.cells.lookup x=some c->H c=none
 pin:∀p∈X.pn++pins,s.heap.get? p.1=some p.2/\H p.1=none/\p.1≠X.env.locals/\p.1∉X.fs/\∀v,p.2.data≠.cell v
 hok:HOk X.prog X.w H s.heap
 len:σ.length=X.N.length
section
variable {X:Cx}{pins:List (Addr×Obj)}{σ:List (Option V)}{H H':Hp}{s:Shared}{h':Heap}
theorem Cx.Ok.nofr(ok:X.Ok){b:Addr}{o:Obj}(e:X.base.get? b=some o):b∉X.fs:=fun hb=>by
 have:=(ok.funs.mem hb).1;rw [e] at this;cases this
theorem Inv.bs(I:Inv X pins σ H s):∀b o,X.base.get? b=some o->s.heap.get? b=some o/\H b=none:=fun b o e=>
 ⟨I.base.keep b o (I.ok.bs b o e).1 (I.ok.bs b o e).2 (I.ok.nofr e) (I.ok.noex b o e),I.base.free b o (I.ok.bs b o e).1 (I.ok.bs b o e).2 (I.ok.noex b o e)⟩
theorem Inv.bk(I:Inv X pins σ H s):∀b o,X.base.get? b=some o->s.heap.get? b=some o:=fun b o e=>(I.bs b o e).1
theorem Inv.mod(I:Inv X pins σ H s):Mod X.K X.mg X.base:=I.ok.mod
theorem Inv.kIn(I:Inv X pins σ H s):X.K.In s.heap:=I.ok.mod.kin.keeps I.bk
theorem Inv.lt(I:Inv X pins σ H s):X.env.locals<s.heap.objs.size:=let ⟨_,hn,_⟩:=I.loc;hn.lt
theorem Inv.sz(I:Inv X pins σ H s):X.s₀.heap.objs.size<=s.heap.objs.size:=Nat.le_trans I.ok.above (Nat.le_of_lt I.lt)
theorem Inv.nofs(I:Inv X pins σ H s){a:Addr}(h:s.heap.objs.size<=a):a∉X.fs:=fun hb=>by
 obtain ⟨_,o,ho,_⟩:=I.ok.funs.mem hb;exact absurd (Nat.lt_of_lt_of_le (Heap.lt_size ho) (Nat.le_trans I.sz h)) (Nat.lt_irrefl _)
theorem Inv.cne(I:Inv X pins σ H s):∀x c,X.env.cells.lookup x=some c->c≠X.env.locals:=fun x c e z=>by
 obtain ⟨v,o,ho,hd⟩:=I.cell x c e;obtain ⟨m,⟨o',es,ep,ho',hd',_⟩,_⟩:=I.loc;rw [z,ho'] at ho;cases ho;rw [hd'] at hd;cases hd
theorem Inv.funs(I:Inv X pins σ H s):s.heap.FunFrames X.base X.outer:=by
 have all:∀(l:List Env),(∀b∈fc l,b∈X.fs)->X.s₀.heap.FunFrames X.base l->s.heap.FunFrames X.base l:=by
  intro l
  induction l with
  |nil=>intro _ _;trivial
  |cons env r ih=>
   intro hs hl;obtain ⟨hk,⟨L,o,hf,hn,ho,hd⟩,hr⟩:=hl;have hL:L∈X.fs:=hs L (by unfold fc;rw [List.filterMap_cons,hf];exact List.mem_cons_self)
   obtain ⟨sl,e⟩:=I.base.slot L o ho (I.ok.frf L hL) hL fun z=>I.ok.exfs L z hL;exact ⟨hk,⟨L,_,hf,hn,e,hd⟩,ih (fun b hb=>hs b (by unfold fc;rw [List.filterMap_cons,hf];exact List.mem_cons_of_mem _ hb)) hr⟩
 exact all X.outer (fun _ hb=>hb) I.ok.funs
theorem Inv.stack(I:Inv X pins σ H s):s.heap.FunFrames X.base X.stack:=by
 rcases I.ok.stk with e|⟨e,hf⟩
 ·rw [e];exact I.funs
 ·rw [e]
  obtain ⟨m,hn,_⟩:=I.loc;refine .cons (by rw [I.ok.kind];decide) hf hn ?_ I.funs
  exact Heap.get?_none_of_le (Nat.le_trans I.ok.bsz I.ok.above)
theorem Inv.stkSub(I:Inv X pins σ H s):∀b∈fc X.stack,b∈X.env.locals::X.fs:=fun b hb=>by
 rcases I.ok.stk with e|⟨e,hf⟩
 ·rw [e] at hb;exact List.mem_cons_of_mem _ hb
 ·rw [e] at hb
  unfold fc at hb;rw [List.filterMap_cons,hf] at hb;exact hb
theorem Inv.stkFree(I:Inv X pins σ H s):∀b∈fc X.stack,H b=none:=fun b hb=>by
 rcases List.mem_cons.mp (I.stkSub b hb) with e|hb
 ·rw [e];exact I.free
 ·obtain ⟨_,o,ho,_⟩:=I.ok.funs.mem hb
  exact I.base.free b o ho (I.ok.frf b hb) fun z=>I.ok.exfs b z hb
theorem Inv.step{g':Array GenState}{t':Nat}{d':Drawn}{ch:List Addr}(I:Inv X pins σ H s)
  (hch:∀b∈ch,(b∈X.ex\/X.s₀.heap.objs.size<=b)/\b≠X.env.locals/\(∀x c,X.env.cells.lookup x=some c->c≠b)/\∀p∈X.pn++pins,p.1≠b)
  (keep:∀b o,b≠X.env.locals->b∉X.fs->b∉ch->s.heap.get? b=some o->H b=none->h'.get? b=some o)
  (slot:∀b o,b≠X.env.locals->b∈X.fs->b∉ch->s.heap.get? b=some o->H b=none->∃sl,h'.get? b=some { o with slots:=sl }) (free:∀b o,b∉ch->s.heap.get? b=some o->H b=none->H' b=none)
  (there:∀b o,b∉ch->s.heap.get? b=some o->∃o',h'.get? b=some o')
  (tups:∀b xs,H b=some (.tup xs)->H' b=some (.tup xs)) (frzs:∀b o u,H b=some (.frz o u)->H' b=some (.frz o u)) (tbls:∀b ps,H b=some (.tbl ps)->∃more,H' b=some (.tbl (ps++more)))
  (ns:∀m,s.heap.Ns X.env.locals m->h'.Ns X.env.locals m) (hok:HOk X.prog X.w H' h') (hg:AllBare g'):
  Inv X pins σ H' { s with heap:=h',gens:=g',drawn:=d',toks:=t' }:=by
 have neL:∀b o,X.s₀.heap.get? b=some o->b≠X.env.locals:=fun b o e=>Nat.ne_of_lt (Nat.lt_of_lt_of_le (Heap.lt_size e) I.ok.above);have neC:∀b o,X.s₀.heap.get? b=some o->b∉X.ex->b∉ch:=fun b o e hx hb=>by
  rcases (hch b hb).1 with z|z
  ·exact hx z
  ·exact absurd (Nat.lt_of_lt_of_le (Heap.lt_size e) z) (Nat.lt_irrefl _)
 have cellK:∀x c,X.env.cells.lookup x=some c->∀v,s.heap.IsCell c v->h'.IsCell c v:=fun x c e v ⟨o,ho,hd⟩=>by
  have nch:c∉ch:=fun z=>(hch c z).2.2.1 x c e rfl
  by_cases hc:c∈X.fs
  ·obtain ⟨sl,q⟩:=slot c o (I.cne x c e) hc nch ho (I.freeC x c e)
   exact ⟨_,q,hd⟩
  ·exact ⟨o,keep c o (I.cne x c e) hc nch ho (I.freeC x c e),hd⟩
 refine ⟨I.ok,I.os,hg,⟨fun b o e n hb hx=>?_,fun b o e n hb hx=>?_,fun b o e n hx=>?_,fun b o e hx=>?_,fun b xs e=>tups b xs (I.base.tups b xs e),fun b o xs e=>frzs b o xs (I.base.frzs b o xs e),fun b ps e=>?_⟩,?_,fun x c e=>?_,?_,fun x c e=>?_,fun p hp=>?_,hok,I.len⟩
 ·exact keep b o (neL b o e) hb (neC b o e hx) (I.base.keep b o e n hb hx) (I.base.free b o e n hx)
 ·obtain ⟨sl,e1⟩:=I.base.slot b o e n hb hx
  obtain ⟨sl',e2⟩:=slot b _ (neL b o e) hb (neC b o e hx) e1 (I.base.free b o e n hx);exact ⟨sl',e2⟩
 ·obtain ⟨o',e1⟩:=I.base.there b o e hx
  exact free b o' (neC b o e hx) e1 (I.base.free b o e n hx)
 ·obtain ⟨o',e1⟩:=I.base.there b o e hx
  exact there b o' (neC b o e hx) e1
 ·obtain ⟨m1,e1⟩:=I.base.tbls b ps e
  obtain ⟨m2,e2⟩:=tbls b _ e1;exact ⟨m1++m2,by rw [e2,Array.append_assoc]⟩
 ·obtain ⟨m,hn,hl⟩:=I.loc
  refine ⟨m,ns m hn,fun i x v e1 e2 e3=>?_⟩;obtain ⟨u,r,l⟩:=hl i x v e1 e2 e3;refine ⟨u,r,?_⟩;rcases l with l|⟨k,c,e,z⟩
  ·exact .inl l
  ·exact .inr ⟨k,c,e,cellK x c e _ z⟩
 ·obtain ⟨v,z⟩:=I.cell x c e
  exact ⟨v,cellK x c e v z⟩
 ·obtain ⟨m,⟨o,_,_,ho,_⟩,_⟩:=I.loc
  exact free _ o (fun z=>(hch _ z).2.1 rfl) ho I.free
 ·obtain ⟨v,o,ho,hd⟩:=I.cell x c e
  exact free c o (fun z=>(hch c z).2.2.1 x c e rfl) ho (I.freeC x c e)
 ·obtain ⟨e,n,ne,nf,d⟩:=I.pin p hp
  have nch:p.1∉ch:=fun z=>(hch p.1 z).2.2.2 p hp rfl;exact ⟨keep p.1 p.2 ne nf nch e n,free p.1 p.2 nch e n,ne,nf,d⟩
theorem Inv.un{t':Nat}(I:Inv X pins σ H s)(u:Un X.fs [] H H' s.heap h')(hok:HOk X.prog X.w H' h'):Inv X pins σ H' { s with heap:=h',toks:=t' }:=by
 obtain ⟨m,⟨o,es,ep,ho,r⟩,_⟩:=id I.loc;obtain ⟨sl,hL⟩:=u.any ho I.free (by simp)
 exact I.step (g':=s.gens) (d':=s.drawn) (ch:=[]) (fun _ z=>nomatch z) (fun b o _ hb _ e n=>u.keep b o e n hb (by simp)) (fun b o _ hb _ e n=>u.slot b o e n hb (by simp)) (fun b o _ e n=>u.free b o e n (by simp)) (fun b o _ e=>u.there b o e (by simp)) u.tups u.frzs u.tbls (fun m' hm=>by
  obtain ⟨o',es',ep',ho',r'⟩:=hm;rw [ho] at ho';cases ho';exact ⟨_,es',ep',hL,r'⟩) hok I.bare
theorem Inv.call{g':Array GenState}{t':Nat}{d':Drawn}{ch:List Addr}(I:Inv X pins σ H s)(u:Un (fc X.stack) ch H H' s.heap h')(hok:HOk X.prog X.w H' h')(hg:AllBare g')
  (hch:∀b∈ch,(b∈X.ex\/X.s₀.heap.objs.size<=b)/\b≠X.env.locals/\(∀x c,X.env.cells.lookup x=some c->c≠b)/\∀p∈X.pn++pins,p.1≠b):
  Inv X pins σ H' { s with heap:=h',gens:=g',drawn:=d',toks:=t' }:=by
 obtain ⟨m,⟨o,es,ep,ho,r⟩,_⟩:=id I.loc;obtain ⟨sl,hL⟩:=u.any ho I.free fun z=>(hch _ z).2.1 rfl;exact I.step (ch:=ch) hch (fun b o hL hb hc e n=>u.keep b o e n (fun z=>(List.mem_cons.mp (I.stkSub b z)).elim hL hb) hc) (fun b o _ _ hc e n=>u.any e n hc) (fun b o hc e n=>u.free b o e n hc) (fun b o hc e=>u.there b o e hc) u.tups u.frzs u.tbls (fun m' hm=>by
  obtain ⟨o',es',ep',ho',r'⟩:=hm;rw [ho] at ho';cases ho';exact ⟨_,es',ep',hL,r'⟩) hok hg
theorem Inv.turned{t':Nat}{it:Addr}(I:Inv X pins σ H s)(k:∀b o,b≠it->s.heap.get? b=some o->h'.get? b=some o)(hn:H it=none)(hL:it≠X.env.locals)
  (h1:it∈X.ex\/X.s₀.heap.objs.size<=it) (h2:∀x c,X.env.cells.lookup x=some c->c≠it) (h3:∀p∈X.pn++pins,p.1≠it):Inv X pins σ H { s with heap:=h',toks:=t' }:=by
 have nit:∀b u,H b=some u->b≠it:=fun b u e z=>by rw [z,hn] at e;cases e
 refine I.step (g':=s.gens) (d':=s.drawn) (ch:=[it]) (fun b hb=>?_) (fun b o _ _ hc e _=>k b o (fun z=>hc (by simp [z])) e) (fun b o _ _ hc e _=>⟨o.slots,k b o (fun z=>hc (by simp [z])) e⟩) (fun _ _ _ _ n=>n)
  (fun b o hc e=>⟨o,k b o (fun z=>hc (by simp [z])) e⟩) (fun _ _ e=>e) (fun _ _ _ e=>e) (fun b ps e=>⟨#[],by rw [e];simp⟩) (fun m hm=>?_) (fun b u e=>?_) I.bare
 ·have e:b=it:=by simpa using hb
  subst e;exact ⟨h1,hL,h2,h3⟩
 ·obtain ⟨o,es,ep,ho,r⟩:=hm
  exact ⟨o,es,ep,k _ o (Ne.symm hL) ho,r⟩
 ·refine (I.hok b u e).stay (fun c v hc q=>k c v ?_ q) (fun _ q=>q) fun _ _ q=>q
  rcases hc with z|z
  ·rw [z];exact nit b u e
  ·exact nit c _ z
theorem Inv.tok(I:Inv X pins σ H s)(t:Nat):Inv X pins σ H { s with toks:=t }:=I.un (h':=s.heap) (t':=t) Un.refl I.hok
theorem Inv.kept{t':Nat}(I:Inv X pins σ H s)(k:∀b u,s.heap.get? b=some u->h'.get? b=some u):Inv X pins σ H { s with heap:=h',toks:=t' }:=I.un (Un.kept k) (I.hok.kept k)
theorem Inv.laid{a:Addr}{o:HO}{t':Nat}(I:Inv X pins σ H s)(k:∀b u,s.heap.get? b=some u->h'.get? b=some u)(hp:s.heap.objs.size<=a)(new:ObjOk X.prog X.w (upd H a o) h' a o):
  Inv X pins σ (upd H a o) { s with heap:=h',toks:=t' }:=I.un (Un.laid k hp (I.hok.fresh hp)) (I.hok.laid k hp new)
theorem Inv.write{x e:Addr}{o:HO}{t':Nat}(I:Inv X pins σ H s)(mu:Cr (H x))(he:e=x\/H e=some (.own x))(k:∀b u,b≠e->s.heap.get? b=some u->h'.get? b=some u)(heo:∃u,h'.get? e=some u)
  (new:ObjOk X.prog X.w (upd H x o) h' x o):Inv X pins σ (upd H x o) { s with heap:=h',toks:=t' }:=I.un (Un.write mu he k heo) (I.hok.write mu he k heo new)
theorem Inv.pins_of{pins':List (Addr×Obj)}(I:Inv X pins σ H s)(h:∀p∈pins',s.heap.get? p.1=some p.2/\H p.1=none/\p.1≠X.env.locals/\p.1∉X.fs/\∀v,p.2.data≠.cell v):Inv X pins' σ H s:=
 ⟨I.ok,I.os,I.bare,I.base,I.loc,I.cell,I.free,I.freeC,fun p hp=>(List.mem_append.mp hp).elim (fun z=>I.pin p (List.mem_append_left _ z)) (h p),I.hok,I.len⟩
theorem nc{N:List Str}(hN:N.Nodup){i j:Nat}{x:Str}(a:N[i]?=some x)(b:N[j]?=some x):i=j:=by
 obtain ⟨h1,e1⟩:=List.getElem?_eq_some_iff.mp a;obtain ⟨h2,e2⟩:=List.getElem?_eq_some_iff.mp b;exact (List.getElem_inj hN).mp (e1.trans e2.symm)
theorem store_ok2{M:Model}{A:Around}{E:Value->Shared->Prop}{i:Nat}{x:Str}{v:V}{u:Value}{Q:Unit->Shared->Prop}(I:Inv X pins σ H s)(hN:X.N.Nodup)(hi:X.N[i]?=some x)(hx:xg X.env.scope x)(r:RelV v u)
  (h:∀s',Inv X pins (σ.set i (some v)) H s'->(∃a,Heap.SameBut a s.heap s'.heap/\(a=X.env.locals\/X.env.cells.lookup x=some a))->Q () s') (hf:X.fn x=true\/X.env.scope.names.lookup x=some .local:=by first|exact .inl rfl|exact .inr rfl|assumption):wpAny M A (storeName X.env x u) Q E s:=by
 obtain ⟨m,hn,hl⟩:=id I.loc;have hcls:(X.env.scope.kind==.class||(X.env.scope.kind==.module&&X.env.locals != X.env.globals))=false:=by rw [I.ok.kind];rfl
 have hiσ:i<σ.length:=by rw [I.len];exact (List.getElem?_eq_some_iff.mp hi).1
 have cne:=I.cne;have tracked:∀{a:Addr} {h':Heap},(∃o,s.heap.get? a=some o/\H a=none)->Heap.SameBut a s.heap h'->HOk X.prog X.w H h':=fun {a h'} ha hs b ob e=>by
  obtain ⟨_,_,hfree⟩:=ha;refine (I.hok b ob e).stay (fun c w' hc q=>(hs.2 c ?_).trans q) (fun _ q=>q) fun _ _ q=>q
  rintro rfl
  rcases hc with rfl|hc
  ·rw [hfree] at e;cases e
  ·rw [hfree] at hc;cases hc
 rcases hx with hk|hk
 ·refine wpAny_storeName_local hk hn (fun h' hn' hs=>?_) hcls
  obtain ⟨oL,_,_,hoL,_⟩:=id hn;refine h _ ⟨I.ok,I.os,I.bare,⟨fun b o e n hb hx=>?_,fun b o e n hb hx=>?_,I.base.free,fun b o e hx=>?_,I.base.tups,I.base.frzs,I.base.tbls⟩,⟨_,hn',fun j y v' e1 e2 e3=>?_⟩,fun y c e=>?_,I.free,I.freeC,fun p hp=>?_,tracked ⟨oL,hoL,I.free⟩ hs,by simpa using I.len⟩ ⟨_,hs,.inl rfl⟩
  ·exact (hs.2 b (Nat.ne_of_lt (Nat.lt_of_lt_of_le (Heap.lt_size e) I.ok.above))).trans (I.base.keep b o e n hb hx)
  ·obtain ⟨sl,e1⟩:=I.base.slot b o e n hb hx
   exact ⟨sl,(hs.2 b (Nat.ne_of_lt (Nat.lt_of_lt_of_le (Heap.lt_size e) I.ok.above))).trans e1⟩
  ·obtain ⟨o',e1⟩:=I.base.there b o e hx
   exact ⟨o',(hs.2 b (Nat.ne_of_lt (Nat.lt_of_lt_of_le (Heap.lt_size e) I.ok.above))).trans e1⟩
  ·by_cases hj:j=i
   ·subst hj
    rw [hi] at e1;cases e1;rw [List.getElem?_set_self hiσ] at e2;cases e2;exact ⟨u,r,.inl ⟨hk,by simp⟩⟩
   ·rw [List.getElem?_set_ne (Ne.symm hj)] at e2
    obtain ⟨u',r',q⟩:=hl j y v' e1 e2 e3;refine ⟨u',r',?_⟩;rcases q with ⟨k,e⟩|⟨k,c,e,z⟩
    ·refine .inl ⟨k,?_⟩
     have:y≠x:=fun e=>hj (nc hN e1 (e▸hi));simp [this,e]
    ·exact .inr ⟨k,c,e,z.sameBut hs (cne y c e)⟩
  ·obtain ⟨w',z⟩:=I.cell y c e
   exact ⟨w',z.sameBut hs (cne y c e)⟩
  ·obtain ⟨e,n,ne,nf,d⟩:=I.pin p hp
   exact ⟨(hs.2 p.1 ne).trans e,n,ne,nf,d⟩
 ·have hfn:X.fn x=true:=by
   rcases hf with z|z
   ·exact z
   ·rw [z] at hk;cases hk
  obtain ⟨c,hc⟩:=I.ok.has x (.inl hk);obtain ⟨w',z⟩:=I.cell x c hc;refine wpAny_storeName_cell I.ok.kind hk hc z (fun h' hc' hs=>?_);obtain ⟨oc,hoc,hocd⟩:=id z;refine h { s with heap:=h' } ⟨I.ok,I.os,I.bare,⟨fun b o e n hb hx=>?_,fun b o e n hb hx=>?_,I.base.free,fun b o e hx=>?_,I.base.tups,I.base.frzs,I.base.tbls⟩,⟨m,hn.sameBut hs (Ne.symm (cne x c hc)),fun j y v' e1 e2 e3=>?_⟩,fun y c' e=>?_,I.free,I.freeC,fun p hp=>?_,tracked ⟨oc,hoc,I.freeC x c hc⟩ hs,by simpa using I.len⟩ ⟨c,hs,.inr hc⟩
  ·exact (hs.2 b (Nat.ne_of_lt (Nat.lt_of_lt_of_le (Heap.lt_size e) (I.ok.cab x c hfn hc)))).trans (I.base.keep b o e n hb hx)
  ·obtain ⟨sl,e1⟩:=I.base.slot b o e n hb hx
   exact ⟨sl,(hs.2 b (Nat.ne_of_lt (Nat.lt_of_lt_of_le (Heap.lt_size e) (I.ok.cab x c hfn hc)))).trans e1⟩
  ·obtain ⟨o',e1⟩:=I.base.there b o e hx
   exact ⟨o',(hs.2 b (Nat.ne_of_lt (Nat.lt_of_lt_of_le (Heap.lt_size e) (I.ok.cab x c hfn hc)))).trans e1⟩
  ·by_cases hj:j=i
   ·subst hj
    rw [hi] at e1;cases e1;rw [List.getElem?_set_self hiσ] at e2;cases e2;exact ⟨u,r,.inr ⟨.inl hk,c,hc,hc'⟩⟩
   ·rw [List.getElem?_set_ne (Ne.symm hj)] at e2
    obtain ⟨u',r',q⟩:=hl j y v' e1 e2 e3;refine ⟨u',r',?_⟩;rcases q with q|⟨k,c',e,z'⟩
    ·exact .inl q
    ·refine .inr ⟨k,c',e,z'.sameBut hs ?_⟩
     rintro rfl
     exact hj (nc hN e1 (I.ok.inj _ _ _ e hc▸hi))
  ·by_cases hcc:c'=c
   ·subst hcc;exact ⟨_,hc'⟩
   ·obtain ⟨w2,z2⟩:=I.cell y c' e
    exact ⟨w2,z2.sameBut hs hcc⟩
  ·obtain ⟨e,n,ne,nf,d⟩:=I.pin p hp
   refine ⟨(hs.2 p.1 ?_).trans e,n,ne,nf,d⟩;intro q;rw [q,hoc] at e;have q':oc=p.2:=Option.some.inj e;exact d w' (by rw [<- q'];exact hocd)
theorem store_ok{M:Model}{A:Around}{E:Value->Shared->Prop}{i:Nat}{x:Str}{v:V}{u:Value}{Q:Unit->Shared->Prop}(I:Inv X pins σ H s)(hN:X.N.Nodup)(hi:X.N[i]?=some x)(hx:xg X.env.scope x)(r:RelV v u)
  (h:∀s',Inv X pins (σ.set i (some v)) H s'->Q () s') (hf:X.fn x=true\/X.env.scope.names.lookup x=some .local:=by first|exact .inl rfl|exact .inr rfl|assumption):wpAny M A (storeName X.env x u) Q E s:=
 store_ok2 I hN hi hx r (fun s' I' _=>h s' I') hf
theorem Inv.call'{s':Shared}{ch:List Addr}(I:Inv X pins σ H s)(ho:s'.os=s.os)(u:Un (fc X.stack) ch H H' s.heap s'.heap)(hok:HOk X.prog X.w H' s'.heap)(hg:AllBare s'.gens)
  (hch:∀b∈ch,(b∈X.ex\/X.s₀.heap.objs.size<=b)/\b≠X.env.locals/\(∀x c,X.env.cells.lookup x=some c->c≠b)/\∀p∈X.pn++pins,p.1≠b):Inv X pins σ H' s':=by
 obtain ⟨h',g',d',t',o'⟩:=s';have e:o'=s.os:=ho;subst e;exact I.call (g':=g') (t':=t') (d':=d') u hok hg hch
end
abbrev XK:=Value->Option Addr->Hp->Prop
abbrev St:=List (Option V)
abbrev VK:=V->Hp->Prop
abbrev TE:=St->Hp->VK->Prop
abbrev TT:=St->Hp->(Bool->Hp->Prop)->Prop
abbrev TA:=St->Hp->(List V->Hp->Prop)->Prop
structure Ends where
 nx:St->Hp->Prop
 rt:VK
 bk:St->Hp->Prop:=fun _ _=>False
 ct:St->Hp->Prop:=fun _ _=>False
abbrev TS:=Ends->St->Hp->Prop
inductive EP(X:Cx)(pins:List (Addr×Obj))(σ:St)(Q:VK)(u:Value)(s':Shared):Prop
 |mk (v:V) (H':Hp) (h0:Inv X pins σ H' s') (h1:RelV v u) (h2:Q v H'):EP X pins σ Q u s'
inductive TP(X:Cx)(pins:List (Addr×Obj))(σ:St)(Q:Bool->Hp->Prop)(b:Bool)(s':Shared):Prop
 |mk (H':Hp) (h0:Inv X pins σ H' s') (h1:Q b H'):TP X pins σ Q b s'
inductive AP(X:Cx)(pins:List (Addr×Obj))(σ:St)(Q:List V->Hp->Prop)(us:List Value)(s':Shared):Prop
 |mk (vs:List V) (H':Hp) (h0:Inv X pins σ H' s') (h1:Vals vs us) (h2:Q vs H'):AP X pins σ Q us s'
def SP(X:Cx)(pins:List (Addr×Obj))(D:Ends)(f:Flow)(s':Shared):Prop:=
 match f with
 |.next=>∃σ' H',Inv X pins σ' H' s'/\D.nx σ' H'
 |.brk=>∃σ' H',Inv X pins σ' H' s'/\D.bk σ' H'
 |.cont=>∃σ' H',Inv X pins σ' H' s'/\D.ct σ' H'
 |.ret u=>∃v σ' H',Inv X pins σ' H' s'/\RelV v u/\D.rt v H'
def PE(X:Cx)(e:Expr)(t:TE):Prop:=
 ∀(pins:List (Addr×Obj)) (s:Shared) (σ:St) (H:Hp) (Q:VK),Inv X pins σ H s->t σ H Q->wpAny (model X.prog X.w) X.A (eval e X.env) (EP X pins σ Q) X.xe s
def PT(X:Cx)(e:Expr)(t:TT):Prop:=
 ∀(pins:List (Addr×Obj)) (s:Shared) (σ:St) (H:Hp) (Q:Bool->Hp->Prop),Inv X pins σ H s->t σ H Q->wpAny (model X.prog X.w) X.A (isTrue e X.env (eval e X.env)) (TP X pins σ Q) X.xe s
def PW(X:Cx)(e:Expr)(t:TT):Prop:=
 ∀(whole:Sem Value) (pins:List (Addr×Obj)) (s:Shared) (σ:St) (H:Hp) (Q:Bool->Hp->Prop),Inv X pins σ H s->t σ H Q->wpAny (model X.prog X.w) X.A (isTrue e X.env whole) (TP X pins σ Q) X.xe s
theorem Em{X:Cx}{e:Expr}{t:TT}(h:PW X e t):PT X e t:=h _
def PA(X:Cx)(es:List Expr)(t:TA):Prop:=
 ∀(pos:Pos) (pins:List (Addr×Obj)) (s:Shared) (σ:St) (H:Hp) (Q:List V->Hp->Prop),Inv X pins σ H s->t σ H Q->wpAny (model X.prog X.w) X.A (spliced (backTo pos (starEach es X.env))) (AP X pins σ Q) X.xe s
def PS(X:Cx)(st:Stmt)(t:TS):Prop:=
 ∀(pins:List (Addr×Obj)) (s:Shared) (σ:St) (H:Hp) (D:Ends),Inv X pins σ H s->t D σ H->wpAny (model X.prog X.w) X.A (exec st X.env) (SP X pins D) X.xe s
def qY(X:Cx)(st:List Stmt)(t:TS):Prop:=
 ∀(pins:List (Addr×Obj)) (s:Shared) (σ:St) (H:Hp) (D:Ends),Inv X pins σ H s->t D σ H->wpAny (model X.prog X.w) X.A (execs st X.env) (SP X pins D) X.xe s
theorem thn{α:Type}{t:Sem α}{Q Q':α->Shared->Prop}{M:Model}{A:Around}{E:Value->Shared->Prop}{s:Shared}(h:wpAny M A t Q E s)(hQ:∀a s,Q a s->Q' a s):wpAny M A t Q' E s:=wpAny_mono h hQ fun _ _ x=>x
end L2
namespace L2
open PySem PySem.Spec PyProof.Rows
section
variable {X:Cx}
def tVar(i:Nat):TE:=fun σ H Q=>∃v,σ[i]?=some (some v)/\Q v H
def tC(v:V):TE:=fun _ H Q=>Q v H
theorem C2{i:Nat}{x:Str}{pos:Pos}(hN:X.N[i]?=some x)(hv:Ce X.env.scope x)(hd:(x==("__debug__":Str))=false:=by decide)(hcd:(x==("__classdict__":Str))=false:=by decide):PE X (.Name x pos) (tVar i):=by
 intro pins s σ H Q I h;obtain ⟨v,e,h⟩:=h;obtain ⟨m,hn,hl⟩:=I.loc;obtain ⟨u,r,l⟩:=hl i x v hN e hv;have fin:EP X pins σ Q u s:=⟨v,H,I,r,h⟩;rcases l with ⟨hk,hm⟩|⟨hk,c,hc,hcell⟩
 ·exact wpAny_Name (wpAny_loadName_local I.ok.kind hk hn hm fin) hd
 ·rcases hk with hk|hk
  ·exact wpAny_Name (wpAny_loadName_cell I.ok.kind hk hc hcell fin) hd
  ·exact wpAny_Name (wpAny_loadName_free I.ok.kind hk hc hcell fin hcd) hd
theorem A_{i j pos}:PE X (.Constant (.int i) j pos) (tC (.int i)):=fun _ _ _ H _ I h=>wpAny_Constant_int ⟨.int i,H,I.tok _,⟨_,rfl⟩,h⟩
theorem E9{b j pos}:PE X (.Constant (.bool b) j pos) (tC (.bl b)):=fun _ _ _ H _ I h=>Constant_bool ⟨.bl b,H,I,rfl,h⟩
theorem AE{j pos}:PE X (.Constant .none j pos) (tC .non):=fun _ _ _ H _ I h=>Constant_none ⟨.non,H,I,rfl,h⟩
theorem vp{x j pos}:PE X (.Constant (.str x) j pos) (tC (.str x)):=fun _ _ _ H _ I h=>Calls.Constant_str ⟨.str x,H,I.tok _,⟨_,rfl⟩,h⟩
def Gl(X:Cx)(x:Str):Prop:=X.env.kindOf x=some .globalImplicit
theorem ld_glob{E:Value->Shared->Prop}{pins:List (Addr×Obj)}{s:Shared}{σ:St}{H:Hp}{x:Str}{u:Value}{pos:Pos}{Q:Value->Shared->Prop}(I:Inv X pins σ H s)(hg:Gl X x)(hm:X.mg x=some u)(h:Q u s)
  (hd:(x==("__debug__":Str))=false:=by decide):wpAny (model X.prog X.w) X.A (eval (.Name x pos) X.env) Q E s:=
 Calls.Name_function_global I.ok.kind hg (Calls.loadGlobal_global (by rw [I.ok.glob];exact I.mod.glob.keeps I.bk) hm h) hd
theorem ld_blt{E:Value->Shared->Prop}{pins:List (Addr×Obj)}{s:Shared}{σ:St}{H:Hp}{x:Str}{u:Value}{pos:Pos}{Q:Value->Shared->Prop}(I:Inv X pins σ H s)(hg:Gl X x)(hm:X.mg x=none)(hv:bootBuiltins x=some u)(h:Q u s)
  (hn:x≠"__name__":=by decide) (hd:(x==("__debug__":Str))=false:=by decide):wpAny (model X.prog X.w) X.A (eval (.Name x pos) X.env) Q E s:=by
 obtain ⟨mb,h1,h2⟩:=I.mod.blt;exact Calls.Name_function_global I.ok.kind hg (Calls.loadGlobal_builtin (by rw [I.ok.glob];exact I.mod.glob.keeps I.bk) hm (by rw [I.ok.blt];exact h1.keeps I.bk) ((h2 x hn).trans hv) h) hd
theorem xx{x:Str}{v:V}{u:Value}{pos:Pos}(hg:Gl X x)(hm:X.mg x=none)(hv:bootBuiltins x=some u)(r:RelV v u)(hn:x≠"__name__":=by decide)(hd:(x==("__debug__":Str))=false:=by decide):PE X (.Name x pos) (tC v):=
 fun _ _ _ H _ I h=>ld_blt I hg hm hv ⟨v,H,I,r,h⟩ hn hd
variable {a b:Expr}{ta tb:TE}{pos:Pos}
variable {tA tB':TT}{rest:List Expr}
def tAnd(t u:TT):TT:=fun σ H Q=>t σ H fun c H1=>if c=true then u σ H1 Q else Q false H1
def tOr(t u:TT):TT:=fun σ H Q=>t σ H fun c H1=>if c=true then Q true H1 else u σ H1 Q
def tNot(t:TT):TT:=fun σ H Q=>t σ H fun c H1=>Q (!c) H1
theorem zt(ha:PT X a tA):PW X (.BoolOp .And [a] pos) tA:=by
 intro wh pins s σ H Q I h;refine isTrue_and (thn (ha pins s σ H Q I h) fun c s1 e=>?_);cases c with
 |true=>exact isTrue_and_nil e
 |false=>exact e
theorem BW(ha:PT X a tA):PW X (.BoolOp .Or [a] pos) tA:=by
 intro wh pins s σ H Q I h;refine isTrue_or (thn (ha pins s σ H Q I h) fun c s1 e=>?_);cases c with
 |false=>exact isTrue_or_nil e
 |true=>exact e
theorem Bq(ha:PT X a tA)(hb:PW X (.BoolOp .And (b::rest) pos) tB'):PW X (.BoolOp .And (a::b::rest) pos) (tAnd tA tB'):=by
 intro wh pins s σ H Q I h;refine isTrue_and (thn (ha pins s σ H _ I h) fun c s1 ⟨H1,I1,q1⟩=>?_);cases c with
 |true=>exact hb wh pins s1 σ H1 Q I1 q1
 |false=>exact ⟨H1,I1,q1⟩
theorem E8(ha:PT X a tA)(hb:PW X (.BoolOp .Or (b::rest) pos) tB'):PW X (.BoolOp .Or (a::b::rest) pos) (tOr tA tB'):=by
 intro wh pins s σ H Q I h;refine isTrue_or (thn (ha pins s σ H _ I h) fun c s1 ⟨H1,I1,q1⟩=>?_);cases c with
 |true=>exact ⟨H1,I1,q1⟩
 |false=>exact hb wh pins s1 σ H1 Q I1 q1
theorem A4(ha:PT X a tA):PT X (.UnaryOp .Not a pos) (tNot tA):=by
 intro pins s σ H Q I h;exact isTrue_not (wpAny_mono (ha pins s σ H (fun c H1=>Q (!c) H1) I h) (fun c s' z=>by cases z with|mk a b d=>exact ⟨a,b,d⟩) fun _ _ e=>e)
def Db(ta tb:TE):TE:=fun σ H Q=>ta σ H fun x H1=>∃c,x=.bl c/\if c=true then tb σ H1 Q else Q (.bl false) H1
def Dg(ta:TE):TE:=fun σ H Q=>ta σ H fun x H1=>∃c,x=.bl c/\Q (.bl (!c)) H1
theorem BG{op}{t:TE}(h:PE X a t):PE X (.BoolOp op [a] pos) t:=fun pins s σ H Q I hw=>BoolOp_one (h pins s σ H Q I hw)
theorem BO(ha:PE X a ta)(hb:PE X (.BoolOp .And (b::rest) pos) tb):PE X (.BoolOp .And (a::b::rest) pos) (Db ta tb):=by
 intro pins s σ H Q I h;refine BoolOp_and (thn (ha pins s σ H _ I h) fun v s1 ⟨x,H1,I1,r1,q1⟩=>?_);obtain ⟨c,rfl,q1⟩:=q1;cases r1;refine wpAny_truthy_bool ?_;cases c with
 |true=>exact hb pins s1 σ H1 Q I1 q1
 |false=>exact ⟨.bl false,H1,I1,rfl,q1⟩
theorem Al(ha:PE X a ta):PE X (.UnaryOp .Not a pos) (Dg ta):=by
 intro pins s σ H Q I h;refine UnaryOp_ (thn (ha pins s σ H _ I h) fun v s1 ⟨x,H1,I1,r1,q1⟩=>?_);obtain ⟨c,rfl,q1⟩:=q1;cases r1;exact not_of (wpAny_truthy_bool ⟨.bl (!c),H1,I1,rfl,q1⟩)
def tIf(t:TT)(ta tb:TE):TE:=fun σ H Q=>t σ H fun c H1=>if c=true then ta σ H1 Q else tb σ H1 Q
theorem wY{c:Expr}(hc:PT X c tA)(ha:PE X a ta)(hb:PE X b tb):PE X (.IfExp c a b pos) (tIf tA ta tb):=by
 intro pins s σ H Q I h;refine wpAny_IfExp (thn (hc pins s σ H _ I h) fun d s1 ⟨H1,I1,q1⟩=>?_);cases d with
 |true=>exact ha pins s1 σ H1 Q I1 q1
 |false=>exact hb pins s1 σ H1 Q I1 q1
end
end L2
namespace L2
open PySem PySem.Spec PyProof.Rows
def SqL(K:W.Frag)(H:Hp)(a:Addr)(xs:List V):Prop:=
 Rd H a (.lst xs)\/
  ∃(o:Obj) (its:Array Value) (n:Nat),K.lookup a=some o/\o.cls=.type "list"/\o.dict=none/\o.data=.seq its n/\its.size<=sizeLine/\Vals xs its.toList
def gE(K:W.Frag)(H:Hp)(a:Addr)(xs:List V):Prop:=
 Rd H a (.tup xs)\/
  ∃(o:Obj) (its:Array Value) (n:Nat),K.lookup a=some o/\o.cls=.type "tuple"/\o.data=.seq its n/\its.size<=sizeLine/\Vals xs its.toList
def absV:Value->Option V
 |.none=>some .non
 |.bool b=>some (.bl b)
 |.int i _=>some (.int i)
 |.str x _=>some (.str x)
 |.bytes b _=>some (.byt b)
 |.float b _=>some (.flt b)
 |.ref a=>some (.ref a)
 |.type n=>some (.ty n)
 |_=>none
theorem RelV.abs{x:V}{u:Value}(r:RelV x u):absV u=some x:=by
 cases x with
 |non=>cases r;rfl
 |bl _=>cases r;rfl
 |int _=>obtain ⟨t,rfl⟩:=r;rfl
 |str _=>obtain ⟨t,rfl⟩:=r;rfl
 |byt _=>obtain ⟨t,rfl⟩:=r;rfl
 |flt _=>obtain ⟨t,rfl⟩:=r;rfl
 |ref _=>cases r;rfl
 |ty _=>cases r;rfl
theorem RelV.inj{x y:V}{u:Value}(r:RelV x u)(q:RelV y u):x=y:=Option.some.inj (r.abs.symm.trans q.abs)
theorem Vals.inj:∀{xs ys:List V} {us:List Value},Vals xs us->Vals ys us->xs=ys
 |_,_,_,.nil,.nil=>rfl
 |_,_,_,.cons r t,.cons r' t'=>by rw [r.inj r',Vals.inj t t']
section
variable {X:Cx}{pins:List (Addr×Obj)}{σ:St}{H:Hp}{s:Shared}{a:Addr}{xs ys:List V}
theorem jZ{K:W.Frag}(h:H a=some (.lst xs)):SqL K H a xs:=.inl (.inl h)
theorem Inv.list(I:Inv X pins σ H s)(h:SqL X.K H a xs):∃its:List Value,Vals xs its/\PlainL s.heap a its.toArray/\xs.length<=sizeLine:=by
 rcases h with h|⟨o,its,n,hk,hc,hd,hs,hz,r⟩
 ·obtain ⟨z,its,n,r,e⟩:=h.ok I.hok
  exact ⟨its,r,⟨_,n,e,rfl,rfl,rfl⟩,z⟩
 ·refine ⟨its.toList,r,⟨o,n,I.kIn a o hk,hc,hd,by simpa using hs⟩,?_⟩
  have e:=r.length;simp only [Array.length_toList] at e;lia
theorem Inv.tuple(I:Inv X pins σ H s)(h:gE X.K H a xs):∃its:List Value,Vals xs its/\IsTup s.heap a its.toArray/\xs.length<=sizeLine:=by
 rcases h with h|⟨o,its,n,hk,hc,hs,hz,r⟩
 ·obtain ⟨z,its,r,ob,e,c,_⟩:=h.ok I.hok
  exact ⟨its,r,⟨ob,e,c⟩,z⟩
 ·refine ⟨its.toList,r,⟨o,I.kIn a o hk,hc,n,by simpa using hs⟩,?_⟩
  have e:=r.length;simp only [Array.length_toList] at e;lia
theorem Inv.list_inj(I:Inv X pins σ H s)(h:SqL X.K H a xs)(h':SqL X.K H a ys):xs=ys:=by
 obtain ⟨its,r,⟨o,n,e,_,_,d⟩,_⟩:=I.list h;obtain ⟨its',r',⟨o',n',e',_,_,d'⟩,_⟩:=I.list h';rw [e] at e';cases e';rw [d] at d'
 injection d' with d1 _
 have:its=its':=by simpa using congrArg Array.toList d1
 subst this;exact r.inj r'
theorem Inv.tuple_inj(I:Inv X pins σ H s)(h:gE X.K H a xs)(h':gE X.K H a ys):xs=ys:=by
 obtain ⟨its,r,⟨o,e,_,n,d⟩,_⟩:=I.tuple h;obtain ⟨its',r',⟨o',e',_,n',d'⟩,_⟩:=I.tuple h';rw [e] at e';cases e';rw [d] at d'
 injection d' with d1 _
 have:its=its':=by simpa using congrArg Array.toList d1
 subst this;exact r.inj r'
end
abbrev Cx.wish(X:Cx)(E:Value->Shared->Prop):Cx:={ X with xe:=E }
abbrev Cx.nox(X:Cx):Cx:=X.wish fun _ _=>False
theorem Cx.Ok.wish{X:Cx}(ok:X.Ok)(E:Value->Shared->Prop):(X.wish E).Ok:=
 ⟨ok.mod,ok.kind,ok.glob,ok.blt,ok.above,ok.inj,ok.has,ok.cab,ok.hd,ok.frames,ok.stk,ok.exf,ok.bs,ok.bsz,ok.noex,ok.exfs,ok.funs,ok.frf⟩
theorem Cx.Ok.unwish{X:Cx}{E:Value->Shared->Prop}(ok:(X.wish E).Ok):X.Ok:=
 ⟨ok.mod,ok.kind,ok.glob,ok.blt,ok.above,ok.inj,ok.has,ok.cab,ok.hd,ok.frames,ok.stk,ok.exf,ok.bs,ok.bsz,ok.noex,ok.exfs,ok.funs,ok.frf⟩
section
variable {X:Cx}{pins:List (Addr×Obj)}{σ:St}{H:Hp}{s:Shared}{E:Value->Shared->Prop}
theorem Inv.wish(I:Inv X pins σ H s)(E:Value->Shared->Prop):Inv (X.wish E) pins σ H s:=⟨I.ok.wish E,I.os,I.bare,I.base,I.loc,I.cell,I.free,I.freeC,I.pin,I.hok,I.len⟩
theorem Inv.unwish(I:Inv (X.wish E) pins σ H s):Inv X pins σ H s:=⟨I.ok.unwish,I.os,I.bare,I.base,I.loc,I.cell,I.free,I.freeC,I.pin,I.hok,I.len⟩
end
section
variable {X:Cx}{st:Stmt}{rest:List Stmt}{t u:TS}{e:Expr}{te:TE}{pos:Pos}
def CJ:TS:=fun D σ H=>D.nx σ H
def tSeq(t u:TS):TS:=fun D σ H=>t { D with nx:=u D } σ H
theorem yu:qY X [] CJ:=fun _ _ σ H _ I h=>wpAny_execs_nil ⟨σ,H,I,h⟩
theorem v4(h1:PS X st t)(h2:qY X rest u):qY X (st::rest) (tSeq t u):=by
 intro pins s σ H D I h;refine wpAny_execs_cons (thn (h1 pins s σ H { D with nx:=u D } I h) fun f s1 q=>?_);cases f with
 |next=>
  obtain ⟨σ',H',I',q⟩:=q;exact h2 pins s1 σ' H' D I' q
 |ret v=>exact q
 |brk=>exact q
 |cont=>exact q
theorem zj(h1:PS X st t):qY X [st] t:=by
 intro pins s σ H D I h;refine wpAny_execs_cons (thn (h1 pins s σ H D I h) fun f s1 q=>?_);cases f with
 |next=>exact wpAny_execs_nil q
 |ret v=>exact q
 |brk=>exact q
 |cont=>exact q
def By:TS:=fun D σ H=>D.bk σ H
theorem wv:PS X (.Break pos) By:=fun _ _ σ H _ I h=>wpAny_Break ⟨σ,H,I,h⟩
theorem Inv.quiet{pins:List (Addr×Obj)}{σ:St}{H:Hp}{s:Shared}(I:Inv X pins σ H s):interactive X.env=false:=by simp [interactive,I.ok.kind]
def DC(te:TE):TS:=fun D σ H=>te σ H fun _ H1=>D.nx σ H1
theorem zk(he:PE X e te)(hs:swapsWith e none pos.line X.env=pure false:=by rfl):PS X (.Expr e pos) (DC te):=by
 intro pins s σ H D I h;exact wpAny_Expr_any (thn (he pins s σ H _ I h) fun v s1 ⟨x,H1,I1,r1,q1⟩=>⟨σ,H1,I1,q1⟩) I.quiet hs
def tRet(te:TE):TS:=fun D σ H=>te σ H D.rt
theorem Bf(he:PE X e te):PS X (.Return (some e) pos) (tRet te):=by
 intro pins s σ H D I h;exact wpAny_Return_some (thn (he pins s σ H _ I h) fun v s1 ⟨x,H1,I1,r1,q1⟩=>⟨x,σ,H1,I1,r1,q1⟩)
def tIfS(c:TT)(t u:TS):TS:=fun D σ H=>c σ H fun b H1=>if b=true then t D σ H1 else u D σ H1
theorem Ct{c:Expr}{a b:List Stmt}{tc:TT}(hc:PT X c tc)(ha:qY X a t)(hb:qY X b u):PS X (.If c a b pos) (tIfS tc t u):=by
 intro pins s σ H D I h;refine wpAny_If (thn (hc pins s σ H _ I h) fun d s1 ⟨H1,I1,q1⟩=>?_);cases d with
 |true=>exact ha pins s1 σ H1 D I1 q1
 |false=>exact hb pins s1 σ H1 D I1 q1
end
abbrev TG:=V->St->Hp->(St->Hp->Prop)->Prop
abbrev zH:=List V->St->Hp->(St->Hp->Prop)->Prop
def PG(X:Cx)(target:Expr)(t:TG):Prop:=
 ∀(pins:List (Addr×Obj)) (s:Shared) (σ:St) (H:Hp) (v:V) (u:Value) (Q:St->Hp->Prop),Inv X pins σ H s->RelV v u->t v σ H Q->
  wpAny (model X.prog X.w) X.A (assign target X.env u) (fun _ s'=>∃σ' H',Inv X pins σ' H' s'/\Q σ' H') X.xe s
def Af(X:Cx)(ts:List Expr)(t:zH):Prop:=
 ∀(pins:List (Addr×Obj)) (s:Shared) (σ:St) (H:Hp) (vs:List V) (us:List Value) (Q:St->Hp->Prop),Inv X pins σ H s->Vals vs us->t vs σ H Q->
  wpAny (model X.prog X.w) X.A (assignInOrder ((assignEach ts X.env).map (·.2)) us) (fun _ s'=>∃σ' H',Inv X pins σ' H' s'/\Q σ' H') X.xe s
abbrev B0:=V->V->V->Hp->(Hp->Prop)->Prop
def A7(X:Cx)(t:B0):Prop:=
 ∀(pins:List (Addr×Obj)) (s:Shared) (σ:St) (H:Hp) (o i v:V) (ov iv u:Value) (Q:Hp->Prop),Inv X pins σ H s->RelV o ov->RelV i iv->RelV v u->t o i v H Q->
  wpAny (model X.prog X.w) X.A (setItem ov iv u) (fun _ s'=>∃H',Inv X pins σ H' s'/\Q H') X.xe s
abbrev TIp:=V->V->Hp->VK->Prop
def Ci(X:Cx)(op:Operator)(t:TIp):Prop:=
 ∀(pins:List (Addr×Obj)) (s:Shared) (σ:St) (H:Hp) (x y:V) (v u:Value) (Q:VK),Inv X pins σ H s->RelV x v->RelV y u->t x y H Q->
  wpAny (model X.prog X.w) X.A (inplaceOp op v u) (EP X pins σ Q) X.xe s
section
variable {X:Cx}{pos:Pos}
def zN(i:Nat):TG:=fun v σ H Q=>Q (σ.set i (some v)) H
theorem xy{i:Nat}{x:Str}(hN:X.N.Nodup)(hi:X.N[i]?=some x)(hx:xg X.env.scope x)(hf:X.fn x=true\/X.env.scope.names.lookup x=some .local:=by first|exact .inl rfl|exact .inr rfl|assumption):PG X (.Name x pos) (zN i):=by
 intro pins s σ H v u Q I r h;exact wpAny_assign_Name (store_ok I hN hi hx r (fun s' I'=>⟨_,H,I',h⟩) hf)
def gNil:zH:=fun vs σ H Q=>vs=[]/\Q σ H
def DR(t:TG)(u:zH):zH:=fun vs σ H Q=>∃v r,vs=v::r/\t v σ H fun σ' H'=>u r σ' H' Q
theorem xB:Af X [] gNil:=by
 intro pins s σ H vs us Q I r h;obtain ⟨e,h⟩:=h;subst e;cases r;exact assignInOrder_nil ⟨σ,H,I,h⟩
theorem wZ{e:Expr}{es:List Expr}{t:TG}{u:zH}(h1:PG X e t)(h2:Af X es u)
  (hs:(assignEach (e::es) X.env).map (·.2)=assign e X.env::(assignEach es X.env).map (·.2):=by rfl):Af X (e::es) (DR t u):=by
 intro pins s σ H vs us Q I r h;obtain ⟨v,vr,e1,h⟩:=h;subst e1;cases r with
 |cons r rr=>
  rw [hs];refine assignInOrder_cons (thn (h1 pins s σ H _ _ _ I r h) fun _ s1 ⟨σ1,H1,I1,q1⟩=>?_);exact h2 pins s1 σ1 H1 _ _ Q I1 rr q1
def gTup(K:W.Frag)(n:Nat)(t:zH):TG:=fun v σ H Q=>∃a xs,v=.ref a/\gE K H a xs/\xs.length=n/\t xs σ H Q
theorem C6{es:List Expr}{k:Nat}{t:zH}{n:Nat}(hc:X.calm=true)(h:Af X es t)
  (hn:(assignEach es X.env).length=n:=by rfl) (hst:(assignEach es X.env).findIdx? (·.1)=none:=by rfl):PG X (.Tuple es k pos) (gTup X.K n t):=by
 intro pins s σ H v u Q I r hw;obtain ⟨a,xs,e1,hq,hl,hw⟩:=hw;subst e1;cases r;obtain ⟨its,rv,ht,hz⟩:=I.tuple hq;refine assign_Tuple_tuple (I.ok.hd hc) ht (by simp [hn,<- hl,rv.length]) hst fun h' hx=>?_
 have I1:Inv X pins σ H { s with heap:=h' }:=I.kept (t':=s.toks) fun b o e=>hx b o (Nat.ne_of_lt (Heap.lt_size e)) e;exact h pins _ σ H xs _ Q I1 (by simpa using rv) hw
def gSub(to ti:TE)(t:B0):TG:=fun v σ H Q=>to σ H fun o H1=>ti σ H1 fun i H2=>t o i v H2 fun H3=>Q σ H3
theorem BZ{o i:Expr}{to ti:TE}{t:B0}(ho:PE X o to)(hi:PE X i ti)(hs:A7 X t)
  (ha:∀v,assign (.Subscript o i pos) X.env v=(do
   let ov <- holding [v] (eval o X.env)
   let iv <- holding [v,ov] (eval i X.env)
   standAt pos
   holding [v,ov,iv] (setItem ov iv v)
   release [v,ov,iv] []):=by intro _;rfl):PG X (.Subscript o i pos) (gSub to ti t):=by
 intro pins s σ H v u Q I r h;rw [ha];refine wpAny_bind (wpAny_holding (thn (ho pins s σ H _ I h) fun ov s1 ⟨x,H1,I1,r1,q1⟩=>?_));refine wpAny_bind (wpAny_holding (thn (hi pins s1 σ H1 _ I1 q1) fun iv s2 ⟨y,H2,I2,r2,q2⟩=>?_));refine wpAny_bind (wpAny_standAt (wpAny_bind (wpAny_holding (thn (hs pins s2 σ H2 x y v ov iv u _ I2 r1 r2 r q2) fun _ s3 ⟨H3,I3,q3⟩=>?_))));exact wpAny_release ⟨σ,H3,I3,q3⟩
def DZ(te:TE)(g:TG):TS:=fun D σ H=>te σ H fun x H1=>g x σ H1 D.nx
theorem BS{tg e:Expr}{te:TE}{g:TG}(he:PE X e te)(hg:PG X tg g)(hs:swapsWithSole [tg] e pos.line X.env=pure false:=by rfl)(hw:swappedStores [tg] e X.env=pure none:=by rfl)
  (h1:(assignEach [tg] X.env).map (·.2)=[assign tg X.env]:=by rfl):PS X (.Assign [tg] e pos) (DZ te g):=by
 intro pins s σ H D I h;refine wpAny_Assign_stores (thn (he pins s σ H _ I h) fun v s1 ⟨x,H1,I1,r1,q1⟩=>?_) hs hw;rw [h1];exact thn (hg pins s1 σ H1 x v _ I1 r1 q1) fun _ s2 q=>q
theorem Ac{i:Nat}{x:Str}{e:Expr}{te:TE}{pos':Pos}(hN:X.N.Nodup)(hi:X.N[i]?=some x)(hx:xg X.env.scope x)(he:PE X e te)(hs:swapsWith e (some (.Name x pos')) pos.line X.env=pure false:=by rfl)(hf:X.fn x=true\/X.env.scope.names.lookup x=some .local:=by first|exact .inl rfl|exact .inr rfl|assumption):
  PS X (.Assign [.Name x pos'] e pos) (DZ te (zN i)):=by
 intro pins s σ H D I h;refine wpAny_Assign_Name (thn (he pins s σ H _ I h) fun v s1 ⟨y,H1,I1,r1,q1⟩=>?_) hs;exact store_ok I1 hN hi hx r1 (fun s2 I2=>⟨_,H1,I2,q1⟩) hf
def tAug(i:Nat)(te:TE)(ti:TIp):TS:=fun D σ H=>∃x,σ[i]?=some (some x)/\te σ H fun y H1=>ti x y H1 fun z H2=>D.nx (σ.set i (some z)) H2
theorem Am{i:Nat}{x:Str}{e:Expr}{te:TE}{op:Operator}{ti:TIp}{pos':Pos}(hN:X.N.Nodup)(hi:X.N[i]?=some x)(hx:xg X.env.scope x)(he:PE X e te)(ho:Ci X op ti)(hf:X.fn x=true\/X.env.scope.names.lookup x=some .local:=by first|exact .inl rfl|exact .inr rfl|assumption):
  PS X (.AugAssign (.Name x pos') op e pos) (tAug i te ti):=by
 intro pins s σ H D I h;obtain ⟨v,e1,h⟩:=h;obtain ⟨m,hn,hl⟩:=I.loc;have vis:Ce X.env.scope x:=by rcases hx with k|k;exact .inl k;exact .inr (.inl k)
 obtain ⟨u,r,l⟩:=hl i x v hi e1 vis;refine wpAny_AugAssign_Name ?_;have go:wpAny (model X.prog X.w) X.A (eval e X.env) (fun w s₂=>wpAny (model X.prog X.w) X.A (inplaceOp op u w) (fun r s₃=>wpAny (model X.prog X.w) X.A (storeName X.env x r) (fun _=>SP X pins D .next) X.xe s₃) X.xe s₂) X.xe s:=by
  refine thn (he pins s σ H _ I h) fun w s1 ⟨y,H1,I1,r1,q1⟩=>?_;refine thn (ho pins s1 σ H1 v y u w _ I1 r r1 q1) fun z s2 ⟨zv,H2,I2,r2,q2⟩=>?_;exact store_ok I2 hN hi hx r2 (fun s3 I3=>⟨_,H2,I3,q2⟩) hf
 rcases l with ⟨hk,hm⟩|⟨hk,c,hc,hcell⟩
 ·exact wpAny_loadName_local I.ok.kind hk hn hm go
 ·rcases hk with hk|hk
  ·exact wpAny_loadName_cell I.ok.kind hk hc hcell go
  ·rcases hx with k|k
   ·have:X.env.scope.names.lookup x=some .free:=hk
    rw [k] at this;cases this
   ·have:X.env.scope.names.lookup x=some .free:=hk
    rw [k] at this;cases this
def ipI(f:Int->Int->Int):TIp:=fun x y H Q=>∃i j,x=.int i/\y=.int j/\Q (.int (f i j)) H
theorem Bo:Ci X .Add (ipI fun i j=>i+j):=by
 intro pins s σ H x y v u Q I r1 r2 h;obtain ⟨i,j,e1,e2,q⟩:=h;subst e1;subst e2;obtain ⟨t,rfl⟩:=r1;obtain ⟨t',rfl⟩:=r2;exact iadd_int ⟨.int _,H,I.tok _,⟨_,rfl⟩,q⟩
end
section
variable {X:Cx}{pos:Pos}
def BU(c:TT)(tb:TS):TS:=fun D σ H=>∃W:Nat->St->Hp->Prop,(∃m,W m σ H)/\∀m σ H,W m σ H->
 c σ H fun b H1=>if b=true then ∃N:St->Hp->Prop,(∀σ' H',N σ' H'->∃m',m'<m/\W m' σ' H')/\tb { D with nx:=N,ct:=N,bk:=D.nx } σ H1 else D.nx σ H1
theorem u9{c:Expr}{body:List Stmt}{tc:TT}{tb:TS}(hp:PassesOwn (model X.prog X.w) X.A X.env X.xe)(hc:PT X c tc)(hb:qY X body tb):PS X (.While c body [] pos) (BU tc tb):=by
 intro pins s σ H D I h;obtain ⟨W,⟨m0,w0⟩,turn⟩:=h;refine wpAny_While (codeAny_whileLoop (fun n s'=>∃σ' H',Inv X pins σ' H' s'/\W n σ' H') ?_ m0 ⟨σ,H,I,w0⟩)
 rintro n s1 ⟨σ1,H1,I1,w1⟩
 refine wpAny_passesOwn hp (thn (hc pins s1 σ1 H1 _ I1 (turn n σ1 H1 w1)) fun b s2 ⟨H2,I2,q2⟩=>?_);cases b with
 |true=>
  obtain ⟨N,hN,q2⟩:=q2;rw [if_pos rfl];refine wpAny_passesOwn hp (thn (hb pins s2 σ1 H2 _ I2 q2) fun f s3 q3=>?_);cases f with
  |next=>
   obtain ⟨σ3,H3,I3,n3⟩:=q3;obtain ⟨m',hm,w3⟩:=hN σ3 H3 n3;exact ⟨m',hm,σ3,H3,I3,w3⟩
  |cont=>
   obtain ⟨σ3,H3,I3,n3⟩:=q3;obtain ⟨m',hm,w3⟩:=hN σ3 H3 n3;exact ⟨m',hm,σ3,H3,I3,w3⟩
  |brk=>exact q3
  |ret v=>exact q3
 |false=>
  rw [if_neg Bool.false_ne_true];exact wpAny_execs_nil ⟨σ1,H2,I2,q2⟩
end
structure It where
 go:Nat->Hp->Prop
 yld:Nat->Hp->V->Hp->Prop
 stop:Nat->Hp->Prop
def gL(X:Cx)(pins:List (Addr×Obj))(H:Hp)(b:Addr):Prop:=
 H b=none/\b≠X.env.locals/\b∉X.fs/\(b∈X.ex\/X.s₀.heap.objs.size<=b)/\(∀x c,X.env.cells.lookup x=some c->c≠b)/\∀p∈X.pn++pins,p.1≠b
theorem Inv.fpOk{X:Cx}{pins:List (Addr×Obj)}{σ:St}{H H':Hp}{s:Shared}{b:Addr}(I:Inv X pins σ H s)(hb:s.heap.objs.size<=b)(hn:H' b=none):gL X pins H' b:=by
 refine ⟨hn,Nat.ne_of_gt (Nat.lt_of_lt_of_le I.lt hb),I.nofs hb,.inr (Nat.le_trans I.sz hb),fun x c e z=>?_,fun p hp z=>?_⟩
 ·obtain ⟨v,q⟩:=I.cell x c e
  exact absurd (Nat.lt_of_lt_of_le q.lt (by rw [z];exact hb)) (Nat.lt_irrefl _)
 ·exact absurd (Nat.lt_of_lt_of_le (Heap.lt_size (I.pin p hp).1) (by rw [z];exact hb)) (Nat.lt_irrefl _)
structure Turn(P:Program)(w:World)(K:W.Frag)(tg:Expr)(J:It)(fp:List Addr)(it:Addr)(tn:Nat->Heap->Prop):Prop where
 mem:it∈fp
 obj:∀i h,tn i h->∀b∈fp,∃o,h.get? b=some o/\∀v,o.data≠.cell v
 keep:∀i h h',tn i h->(∀b∈fp,∀o,h.get? b=some o->h'.get? b=some o)->tn i h'
 item:∀(X:Cx),X.prog=P->X.w=w->X.K=K->X.calm=true->∀(i:Nat) (pins:List (Addr×Obj)) (s:Shared) (σ:St) (H:Hp) (E:Value->Shared->Prop),Inv X pins σ H s->(∀b∈fp,gL X pins H b)->tn i s.heap->J.go i H->
  wpAny (model P w) X.A (pyNext (.ref it)) (fun r s1=>∃u,r=some u/\
   wpAny (model P w) X.A (letOwnedTupleGo tg (.ref it) u) (fun _ s2=>∃x H',Inv X pins σ H' s2/\RelV x u/\J.yld i H x H'/\tn (i+1) s2.heap/\∀b∈fp,H' b=none) E s1) E s
 done:∀(X:Cx),X.prog=P->X.w=w->X.K=K->X.calm=true->∀(i:Nat) (pins:List (Addr×Obj)) (s:Shared) (σ:St) (H:Hp) (E:Value->Shared->Prop),Inv X pins σ H s->(∀b∈fp,gL X pins H b)->tn i s.heap->J.stop i H->
  wpAny (model P w) X.A (pyNext (.ref it)) (fun r s1=>r=none/\Inv X pins σ H s1) E s
 self:∀(A:Around) (i:Nat) (s:Shared) (Q:Value->Shared->Prop) (E:Value->Shared->Prop),tn i s.heap->Q (.ref it) s->wpAny (model P w) A (pyIter (.ref it)) Q E s
abbrev TI:=St->Hp->(It->Hp->Prop)->Prop
def PIE(X:Cx)(pins:List (Addr×Obj))(σ:St)(tg:Expr)(R:It->Hp->Prop)(itv:Value)(s2:Shared):Prop:=
 ∃(it:Addr) (fp:List Addr) (tn:Nat->Heap->Prop) (J:It) (H':Hp),itv=.ref it/\Inv X pins σ H' s2/\Turn X.prog X.w X.K tg J fp it tn/\tn 0 s2.heap/\(∀b∈fp,gL X pins H' b)/\R J H'
def PI(X:Cx)(tg iter:Expr)(wi:TI):Prop:=
 ∀(pins:List (Addr×Obj)) (s:Shared) (σ:St) (H:Hp) (R:It->Hp->Prop),Inv X pins σ H s->wi σ H R->
  wpAny (model X.prog X.w) X.A (eval iter X.env) (fun v s1=>wpAny (model X.prog X.w) X.A (pyIter v) (PIE X pins σ tg R) X.xe s1) X.xe s
theorem uK{M:Model}{A:Around}{E:Value->Shared->Prop}{s:Shared}{tg:Expr}{it:Addr}{u:Value}{o:Obj}{n:String}{vs:Array Value}{Q:Unit->Shared->Prop}(ho:s.heap.get? it=some o)(hc:o.cls=.type n)(hd:o.data=.fields vs)
  (hn:["enumerate","zip","dict_itemiterator","dict_reverseitemiterator","odict_iterator","itertools.zip_longest","itertools.pairwise"].contains n=false) (hQ:Q () s):wpAny M A (letOwnedTupleGo tg (.ref it) u) Q E s:=by
 unfold letOwnedTupleGo
 cases tg<;>first
  |exact wpAny_pure hQ
  |(cases u<;>first
    |exact wpAny_pure hQ
    |(refine wpAny_bind (wpAny_load ho ?_)
      rw [hc,hd];show wpAny M A (if (["enumerate","zip","dict_itemiterator","dict_reverseitemiterator","odict_iterator","itertools.zip_longest","itertools.pairwise"].contains n&&vs[0]?==some (rawInt _))=true then _ else _) Q E s
      rw [if_neg (by intro h;rw [hn,Bool.false_and] at h;cases h)]
      exact wpAny_pure hQ))
def Itl(K:W.Frag)(a:Addr):It:=
 ⟨fun i H=>∃xs x,SqL K H a xs/\xs[i]?=some x,fun i H x H'=>H'=H/\∀xs,SqL K H a xs->xs[i]?=some x,fun i H=>∃xs,SqL K H a xs/\xs.length<=i⟩
def Itt(K:W.Frag)(a:Addr):It:=
 ⟨fun i H=>∃xs x,gE K H a xs/\xs[i]?=some x,fun i H x H'=>H'=H/\∀xs,gE K H a xs->xs[i]?=some x,fun i H=>∃xs,gE K H a xs/\xs.length<=i⟩
def Itr(lo:Int)(n:Nat):It:=⟨fun i _=>i<n,fun i H x H'=>H'=H/\x=.int (lo+i),fun i _=>n<=i⟩
theorem sV{P:Program}{w:World}{K:W.Frag}{tg:Expr}(a it:Addr):Turn P w K tg (Itl K a) [it] it (fun i h=>h.IsListIter it a i) where
 mem:=by simp
 obj:=fun i h st b hb=>by
  have e:b=it:=by simpa using hb
  subst e;obtain ⟨o,e,c,d⟩:=st;exact ⟨o,e,fun v z=>by rw [d] at z;cases z⟩
 keep:=fun i h h' st k=>st.at fun o e=>k it (by simp) o e
 item:=by
  intro X hP hw hK hc i pins s σ H E I hf st hg;subst hP hw hK;obtain ⟨xs,x,hq,hx⟩:=hg;obtain ⟨its,rv,p,hz⟩:=I.list hq;obtain ⟨u,hu,ru⟩:=rv.get hx;obtain ⟨f0,f1,f2,f3,f4,f5⟩:=hf it (by simp)
  refine wpAny_pyNext_list_item st p.isList (x:=u) (by simpa using hu) fun h' st' sb=>?_
  have I1:Inv X pins σ H { s with heap:=h' }:=I.turned (t':=s.toks) (fun b o hb e=>(sb.2 b hb).trans e) f0 f1 f3 f4 f5;obtain ⟨o,e,c,d⟩:=id st';exact ⟨u,rfl,uK (s:={ s with heap:=h' }) e c d (by decide) ⟨x,H,I1,ru,⟨rfl,fun ys hy=>by rw [I.list_inj hy hq];exact hx⟩,st',fun b hb=>(hf b hb).1⟩⟩
 done:=by
  intro X hP hw hK hc i pins s σ H E I hf st hg;subst hP hw hK;obtain ⟨xs,hq,hx⟩:=hg;obtain ⟨its,rv,p,hz⟩:=I.list hq;obtain ⟨f0,f1,f2,f3,f4,f5⟩:=hf it (by simp)
  have hl:=rv.length;exact wpAny_pyNext_list_end (I.ok.hd hc) st p.isList (by simp;lia) fun h' eb=>⟨rfl,I.turned (t':=s.toks) (fun b o hb e=>eb b o hb e) f0 f1 f3 f4 f5⟩
 self:=fun _ _ _ _ _ st h=>wpAny_pyIter_listiter st h
theorem qD{P:Program}{w:World}{K:W.Frag}{tg:Expr}(a it:Addr):Turn P w K tg (Itt K a) [it] it (fun i h=>h.IsTupleIter it a i) where
 mem:=by simp
 obj:=fun i h st b hb=>by
  have e:b=it:=by simpa using hb
  subst e;obtain ⟨o,e,c,d⟩:=st;exact ⟨o,e,fun v z=>by rw [d] at z;cases z⟩
 keep:=fun i h h' st k=>st.at fun o e=>k it (by simp) o e
 item:=by
  intro X hP hw hK hc i pins s σ H E I hf st hg;subst hP hw hK;obtain ⟨xs,x,hq,hx⟩:=hg;obtain ⟨its,rv,p,hz⟩:=I.tuple hq;obtain ⟨u,hu,ru⟩:=rv.get hx;obtain ⟨f0,f1,f2,f3,f4,f5⟩:=hf it (by simp)
  refine wpAny_pyNext_tuple_item st (show s.heap.IsTuple a its.toArray from p) (x:=u) (by simpa using hu) fun h' st' sb=>?_
  have I1:Inv X pins σ H { s with heap:=h' }:=I.turned (t':=s.toks) (fun b o hb e=>(sb.2 b hb).trans e) f0 f1 f3 f4 f5;obtain ⟨o,e,c,d⟩:=id st';exact ⟨u,rfl,uK (s:={ s with heap:=h' }) e c d (by decide) ⟨x,H,I1,ru,⟨rfl,fun ys hy=>by rw [I.tuple_inj hy hq];exact hx⟩,st',fun b hb=>(hf b hb).1⟩⟩
 done:=by
  intro X hP hw hK hc i pins s σ H E I hf st hg;subst hP hw hK;obtain ⟨xs,hq,hx⟩:=hg;obtain ⟨its,rv,p,hz⟩:=I.tuple hq;obtain ⟨f0,f1,f2,f3,f4,f5⟩:=hf it (by simp)
  have hl:=rv.length;exact wpAny_pyNext_tuple_end (I.ok.hd hc) st (show s.heap.IsTuple a its.toArray from p) (by simp;lia) fun h' eb=>⟨rfl,I.turned (t':=s.toks) (fun b o hb e=>eb b o hb e) f0 f1 f3 f4 f5⟩
 self:=fun _ _ _ _ _ st h=>wpAny_pyIter_tupleiter st h
theorem pQ{P:Program}{w:World}{K:W.Frag}{tg:Expr}(it:Addr)(lo:Int)(n:Nat):Turn P w K tg (Itr lo n) [it] it (fun i h=>IsRangeIter h it (lo+(i:Nat)*1) ((n:Int)-(i:Nat)) 1) where
 mem:=by simp
 obj:=fun i h st b hb=>by
  have e:b=it:=by simpa using hb
  subst e;exact ⟨_,st,fun v z=>by
   have z':Data.fields _=Data.cell v:=z;cases z'⟩
 keep:=fun i h h' st k=>k it (by simp) _ st
 item:=by
  intro X hP hw hK hc i pins s σ H E I hf st hg;subst hP hw hK;obtain ⟨f0,f1,f2,f3,f4,f5⟩:=hf it (by simp)
  have W:=Walks.range (prog:=X.prog) (w:=X.w) (I.ok.hd hc) it lo 1 n;refine W.item i s _ _ hg st fun v h' tk hv st' kk=>?_;obtain ⟨t,rfl⟩:=hv;have I1:Inv X pins σ H { s with heap:=h',toks:=tk }:=I.turned (fun b o hb e=>kk b o (by simpa using hb) e) f0 f1 f3 f4 f5
  refine ⟨_,rfl,uK (s:={ s with heap:=h',toks:=tk }) (n:="range_iterator") st' rfl rfl (by decide) ⟨.int (lo+i),H,I1,⟨t,?_⟩,⟨rfl,rfl⟩,st',fun b hb=>(hf b hb).1⟩⟩
  rw [Int.mul_one]
 done:=by
  intro X hP hw hK hc i pins s σ H E I hf st hg;subst hP hw hK;obtain ⟨f0,f1,f2,f3,f4,f5⟩:=hf it (by simp)
  exact wpAny_pyNext_range_end (I.ok.hd hc) st (by have:n<=i:=hg;lia) fun h' eb=>⟨rfl,I.turned (t':=s.toks) (fun b o hb e=>eb b o hb e) f0 f1 f3 f4 f5⟩
 self:=fun _ _ _ _ _ st h=>wpAny_pyIter_rangeiter st h
end L2
namespace L2
open PySem PySem.Spec PyProof.Rows
section
variable {X:Cx}{tg:Expr}
theorem wX{pins:List (Addr×Obj)}{σ:St}{H:Hp}{s:Shared}{R:It->Hp->Prop}{E:Value->Shared->Prop}{lo hi:Int}{t u v:Tok}{tk:Nat}(I:Inv X pins σ H s)(h1:-(2 ^ 62)<=lo)(h2:lo<2 ^ 62)(h3:-(2 ^ 62)<=hi)(h4:hi<2 ^ 62)
  (q:R (Itr lo (hi-lo).toNat) H):wpAny (model X.prog X.w) X.A (pyIter (.ref s.heap.objs.size)) (PIE X pins σ tg R) E { s with heap:=s.heap.push { cls:=.type "range",data:=.fields #[.int lo t,.int hi u,.int 1 v] },toks:=tk }:=by
 refine wpAny_pyIter_range (IsRange.new ..) (small_one h1 h2 h3 h4) ?_;have I1:Inv X pins σ H { s with heap:=s.heap.push { cls:=.type "range",data:=.fields #[.int lo t,.int hi u,.int 1 v] },toks:=tk }:=I.kept fun b o e=>Heap.get?_push_of_some _ e;refine ⟨(s.heap.push { cls:=.type "range",data:=.fields #[.int lo t,.int hi u,.int 1 v] }).objs.size,[(s.heap.push { cls:=.type "range",data:=.fields #[.int lo t,.int hi u,.int 1 v] }).objs.size],_,_,H,rfl,
  I1.kept (t':=tk) fun b o e=>Heap.get?_push_of_some _ e,pQ _ lo (hi-lo).toNat,?_,fun b hb=>?_,q⟩
 ·have e1:lo+((0:Nat):Int)*1=lo:=by simp
  have e2:(((hi-lo).toNat:Nat):Int)-((0:Nat):Int)=Builtin.Range.rangeSize lo hi 1:=by rw [rangeSize_one];split<;>lia
  show IsRangeIter _ _ (lo+((0:Nat):Int)*1) ((((hi-lo).toNat:Nat):Int)-((0:Nat):Int)) 1;rw [e1,e2];exact Heap.get?_push_size _ rfl
 ·have e:b=(s.heap.push { cls:=.type "range",data:=.fields #[.int lo t,.int hi u,.int 1 v] }).objs.size:=by simpa using hb
  subst e;exact I1.fpOk (Nat.le_refl _) (I1.hok.fresh (Nat.le_refl _))
def CV(ta:TA):TI:=fun σ H R=>ta σ H fun vs H1=>∃j:Int,vs=[.int j]/\-(2 ^ 62)<=j/\j<2 ^ 62/\R (Itr 0 j.toNat) H1
theorem tY{a:Expr}{ta:TA}{p pos:Pos}(hg:Gl X "range")(hm:X.mg "range"=none)(ha:PA X [a] ta)(hs:starEach [a] X.env=[(false,eval a X.env)]:=by rfl):PI X tg (.Call (.Name "range" p) [a] [] pos) (CV ta):=by
 intro pins s σ H R I h;refine Call_ (ld_blt I hg hm boot_range (PyProof.Rows.callWith_type1 (thn (ha pos pins s σ H _ I h) fun us s1 ⟨vs,H1,I1,r1,q1⟩=>?_) hs rfl));obtain ⟨j,e,q1,q2,q⟩:=q1;subst e;cases r1 with
 |cons r rr=>
  cases rr;obtain ⟨t,rfl⟩:=r;exact call_range_1 (wX I1 (by lia) (by lia) q1 q2 (by simpa using q))
def tFor(wi:TI)(g:TG)(tb:TS):TS:=fun D σ H=>wi σ H fun J H1=>∃W:Nat->Nat->St->Hp->Prop,(∃m,W 0 m σ H1)/\∀i m σ H,W i m σ H->
 (J.stop i H/\D.nx σ H)\/(J.go i H/\∃N:St->Hp->Prop,(∀σ' H',N σ' H'->∃m',m'<m/\W (i+1) m' σ' H')/\∀x H',J.yld i H x H'->g x σ H' fun σ2 H2=>tb { D with nx:=N,ct:=N,bk:=D.nx } σ2 H2)
def jf(fp:List Addr)(h:Heap):List (Addr×Obj):=fp.filterMap fun b=>(h.get? b).map fun o=>(b,o)
theorem dI{fp:List Addr}{h:Heap}{b:Addr}{o:Obj}(hb:b∈fp)(e:h.get? b=some o):(b,o)∈jf fp h:=List.mem_filterMap.mpr ⟨b,hb,by rw [e];rfl⟩
theorem tG{fp:List Addr}{h:Heap}{p:Addr×Obj}(hp:p∈jf fp h):p.1∈fp/\h.get? p.1=some p.2:=by
 obtain ⟨b,hb,e⟩:=List.mem_filterMap.mp hp;cases q:h.get? b with
 |none=>rw [q] at e;cases e
 |some o=>
  rw [q] at e;have e':(b,o)=p:=Option.some.inj e;subst e';exact ⟨hb,q⟩
theorem Inv.pinned{pins:List (Addr×Obj)}{σ:St}{H:Hp}{s:Shared}{fp:List Addr}(I:Inv X pins σ H s)(hf:∀b∈fp,gL X pins H b)(ho:∀b∈fp,∃o,s.heap.get? b=some o/\∀v,o.data≠.cell v):Inv X (pins++jf fp s.heap) σ H s:=
 I.pins_of fun p hp=>(List.mem_append.mp hp).elim (fun z=>I.pin p (List.mem_append_right _ z)) fun z=>by
  obtain ⟨hb,e⟩:=tG z;obtain ⟨f0,f1,f2,_⟩:=hf p.1 hb;obtain ⟨o,e',d⟩:=ho p.1 hb;rw [e] at e';cases e';exact ⟨e,f0,f1,f2,d⟩
theorem Inv.unpinned{pins pl:List (Addr×Obj)}{σ:St}{H:Hp}{s:Shared}(I:Inv X (pins++pl) σ H s):Inv X pins σ H s:=I.pins_of fun p hp=>I.pin p (List.mem_append_right _ (List.mem_append_left _ hp))
theorem BH{iter:Expr}{body:List Stmt}{wi:TI}{g:TG}{tb:TS}{pos:Pos}(hp:PassesOwn (model X.prog X.w) X.A X.env X.xe)(hc:X.calm=true)(hi:PI X tg iter wi)(hg:PG X tg g)(hb:qY X body tb)
  (hs:∀x,foldedSetIterable iter X.env x=pure x:=by intro _;rfl):PS X (.For tg iter body [] pos) (tFor wi g tb):=by
 intro pins s σ H D I h;refine wpAny_For (thn (hi pins s σ H _ I h) fun v s1 h1=>thn h1 fun itv s2 h2=>?_) hs;obtain ⟨it,fp,tn,J,H2,e,I2,T,st2,f2,W,⟨m0,w0⟩,turn⟩:=h2;subst e
 -- what stays true of the iterator's objects through the loop
 have stat:∀{H':Hp},(∀b∈fp,H' b=none)->∀b∈fp,gL X pins H' b:=fun hn b hb=>⟨hn b hb,(f2 b hb).2⟩;refine codeAny_forLoop_any (fun n s'=>∃i σ' H',Inv X pins σ' H' s'/\tn i s'.heap/\(∀b∈fp,H' b=none)/\W i n σ' H') ?_ m0 ⟨0,σ,H2,I2,st2,fun b hb=>(f2 b hb).1,w0⟩
 rintro n s3 ⟨i,σ3,H3,I3,st3,fr3,w3⟩
 rcases turn i n σ3 H3 w3 with ⟨stop,qn⟩|⟨go,N,hN,step⟩
 ·refine wpAny_passesOwn hp (thn (T.done X rfl rfl rfl hc i pins s3 σ3 H3 X.xe I3 (stat fr3) st3 stop) fun r s4 ⟨hr,I4⟩=>?_)
  subst hr;exact wpAny_execs_nil ⟨σ3,H3,I4,qn⟩
 ·refine wpAny_passesOwn hp (thn (T.item X rfl rfl rfl hc i pins s3 σ3 H3 X.xe I3 (stat fr3) st3 go) fun r s4 ⟨u,hr,h4⟩=>?_)
  subst hr;refine wpAny_passesOwn hp (thn h4 fun _ s5 ⟨x,H5,I5,r5,y5,st5,fr5⟩=>?_);have I5':=I5.pinned (stat fr5) (T.obj _ _ st5);refine wpAny_passesOwn hp (thn (hg _ s5 σ3 H5 x u _ I5' r5 (step x H5 y5)) fun _ s6 ⟨σ6,H6,I6,q6⟩=>?_);refine wpAny_passesOwn hp (thn (hb _ s6 σ6 H6 _ I6 q6) fun f s7 q7=>?_);have again:∀{σ7:St} {H7:Hp},Inv X (pins++jf fp s5.heap) σ7 H7 s7->N σ7 H7->∃m,m<n/\∃i σ' H',Inv X pins σ' H' s7/\tn i s7.heap/\(∀b∈fp,H' b=none)/\W i m σ' H':=fun {σ7 H7} I7 n7=>by
   obtain ⟨m',hm,w7⟩:=hN σ7 H7 n7;refine ⟨m',hm,i+1,σ7,H7,I7.unpinned,T.keep _ _ _ st5 fun b hb o e=>(I7.pin (b,o) (List.mem_append_right _ (List.mem_append_right _ (dI hb e)))).1,fun b hb=>?_,w7⟩;obtain ⟨o,e,d⟩:=T.obj _ _ st5 b hb;exact (I7.pin (b,o) (List.mem_append_right _ (List.mem_append_right _ (dI hb e)))).2.1
  cases f with
  |next=>obtain ⟨σ7,H7,I7,n7⟩:=q7;exact again I7 n7
  |cont=>obtain ⟨σ7,H7,I7,n7⟩:=q7;exact again I7 n7
  |brk=>obtain ⟨σ7,H7,I7,q7⟩:=q7;exact ⟨σ7,H7,I7.unpinned,q7⟩
  |ret v=>obtain ⟨x7,σ7,H7,I7,r7,q7⟩:=q7;exact ⟨x7,σ7,H7,I7.unpinned,r7,q7⟩
end
end L2
namespace L2
open PySem PySem.Spec PyProof.Rows
abbrev R2:=V->V->Hp->VK->Prop
def d5(X:Cx)(f:Value->Value->Sem Value)(r:R2):Prop:=
 ∀(pins:List (Addr×Obj)) (s:Shared) (σ:St) (H:Hp) (x y:V) (v u:Value) (Q:VK),Inv X pins σ H s->RelV x v->RelV y u->r x y H Q->
  wpAny (model X.prog X.w) X.A (f v u) (EP X pins σ Q) X.xe s
def UnR(X:Cx)(f:Value->Sem Value)(r:V->Hp->VK->Prop):Prop:=
 ∀(pins:List (Addr×Obj)) (s:Shared) (σ:St) (H:Hp) (x:V) (v:Value) (Q:VK),Inv X pins σ H s->RelV x v->r x H Q->
  wpAny (model X.prog X.w) X.A (f v) (EP X pins σ Q) X.xe s
def bX(X:Cx)(f:Value)(r:List V->Hp->VK->Prop):Prop:=
 ∀(pins:List (Addr×Obj)) (s:Shared) (σ:St) (H:Hp) (xs:List V) (us:List Value) (Q:VK),Inv X pins σ H s->Vals xs us->r xs H Q->
  wpAny (model X.prog X.w) X.A (call f us) (EP X pins σ Q) X.xe s
def TruR(X:Cx)(r:V->Hp->(Bool->Hp->Prop)->Prop):Prop:=
 ∀(pins:List (Addr×Obj)) (s:Shared) (σ:St) (H:Hp) (x:V) (v:Value) (Q:Bool->Hp->Prop),Inv X pins σ H s->RelV x v->r x H Q->
  wpAny (model X.prog X.w) X.A (truthy v) (TP X pins σ Q) X.xe s
def Di(r:R2)(ta tb:TE):TE:=fun σ H Q=>ta σ H fun x H1=>tb σ H1 fun y H2=>r x y H2 Q
def tUn(r:V->Hp->VK->Prop)(ta:TE):TE:=fun σ H Q=>ta σ H fun x H1=>r x H1 Q
def rI(C:Int->Int->Prop)(g:Int->Int->V):R2:=fun x y H Q=>∃i j,x=.int i/\y=.int j/\C i j/\Q (g i j) H
def zF(g:Int->Int->V):R2:=fun x y H Q=>∃i j,x=.int i/\y=.int j/\Q (g i j) H
def rU(g:Int->V):V->Hp->VK->Prop:=fun x H Q=>∃i,x=.int i/\Q (g i) H
section
variable {X:Cx}{a b c:Expr}{ta tb tc:TE}{pos:Pos}
theorem binT(ha:PE X a ta)(hb:PE X b tb){pins:List (Addr×Obj)}{s:Shared}{σ:St}{H:Hp}{R:V->V->Hp->Prop}(I:Inv X pins σ H s)
  (h:ta σ H fun x H1=>tb σ H1 fun y H2=>R x y H2) {Q:Value->Shared->Prop} {f:Value->Value->Sem Value}
  (hf:∀v u s2 x y H2,Inv X pins σ H2 s2->RelV x v->RelV y u->R x y H2->wpAny (model X.prog X.w) X.A (f v u) Q X.xe s2):
  wpAny (model X.prog X.w) X.A (eval a X.env) (fun v s₁=>wpAny (model X.prog X.w) X.A (eval b X.env) (fun u s₂=>wpAny (model X.prog X.w) X.A (f v u) Q X.xe s₂) X.xe s₁) X.xe s:=by
 refine thn (ha pins s σ H _ I h) fun v s1 ⟨x,H1,I1,r1,q1⟩=>?_;refine thn (hb pins s1 σ H1 _ I1 q1) fun u s2 ⟨y,H2,I2,r2,q2⟩=>?_;exact hf v u s2 x y H2 I2 r1 r2 q2
theorem Ei{op:Operator}{r:R2}(ho:d5 X (binaryOp op) r)(ha:PE X a ta)(hb:PE X b tb):PE X (.BinOp a op b pos) (Di r ta tb):=by
 intro pins s σ H Q I h;exact wpAny_BinOp (binT ha hb I h fun v u s2 x y H2 I2 rx ry q=>ho pins s2 σ H2 x y v u Q I2 rx ry q)
theorem D6{op:UnaryOp}{r:V->Hp->VK->Prop}(ho:UnR X (unaryOp op) r)(ha:PE X a ta):PE X (.UnaryOp op a pos) (tUn r ta):=by
 intro pins s σ H Q I h;exact UnaryOp_ (thn (ha pins s σ H _ I h) fun v s1 ⟨x,H1,I1,r1,q1⟩=>ho pins s1 σ H1 x v Q I1 r1 q1)
theorem opI{f:Value->Value->Sem Value}{C:Int->Int->Prop}{g:Int->Int->Int}
  (rule:∀(i j:Int) (t u:Tok) (s:Shared) (Q:Value->Shared->Prop) (E:Value->Shared->Prop),C i j->Q (.int (g i j) s.toks) { s with toks:=s.toks+1 }->wpAny (model X.prog X.w) X.A (f (.int i t) (.int j u)) Q E s):
  d5 X f (rI C fun i j=>.int (g i j)):=by
 intro pins s σ H x y v u Q I rx ry h;obtain ⟨i,j,rfl,rfl,hc,q⟩:=h;obtain ⟨t,rfl⟩:=rx;obtain ⟨t',rfl⟩:=ry;exact rule i j t t' s _ _ hc ⟨.int (g i j),H,I.tok _,⟨_,rfl⟩,q⟩
theorem Du{f:Value->Value->Sem Value}{g:Int->Int->Int}
  (rule:∀(i j:Int) (t u:Tok) (s:Shared) (Q:Value->Shared->Prop) (E:Value->Shared->Prop),Q (.int (g i j) s.toks) { s with toks:=s.toks+1 }->wpAny (model X.prog X.w) X.A (f (.int i t) (.int j u)) Q E s):
  d5 X f (zF fun i j=>.int (g i j)):=by
 intro pins s σ H x y v u Q I rx ry h;obtain ⟨i,j,rfl,rfl,q⟩:=h;obtain ⟨t,rfl⟩:=rx;obtain ⟨t',rfl⟩:=ry;exact rule i j t t' s _ _ ⟨.int (g i j),H,I.tok _,⟨_,rfl⟩,q⟩
theorem Ah{f:Value->Value->Sem Value}{g:Int->Int->Bool}
  (rule:∀(i j:Int) (t u:Tok) (s:Shared) (Q:Value->Shared->Prop) (E:Value->Shared->Prop),Q (.bool (g i j)) s->wpAny (model X.prog X.w) X.A (f (.int i t) (.int j u)) Q E s):
  d5 X f (zF fun i j=>.bl (g i j)):=by
 intro pins s σ H x y v u Q I rx ry h;obtain ⟨i,j,rfl,rfl,q⟩:=h;obtain ⟨t,rfl⟩:=rx;obtain ⟨t',rfl⟩:=ry;exact rule i j t t' s _ _ ⟨.bl (g i j),H,I,rfl,q⟩
def Dt(i j:Int):Prop:=0<=j/\j<=1000000/\i.natAbs<2 ^ 64
def CMul(i j:Int):Prop:=(-(2 ^ 64)<i/\i<2 ^ 64)\/(-(2 ^ 64)<j/\j<2 ^ 64)
theorem CMul.ok{i j:Int}(h:CMul i j):IntMulOk i j:=by
 rcases h with ⟨h1,h2⟩|⟨h1,h2⟩
 ·exact .of_left (intBits_le_64 h1 h2)
 ·exact .of_right (intBits_le_64 h1 h2)
theorem BM:d5 X (binaryOp .Add) (zF fun i j=>.int (i+j)):=Du fun _ _ _ _ _ _ _ q=>add_int q
theorem BB:d5 X (binaryOp .Sub) (zF fun i j=>.int (i-j)):=Du fun _ _ _ _ _ _ _ q=>sub_int q
theorem AL:d5 X (binaryOp .Mult) (rI CMul fun i j=>.int (i*j)):=opI fun _ _ _ _ _ _ _ hc q=>mul_int q hc.ok
theorem C5:d5 X (binaryOp .Mod) (rI (fun _ j=>0<j) fun i j=>.int (i % j)):=opI fun i j _ _ _ _ _ hc q=>by
 have h1:(0:Int)<j:=hc;exact mod_int' (by lia) (by rw [Int.fmod_eq_emod_of_nonneg i (by lia)];exact q)
theorem BY:d5 X (binaryOp .Pow) (rI Dt fun i j=>.int (i ^ j.toNat)):=opI fun _ _ _ _ _ _ _ hc q=>pow_int_small hc.1 hc.2.1 hc.2.2 q
theorem unI{f:Value->Sem Value}{g:Int->Int}
  (rule:∀(i:Int) (t:Tok) (s:Shared) (Q:Value->Shared->Prop) (E:Value->Shared->Prop),Q (.int (g i) s.toks) { s with toks:=s.toks+1 }->wpAny (model X.prog X.w) X.A (f (.int i t)) Q E s):
  UnR X f (rU fun i=>.int (g i)):=by
 intro pins s σ H x v Q I rx h;obtain ⟨i,rfl,q⟩:=h;obtain ⟨t,rfl⟩:=rx;exact rule i t s _ _ ⟨.int (g i),H,I.tok _,⟨_,rfl⟩,q⟩
theorem B4:UnR X (unaryOp .USub) (rU fun i=>.int (-i)):=unI fun _ _ _ _ _ q=>neg_int q
end
section
variable {X:Cx}{a b c:Expr}{ta tb tc:TE}{pos:Pos}
theorem lf{pins:List (Addr×Obj)}{σ:St}{H:Hp}{s:Shared}{Q:VK}{k k':Bool}(I:Inv X pins σ H s)(q:Q (.bl k) H)(e:k=k'):EP X pins σ Q (.bool k') s:=by
 subst e;exact ⟨.bl k,H,I,rfl,q⟩
theorem CP:d5 X (compareOp .Lt) (zF fun i j=>.bl (decide (i<j))):=Ah fun _ _ _ _ _ _ _ q=>lt_int q
theorem Dv:d5 X (compareOp .Gt) (zF fun i j=>.bl (decide (j<i))):=Ah fun _ _ _ _ _ _ _ q=>gt_int q
theorem Cz:d5 X (compareOp .GtE) (zF fun i j=>.bl (decide (j<=i))):=Ah fun _ _ _ _ _ _ _ q=>ge_int q
theorem AY:d5 X (compareOp .Is) (fun x y H Q=>y=.non/\Q (.bl (decide (x=.non))) H):=by
 intro pins s σ H x y v u Q I rx ry h;obtain ⟨rfl,q⟩:=h;cases ry;refine is_none_gen (lf I q ?_)
 cases x<;>first
  |(cases rx;rfl)
  |(obtain ⟨t,rfl⟩:=rx;rfl)
theorem yS:d5 X (compareOp .IsNot) (fun x y H Q=>y=.non/\Q (.bl (!decide (x=.non))) H):=by
 intro pins s σ H x y v u Q I rx ry h;obtain ⟨rfl,q⟩:=h;cases ry;refine isnot_none_gen (lf I q ?_)
 cases x<;>first
  |(cases rx;rfl)
  |(obtain ⟨t,rfl⟩:=rx;rfl)
theorem aF(b:Expr){op:CmpOp}(h:op≠.In:=by decide)(h2:op≠.NotIn:=by decide):behindInMarks op b=false:=by
 have e1:(op==CmpOp.In)=false:=by cases op<;>first|rfl|exact absurd rfl h
 have e2:(op==CmpOp.NotIn)=false:=by cases op<;>first|rfl|exact absurd rfl h2
 cases b<;>simp [behindInMarks,e1,e2]
theorem yJ{op:CmpOp}{r:R2}(ho:d5 X (compareOp op) r)(ha:PE X a ta)(hb:PE X b tb)(hm:behindInMarks op b=false):PE X (.Compare a [op] [b] pos) (Di r ta tb):=by
 intro pins s σ H Q I h;exact wpAny_Compare1 (binT ha hb I h fun v u s2 x y H2 I2 rx ry q=>ho pins s2 σ H2 x y v u Q I2 rx ry q) hm
def Dk(t:TE):TT:=fun σ H Q=>t σ H fun x H'=>∃k,x=.bl k/\Q k H'
theorem xr{op:CmpOp}{r:R2}(ho:d5 X (compareOp op) r)(ha:PE X a ta)(hb:PE X b tb)(hm:behindInMarks op b=false):PT X (.Compare a [op] [b] pos) (Dk (Di r ta tb)):=by
 intro pins s σ H Q I h;refine wpAny_isTrue_Compare1 (thn (ha pins s σ H _ I h) fun v s1 ⟨x,H1,I1,r1,q1⟩=>thn (hb pins s1 σ H1 _ I1 q1) fun u s2 ⟨y,H2,I2,r2,q2⟩=>
  thn (ho pins s2 σ H2 x y v u _ I2 r1 r2 q2) fun c s3 ⟨z,H3,I3,r3,k,e,q3⟩=>?_) hm
 subst e;cases r3;exact wpAny_truthy_bool ⟨H3,I3,q3⟩
def Ap(K:W.Frag)(x:V)(H:Hp)(k:Bool):Prop:=
 match x with
 |.non=>k=false
 |.bl b=>k=b
 |.int i=>k=(i != 0)
 |.str y=>y.length<=sizeLine/\k=((y.length:Int) != 0)
 |.byt y=>y.size<=sizeLine/\k=((y.size:Int) != 0)
 |.ref p=>(∃xs,SqL K H p xs/\k=!xs.isEmpty)\/(∃xs,gE K H p xs/\k=!xs.isEmpty)\/∃kvs,H p=some (.dK kvs)/\k=!kvs.isEmpty
 |_=>False
theorem qt{κ:Type}{kvs:List (κ×V)}{vs:List (κ×Value)}(r:KV kvs vs):(!vs.isEmpty)=!kvs.isEmpty:=by
 cases r<;>rfl
theorem jV{xs:List V}{its:List Value}(r:Vals xs its):(!its.toArray.isEmpty)=!xs.isEmpty:=by
 cases r<;>simp
theorem fI:(sizeLine:Nat)<2 ^ 63:=by rw [sizeLine_eq];decide
theorem B5:TruR X (fun x H Q=>∃k,Ap X.K x H k/\Q k H):=by
 intro pins s σ H x v Q I rx h;obtain ⟨k,e,q⟩:=h;have hl:=fI;have hs:sizeLine=16777216:=sizeLine_eq;cases x with
 |non=>
  cases rx;have e':k=false:=e;subst e';exact truthy_none ⟨H,I,q⟩
 |bl b=>
  cases rx;have e':k=b:=e;subst e';exact wpAny_truthy_bool ⟨H,I,q⟩
 |int i=>
  obtain ⟨t,rfl⟩:=rx;have e':k=(i != 0):=e;subst e';exact PySem.P.truthy_int ⟨H,I,q⟩
 |str y=>
  obtain ⟨t,rfl⟩:=rx;obtain ⟨hy,e'⟩:y.length<=sizeLine/\k=((y.length:Int) != 0):=e;subst e';exact PySem.P.truthy_str (by lia) ⟨H,I.tok _,q⟩
 |byt y=>
  obtain ⟨t,rfl⟩:=rx;obtain ⟨hy,e'⟩:y.size<=sizeLine/\k=((y.size:Int) != 0):=e;subst e';exact W.truthy_bytes (by lia) ⟨H,I.tok _,q⟩
 |ref p=>
  cases rx;have e':(∃xs,SqL X.K H p xs/\k=!xs.isEmpty)\/(∃xs,gE X.K H p xs/\k=!xs.isEmpty)\/∃kvs,H p=some (.dK kvs)/\k=!kvs.isEmpty:=e;rcases e' with ⟨xs,hx,e'⟩|⟨xs,hx,e'⟩|⟨kvs,hx,e'⟩
  ·subst e'
   obtain ⟨its,r,pl,hz⟩:=I.list hx;have hlen:=r.length;exact wpAny_truthy_list pl.isList (by simp only [List.size_toArray];lia) ⟨H,I.tok _,by rw [jV r];exact q⟩
  ·subst e'
   obtain ⟨its,r,pl,hz⟩:=I.tuple hx;have hlen:=r.length;exact truthy_tuple pl (by simp only [List.size_toArray];lia) ⟨H,I.tok _,by rw [jV r];exact q⟩
  ·subst e'
   obtain ⟨hz,hS,vs,r,m⟩:kvs.length<=sizeLine/\(p==sysModules)=false/\∃vs,KV kvs vs/\s.heap.DictOf (aO X.prog X.w) p vs:=I.hok p _ hx;have hlen:kvs.length=vs.length:=Paired.length r;exact wpAny_truthy_dict hS m (by lia) ⟨H,I.tok _,by rw [qt r];exact q⟩
 |_=>exact (show False from e).elim
theorem x9(ha:PE X a ta)(he:∀whole,isTrue a X.env whole=(do let v <- whole;standAt a.pos;holding [v] (truthy v))):
  PT X a (fun σ H Q=>ta σ H fun x H'=>∃k,Ap X.K x H' k/\Q k H'):=by
 intro pins s σ H Q I h;exact isTrue_plain (thn (ha pins s σ H _ I h) fun v s1 ⟨x,H1,I1,r1,q1⟩=>B5 pins s1 σ H1 x v Q I1 r1 q1) (he _)
theorem qi:d5 X (binaryOp .Add) (fun x y H Q=>∃i j,x=.str i/\y=.str j/\i.length+j.length<=sizeLine/\Q (.str (i++j)) H):=by
 intro pins s σ H x y v u Q I rx ry h;obtain ⟨i,j,rfl,rfl,hz,q⟩:=h;obtain ⟨t,rfl⟩:=rx;obtain ⟨t',rfl⟩:=ry;exact add_str (fun t' tk=>⟨.str (i++j),H,I.tok _,⟨_,rfl⟩,q⟩) hz
theorem fT{x:V}{us:List Value}(r:Vals [x] us):∃u,us=[u]/\RelV x u:=by
 cases r with
 |cons r1 r2=>cases r2;exact ⟨_,rfl,r1⟩
end
end L2
namespace L2
open PySem PySem.Spec PyProof.Rows
structure ObjM(h:Heap)(x dx C:Addr)(mA:Str->Option Value):Prop where
 obj:h.get? x=some (W.instObj C dx)
 ns:h.Ns1 dx mA
 ne:dx≠x
theorem tK{h:Heap}{dx:Addr}{mA:Str->Option Value}(n:h.Ns1 dx mA):∃od,h.get? dx=some od/\∀name,W.lookIn name od=some (mA name):=by
 obtain ⟨o,es,ep,ho,hd,hk,_,hm⟩:=n;refine ⟨o,ho,fun name=>?_⟩;have e:=hm name;unfold nsFind findBy at e;rw [<- Array.find?_toList] at e;unfold W.lookIn;rw [hd];dsimp only
 split
 ·rename_i y q
  rw [q] at e;exact congrArg some e
 ·rename_i q
  rw [q] at e;have a:es.toList.any (·.refKey)=false:=by
   rw [List.any_eq_false];intro y hy;obtain ⟨z,t,hkey⟩:=hk y (Array.mem_toList_iff.mp hy);simp [DictEntry.refKey,hkey]
  have a':¬es.toList.any (·.refKey)=true:=by rw [a];exact Bool.false_ne_true
  rw [if_neg a'];exact congrArg some e
theorem ObjM.look{h:Heap}{x dx C:Addr}{mA:Str->Option Value}(I:ObjM h x dx C mA):∃od,W.InstAt h x (W.instObj C dx) C (some od)/\∀name,W.lookIn name od=some (mA name):=
 let ⟨od,ho,hl⟩:=tK I.ns
 ⟨od,⟨I.obj,rfl,rfl,ho⟩,hl⟩
section
variable {prog:Program}{w:World}{A:Around}{E:Value->Shared->Prop}{s:Shared}{K:W.Frag}{x dx C f:Addr}{mA:Str->Option Value}{name:Str}{v:Value}
theorem yi{expr:Bool}{Q:Value->Shared->Prop}(X:K.In s.heap)(I:ObjM s.heap x dx C mA)(hg:W.plainGet K C name=true)(hh:W.hasDictIn K C=true)
  (ha:W.findIn K (.ref C) name=some none) (hv:mA name=some v) (hv':W.handedIn v=true) (h:Q v { s with toks:=s.toks+1 }):
  wpAny (model prog w) A (getAttr (.ref x) name expr) Q E s:=by
 obtain ⟨od,J,hl⟩:=I.look;exact W.get_value X J (W.plainGet_of hg).1 (W.findObj_own hh ha rfl (by rw [hl,hv])) hv' h
theorem ur{pl:Sem Bool}{Q:Value×List Value->Shared->Prop}(X:K.In s.heap)(I:ObjM s.heap x dx C mA)(hg:W.plainGet K C name=true)
  (hf:W.findIn K (.ref C) name=some (some (.ref f))) (ht:W.isFn K (.ref f)=true) (hv:mA name=none) (h:Q (.ref f,[.ref x]) s):
  wpAny (model prog w) A (getMethod (.ref x) name pl) Q E s:=by
 obtain ⟨od,J,hl⟩:=I.look;exact W.method_fn X J (W.plainGet_of hg).1 (W.plainGet_of hg).2 hf (beq_iff_eq.mp ht) (by show (W.lookIn name od).map (·.isSome)=some false;rw [hl,hv];rfl) h
theorem yn{ns:List Str}{Q:Unit->Shared->Prop}(X:K.In s.heap)(I:ObjM s.heap x dx C mA)
  (hs:W.findIn K (.ref C) "__setattr__"=some (some (.builtin "object.__setattr__"))) (hp:W.plainOver K C=true) (ht:W.takerIn K C name=some none) (hh:W.hasDictIn K C=true)
  (hw:PySem.Within mA ns) (hsz:ns.length<=sizeLine)
  (h:∀h',ObjM h' x dx C (fun y=>if y=name then some v else mA y)->Heap.SameBut dx s.heap h'->Q () { s with heap:=h',toks:=s.toks+2 }):
  wpAny (model prog w) A (setAttr (.ref x) name v) Q E s:=by
 obtain ⟨od,J,hl⟩:=I.look;refine W.set_plain X J hs (W.osa_open (s:={ s with toks:=s.toks+1 }) (r:=none) X J hp ht fun b=>?_);obtain ⟨cd,hc,hd'⟩:=W.any_some hh;have hx:s.heap.get? x=some ⟨.ref C,some dx,.plain,#[]⟩:=I.obj;refine wpAny_bind (wpAny_pure (wpAny_bind (wpAny_bind (wpAny_loadPart hx (wpAny_bind (W.Looks.here (s:={ s with toks:=s.toks+1 }) (W.looks_clsIn X hc) ?_))))));rw [hd'];refine wpAny_pure (a:=some dx) (wpAny_bind (wpAny_pure (wpAny_bind ?_)));refine wpAny_nsSet1 (s:={ s with toks:=s.toks+1 }) I.ns fun h' hn2 hs2=>?_;obtain ⟨oD,esD,epD,hoD,hdD,hcD⟩:=hn2.count (PySem.Within.cons name v hw);refine wpAny_bind (wpAny_lookBehind hoD (by rw [hdD];exact pastItsLine_dict (Nat.le_trans hcD (by rw [List.length_cons];lia))) ?_)
 exact wpAny_pure (h _ ⟨(hs2.2 _ (Ne.symm I.ne)).trans I.obj,hn2,I.ne⟩ hs2)
theorem uJ{R:Result->Shared->Prop}{vs:List Value}{kw:List (Str×Value)}(X:K.In s.heap)(hm:W.makesIn K C=true)
  (hi:W.findIn K (.ref C) "__init__"=some (some (.ref f))) (hf:W.typeIn K (.ref f)=some (.type "function"))
  (h:codeAny (model prog w) (A.under (.builtin "type.__call__" ⟨.ref C::vs,kw⟩)) (.call (.ref f) ⟨.ref (s.heap.objs.size+1)::vs,kw⟩) (W.InitBack (s.heap.objs.size+1) R)
   { s with heap:=(s.heap.push W.emptyDict).push (W.instObj C s.heap.objs.size) }):
  codeAny (model prog w) A (.call (.ref C) ⟨vs,kw⟩) R s:=by
 obtain ⟨hh,g,d,t,os⟩:=s;exact W.make_core (W.makes_of X hm) (W.looks_findIn X hi) (fun self=>W.bind_fn X self hf) (.inl rfl) h
end
def d8(f:Str)(v:V):List (Str×V)->List (Str×V)
 |[]=>[(f,v)]
 |(g,x)::r=>if g=f then (g,v)::r else (g,x)::d8 f v r
theorem ic(f g:Str)(v:V):∀fs:List (Str×V),(d8 f v fs).lookup g=if g=f then some v else fs.lookup g
 |[]=>by
  show List.lookup g [(f,v)]=_
  by_cases h:g=f
  ·have hb:(g==f)=true:=beq_iff_eq.mpr h
   simp only [List.lookup,hb,if_pos h]
  ·have hb:(g==f)=false:=beq_eq_false_iff_ne.mpr h
   simp only [List.lookup,hb,if_neg h]
 |(k,x)::r=>by
  have ih:=ic f g v r;rw [show d8 f v ((k,x)::r)=(if k=f then (k,v)::r else (k,x)::d8 f v r) from rfl]
  by_cases hk:k=f
  ·rw [if_pos hk]
   by_cases h:g=k
   ·have hb:(g==k)=true:=beq_iff_eq.mpr h
    simp only [List.lookup,hb,if_pos (h.trans hk)]
   ·have hb:(g==k)=false:=beq_eq_false_iff_ne.mpr h
    simp only [List.lookup,hb,if_neg (fun e:g=f=>h (e.trans hk.symm))]
  ·rw [if_neg hk]
   by_cases h:g=k
   ·have hb:(g==k)=true:=beq_iff_eq.mpr h
    simp only [List.lookup,hb,if_neg (fun e:g=f=>hk (h.symm.trans e))]
   ·have hb:(g==k)=false:=beq_eq_false_iff_ne.mpr h
    simp only [List.lookup,hb];exact ih
theorem gK(f:Str)(v:V):∀fs:List (Str×V),f∈(d8 f v fs).map (·.1)/\∀g,g∈fs.map (·.1)->g∈(d8 f v fs).map (·.1)
 |[]=>⟨by simp [d8],fun g h=>by simp at h⟩
 |(k,x)::r=>by
  obtain ⟨i1,i2⟩:=gK f v r;rw [show d8 f v ((k,x)::r)=(if k=f then (k,v)::r else (k,x)::d8 f v r) from rfl]
  by_cases hk:k=f
  ·rw [if_pos hk]
   subst hk;exact ⟨by simp,fun g h=>by simpa using h⟩
  ·rw [if_neg hk]
   refine ⟨?_,fun g h=>?_⟩
   ·rw [List.map_cons]
    exact List.mem_cons_of_mem _ i1
   ·rw [List.map_cons] at h ⊢
    rcases List.mem_cons.mp h with e|e
    ·exact List.mem_cons.mpr (.inl e)
    ·exact List.mem_cons_of_mem _ (i2 g e)
theorem ia(f:Str)(v:V):∀fs:List (Str×V),(d8 f v fs).length<=fs.length+1
 |[]=>by simp [d8]
 |(k,x)::r=>by
  have ih:=ia f v r;rw [show d8 f v ((k,x)::r)=(if k=f then (k,v)::r else (k,x)::d8 f v r) from rfl]
  by_cases hk:k=f
  ·rw [if_pos hk,List.length_cons,List.length_cons];lia
  ·rw [if_neg hk,List.length_cons,List.length_cons];lia
theorem dS{v:V}{o:Option Value}(r:RelO (some v) o):∃u,o=some u/\RelV v u:=by
 cases o with
 |none=>exact (show False from r).elim
 |some u=>exact ⟨u,rfl,r⟩
theorem mF{o:Option Value}(r:RelO none o):o=none:=by
 cases o with
 |none=>rfl
 |some u=>exact (show False from r).elim
theorem sK{v:V}{u:Value}(r:RelV v u):W.handedIn u=true:=by
 cases v with
 |non=>cases (show u=Value.none from r);rfl
 |bl b=>cases (show u=Value.bool b from r);rfl
 |int i=>obtain ⟨t,e⟩:=(show ∃t,u=Value.int i t from r);cases e;rfl
 |str x=>obtain ⟨t,e⟩:=(show ∃t,u=Value.str x t from r);cases e;rfl
 |byt b=>obtain ⟨t,e⟩:=(show ∃t,u=Value.bytes b t from r);cases e;rfl
 |flt b=>obtain ⟨t,e⟩:=(show ∃t,u=Value.float b t from r);cases e;rfl
 |ref a=>cases (show u=Value.ref a from r);rfl
 |ty n=>cases (show u=Value.type n from r);rfl
section
variable {P:Program}{w:World}{H H':Hp}{h h':Heap}{a C dx:Addr}{fs fs':List (Str×V)}
theorem j3(hok:HOk P w H h)(e:H a=some (.ins C dx fs)):∃mA,ObjM h a dx C mA/\(∀f,RelO (fs.lookup f) (mA f))/\PySem.Within mA (fs.map (·.1))/\fs.length<=1000/\H dx=some (.own a):=by
 obtain ⟨d,z,ne,ob,mA,n,r,q⟩:=(show ObjOk P w H h a (.ins C dx fs) from hok a _ e);exact ⟨mA,⟨ob,n,ne⟩,r,q,z,d⟩
end
structure Cls(K:W.Frag)(C:Addr):Prop where
 pg:W.plainGet K C Str.empty=true
 hd:W.hasDictIn K C=true
 po:W.plainOver K C=true
 sa:W.findIn K (.ref C) "__setattr__"=some (some (.builtin "object.__setattr__"))
theorem Cls.get{K:W.Frag}{C:Addr}(c:Cls K C)(f:Str):W.plainGet K C f=true:=c.pg
def NoAttr(K:W.Frag)(C:Addr)(f:Str):Prop:=W.findIn K (.ref C) f=some none
theorem NoAttr.taker{K:W.Frag}{C:Addr}{f:Str}(n:NoAttr K C f):W.takerIn K C f=some none:=by
 unfold W.takerIn;rw [show W.findIn K (.ref C) f=some none from n];rfl
structure Meth(K:W.Frag)(C:Addr)(m:Str)(f:Addr):Prop where
 at_:W.findIn K (.ref C) m=some (some (.ref f))
 fn:W.isFn K (.ref f)=true
 kp:W.keepIn K (.ref f)=true
section
variable {X:Cx}{pins:List (Addr×Obj)}{σ:St}{H:Hp}{s:Shared}{a C dx:Addr}{fs:List (Str×V)}{f:Str}{v:V}{A:Around}{E:Value->Shared->Prop}
theorem pA{b:Bool}{Q:Value->Shared->Prop}(I:Inv X pins σ H s)(e:H a=some (.ins C dx fs))(c:Cls X.K C)(n:NoAttr X.K C f)(l:fs.lookup f=some v)
  (h:∀u s',Inv X pins σ H s'->RelV v u->Q u s'):wpAny (model X.prog X.w) A (getAttr (.ref a) f b) Q E s:=by
 obtain ⟨mA,O,r,_,_,_⟩:=j3 I.hok e;obtain ⟨u,hu,ru⟩:=dS (v:=v) (o:=mA f) (by rw [<- l];exact r f)
 exact yi I.kIn O (c.get f) c.hd n hu (sK ru) (h u _ (I.tok _) ru)
theorem ql{m:Str}{g:Addr}{pl:Sem Bool}{Q:Value×List Value->Shared->Prop}(I:Inv X pins σ H s)(e:H a=some (.ins C dx fs))(c:Cls X.K C)(k:Meth X.K C m g)(l:fs.lookup m=none)
  (h:Q (.ref g,[.ref a]) s):wpAny (model X.prog X.w) A (getMethod (.ref a) m pl) Q E s:=by
 obtain ⟨mA,O,r,_,_,_⟩:=j3 I.hok e;have hn:mA m=none:=mF (by rw [<- l];exact r m)
 exact ur I.kIn O (c.get m) k.at_ k.fn hn h
theorem pW{y:V}{u:Value}{Q:Unit->Shared->Prop}(I:Inv X pins σ H s)(e:H a=some (.ins C dx fs))(c:Cls X.K C)(n:NoAttr X.K C f)(hl:fs.length<1000)(ry:RelV y u)
  (h:∀s',Inv X pins σ (upd H a (.ins C dx (d8 f y fs))) s'->Q () s'):wpAny (model X.prog X.w) A (setAttr (.ref a) f u) Q E s:=by
 obtain ⟨mA,O,r,wi,_,ho⟩:=j3 I.hok e;have hz:(fs.map (·.1)).length<=sizeLine:=by rw [List.length_map,sizeLine_eq];lia
 refine yn I.kIn O c.sa c.po n.taker c.hd wi hz fun h' O' sb=>h _ ?_;have hd:∃o,h'.get? dx=some o:=let ⟨o,_,_,e',_⟩:=O'.ns;⟨o,e'⟩;refine I.write (x:=a) (e:=dx) (by rw [e];exact True.intro) (.inr ho) (fun b q hb z=>(sb.2 b hb).trans z) hd ?_
 refine ⟨by rw [upd_ne O.ne];exact ho,?_,O.ne,O'.obj,_,O'.ns,fun g=>?_,fun g hg=>?_⟩
 ·have:=ia f y fs;lia
 ·show RelO ((d8 f y fs).lookup g) (if g=f then some u else mA g)
  rw [ic]
  by_cases q:g=f
  ·rw [if_pos q,if_pos q];exact ry
  ·rw [if_neg q,if_neg q];exact r g
 ·by_cases q:g=f
  ·rw [q];exact (gK f y fs).1
  ·refine (gK f y fs).2 g (wi g fun z=>hg ?_)
   show (if g=f then some u else mA g)=none
   rw [if_neg q];exact z
theorem Inv.made(I:Inv X pins σ H s):Inv X pins σ (upd (upd H s.heap.objs.size (.own (s.heap.objs.size+1))) (s.heap.objs.size+1) (.ins C s.heap.objs.size []))
  { s with heap:=(s.heap.push W.emptyDict).push (W.instObj C s.heap.objs.size) }:=by
 have e1:(s.heap.push W.emptyDict).get? s.heap.objs.size=some W.emptyDict:=Heap.get?_push_size s.heap rfl;have e2:((s.heap.push W.emptyDict).push (W.instObj C s.heap.objs.size)).get? (s.heap.objs.size+1)=some (W.instObj C s.heap.objs.size):=by
  have:=Heap.get?_push_size (s.heap.push W.emptyDict) (o:=W.instObj C s.heap.objs.size) rfl
  rwa [Heap.size_push] at this
 have e3:(s.heap.push W.emptyDict).Ns s.heap.objs.size (fun _=>none):=⟨W.emptyDict,#[],_,e1,rfl,(fun e he=>absurd he (by simp)),fun _=>rfl⟩
 have I1:=I.laid (a:=s.heap.objs.size) (o:=.own (s.heap.objs.size+1)) (h':=s.heap.push W.emptyDict) (t':=s.toks) (fun b u q=>Heap.get?_push_of_some _ q) (Nat.le_refl _) ⟨_,e1⟩;refine I1.laid (a:=s.heap.objs.size+1) (o:=.ins C s.heap.objs.size []) (t':=s.toks) (fun b u q=>Heap.get?_push_of_some _ q) (Nat.le_of_eq (Heap.size_push _ _)) ?_;have ne:s.heap.objs.size≠s.heap.objs.size+1:=Nat.ne_of_lt (Nat.lt_succ_self _);refine ⟨by rw [upd_ne ne,upd_same],Nat.zero_le _,ne,e2,fun _=>none,(Heap.Ns1.of_empty e3).at fun o q=>Heap.get?_push_of_some _ q,fun _=>True.intro,fun y hy=>absurd rfl hy⟩
theorem attr_of{prog:Program}{w:World}{env:Env}{e:Expr}{f:Str}{pos:Pos}{s:Shared}{Q:Value->Shared->Prop}(hb:attributeBase e f env (eval e env)=eval e env)
  (h:wpAny (model prog w) A (eval e env) (fun o s₁=>wpAny (model prog w) A (getAttr o f true) Q E s₁) E s):wpAny (model prog w) A (eval (.Attribute e f pos) env) Q E s:=
 Attribute_any_ h (by rw [arm_eval_Attribute,hb])
end
def tFld(K:W.Frag)(ta:TE)(f:Str):TE:=fun σ H Q=>ta σ H fun x H1=>∃a C dx fs v,x=.ref a/\H1 a=some (.ins C dx fs)/\Cls K C/\NoAttr K C f/\fs.lookup f=some v/\Q v H1
def sFld(K:W.Frag)(ta tv:TE)(f:Str):TS:=fun D σ H=>tv σ H fun y H1=>ta σ H1 fun x H2=>∃a C dx fs,x=.ref a/\H2 a=some (.ins C dx fs)/\Cls K C/\NoAttr K C f/\fs.length<1000/\
 D.nx σ (upd H2 a (.ins C dx (d8 f y fs)))
section
variable {X:Cx}{o e value:Expr}{f:Str}{pos pos' tpos:Pos}{ta tv:TE}
theorem BV(he:PE X e ta)(hb:attributeBase e f X.env (eval e X.env)=eval e X.env):PE X (.Attribute e f pos) (tFld X.K ta f):=by
 intro pins s σ H Q I h;refine attr_of hb (thn (he pins s σ H _ I h) fun u s1 zz=>?_);obtain ⟨x,H1,I1,rx,a,C,dx,fs,v,ex,ea,c,n,l,q⟩:=zz;subst ex;obtain rfl:u=Value.ref a:=rx;exact pA I1 ea c n l fun u' s2 I2 ru=>⟨v,H1,I2,ru,q⟩
theorem Ae(ha:PE X o ta)(hv:PE X value tv)(hs:swapsWith value (some (.Attribute o f pos')) pos.line X.env=pure false):PS X (.Assign [.Attribute o f pos'] value pos) (sFld X.K ta tv f):=by
 intro pins s σ H D I h;refine plainObj_wpAny_Assign_Attribute (thn (hv pins s σ H _ I h) fun u s1 ⟨y,H1,I1,ry,q⟩=>thn (ha pins s1 σ H1 _ I1 q) fun ov s2 zz=>?_) hs;obtain ⟨x,H2,I2,rx,a,C,dx,fs,ex,ea,c,n,l,q2⟩:=zz;subst ex;obtain rfl:ov=Value.ref a:=rx;exact pW I2 ea c n l ry fun s3 I3=>⟨σ,_,I3,q2⟩
end
section
variable {X:Cx}{pins:List (Addr×Obj)}{σ:St}{H:Hp}{s:Shared}{A:Around}{E:Value->Shared->Prop}{Q:Value->Shared->Prop}{c:Value}{b:Bool}
inductive TyOf(K:W.Frag)(H:Hp):V->Value->Prop where
 |non:TyOf K H .non (.type "NoneType")
 |bl (x:Bool):TyOf K H (.bl x) (.type "bool")
 |int (i:Int):TyOf K H (.int i) (.type "int")
 |str (x:Str):TyOf K H (.str x) (.type "str")
 |flt (x:UInt64):TyOf K H (.flt x) (.type "float")
 |lst {a:Addr} {xs:List V} (e:H a=some (.lst xs)):TyOf K H (.ref a) (.type "list")
 |frz {a:Addr} {o:Obj} {xs:List V} (e:H a=some (.frz o (.lst xs))):TyOf K H (.ref a) (.type "list")
 |tup {a:Addr} {xs:List V} (e:H a=some (.tup xs)):TyOf K H (.ref a) (.type "tuple")
 |dK {a:Addr} {kvs:List (au×V)} (e:H a=some (.dK kvs)):TyOf K H (.ref a) (.type "dict")
 |dT {a:Addr} {kvs:List (List au×V)} (e:H a=some (.dT kvs)):TyOf K H (.ref a) (.type "dict")
 |ins {a C dx:Addr} {fs:List (Str×V)} (e:H a=some (.ins C dx fs)) (cl:Cls K C) (ha:W.findIn K (.ref C) "__class__"=some (some (.builtin "object.__class__")))
   (hn:W.specialIn K (.builtin "object.__class__") "__get__"=some (some (.builtin "getset_descriptor.__get__"))) (htk:W.takesIn K (.builtin "object.__class__")=some true)
   (hm:W.mroIn K C (.type "object")=some true):TyOf K H (.ref a) (.ref C)
theorem tF{x:V}{u t:Value}(I:Inv X pins σ H s)(rx:RelV x u)(ty:TyOf X.K H x t)(e:W.kitOne X.K t c=some b)(h:∀tk,Q (.bool b) { s with toks:=tk }):
  wpAny (model X.prog X.w) A (call (.builtin "isinstance") [u,c]) Q E s:=by
 cases ty with
 |non=>cases (show u=Value.none from rx);exact W.kia_one W.kitx_none I.kIn True.intro e (fun z=>nomatch z) h
 |bl y=>cases (show u=Value.bool y from rx);exact W.kia_one W.kitx_bool I.kIn True.intro e (fun z=>nomatch z) h
 |int i=>obtain ⟨t,q⟩:=(show ∃t,u=Value.int i t from rx);cases q;exact W.kia_one W.kitx_int I.kIn True.intro e (fun z=>nomatch z) h
 |str y=>obtain ⟨t,q⟩:=(show ∃t,u=Value.str y t from rx);cases q;exact W.kia_one W.kitx_str I.kIn True.intro e (fun z=>nomatch z) h
 |flt y=>obtain ⟨t,q⟩:=(show ∃t,u=Value.float y t from rx);cases q;exact W.kia_one W.kitx_float I.kIn True.intro e (fun z=>nomatch z) h
 |@lst a xs ea=>
  cases (show u=Value.ref a from rx);obtain ⟨_,_,n,_,h1⟩:=(show ObjOk X.prog X.w H s.heap a (.lst xs) from I.hok a _ ea);exact W.kia_one W.kitx_list I.kIn ⟨_,h1,rfl⟩ e (fun z=>nomatch z) h
 |@frz a ob xs ea=>
  cases (show u=Value.ref a from rx);obtain ⟨_,_,_,n,_,h1⟩:=(show ObjOk X.prog X.w H s.heap a (.frz ob (.lst xs)) from I.hok a _ ea);exact W.kia_one W.kitx_list I.kIn ⟨_,h1,rfl⟩ e (fun z=>nomatch z) h
 |@tup a xs ea=>
  cases (show u=Value.ref a from rx);obtain ⟨_,_,_,p⟩:=(show ObjOk X.prog X.w H s.heap a (.tup xs) from I.hok a _ ea);obtain ⟨o,h1,⟨h2,_⟩,_⟩:=p;exact W.kia_one W.kitx_tuple I.kIn ⟨o,h1,h2⟩ e (fun z=>nomatch z) h
 |@dK a kvs ea=>
  cases (show u=Value.ref a from rx);obtain ⟨_,_,vs,_,p⟩:=(show ObjOk X.prog X.w H s.heap a (.dK kvs) from I.hok a _ ea);obtain ⟨o,es,ep,h1,h2,_⟩:=p;exact W.kia_one W.kitx_dict I.kIn ⟨o,h1,h2.1⟩ e (fun z=>nomatch z) h
 |@dT a kvs ea=>
  cases (show u=Value.ref a from rx);obtain ⟨_,_,xs,_,o,es,ep,h1,h2,_⟩:=(show ObjOk X.prog X.w H s.heap a (.dT kvs) from I.hok a _ ea);exact W.kia_one W.kitx_dict I.kIn ⟨o,h1,h2.1⟩ e (fun z=>nomatch z) h
 |@ins a C dx fs ea cl ha hn htk hm=>
  cases (show u=Value.ref a from rx);obtain ⟨mA,O,_⟩:=j3 I.hok ea;obtain ⟨od,J,_⟩:=O.look;exact W.kia_one (W.kitx_own (cl.get _) cl.hd ha hn htk hm) I.kIn J e (fun z=>nomatch z) h
end
end L2
namespace L2
open PySem PySem.Spec PyProof.Rows
structure Room(k:Nat)(A:Around):Prop where
 hd:A.handled=none
 dp:A.depth+3*k+5<recursionLimit
 un:A.units+16*k+200<cLine
 gd:A.guards=some []
theorem Room.mono{j k:Nat}{A:Around}(r:Room k A)(h:j<=k):Room j A:=⟨r.hd,by have:=r.dp;lia,by have:=r.un;lia,r.gd⟩
theorem Room.deeper{k:Nat}{A:Around}(r:Room (k+1) A)(env:Env):Room k (A.deeper env):=
 ⟨r.hd,by have:=r.dp;show A.depth+1+3*k+5<_;lia,by have:=r.un;show A.units+3+16*k+200<_;lia,r.gd⟩
theorem pq{A:Around}{C:Addr}{us:List Value}{kw:List (Str×Value)}:(A.under (.builtin "type.__call__" ⟨.ref C::us,kw⟩)).depth=A.depth+1:=by
 first|rfl|simp [Around.under,Code.weight,Code.isCreation,Code.isGuard,Code.isCaller,Code.frames,Code.isFrame,guardIds]
theorem qG{A:Around}{C:Addr}{us:List Value}{kw:List (Str×Value)}:(A.under (.builtin "type.__call__" ⟨.ref C::us,kw⟩)).units=A.units+1:=by
 first|rfl|simp [Around.under,Code.cUnits,Code.frames,Code.isFrame]
theorem og{A:Around}{C:Addr}{us:List Value}{kw:List (Str×Value)}:(A.under (.builtin "type.__call__" ⟨.ref C::us,kw⟩)).guards=A.guards:=by
 first|rfl|simp [Around.under,Code.guards,pushGuards,Code.isGuard,guardIds]
theorem Room.make{k:Nat}{A:Around}(r:Room (k+1) A)(C:Addr)(us:List Value)(kw:List (Str×Value)):Room k (A.under (.builtin "type.__call__" ⟨.ref C::us,kw⟩)):=
 ⟨r.hd,by have:=r.dp;rw [pq];lia,by have:=r.un;rw [qG];lia,by rw [og];exact r.gd⟩
theorem Room.depth{k:Nat}{A:Around}(r:Room k A):A.depth<recursionLimit:=by have:=r.dp;lia
theorem Room.units{k:Nat}{A:Around}(r:Room k A):A.units+64<cLine:=by have:=r.un;lia
def tNil:TA:=fun _ H Q=>Q [] H
def CO(ta:TE)(tr:TA):TA:=fun σ H Q=>ta σ H fun x H1=>tr σ H1 fun xs H2=>Q (x::xs) H2
section
variable {X:Cx}{e:Expr}{es:List Expr}{te:TE}{t:TA}{pos:Pos}
theorem uE:PA X [] tNil:=fun _ _ _ _ H Q I h=>Calls.spliced_nil ⟨[],H,I,.nil,h⟩
theorem qP(ha:PE X e te)(hr:PA X es t)(hs:starEach (e::es) X.env=(false,eval e X.env)::starEach es X.env:=by rfl):PA X (e::es) (CO te t):=by
 intro pos pins s σ H Q I h;rw [hs];show wpAny _ _ (spliced ((false,eval e X.env)::backTo pos (starEach es X.env))) _ _ s;refine Calls.spliced_cons (thn (ha pins s σ H _ I h) fun u s1 ⟨x,H1,I1,r1,q1⟩=>?_);exact thn (hr pos pins s1 σ H1 _ I1 q1) fun us s2 ⟨xs,H2,I2,r2,q2⟩=>⟨x::xs,H2,I2,.cons r1 r2,q2⟩
def tTup(t:TA):TE:=fun σ H Q=>t σ H fun xs H1=>xs.length<=sizeLine/\∀p,H1 p=none->Q (.ref p) (upd H1 p (.tup xs))
def tLst(t:TA):TE:=fun σ H Q=>t σ H fun xs H1=>xs.length<=sizeLine/\∀p,H1 p=none->Q (.ref p) (upd H1 p (.lst xs))
theorem BA{x1}(h:PA X es t):PE X (.Tuple es x1 pos) (tTup t):=by
 intro pins s σ H Q I hq;refine wpAny_Tuple_spliced (thn (h pos pins s σ H _ I hq) fun us s1 ⟨xs,H1,I1,r,z,q⟩=>⟨by rw [<- r.length];exact z,?_⟩)
 have hf:H1 s1.heap.objs.size=none:=I1.hok.fresh (Nat.le_refl _);refine ⟨.ref s1.heap.objs.size,upd H1 s1.heap.objs.size (.tup xs),I1.laid (t':=s1.toks) (fun b u e=>Heap.get?_push_of_some _ e) (Nat.le_refl _) ?_,rfl,q _ hf⟩;exact ⟨z,us,r,⟨_,Heap.get?_push_size _ rfl,⟨rfl,_,rfl⟩,rfl⟩⟩
theorem Bw(h:PA X es t):PE X (.List es pos) (tLst t):=by
 intro pins s σ H Q I hq;refine wpAny_List_spliced (thn (h pos pins s σ H _ I hq) fun us s1 ⟨xs,H1,I1,r,z,q⟩=>⟨by rw [<- r.length];exact z,?_⟩)
 have hf:H1 s1.heap.objs.size=none:=I1.hok.fresh (Nat.le_refl _);refine ⟨.ref s1.heap.objs.size,upd H1 s1.heap.objs.size (.lst xs),I1.laid (t':=s1.toks) (fun b u e=>Heap.get?_push_of_some _ e) (Nat.le_refl _) ?_,rfl,q _ hf⟩;exact ⟨z,us,0,r,Heap.get?_push_size _ rfl⟩
end
abbrev Sp:=List V->Hp->VK->XK->Prop
abbrev nW:=List Env->Hp->Shared->XK->Value->Shared->Prop
structure Env0(P:Program)(w:World)(K:W.Frag)(mg:Str->Option Value)(base:Heap)(A:Around)(outer:List Env)(s:Shared)(H:Hp):Prop where
 frames:A.frames=some outer
 mod:Mod K mg base
 bs:∀b o,base.get? b=some o->s.heap.get? b=some o/\H b=none
 bsz:base.objs.size<=s.heap.objs.size
 funs:s.heap.FunFrames base outer
 frf:∀b∈fc outer,H b=none
 hok:HOk P w H s.heap
 bare:AllBare s.gens
def CE(outer:List Env)(P:Program)(w:World)(H:Hp)(s:Shared)(Q:VK)(u:Value)(s':Shared):Prop:=
 ∃v H',s'.os=s.os/\AllBare s'.gens/\Un (fc outer) [] H H' s.heap s'.heap/\HOk P w H' s'.heap/\RelV v u/\Q v H'
def CR(CX:nW)(outer:List Env)(P:Program)(w:World)(H:Hp)(s:Shared)(Q:VK)(E:XK)(r:Result)(s':Shared):Prop:=
 match r with
 |.ok (.ret u)=>CE outer P w H s Q u s'
 |.ok _=>False
 |.error e=>CX outer H s E e s'
structure FnOk(P:Program)(w:World)(K:W.Frag)(mg:Str->Option Value)(base:Heap)(CX:nW)(k:Nat)(f:Addr)(fd:FuncData)(ps:List Str)(sp:Sp):Prop where
 len:∀vs H Q E,sp vs H Q E->vs.length=ps.length
 run:∀(A:Around) (outer:List Env) (s:Shared) (H:Hp) (args:Args) (us:List Value) (vs:List V) (Q:VK) (E:XK),Room k A->Env0 P w K mg base A outer s H->BindsTo s fd args (ps.zip us)->Vals vs us->sp vs H Q E->
  codeAny (model P w) A (.call (.ref f) args) (CR CX outer P w H s Q E) s
theorem FnOk.imp{P:Program}{w:World}{K:W.Frag}{mg:Str->Option Value}{base:Heap}{CX:nW}{k:Nat}{f:Addr}{fd:FuncData}{ps:List Str}{sp sp':Sp}(F:FnOk P w K mg base CX k f fd ps sp)
  (h:∀vs H Q E,sp' vs H Q E->sp vs H Q E):FnOk P w K mg base CX k f fd ps sp':=
 ⟨fun vs H Q E q=>F.len vs H Q E (h _ _ _ _ q),fun A outer s H args us vs Q E hr he hb hv hs=>F.run A outer s H args us vs Q E hr he hb hv (h _ _ _ _ hs)⟩
theorem Env0.make{P:Program}{w:World}{K:W.Frag}{mg:Str->Option Value}{base:Heap}{A:Around}{outer:List Env}{s:Shared}{H:Hp}(e:Env0 P w K mg base A outer s H)(C:Addr)(us:List Value)(kw:List (Str×Value)):
  Env0 P w K mg base (A.under (.builtin "type.__call__" ⟨.ref C::us,kw⟩)) outer s H:=⟨by first|exact e.frames|(simpa [Around.under,Code.envs,Code.isFrame,pushEnvs] using e.frames),e.mod,e.bs,e.bsz,e.funs,e.frf,e.hok,e.bare⟩
section
variable {X:Cx}{pins:List (Addr×Obj)}{σ:St}{H:Hp}{s s':Shared}
theorem Inv.env0(I:Inv X pins σ H s):Env0 X.prog X.w X.K X.mg X.base X.A X.stack s H:=
 ⟨I.ok.frames,I.ok.mod,I.bs,Nat.le_trans I.ok.bsz I.sz,I.stack,I.stkFree,I.hok,I.bare⟩
theorem Inv.after{Q:VK}{u:Value}(I:Inv X pins σ H s)(h:CE X.stack X.prog X.w H s Q u s'):EP X pins σ Q u s':=by
 obtain ⟨v,H',os,bare,un,hok,r,q⟩:=h;obtain ⟨hh,g,d,t,os'⟩:=s';obtain rfl:os'=s.os:=os;exact ⟨v,H',I.call (h':=hh) (g':=g) (d':=d) (t':=t) (ch:=[]) un hok bare (fun b z=>absurd z (by simp)),r,q⟩
end
def Eg(sp:Sp)(dvs:List V)(E:XK)(t:TA):TE:=fun σ H Q=>t σ H fun vs H1=>sp (vs++dvs) H1 Q E
def D8(C:Addr)(m:Str)(sp:Sp)(dvs:List V)(E:XK)(ta:TE)(t:TA):TE:=fun σ H Q=>ta σ H fun x H1=>∃a dx fs,x=.ref a/\H1 a=some (.ins C dx fs)/\fs.lookup m=none/\
 t σ H1 fun vs H2=>sp (x::(vs++dvs)) H2 Q E
def Dj(C:Addr)(sp:Sp)(dvs:List V)(E:XK)(t:TA):TE:=fun σ H Q=>t σ H fun vs H1=>∀x dx,H1 x=none->H1 dx=none->dx≠x->
 sp (.ref x::(vs++dvs)) (upd (upd H1 dx (.own x)) x (.ins C dx [])) (fun v H2=>v=.non/\Q (.ref x) H2) E
def Binds(K:W.Frag)(fd:FuncData)(ps:List Str)(ds:List Value):Prop:=
 ∀(s:Shared) (us:List Value),K.In s.heap->(us++ds).length=ps.length->BindsTo s fd ⟨us,[]⟩ (ps.zip (us++ds))
theorem Binds.all{K:W.Frag}{fd:FuncData}{ps:List Str}(h:∀us:List Value,us.length=ps.length->bindArgs fd ⟨us,[]⟩=pure (ps.zip us)):Binds K fd ps []:=fun s us _ hl=>by
 rw [List.append_nil] at hl ⊢;exact .of_eq (h us hl)
def d4(CX:nW)(X:Cx)(E:XK):Prop:=∀(pins:List (Addr×Obj)) (σ:St) (H:Hp) (s:Shared) (e:Value) (s':Shared),Inv X pins σ H s->CX X.stack H s E e s'->X.xe e s'
section
variable {X:Cx}{CX:nW}{k:Nat}{f C:Addr}{fd:FuncData}{ps:List Str}{sp:Sp}{dvs:List V}{ds:List Value}{E:XK}{x m:Str}{p pos apos:Pos}{e o:Expr}{es:List Expr}{ta:TE}{t:TA}
theorem vC{pins:List (Addr×Obj)}{σ:St}{H:Hp}{s:Shared}{Q:VK}{us:List Value}{vs:List V}(F:FnOk X.prog X.w X.K X.mg X.base CX k f fd ps sp)(hr:Room k X.A)(hb:Binds X.K fd ps ds)(hd:Vals dvs ds)(hx:d4 CX X E)
  (I:Inv X pins σ H s) (r:Vals vs us) (h:sp (vs++dvs) H Q E):wpAny (model X.prog X.w) X.A (call (.ref f) us) (EP X pins σ Q) X.xe s:=by
 have r2:Vals (vs++dvs) (us++ds):=r.append hd;have hl:(us++ds).length=ps.length:=by rw [<- r2.length];exact F.len _ _ _ _ h
 refine wpAny_call (codeAny_mono (F.run X.A X.stack s H ⟨us,[]⟩ (us++ds) (vs++dvs) Q E hr I.env0 (hb s us I.kIn hl) r2 h) fun r s' hq=>?_);cases r with
 |error e=>exact hx pins σ H s e s' I hq
 |ok fl=>
  cases fl with
  |ret u=>exact I.after hq
  |next=>exact False.elim hq
  |brk=>exact False.elim hq
  |cont=>exact False.elim hq
theorem ym(F:FnOk X.prog X.w X.K X.mg X.base CX k f fd ps sp)(hr:Room k X.A)(hg:Gl X x)(hm:X.mg x=some (.ref f))(hk:W.keepIn X.K (.ref f)=true)(hb:Binds X.K fd ps ds)(hd:Vals dvs ds)(hx:d4 CX X E)
  (ha:PA X (e::es) t) (hdb:(x==("__debug__":Str))=false:=by decide) (he:starEach (e::es) X.env=(false,eval e X.env)::starEach es X.env:=by rfl) (hpl:(backTo pos (starEach es X.env)).any (·.1)=false:=by rfl):
  PE X (.Call (.Name x p) (e::es) [] pos) (Eg sp dvs E t):=by
 intro pins s σ H Q I h;refine wpAny_Call_Name_kw (ld_glob I hg hm ?_ hdb);refine W.callWith_K (h₀:=X.base) I.ok.mod.kin hk (thn (ha pos pins s σ H _ I h) fun us s1 ⟨vs,H1,I1,r,q⟩=>⟨I1.kIn,?_⟩) he hpl;exact vC F hr hb hd hx I1 r q
theorem xp{pl:Sem Bool}(he:PE X o ta)(c:Cls X.K C)(hm:Meth X.K C m f)(F:FnOk X.prog X.w X.K X.mg X.base CX k f fd ps sp)(hr:Room k X.A)(hb:Binds X.K fd ps ds)(hd:Vals dvs ds)(hx:d4 CX X E)(ha:PA X (e::es) t)
  (hst:starEach (e::es) X.env=(false,eval e X.env)::starEach es X.env:=by rfl) (hpl:(backTo pos (starEach es X.env)).any (·.1)=false:=by rfl)
  (ht:eval (.Call (.Attribute o m apos) (e::es) [] pos) X.env=(do
   let ov <- eval o X.env
   standAt apos.atName
   let (f,first) <- holding [ov] (getMethod ov m pl)
   callWith pos f first (backTo pos (starEach (e::es) X.env)) (backToKw pos (keywordEach [] X.env))):=by rfl):
  PE X (.Call (.Attribute o m apos) (e::es) [] pos) (D8 C m sp dvs E ta t):=by
 intro pins s σ H Q I h;refine W.methodCall_KW (pl:=pl) (thn (he pins s σ H _ I h) fun u s1 zz=>?_) ht;obtain ⟨x,H1,I1,rx,a,dx,fs,ex,ea,l,q⟩:=zz;subst ex;obtain rfl:u=Value.ref a:=rx;refine ql I1 ea c hm l ?_;refine W.callWith_K (first:=[.ref a]) (h₀:=X.base) I.ok.mod.kin hm.kp (thn (ha pos pins s1 σ H1 _ I1 q) fun us s2 ⟨vs,H2,I2,r,q2⟩=>⟨I2.kIn,?_⟩) hst hpl
 exact vC (us:=.ref a::us) (vs:=.ref a::vs) F hr hb hd hx I2 (.cons rfl r) q2
structure Mk(K:W.Frag)(C f:Addr):Prop where
 makes:W.makesIn K C=true
 init:W.findIn K (.ref C) "__init__"=some (some (.ref f))
 fn:W.isFn K (.ref f)=true
 kp:W.keepIn K (.ref C)=true
theorem w_{pins:List (Addr×Obj)}{σ:St}{H:Hp}{s:Shared}{Q:VK}{us:List Value}{vs:List V}(M:Mk X.K C f)(F:FnOk X.prog X.w X.K X.mg X.base CX k f fd ps sp)(hr:Room (k+1) X.A)(hb:Binds X.K fd ps ds)(hd:Vals dvs ds)
  (hx:d4 CX X E) (I:Inv X pins σ H s) (r:Vals vs us)
  (h:∀x dx,H x=none->H dx=none->dx≠x->sp (.ref x::(vs++dvs)) (upd (upd H dx (.own x)) x (.ins C dx [])) (fun v H2=>v=.non/\Q (.ref x) H2) E):
  wpAny (model X.prog X.w) X.A (call (.ref C) us) (EP X pins σ Q) X.xe s:=by
 have hq:=h (s.heap.objs.size+1) s.heap.objs.size (I.hok.fresh (Nat.le_succ _)) (I.hok.fresh (Nat.le_refl _)) (Nat.ne_of_lt (Nat.lt_succ_self _));have I2:=Inv.made (C:=C) I;have r2:Vals (V.ref (s.heap.objs.size+1)::(vs++dvs)) (Value.ref (s.heap.objs.size+1)::(us++ds)):=.cons rfl (r.append hd);have hl:(Value.ref (s.heap.objs.size+1)::us++ds).length=ps.length:=by
  have e:=r2.length;rw [F.len _ _ _ _ hq] at e;exact e.symm
 refine wpAny_call (uJ (f:=f) I.kIn M.makes M.init (beq_iff_eq.mp M.fn) (codeAny_mono (F.run _ X.stack _ _ ⟨Value.ref (s.heap.objs.size+1)::us,[]⟩ (Value.ref (s.heap.objs.size+1)::(us++ds)) _ _ E (hr.make C us [])
  (I2.env0.make C us []) (hb _ (Value.ref (s.heap.objs.size+1)::us) I2.kIn hl) r2 hq) fun r s' hq'=>?_))
 cases r with
 |error e=>exact hx pins σ _ _ e s' I2 hq'
 |ok fl=>
  cases fl with
  |ret u=>
   obtain ⟨v,H',I3,rv,ev,q3⟩:=I2.after hq';subst ev;exact ⟨rv,⟨V.ref (s.heap.objs.size+1),H',I3,rfl,q3⟩⟩
  |next=>exact False.elim hq'
  |brk=>exact False.elim hq'
  |cont=>exact False.elim hq'
theorem xo(M:Mk X.K C f)(F:FnOk X.prog X.w X.K X.mg X.base CX k f fd ps sp)(hr:Room (k+1) X.A)(hg:Gl X x)(hm:X.mg x=some (.ref C))(hb:Binds X.K fd ps ds)(hd:Vals dvs ds)(hx:d4 CX X E)
  (ha:PA X (e::es) t) (hdb:(x==("__debug__":Str))=false:=by decide) (he:starEach (e::es) X.env=(false,eval e X.env)::starEach es X.env:=by rfl) (hpl:(backTo pos (starEach es X.env)).any (·.1)=false:=by rfl):
  PE X (.Call (.Name x p) (e::es) [] pos) (Dj C sp dvs E t):=by
 intro pins s σ H Q I h;refine wpAny_Call_Name_kw (ld_glob I hg hm ?_ hdb);refine W.callWith_K (h₀:=X.base) I.ok.mod.kin M.kp (thn (ha pos pins s σ H _ I h) fun us s1 ⟨vs,H1,I1,r,q⟩=>⟨I1.kIn,?_⟩) he hpl;exact w_ M F hr hb hd hx I1 r q
end
section
variable {X:Cx}{CX:nW}{k:Nat}{f C:Addr}{fd:FuncData}{ps ks:List Str}{sp:Sp}{E:XK}{x m:Str}{p pos apos kpos:Pos}{e o:Expr}{es:List Expr}{kws:List Keyword}{te ta:TE}{t tk:TA}{nm:Option Str}
variable {g:List Value->List Value->List Value}{gV:List V->List V->List V}
end
structure FnScope(N P:List Str)(sc:Scope):Prop where
 kind:sc.kind=.function
 co:sc.isCoroutine=false
 gen:sc.isGenerator=false
 nd:N.Nodup
 pre:N.take P.length=P
 par:∀x∈P,sc.names.lookup x=some .local\/sc.names.lookup x=some .cell
 nofree:∀y∈sc.names,y.2≠.free
theorem kK{kindOf:Str->Option NameKind}{x:Str}:∀{binds:List (Str×Value)} {m:Str->Option Value},(∀v,(x,v)∉binds)->bindL kindOf binds m x=m x
 |[],_,_=>rfl
 |(n,v)::r,m,h=>by
  unfold bindL;rw [kK fun w hw=>h w (List.mem_cons_of_mem _ hw)]
  split
  ·have:x≠n:=by rintro rfl;exact h v List.mem_cons_self
   simp [this]
  ·rfl
theorem kH{kindOf:Str->Option NameKind}{x:Str}:∀{binds:List (Str×Value)} {m:Str->Option Value},(∀v,(x,v)∉binds)->bindC kindOf binds m x=m x
 |[],_,_=>rfl
 |(n,v)::r,m,h=>by
  unfold bindC;rw [kH fun w hw=>h w (List.mem_cons_of_mem _ hw)]
  split
  ·rfl
  ·have:x≠n:=by rintro rfl;exact h v List.mem_cons_self
   simp [this]
theorem kx{kindOf:Str->Option NameKind}{x:Str}{v:Value}:∀{P:List Str} {vs:List Value} {i:Nat} {m:Str->Option Value},P.Nodup->P[i]?=some x->vs[i]?=some v->kindOf x=some .local->
  bindL kindOf (P.zip vs) m x=some v
 |[],_,_,_,_,h,_,_=>by simp at h
 |_::_,[],_,_,_,_,h,_=>by simp at h
 |p::P,w::vs,0,m,nd,h1,h2,hk=>by
  simp at h1 h2;subst h1;subst h2;show bindL kindOf ((p,w)::P.zip vs) m p=_;unfold bindL;rw [kK fun v hv=>(List.nodup_cons.mp nd).1 (List.of_mem_zip hv).1,if_pos hk];simp
 |p::P,w::vs,i+1,m,nd,h1,h2,hk=>by
  show bindL kindOf ((p,w)::P.zip vs) m x=_;unfold bindL;exact kx (i:=i) (List.nodup_cons.mp nd).2 (by simpa using h1) (by simpa using h2) hk
theorem kC{kindOf:Str->Option NameKind}{x:Str}{v:Value}:∀{P:List Str} {vs:List Value} {i:Nat} {m:Str->Option Value},P.Nodup->P[i]?=some x->vs[i]?=some v->kindOf x≠some .local->
  bindC kindOf (P.zip vs) m x=some v
 |[],_,_,_,_,h,_,_=>by simp at h
 |_::_,[],_,_,_,_,h,_=>by simp at h
 |p::P,w::vs,0,m,nd,h1,h2,hk=>by
  simp at h1 h2;subst h1;subst h2;show bindC kindOf ((p,w)::P.zip vs) m p=_;unfold bindC;rw [kH fun v hv=>(List.nodup_cons.mp nd).1 (List.of_mem_zip hv).1,if_neg hk];simp
 |p::P,w::vs,i+1,m,nd,h1,h2,hk=>by
  show bindC kindOf ((p,w)::P.zip vs) m x=_;unfold bindC;exact kC (i:=i) (List.nodup_cons.mp nd).2 (by simpa using h1) (by simpa using h2) hk
def start(N:List Str)(vs:List V):St:=vs.map some++List.replicate (N.length-vs.length) none
def dF(CX:nW)(P:Program)(w:World)(K:W.Frag)(mg:Str->Option Value)(base:Heap)(N:List Str)(qual:Str)(scope:Scope)(f:Addr)(cd:Value)(A:Around)(outer:List Env)(s:Shared)(H:Hp)(E:XK):Cx where
 prog:=P
 w:=w
 K:=K
 mg:=mg
 base:=base
 A:=A.deeper (envOfC qual scope s.heap.objs.size f cd)
 N:=N
 s₀:=s
 H₀:=H
 env:=envOfC qual scope s.heap.objs.size f cd
 outer:=outer
 stack:=envOfC qual scope s.heap.objs.size f cd::outer
 ex:=[]
 calm:=true
 fn:=fun _=>true
 pn:=[]
 xe:=fun e s'=>wpAny (model P w) (A.deeper (envOfC qual scope s.heap.objs.size f cd)) (leaving (envOfC qual scope s.heap.objs.size f cd) e) (fun _ s''=>CX outer H s E e s'') (fun e' s''=>CX outer H s E e' s'') s'
theorem mY{sc:Scope}{n:Nat}{x:Str}(h:sc.names.lookup x=some .cell):∃c,(cellsFrom n sc.names []).lookup x=some c:=by
 have q:=W.cellsFrom_some sc.names n [] (.inl h);exact Option.isSome_iff_exists.mp q
theorem tB{CX:nW}{P:Program}{w:World}{K:W.Frag}{mg:Str->Option Value}{base:Heap}{N ps:List Str}{qual:Str}{scope:Scope}{f:Addr}{cd:Value}{A:Around}{outer:List Env}{s s1:Shared}{H:Hp}{E:XK}{us:List Value}{vs:List V}
  (S:FnScope N ps scope) (hd:A.handled=none) (e0:Env0 P w K mg base A outer s H) (hl:vs.length=ps.length) (r:Vals vs us)
  (x:InCallC s s.heap.objs.size (bindL (envOfC qual scope s.heap.objs.size f cd).kindOf (ps.zip us) fun _=>none) (cellsFrom (s.heap.objs.size+1) scope.names []) (bindC (envOfC qual scope s.heap.objs.size f cd).kindOf (ps.zip us) fun _=>none) s1):
  Inv (dF CX P w K mg base N qual scope f cd A outer s H E) [] (start N vs) H s1:=by
 have hpl:ps.length<=N.length:=by have:=congrArg List.length S.pre;rw [List.length_take] at this;lia
 obtain ⟨h1,tk,rfl,hk⟩:=x.done;have noA:∀b:Addr,b∉(dF CX P w K mg base N qual scope f cd A outer s H E).ex:=fun b z=>absurd (show b∈([]:List Addr) from z) (by simp)
 refine ⟨⟨e0.mod,S.kind,rfl,rfl,Nat.le_refl _,fun y z c h1 h2=>?_,fun y hy=>?_,fun y c _ h=>?_,fun _=>hd,Around.frames_deeper e0.frames,.inr ⟨rfl,rfl⟩,fun b z=>absurd z (noA b),e0.bs,e0.bsz,fun b _ _=>noA b,fun b z=>absurd z (noA b),e0.funs,e0.frf⟩,
  rfl,e0.bare,Un.kept hk,⟨_,x.toInCall.ns,fun i y v h1 h2 h3=>?_⟩,fun y c h=>⟨_,x.cell y c h⟩,e0.hok.fresh (Nat.le_refl _),fun y c h=>?_,fun p hp=>absurd (show p∈([]:List (Addr×Obj)) from hp) (by simp),e0.hok.kept hk,?_⟩
 ·exact name_of_addr x.apart (PySem.mem_of_lookup h1) (PySem.mem_of_lookup h2)
 ·have hy:scope.names.lookup y=some .cell\/scope.names.lookup y=some .free:=hy
  rcases hy with hy|hy
  ·exact mY hy
  ·exact absurd rfl (S.nofree _ (PySem.mem_of_lookup hy))
 ·exact Nat.le_of_lt (x.above y c (PySem.mem_of_lookup h))
 ·have hi:i<vs.length:=by
   unfold start at h2
   by_cases hi:i<vs.length
   ·exact hi
   ·rw [List.getElem?_append_right (by simpa using hi)] at h2
    rw [List.getElem?_replicate] at h2
    split at h2<;>cases h2
  have ha:vs[i]?=some v:=by
   unfold start at h2;rw [List.getElem?_append_left (by simpa using hi),List.getElem?_map] at h2
   cases e:vs[i]? with
   |none=>rw [e] at h2;cases h2
   |some a=>rw [e] at h2;cases h2;rfl
  obtain ⟨u,hu,rv⟩:=r.get ha;have hp:ps[i]?=some y:=by
   rw [<- S.pre,List.getElem?_take_of_lt (by lia)];exact h1
  have ndP:ps.Nodup:=by rw [<- S.pre];exact S.nd.sublist (List.take_sublist _ _)
  refine ⟨u,rv,?_⟩;rcases S.par y (List.mem_of_getElem? hp) with k|k
  ·exact .inl ⟨k,kx ndP hp hu k⟩
  ·obtain ⟨c,e⟩:=mY (n:=s.heap.objs.size+1) k
   refine .inr ⟨.inl k,c,e,?_⟩;have q:=x.cell y c e;rw [kC ndP hp hu (by show scope.names.lookup y≠_;rw [k];decide)] at q
   exact q
 ·exact e0.hok.fresh (Nat.le_of_lt (x.above y c (PySem.mem_of_lookup h)))
 ·unfold start
  show _=N.length;rw [List.length_append,List.length_map,List.length_replicate];lia
theorem CK{CX:nW}{P:Program}{w:World}{K:W.Frag}{mg:Str->Option Value}{base:Heap}{k:Nat}{f:Addr}{name qual:Str}{params:Arguments}{body:List Stmt}{scope:Scope}{dV kV doc pm cdv ct oc:Value}{an od:Option Addr}
  {osl:Array (Option Value)} {N ps:List Str} {sp:Sp} (lk:K.lookup f=some ⟨oc,od,.func (W.fnOf name qual params body scope dV kV doc pm an cdv ct),osl⟩) (hcd:W.codeIn K cdv qual=true) (S:FnScope N ps scope)
  (len:∀vs H Q E,sp vs H Q E->vs.length=ps.length)
  (hbody:∀(A:Around) (outer:List Env) (s:Shared) (H:Hp) (vs:List V) (Q:VK) (E:XK),Room k (A.deeper (envOfC qual scope s.heap.objs.size f cdv))->sp vs H Q E->
   ∃t,qY (dF CX P w K mg base N qual scope f cdv A outer s H E) body t/\t { nx:=fun _ H'=>Q .non H',rt:=Q } (start N vs) H):
  FnOk P w K mg base CX (k+1) f (W.fnOf name qual params body scope dV kV doc pm an cdv ct) ps sp:=by
 refine ⟨len,fun A outer s H args us vs Q E hr e0 hb r hsp=>?_⟩;have hl:=len _ _ _ _ hsp;have KX:K.In s.heap:=e0.mod.kin.keeps fun b o e=>(e0.bs b o e).1;have lim:s.heap.NoLimit:=e0.mod.nolimit.keeps fun b o e=>(e0.bs b o e).1;have hkind:∀y∈ps.zip us,scope.names.lookup y.1=some .local\/(scope.names.lookup y.1=some .cell/\((cellsFrom (s.heap.objs.size+1) scope.names []).lookup y.1).isSome=true):=fun ⟨n,v⟩ hy=>by
  rcases S.par n (List.of_mem_zip hy).1 with q|q
  ·exact .inl q
  ·exact .inr ⟨q,W.cellsFrom_some _ _ _ (.inl q)⟩
 refine codeAny_call_function hr.depth (KX _ _ lk) rfl S.co S.gen rfl (W.codeRec_of KX hcd) (hb _ _ _ _ ?_);refine wpAny_newFunctionEnv_cells S.kind hkind fun env he s1 x=>?_;subst he;refine ⟨lim.keeps x.toInCall.keep,codeAny_func ?_⟩;obtain ⟨t,ht,hq⟩:=hbody A outer s H vs Q E (hr.deeper _) hsp;have I:Inv (dF CX P w K mg base N qual scope f cdv A outer s H E) [] (start N vs) H s1:=tB S hr.hd e0 hl r x;refine wpAny_mono (ht [] s1 (start N vs) H _ I hq) (fun fl s' hs=>?_) fun e s' hs=>hs;have fin:∀{σ':St} {H':Hp} {v:V} {u:Value},Inv (dF CX P w K mg base N qual scope f cdv A outer s H E) [] σ' H' s'->RelV v u->Q v H'->CE outer P w H s Q u s':=
  fun {σ' H' v u} J rv q=>⟨v,H',J.os,J.bare,J.base,J.hok,rv,q⟩
 cases fl with
 |ret u=>
  obtain ⟨v,σ',H',J,rv,q⟩:=hs;exact fin J rv q
 |next=>
  obtain ⟨σ',H',J,q⟩:=hs;exact fin (v:=V.non) (u:=Value.none) J rfl q
 |brk=>
  obtain ⟨_,_,_,q⟩:=hs;exact False.elim q
 |cont=>
  obtain ⟨_,_,_,q⟩:=hs;exact False.elim q
end L2
namespace L2
open PySem PySem.Spec PyProof.Rows
section
variable {X:Cx}{x:Str}{p pos:Pos}{e:Expr}{es:List Expr}{t:TA}{id T:String}{r:List V->Hp->VK->Prop}
def tCB(r:List V->Hp->VK->Prop)(t:TA):TE:=fun σ H Q=>t σ H fun vs H1=>r vs H1 Q
theorem xa(hc:bX X (.builtin id) r)(hg:Gl X x)(hm:X.mg x=none)(hv:bootBuiltins x=some (.builtin id))(ha:PA X (e::es) t)(hn:x≠"__name__":=by decide)(hdb:(x==("__debug__":Str))=false:=by decide)
  (he:starEach (e::es) X.env=(false,eval e X.env)::starEach es X.env:=by rfl) (hpl:(backTo pos (starEach es X.env)).any (·.1)=false:=by rfl):PE X (.Call (.Name x p) (e::es) [] pos) (tCB r t):=by
 intro pins s σ H Q I h;refine wpAny_Call_Name_kw (ld_blt I hg hm hv ?_ hn hdb);exact PyProof.Rows.callWith_builtin1 (thn (ha pos pins s σ H _ I h) fun us s1 ⟨vs,H1,I1,r1,q1⟩=>hc pins s1 σ H1 vs us Q I1 r1 q1) he hpl
theorem sI(hc:bX X (.type T) r)(hg:Gl X x)(hm:X.mg x=none)(hv:bootBuiltins x=some (.type T))(ha:PA X (e::es) t)(hn:x≠"__name__":=by decide)(hdb:(x==("__debug__":Str))=false:=by decide)
  (he:starEach (e::es) X.env=(false,eval e X.env)::starEach es X.env:=by rfl) (hpl:(backTo pos (starEach es X.env)).any (·.1)=false:=by rfl):PE X (.Call (.Name x p) (e::es) [] pos) (tCB r t):=by
 intro pins s σ H Q I h;refine wpAny_Call_Name_kw (ld_blt I hg hm hv ?_ hn hdb);exact PyProof.Rows.callWith_type1 (thn (ha pos pins s σ H _ I h) fun us s1 ⟨vs,H1,I1,r1,q1⟩=>hc pins s1 σ H1 vs us Q I1 r1 q1) he hpl
end
end L2
namespace HT
open PySem PyProof.Rows
section
open PySem.SeqAt
open PySem.AutoSeq1 (wpAny_loadPart')
open PySem.MeetsSeq PySem.MeetsSeq2 PySem.MeetsSeq3
end
section
variable {prog:Program}{w:World}{A:Around}{E:Value->Shared->Prop}{s:Shared}
theorem zp{t b:Addr}{vs ws:List Value}{Q:Value->Shared->Prop}(ht:IsTup s.heap t vs.toArray)(hb:IsTup s.heap b ws.toArray)(hv:vs≠[])
  (h1:ws=[]->Q (.ref t) s) (h2:ws≠[]->Q (.ref s.heap.objs.size) { s with heap:=s.heap.push { cls:=.type "tuple",data:=.seq (vs++ws).toArray } })
  (hsz:vs.length+ws.length<=sizeLine):wpAny (model prog w) A (binaryOp .Add (.ref t) (.ref b)) Q E s:=by
 obtain ⟨⟨cls,dd,data,sl⟩,ho,hc,n,hd⟩:=id ht;obtain ⟨⟨cls2,dd2,data2,sl2⟩,ho2,hc2,n2,hd2⟩:=id hb;simp only at hc hd hc2 hd2;subst hc hd hc2 hd2;have e:vs.toArray++ws.toArray=(vs++ws).toArray:=by simp
 by_cases hw:ws=[]
 ·exact concat_meets ⟨_,ho,rfl⟩ ⟨_,ho2,rfl⟩ noFill_tuple_add seq_tuple_add PySem.F.slot_tuple_add PySem.F.entry_tuple_add (PySem.F.args_tuple_add_2 _ _)
   (tuple_addW1 t b vs.toArray ws.toArray n n2 dd dd2 sl sl2 (by simpa using hv) (by simp [hw])) ⟨ho,ho2,h1 hw⟩
 ·refine concat_meets ⟨_,ho,rfl⟩ ⟨_,ho2,rfl⟩ noFill_tuple_add seq_tuple_add PySem.F.slot_tuple_add PySem.F.entry_tuple_add (PySem.F.args_tuple_add_2 _ _)
   (tuple_addW2 t b vs.toArray ws.toArray n n2 dd dd2 sl sl2 (by simpa using hv) (by simpa using hw) (by rw [List.size_toArray,List.size_toArray];exact hsz)) ⟨ho,ho2,?_⟩
  rw [e];exact h2 hw
def sIx(n d:Nat):Option Int->Nat
 |none=>d
 |some v=>if v<0 then (v+(n:Int)).toNat else min v.toNat n
theorem jt(n d:Nat):sIx n d none=d:=rfl
theorem rK(n d k:Nat):sIx n d (some (k:Int))=min k n:=by
 show (if (k:Int)<0 then ((k:Int)+(n:Int)).toNat else min (k:Int).toNat n)=min k n
 rw [if_neg (by lia),Int.toNat_natCast]
theorem Ca(n d:Nat)(hd:d<=n)(o:Option Int):sIx n d o<=n:=by
 cases o with
 |none=>exact hd
 |some v=>
  show (if v<0 then (v+(n:Int)).toNat else min v.toNat n)<=n
  by_cases hv:v<0
  ·rw [if_pos hv];lia
  ·rw [if_neg hv];exact Nat.min_le_right _ _
theorem qU(v:Int)(n d:Nat):(if v<0 then max (v+(n:Int)) 0 else min v (n:Int))=((sIx n d (some v):Nat):Int):=by
 show (if v<0 then max (v+(n:Int)) 0 else min v (n:Int))=(((if v<0 then (v+(n:Int)).toNat else min v.toNat n):Nat):Int)
 by_cases hv:v<0
 ·simp only [if_pos hv];lia
 ·simp only [if_neg hv];lia
theorem pM(lo hi:Option Int)(n:Nat):Builtin.Slice.sliceAdjust lo hi 1 (n:Int)=(((sIx n 0 lo:Nat):Int),((sIx n n hi:Nat):Int)):=by
 have h1:¬((1:Int)<0):=by lia
 unfold Builtin.Slice.sliceAdjust;simp only [h1,if_false];refine Prod.ext ?_ ?_
 ·cases lo with
  |none=>rfl
  |some v=>exact qU v n 0
 ·cases hi with
  |none=>rfl
  |some v=>exact qU v n n
theorem pE(i j:Nat):Builtin.Slice.slicePlaces (i:Int) (j:Int) 1=j-i:=by
 unfold Builtin.Slice.slicePlaces;have h1:(1:Int)>0:=by lia
 simp only [h1,if_true,Int.ediv_one]
 split<;>lia
theorem je{v:Value}{o:Option Int}{Q:Option Int->Shared->Prop}(p:IsPart v o)(h:Q o s):wpAny (model prog w) A (Builtin.Slice.slicePartIndex v) Q E s:=by
 cases p with
 |none=>exact slicePart_none h
 |int i t=>exact slicePart_int h
theorem dy{sl:Addr}{vl vu:Value}{lo hi:Option Int}{n:Nat}{Q:Int×Int×Nat->Shared->Prop}(hs:s.heap.IsSliceOf sl vl vu .none)(pl:IsPart vl lo)(pu:IsPart vu hi)
  (h:Q (((sIx n 0 lo:Nat):Int),1,sIx n n hi-sIx n 0 lo) s):wpAny (model prog w) A (Builtin.Slice.sliceApplied (.ref sl) (pure (n:Int))) Q E s:=by
 obtain ⟨os,hos,hcs,hds⟩:=id hs;unfold Builtin.Slice.sliceApplied Builtin.Slice.sliceFields;refine wpAny_bind (wpAny_bind (wpAny_field hos hds (x:=vl) rfl (wpAny_bind (wpAny_field hos hds (x:=vu) rfl (wpAny_bind (wpAny_field hos hds (x:=.none) rfl (wpAny_pure ?_)))))));refine wpAny_bind (slicePart_none ?_);show wpAny _ _ (if ((1:Int)==0)=true then _ else _) _ _ s
 rw [if_neg (by decide)]
 refine wpAny_bind (je pl (wpAny_bind (je pu (wpAny_bind (wpAny_pure ?_)))));show wpAny _ _ (match Builtin.Slice.sliceAdjust lo hi 1 (n:Int) with|(lo,hi)=>pure (lo,(1:Int),Builtin.Slice.slicePlaces lo hi 1)) _ _ s
 rw [pM lo hi n];show wpAny _ _ (pure (((sIx n 0 lo:Nat):Int),(1:Int),Builtin.Slice.slicePlaces ((sIx n 0 lo:Nat):Int) ((sIx n n hi:Nat):Int) 1)) _ _ s;rw [pE];exact wpAny_pure h
theorem wj(xs:Array Value)(i k:Nat):((List.range k).filterMap fun (m:Nat)=>xs[((i:Int)+(m:Int)*1).toNat]?).toArray=((xs.toList.drop i).take k).toArray:=by
 have e:(fun (m:Nat)=>xs[((i:Int)+(m:Int)*1).toNat]?)=fun m=>xs[i+m]?:=by
  funext m;have:((i:Int)+(m:Int)*1).toNat=i+m:=by lia
  rw [this]
 rw [e];have:=pick_run xs i k;rw [List.filterMap_map] at this;have e2:((fun x=>xs[x]?) ∘ fun x=>i+x)=fun m=>xs[i+m]?:=rfl;rw [e2] at this;rw [this]
theorem fQ{t sl:Addr}{items:Array Value}{vl vu:Value}{lo hi:Option Int}{Q:Value->Shared->Prop}(ht:IsTup s.heap t items)(hs:s.heap.IsSliceOf sl vl vu .none)(pl:IsPart vl lo)(pu:IsPart vu hi)
  (hw:¬(sIx items.size 0 lo=0/\sIx items.size items.size hi=items.size))
  (h:Q (.ref s.heap.objs.size) { s with heap:=s.heap.push { cls:=.type "tuple",data:=.seq ((items.toList.drop (sIx items.size 0 lo)).take (sIx items.size items.size hi-sIx items.size 0 lo)).toArray } })
  (hsz:items.size<=sizeLine):wpAny (model prog w) A (getItem (.ref t) (.ref sl)) Q E s:=by
 have htake:sizeOk (.seq ((items.toList.drop (sIx items.size 0 lo)).take (sIx items.size items.size hi-sIx items.size 0 lo)).toArray):=by
  show ((items.toList.drop (sIx items.size 0 lo)).take (sIx items.size items.size hi-sIx items.size 0 lo)).toArray.size<=sizeLine;rw [List.size_toArray,List.length_take,List.length_drop,Array.length_toList];lia
 have hj:sIx items.size items.size hi<=items.size:=Ca _ _ (Nat.le_refl _) hi;obtain ⟨os,hos,hcs,hds⟩:=id hs;have hTs:s.TypeIs (.ref sl) "slice":=⟨os,hos,hcs⟩;unfold getItem
 try with_reducible refine wpAny_holding ?_
 first|refine wpAny_bind (wpAny_pure ?_)|skip
 refine wpAny_bind (wpAny_sequenceKey ht.typeIs (by decide) ?_)
 refine wpAny_bind (wpAny_callSpecial?_slot (name:=Str.ofString "__getitem__") ht.typeIs PyProof.Rows.slot_tuple_getitem
  (wpAny_call_entry PyProof.Rows.slot_tuple_getitem ht.typeIs entry_tuple_getitem ?_ (args_tuple_getitem _ _)))
 show wpAny _ _ (Builtin.Tuple.tupleItemsOf (.ref t) >>= _) _ _ s;refine wpAny_bind (tupleItemsOf_ ht ?_);refine wpAny_bind (wpAny_typeOf hTs ?_);rw [if_pos (by decide)]
 refine wpAny_bind (dy hs pl pu ?_);have hno:¬((((sIx items.size 0 lo:Nat):Int)==0&&(1:Int)==1&&(sIx items.size items.size hi-sIx items.size 0 lo)==items.size)=true):=by
  intro q;rw [Bool.and_eq_true,Bool.and_eq_true] at q;have q1:((sIx items.size 0 lo:Nat):Int)=0:=eq_of_beq q.1.1;have q2:sIx items.size items.size hi-sIx items.size 0 lo=items.size:=eq_of_beq q.2;exact hw ⟨by lia,by lia⟩
 show wpAny _ _ (if (((sIx items.size 0 lo:Nat):Int)==0&&(1:Int)==1&&(sIx items.size items.size hi-sIx items.size 0 lo)==items.size)=true then _ else _) _ _ s
 rw [if_neg hno,wj]
 first
  |exact wpAny_bind (m:=Builtin.Tuple.tupleExact _) (wpAny_newObj_type (wpAny_pure ⟨_,rfl,wpAny_pure h⟩) htake)
  |exact wpAny_bind (m:=Builtin.Tuple.tupleExact _) (wpAny_newObj_type (wpAny_bind (wpAny_pure (wpAny_pure ⟨_,rfl,wpAny_pure h⟩))) htake)
  |exact wpAny_bind (wpAny_bind (m:=Builtin.Tuple.tupleExact _) (wpAny_newObj_type (wpAny_pure (wpAny_pure ⟨_,rfl,wpAny_pure h⟩)) htake))
  |exact wpAny_bind (wpAny_bind (m:=Builtin.Tuple.tupleExact _) (wpAny_newObj_type (wpAny_pure ⟨_,rfl,wpAny_pure h⟩) htake))
end
end HT
namespace L2
open PySem PySem.Spec PyProof.Rows
abbrev TO:=St->Hp->(Option Int->Hp->Prop)->Prop
def PO(X:Cx)(e:Option Expr)(t:TO):Prop:=
 ∀(pins:List (Addr×Obj)) (s:Shared) (σ:St) (H:Hp) (Q:Option Int->Hp->Prop),Inv X pins σ H s->t σ H Q->
  wpAny (model X.prog X.w) X.A (evalPart e X.env) (fun u s'=>∃o H',Inv X pins σ H' s'/\IsPart u o/\Q o H') X.xe s
def xV:TO:=fun _ H Q=>Q none H
def Ea(t:TE):TO:=fun σ H Q=>t σ H fun x H1=>∃i,x=.int i/\Q (some i) H1
section
variable {X:Cx}{e:Expr}{te:TE}{lo hi:Option Expr}{tl th:TO}{pos p2:Pos}
theorem zr:PO X none xV:=by
 intro pins s σ H Q I h;rw [evalPart_none];exact wpAny_pure ⟨none,H,I,.none,h⟩
theorem yv(h:PE X e te):PO X (some e) (Ea te):=by
 intro pins s σ H Q I hw;rw [evalPart_some];refine thn (h pins s σ H _ I hw) fun u s1 ⟨x,H1,I1,r1,q1⟩=>?_;obtain ⟨i,rfl,q⟩:=q1;obtain ⟨t,rfl⟩:=r1;exact ⟨some i,H1,I1,.int i t,q⟩
def Dm(X:Cx)(r:V->Option Int->Option Int->Hp->VK->Prop):Prop:=
 ∀(pins:List (Addr×Obj)) (s:Shared) (σ:St) (H:Hp) (x:V) (v vl vu:Value) (lo hi:Option Int) (sl:Addr) (Q:VK),Inv X pins σ H s->RelV x v->s.heap.IsSliceOf sl vl vu .none->IsPart vl lo->IsPart vu hi->r x lo hi H Q->
  ∃T id,typeLookup (.type T) "__getitem__"=pure (some (.builtin id))/\s.TypeIs v T/\wpAny (model X.prog X.w) X.A (getItem v (.ref sl)) (EP X pins σ Q) X.xe s
def tSl(r:V->Option Int->Option Int->Hp->VK->Prop)(te:TE)(tl th:TO):TE:=fun σ H Q=>te σ H fun x H1=>tl σ H1 fun l H2=>th σ H2 fun u H3=>r x l u H3 Q
theorem vh{r:V->Option Int->Option Int->Hp->VK->Prop}(hr:Dm X r)(he:PE X e te)(hl:PO X lo tl)(hu:PO X hi th):PE X (.Subscript e (.Slice lo hi none p2) pos) (tSl r te tl th):=by
 intro pins s σ H Q I h;refine Subscript_ (thn (he pins s σ H _ I h) fun v s1 ⟨x,H1,I1,r1,q1⟩=>?_);refine wpAny_Slice (thn (hl pins s1 σ H1 _ I1 q1) fun vl s2 ⟨l,H2,I2,pl,q2⟩=>thn (hu pins s2 σ H2 _ I2 q2) fun vu s3 ⟨u,H3,I3,pu,q3⟩=>?_);rw [evalPart_none];refine wpAny_pure ?_;have I4:Inv X pins σ H3 { s3 with heap:=s3.heap.push { cls:=.type "slice",data:=.fields #[vl,vu,.none] } }:=I3.kept (t':=s3.toks) fun b ob q=>Heap.get?_push_of_some _ q;obtain ⟨T,id,hT,ht,hg⟩:=hr pins { s3 with heap:=s3.heap.push { cls:=.type "slice",data:=.fields #[vl,vu,.none] } } σ H3 x v vl vu l u s3.heap.objs.size Q I4 r1 (Heap.IsSliceOf.new ..) pl pu q3;show wpAny (model X.prog X.w) X.A (subscriptTail e (.Slice lo hi none p2) v (.ref s3.heap.objs.size)) (EP X pins σ Q) X.xe { s3 with heap:=s3.heap.push { cls:=.type "slice",data:=.fields #[vl,vu,.none] } };exact tail_any (ops:=[.ref s3.heap.objs.size,v]) ht hT hg (by with_unfolding_all rfl)
def io(xs:List V)(lo hi:Option Int):List V:=(xs.drop (HT.sIx xs.length 0 lo)).take (HT.sIx xs.length xs.length hi-HT.sIx xs.length 0 lo)
theorem i6(xs:List V)(lo hi:Option Int):(io xs lo hi).length<=xs.length:=by
 unfold io;rw [List.length_take,List.length_drop];lia
def rSlT(K:W.Frag):V->Option Int->Option Int->Hp->VK->Prop:=fun x lo hi H Q=>∃a xs,x=.ref a/\gE K H a xs/\
 ¬(HT.sIx xs.length 0 lo=0/\HT.sIx xs.length xs.length hi=xs.length)/\∀p,H p=none->Q (.ref p) (upd H p (.tup (io xs lo hi)))
theorem At:Dm X (rSlT X.K):=by
 intro pins s σ H x v vl vu lo hi sl Q I rx hs pl pu h;obtain ⟨a,xs,rfl,hx,hw,q⟩:=h;cases rx;obtain ⟨its,r,ht,hz⟩:=I.tuple hx;have hlen:its.toArray.size=xs.length:=by rw [List.size_toArray];exact r.length.symm
 refine ⟨"tuple",_,PyProof.Rows.slot_tuple_getitem.lookup,ht.typeIs,?_⟩;refine HT.fQ ht hs pl pu (by rw [hlen];exact hw) ?_ (by rw [hlen];exact hz)
 rw [hlen];refine ⟨.ref s.heap.objs.size,_,I.laid (t':=s.toks) (o:=.tup (io xs lo hi)) (fun b ob q=>Heap.get?_push_of_some _ q) (Nat.le_refl _) ?_,rfl,q _ (I.hok.fresh (Nat.le_refl _))⟩;exact ⟨Nat.le_trans (i6 xs lo hi) hz,_,(r.drop (HT.sIx xs.length 0 lo)).take (HT.sIx xs.length xs.length hi-HT.sIx xs.length 0 lo),⟨_,Heap.get?_push_size _ rfl,⟨rfl,_,rfl⟩,rfl⟩⟩
def CI(K:W.Frag):R2:=fun x y H Q=>∃a b xs ys,x=.ref a/\y=.ref b/\gE K H a xs/\gE K H b ys/\xs≠[]/\xs.length+ys.length<=sizeLine/\
 (ys=[]->Q (.ref a) H)/\(ys≠[]->∀p,H p=none->Q (.ref p) (upd H p (.tup (xs++ys))))
theorem Vals.nil_iff{xs:List V}{us:List Value}(r:Vals xs us):us=[]↔xs=[]:=by
 cases r with
 |nil=>simp
 |cons _ _=>simp
theorem yP:d5 X (binaryOp .Add) (CI X.K):=by
 intro pins s σ H x y v u Q I rx ry h;obtain ⟨a,b,xs,ys,rfl,rfl,ha,hb,hx,hz,q1,q2⟩:=h;cases rx;cases ry;obtain ⟨its,r1,p1,_⟩:=I.tuple ha;obtain ⟨its2,r2,p2,_⟩:=I.tuple hb;refine HT.zp p1 p2 (fun z=>hx (r1.nil_iff.mp z)) (fun z=>⟨.ref a,H,I,rfl,q1 (r2.nil_iff.mp z)⟩) (fun z=>?_) (by rw [<- r1.length,<- r2.length];exact hz)
 refine ⟨.ref s.heap.objs.size,_,I.laid (t':=s.toks) (o:=.tup (xs++ys)) (fun b ob q=>Heap.get?_push_of_some _ q) (Nat.le_refl _) ?_,rfl,q2 (fun w=>z (r2.nil_iff.mpr w)) _ (I.hok.fresh (Nat.le_refl _))⟩;exact ⟨by rw [List.length_append];exact hz,_,r1.append r2,⟨_,Heap.get?_push_size _ rfl,⟨rfl,_,rfl⟩,rfl⟩⟩
end
end L2
namespace L2
open PySem PySem.Spec PyProof.Rows
def xj(n:Nat)(i:Int):Option Nat:=if 0<=i then (if i<n then some i.toNat else none) else if -(n:Int)<=i then some (i+n).toNat else none
def atI{α:Type}(xs:List α)(i:Int):Option α:=(xj xs.length i).bind fun j=>xs[j]?
theorem sk{n:Nat}{i:Int}{j:Nat}(h:xj n i=some j):seqIndex? i n=some j/\j<n/\-(n:Int)<=i/\i<n:=by
 unfold xj at h
 by_cases h0:0<=i
 ·rw [if_pos h0] at h
  by_cases h1:i<n
  ·rw [if_pos h1] at h
   have e:i.toNat=j:=Option.some.inj h;exact ⟨by rw [seqIndex_of h0 h1,e],by lia,by lia,h1⟩
  ·rw [if_neg h1] at h;cases h
 ·rw [if_neg h0] at h
  by_cases h1:-(n:Int)<=i
  ·rw [if_pos h1] at h
   have e:(i+n).toNat=j:=Option.some.inj h;exact ⟨by rw [seqIndex_neg (by lia) h1,e],by lia,h1,by lia⟩
  ·rw [if_neg h1] at h;cases h
theorem lz{α:Type}{xs:List α}{i:Int}{v:α}(h:atI xs i=some v):∃j,seqIndex? i xs.length=some j/\xs[j]?=some v/\j<xs.length/\-(xs.length:Int)<=i/\i<xs.length:=by
 unfold atI at h;cases e:xj xs.length i with
 |none=>rw [e] at h;cases h
 |some j=>
  rw [e] at h;obtain ⟨h1,h2,h3,h4⟩:=sk e;exact ⟨j,h1,h,h2,h3,h4⟩
def rW(b:Expr):Prop:=∀o i,subscripted b false o i=operate [o,i] (getItem o i)
def IxR(X:Cx)(r:R2):Prop:=
 ∀(value slice:Expr) (pins:List (Addr×Obj)) (s:Shared) (σ:St) (H:Hp) (x y:V) (v u:Value) (Q:VK),Inv X pins σ H s->RelV x v->RelV y u->r x y H Q->
  subscripted slice false v u=operate [v,u] (getItem v u)->wpAny (model X.prog X.w) X.A (subscriptTail value slice v u) (EP X pins σ Q) X.xe s
def zI(X:Cx)(id:String)(r:V->List V->Hp->VK->Prop):Prop:=
 ∀(pins:List (Addr×Obj)) (s:Shared) (σ:St) (H:Hp) (x:V) (xs:List V) (v:Value) (us:List Value) (Q:VK),Inv X pins σ H s->RelV x v->Vals xs us->r x xs H Q->
  wpAny (model X.prog X.w) X.A (call (.builtin id) (v::us)) (EP X pins σ Q) X.xe s
section
variable {X:Cx}{a b:Expr}{ta tb:TE}{pos:Pos}
theorem IxR.or{r r':R2}(h:IxR X r)(h':IxR X r'):IxR X (fun x y H Q=>r x y H Q\/r' x y H Q):=by
 intro value slice pins s σ H x y v u Q I rx ry q hs;rcases q with q|q
 ·exact h value slice pins s σ H x y v u Q I rx ry q hs
 ·exact h' value slice pins s σ H x y v u Q I rx ry q hs
theorem Dy{r:R2}(hr:IxR X r)(ha:PE X a ta)(hb:PE X b tb)(hs:rW b):PE X (.Subscript a b pos) (Di r ta tb):=by
 intro pins s σ H Q I h;exact Subscript_ (binT ha hb I h fun v u s2 x y H2 I2 rx ry q=>hr a b pins s2 σ H2 x y v u Q I2 rx ry q (hs _ _))
def El(K:W.Frag):R2:=fun x y H Q=>∃p xs i v,x=.ref p/\y=.int i/\SqL K H p xs/\atI xs i=some v/\Q v H
def E4(K:W.Frag):R2:=fun x y H Q=>∃p xs i v,x=.ref p/\y=.int i/\gE K H p xs/\atI xs i=some v/\Q v H
def DF:R2:=fun x y H Q=>∃z i c,x=.str z/\y=.int i/\z.length<=sizeLine/\atI z.cps.toList i=some c/\Q (.str ⟨#[c]⟩) H
theorem ix_list:IxR X (El X.K):=by
 intro value slice pins s σ H x y v u Q I rx ry h hs;obtain ⟨p,xs,i,z,rfl,rfl,hq,he,q⟩:=h;cases rx;obtain ⟨t,rfl⟩:=ry;obtain ⟨its,r,pl,hz⟩:=I.list hq;obtain ⟨j,h1,h2,h3,h4,h5⟩:=lz he;obtain ⟨w,ew,rw'⟩:=r.get h2;have hl:=r.length;have hn:=fI;have fin:EP X pins σ Q w s:=⟨z,H,I,rw',q⟩
 by_cases h0:0<=i
 ·have hj:i.toNat=j:=by
   rw [seqIndex_of h0 h5] at h1;exact Option.some.inj h1
  exact item_listR pl.isList h0 (by lia) (by rw [hj];simpa using ew) fin hs
 ·have hj:(i+(its.toArray.size:Int)).toNat=j:=by
   rw [seqIndex_neg (by lia) h4] at h1
   rw [List.size_toArray,<- hl];exact Option.some.inj h1
  exact subscriptTail_builtinR (x:=w) pl.isList.typeIs slot_list_getitem.lookup
   (wpAny_getItem_list_neg (Q:=fun r s'=>r=w/\EP X pins σ Q r s') pl.isList (by lia) (by rw [List.size_toArray]<;>lia) (by lia) (by rw [hj];simpa using ew) ⟨rfl,fin⟩) hs
theorem ix_tup:IxR X (E4 X.K):=by
 intro value slice pins s σ H x y v u Q I rx ry h hs;obtain ⟨p,xs,i,z,rfl,rfl,hq,he,q⟩:=h;cases rx;obtain ⟨t,rfl⟩:=ry;obtain ⟨its,r,pl,hz⟩:=I.tuple hq;obtain ⟨j,h1,h2,h3,h4,h5⟩:=lz he;obtain ⟨w,ew,rw'⟩:=r.get h2;have hl:=r.length;have hn:=fI;have fin:EP X pins σ Q w s:=⟨z,H,I,rw',q⟩
 exact subscriptTail_builtinR (x:=w) pl.typeIs slot_tuple_getitem.lookup
  (getItem_tuple (j:=j) (Q:=fun r s'=>r=w/\EP X pins σ Q r s') pl (by lia) (by lia) (by rw [List.size_toArray,<- hl];exact h1) (by simpa using ew) ⟨rfl,fin⟩) hs
theorem wn:IxR X DF:=by
 intro value slice pins s σ H x y v u Q I rx ry h hs;obtain ⟨z,i,c,rfl,rfl,hz,he,q⟩:=h;obtain ⟨t,rfl⟩:=rx;obtain ⟨t',rfl⟩:=ry;obtain ⟨j,h1,h2,h3,h4,h5⟩:=lz he;have hl:z.cps.toList.length=z.length:=by simp [Str.length]
 rw [hl] at h1 h4 h5;have hn:=fI;exact tail_any (typeIs_str s z t) slot_str_getitem.lookup (getItem_str (c:=c) (by
  have e1:decide (i < -(2 ^ 63:Int))=false:=decide_eq_false (by lia)
  have e2:decide (i>=2 ^ 63)=false:=decide_eq_false (by lia)
  rw [e1,e2,Bool.or_false]) (by rw [h1];simpa using h2) ⟨.str ⟨#[c]⟩,H,I.tok _,⟨_,rfl⟩,q⟩) hs
def rIx(K:W.Frag):R2:=fun x y H Q=>El K x y H Q\/E4 K x y H Q\/DF x y H Q
theorem BL:IxR X (rIx X.K):=ix_list.or (ix_tup.or wn)
theorem qz(its:List Value)(n j:Nat)(u:Value):Obj.mapSeq (·.setIfInBounds j u) { cls:=.type "list",data:=.seq its.toArray n }={ cls:=.type "list",data:=.seq (its.set j u).toArray n }:=by
 simp [Obj.mapSeq]
theorem Inv.lst{pins:List (Addr×Obj)}{σ:St}{H:Hp}{s:Shared}{p:Addr}{xs:List V}(I:Inv X pins σ H s)(h:H p=some (.lst xs)):
  ∃(its:List Value) (n:Nat),Vals xs its/\s.heap.get? p=some { cls:=.type "list",data:=.seq its.toArray n }/\xs.length<=sizeLine:=by
 obtain ⟨z,its,n,r,e⟩:=I.hok p _ h;exact ⟨its,n,r,e,z⟩
theorem Inv.lstUpd{pins:List (Addr×Obj)}{σ:St}{H:Hp}{s:Shared}{p:Addr}{xs ys:List V}{its its':List Value}{n n':Nat}{f:Obj->Obj}(I:Inv X pins σ H s)(h:H p=some (.lst xs))
  (ho:s.heap.get? p=some { cls:=.type "list",data:=.seq its.toArray n }) (hf:f { cls:=.type "list",data:=.seq its.toArray n }={ cls:=.type "list",data:=.seq its'.toArray n' }) (r:Vals ys its') (hz:ys.length<=sizeLine) (t:Nat):
  Inv X pins σ (upd H p (.lst ys)) { s with heap:=s.heap.update p f,toks:=t }:=by
 have e:(s.heap.update p f).get? p=some { cls:=.type "list",data:=.seq its'.toArray n' }:=by
  rw [Heap.get?_update_self f ho (by rw [hf]<;>rfl),hf]
 refine I.write (x:=p) (e:=p) (by rw [h];trivial) (.inl rfl) (fun b u hb q=>(Heap.get?_update_other _ _ (Ne.symm hb)).trans q) ⟨_,e⟩ ?_
 exact ⟨hz,its',n',r,e⟩
def E6:V->V->V->Hp->(Hp->Prop)->Prop:=fun o i v H Q=>∃p xs k j,o=.ref p/\i=.int k/\H p=some (.lst xs)/\xj xs.length k=some j/\Q (upd H p (.lst (xs.set j v)))
theorem ww:A7 X E6:=by
 intro pins s σ H o i v ov iv u Q I ro ri rv h;obtain ⟨p,xs,k,j,rfl,rfl,hp,hj,q⟩:=h;cases ro;obtain ⟨t,rfl⟩:=ri;obtain ⟨its,n,r,ho,hz⟩:=I.lst hp;obtain ⟨h1,h2,h3,h4⟩:=sk hj;have hl:=r.length;have hn:=fI;have I':Inv X pins σ (upd H p (.lst (xs.set j v))) { s with heap:=s.heap.update p (Obj.mapSeq (·.setIfInBounds j u)) }:=
  I.lstUpd hp ho (qz its n j u) (r.set rv j) (by rw [List.length_set];exact hz) s.toks
 by_cases h0:0<=k
 ·have hk:k.toNat=j:=by
   rw [seqIndex_of h0 h4] at h1;exact Option.some.inj h1
  exact W.ki_setAt ho h0 (by lia) (by rw [List.size_toArray,<- hl];exact h4) (by rw [hk];exact ⟨_,I',q⟩)
 ·have hk:(k+(its.toArray.size:Int)).toNat=j:=by
   rw [seqIndex_neg (by lia) h3] at h1
   rw [List.size_toArray,<- hl];exact Option.some.inj h1
  exact W.ki_setBack ho (by lia) (by rw [List.size_toArray,<- hl];exact h3) (by lia) (by rw [hk];exact ⟨_,I',q⟩)
theorem kU(lo hi:Option Int)(n:Nat):(sliceBounds lo hi none n).1=((HT.sIx n 0 lo:Nat):Int)/\(sliceBounds lo hi none n).2.1=((HT.sIx n n hi:Nat):Int)/\(sliceBounds lo hi none n).2.2=1:=by
 refine ⟨?_,?_,rfl⟩
 ·cases lo with
  |none=>simp [sliceBounds,HT.sIx]
  |some i=>
   simp only [sliceBounds,HT.sIx,Option.getD_none,show (1:Int)>0 by decide,if_true]
   by_cases h:i<0
   ·simp only [h,if_true]<;>lia
   ·simp only [h,if_false]<;>lia
 ·cases hi with
  |none=>simp [sliceBounds,HT.sIx]
  |some i=>
   simp only [sliceBounds,HT.sIx,Option.getD_none,show (1:Int)>0 by decide,if_true]
   by_cases h:i<0
   ·simp only [h,if_true]<;>lia
   ·simp only [h,if_false]<;>lia
theorem k6(its:List Value)(lo hi:Option Int):slicePick its.toArray lo hi none=((its.drop (HT.sIx its.length 0 lo)).take (HT.sIx its.length its.length hi-HT.sIx its.length 0 lo)).toArray:=by
 obtain ⟨h1,h2,h3⟩:=kU lo hi its.toArray.size;unfold slicePick;rw [h1,h2,h3];simp only [sliceRange_one,pick_run,List.size_toArray]<;>rfl
def rSlL(K:W.Frag):V->Option Int->Option Int->Hp->VK->Prop:=fun x lo hi H Q=>∃a xs,x=.ref a/\SqL K H a xs/\∀p,H p=none->Q (.ref p) (upd H p (.lst (io xs lo hi)))
theorem rF:Dm X (rSlL X.K):=by
 intro pins s σ H x v vl vu lo hi sl Q I rx hs pl pu h;obtain ⟨a,xs,rfl,hx,q⟩:=h;cases rx;obtain ⟨its,r,ht,hz⟩:=I.list hx;have hlen:=r.length;refine ⟨"list",_,slot_list_getitem.lookup,ht.isList.typeIs,?_⟩;refine wpAny_getItem_list_slice ht.isList hs pl pu .none (by simp) ?_ (by rw [List.size_toArray]<;>lia)
 rw [k6,<- hlen];refine ⟨.ref s.heap.objs.size,_,I.laid (t':=s.toks) (o:=.lst (io xs lo hi)) (fun b ob q=>Heap.get?_push_of_some _ q) (Nat.le_refl _) ?_,rfl,q _ (I.hok.fresh (Nat.le_refl _))⟩;exact ⟨Nat.le_trans (i6 xs lo hi) hz,_,0,(r.drop (HT.sIx xs.length 0 lo)).take (HT.sIx xs.length xs.length hi-HT.sIx xs.length 0 lo),Heap.get?_push_size _ rfl⟩
def w8:V->Bool
 |.non=>true
 |.bl _=>true
 |.int _=>true
 |.str _=>true
 |_=>false
def mH:V->V->Bool
 |.non,.non=>true
 |.bl a,.bl b=>a==b
 |.bl a,.int b=>(if a then 1 else 0)==b
 |.int a,.bl b=>a==(if b then 1 else 0)
 |.int a,.int b=>a==b
 |.str a,.str b=>a==b
 |_,_=>false
theorem vg{A:Around}{s:Shared}{y x:V}{u v:Value}(ry:RelV y u)(rx:RelV x v)(fy:w8 y=true)(fx:w8 x=true):SeqAt.EqAt A s u v (mH y x):=by
 cases y with
 |non=>
  cases ry;cases x with
  |non=>cases rx;exact SeqAt.EqAt.same _
  |bl b=>cases rx;exact SeqAt.EqAt.none_bool b
  |int b=>obtain ⟨t,rfl⟩:=rx;exact SeqAt.EqAt.none_int b t
  |str b=>obtain ⟨t,rfl⟩:=rx;exact SeqAt.EqAt.none_str b t
  |_=>exact absurd (show false=true from fx) Bool.false_ne_true
 |bl a=>
  cases ry;cases x with
  |non=>cases rx;exact SeqAt.EqAt.bool_none a
  |bl b=>cases rx;exact SeqAt.EqAt.bool_bool a b
  |int b=>obtain ⟨t,rfl⟩:=rx;exact SeqAt.EqAt.bool_int a b t
  |str b=>obtain ⟨t,rfl⟩:=rx;exact SeqAt.EqAt.bool_str a b t
  |_=>exact absurd (show false=true from fx) Bool.false_ne_true
 |int a=>
  obtain ⟨t',rfl⟩:=ry;cases x with
  |non=>cases rx;exact SeqAt.EqAt.int_none a t'
  |bl b=>cases rx;exact SeqAt.EqAt.int_bool a t' b
  |int b=>obtain ⟨t,rfl⟩:=rx;exact SeqAt.EqAt.int_int a t' b t
  |str b=>obtain ⟨t,rfl⟩:=rx;exact SeqAt.EqAt.int_str a t' b t
  |_=>exact absurd (show false=true from fx) Bool.false_ne_true
 |str a=>
  obtain ⟨t',rfl⟩:=ry;cases x with
  |non=>cases rx;exact SeqAt.EqAt.str_none a t'
  |bl b=>cases rx;exact SeqAt.EqAt.str_bool a t' b
  |int b=>obtain ⟨t,rfl⟩:=rx;exact SeqAt.EqAt.str_int a t' b t
  |str b=>obtain ⟨t,rfl⟩:=rx;exact SeqAt.EqAt.str_str a t' b t
  |_=>exact absurd (show false=true from fx) Bool.false_ne_true
 |_=>exact absurd (show false=true from fy) Bool.false_ne_true
theorem mD:bX X (.builtin "len") (fun xs H Q=>∃p ys,xs=[.ref p]/\(SqL X.K H p ys\/gE X.K H p ys)/\Q (.int ys.length) H):=by
 intro pins s σ H xs us Q I r h;obtain ⟨p,ys,rfl,hq,q⟩:=h;obtain ⟨u,rfl,rx⟩:=fT r;cases rx;have hn:=fI;rcases hq with hq|hq
 ·obtain ⟨its,r',pl,hz⟩:=I.list hq
  have hlen:=r'.length;exact Calls.call_len_list pl.isList (by simp only [List.size_toArray]<;>lia) ⟨.int ys.length,H,I.tok _,⟨s.toks+1,by rw [List.size_toArray,hlen]⟩,q⟩
 ·obtain ⟨its,r',pl,hz⟩:=I.tuple hq
  have hlen:=r'.length;exact len_tuple pl (by simp only [List.size_toArray]<;>lia) ⟨.int ys.length,H,I.tok _,⟨s.toks+1,by rw [List.size_toArray,hlen]⟩,q⟩
theorem lG:bX X (.builtin "len") (fun xs H Q=>∃z,xs=[.str z]/\z.length<=sizeLine/\Q (.int z.length) H):=by
 intro pins s σ H xs us Q I r h;obtain ⟨z,rfl,hz,q⟩:=h;obtain ⟨u,rfl,t,rfl⟩:=fT r;have hn:=fI;exact len_str (by lia) ⟨.int z.length,H,I.tok _,⟨_,rfl⟩,q⟩
theorem mq:bX X (.type "list") (fun xs H Q=>∃p ys,xs=[.ref p]/\(SqL X.K H p ys\/gE X.K H p ys)/\∀l,H l=none->Q (.ref l) (upd H l (.lst ys))):=by
 intro pins s σ H xs us Q I r h;obtain ⟨p,ys,rfl,hq,q⟩:=h;obtain ⟨u,rfl,rx⟩:=fT r;cases rx
 have fin:∀(its:List Value),Vals ys its->ys.length<=sizeLine->∀(h':Heap) (c':Nat),(∀b o',s.heap.get? b=some o'->h'.get? b=some o')->
   h'.get? s.heap.objs.size=some { cls:=.type "list",dict:=none,data:=.seq its.toArray c',slots:=#[] }->EP X pins σ Q (.ref s.heap.objs.size) { s with heap:=h' }:=fun its r' hz h' c' kp e=>
  ⟨.ref s.heap.objs.size,_,I.laid (t':=s.toks) kp (Nat.le_refl _) (show ObjOk X.prog X.w _ h' _ (.lst ys) from ⟨hz,its,c',r',e⟩),rfl,q _ (I.hok.fresh (Nat.le_refl _))⟩
 rcases hq with hq|hq
 ·obtain ⟨its,r',pl,hz⟩:=I.list hq
  have hlen:=r'.length;obtain ⟨o,ho,hc,n,hd⟩:=pl.isList;exact call_list_seq p (.inl rfl) ho hc hd (fun h' c' kp e=>fin its r' hz h' c' kp e) (by simp only [List.size_toArray]<;>lia)
 ·obtain ⟨its,r',pl,hz⟩:=I.tuple hq
  have hlen:=r'.length;obtain ⟨o,ho,hc,n,hd⟩:=pl;exact call_list_seq p (.inr rfl) ho hc hd (fun h' c' kp e=>fin its r' hz h' c' kp e) (by simp only [List.size_toArray]<;>lia)
theorem fm:bX X (.type "tuple") (fun xs H Q=>∃p ys,xs=[.ref p]/\((SqL X.K H p ys/\∀l,H l=none->Q (.ref l) (upd H l (.tup ys)))\/(gE X.K H p ys/\Q (.ref p) H))):=by
 intro pins s σ H xs us Q I r h;obtain ⟨p,ys,rfl,h⟩:=h;obtain ⟨u,rfl,rx⟩:=fT r;cases rx;rcases h with ⟨hq,q⟩|⟨hq,q⟩
 ·obtain ⟨its,r',pl,hz⟩:=I.list hq
  have hlen:=r'.length;refine call_tuple_list pl.isList (fun h' kp=>?_) (by simp only [List.size_toArray]<;>lia)
  have I1:Inv X pins σ H { s with heap:=h' }:=I.kept (t':=s.toks) kp;have I2:Inv X pins σ (upd H h'.objs.size (.tup ys)) { s with heap:=h'.push { cls:=.type "tuple",data:=.seq its.toArray } }:=
   I1.laid (t':=s.toks) (fun b o e=>Heap.get?_push_of_some _ e) (Nat.le_refl _) (show ObjOk X.prog X.w _ _ _ (.tup ys) from ⟨hz,its,r',⟨_,Heap.get?_push_size _ rfl,⟨rfl,_,rfl⟩,rfl⟩⟩)
  exact ⟨.ref h'.objs.size,_,I2,rfl,q _ (I1.hok.fresh (Nat.le_refl _))⟩
 ·obtain ⟨its,r',pl,hz⟩:=I.tuple hq
  exact call_tuple_same pl ⟨.ref p,H,I,rfl,q⟩
def tyV(K:W.Frag)(T:String)(x:V)(H:Hp):Prop:=match x with
 |.str _=>T="str"
 |.int _=>T="int"
 |.ref p=>(T="list"/\∃xs,SqL K H p xs)\/(T="tuple"/\∃o,K.lookup p=some o/\o.cls=.type "tuple"/\o.dict=none)\/
   (T="dict"/\((∃kvs,H p=some (.dK kvs))\/∃kvs,H p=some (.dT kvs)))\/(T="set"/\∃S n,H p=some (.set S n))
 |_=>False
theorem x5{pins:List (Addr×Obj)}{σ:St}{H:Hp}{s:Shared}{T:String}{x:V}{v:Value}(I:Inv X pins σ H s)(r:RelV x v)(ty:tyV X.K T x H):
  s.TypeIs v T/\∀a,v=.ref a->∃ob,s.heap.get? a=some ob/\ob.dict=none:=by
 cases x with
 |str z=>
  obtain ⟨t,rfl⟩:=r;cases (show T="str" from ty);exact ⟨typeIs_str s z t,fun _ e=>nomatch e⟩
 |int i=>
  obtain ⟨t,rfl⟩:=r;cases (show T="int" from ty);exact ⟨typeIs_int s i t,fun _ e=>nomatch e⟩
 |ref p=>
  cases r;rcases ty with ⟨rfl,xs,hq⟩|⟨rfl,o,hk,hc,hd⟩|⟨rfl,hk⟩|⟨rfl,S,n,hk⟩
  ·obtain ⟨its,_,pl,_⟩:=I.list hq
   refine ⟨pl.isList.typeIs,fun a e=>?_⟩;cases e;obtain ⟨o,n,e,c,hd,_⟩:=pl;exact ⟨o,e,hd⟩
  ·refine ⟨⟨o,I.kIn p o hk,hc⟩,fun a e=>?_⟩
   cases e;exact ⟨o,I.kIn _ o hk,hd⟩
  ·have z:∃o,s.heap.get? p=some o/\o.ExactDict:=by
    rcases hk with ⟨kvs,hk⟩|⟨kvs,hk⟩
    ·obtain ⟨_,_,_,_,o,_,_,e,ex,_⟩:=I.hok p _ hk
     exact ⟨o,e,ex⟩
    ·obtain ⟨_,_,_,_,o,_,_,e,ex,_⟩:=I.hok p _ hk
     exact ⟨o,e,ex⟩
   obtain ⟨o,e,ex⟩:=z;refine ⟨⟨o,e,ex.1⟩,fun a e2=>?_⟩;cases e2;exact ⟨o,e,ex.2.1⟩
  ·obtain ⟨o,_,_,_,e,ex,_⟩:=I.hok p _ hk
   refine ⟨⟨o,e,ex.1⟩,fun a e2=>?_⟩;cases e2;exact ⟨o,e,ex.2.1⟩
 |_=>exact False.elim ty
def tBM(K:W.Frag)(T:String)(r:V->List V->Hp->VK->Prop)(to:TE)(t:TA):TE:=fun σ H Q=>to σ H fun x H1=>tyV K T x H1/\t σ H1 fun xs H2=>r x xs H2 Q
variable {o e:Expr}{es:List Expr}{to:TE}{t:TA}{name:Str}{apos cpos:Pos}{T id:String}{r:V->List V->Hp->VK->Prop}
theorem Cl(pa:PlainAttrs T)(slot:Slot T name id)(hty:typeOf (.builtin id)=pure (.type "method_descriptor"))(hm:zI X id r)(ho:PE X o to)(ha:PA X (e::es) t)
  (hbase:attributeBase o name X.env (eval o X.env)=eval o X.env:=by rfl)
  (hfew:((backTo cpos (starEach (e::es) X.env)).all (fun x=>!x.1)&&(backToKw cpos (keywordEach [] X.env)).all (fun x=>x.1.isSome)
   && decide ((e::es).length+([]:List Keyword).length+(if ([]:List Keyword).isEmpty then 0 else 1)<30))=true:=by rfl)
  (hline:(apos.endLine==cpos.line)=true:=by rfl) (hs:starEach (e::es) X.env=(false,eval e X.env)::starEach es X.env:=by rfl) (hplain:(backTo cpos (starEach es X.env)).any (·.1)=false:=by rfl):
  PE X (.Call (.Attribute o name apos) (e::es) [] cpos) (tBM X.K T r to t):=by
 intro pins s σ H Q I h;refine wpAny_Call_method_late hbase hfew hline rfl (thn (ho pins s σ H _ I h) fun v s1 ⟨x,H1,I1,r1,ty,q1⟩=>?_);obtain ⟨h1,h2⟩:=x5 I1 r1 ty;refine ⟨T,id,pa,slot,hty,h1,h2,?_⟩;have hA:=ha cpos pins s1 σ H1 _ I1 q1;rw [hs] at hA ⊢;refine Calls.callWith_builtin (by show (false||(backTo cpos (starEach es X.env)).any (·.1))=false;rw [hplain]<;>rfl) (Calls.evalArgs_plain ?_)
 exact thn hA fun us s2 ⟨vs,H2,I2,r2,q2⟩=>hm pins s2 σ H2 x vs v us Q I2 r1 r2 q2
end
end L2
namespace L2
open PySem PySem.Spec PyProof.Rows
def MtM(X:Cx)(id:String)(r:V->List V->Hp->VK->Prop):Prop:=
 ∀(pins:List (Addr×Obj)) (s:Shared) (σ:St) (H:Hp) (x:V) (xs:List V) (v:Value) (us:List Value) (Q:VK),Inv X pins σ H s->RelV x v->Vals xs us->r x xs H Q->
  wpAny (model X.prog X.w) X.A (call (.builtin id) (v::us)) (EP X pins σ Q) X.xe s
theorem Vals.one:∀{x:V} {us:List Value},Vals [x] us->∃u,us=[u]/\RelV x u
 |_,_,h=>by cases h with|cons r q=>cases q;exact ⟨_,rfl,r⟩
theorem Vals.two:∀{x y:V} {us:List Value},Vals [x,y] us->∃u v,us=[u,v]/\RelV x u/\RelV y v
 |_,_,_,h=>by cases h with|cons r q=>cases q with|cons q z=>cases z;exact ⟨_,_,rfl,r,q⟩
theorem Vals.zero:∀{us:List Value},Vals [] us->us=[]
 |_,.nil=>rfl
theorem Vals.rep{xs:List V}{us:List Value}(h:Vals xs us):∀k:Nat,Vals (List.replicate k xs).flatten (List.replicate k us).flatten
 |0=>.nil
 |k+1=>by
  rw [List.replicate_succ,List.replicate_succ,List.flatten_cons,List.flatten_cons];exact Vals.append h (Vals.rep h k)
section
variable {X:Cx}{pins:List (Addr×Obj)}{σ:St}{H:Hp}{s:Shared}{l b:Addr}{xs ys zs:List V}
theorem Inv.lset{its its':List Value}{n:Nat}{f:Array Value->Array Value}{t':Nat}(I:Inv X pins σ H s)(hH:H l=some (.lst xs))
  (e:s.heap.get? l=some { cls:=.type "list",data:=.seq its.toArray n }) (hf:f its.toArray=its'.toArray) (hv:Vals ys its') (hz:ys.length<=sizeLine):
  Inv X pins σ (upd H l (.lst ys)) { s with heap:=s.heap.update l (Obj.mapSeq f),toks:=t' }:=by
 have q:=PySem.IsL.update e f;rw [hf] at q;refine I.write (x:=l) (e:=l) (by rw [hH];exact trivial) (.inl rfl) (fun b' u hb hu=>(Heap.get?_update_other s.heap (Obj.mapSeq f) (Ne.symm hb)).trans hu) ⟨_,q⟩ ?_
 exact ⟨hz,its',_,hv,q⟩
theorem Inv.lnew{its:List Value}{t':Nat}(I:Inv X pins σ H s)(hv:Vals ys its)(hz:ys.length<=sizeLine):
  Inv X pins σ (upd H s.heap.objs.size (.lst ys)) { s with heap:=s.heap.push { cls:=.type "list",data:=.seq its.toArray },toks:=t' }:=
 I.laid (fun _ _ q=>Heap.get?_push_of_some _ q) (Nat.le_refl _) ⟨hz,its,0,hv,Heap.get?_push_size _ rfl⟩
theorem Inv.fresh(I:Inv X pins σ H s):H s.heap.objs.size=none:=I.hok.fresh (Nat.le_refl _)
theorem Inv.lstM(I:Inv X pins σ H s)(hH:H l=some (.lst xs)):xs.length<=sizeLine/\∃(its:List Value) (n:Nat),Vals xs its/\xs.length=its.length/\s.heap.get? l=some { cls:=.type "list",data:=.seq its.toArray n }:=by
 obtain ⟨z,its,n,r,e⟩:=I.hok l _ hH;exact ⟨z,its,n,r,r.length,e⟩
theorem ve{n:Nat}(h:n<=sizeLine):Builtin.List.listTooLong n=false:=by
 unfold Builtin.List.listTooLong;exact decide_eq_false (by lia)
end
section
variable {X:Cx}
def y8:V->List V->Hp->VK->Prop:=fun x vs H Q=>∃l xs y,x=.ref l/\vs=[y]/\H l=some (.lst xs)/\xs.length<sizeLine/\Q .non (upd H l (.lst (xs++[y])))
theorem tW:MtM X "list.append" y8:=by
 intro pins s σ H x vs v us Q I rx rv h;obtain ⟨l,xs,y,rfl,rfl,hH,hz,q⟩:=h;cases rx;obtain ⟨u,rfl,ru⟩:=rv.one;obtain ⟨z,its,n,r,hl,e⟩:=I.lstM hH;refine call_meets F.slot_list_append ⟨_,e,rfl⟩ F.entry_list_append (F.args_list_append_2 _ _) (PySem.list_append l its.toArray n u (by rw [List.size_toArray];lia)) ⟨e,?_⟩
 refine ⟨.non,_,I.lset (its':=its++[u]) hH e (by simp) (r.append (.cons ru .nil)) ?_,rfl,q⟩
 rw [List.length_append,List.length_singleton];lia
theorem yh{α:Type}(xs:List α)(k:Nat):(List.replicate k xs).flatten.length=k*xs.length:=by
 induction k with
 |zero=>simp
 |succ k ih=>rw [List.replicate_succ,List.flatten_cons,List.length_append,ih,Nat.succ_mul,Nat.add_comm]
end
section
variable {prog:Program}{w:World}{A:Around}{E:Value->Shared->Prop}{s:Shared}
set_option maxRecDepth 100000 in
end
section
variable {X:Cx}
end
end L2
namespace L2
open PySem PySem.Spec PyProof.Rows
section
variable {κ:Type}[DecidableEq κ]
def fj(kvs:List (κ×V))(k:κ):Option V:=(kvs.find? fun kv=>decide (kv.1=k)).map (·.2)
def cF(kvs:List (κ×V))(k:κ)(v:V):List (κ×V):=
 if (kvs.any fun kv=>decide (kv.1=k))=true then kvs.map (fun kv=>if kv.1=k then (kv.1,v) else kv) else kvs++[(k,v)]
theorem jp{p:κ×V}{r:List (κ×V)}{k:κ}(e:p.1=k):fj (p::r) k=some p.2:=by simp [fj,List.find?_cons,e]
theorem j8{p:κ×V}{r:List (κ×V)}{k:κ}(e:¬p.1=k):fj (p::r) k=fj r k:=by simp [fj,List.find?_cons,e]
theorem nC(k:κ):∀kvs:List (κ×V),(kvs.any fun kv=>decide (kv.1=k))=(fj kvs k).isSome
 |[]=>rfl
 |p::r=>by
  rw [List.any_cons]
  by_cases e:p.1=k
  ·simp only [jp e,decide_eq_true e,Bool.true_or,Option.isSome_some]
  ·rw [j8 e,decide_eq_false e,Bool.false_or];exact nC k r
theorem eu(kvs:List (κ×V))(k:κ)(v:V):(cF kvs k v).length<=kvs.length+1:=by
 unfold cF
 split
 ·rw [List.length_map];lia
 ·rw [List.length_append,List.length_cons,List.length_nil];lia
theorem RelO.isSome_eq{o:Option V}{u:Option Value}(r:RelO o u):o.isSome=u.isSome:=by
 cases o with
 |none=>cases u with
  |none=>rfl
  |some _=>exact (show False from r).elim
 |some _=>cases u with
  |none=>exact (show False from r).elim
  |some _=>rfl
theorem RelO.getD{o:Option V}{u:Option Value}{d:V}{d':Value}(r:RelO o u)(rd:RelV d d'):RelV (o.getD d) (u.getD d'):=by
 cases o with
 |none=>cases u with
  |none=>exact rd
  |some _=>exact (show False from r).elim
 |some _=>cases u with
  |none=>exact (show False from r).elim
  |some _=>exact r
theorem KV.val{kvs:List (κ×V)}{vs:List (κ×Value)}(r:KV kvs vs)(k:κ):RelO (fj kvs k) (valueAt vs k):=by
 unfold KV at r
 induction r with
 |nil=>exact True.intro
 |@cons p q ps qs h t ih=>
  obtain ⟨h1,h2⟩:=h
  by_cases e:p.1=k
  ·have e':q.1=k:=h1.symm.trans e
   have b:valueAt (q::qs) k=some q.2:=by simp [valueAt,List.find?_cons,e']
   rw [jp e,b];exact h2
  ·have e':¬q.1=k:=fun z=>e (h1.trans z)
   have b:valueAt (q::qs) k=valueAt qs k:=by simp [valueAt,List.find?_cons,e']
   rw [j8 e,b];exact ih
theorem KV.any{kvs:List (κ×V)}{vs:List (κ×Value)}(r:KV kvs vs)(k:κ):(kvs.any fun kv=>decide (kv.1=k))=vs.any fun kv=>decide (kv.1=k):=by
 unfold KV at r
 induction r with
 |nil=>rfl
 |cons h t ih=>rw [List.any_cons,List.any_cons,ih,h.1]
theorem KV.repl{kvs:List (κ×V)}{vs:List (κ×Value)}(r:KV kvs vs)(k:κ){y:V}{u:Value}(ry:RelV y u):
  KV (kvs.map fun kv=>if kv.1=k then (kv.1,y) else kv) (vs.map fun kv=>if kv.1=k then (kv.1,u) else kv):=by
 unfold KV at r ⊢
 induction r with
 |nil=>exact .nil
 |@cons p q ps qs h t ih=>
  rw [List.map_cons,List.map_cons];refine .cons ?_ ih;obtain ⟨h1,h2⟩:=h
  by_cases e:p.1=k
  ·rw [if_pos e,if_pos (h1.symm.trans e)];exact ⟨h1,ry⟩
  ·rw [if_neg e,if_neg (fun z=>e (h1.trans z))];exact ⟨h1,h2⟩
theorem KV.put{kvs:List (κ×V)}{vs:List (κ×Value)}(r:KV kvs vs)(k:κ){y:V}{u:Value}(ry:RelV y u):KV (cF kvs k y) (stored vs k u):=by
 unfold cF stored;rw [r.any k]
 by_cases e:(vs.any fun kv=>decide (kv.1=k))=true
 ·rw [if_pos e,if_pos e];exact r.repl k ry
 ·rw [if_neg e,if_neg e];exact Paired.snoc r ⟨rfl,ry⟩
theorem KV.length{kvs:List (κ×V)}{vs:List (κ×Value)}(r:KV kvs vs):kvs.length=vs.length:=Paired.length r
end
theorem h_{P:Program}{w:World}{k:au}{u:Value}(r:RelV (kV k) u):(aO P w).is k u=true:=by
 cases k with
 |inl i=>obtain ⟨t,e⟩:=(show ∃t,u=Value.int i t from r);subst e;exact oC P w i t
 |inr x=>obtain ⟨t,e⟩:=(show ∃t,u=Value.str x t from r);subst e;exact oM P w x t
theorem kn{P:Program}{w:World}:∀{ks:List au} {us:List Value},Vals (ks.map kV) us->ItemsAre (aO P w) ks us
 |[],_,r=>by rw [List.map_nil] at r;cases r;exact .nil
 |k::ks,_,r=>by
  rw [List.map_cons] at r;cases r with
  |cons h t=>exact .cons (h_ h) (kn t)
abbrev KT(H:Hp):List (List au×V)->List (List au×Addr×Value)->Prop:=Paired fun p q=>p.1=q.1/\H q.2.1=some (.tup (p.1.map kV))/\RelV p.2 q.2.2
theorem KT.val{H:Hp}{kvs:List (List au×V)}{xs:List (List au×Addr×Value)}(r:KT H kvs xs)(k:List au):RelO (fj kvs k) ((atKey xs k).map (·.2)):=by
 induction r with
 |nil=>exact True.intro
 |@cons p q ps qs h t ih=>
  obtain ⟨h1,_,h2⟩:=h
  by_cases e:p.1=k
  ·have e':q.1=k:=h1.symm.trans e
   have b:atKey (q::qs) k=some q.2:=by simp [atKey,List.find?_cons,e']
   rw [jp e,b];exact h2
  ·have e':¬q.1=k:=fun z=>e (h1.trans z)
   have b:atKey (q::qs) k=atKey qs k:=by simp [atKey,List.find?_cons,e']
   rw [j8 e,b];exact ih
theorem KT.repl{H:Hp}{kvs:List (List au×V)}{xs:List (List au×Addr×Value)}(r:KT H kvs xs)(k:List au){y:V}{u:Value}(ry:RelV y u):
  KT H (kvs.map fun kv=>if kv.1=k then (kv.1,y) else kv) (xs.map (putAt k u)):=by
 induction r with
 |nil=>exact .nil
 |@cons p q ps qs h t ih=>
  rw [List.map_cons,List.map_cons];refine .cons ?_ ih;obtain ⟨h1,h2,h3⟩:=h;unfold putAt
  by_cases e:p.1=k
  ·rw [if_pos e,if_pos (h1.symm.trans e)];exact ⟨h1,h2,ry⟩
  ·rw [if_neg e,if_neg (fun z=>e (h1.trans z))];exact ⟨h1,h2,h3⟩
theorem KT.put{H:Hp}{kvs:List (List au×V)}{xs:List (List au×Addr×Value)}(r:KT H kvs xs)(k:List au){b:Addr}{y:V}{u:Value}(hb:H b=some (.tup (k.map kV)))(ry:RelV y u):
  KT H (cF kvs k y) (storedH xs k b u):=by
 have e:(kvs.any fun kv=>decide (kv.1=k))=(atKey xs k).isSome:=by
  rw [nC,(r.val k).isSome_eq,Option.isSome_map]
 unfold cF storedH;rw [e]
 by_cases q:(atKey xs k).isSome=true
 ·rw [if_pos q,if_pos q];exact r.repl k ry
 ·rw [if_neg q,if_neg q];exact Paired.snoc r ⟨rfl,hb,ry⟩
theorem KT.keeps{H H':Hp}{kvs:List (List au×V)}{xs:List (List au×Addr×Value)}(r:KT H kvs xs)(ht:∀b ys,H b=some (.tup ys)->H' b=some (.tup ys)):KT H' kvs xs:=
 de r fun _ _ z=>⟨z.1,ht _ _ z.2.1,z.2.2⟩
section
variable {P:Program}{w:World}{H:Hp}{h:Heap}{a:Addr}
theorem zT{u:HO}(ok:HOk P w H h)(e:Rd H a u):ObjOk P w H h a u:=e.ok ok
theorem f_{kvs:List (au×V)}(ok:HOk P w H h)(e:Rd H a (.dK kvs)):kvs.length<=sizeLine/\(a==sysModules)=false/\∃vs,KV kvs vs/\h.DictOf (aO P w) a vs:=
 show ObjOk P w H h a (.dK kvs) from zT ok e
theorem Dq{kvs:List (au×V)}(ok:HOk P w H h)(e:H a=some (.dK kvs)):kvs.length<=sizeLine/\(a==sysModules)=false/\∃vs,KV kvs vs/\h.DictOf (aO P w) a vs:=f_ ok (.inl e)
theorem eI{ks:List au}(ok:HOk P w H h)(e:H a=some (.tup (ks.map kV))):(tupleKind (aO P w)).is h ks a:=by
 obtain ⟨_,its,r,o,h1,⟨h2,n,h3⟩,_⟩:=(show ObjOk P w H h a (.tup (ks.map kV)) from ok a _ e);exact ⟨o,its.toArray,n,h1,h2,h3,by simpa using kn r⟩
theorem hZ{kvs:List (List au×V)}(ok:HOk P w H h)(e:Rd H a (.dT kvs)):kvs.length<=sizeLine/\(a==sysModules)=false/\
  ∃xs,KT H kvs xs/\h.DictOfH (tupleKind (aO P w)) a xs:=by
 obtain ⟨z,y,xs,r,o,es,ep,h1,h2,h3,h4,h5⟩:=(show ObjOk P w H h a (.dT kvs) from zT ok e);refine ⟨z,y,xs,r,o,es,ep,h1,h2,h3,h4,fun x hx=>?_,h5⟩;have all:∀{l:List (List au×V)} {m:List (List au×Addr×Value)},KT H l m->∀x∈m,(tupleKind (aO P w)).is h x.1 x.2.1:=by
  intro l m q
  induction q with
  |nil=>intro x hx;exact nomatch hx
  |@cons p q ps qs hq t ih=>
   intro x hx;rcases List.mem_cons.mp hx with e|hx
   ·subst e
    exact eI ok (by rw [<- hq.1];exact hq.2.1)
   ·exact ih x hx
 exact all r x hx
theorem Ds{kvs:List (List au×V)}(ok:HOk P w H h)(e:H a=some (.dT kvs)):kvs.length<=sizeLine/\(a==sysModules)=false/\
  ∃xs,KT H kvs xs/\h.DictOfH (tupleKind (aO P w)) a xs:=hZ ok (.inl e)
end
def DGet(H:Hp)(a:Addr)(y:V)(r:Option V):Prop:=
 (∃kvs k,Rd H a (.dK kvs)/\y=kV k/\r=fj kvs k)\/∃kvs k b,Rd H a (.dT kvs)/\y=.ref b/\H b=some (.tup (k.map kV))/\r=fj kvs k
def DPut(H:Hp)(a:Addr)(y v:V)(H':Hp):Prop:=
 (∃kvs k,H a=some (.dK kvs)/\y=kV k/\kvs.length<sizeLine/\H'=upd H a (.dK (cF kvs k v)))\/
 ∃kvs k b,H a=some (.dT kvs)/\y=.ref b/\H b=some (.tup (k.map kV))/\kvs.length<sizeLine/\H'=upd H a (.dT (cF kvs k v))
theorem xc{H:Hp}{a:Addr}{kvs:List (au×V)}{k:au}(e:H a=some (.dK kvs)):DGet H a (kV k) (fj kvs k):=.inl ⟨kvs,k,.inl e,rfl,rfl⟩
theorem DGet.t{H:Hp}{a b:Addr}{kvs:List (List au×V)}{k:List au}(e:H a=some (.dT kvs))(eb:H b=some (.tup (k.map kV))):DGet H a (.ref b) (fj kvs k):=.inr ⟨kvs,k,b,.inl e,rfl,eb,rfl⟩
theorem Cb{H:Hp}{a:Addr}{kvs:List (au×V)}{k:au}{v:V}(e:H a=some (.dK kvs))(hl:kvs.length<sizeLine):DPut H a (kV k) v (upd H a (.dK (cF kvs k v))):=.inl ⟨kvs,k,e,rfl,hl,rfl⟩
theorem DPut.t{H:Hp}{a b:Addr}{kvs:List (List au×V)}{k:List au}{v:V}(e:H a=some (.dT kvs))(eb:H b=some (.tup (k.map kV)))(hl:kvs.length<sizeLine):
  DPut H a (.ref b) v (upd H a (.dT (cF kvs k v))):=.inr ⟨kvs,k,b,e,rfl,eb,hl,rfl⟩
section
variable {X:Cx}{pins:List (Addr×Obj)}{σ:St}{H:Hp}{s:Shared}{a:Addr}{y v:V}{u r:Value}{o:Option V}{A:Around}{E:Value->Shared->Prop}
theorem Inv.big(I:Inv X pins σ H s):sysModules<s.heap.objs.size:=by
 have h:mainGlobals<s.heap.objs.size:=(I.mod.glob.keeps I.bk).lt;exact Nat.lt_trans (by decide) h
theorem tZ{Q:Value->Shared->Prop}(hu:A.units+1<cLine)(I:Inv X pins σ H s)(g:DGet H a y (some v))(ry:RelV y u)(h:∀w' s',Inv X pins σ H s'->RelV v w'->Q w' s'):
  wpAny (model X.prog X.w) A (getItem (.ref a) u) Q E s:=by
 rcases g with ⟨kvs,k,e,ey,l⟩|⟨kvs,k,b,e,ey,eb,l⟩
 ·subst ey
  obtain ⟨z,hd,vs,rel,dd⟩:=f_ I.hok e;obtain ⟨w',hw,rw'⟩:=dS (v:=v) (o:=valueAt vs k) (by rw [l];exact rel.val k)
  exact wpAny_getItem_of (h_ ry) dd.mapOf hw (h w' _ (I.tok _) rw')
 ·subst ey
  cases (show u=Value.ref b from ry);obtain ⟨z,hd,xs,rel,dd⟩:=hZ I.hok e;obtain ⟨w',hw,rw'⟩:=dS (v:=v) (o:=(atKey xs k).map (·.2)) (by rw [l];exact rel.val k)
  obtain ⟨p,hp,hp2⟩:=Option.map_eq_some_iff.mp hw;refine wpAny_getItem_heap (tupleKind_room_in1 hu) (eI I.hok eb) dd hp ?_;rw [hp2];exact h w' _ (I.tok _) rw'
theorem D9{Q:Value->Shared->Prop}(hu:A.units+1<cLine)(I:Inv X pins σ H s)(g:DGet H a y o)(ry:RelV y u)(h:∀s',Inv X pins σ H s'->Q (.bool o.isSome) s'):
  wpAny (model X.prog X.w) A (compareOp .In u (.ref a)) Q E s:=by
 rcases g with ⟨kvs,k,e,ey,l⟩|⟨kvs,k,b,e,ey,eb,l⟩
 ·subst ey
  obtain ⟨z,hd,vs,rel,dd⟩:=f_ I.hok e;refine wpAny_in_of (h_ ry) hd dd.mapOf ?_;rw [<- (rel.val k).isSome_eq,<- l];exact h _ (I.tok _)
 ·subst ey
  cases (show u=Value.ref b from ry);obtain ⟨z,hd,xs,rel,dd⟩:=hZ I.hok e;refine wpAny_in_heap (tupleKind_room_in1 hu) (eI I.hok eb) hd dd ?_;have q:=(rel.val k).isSome_eq;rw [Option.isSome_map] at q;rw [<- q,<- l];exact h _ (I.tok _)
theorem rD{Q:Value->Shared->Prop}(hu:A.units+1<cLine)(I:Inv X pins σ H s)(g:DGet H a y o)(ry:RelV y u)(h:∀s',Inv X pins σ H s'->Q (.bool (!o.isSome)) s'):
  wpAny (model X.prog X.w) A (compareOp .NotIn u (.ref a)) Q E s:=by
 rcases g with ⟨kvs,k,e,ey,l⟩|⟨kvs,k,b,e,ey,eb,l⟩
 ·subst ey
  obtain ⟨z,hd,vs,rel,dd⟩:=f_ I.hok e;refine wpAny_notIn_of (h_ ry) hd dd.mapOf ?_;rw [<- (rel.val k).isSome_eq,<- l];exact h _ (I.tok _)
 ·subst ey
  cases (show u=Value.ref b from ry);obtain ⟨z,hd,xs,rel,dd⟩:=hZ I.hok e;refine wpAny_notIn_heap (tupleKind_room_in1 hu) (eI I.hok eb) hd dd ?_;have q:=(rel.val k).isSome_eq;rw [Option.isSome_map] at q;rw [<- q,<- l];exact h _ (I.tok _)
theorem sC{h':Heap}{t':Nat}{ob:HO}(I:Inv X pins σ H s)(mu:Cr (H a))(hs:Heap.SameBut a s.heap h')(he:∃q,h'.get? a=some q)(new:ObjOk X.prog X.w (upd H a ob) h' a ob):
  Inv X pins σ (upd H a ob) { s with heap:=h',toks:=t' }:=
 I.write (x:=a) (e:=a) mu (.inl rfl) (fun b q hb z=>(hs.2 b hb).trans z) he new
theorem wR{P:Program}{w:World}{H':Hp}{h':Heap}{kvs:List (au×V)}{vs:List (au×Value)}(z:kvs.length<=sizeLine)(hd:(a==sysModules)=false)(rel:KV kvs vs)(dd:h'.DictOf (aO P w) a vs):
  ObjOk P w H' h' a (.dK kvs):=⟨z,hd,vs,rel,dd⟩
theorem kg{H':Hp}{Q:Unit->Shared->Prop}(hu:A.units+1<cLine)(I:Inv X pins σ H s)(g:DPut H a y v H')(ry:RelV y u)(rv:RelV v r)(h:∀s',Inv X pins σ H' s'->Q () s'):
  wpAny (model X.prog X.w) A (setItem (.ref a) u r) Q E s:=by
 rcases g with ⟨kvs,k,e,ey,l,eH⟩|⟨kvs,k,b,e,ey,eb,l,eH⟩
 ·subst ey eH
  obtain ⟨z,hd,vs,rel,dd⟩:=Dq I.hok e;have hz:vs.length<=sizeLine:=by rw [<- rel.length];exact z
  have hl:(cF kvs k v).length<=sizeLine:=by have:=eu kvs k v;lia
  refine wpAny_setItem_pairs (hsz:=hz) (h_ ry) dd fun h' dd' hs=>h _ ?_;have he:∃q,h'.get? a=some q:=let ⟨q,_,_,hq,_⟩:=dd';⟨q,hq⟩;exact sC I (by rw [e];exact True.intro) hs he (wR hl hd (rel.put k rv) dd')
 ·subst ey eH
  cases (show u=Value.ref b from ry);obtain ⟨z,hd,xs,rel,dd⟩:=Ds I.hok e;have hz:xs.length<=sizeLine:=by rw [<- Paired.length rel];exact z
  have hl:(cF kvs k v).length<=sizeLine:=by have:=eu kvs k v;lia
  refine wpAny_setItem_heap (hsz:=hz) (tupleKind_room_in1 hu) (eI I.hok eb) dd fun h' dd' hs=>h _ ?_;obtain ⟨q,es,ep,hq,h2,h3,h4,_,h5⟩:=dd';refine sC I (by rw [e];exact True.intro) hs ⟨q,hq⟩ ⟨hl,hd,_,(rel.put k eb rv).keeps fun c ys ec=>?_,q,es,ep,hq,h2,h3,h4,h5⟩
  rw [upd_ne (Eh ec e (fun z=>nomatch z))];exact ec
end
section
variable {X:Cx}{pins:List (Addr×Obj)}{σ:St}{H:Hp}{s:Shared}{a:Addr}{kvs:List (au×V)}{k:au}{u:Value}{A:Around}{E:Value->Shared->Prop}
theorem Cq{Q:Value->Shared->Prop}(I:Inv X pins σ H s)(e:Rd H a (.dK kvs))(h:∀t s',Inv X pins σ H s'->Q (.int kvs.length t) s'):wpAny (model X.prog X.w) A (call (.builtin "len") [.ref a]) Q E s:=by
 obtain ⟨z,hd,vs,rel,dd⟩:=f_ I.hok e;refine call_len_dict hd dd (by rw [<- rel.length];rw [sizeLine_eq] at z;lia) ?_
 rw [<- rel.length];exact h _ _ (I.tok _)
end
theorem o8{X:Cx}{pins:List (Addr×Obj)}{σ:St}{H:Hp}{s:Shared}{a:Addr}{y:V}{o:Option V}(I:Inv X pins σ H s)(g:DGet H a y o):s.TypeIs (.ref a) "dict":=by
 rcases g with ⟨kvs,k,e,_,_⟩|⟨kvs,k,b,e,_,_,_⟩
 ·obtain ⟨_,_,vs,_,dd⟩:=f_ I.hok e
  exact dd.typeIs
 ·obtain ⟨_,_,xs,_,dd⟩:=hZ I.hok e
  exact dd.typeIs
section
variable {X:Cx}{o i e value:Expr}{pos pos' tpos:Pos}{td ty tv:TE}
end
theorem uP{P:Program}{w:World}{H:Hp}(h:Heap)(hb:sysModules<h.objs.size):ObjOk P w H (h.push { cls:=.type "dict",data:=.dict #[] }) h.objs.size (.dT []):=
 ⟨Nat.zero_le _,beq_eq_false_iff_ne.mpr (Ne.symm (Nat.ne_of_lt hb)),[],.nil,_,#[],0,Heap.get?_push_size _ rfl,⟨rfl,rfl,rfl⟩,rfl,rfl,List.nodup_nil⟩
def BC:TE:=fun _ H Q=>∀p,H p=none->Q (.ref p) (upd H p (.dT []))
section
variable {X:Cx}{pos:Pos}
theorem vS:PE X (.Dict [] [] pos) BC:=fun pins s σ H Q I h=>
 wpAny_Dict_empty ⟨.ref s.heap.objs.size,_,I.laid (a:=s.heap.objs.size) (o:=.dT []) (t':=s.toks) (fun _ _ q=>Heap.get?_push_of_some _ q) (Nat.le_refl _) (uP s.heap I.big),rfl,h _ (I.hok.fresh (Nat.le_refl _))⟩
end
structure M1(X:Cx)(o:Expr)(m:Str)(apos:Pos)(e:Expr)(cpos:Pos):Prop where
 base:attributeBase o m X.env (eval o X.env)=eval o X.env
 few:((backTo cpos (starEach [e] X.env)).all (fun x=>!x.1)&&(backToKw cpos (keywordEach [] X.env)).all (fun x=>x.1.isSome)
  && decide (([e]:List Expr).length+([]:List Keyword).length+(if ([]:List Keyword).isEmpty then 0 else 1)<30))=true
 line:(apos.endLine==cpos.line)=true
 trees:backTo cpos (starEach [e] X.env)=[(false,eval e X.env)]
structure M2(X:Cx)(o:Expr)(m:Str)(apos:Pos)(e f:Expr)(cpos:Pos):Prop where
 base:attributeBase o m X.env (eval o X.env)=eval o X.env
 few:((backTo cpos (starEach [e,f] X.env)).all (fun x=>!x.1)&&(backToKw cpos (keywordEach [] X.env)).all (fun x=>x.1.isSome)
  && decide (([e,f]:List Expr).length+([]:List Keyword).length+(if ([]:List Keyword).isEmpty then 0 else 1)<30))=true
 line:(apos.endLine==cpos.line)=true
 trees:backTo cpos (starEach [e,f] X.env)=[(false,eval e X.env),(false,eval f X.env)]
def IsD(H:Hp)(a:Addr):Prop:=(∃kvs,Rd H a (.dK kvs))\/∃kvs,Rd H a (.dT kvs)
theorem vi{X:Cx}{pins:List (Addr×Obj)}{σ:St}{H:Hp}{s:Shared}{a:Addr}(I:Inv X pins σ H s)(d:IsD H a):
  s.TypeIs (.ref a) "dict"/\(∀b,Value.ref a=.ref b->∃ob,s.heap.get? b=some ob/\ob.dict=none)/\(a==sysModules)=false:=by
 rcases d with ⟨kvs,e⟩|⟨kvs,e⟩
 ·obtain ⟨_,hd,vs,_,dd⟩:=f_ I.hok e
  refine ⟨dd.typeIs,fun b q=>?_,hd⟩;cases q;obtain ⟨ob,_,_,h1,h2,_⟩:=dd;exact ⟨ob,h1,h2.2.1⟩
 ·obtain ⟨_,hd,xs,_,dd⟩:=hZ I.hok e
  refine ⟨dd.typeIs,fun b q=>?_,hd⟩;cases q;obtain ⟨ob,_,_,h1,h2,_⟩:=dd;exact ⟨ob,h1,h2.2.1⟩
section
variable {X:Cx}{pins:List (Addr×Obj)}{σ:St}{H:Hp}{s:Shared}{a:Addr}{y d:V}{u r:Value}{o:Option V}{A:Around}{E:Value->Shared->Prop}
theorem AU{Q:Value->Shared->Prop}(hu:A.units+1<cLine)(I:Inv X pins σ H s)(g:DGet H a y o)(ry:RelV y u)(h:∀w' s',Inv X pins σ H s'->RelV (o.getD .non) w'->Q w' s'):
  wpAny (model X.prog X.w) A (call (.builtin "dict.get") [.ref a,u]) Q E s:=by
 rcases g with ⟨kvs,k,e,ey,l⟩|⟨kvs,k,b,e,ey,eb,l⟩
 ·subst ey
  obtain ⟨z,hd,vs,rel,dd⟩:=f_ I.hok e;refine call_meetsIn PySem.F.slot_dict_get dd.typeIs PySem.F.entry_dict_get (PySem.F.args_dict_get_2 _ _) (meets_dict_get (aO X.prog X.w) a (h_ ry) hd) ⟨_,dd.mapOf,h _ _ (I.tok _) ?_⟩;rw [l];exact (rel.val k).getD rfl
 ·subst ey
  cases (show u=Value.ref b from ry);obtain ⟨z,hd,xs,rel,dd⟩:=hZ I.hok e;refine call_meetsIn PySem.F.slot_dict_get dd.typeIs PySem.F.entry_dict_get (PySem.F.args_dict_get_2 _ _) (meetsH_dict_get (tupleKind (aO X.prog X.w)) a b hd) ⟨tupleKind_room_in1 hu,k,xs,eI I.hok eb,dd,h _ _ (I.tok _) ?_⟩;rw [l];exact (rel.val k).getD rfl
theorem Az{Q:Value->Shared->Prop}(hu:A.units+1<cLine)(I:Inv X pins σ H s)(g:DGet H a y o)(ry:RelV y u)(rd:RelV d r)(h:∀w' s',Inv X pins σ H s'->RelV (o.getD d) w'->Q w' s'):
  wpAny (model X.prog X.w) A (call (.builtin "dict.get") [.ref a,u,r]) Q E s:=by
 rcases g with ⟨kvs,k,e,ey,l⟩|⟨kvs,k,b,e,ey,eb,l⟩
 ·subst ey
  obtain ⟨z,hd,vs,rel,dd⟩:=f_ I.hok e;refine call_meetsIn PySem.F.slot_dict_get dd.typeIs PySem.F.entry_dict_get (PySem.F.args_dict_get_3 _ _ _) (meets_dict_get_default (aO X.prog X.w) a (h_ ry) hd r) ⟨_,dd.mapOf,h _ _ (I.tok _) ?_⟩;rw [l];exact (rel.val k).getD rd
 ·subst ey
  cases (show u=Value.ref b from ry);obtain ⟨z,hd,xs,rel,dd⟩:=hZ I.hok e;refine call_meetsIn PySem.F.slot_dict_get dd.typeIs PySem.F.entry_dict_get (PySem.F.args_dict_get_3 _ _ _) (meetsH_dict_get_default (tupleKind (aO X.prog X.w)) a b hd r) ⟨tupleKind_room_in1 hu,k,xs,eI I.hok eb,dd,h _ _ (I.tok _) ?_⟩;rw [l];exact (rel.val k).getD rd
end
def AD(td ty:TE):TE:=fun σ H Q=>td σ H fun x H1=>∃a,x=.ref a/\IsD H1 a/\ty σ H1 fun y H2=>∃o,DGet H2 a y o/\Q (o.getD .non) H2
def AR(td ty tx:TE):TE:=fun σ H Q=>td σ H fun x H1=>∃a,x=.ref a/\IsD H1 a/\ty σ H1 fun y H2=>tx σ H2 fun z H3=>∃o,DGet H3 a y o/\Q (o.getD z) H3
section
variable {X:Cx}{o e f:Expr}{apos cpos:Pos}{td ty tx:TE}
theorem vY(hu:X.A.units+1<cLine)(ho:PE X o td)(he:PE X e ty)(m:M1 X o "get" apos e cpos):PE X (.Call (.Attribute o "get" apos) [e] [] cpos) (AD td ty):=by
 intro pins s σ H Q I h;refine wpAny_Call_method m.base m.few m.line PySem.F.plainAttrs_dict PySem.F.slot_dict_get PySem.F.type_dict_get (thn (ho pins s σ H _ I h) fun u s1 ⟨x,H1,I1,rx,a,ex,d,q1⟩=>?_);subst ex;obtain rfl:u=Value.ref a:=rx;obtain ⟨t1,t2,_⟩:=vi I1 d;refine ⟨t1,t2,?_⟩;rw [m.trees];refine Calls.callWith_builtin rfl (Calls.evalArgs_plain (Calls.spliced_cons (thn (he pins s1 σ H1 _ I1 q1) fun iv s2 ⟨y,H2,I2,ry,ov,g,q2⟩=>Calls.spliced_nil ?_)));exact AU hu I2 g ry fun w' s3 I3 rw'=>⟨_,H2,I3,rw',q2⟩
theorem vq(hu:X.A.units+1<cLine)(ho:PE X o td)(he:PE X e ty)(hf:PE X f tx)(m:M2 X o "get" apos e f cpos):PE X (.Call (.Attribute o "get" apos) [e,f] [] cpos) (AR td ty tx):=by
 intro pins s σ H Q I h;refine wpAny_Call_method m.base m.few m.line PySem.F.plainAttrs_dict PySem.F.slot_dict_get PySem.F.type_dict_get (thn (ho pins s σ H _ I h) fun u s1 ⟨x,H1,I1,rx,a,ex,d,q1⟩=>?_);subst ex;obtain rfl:u=Value.ref a:=rx;obtain ⟨t1,t2,_⟩:=vi I1 d;refine ⟨t1,t2,?_⟩;rw [m.trees];refine Calls.callWith_builtin rfl (Calls.evalArgs_plain (Calls.spliced_cons (thn (he pins s1 σ H1 _ I1 q1) fun iv s2 ⟨y,H2,I2,ry,q2⟩=>
  Calls.spliced_cons (thn (hf pins s2 σ H2 _ I2 q2) fun fv s3 ⟨z,H3,I3,rz,ov,g,q3⟩=>Calls.spliced_nil ?_))))
 exact Az hu I3 g ry rz fun w' s4 I4 rw'=>⟨_,H3,I4,rw',q3⟩
end
section
variable {X:Cx}{pins:List (Addr×Obj)}{σ:St}{H:Hp}{s:Shared}{a:Addr}{kvs:List (au×V)}{A:Around}{E:Value->Shared->Prop}
end
section
variable {X:Cx}{pins:List (Addr×Obj)}{σ:St}{H:Hp}{s:Shared}{a:Addr}{y:V}{u:Value}{A:Around}{E:Value->Shared->Prop}
end
end L2
namespace Att
open PySem PySem.W PySem.Calls PyProof.Rows
theorem ip{P:Params}{h:Heap}:∀(ns:List Int) (vs:List Value),WellAll P h vs (ns.map WData.int)->IntsAre vs ns:=by
 intro ns
 induction ns with
 |nil=>
  intro vs w;rw [List.map_nil] at w;cases w;exact .nil
 |cons n ns ih=>
  intro vs w;rw [List.map_cons] at w;cases w with
  |cons a b=>
   cases a;exact .cons _ _ (ih _ b)
theorem t3{l:OpenLaw}{n:Nat}(hn:l.most=some n){P:Params}{h:Heap}{args:List WData}{vals:List Value}
  (hpre:l.row.toRowW.claim.pre args=true) (hwl:WellAll P h vals args):
  ∃a vs ns,vals=[Value.ref a]/\args=[WData.list (ns.map WData.int)]/\h.get? a=some { cls:=.type "list",data:=.seq vs.toArray }/\IntsAre vs ns/\ns.length<=n:=by
 have hsh:WShape.hasAll [] args [.list .int]=true:=(pre_splitW hpre).1;have hc:l.pre.holds [] { args:=args }=true:=(pre_splitW hpre).2;obtain ⟨d,r,rfl,h1,h2⟩:=hasAllW_cons hsh;obtain rfl:=hasAllW_nil h2;obtain ⟨xs,rfl,h3⟩:=hasW_list h1;obtain ⟨ns,rfl⟩:=items_int h3;have hlen:ns.length<=n:=by
  unfold OpenLaw.pre at hc;have h4:(WTm.not (.lt (.lit (.int (n:Int))) (.len (.arg 0)))).holds [] { args:=[.list (ns.map .int)] }=true:=by
   have h4:=(holds_andW hc).1;rw [hn] at h4;exact h4
  have h5:=condW_of h4 (w_not (w_lt w_lit (w_len_list (w_arg rfl))));rw [List.length_map] at h5;refine Nat.le_of_not_lt fun q=>?_;have q':(n:Int)<((ns.length:Nat):Int):=by lia
  first
   |(rw [decide_eq_true q'] at h5;exact absurd h5 (by decide))
   |(simp at h5;lia)
 cases hwl with
 |cons w1 w2=>
  cases w2;cases w1 with
  |list ho hall=>exact ⟨_,_,ns,rfl,rfl,ho,ip ns _ hall,hlen⟩
theorem tD(l:OpenLaw)(args:List WData):l.row.toRowW.claim.post args (.bool true) args=true:=
 postW_of (r:=l.row.toRowW) (X:=(true==true))
  (show WShape.has [] (.bool true) .bool=true by first|rfl|decide|simp [WShape.has,WShape.arms,WShape.armsAll])
  (show (WTm.eq .res (.lit (.bool true))).value [] { args:=args,res:=some (.bool true),after:=args }=some (.bool (true==true)) from w_eq_bool (w_res rfl) w_lit) rfl
theorem nG{l:OpenLaw}{n:Nat}{q:Program}{loose:List Str}{XP:(Str->Option Value)->Heap->Prop}{YP:World->Heap->Prop}{d:DefRec}
  (hn:l.most=some n) (hdf:d.params.defaults=[])
  (call:∀(w:World) (s₀ s₁:Shared) (mg mb:Str->Option Value) (fa:Addr) (o:Obj) (pm cd doc:Value) (a:Addr) (vs:List Value) (ns:List Int),
   Ground q loose [] XP w s₀ mg mb s₁.heap->YP w s₁.heap->
   s₁.heap.get? fa=some o->o.data=.func (docDef d.name d.params d.body d.scope pm cd doc)->s₁.heap.CodeRec cd d.name->mg d.name=some (.ref fa)->
   s₁.heap.get? a=some { cls:=.type "list",data:=.seq vs.toArray }->IntsAre vs ns->ns.length<=n->s₁.gens=#[]->
   codeAny (model l.prog w) callerA (.call (.ref fa) ⟨[.ref a],[]⟩) (fun r s'=>r=.ok (.ret (.bool true))/\OldK s₁.heap s'.heap/\s'.os=s₁.os/\AllBare s'.gens) s₁):
  WalkO q loose XP YP l.row.toRowW d [] (fun f vs=>PySem.call f vs):=by
 intro w s₀ s₁ mg mb G Y fa o pm cd doc dV kV ho hd hcd hD hmg hg args vals as hpre hlay hrd hwl hlo;obtain rfl:dV=.none:=Dflts.none hD hdf;obtain rfl:kV=.none:=Dflts.noKw hD;obtain ⟨a,vs,ns,rfl,rfl,hobj,hints,hlen⟩:=t3 hn hpre hwl;refine enter_call (codeAny_mono (call w s₀ s₁ mg mb fa o pm cd doc a vs ns G Y ho (fd_plain hd) hcd hmg hobj hints hlen hg) fun r s' hq=>?_);obtain ⟨rfl,h2,h3,h4⟩:=hq;exact ⟨.inl ⟨.bool true,.bool true,[],rfl,fun _=>rfl,.bool true,tD l _,fun _=>⟨List.Pairwise.nil,fun _ hm=>(nomatch hm)⟩⟩,h2,h3,h4⟩
section
variable {prog:Program}{w:World}{A:Around}{E:Value->Shared->Prop}{s:Shared}{K:Frag}
end
end Att
namespace L2
open PySem PySem.Spec PyProof.Rows
theorem kJ:∀{vs:List Value} {ns:List Int},IntsAre vs ns->Vals (ns.map V.int) vs
 |_,_,.nil=>.nil
 |_,_,.cons n t h=>.cons ⟨t,rfl⟩ (kJ h)
def ug(H:Hp):Prop:=∀b,H b=none\/∃o xs,H b=some (.frz o (.lst xs))
theorem uL{P:Program}{w:World}{K:W.Frag}{mg mb:Str->Option Value}{CX:nW}{k:Nat}{fa a:Addr}{fd:FuncData}{x:Str}{sp:Sp}{s₁:Shared}{vs:List Value}{ns:List Int}
  (KX:K.In s₁.heap) (hns:s₁.heap.Ns mainGlobals mg) (hb:s₁.heap.Ns builtinsNs mb) (hbb:∀x:Str,x≠"__name__"->mb x=bootBuiltins x) (hlim:s₁.heap.NoLimit) (hg:s₁.gens=#[])
  (ha:s₁.heap.get? a=some { cls:=.type "list",data:=.seq vs.toArray }) (hi:IntsAre vs ns) (hl:ns.length<=sizeLine) (hr:Room k callerA)
  (F:∀base:Heap,K.In base->base.Ns mainGlobals mg->FnOk P w K mg base CX k fa fd [x] sp) (hbind:∀(s:Shared) (u:Value),BindsTo s fd ⟨[u],[]⟩ [(x,u)])
  (hsp:∀H:Hp,ug H->SqL K H a (ns.map V.int)->sp [.ref a] H (fun v _=>v=.bl true) fun _ _ _=>False)
  (hCX:∀H e s',CX [] H s₁ (fun _ _ _=>False) e s'->False):
  codeAny (model P w) callerA (.call (.ref fa) ⟨[.ref a],[]⟩) (fun r s'=>r=.ok (.ret (.bool true))/\OldK s₁.heap s'.heap/\s'.os=s₁.os/\AllBare s'.gens) s₁:=by
 have rv:=kJ hi;have lenV:=hi.length
 -- from an abstract heap in which nothing but the script may be tracked
 have core:∀H:Hp,ug H->SqL K H a (ns.map V.int)->HOk P w H s₁.heap->(∀b,H b≠none->b=a)->(H a≠none->K.lookup a=none)->
   codeAny (model P w) callerA (.call (.ref fa) ⟨[.ref a],[]⟩) (fun r s'=>r=.ok (.ret (.bool true))/\OldK s₁.heap s'.heap/\s'.os=s₁.os/\AllBare s'.gens) s₁:=by
  intro H hO hS hok hA hK;have base_of:∀{b:Addr} {o:Obj},s₁.heap.get? b=some o->H b=none->(lQ s₁.heap H).get? b=some o:=fun e n=>vJ e n;have noA:∀{b:Addr} {o:Obj} {es:Array DictEntry} {ep:Nat},s₁.heap.get? b=some o->o.data=.dict es ep->H b=none:=fun {b o es ep} e d=>by
   cases q:H b with
   |none=>rfl
   |some u=>
    have e':b=a:=hA b (by rw [q];simp)
    subst e';rw [ha] at e;cases e;have d':Data.seq vs.toArray _=Data.dict es ep:=d;cases d'
  have nsK:∀{b:Addr} {m:Str->Option Value},s₁.heap.Ns b m->(lQ s₁.heap H).Ns b m:=fun {b m} ⟨o,es,ep,e,d,r⟩=>⟨o,es,ep,base_of e (noA e d),d,r⟩;have hKb:K.In (lQ s₁.heap H):=fun b o e=>base_of (KX b o e) (by
   cases q:H b with
   |none=>rfl
   |some u=>
    have e':b=a:=hA b (by rw [q];simp)
    subst e';rw [hK (by rw [q];simp)] at e;cases e)
  have hM:Mod K mg (lQ s₁.heap H):=⟨hKb,nsK hns,⟨mb,nsK hb,hbb⟩,let ⟨mc,h1,h2⟩:=hlim;⟨mc,nsK h1,h2⟩⟩;have e0:Env0 P w K mg (lQ s₁.heap H) callerA [] s₁ H:=⟨rfl,hM,fun b o e=>xz e,Nat.le_of_eq (sW _ _),trivial,fun b hb=>absurd (show b∈([]:List Addr) from hb) (by simp),hok,.of_eq hg⟩
  refine codeAny_mono ((F _ hKb (nsK hns)).run callerA [] s₁ H ⟨[.ref a],[]⟩ [.ref a] [.ref a] _ _ hr e0 (hbind s₁ (.ref a)) (.cons rfl .nil) (hsp H hO hS)) fun r s' h=>?_;cases r with
  |error e=>exact (hCX H e s' h).elim
  |ok fl=>
   cases fl with
   |next=>exact False.elim h
   |brk=>exact False.elim h
   |cont=>exact False.elim h
   |ret u=>
    obtain ⟨v,H',os,bare,un,hok',r',q⟩:=h;have q':v=.bl true:=q;subst q';obtain rfl:u=Value.bool true:=r';refine ⟨rfl,OldK.of_keep fun b o e=>?_,os,bare⟩;cases q:H b with
    |none=>exact un.keep b o e q (by intro z;exact absurd (show b∈([]:List Addr) from z) (by simp)) (by simp)
    |some u=>
     rcases hO b with z|⟨ob,xs,z⟩
     ·rw [q] at z;cases z
     ·have z2:=un.frzs b ob _ z
      obtain ⟨e1,_⟩:=hok b _ z;obtain ⟨e2,_⟩:=hok' b _ z2;rw [e] at e1;cases e1;exact e2
 cases hk:K.lookup a with
 |some o=>
  -- the script is one of the module's own objects
  have e:=KX a o hk;rw [ha] at e;cases e;refine core (fun _=>none) (fun _=>.inl rfl) (.inr ⟨_,vs.toArray,_,hk,rfl,rfl,rfl,by rw [List.size_toArray,lenV];exact hl,by simpa using rv⟩) (fun b u z=>by have z':(none:Option HO)=some u:=z;cases z') (fun b z=>absurd rfl z) fun z=>absurd rfl z
 |none=>
  refine core (fun b=>if b=a then some (.frz { cls:=.type "list",data:=.seq vs.toArray } (.lst (ns.map V.int))) else none) (fun b=>?_) (.inl (.inr ⟨{ cls:=.type "list",data:=.seq vs.toArray },if_pos rfl⟩)) (fun b u z=>?_) (fun b z=>?_) fun _=>hk
  ·by_cases hb:b=a
   ·exact .inr ⟨_,_,if_pos hb⟩
   ·exact .inl (if_neg hb)
  ·by_cases hb:b=a
   ·have z':=(if_pos hb).symm.trans z
    cases z';subst hb;exact ⟨ha,by rw [List.length_map];exact hl,vs,_,rv,ha⟩
   ·have z':=(if_neg hb).symm.trans z
    cases z'
  ·by_cases hb:b=a
   ·exact hb
   ·exact absurd (if_neg hb) z
end L2
namespace L2
open PySem PySem.Spec PyProof.Rows
theorem yF{l:W.OpenLaw}{n k:Nat}{q:Program}{loose:List Str}{XP:(Str->Option Value)->Heap->Prop}{YP:World->Heap->Prop}{d:DefRec}{K:Params->W.Frag}{CX:World->nW}{sp:World->Sp}{x:Str}
  (hn:l.most=some n) (hn2:n<=sizeLine) (hdf:d.params.defaults=[]) (hr:Room k callerA)
  (hY:∀(w:World) (h:Heap),YP w h->(K w.params).In h)
  (F:∀(w:World) (mg:Str->Option Value) (fa:Addr) (h:Heap),(K w.params).In h->h.Ns mainGlobals mg->mg d.name=some (.ref fa)->
   ∃fd:FuncData,(∀(s:Shared) (u:Value),BindsTo s fd ⟨[u],[]⟩ [(x,u)])/\
    ∀base:Heap,(K w.params).In base->base.Ns mainGlobals mg->FnOk l.prog w (K w.params) mg base (CX w) k fa fd [x] (sp w))
  (hsp:∀(w:World) (H:Hp) (a:Addr) (ns:List Int),ns.length<=n->ug H->SqL (K w.params) H a (ns.map V.int)->sp w [.ref a] H (fun v _=>v=.bl true) fun _ _ _=>False)
  (hCX:∀(w:World) (H:Hp) (s:Shared) (e:Value) (s':Shared),CX w [] H s (fun _ _ _=>False) e s'->False):
  W.WalkO q loose XP YP l.row.toRowW d [] (fun f vs=>PySem.call f vs):=by
 refine Att.nG hn hdf fun w s₀ s₁ mg mb fa o pm cd doc a vs ns G Y ho hd hcd hmg hobj hints hlen hg=>?_;have KX:=hY w _ Y;obtain ⟨fd,hb,hF⟩:=F w mg fa _ KX G.T.g hmg;exact uL KX G.T.g G.T.b G.T.builtins G.T.nolimit hg hobj hints (Nat.le_trans hlen hn2) hr hF hb (fun H hO hS=>hsp w H a ns hlen hO hS) fun H e s'=>hCX w H s₁ e s'
end L2
namespace L2
open PySem PySem.Spec PyProof.Rows
def eW(s:Stmt)(j:Nat):Stmt:=match s with
 |.ClassDef _ _ _ body _ _ _ _ _ _ _=>body.getD j (.Pass ⟨0,0,0,0⟩)
 |_=>.Pass ⟨0,0,0,0⟩
def eY(s:Stmt):Arguments:=match s with
 |.FunctionDef _ a _ _ _ _ _ _ _ _=>a
 |_=>{ posonlyargs:=[],args:=[],vararg:=none,kwonlyargs:=[],kw_defaults:=[],kwarg:=none,defaults:=[] }
def dQ(s:Stmt):List Stmt:=match s with
 |.FunctionDef _ _ b _ _ _ _ _ _ _=>b
 |_=>[]
def ar(s:Stmt):Scope:=match s with
 |.FunctionDef _ _ _ _ _ _ sc _ _ _=>sc
 |_=>{ kind:=.function,names:=[],isGenerator:=false,isCoroutine:=false }
abbrev CX0:nW:=fun _ _ _ _ _ _=>False
abbrev E0:XK:=fun _ _ _=>False
structure Fun(K:W.Frag)(x qual:Str)(st:Stmt)(f:Addr)(fd:FuncData):Prop where
 ex:∃(oc:Value) (od:Option Addr) (kV doc pm:Value) (an:Option Addr) (cdv ct:Value) (osl:Array (Option Value)),
  fd=W.fnOf x qual (eY st) (dQ st) (ar st) .none kV doc pm an cdv ct/\K.lookup f=some ⟨oc,od,.func fd,osl⟩/\W.codeIn K cdv qual=true
 kp:W.keepIn K (.ref f)=true
section
variable {P:Program}{w:World}{K:W.Frag}{mg:Str->Option Value}{base:Heap}
theorem Fun.binds{x qual:Str}{st:Stmt}{f:Addr}{fd:FuncData}{ps:List Str}(F:Fun K x qual st f fd)
  (h:∀(kV doc pm:Value) (an:Option Addr) (cdv ct:Value) (us:List Value),us.length=ps.length->bindArgs (W.fnOf x qual (eY st) (dQ st) (ar st) .none kV doc pm an cdv ct) ⟨us,[]⟩=pure (ps.zip us)):Binds K fd ps []:=by
 obtain ⟨oc,od,kV,doc,pm,an,cdv,ct,osl,rfl,lk,hcd⟩:=F.ex;exact .all (h kV doc pm an cdv ct)
theorem v5{x qual:Str}{st:Stmt}{f:Addr}{oc:Value}{od an:Option Addr}{osl:Array (Option Value)}{kV doc pm cdv ct:Value}(l:K.lookup f=some ⟨oc,od,.func (W.fnOf x qual (eY st) (dQ st) (ar st) .none kV doc pm an cdv ct),osl⟩)
  (c:W.codeIn K cdv qual=true) (k:W.keepIn K (.ref f)=true):Fun K x qual st f (W.fnOf x qual (eY st) (dQ st) (ar st) .none kV doc pm an cdv ct):=⟨⟨oc,od,kV,doc,pm,an,cdv,ct,osl,rfl,l,c⟩,k⟩
end
theorem bn{A:Around}{k:Nat}(hr:Room k A):A.units+1<cLine:=Nat.lt_of_le_of_lt (Nat.add_le_add_left (by decide:1<=64) _) hr.units
section
variable {X:Cx}
theorem tI:bX X (.builtin "len") (fun xs H Q=>∃a kvs,xs=[V.ref a]/\H a=some (.dK kvs)/\Q (.int kvs.length) H):=by
 intro pins s σ H xs us Q I r h;obtain ⟨a,kvs,rfl,ha,q⟩:=h;obtain ⟨u,rfl,ru⟩:=fT r;cases ru;exact Cq I (.inl ha) fun t s' I'=>⟨.int kvs.length,H,I',⟨t,rfl⟩,q⟩
end
section
variable {κ:Type}[DecidableEq κ]
end
end L2
namespace L2
open PySem PySem.Spec PyProof.Rows
section
variable {prog:Program}{w:World}{A:Around}{R:Result->Shared->Prop}{s:Shared}
theorem kN{elt target iter:Expr}{ifs:List Expr}{scope:Scope}{pos:Pos}{it acc:Value}{env:Env}(I:Nat->Shared->Prop)
  (turn:∀n s,I n s->wpAny (model prog w) A (pyNext it) (fun r s₁=>match r with
   |none=>R (.ok .next) s₁
   |some v=>wpAny (model prog w) A (letOwnedTupleGo target it v) (fun _ s₂=>wpAny (model prog w) A (assign target env v) (fun _ s₃=>
     wpAny (model prog w) A (forIn ifs true fun c r=>if r=true then do let ok <- isTrue c env (eval c env);pure (ForInStep.yield ok) else pure (ForInStep.yield r)) (fun ok s₄=>
      if ok=true then wpAny (model prog w) A (eval elt env) (fun x s₅=>
       wpAny (model prog w) A (call (.builtin "list.append") [acc,x]) (fun _ s₆=>∃m,m<n/\I m s₆) (fun _ _=>False) s₅) (fun _ _=>False) s₄
      else ∃m,m<n/\I m s₄) (fun _ _=>False) s₃) (fun _ _=>False) s₂) (fun _ _=>False) s₁) (fun _ _=>False) s)
  (n:Nat) (h:I n s):
  codeAny (model prog w) A (.compLoop (.ListComp elt [⟨target,iter,ifs,0⟩] scope pos) 0 it acc env) R s:=by
 refine codeAny_loop rfl I (fun n s hI=>?_) n h;show wpAny _ A ((compTurn (.ListComp elt [⟨target,iter,ifs,0⟩] scope pos) 0 it acc env).onRaise (fun x=>do noteFrame x env;theTreesLotGoes x)) _ _ s
 refine wpAny_noted ?_;rw [compTurn_list];refine wpAny_bind (wpAny_standAt (wpAny_bind (wpAny_mono (turn n s hI) (fun r s₁ h₁=>?_) fun _ _ z=>z.elim)));cases r with
 |none=>exact wpAny_pure h₁
 |some v=>
  refine wpAny_bind (wpAny_mono h₁ (fun _ s₂ h₂=>wpAny_bind (wpAny_mono h₂ (fun _ s₃ h₃=>wpAny_bind (wpAny_mono h₃ (fun ok s₄ h₄=>?_) fun _ _ z=>z.elim)) fun _ _ z=>z.elim)) fun _ _ z=>z.elim);cases ok with
  |false=>exact wpAny_pure ⟨rfl,h₄⟩
  |true=>
   exact wpAny_bind (wpAny_bind (wpAny_mono h₄ (fun x s₅ h₅=>wpAny_bind (wpAny_mono h₅ (fun _ s₆ h₆=>wpAny_pure (wpAny_pure ⟨rfl,h₆⟩)) fun _ _ z=>z.elim)) fun _ _ z=>z.elim))
end
def bF(X:Cx)(N:List Str)(scope:Scope)(cl:List (Str×Addr))(C:Addr)(s₀:Shared)(H₀:Hp)(fp:List Addr)(pl:List (Addr×Obj)):Cx where
 prog:=X.prog
 w:=X.w
 K:=X.K
 mg:=X.mg
 base:=X.base
 A:=X.A
 N:=N
 s₀:=s₀
 H₀:=H₀
 env:=compEnvC scope cl C X.env
 outer:=X.stack
 stack:=X.stack
 ex:=fp
 fn:=fun _=>false
 calm:=X.calm
 pn:=X.pn++pl
 xe:=fun _ _=>False
inductive Frees(X:Cx)(scope:Scope):List Str->List Nat->Prop where
 |nil:Frees X scope [] []
 |cons {x:Str} {j:Nat} {xs:List Str} {js:List Nat}:X.N[j]?=some x->(X.env.kindOf x=some .cell\/X.env.kindOf x=some .free)->
   ((relabel scope X.env).names.lookup x=some .cell\/(relabel scope X.env).names.lookup x=some .free)->Frees X scope xs js->Frees X scope (x::xs) (j::js)
theorem Frees.length{X:Cx}{scope:Scope}:∀{xs:List Str} {js:List Nat},Frees X scope xs js->xs.length=js.length
 |_,_,.nil=>rfl
 |_,_,.cons _ _ _ t=>congrArg (·+1) t.length
theorem Frees.get{X:Cx}{scope:Scope}:∀{xs:List Str} {js:List Nat},Frees X scope xs js->∀{i:Nat} {x:Str},xs[i]?=some x->∃j,js[i]?=some j/\X.N[j]?=some x/\(X.env.kindOf x=some .cell\/X.env.kindOf x=some .free)/\
   ((relabel scope X.env).names.lookup x=some .cell\/(relabel scope X.env).names.lookup x=some .free)
 |_,_,.nil,i,x,h=>by simp at h
 |_,_,.cons a b c _,0,x,h=>by simp at h;subst h;exact ⟨_,rfl,a,b,c⟩
 |_,_,.cons _ _ _ t,i+1,x,h=>by
  obtain ⟨j,h1,h2⟩:=t.get (i:=i) (x:=x) (by simpa using h)
  exact ⟨j,by simpa using h1,h2⟩
def cM(ls:List Str)(js:List Nat)(σ:St):St:=ls.map (fun _=>none)++js.map fun j=>(σ[j]?).join
structure CompOk(X:Cx)(scope:Scope)(cl:List (Str×Addr))(ls fs:List Str)(js:List Nat):Prop where
 kind:scope.kind=.function
 nocell:∀y∈scope.names,y.2≠.cell
 locs:∀x∈scope.names,x.2=.local->scope.names.lookup x.1=some .local
 clos:closureFor scope X.env=pure cl
 cells:∀x c,cl.lookup x=some c->X.env.cells.lookup x=some c
 has:∀x,((relabel scope X.env).names.lookup x=some .cell\/(relabel scope X.env).names.lookup x=some .free)->∃c,cl.lookup x=some c
 frees:Frees X scope fs js
theorem uS{X:Cx}{pins:List (Addr×Obj)}{σ:St}{H:Hp}{s:Shared}{scope:Scope}{cl:List (Str×Addr)}{ls fs:List Str}{js:List Nat}{fp:List Addr}{h₁:Heap}{m:Str->Option Value}{t':Nat}
  (I:Inv X pins σ H s) (co:CompOk X scope cl ls fs js) (hfp:∀b∈fp,gL X pins H b/\b<s.heap.objs.size) (hns:h₁.Ns s.heap.objs.size m) (hk:∀b o,s.heap.get? b=some o->h₁.get? b=some o):
  Inv (bF X (ls++fs) scope cl s.heap.objs.size s H fp pins) [] (cM ls js σ) H { s with heap:=h₁,toks:=t' }:=by
 have lk:∀b o,s.heap.get? b=some o->b≠s.heap.objs.size:=fun b o e=>Nat.ne_of_lt (Heap.lt_size e);refine ⟨⟨I.ok.mod,co.kind,I.ok.glob,I.ok.blt,Nat.le_refl _,fun x y c h1 h2=>?_,fun x hx=>co.has x hx,fun x c h _=>absurd (show false=true from h) Bool.false_ne_true,I.ok.hd,I.ok.frames,.inl rfl,fun b hb=>⟨Nat.ne_of_lt (hfp b hb).2,fun x c e=>?_⟩,
   fun b o e=>I.bs b o e,Nat.le_trans I.ok.bsz I.sz,fun b o e hb=>?_,fun b hb hf=>?_,I.stack,fun b hb=>I.stkFree b hb⟩,
  rfl,I.bare,Un.kept hk,⟨m,hns,fun i x v h1 h2 h3=>?_⟩,fun x c e=>?_,I.hok.fresh (Nat.le_refl _),fun x c e=>I.freeC x c (co.cells x c e),fun p hp=>?_,I.hok.kept hk,?_⟩
 ·exact I.ok.inj x y c (co.cells x c h1) (co.cells y c h2)
 ·exact (hfp b hb).1.2.2.2.2.1 x c (co.cells x c e)
 ·obtain ⟨f0,f1,f2,f3,_⟩:=(hfp b hb).1
  rcases f3 with z|z
  ·exact I.ok.noex b o e z
  ·exact absurd (Nat.lt_of_lt_of_le (Heap.lt_size (I.ok.bs b o e).1) z) (Nat.lt_irrefl _)
 ·obtain ⟨f0,f1,f2,f3,_⟩:=(hfp b hb).1
  rcases List.mem_cons.mp (I.stkSub b hf) with z|z
  ·exact f1 z
  ·exact f2 z
 ·have hi:¬i<ls.length:=fun hi=>by
   have h2':(cM ls js σ)[i]?=some (some v):=h2;unfold cM at h2';rw [List.getElem?_append_left (by simpa using hi),List.getElem?_map,List.getElem?_eq_getElem hi] at h2'
   cases h2'
  have hN:fs[i-ls.length]?=some x:=by
   have h1':(ls++fs)[i]?=some x:=h1
   rwa [List.getElem?_append_right (by lia)] at h1'
  obtain ⟨j,hj,hx,hc,hl⟩:=co.frees.get hN;have hσ:σ[j]?=some (some v):=by
   have h2':(cM ls js σ)[i]?=some (some v):=h2;unfold cM at h2';rw [List.getElem?_append_right (by simpa using hi),List.length_map,List.getElem?_map,hj] at h2'
   have q:(σ[j]?).join=some v:=by simpa using h2'
   cases e:σ[j]? with
   |none=>rw [e] at q;cases q
   |some o=>rw [e] at q;have q':o=some v:=q;rw [q']
  obtain ⟨mX,_,hlX⟩:=I.loc;have vis:Ce X.env.scope x:=by
   rcases hc with z|z
   ·exact .inr (.inl z)
   ·exact .inr (.inr z)
  obtain ⟨u,ru,lo⟩:=hlX j x v hx hσ vis;refine ⟨u,ru,.inr ⟨hl,?_⟩⟩;obtain ⟨c,ec⟩:=co.has x hl;refine ⟨c,ec,?_⟩;rcases lo with ⟨kl,_⟩|⟨_,c',e',z⟩
  ·rcases hc with q|q<;>(rw [q] at kl;cases kl)
  ·rw [co.cells x c ec] at e'
   cases e';obtain ⟨o,ho,hd⟩:=z;exact ⟨o,hk _ _ ho,hd⟩
 ·obtain ⟨v,o,ho,hd⟩:=I.cell x c (co.cells x c e)
  exact ⟨v,o,hk _ _ ho,hd⟩
 ·have hp':p∈X.pn++pins:=by
   have q:p∈(X.pn++pins)++[]:=hp;simpa using q
  obtain ⟨e,n,ne,nf,d⟩:=I.pin p hp';refine ⟨hk _ _ e,n,lk _ _ e,fun hb=>?_,d⟩;rcases List.mem_cons.mp (I.stkSub p.1 hb) with z|z
  ·exact ne z
  ·exact nf z
 ·show (cM ls js σ).length=(ls++fs).length
  unfold cM;rw [List.length_append,List.length_map,List.length_map,List.length_append,co.frees.length]
def Aw(X:Cx)(ifs:List Expr)(t:TT):Prop:=
 ∀(pins:List (Addr×Obj)) (s:Shared) (σ:St) (H:Hp) (Q:Bool->Hp->Prop),Inv X pins σ H s->t σ H Q->
  wpAny (model X.prog X.w) X.A (forIn ifs true fun c r=>if r=true then do let ok <- isTrue c X.env (eval c X.env);pure (ForInStep.yield ok) else pure (ForInStep.yield r)) (TP X pins σ Q) X.xe s
def tAll:TT:=fun _ H Q=>Q true H
theorem zw{X:Cx}:Aw X [] tAll:=fun _ _ _ H _ I h=>wpAny_tests_nil ⟨H,I,h⟩
theorem yN{X:Cx}{c:Expr}{t:TT}(h:PT X c t):Aw X [c] t:=fun pins s σ H Q I q=>wpAny_tests_one (h pins s σ H Q I q)
def v_(wi:TI)(ls:List Str)(js:List Nat)(g:TG)(tt:TT)(te:TE):TE:=fun σ H Q=>wi σ H fun J H1=>∀p,H1 p=none->∃W:Nat->Nat->St->Hp->Prop,(∃m,W 0 m (cM ls js σ) (upd H1 p (.lst [])))/\∀i m σ' H',W i m σ' H'->
 (J.stop i H'/\Q (.ref p) H')\/(J.go i H'/\∃N:St->Hp->Prop,(∀σ2 H2,N σ2 H2->∃m',m'<m/\W (i+1) m' σ2 H2)/\∀x H2,J.yld i H' x H2->g x σ' H2 fun σ3 H3=>tt σ3 H3 fun c H4=>
  if c=true then te σ3 H4 fun y H5=>∃ys,H5 p=some (.lst ys)/\ys.length<sizeLine/\N σ3 (upd H5 p (.lst (ys++[y]))) else N σ3 H4)
section
variable {X:Cx}{tg iter elt:Expr}{ifs:List Expr}{scope:Scope}{cl:List (Str×Addr)}{pos:Pos}{ls fs:List Str}{js:List Nat}{wi:TI}{g:TG}{tt:TT}{te:TE}
theorem mO{pins:List (Addr×Obj)}{σ:St}{s2:Shared}{it:Addr}{fp:List Addr}{tn:Nat->Heap->Prop}{J:It}{H1:Hp}{R:Value->Addr->Result->Shared->Prop}{Q:VK}{E:Value->Shared->Prop}(hc:X.calm=true)(co:CompOk X scope cl ls fs js)
  (hY:∀(C:Addr) (s₀:Shared) (H₀:Hp) (fp:List Addr) (pl:List (Addr×Obj)),PG (bF X (ls++fs) scope cl C s₀ H₀ fp pl) tg g/\Aw (bF X (ls++fs) scope cl C s₀ H₀ fp pl) ifs tt/\PE (bF X (ls++fs) scope cl C s₀ H₀ fp pl) elt te)
  (I:Inv X pins σ H1 s2) (T:Turn X.prog X.w X.K tg J fp it tn) (st:tn 0 s2.heap) (hf:∀b∈fp,gL X pins H1 b)
  (q:∀p,H1 p=none->∃W:Nat->Nat->St->Hp->Prop,(∃m,W 0 m (cM ls js σ) (upd H1 p (.lst [])))/\∀i m σ' H',W i m σ' H'->
   (J.stop i H'/\Q (.ref p) H')\/(J.go i H'/\∃N:St->Hp->Prop,(∀σ2 H2,N σ2 H2->∃m',m'<m/\W (i+1) m' σ2 H2)/\∀x H2,J.yld i H' x H2->g x σ' H2 fun σ3 H3=>tt σ3 H3 fun c H4=>
    if c=true then te σ3 H4 fun y H5=>∃ys,H5 p=some (.lst ys)/\ys.length<sizeLine/\N σ3 (upd H5 p (.lst (ys++[y]))) else N σ3 H4))
  (hR:∀(p C:Addr) (H':Hp) (s':Shared) (m:Str->Option Value),s'.heap.Ns C m->Inv X pins σ H' s'->H' C=none->C≠X.env.locals->X.s₀.heap.objs.size<=C->(∀x c,X.env.cells.lookup x=some c->c≠C)->(∀pp∈X.pn++pins,pp.1≠C)->Q (.ref p) H'->R (.ref p) C (.ok .next) s'):
  wpAny (model X.prog X.w) X.A (newList []) (fun acc s₃=>wpAny (model X.prog X.w) X.A (newFunctionEnv scope X.env.globals cl [] X.env.qual none .none (some X.env)) (fun cenv s₄=>
   codeAny (model X.prog X.w) X.A (.compStart (.ListComp elt [⟨tg,iter,ifs,0⟩] scope pos) 0 (.ref it) acc { cenv with scope:=relabel scope X.env }) (R acc cenv.locals) s₄) E s₃) E s2:=by
 have hp0:H1 s2.heap.objs.size=none:=I.hok.fresh (Nat.le_refl _);obtain ⟨W,⟨m0,w0⟩,turn⟩:=q s2.heap.objs.size hp0;refine wpAny_newObj_type (wpAny_newFunctionEnv co.nocell (by intro y hy;simp at hy) (fun h₁ hns₁ hsb₁=>?_) co.kind)
 dsimp only at hns₁ hsb₁ ⊢;have I3:Inv X pins σ (upd H1 s2.heap.objs.size (.lst [])) { s2 with heap:=s2.heap.push { cls:=.type "list",dict:=none,data:=.seq ([]:List Value).toArray } }:=
  I.lnew (its:=[]) (t':=s2.toks) .nil (Nat.zero_le _)
 generalize hs3:({ s2 with heap:=s2.heap.push { cls:=.type "list",dict:=none,data:=.seq ([]:List Value).toArray } }:Shared)=s3 at I3;have hh3:s2.heap.push { cls:=.type "list",dict:=none,data:=.seq ([]:List Value).toArray }=s3.heap:=by rw [<- hs3]
 rw [hh3] at hns₁ hsb₁ ⊢;have hsz3:s3.heap.objs.size=s2.heap.objs.size+1:=by rw [<- hh3,Heap.size_push]
 have hk3:∀b o,s2.heap.get? b=some o->s3.heap.get? b=some o:=fun b o e=>by rw [<- hh3];exact Heap.get?_push_of_some _ e
 have hlt:∀b∈fp,b<s2.heap.objs.size:=fun b hb=>by
  obtain ⟨o,e,_⟩:=T.obj _ _ st b hb;exact Heap.lt_size e
 have hnp:∀b∈fp,upd H1 s2.heap.objs.size (.lst []) b=none:=fun b hb=>by
  rw [upd_ne (Nat.ne_of_lt (hlt b hb))];exact (hf b hb).1
 have hf3:∀b∈fp,gL X pins (upd H1 s2.heap.objs.size (.lst [])) b/\b<s3.heap.objs.size:=fun b hb=>⟨⟨hnp b hb,(hf b hb).2⟩,by rw [hsz3];exact Nat.lt_succ_of_lt (hlt b hb)⟩
 have hk4:∀b o,s3.heap.get? b=some o->h₁.get? b=some o:=fun b o e=>hsb₁.extBut b o (Nat.ne_of_lt (Heap.lt_size e)) (Heap.get?_push_of_some _ e);have st4:tn 0 h₁:=T.keep _ _ _ st fun b hb o e=>hk4 b o (hk3 b o e);have I4:=uS (t':=s3.toks) I3 co hf3 hns₁ hk4;obtain ⟨hg,ht,he⟩:=hY s3.heap.objs.size s3 (upd H1 s2.heap.objs.size (.lst [])) fp pins;have stat:∀{H':Hp},(∀b∈fp,H' b=none)->∀b∈fp,gL (bF X (ls++fs) scope cl s3.heap.objs.size s3 (upd H1 s2.heap.objs.size (.lst [])) fp pins) [] H' b:=fun {H'} hn b hb=>by
  obtain ⟨f0,f1,f2,f3,f4,f5⟩:=hf b hb;refine ⟨hn b hb,Nat.ne_of_lt (hf3 b hb).2,fun z=>?_,.inl hb,fun x c e=>f4 x c (co.cells x c e),fun pp hp=>f5 pp ?_⟩
  ·rcases List.mem_cons.mp (I3.stkSub b z) with y|y
   ·exact f1 y
   ·exact f2 y
  ·have q:pp∈(X.pn++pins)++[]:=hp
   simpa using q
 have loop:∀s₄:Shared,s₄={ s3 with heap:=h₁,toks:=s3.toks }->
   codeAny (model X.prog X.w) X.A (.compLoop (.ListComp elt [⟨tg,iter,ifs,0⟩] scope pos) 0 (.ref it) (.ref s2.heap.objs.size) (compEnvC scope cl s3.heap.objs.size X.env)) (R (.ref s2.heap.objs.size) s3.heap.objs.size) s₄:=by
  rintro s₄ rfl
  refine kN (fun n s'=>∃i σ' H',Inv (bF X (ls++fs) scope cl s3.heap.objs.size s3 (upd H1 s2.heap.objs.size (.lst [])) fp pins) [] σ' H' s'/\tn i s'.heap/\(∀b∈fp,H' b=none)/\W i n σ' H') ?_ m0 ⟨0,_,_,I4,st4,hnp,w0⟩
  rintro n s5 ⟨i,σ5,H5,I5,st5,fr5,w5⟩
  rcases turn i n σ5 H5 w5 with ⟨stop,qn⟩|⟨go,N,hN,step⟩
  ·refine thn (T.done (bF X (ls++fs) scope cl s3.heap.objs.size s3 (upd H1 s2.heap.objs.size (.lst [])) fp pins) rfl rfl rfl hc i [] s5 σ5 H5 _ I5 (stat fr5) st5 stop) fun r s6 ⟨hr,I6⟩=>?_
   subst hr;obtain ⟨m6,hn6,_⟩:=I6.loc;have IX:Inv X pins σ H5 s6:=I3.call' I6.os I6.base I6.hok I6.bare fun b hb=>⟨(hf b hb).2.2.2.1,(hf b hb).2.1,(hf b hb).2.2.2.2.1,(hf b hb).2.2.2.2.2⟩;refine hR _ _ H5 s6 m6 hn6 IX I6.free (Nat.ne_of_gt I3.lt) I3.sz (fun x c e z=>?_) (fun pp hp z=>?_) qn
   ·obtain ⟨v,zz⟩:=I3.cell x c e
    have zl:=zz.lt;rw [z] at zl;exact Nat.lt_irrefl _ zl
   ·have zl:=Heap.lt_size (I3.pin pp hp).1
    rw [z] at zl;exact Nat.lt_irrefl _ zl
  ·refine thn (T.item (bF X (ls++fs) scope cl s3.heap.objs.size s3 (upd H1 s2.heap.objs.size (.lst [])) fp pins) rfl rfl rfl hc i [] s5 σ5 H5 _ I5 (stat fr5) st5 go) fun r s6 ⟨u,hr,h6⟩=>?_
   subst hr;refine thn h6 fun _ s7 ⟨x,H7,I7,r7,y7,st7,fr7⟩=>?_;have I7':=I7.pinned (stat fr7) (T.obj _ _ st7);refine thn (hg _ s7 σ5 H7 x u _ I7' r7 (step x H7 y7)) fun _ s8 ⟨σ8,H8,I8,q8⟩=>?_
   have again:∀{σ9:St} {H9:Hp} {s9:Shared},Inv (bF X (ls++fs) scope cl s3.heap.objs.size s3 (upd H1 s2.heap.objs.size (.lst [])) fp pins) ([]++jf fp s7.heap) σ9 H9 s9->N σ9 H9->
     ∃m,m<n/\∃i σ' H',Inv (bF X (ls++fs) scope cl s3.heap.objs.size s3 (upd H1 s2.heap.objs.size (.lst [])) fp pins) [] σ' H' s9/\tn i s9.heap/\(∀b∈fp,H' b=none)/\W i m σ' H':=fun {σ9 H9 s9} I9 n9=>by
    obtain ⟨m',hm,w9⟩:=hN σ9 H9 n9;refine ⟨m',hm,i+1,σ9,H9,I9.unpinned,T.keep _ _ _ st7 fun b hb o e=>(I9.pin (b,o) (List.mem_append_right _ (List.mem_append_right _ (dI hb e)))).1,fun b hb=>?_,w9⟩;obtain ⟨o,e,d⟩:=T.obj _ _ st7 b hb;exact (I9.pin (b,o) (List.mem_append_right _ (List.mem_append_right _ (dI hb e)))).2.1
   refine thn (ht _ s8 σ8 H8 _ I8 q8) fun ok s9 ⟨H9,I9,q9⟩=>?_;cases ok with
   |false=>exact again I9 q9
   |true=>
    refine thn (he _ s9 σ8 H9 _ I9 q9) fun xv s10 ⟨y,H10,I10,r10,ys,hp,hl,n10⟩=>?_;obtain ⟨z,its,n',r,hl',e⟩:=I10.lstM hp;refine call_meets F.slot_list_append ⟨_,e,rfl⟩ F.entry_list_append (F.args_list_append_2 _ _) (PySem.list_append s2.heap.objs.size its.toArray n' xv (by rw [List.size_toArray];lia)) ⟨e,?_⟩
    refine again (I10.lset (its':=its++[xv]) hp e (by simp) (r.append (.cons r10 .nil)) ?_) n10
    rw [List.length_append,List.length_singleton];lia
 have se:({ s2 with heap:=h₁,toks:=s2.toks+([]:List (Str×Value)).length }:Shared)={ s3 with heap:=h₁,toks:=s3.toks }:=by rw [<- hs3];rfl
 exact codeAny_compStart_list (loop _ se) (T.self _ 0 _ _ _ st4 (loop _ se))
theorem yL(hc:X.calm=true)(co:CompOk X scope cl ls fs js)(hi:PI X tg iter wi)
  (hY:∀(C:Addr) (s₀:Shared) (H₀:Hp) (fp:List Addr) (pl:List (Addr×Obj)),PG (bF X (ls++fs) scope cl C s₀ H₀ fp pl) tg g/\Aw (bF X (ls++fs) scope cl C s₀ H₀ fp pl) ifs tt/\PE (bF X (ls++fs) scope cl C s₀ H₀ fp pl) elt te)
  (hs:∀x,foldedSetIterable iter X.env x=pure x:=by intro _;rfl):PE X (.ListComp elt [⟨tg,iter,ifs,0⟩] scope pos) (v_ wi ls js g tt te):=by
 intro pins s σ H Q I h;rw [eval_ListComp];refine wpAny_comprehension_free (use:=none) rfl hs co.clos co.kind co.locs (thn (hi pins s σ H _ I h) fun xv s1 h1=>thn h1 fun itv s2 h2=>?_);obtain ⟨it,fp,tn,J,H2,e,I2,T,st2,f2,q⟩:=h2;subst e;refine mO (R:=fun acc C=>compPost (model X.prog X.w) X.A X.xe none (EP X pins σ Q) acc C) (Q:=Q) hc co hY I2 T st2 f2 q ?_;intro p C H' s' m hn IX hC hL hge hcell hpin hq;exact ⟨m,hn,fun h' sb=>⟨.ref p,H',IX.turned (t':=s'.toks) (fun b o hb e=>sb.extBut b o hb e) hC hL (.inr hge) hcell hpin,rfl,hq⟩⟩
def BR(i:Nat)(t:TE):TS:=fun D σ H=>t σ H fun v H1=>D.nx (σ.set i (some v)) H1
theorem yD{i:Nat}{x:Str}{px spos:Pos}(hN:X.N.Nodup)(hix:X.N[i]?=some x)(hx:xg X.env.scope x)(hc:X.calm=true)(co:CompOk X scope cl ls fs js)(hi:PI X tg iter wi)
  (hY:∀(C:Addr) (s₀:Shared) (H₀:Hp) (fp:List Addr) (pl:List (Addr×Obj)),PG (bF X (ls++fs) scope cl C s₀ H₀ fp pl) tg g/\Aw (bF X (ls++fs) scope cl C s₀ H₀ fp pl) ifs tt/\PE (bF X (ls++fs) scope cl C s₀ H₀ fp pl) elt te)
  (hsw:swapsWith (.ListComp elt [⟨tg,iter,ifs,0⟩] scope pos) (some (.Name x px)) spos.line X.env=pure true:=by rfl)
  (hs:∀x,foldedSetIterable iter X.env x=pure x:=by intro _;rfl) (hf:X.fn x=true\/X.env.scope.names.lookup x=some .local:=by first|exact .inl rfl|exact .inr rfl|assumption):
  PS X (.Assign [.Name x px] (.ListComp elt [⟨tg,iter,ifs,0⟩] scope pos) spos) (BR i (v_ wi ls js g tt te)):=by
 intro pins s σ H D I h;rw [exec_Assign_Name_used _ _ _ _ hsw];refine wpAny_bind (wpAny_standAt (wpAny_bind ?_));show wpAny _ X.A (do let _ <- comprehension (.ListComp elt [⟨tg,iter,ifs,0⟩] scope pos) scope X.env _ (newList []) false (eval iter X.env) (some (assign (.Name x px) X.env))) _ _ s
 refine wpAny_bind (wpAny_mono (wpAny_comprehension_free (use:=some (assign (.Name x px) X.env)) (Q:=fun _ s'=>SP X pins D .next s') rfl hs co.clos co.kind co.locs
  (thn (hi pins s σ H _ I h) fun xv s1 h1=>thn h1 fun itv s2 h2=>?_)) (fun _ s' hq=>wpAny_pure (wpAny_pure hq)) fun _ _ e=>e)
 obtain ⟨it,fp,tn,J,H2,e,I2,T,st2,f2,q⟩:=h2;subst e;refine mO (R:=fun acc C=>compPost (model X.prog X.w) X.A X.xe (some (assign (.Name x px) X.env)) (fun _ s'=>SP X pins D .next s') acc C) (Q:=fun v H1=>D.nx (σ.set i (some v)) H1) hc co hY I2 T st2 f2 q ?_;intro p C H' s' m hn IX hC hL hge hcell hpin hq;show wpAny _ X.A (assign (.Name x px) X.env (.ref p)) _ _ _;refine wpAny_assign_Name (store_ok2 IX hN hix hx (v:=.ref p) rfl (fun s'' I'' hb=>?_) hf);obtain ⟨a,sb,ha⟩:=hb;have hne:C≠a:=by
  rcases ha with z|z
  ·rw [z];exact hL
  ·exact fun y=>hcell x a z y.symm
 refine ⟨m,hn.sameBut sb hne,fun h3 sb3=>?_⟩;exact ⟨_,H',I''.turned (t':=s''.toks) (fun b o hb e=>sb3.extBut b o hb e) hC hL (.inr hge) hcell hpin,hq⟩
end
end L2
namespace L2
open PySem PySem.Spec PyProof.Rows
def SrcTn(b:Bool)(it a:Addr)(i:Nat)(h:Heap):Prop:=if b=true then h.IsListIter it a i else h.IsTupleIter it a i
def SrcSq(b:Bool)(h:Heap)(a:Addr)(items:Array Value):Prop:=if b=true then h.IsList a items else h.IsTuple a items
theorem SrcTn.lt{b:Bool}{it a:Addr}{i:Nat}{h:Heap}(x:SrcTn b it a i h):∃o,h.get? it=some o/\∀v,o.data≠.cell v:=by
 cases b with
 |true=>obtain ⟨o,e,c,d⟩:=(show h.IsListIter it a i from x);exact ⟨o,e,fun v z=>by rw [d] at z;cases z⟩
 |false=>obtain ⟨o,e,c,d⟩:=(show h.IsTupleIter it a i from x);exact ⟨o,e,fun v z=>by rw [d] at z;cases z⟩
theorem SrcTn.keep{b:Bool}{it a:Addr}{i:Nat}{h h':Heap}(x:SrcTn b it a i h)(k:∀o,h.get? it=some o->h'.get? it=some o):SrcTn b it a i h':=by
 cases b with
 |true=>obtain ⟨o,e,r⟩:=(show h.IsListIter it a i from x);exact (show h'.IsListIter it a i from ⟨o,k o e,r⟩)
 |false=>obtain ⟨o,e,r⟩:=(show h.IsTupleIter it a i from x);exact (show h'.IsTupleIter it a i from ⟨o,k o e,r⟩)
theorem SrcSq.keep{b:Bool}{a:Addr}{items:Array Value}{h h':Heap}(x:SrcSq b h a items)(k:∀o,h.get? a=some o->h'.get? a=some o):SrcSq b h' a items:=by
 cases b with
 |true=>obtain ⟨o,e,r⟩:=(show h.IsList a items from x);exact (show h'.IsList a items from ⟨o,k o e,r⟩)
 |false=>obtain ⟨o,e,r⟩:=(show h.IsTuple a items from x);exact (show h'.IsTuple a items from ⟨o,k o e,r⟩)
section
variable {prog:Program}{w:World}{A:Around}{E:Value->Shared->Prop}{s:Shared}
theorem fW{it l:Addr}{i:Nat}{items:Array Value}{x:Value}{Q:Value->Shared->Prop}(hit:s.heap.IsTupleIter it l i)(hl:s.heap.IsTuple l items)(hx:items[i]?=some x)
  (hQ:∀h',h'.IsTupleIter it l (i+1)->Heap.SameBut it s.heap h'->Q x { s with heap:=h' }):wpAny (model prog w) A (Builtin.SmallTypes.nextOf (.ref it)) Q E s:=by
 obtain ⟨o,ho,hc,hd⟩:=id hit;obtain ⟨ol,hol,_,nl,hdl⟩:=hl;unfold Builtin.SmallTypes.nextOf
 refine wpAny_bind (wpAny_callSpecial?_slot (name:=Str.ofString "__next__") hit.typeIs F.slot_tuple_iterator_next
  (wpAny_call_entry F.slot_tuple_iterator_next hit.typeIs F.entry_tuple_iterator_next ?_ (F.args_tuple_iterator_next_1 _)))
 show wpAny _ _ (field (.ref it) 0 >>= _) _ _ s;refine wpAny_bind (wpAny_field ho hd (x:=.ref l) rfl ?_);show wpAny _ _ (if (Value.ref l==Value.none)=true then _ else _) _ _ s
 rw [if_neg (show ¬((Value.ref l==Value.none)=true) from Bool.false_ne_true)];show wpAny _ _ (field (.ref it) 1 >>= _) _ _ s;refine wpAny_bind (wpAny_field ho hd (x:=.int i 0) rfl ?_);show wpAny _ _ (seqItems? (.ref l) >>= _) _ _ s;refine wpAny_bind (wpAny_seqItems hol hdl ?_);simp only [Int.toNat_natCast,hx];refine wpAny_bind (wpAny_setField ho hd (by simp) (wpAny_pure ⟨x,rfl,wpAny_pure (hQ _ ?_ (Heap.SameBut.update ..))⟩))
 exact ⟨_,Heap.get?_update_self _ ho (Obj.isFreed_of_fields (Obj.data_mapFields hd _)),(Obj.cls_mapFields ..).trans hc,by
  rw [Obj.data_mapFields hd];simp [rawInt]⟩
theorem gG{it l:Addr}{i:Nat}{items:Array Value}{Q:Value->Shared->Prop}(hh:A.handled=none)(hit:s.heap.IsTupleIter it l i)(hl:s.heap.IsTuple l items)(hx:items[i]?=none)
  (hE:∀h' e,Heap.ExtBut it s.heap h'->(∃o,h'.get? e=some o/\o.cls=.type "StopIteration")->E (.ref e) { s with heap:=h' }):wpAny (model prog w) A (Builtin.SmallTypes.nextOf (.ref it)) Q E s:=by
 obtain ⟨o,ho,hc,hd⟩:=id hit;obtain ⟨ol,hol,_,nl,hdl⟩:=hl;unfold Builtin.SmallTypes.nextOf
 refine wpAny_bind (wpAny_callSpecial?_slot (name:=Str.ofString "__next__") hit.typeIs F.slot_tuple_iterator_next
  (wpAny_call_entry F.slot_tuple_iterator_next hit.typeIs F.entry_tuple_iterator_next ?_ (F.args_tuple_iterator_next_1 _)))
 show wpAny _ _ (field (.ref it) 0 >>= _) _ _ s;refine wpAny_bind (wpAny_field ho hd (x:=.ref l) rfl ?_);show wpAny _ _ (if (Value.ref l==Value.none)=true then _ else _) _ _ s
 rw [if_neg (show ¬((Value.ref l==Value.none)=true) from Bool.false_ne_true)];show wpAny _ _ (field (.ref it) 1 >>= _) _ _ s;refine wpAny_bind (wpAny_field ho hd (x:=.int i 0) rfl ?_);show wpAny _ _ (seqItems? (.ref l) >>= _) _ _ s;refine wpAny_bind (wpAny_seqItems hol hdl ?_);simp only [Int.toNat_natCast,hx];refine wpAny_bind (wpAny_rule (wpAny_bind (wpAny_setField ho hd (by simp) ?_)))
 show wpAny _ _ (newExc (.type "StopIteration") [] >>= _) _ _ _;refine wpAny_bind ?_;simp only [newExc,newTuple];refine wpAny_bind (wpAny_newObj_type ?_ (by size_fits))
 refine wpAny_bind (m:=firstArgMember _ _) (wpAny_of_eq (a:=Value.none) (by first|rfl|(simp only [firstArgMember];rfl)) ?_)
 refine wpAny_newObj_type ?_ (by size_fits)
 simp only [raiseNew];refine wpAny_bind (wpAny_handled ?_)
 first|rw [show A.in1.handled=none from hh]|rw [hh]
 refine wpAny_bind (wpAny_pure (wpAny_throw ?_));exact hE _ _ (((Heap.SameBut.update ..).extBut.push _).push _) ⟨_,Heap.get?_push_size _ rfl,rfl⟩
theorem bI{b:Bool}{it l:Addr}{i:Nat}{items:Array Value}{x:Value}{Q:Value->Shared->Prop}(hit:SrcTn b it l i s.heap)(hl:SrcSq b s.heap l items)(hx:items[i]?=some x)
  (hQ:∀h',SrcTn b it l (i+1) h'->Heap.SameBut it s.heap h'->Q x { s with heap:=h' }):wpAny (model prog w) A (Builtin.SmallTypes.nextOf (.ref it)) Q E s:=by
 cases b with
 |true=>exact wpAny_nextOf_list_item hit hl hx hQ
 |false=>exact fW hit hl hx hQ
theorem bW{b:Bool}{it l:Addr}{i:Nat}{items:Array Value}{Q:Value->Shared->Prop}(hh:A.handled=none)(hit:SrcTn b it l i s.heap)(hl:SrcSq b s.heap l items)(hx:items[i]?=none)
  (hE:∀h' e,Heap.ExtBut it s.heap h'->(∃o,h'.get? e=some o/\o.cls=.type "StopIteration")->E (.ref e) { s with heap:=h' }):wpAny (model prog w) A (Builtin.SmallTypes.nextOf (.ref it)) Q E s:=by
 cases b with
 |true=>exact wpAny_nextOf_list_end hh hit hl hx hE
 |false=>exact gG hh hit hl hx hE
def aR(b:Bool):String:=if b=true then "list_iterator" else "tuple_iterator"
theorem cY{b:Bool}{l:Addr}{items:Array Value}{Q:Value->Shared->Prop}(hl:SrcSq b s.heap l items)
  (hQ:Q (.ref s.heap.objs.size) { s with heap:=s.heap.push { cls:=.type (aR b),data:=.fields #[.ref l,.int 0 0] } }):wpAny (model prog w) A (pyIter (.ref l)) Q E s:=by
 cases b with
 |true=>exact wpAny_pyIter_list hl hQ
 |false=>exact wpAny_pyIter_tuple hl hQ
theorem kZ{b:Bool}{h:Heap}{it l:Addr}(e:h.get? it=some { cls:=.type (aR b),data:=.fields #[.ref l,.int 0 0] }):SrcTn b it l 0 h:=by
 cases b with
 |true=>exact (show h.IsListIter it l 0 from ⟨_,e,rfl,rfl⟩)
 |false=>exact (show h.IsTupleIter it l 0 from ⟨_,e,rfl,rfl⟩)
structure ZApart(z TI TO i1 i2:Addr):Prop where
 TIz:TI≠z
 TOz:TO≠z
 i1z:i1≠z
 i2z:i2≠z
 TITO:TI≠TO
 TIi1:TI≠i1
 TIi2:TI≠i2
 TOi1:TO≠i1
 TOi2:TO≠i2
 i12:i1≠i2
def qF(z TO i1 i2 l:Addr):Prop:=l≠z/\l≠TO/\l≠i1/\l≠i2
theorem vG{b1 b2:Bool}{z TI TO i1 i2 l1 l2:Addr}{k1 k2:Nat}{xs ys:Array Value}{x y a b:Value}{Q:Value->Shared->Prop}(D:ZApart z TI TO i1 i2)(O1:qF z TO i1 i2 l1)(O2:qF z TO i1 i2 l2)
  (hz:IsZip s.heap z TI TO .none) (hTI:IsPair s.heap TI (.ref i1) (.ref i2)) (hTO:IsPair s.heap TO a b)
  (h1:SrcTn b1 i1 l1 k1 s.heap) (h2:SrcTn b2 i2 l2 k2 s.heap) (hl1:SrcSq b1 s.heap l1 xs) (hl2:SrcSq b2 s.heap l2 ys) (hx:xs[k1]?=some x) (hy:ys[k2]?=some y)
  (hQ:∀h',IsZip h' z TI TO (rawInt s.heap.objs.size)->IsPair h' TO x y->SrcTn b1 i1 l1 (k1+1) h'->SrcTn b2 i2 l2 (k2+1) h'->IsPair h' s.heap.objs.size x y->h'.objs.size=s.heap.objs.size+1->
   (∀c o,c≠z->c≠TO->c≠i1->c≠i2->s.heap.get? c=some o->h'.get? c=some o)->Q (.ref s.heap.objs.size) { s with heap:=h' }):
  wpAny (model prog w) A (Builtin.«zip.__next__» ⟨[.ref z],[]⟩) (fun fin s'=>∃v,fin=.done (.ret v)/\Q v s') E s:=by
 show wpAny _ _ (field (.ref z) 2 >>= _) _ _ _;refine wpAny_bind (wpAny_field hz rfl (x:=.bool false) rfl ?_);show wpAny _ _ (field (.ref z) 3 >>= _) _ _ _;refine wpAny_bind (wpAny_field hz rfl (x:=.ref TI) rfl ?_);refine wpAny_bind (wpAny_seqItems hTI rfl ?_);show wpAny _ _ (Builtin.SmallTypes.ownedTupleIsFree (.ref z) >>= _) _ _ _;refine wpAny_bind ?_;unfold Builtin.SmallTypes.ownedTupleIsFree;refine wpAny_bind (wpAny_field hz rfl (x:=.none) rfl (wpAny_pure ?_));simp only [if_true];refine wpAny_bind (wpAny_rule ?_);refine wpAny_bind (wpAny_field hz rfl (x:=.ref TO) rfl ?_);refine wpAny_bind (wpAny_setField_rec hz (by simp) fun h₁ hz₁ hs₁=>?_)
 replace hz₁:IsZip h₁ z TI TO .ellipsis:=hz₁
 refine wpAny_bind ?_;simp only [List.zipIdx_cons,List.zipIdx_nil,List.forIn_cons,List.forIn_nil];refine wpAny_bind (wpAny_bind (wpAny_onRaise ?_));show wpAny _ _ (Builtin.SmallTypes.nextOf (.ref i1) >>= _) _ _ _;refine wpAny_bind (bI (h1.keep fun o e=>hs₁.extBut _ o D.i1z e) (hl1.keep fun o e=>hs₁.extBut _ o O1.1 e) hx fun h₂ h1₂ hs₂=>wpAny_pure ?_);have hTO₂:IsPair h₂ TO a b:=hs₂.extBut _ _ D.TOi1 (hs₁.extBut _ _ D.TOz hTO);refine wpAny_bind (wpAny_seqItems hTO₂ rfl ?_);refine wpAny_bind (wpAny_updateSeq_pair hTO₂ fun h₃ hTO₃ hs₃=>?_)
 replace hTO₃:IsPair h₃ TO x b:=hTO₃
 refine wpAny_bind (wpAny_letGo (wpAny_pure ?_));refine wpAny_bind (wpAny_bind (wpAny_onRaise ?_));show wpAny _ _ (Builtin.SmallTypes.nextOf (.ref i2) >>= _) _ _ _
 refine wpAny_bind (bI (h2.keep fun o e=>hs₃.extBut _ o D.TOi2.symm (hs₂.extBut _ o D.i12.symm (hs₁.extBut _ o D.i2z e)))
  (hl2.keep fun o e=>hs₃.extBut _ o O2.2.1 (hs₂.extBut _ o O2.2.2.1 (hs₁.extBut _ o O2.1 e))) hy fun h₄ h2₄ hs₄=>wpAny_pure ?_)
 have hTO₄:IsPair h₄ TO x b:=hs₄.extBut _ _ D.TOi2 hTO₃;refine wpAny_bind (wpAny_seqItems hTO₄ rfl ?_);refine wpAny_bind (wpAny_updateSeq_pair hTO₄ fun h₅ hTO₅ hs₅=>?_)
 replace hTO₅:IsPair h₅ TO x y:=hTO₅
 refine wpAny_bind (wpAny_letGo (wpAny_pure (wpAny_pure ?_)));refine wpAny_bind (wpAny_seqItems hTO₅ rfl ?_);refine wpAny_bind (wpAny_newTuple ?_);have hsz:h₅.objs.size=s.heap.objs.size:=by rw [hs₅.1,hs₄.1,hs₃.1,hs₂.1,hs₁.1]
 have hz₅:IsZip h₅ z TI TO .ellipsis:=hs₅.extBut _ _ D.TOz.symm (hs₄.extBut _ _ D.i2z.symm (hs₃.extBut _ _ D.TOz.symm (hs₂.extBut _ _ D.i1z.symm hz₁)));have hk₅:∀c o,c≠z->c≠TO->c≠i1->c≠i2->s.heap.get? c=some o->h₅.get? c=some o:=fun c o c1 c2 c3 c4 e=>
  hs₅.extBut _ _ c2 (hs₄.extBut _ _ c4 (hs₃.extBut _ _ c2 (hs₂.extBut _ _ c3 (hs₁.extBut _ _ c1 e))))
 have h1₅:SrcTn b1 i1 l1 (k1+1) h₅:=h1₂.keep fun o e=>hs₅.extBut _ o D.TOi1.symm (hs₄.extBut _ o D.i12 (hs₃.extBut _ o D.TOi1.symm e));have h2₅:SrcTn b2 i2 l2 (k2+1) h₅:=h2₄.keep fun o e=>hs₅.extBut _ o D.TOi2.symm e;have hzlt:z<h₅.objs.size:=Heap.lt_size hz₅;show wpAny _ _ (Builtin.SmallTypes.ownedTupleHandOut (.ref z) (.ref h₅.objs.size) >>= _) _ _ _;refine wpAny_bind ?_;unfold Builtin.SmallTypes.ownedTupleHandOut;have hz₆:IsZip (h₅.push { cls:=.type "tuple",data:=.seq #[x,y] }) z TI TO .ellipsis:=Heap.get?_push_of_some _ hz₅;refine wpAny_bind (wpAny_setField_rec hz₆ (by simp) fun h₇ hz₇ hs₇=>?_)
 replace hz₇:IsZip h₇ z TI TO (rawInt h₅.objs.size):=hz₇
 refine wpAny_setField_rec hz₇ (by simp) fun h₈ hz₈ hs₈=>?_
 replace hz₈:IsZip h₈ z TI TO (rawInt h₅.objs.size):=hz₈
 have up:∀c o,c≠z->h₅.get? c=some o->h₈.get? c=some o:=fun c o c1 e=>hs₈.extBut _ _ c1 (hs₇.extBut _ _ c1 (Heap.get?_push_of_some _ e));have hT₈:IsPair h₈ h₅.objs.size x y:=hs₈.extBut _ _ (Nat.ne_of_gt hzlt) (hs₇.extBut _ _ (Nat.ne_of_gt hzlt) (Heap.get?_push_size _ rfl));have hz8:h₈.objs.size=h₅.objs.size+1:=by rw [hs₈.1,hs₇.1,Heap.size_push]
 rw [hsz] at hz₈ hT₈ hz8;refine wpAny_pure ⟨_,rfl,?_⟩;show Q (.ref h₅.objs.size) _;rw [hsz];exact hQ h₈ hz₈ (up _ _ D.TOz hTO₅) (h1₅.keep fun o e=>up _ o D.i1z e) (h2₅.keep fun o e=>up _ o D.i2z e) hT₈ hz8 fun c o c1 c2 c3 c4 e=>up c o c1 (hk₅ c o c1 c2 c3 c4 e)
theorem xS{b1 b2:Bool}{z TI TO i1 i2 l1 l2:Addr}{k1 k2:Nat}{xs ys:Array Value}{a b:Value}{Q:Fin->Shared->Prop}(hh:A.handled=none)(D:ZApart z TI TO i1 i2)(O1:qF z TO i1 i2 l1)(O2:qF z TO i1 i2 l2)
  (hz:IsZip s.heap z TI TO .none) (hTI:IsPair s.heap TI (.ref i1) (.ref i2)) (hTO:IsPair s.heap TO a b)
  (h1:SrcTn b1 i1 l1 k1 s.heap) (h2:SrcTn b2 i2 l2 k2 s.heap) (hl1:SrcSq b1 s.heap l1 xs) (hl2:SrcSq b2 s.heap l2 ys) (hend:xs[k1]?=none\/ys[k2]?=none)
  (hE:∀h' e,(∀c o,c≠z->c≠TO->c≠i1->c≠i2->s.heap.get? c=some o->h'.get? c=some o)->(∃o,h'.get? e=some o/\o.cls=.type "StopIteration")->E (.ref e) { s with heap:=h' }):
  wpAny (model prog w) A (Builtin.«zip.__next__» ⟨[.ref z],[]⟩) Q E s:=by
 show wpAny _ _ (field (.ref z) 2 >>= _) _ _ _;refine wpAny_bind (wpAny_field hz rfl (x:=.bool false) rfl ?_);show wpAny _ _ (field (.ref z) 3 >>= _) _ _ _;refine wpAny_bind (wpAny_field hz rfl (x:=.ref TI) rfl ?_);refine wpAny_bind (wpAny_seqItems hTI rfl ?_);show wpAny _ _ (Builtin.SmallTypes.ownedTupleIsFree (.ref z) >>= _) _ _ _;refine wpAny_bind ?_;unfold Builtin.SmallTypes.ownedTupleIsFree;refine wpAny_bind (wpAny_field hz rfl (x:=.none) rfl (wpAny_pure ?_));simp only [if_true];refine wpAny_bind (wpAny_rule ?_);refine wpAny_bind (wpAny_field hz rfl (x:=.ref TO) rfl ?_);refine wpAny_bind (wpAny_setField_rec hz (by simp) fun h₁ hz₁ hs₁=>?_)
 replace hz₁:IsZip h₁ z TI TO .ellipsis:=hz₁
 refine wpAny_bind ?_;simp only [List.zipIdx_cons,List.zipIdx_nil,List.forIn_cons,List.forIn_nil];refine wpAny_bind (wpAny_bind (wpAny_onRaise ?_));show wpAny _ _ (Builtin.SmallTypes.nextOf (.ref i1) >>= _) _ _ _;cases hx:xs[k1]? with
 |none=>
  refine wpAny_bind (bW hh (h1.keep fun o e=>hs₁.extBut _ o D.i1z e) (hl1.keep fun o e=>hs₁.extBut _ o O1.1 e) hx fun h₂ e hs₂ he=>?_);obtain ⟨oe,hoe,hce⟩:=he;have hz₂:IsZip h₂ z TI TO .ellipsis:=hs₂ _ _ D.i1z.symm hz₁;have hez:e≠z:=fun x=>by subst x;rw [hz₂] at hoe;cases hoe;simp at hce
  refine wpAny_setField_rec hz₂ (by simp) fun h₃ _ hs₃=>hE h₃ e (fun c o c1 _ c3 _ x=>hs₃.extBut _ _ c1 (hs₂ _ _ c3 (hs₁.extBut _ _ c1 x))) ⟨oe,hs₃.extBut _ _ hez hoe,hce⟩
 |some x=>
  have hy:ys[k2]?=none:=by rcases hend with h|h;rw [hx] at h;cases h;exact h
  refine wpAny_bind (bI (h1.keep fun o e=>hs₁.extBut _ o D.i1z e) (hl1.keep fun o e=>hs₁.extBut _ o O1.1 e) hx fun h₂ h1₂ hs₂=>wpAny_pure ?_);have hTO₂:IsPair h₂ TO a b:=hs₂.extBut _ _ D.TOi1 (hs₁.extBut _ _ D.TOz hTO);refine wpAny_bind (wpAny_seqItems hTO₂ rfl ?_);refine wpAny_bind (wpAny_updateSeq_pair hTO₂ fun h₃ hTO₃ hs₃=>?_);refine wpAny_bind (wpAny_letGo (wpAny_pure ?_));refine wpAny_bind (wpAny_bind (wpAny_onRaise ?_));show wpAny _ _ (Builtin.SmallTypes.nextOf (.ref i2) >>= _) _ _ _
  refine wpAny_bind (bW hh (h2.keep fun o e=>hs₃.extBut _ o D.TOi2.symm (hs₂.extBut _ o D.i12.symm (hs₁.extBut _ o D.i2z e)))
   (hl2.keep fun o e=>hs₃.extBut _ o O2.2.1 (hs₂.extBut _ o O2.2.2.1 (hs₁.extBut _ o O2.1 e))) hy fun h₄ e hs₄ he=>?_)
  obtain ⟨oe,hoe,hce⟩:=he;have hz₄:IsZip h₄ z TI TO .ellipsis:=hs₄ _ _ D.i2z.symm (hs₃.extBut _ _ D.TOz.symm (hs₂.extBut _ _ D.i1z.symm hz₁));have hez:e≠z:=fun x=>by subst x;rw [hz₄] at hoe;cases hoe;simp at hce
  refine wpAny_setField_rec hz₄ (by simp) fun h₅ _ hs₅=>hE h₅ e (fun c o c1 c2 c3 c4 x=>hs₅.extBut _ _ c1 (hs₄ _ _ c4 (hs₃.extBut _ _ c2 (hs₂.extBut _ _ c3 (hs₁.extBut _ _ c1 x))))) ⟨oe,hs₅.extBut _ _ hez hoe,hce⟩
theorem dW{b1 b2:Bool}{z TI TO i1 i2 l1 l2:Addr}{k1 k2:Nat}{xs ys:Array Value}{x y a b:Value}{Q:Option Value->Shared->Prop}(D:ZApart z TI TO i1 i2)(O1:qF z TO i1 i2 l1)(O2:qF z TO i1 i2 l2)
  (hz:IsZip s.heap z TI TO .none) (hTI:IsPair s.heap TI (.ref i1) (.ref i2)) (hTO:IsPair s.heap TO a b)
  (h1:SrcTn b1 i1 l1 k1 s.heap) (h2:SrcTn b2 i2 l2 k2 s.heap) (hl1:SrcSq b1 s.heap l1 xs) (hl2:SrcSq b2 s.heap l2 ys) (hx:xs[k1]?=some x) (hy:ys[k2]?=some y)
  (hQ:∀h',IsZip h' z TI TO (rawInt s.heap.objs.size)->IsPair h' TO x y->SrcTn b1 i1 l1 (k1+1) h'->SrcTn b2 i2 l2 (k2+1) h'->IsPair h' s.heap.objs.size x y->h'.objs.size=s.heap.objs.size+1->
   (∀c o,c≠z->c≠TO->c≠i1->c≠i2->s.heap.get? c=some o->h'.get? c=some o)->Q (some (.ref s.heap.objs.size)) { s with heap:=h' }):
  wpAny (model prog w) A (pyNext (.ref z)) Q E s:=by
 have hT:s.TypeIs (.ref z) "zip":=⟨_,hz,rfl⟩;unfold pyNext
 exact wpAny_bind (wpAny_attempt (wpAny_callSpecial?_slot (name:=Str.ofString "__next__") hT F.slot_zip_next
  (wpAny_call_entry F.slot_zip_next hT F.entry_zip_next (vG D O1 O2 hz hTI hTO h1 h2 hl1 hl2 hx hy fun h' a1 a2 a3 a4 a5 a6 a7=>wpAny_pure (hQ h' a1 a2 a3 a4 a5 a6 a7)) (F.args_zip_next_1 _))))
theorem j9{b1 b2:Bool}{z TI TO i1 i2 l1 l2:Addr}{k1 k2:Nat}{xs ys:Array Value}{a b:Value}{Q:Option Value->Shared->Prop}(hh:A.handled=none)(D:ZApart z TI TO i1 i2)(O1:qF z TO i1 i2 l1)(O2:qF z TO i1 i2 l2)
  (hz:IsZip s.heap z TI TO .none) (hTI:IsPair s.heap TI (.ref i1) (.ref i2)) (hTO:IsPair s.heap TO a b)
  (h1:SrcTn b1 i1 l1 k1 s.heap) (h2:SrcTn b2 i2 l2 k2 s.heap) (hl1:SrcSq b1 s.heap l1 xs) (hl2:SrcSq b2 s.heap l2 ys) (hend:xs[k1]?=none\/ys[k2]?=none)
  (hQ:∀h',(∀c o,c≠z->c≠TO->c≠i1->c≠i2->s.heap.get? c=some o->h'.get? c=some o)->Q none { s with heap:=h' }):wpAny (model prog w) A (pyNext (.ref z)) Q E s:=by
 have hT:s.TypeIs (.ref z) "zip":=⟨_,hz,rfl⟩;unfold pyNext
 refine wpAny_bind (wpAny_attempt (wpAny_callSpecial?_slot (name:=Str.ofString "__next__") hT F.slot_zip_next
  (wpAny_call_entry F.slot_zip_next hT F.entry_zip_next (xS hh D O1 O2 hz hTI hTO h1 h2 hl1 hl2 hend fun h' e hk he=>?_) (F.args_zip_next_1 _))))
 obtain ⟨o,ho,hc⟩:=he;refine wpAny_bind (wpAny_isInstance (T:="StopIteration") (b:=true) ⟨o,ho,hc⟩ isSubtype_stop ?_);exact wpAny_pure (hQ _ hk)
end
abbrev zH1(c1:String)(h:Heap)(l1:Addr):Heap:=h.push { cls:=.type c1,data:=.fields #[.ref l1,.int 0 0] }
abbrev zH2(c1 c2:String)(h:Heap)(l1 l2:Addr):Heap:=(zH1 c1 h l1).push { cls:=.type c2,data:=.fields #[.ref l2,.int 0 0] }
abbrev zH3(c1 c2:String)(h:Heap)(l1 l2:Addr):Heap:=(zH2 c1 c2 h l1 l2).push { cls:=.type "tuple",data:=.seq #[.ref h.objs.size,.ref (zH1 c1 h l1).objs.size] }
abbrev zH4(c1 c2:String)(h:Heap)(l1 l2:Addr):Heap:=(zH3 c1 c2 h l1 l2).push { cls:=.type "tuple",data:=.seq #[.none,.none] }
abbrev Bu(c1 c2:String)(h:Heap)(l1 l2:Addr):Heap:=(zH4 c1 c2 h l1 l2).push { cls:=.type "zip",data:=.fields #[.none,.bool false,.bool false,.ref (zH2 c1 c2 h l1 l2).objs.size,.ref (zH3 c1 c2 h l1 l2).objs.size] }
theorem tH(b1 b2:Bool)(l1 l2:Addr)(xs ys:Array Value):
  Meets (Builtin.«zip.__new__» ⟨[.type "zip",.ref l1,.ref l2],[]⟩) (fun _ R s=>SrcSq b1 s.heap l1 xs/\SrcSq b2 s.heap l2 ys/\
   R (.ok (.ret (.ref (zH4 (aR b1) (aR b2) s.heap l1 l2).objs.size))) { s with heap:=Bu (aR b1) (aR b2) s.heap l1 l2 }):=
 .of_wp fun prog w A R s h=>by
  obtain ⟨hp,g,d,tk,os⟩:=s;obtain ⟨hl1,hl2,h⟩:=h;have hsub:=sub_zip;have hL1:SrcSq b1 (Shared.heap ⟨hp,g,d,tk,os⟩) l1 xs:=hl1;have hL2:SrcSq b2 (Shared.heap ⟨hp.push { cls:=.type (aR b1),data:=.fields #[.ref l1,.int 0 0] },g,d,tk,os⟩) l2 ys:=SrcSq.keep hl2 fun o e=>Heap.get?_push_of_some _ e
  wp_walk using cY hL1,cY hL2
  exact ⟨_,rfl,h⟩
section
variable {prog:Program}{w:World}{A:Around}{E:Value->Shared->Prop}{s:Shared}
theorem oJ{b1 b2:Bool}{l1 l2:Addr}{xs ys:Array Value}{Q:Value->Shared->Prop}(hl1:SrcSq b1 s.heap l1 xs)(hl2:SrcSq b2 s.heap l2 ys)
  (h:∀h',IsZip h' (s.heap.objs.size+4) (s.heap.objs.size+2) (s.heap.objs.size+3) .none->IsPair h' (s.heap.objs.size+2) (.ref s.heap.objs.size) (.ref (s.heap.objs.size+1))->
   IsPair h' (s.heap.objs.size+3) .none .none->SrcTn b1 s.heap.objs.size l1 0 h'->SrcTn b2 (s.heap.objs.size+1) l2 0 h'->h'.objs.size=s.heap.objs.size+5->
   (∀c o,s.heap.get? c=some o->h'.get? c=some o)->Q (.ref (s.heap.objs.size+4)) { s with heap:=h' }):
  wpAny (model prog w) A (call (.type "zip") [.ref l1,.ref l2]) Q E s:=by
 refine callType_new F.called_zip (by decide) (F.typeCall_zip_2 _ _) (F.newCall_zip_2 _ _) (fun obj=>F.args_object_init_3 obj _ _) F.entry_zip_new (tH b1 b2 l1 l2 xs ys) ⟨hl1,hl2,?_⟩
 have z1:(zH1 (aR b1) s.heap l1).objs.size=s.heap.objs.size+1:=Heap.size_push ..;have z2:(zH2 (aR b1) (aR b2) s.heap l1 l2).objs.size=s.heap.objs.size+2:=by rw [Heap.size_push,z1]
 have z3:(zH3 (aR b1) (aR b2) s.heap l1 l2).objs.size=s.heap.objs.size+3:=by rw [Heap.size_push,z2]
 have z4:(zH4 (aR b1) (aR b2) s.heap l1 l2).objs.size=s.heap.objs.size+4:=by rw [Heap.size_push,z3]
 have z5:(Bu (aR b1) (aR b2) s.heap l1 l2).objs.size=s.heap.objs.size+5:=by rw [Heap.size_push,z4]
 have g5:(Bu (aR b1) (aR b2) s.heap l1 l2).get? (zH4 (aR b1) (aR b2) s.heap l1 l2).objs.size=some _:=Heap.get?_push_size _ rfl;have g4:(Bu (aR b1) (aR b2) s.heap l1 l2).get? (zH3 (aR b1) (aR b2) s.heap l1 l2).objs.size=some _:=Heap.get?_push_of_some _ (Heap.get?_push_size _ rfl);have g3:(Bu (aR b1) (aR b2) s.heap l1 l2).get? (zH2 (aR b1) (aR b2) s.heap l1 l2).objs.size=some _:=Heap.get?_push_of_some _ (Heap.get?_push_of_some _ (Heap.get?_push_size _ rfl));have g2:(Bu (aR b1) (aR b2) s.heap l1 l2).get? (zH1 (aR b1) s.heap l1).objs.size=some _:=Heap.get?_push_of_some _ (Heap.get?_push_of_some _ (Heap.get?_push_of_some _ (Heap.get?_push_size _ rfl)));have g1:(Bu (aR b1) (aR b2) s.heap l1 l2).get? s.heap.objs.size=some _:=Heap.get?_push_of_some _ (Heap.get?_push_of_some _ (Heap.get?_push_of_some _ (Heap.get?_push_of_some _ (Heap.get?_push_size _ rfl))));show _/\_;rw [z2,z3,z4] at g5;rw [z1,z2] at g3;rw [z3] at g4;rw [z1] at g2;rw [z4];exact ⟨⟨_,g5,rfl⟩,h _ g5 g3 g4 (kZ g1) (kZ g2) z5 fun c o x=>
  Heap.get?_push_of_some _ (Heap.get?_push_of_some _ (Heap.get?_push_of_some _ (Heap.get?_push_of_some _ (Heap.get?_push_of_some _ x))))⟩
end
end L2
namespace L2
open PySem PySem.Spec PyProof.Rows
def ku(K:W.Frag)(b:Bool)(H:Hp)(a:Addr)(xs:List V):Prop:=if b=true then SqL K H a xs else gE K H a xs
section
variable {X:Cx}{pins:List (Addr×Obj)}{σ:St}{H:Hp}{s:Shared}{a:Addr}{xs ys:List V}{b:Bool}
theorem Inv.src(I:Inv X pins σ H s)(h:ku X.K b H a xs):∃its:List Value,Vals xs its/\SrcSq b s.heap a its.toArray/\xs.length<=sizeLine:=by
 cases b with
 |true=>obtain ⟨its,r,p,z⟩:=I.list (show SqL X.K H a xs from h);exact ⟨its,r,p.isList,z⟩
 |false=>obtain ⟨its,r,p,z⟩:=I.tuple (show gE X.K H a xs from h);exact ⟨its,r,p,z⟩
theorem Inv.src_inj(I:Inv X pins σ H s)(h:ku X.K b H a xs)(h':ku X.K b H a ys):xs=ys:=by
 cases b with
 |true=>exact I.list_inj (show SqL X.K H a xs from h) h'
 |false=>exact I.tuple_inj (show gE X.K H a xs from h) h'
theorem Inv.src_ne(I:Inv X pins σ H s)(h:ku X.K b H a xs){it:Addr}(f:gL X pins H it):a≠it:=by
 obtain ⟨f0,f1,f2,f3,f4,f5⟩:=f;intro e;subst e;have kne:∀o,X.K.lookup a=some o->False:=fun o hk=>by
  have hb:=I.ok.mod.kin a o hk;rcases f3 with z|z
  ·exact I.ok.noex a o hb z
  ·exact absurd (Nat.lt_of_lt_of_le (Heap.lt_size (I.ok.bs a o hb).1) z) (Nat.lt_irrefl _)
 cases b with
 |true=>
  rcases (show SqL X.K H a xs from h) with (z|⟨o,z⟩)|⟨o,_,_,hk,_⟩
  ·rw [f0] at z;cases z
  ·rw [f0] at z;cases z
  ·exact kne o hk
 |false=>
  rcases (show gE X.K H a xs from h) with (z|⟨o,z⟩)|⟨o,_,_,hk,_⟩
  ·rw [f0] at z;cases z
  ·rw [f0] at z;cases z
  ·exact kne o hk
end
def Itz(K:W.Frag)(b1 b2:Bool)(l1 l2:Addr):It:=
 ⟨fun i H=>∃xs ys x y,ku K b1 H l1 xs/\ku K b2 H l2 ys/\xs[i]?=some x/\ys[i]?=some y,
  fun i H v H'=>∃T x y,H T=none/\v=.ref T/\H'=upd H T (.tup [x,y])/\(∀xs,ku K b1 H l1 xs->xs[i]?=some x)/\(∀ys,ku K b2 H l2 ys->ys[i]?=some y),
  fun i H=>∃xs ys,ku K b1 H l1 xs/\ku K b2 H l2 ys/\(xs.length<=i\/ys.length<=i)⟩
theorem Inv.turned4{X:Cx}{pins:List (Addr×Obj)}{σ:St}{H:Hp}{s:Shared}{h':Heap}{t':Nat}{fp:List Addr}(I:Inv X pins σ H s)(hf:∀b∈fp,gL X pins H b)
  (k:∀b o,b∉fp->s.heap.get? b=some o->h'.get? b=some o):Inv X pins σ H { s with heap:=h',toks:=t' }:=by
 have nfp:∀b u,H b=some u->b∉fp:=fun b u e z=>by have:=(hf b z).1;rw [e] at this;cases this
 refine I.step (g':=s.gens) (d':=s.drawn) (ch:=fp) (fun b hb=>?_) (fun b o _ _ hc e _=>k b o hc e) (fun b o _ _ hc e _=>⟨o.slots,k b o hc e⟩) (fun _ _ _ _ n=>n)
  (fun b o hc e=>⟨o,k b o hc e⟩) (fun _ _ e=>e) (fun _ _ _ e=>e) (fun b ps e=>⟨#[],by rw [e];simp⟩) (fun m hm=>?_) (fun b u e=>?_) I.bare
 ·obtain ⟨f0,f1,f2,f3,f4,f5⟩:=hf b hb
  exact ⟨f3,f1,f4,f5⟩
 ·obtain ⟨o,es,ep,ho,r⟩:=hm
  exact ⟨o,es,ep,k _ o (fun z=>(hf _ z).2.1 rfl) ho,r⟩
 ·refine (I.hok b u e).stay (fun c v hc q=>k c v ?_ q) (fun _ q=>q) fun _ _ q=>q
  rcases hc with z|z
  ·rw [z];exact nfp b u e
  ·exact nfp c _ z
theorem Inv.turnedNew{X:Cx}{pins:List (Addr×Obj)}{σ:St}{H:Hp}{s:Shared}{h':Heap}{t':Nat}{fp:List Addr}{zs:List V}{us:List Value}{o':Obj}(I:Inv X pins σ H s)(hf:∀b∈fp,gL X pins H b)
  (k:∀b o,b∉fp->s.heap.get? b=some o->h'.get? b=some o) (hlt:∀b∈fp,∃o,s.heap.get? b=some o) (hlv:∀b∈fp,∃o,h'.get? b=some o) (hT:h'.get? s.heap.objs.size=some o') (hoc:o'.cls=.type "tuple") (hod:∃n,o'.data=.seq us.toArray n)
  (r:Vals zs us) (hdn:o'.dict=none) (hz:zs.length<=sizeLine):Inv X pins σ (upd H s.heap.objs.size (.tup zs)) { s with heap:=h',toks:=t' }:=by
 have hTn:H s.heap.objs.size=none:=I.hok.fresh (Nat.le_refl _);have nfp:∀b u,H b=some u->b∉fp:=fun b u e z=>by have:=(hf b z).1;rw [e] at this;cases this
 refine I.step (g':=s.gens) (d':=s.drawn) (ch:=fp) (fun b hb=>?_) (fun b o _ _ hc e _=>k b o hc e) (fun b o _ _ hc e _=>⟨o.slots,k b o hc e⟩) (fun b o _ e n=>by rw [upd_ne (Nat.ne_of_lt (Heap.lt_size e))];exact n)
  (fun b o hc e=>⟨o,k b o hc e⟩) (fun b zs' e=>by rw [upd_ne (a_ e hTn)];exact e) (fun b o u e=>by rw [upd_ne (a_ e hTn)];exact e) (fun b ps e=>⟨#[],by rw [upd_ne (a_ e hTn),e];simp⟩) (fun m hm=>?_) (fun b u e=>?_) I.bare
 ·obtain ⟨f0,f1,f2,f3,f4,f5⟩:=hf b hb
  exact ⟨f3,f1,f4,f5⟩
 ·obtain ⟨o,es,ep,ho,r⟩:=hm
  exact ⟨o,es,ep,k _ o (fun z=>(hf _ z).2.1 rfl) ho,r⟩
 ·by_cases hb:b=s.heap.objs.size
  ·subst hb
   rw [upd_same] at e;cases e;obtain ⟨n,hd⟩:=hod;exact ⟨hz,us,r,⟨o',hT,⟨hoc,n,hd⟩,hdn⟩⟩
  ·rw [upd_ne hb] at e
   refine (I.hok b u e).stay (fun c v hc q=>k c v ?_ q) (fun c q=>by rw [upd_ne (a_ q hTn)];exact q) fun c zs' q=>by rw [upd_ne (a_ q hTn)];exact q
   rcases hc with z|z
   ·rw [z];exact nfp b u e
   ·exact nfp c _ z
theorem uA{P:Program}{w:World}{K:W.Frag}{elts:List Expr}{x1:Nat}{tp:Pos}(b1 b2:Bool)(l1 l2 z TI TO i1 i2:Addr)(D:ZApart z TI TO i1 i2):
  Turn P w K (.Tuple elts x1 tp) (Itz K b1 b2 l1 l2) [z,TI,TO,i1,i2] z (fun i h=>IsZip h z TI TO .none/\IsPair h TI (.ref i1) (.ref i2)/\(∃a b,IsPair h TO a b)/\SrcTn b1 i1 l1 i h/\SrcTn b2 i2 l2 i h) where
 mem:=by simp
 obj:=fun i h st b hb=>by
  obtain ⟨hz,hTI,⟨a,c,hTO⟩,h1,h2⟩:=st;have hb':b=z\/b=TI\/b=TO\/b=i1\/b=i2:=by simpa using hb
  rcases hb' with e|e|e|e|e<;>subst e
  ·exact ⟨_,hz,fun v q=>nomatch q⟩
  ·exact ⟨_,hTI,fun v q=>nomatch q⟩
  ·exact ⟨_,hTO,fun v q=>nomatch q⟩
  ·exact h1.lt
  ·exact h2.lt
 keep:=fun i h h' st k=>by
  obtain ⟨hz,hTI,⟨a,c,hTO⟩,h1,h2⟩:=st;exact ⟨k z (by simp) _ hz,k TI (by simp) _ hTI,⟨a,c,k TO (by simp) _ hTO⟩,h1.keep fun o e=>k i1 (by simp) o e,h2.keep fun o e=>k i2 (by simp) o e⟩
 item:=by
  intro X hP hw hK hc i pins s σ H E I hf st hg;subst hP hw hK;obtain ⟨xs,ys,x,y,q1,q2,hx,hy⟩:=hg;obtain ⟨hz,hTI,⟨a,c,hTO⟩,h1,h2⟩:=st;obtain ⟨its1,r1,s1,z1⟩:=I.src q1;obtain ⟨its2,r2,s2,z2⟩:=I.src q2;obtain ⟨u,hu,ru⟩:=r1.get hx;obtain ⟨v,hv,rv⟩:=r2.get hy;have O1:qF z TO i1 i2 l1:=⟨I.src_ne q1 (hf z (by simp)),I.src_ne q1 (hf TO (by simp)),I.src_ne q1 (hf i1 (by simp)),I.src_ne q1 (hf i2 (by simp))⟩
  have O2:qF z TO i1 i2 l2:=⟨I.src_ne q2 (hf z (by simp)),I.src_ne q2 (hf TO (by simp)),I.src_ne q2 (hf i1 (by simp)),I.src_ne q2 (hf i2 (by simp))⟩
  refine dW D O1 O2 hz hTI hTO h1 h2 s1 s2 (x:=u) (y:=v) (by simpa using hu) (by simpa using hv) fun h' a1 a2 a3 a4 a5 a6 hk=>?_
  refine ⟨_,rfl,wpAny_letOwnedTupleGo_zip a1 fun h'' hz'' hs''=>?_⟩;have hzs:z≠s.heap.objs.size:=Nat.ne_of_lt (Heap.lt_size hz);have kk:∀b o,b∉[z,TI,TO,i1,i2]->s.heap.get? b=some o->h''.get? b=some o:=fun b o hb e=>
   hs''.extBut b o (fun q=>hb (by simp [q])) (hk b o (fun q=>hb (by simp [q])) (fun q=>hb (by simp [q])) (fun q=>hb (by simp [q])) (fun q=>hb (by simp [q])) e)
  have hT:h''.get? s.heap.objs.size=some { cls:=.type "tuple",data:=.seq #[u,v] }:=hs''.extBut _ _ hzs.symm a5;have lv:∀b∈[z,TI,TO,i1,i2],∃o,s.heap.get? b=some o:=fun b hb=>by
   have hb':b=z\/b=TI\/b=TO\/b=i1\/b=i2:=by simpa using hb
   rcases hb' with e|e|e|e|e<;>subst e
   ·exact ⟨_,hz⟩
   ·exact ⟨_,hTI⟩
   ·exact ⟨_,hTO⟩
   ·obtain ⟨o,e,_⟩:=h1.lt;exact ⟨o,e⟩
   ·obtain ⟨o,e,_⟩:=h2.lt;exact ⟨o,e⟩
  have n1:SrcTn b1 i1 l1 (i+1) h'':=a3.keep fun o e=>hs''.extBut _ o D.i1z e;have n2:SrcTn b2 i2 l2 (i+1) h'':=a4.keep fun o e=>hs''.extBut _ o D.i2z e;have nTI:IsPair h'' TI (.ref i1) (.ref i2):=hs''.extBut _ _ D.TIz (hk _ _ D.TIz D.TITO D.TIi1 D.TIi2 hTI);have nTO:IsPair h'' TO u v:=hs''.extBut _ _ D.TOz a2;have lv':∀b∈[z,TI,TO,i1,i2],∃o,h''.get? b=some o:=fun b hb=>by
   have hb':b=z\/b=TI\/b=TO\/b=i1\/b=i2:=by simpa using hb
   rcases hb' with e|e|e|e|e<;>subst e
   ·exact ⟨_,hz''⟩
   ·exact ⟨_,nTI⟩
   ·exact ⟨_,nTO⟩
   ·obtain ⟨o,e,_⟩:=n1.lt;exact ⟨o,e⟩
   ·obtain ⟨o,e,_⟩:=n2.lt;exact ⟨o,e⟩
  have hTn:H s.heap.objs.size=none:=I.hok.fresh (Nat.le_refl _);refine ⟨.ref s.heap.objs.size,_,I.turnedNew (s:=s) (h':=h'') (t':=s.toks) (zs:=[x,y]) (us:=[u,v]) hf kk lv lv' hT rfl ⟨_,rfl⟩ (.cons ru (.cons rv .nil)) rfl (by show 2<=sizeLine;decide),rfl,⟨_,x,y,hTn,rfl,rfl,fun zs hzs'=>?_,fun zs hzs'=>?_⟩,⟨hz'',nTI,⟨_,_,nTO⟩,n1,n2⟩,fun b hb=>?_⟩
  ·rw [I.src_inj hzs' q1];exact hx
  ·rw [I.src_inj hzs' q2];exact hy
  ·obtain ⟨o,e⟩:=lv b hb
   rw [upd_ne (Nat.ne_of_lt (Heap.lt_size e))];exact (hf b hb).1
 done:=by
  intro X hP hw hK hc i pins s σ H E I hf st hg;subst hP hw hK;obtain ⟨xs,ys,q1,q2,hx⟩:=hg;obtain ⟨hz,hTI,⟨a,c,hTO⟩,h1,h2⟩:=st;obtain ⟨its1,r1,s1,z1⟩:=I.src q1;obtain ⟨its2,r2,s2,z2⟩:=I.src q2;have l1':=r1.length;have l2':=r2.length;have O1:qF z TO i1 i2 l1:=⟨I.src_ne q1 (hf z (by simp)),I.src_ne q1 (hf TO (by simp)),I.src_ne q1 (hf i1 (by simp)),I.src_ne q1 (hf i2 (by simp))⟩
  have O2:qF z TO i1 i2 l2:=⟨I.src_ne q2 (hf z (by simp)),I.src_ne q2 (hf TO (by simp)),I.src_ne q2 (hf i1 (by simp)),I.src_ne q2 (hf i2 (by simp))⟩
  refine j9 (I.ok.hd hc) D O1 O2 hz hTI hTO h1 h2 s1 s2 ?_ fun h' hk=>⟨rfl,I.turned4 (t':=s.toks) hf fun b o hb e=>hk b o (fun q=>hb (by simp [q])) (fun q=>hb (by simp [q])) (fun q=>hb (by simp [q])) (fun q=>hb (by simp [q])) e⟩
  rcases hx with hx|hx
  ·exact .inl (by simp;lia)
  ·exact .inr (by simp;lia)
 self:=fun _ _ _ _ _ st h=>wpAny_pyIter_zip st.1 h
section
variable {X:Cx}
def Ite(K:W.Frag)(b:Bool)(l:Addr):It:=
 ⟨fun i H=>∃xs x,ku K b H l xs/\xs[i]?=some x,
  fun i H v H'=>∃T x,H T=none/\v=.ref T/\H'=upd H T (.tup [.int i,x])/\(∀xs,ku K b H l xs->xs[i]?=some x),
  fun i H=>∃xs,ku K b H l xs/\xs.length<=i⟩
end
section
variable {prog:Program}{w:World}{A:Around}{E:Value->Shared->Prop}{s:Shared}
theorem Draws.src(hh:A.handled=none)(b:Bool)(it l:Addr)(hne:l≠it)(items:Array Value):
  Draws prog w A it [it,l] items.size (fun i v=>items[i]?=some v) (fun i h=>SrcTn b it l i h/\SrcSq b h l items) where
 live:=fun _ _ st=>let ⟨o,ho,_⟩:=st.1.lt;⟨o,ho⟩
 frame:=fun _ _ _ st hk=>⟨st.1.keep fun o e=>hk it (by simp) o e,st.2.keep fun o e=>hk l (by simp) o e⟩
 item:=fun i s Q E hi st hQ=>by
  refine bI st.1 st.2 (x:=items[i]) (by simp [hi]) fun h' hit' hs'=>?_
  exact hQ _ h' s.toks (by simp [hi]) ⟨hit',st.2.keep fun o e=>hs'.extBut _ o hne e⟩ hs'
 done:=fun s Q E st hE=>bW hh st.1 st.2 (by simp) hE
theorem qb(b:Bool)(l:Addr)(items:Array Value):
  Meets (Builtin.«enumerate.__new__» ⟨[.type "enumerate",.ref l],[]⟩) (fun _ R s=>SrcSq b s.heap l items/\
   R (.ok (.ret (.ref (s.heap.push { cls:=.type (aR b),data:=.fields #[.ref l,.int 0 0] }).objs.size)))
    { s with heap:=(s.heap.push { cls:=.type (aR b),data:=.fields #[.ref l,.int 0 0] }).push { cls:=.type "enumerate",data:=.fields #[.none,.bool false,.ref s.heap.objs.size,rawInt 0,.none,.none] } }):=
 .of_wp fun prog w A R s h=>by
  obtain ⟨hp,g,d,tk,os⟩:=s;obtain ⟨hl,h⟩:=h;have hsub:=sub_enumerate;have hL:SrcSq b (Shared.heap ⟨hp,g,d,tk,os⟩) l items:=hl
  wp_walk
  refine wpAny_stack_any fun st=>wpAny_pure ?_
  split
  ·rename_i c _ _ _ _ _
   cases (c==Value.type "enumerate")
   ·wp_walk using cY hL
    exact ⟨_,rfl,h⟩
   ·wp_walk using cY hL
    exact ⟨_,rfl,h⟩
  ·wp_walk using cY hL
   exact ⟨_,rfl,h⟩
theorem sO{b:Bool}{l:Addr}{items:Array Value}{Q:Value->Shared->Prop}(hL:SrcSq b s.heap l items)
  (h:∀h',IsEnum h' (s.heap.objs.size+1) s.heap.objs.size 0 .none->SrcTn b s.heap.objs.size l 0 h'->h'.objs.size=s.heap.objs.size+2->
   (∀b o,s.heap.get? b=some o->h'.get? b=some o)->Q (.ref (s.heap.objs.size+1)) { s with heap:=h' }):
  wpAny (model prog w) A (call (.type "enumerate") [.ref l]) Q E s:=by
 refine callType_new F.called_enumerate (by decide) (F.typeCall_enumerate_1 _) (F.newCall_enumerate_1 _) (fun obj=>F.args_object_init_2 obj _) F.entry_enumerate_new (qb b l items) ⟨hL,?_⟩
 have hz:(s.heap.push { cls:=.type (aR b),data:=.fields #[.ref l,.int 0 0] }).objs.size=s.heap.objs.size+1:=Heap.size_push ..;show _/\_;rw [hz]
 have he:IsEnum ((s.heap.push { cls:=.type (aR b),data:=.fields #[.ref l,.int 0 0] }).push
   { cls:=.type "enumerate",data:=.fields #[.none,.bool false,.ref s.heap.objs.size,rawInt 0,.none,.none] }) (s.heap.objs.size+1) s.heap.objs.size 0 .none:=by
  have:=Heap.get?_push_size (s.heap.push { cls:=.type (aR b),data:=.fields #[.ref l,.int 0 0] })
   (o:={ cls:=.type "enumerate",data:=.fields #[.none,.bool false,.ref s.heap.objs.size,rawInt 0,.none,.none] }) rfl
  rw [hz] at this;exact this
 refine ⟨⟨_,he,rfl⟩,h _ he (kZ (Heap.get?_push_of_some _ (Heap.get?_push_size _ rfl))) (by rw [Heap.size_push,hz]) fun b o x=>Heap.get?_push_of_some _ (Heap.get?_push_of_some _ x)⟩
end
theorem tX{P:Program}{w:World}{K:W.Frag}{elts:List Expr}{x1:Nat}{tp:Pos}(b:Bool)(l e it:Addr)(hei:e≠it):
  Turn P w K (.Tuple elts x1 tp) (Ite K b l) [e,it] e (fun i h=>(∃old,IsEnum h e it i old)/\SrcTn b it l i h) where
 mem:=by simp
 obj:=fun i h st c hc=>by
  obtain ⟨⟨old,he⟩,h1⟩:=st;have hc':c=e\/c=it:=by simpa using hc
  rcases hc' with q|q<;>subst q
  ·exact ⟨_,he,fun v z=>nomatch z⟩
  ·exact h1.lt
 keep:=fun i h h' st k=>by
  obtain ⟨⟨old,he⟩,h1⟩:=st;exact ⟨⟨old,k e (by simp) _ he⟩,h1.keep fun o q=>k it (by simp) o q⟩
 item:=by
  intro X hP hw hK hc i pins s σ H E I hf st hg;subst hP hw hK;obtain ⟨xs,x,q1,hx⟩:=hg;obtain ⟨⟨old,he⟩,h1⟩:=st;obtain ⟨its,r,sq,z1⟩:=I.src q1;obtain ⟨u,hu,ru⟩:=r.get hx;have hle:l≠e:=I.src_ne q1 (hf e (by simp))
  have hli:l≠it:=I.src_ne q1 (hf it (by simp))
  have hil:i<its.toArray.size:=by
   rw [List.size_toArray,<- r.length];exact (List.getElem?_eq_some_iff.mp hx).1
  have D:Draws X.prog X.w X.A.in1 it [it,l] its.toArray.size (fun i v=>its.toArray[i]?=some v) (fun i h=>SrcTn b it l i h/\SrcSq b h l its.toArray):=Draws.src (A:=X.A.in1) (I.ok.hd hc) b it l hli its.toArray;refine wpAny_pyNext_enum_itemD D he ⟨h1,sq⟩ hil hei (by simp [hei,Ne.symm hle]) fun v h' tk hv ho hs' hT hsz hk=>?_
  have ev:v=u:=by
   have hu':its.toArray[i]?=some u:=by simpa using hu
   rw [hu'] at hv;exact (Option.some.inj hv).symm
  subst ev;refine ⟨_,rfl,wpAny_letOwnedTupleGo_enum ho fun h'' he'' hs''=>?_⟩;have hes:e≠s.heap.objs.size:=Nat.ne_of_lt (Heap.lt_size he);have n1:SrcTn b it l (i+1) h'':=hs'.1.keep fun o q=>hs''.extBut _ o hei.symm q;have kk:∀c o,c∉[e,it]->s.heap.get? c=some o->h''.get? c=some o:=fun c o hc q=>
   hs''.extBut c o (fun z=>hc (by simp [z])) (hk c o (fun z=>hc (by simp [z])) (fun z=>hc (by simp [z])) q)
  have hT':h''.get? s.heap.objs.size=some { cls:=.type "tuple",data:=.seq #[.int i tk,v] }:=hs''.extBut _ _ hes.symm hT;have lv:∀c∈[e,it],∃o,s.heap.get? c=some o:=fun c hc=>by
   have hc':c=e\/c=it:=by simpa using hc
   rcases hc' with q|q<;>subst q
   ·exact ⟨_,he⟩
   ·obtain ⟨o,q,_⟩:=h1.lt;exact ⟨o,q⟩
  have lv':∀c∈[e,it],∃o,h''.get? c=some o:=fun c hc=>by
   have hc':c=e\/c=it:=by simpa using hc
   rcases hc' with q|q<;>subst q
   ·exact ⟨_,he''⟩
   ·obtain ⟨o,q,_⟩:=n1.lt;exact ⟨o,q⟩
  have hTn:H s.heap.objs.size=none:=I.hok.fresh (Nat.le_refl _);refine ⟨.ref s.heap.objs.size,_,I.turnedNew (s:=s) (h':=h'') (t':=tk+1) (zs:=[.int i,x]) (us:=[.int i tk,v]) hf kk lv lv' hT' rfl ⟨_,rfl⟩ (.cons ⟨tk,rfl⟩ (.cons ru .nil)) rfl (by show 2<=sizeLine;decide),rfl,⟨_,x,hTn,rfl,rfl,fun zs hzs'=>?_⟩,⟨⟨v,by simpa using he''⟩,n1⟩,fun c hc=>?_⟩
  ·rw [I.src_inj hzs' q1];exact hx
  ·obtain ⟨o,q⟩:=lv c hc
   rw [upd_ne (Nat.ne_of_lt (Heap.lt_size q))];exact (hf c hc).1
 done:=by
  intro X hP hw hK hc i pins s σ H E I hf st hg;subst hP hw hK;obtain ⟨xs,q1,hx⟩:=hg;obtain ⟨⟨old,he⟩,h1⟩:=st;obtain ⟨its,r,sq,z1⟩:=I.src q1;have hli:l≠it:=I.src_ne q1 (hf it (by simp))
  have hT:s.TypeIs (.ref e) "enumerate":=⟨_,he,rfl⟩;have hl:=r.length;unfold pyNext
  refine wpAny_bind (wpAny_attempt (wpAny_callSpecial?_slot (name:=Str.ofString "__next__") hT F.slot_enumerate_next
   (wpAny_call_entry F.slot_enumerate_next hT F.entry_enumerate_next ?_ (F.args_enumerate_next_1 _))))
  show wpAny _ _ (field (.ref e) 2 >>= _) _ _ _;refine wpAny_bind (wpAny_field he rfl (x:=.ref it) rfl ?_);refine wpAny_bind (bW (I.ok.hd hc) h1 sq (by simp;lia) fun h' x he' hx'=>?_)
  obtain ⟨o,ho,hcl⟩:=hx';refine wpAny_bind (wpAny_isInstance (T:="StopIteration") (b:=true) ⟨o,ho,hcl⟩ isSubtype_stop ?_);exact wpAny_pure ⟨rfl,I.turned4 (t':=s.toks) hf fun c o' hc' q=>he' c o' (fun z=>hc' (by simp [z])) q⟩
 self:=fun _ _ _ _ _ st h=>let ⟨⟨_,he⟩,_⟩:=st;wpAny_pyIter_enum he h
section
variable {X:Cx}
theorem nv:bX X (.builtin "isinstance") (fun xs H Q=>∃x T t b,xs=[x,.ty T]/\TyOf X.K H x t/\W.kitOne X.K t (.type T)=some b/\Q (.bl b) H):=by
 intro pins s σ H xs us Q I r h;obtain ⟨x,T,t,b,rfl,ty,e,q⟩:=h;obtain ⟨u,c,rfl,rx,rc⟩:=r.two;obtain rfl:c=Value.type T:=rc;exact tF I rx ty e fun tk=>⟨.bl b,H,I.tok tk,rfl,q⟩
theorem vB(hc:X.calm=true):bX X (.builtin "all") (fun xs H Q=>∃(l:Addr) (bs:List Bool),xs=[.ref l]/\SqL X.K H l (bs.map V.bl)/\Q (.bl (bs.all id)) H):=by
 intro pins s σ H xs us Q I r h;obtain ⟨l,bs,rfl,hq,q⟩:=h;obtain ⟨u,rfl,ru⟩:=r.one;cases ru;obtain ⟨its,rv,p,hz⟩:=I.list hq;have hl:=rv.length;have hli:l<s.heap.objs.size:=by obtain ⟨o,e,_⟩:=p.isList;exact Heap.lt_size e
 have hne:l≠s.heap.objs.size:=Nat.ne_of_lt hli;have val:∀(i:Nat) (v:Value),its.toArray[i]?=some v->∃c,bs[i]?=some c/\v=.bool c:=fun i v hv=>by
  have hv':its[i]?=some v:=by simpa using hv
  have hi:i<bs.length:=by
   have:=(List.getElem?_eq_some_iff.mp hv').1;rw [List.length_map] at hl;lia
  obtain ⟨w',h1,h2⟩:=rv.get (i:=i) (x:=.bl bs[i]) (by rw [List.getElem?_map,List.getElem?_eq_getElem hi];rfl)
  rw [hv'] at h1;cases h1;exact ⟨bs[i],List.getElem?_eq_getElem hi,h2⟩
 have hsz:its.toArray.size=bs.length:=by rw [List.size_toArray,<- hl,List.length_map]
 refine call_all_walk (wpAny_pyIter_list p.isList ⟨s.heap.objs.size,_,_,_,_,_,fun i=>bs.getD i false,rfl,Walks.list (A:=X.A.in1) (I.ok.hd hc) s.heap.objs.size l hne its.toArray,⟨⟨_,Heap.get?_push_size _ rfl,rfl,rfl⟩,p.isList.push _⟩,fun i v s' Q' E' hv hq'=>?_,fun h' tk hk=>?_⟩)
 ·obtain ⟨c,h1,rfl⟩:=val i v hv
  refine wpAny_truthy_bool ?_;have eb:bs.getD i false=c:=by rw [List.getD_eq_getElem?_getD,h1];rfl
  have hq2:Q' (bs.getD i false) s':=hq';rw [eb] at hq2;exact hq2
 ·have e:(List.range its.toArray.size).all (fun i=>bs.getD i false)=bs.all id:=by
   rw [hsz,Bool.eq_iff_iff,List.all_eq_true,List.all_eq_true];constructor
   ·intro h b hb
    obtain ⟨i,hi,rfl⟩:=List.mem_iff_getElem.mp hb;have:=h i (List.mem_range.mpr hi)
    rwa [List.getD_eq_getElem?_getD,List.getElem?_eq_getElem hi] at this
   ·intro h i hi
    have hi':=List.mem_range.mp hi;rw [List.getD_eq_getElem?_getD,List.getElem?_eq_getElem hi'];exact h _ (List.getElem_mem hi')
  rw [e];refine ⟨.bl (bs.all id),H,?_,rfl,q⟩;exact I.kept (t':=tk) fun b o hb=>hk b o (by simp;exact Nat.ne_of_lt (Heap.lt_size hb)) (Heap.get?_push_of_some _ hb)
end
end L2
namespace L2
open PySem PySem.Spec PyProof.Rows
abbrev xf(h:Heap)(z TI TO:Addr)(f0:Value)(f1:Bool):Prop:=
 h.get? z=some { cls:=.type "zip",dict:=none,data:=.fields #[f0,.bool f1,.bool false,.ref TI,.ref TO],slots:=#[] }
theorem dN:entryFor table "zip.__getattribute__"=some Builtin.«object.__getattribute__»:=
 entryFor_alias (id':="object.__getattribute__") (by kernel_rfl) (by decide +kernel) (by decide +kernel) (by kernel_rfl)
theorem gI:typeLookup (.type "zip") "__getattr__"=pure none:=by rw [typeLookup_type,builtinLookup_eq_fast];kernel_rfl
theorem nw:typeLookup (.type "zip") "keys"=pure none:=by rw [typeLookup_type,builtinLookup_eq_fast];kernel_rfl
theorem bL:entryFor table "dict.update.loop"=some Builtin.«dict.update.loop»:=entryFor_of_fast (by kernel_rfl)
theorem aL:plainId "dict.update.loop"=true:=by decide +kernel
theorem jK(a TI TO:Addr)(f0:Value)(f1:Bool)(name:Str)(u:Tok)(hmiss:typeLookup (.type "zip") name=pure none)(hname:(["__module__","__name__","__qualname__","__doc__","__annotations__"]:List Str).contains name=false)(hsz:name.length+100<=sizeLine:=by size_fits):
  Meets (Builtin.«object.__getattribute__» ⟨[.ref a,.str name u],[]⟩) (fun A R s=>xf s.heap a TI TO f0 f1/\raisesAttr (.ref a) name A R s):=
 Meets.of_wp fun prog w A R s hs=>by
  obtain ⟨hp,g,d,tk,os⟩:=s;obtain ⟨hx,hs⟩:=hs;have hT:(⟨hp,g,d,tk,os⟩:Shared).TypeIs (.ref a) "zip":=⟨_,hx,rfl⟩;unfold Builtin.«object.__getattribute__»
  repeat (any_goals (first|assumption|wp_step))
  simp only [hname,Bool.false_eq_true,if_false]
  repeat (any_goals (first|assumption|wp_step))
  exact wpAny_raiseAttrError hs.1 hs.2 (attrMsg_fits (by decide +kernel) hsz)
section
variable {prog:Program}{w:World}{A:Around}{E:Value->Shared->Prop}{s:Shared}
theorem j_{a TI TO:Addr}{f0:Value}{f1:Bool}{Q:Option Value->Shared->Prop}(hx:xf s.heap a TI TO f0 f1)(hA:A.handled=none)
  (h:∀h' tk,(∀b o,s.heap.get? b=some o->h'.get? b=some o)->Q none { s with heap:=h',toks:=tk }):wpAny (model prog w) A (getAttr? (.ref a) "keys") Q E s:=by
 obtain ⟨hp,g,d,tk,os⟩:=s;have hT:∀tk',(⟨hp,g,d,tk',os⟩:Shared).TypeIs (.ref a) "zip":=fun _=>⟨_,hx,rfl⟩;have f1':=sub_AttributeError;have f3:=F.slot_zip_getattribute.lookup;have f4:=F.slot_zip_getattribute.bind (.ref a);have f5:=gI;unfold getAttr? getAttrBy? getAttrBy
 repeat (any_goals (first|assumption|exact hT _|((with_reducible show wpAny _ _ (call (Value.builtin "zip.__getattribute__") _ _) _ _ _);refine call_meets F.slot_zip_getattribute (hT _) dN (F.args_zip_getattribute_2 _ _) (jK a TI TO f0 f1 "keys" _ nw (by decide +kernel) (by decide +kernel)) ⟨hx,hA,fun h' tk' e hx'=>?_⟩)|wp_step))
 obtain ⟨t',u',he⟩:=hx'.there;show wpAny _ _ (getattributeRaised _ _ _ _ _ _ _) _ _ _;unfold getattributeRaised
 repeat (any_goals (first|assumption|wp_step))
 exact h _ _ hx'.keeps
theorem jW{M:Model}{a:Addr}{o:Obj}{Q:Option Obj->Shared->Prop}(ho:s.heap.get? a=some o)(h:Q (some o) s):wpAny M A (loadIfAlive a) Q E s:=fun Γ p _=>by
 show Sem.wp M Γ (.loadIfAlive a .pure) _ _ p s;rw [Sem.wp_loadIfAlive,ho];exact h
end
end L2
namespace L2
open PySem PySem.Spec PyProof.Rows
section
variable {prog:Program}{w:World}{A:Around}{E:Value->Shared->Prop}{s:Shared}
theorem tU{b1 b2 f1:Bool}{z TI TO T i1 i2 l1 l2:Addr}{k1 k2:Nat}{xs ys:Array Value}{x y:Value}{oT:Obj}{Q:Value->Shared->Prop}(D:ZApart z TI TO i1 i2)(O1:l1≠z/\l1≠i1)(O2:l2≠z/\l2≠i1/\l2≠i2)
  (hz:xf s.heap z TI TO (rawInt T) f1) (hT:s.heap.get? T=some oT) (hTI:IsPair s.heap TI (.ref i1) (.ref i2))
  (h1:SrcTn b1 i1 l1 k1 s.heap) (h2:SrcTn b2 i2 l2 k2 s.heap) (hl1:SrcSq b1 s.heap l1 xs) (hl2:SrcSq b2 s.heap l2 ys) (hx:xs[k1]?=some x) (hy:ys[k2]?=some y)
  (hQ:∀h',xf h' z TI TO (rawInt T) true->SrcTn b1 i1 l1 (k1+1) h'->SrcTn b2 i2 l2 (k2+1) h'->IsPair h' s.heap.objs.size x y->h'.objs.size=s.heap.objs.size+1->
   (∀c o,c≠z->c≠i1->c≠i2->s.heap.get? c=some o->h'.get? c=some o)->Q (.ref s.heap.objs.size) { s with heap:=h' }):
  wpAny (model prog w) A (Builtin.«zip.__next__» ⟨[.ref z],[]⟩) (fun fin s'=>∃v,fin=.done (.ret v)/\Q v s') E s:=by
 show wpAny _ _ (field (.ref z) 2 >>= _) _ _ _;refine wpAny_bind (wpAny_field hz rfl (x:=.bool false) rfl ?_);show wpAny _ _ (field (.ref z) 3 >>= _) _ _ _;refine wpAny_bind (wpAny_field hz rfl (x:=.ref TI) rfl ?_);refine wpAny_bind (wpAny_seqItems hTI rfl ?_);show wpAny _ _ (Builtin.SmallTypes.ownedTupleIsFree (.ref z) >>= _) _ _ _;refine wpAny_bind ?_;unfold Builtin.SmallTypes.ownedTupleIsFree;refine wpAny_bind (wpAny_field hz rfl (x:=rawInt T) rfl ?_);show wpAny _ _ (loadIfAlive _ >>= _) _ _ _;refine wpAny_bind (jW (o:=oT) (by simpa using hT) ?_)
 simp only [Option.isNone_some,Bool.false_eq_true,if_false];refine wpAny_bind (wpAny_field hz rfl (x:=.bool f1) rfl ?_)
 have go:wpAny (model prog w) A (if (Value.bool f1 != Value.bool true)=true then do setField (Value.ref z) 1 (Value.bool true);pure false else pure false)
   (fun a s'=>a=false/\∃h₀,s'={ s with heap:=h₀ }/\xf h₀ z TI TO (rawInt T) true/\(∀c o,c≠z->s.heap.get? c=some o->h₀.get? c=some o)/\h₀.objs.size=s.heap.objs.size) E s:=by
  cases f1 with
  |true=>
   rw [if_neg (by decide)]
   exact wpAny_pure ⟨rfl,s.heap,rfl,hz,fun _ _ _ e=>e,rfl⟩
  |false=>
   rw [if_pos (by decide)]
   refine wpAny_bind (wpAny_setField_rec hz (by simp) fun h₀ hz₀ hs₀=>wpAny_pure ⟨rfl,h₀,rfl,hz₀,fun c o hc e=>hs₀.extBut c o hc e,hs₀.1⟩)
 refine wpAny_mono go (fun a s' hq=>?_) fun _ _ e=>e;obtain ⟨rfl,h₀,rfl,hz₀,hk₀,hs₀⟩:=hq;simp only [Bool.false_eq_true,if_false];rw [<- Array.forIn_toList];simp only [List.forIn_cons,List.forIn_nil];refine wpAny_bind (wpAny_bind (wpAny_bind (wpAny_holding ?_)));show wpAny _ _ (Builtin.SmallTypes.nextOf (.ref i1) >>= _) _ _ _;refine wpAny_bind (bI (s:={ s with heap:=h₀ }) (h1.keep fun o e=>hk₀ _ o D.i1z e) (hl1.keep fun o e=>hk₀ _ o O1.1 e) hx fun h₂ h1₂ hs₂=>wpAny_pure ?_);refine wpAny_pure ?_;refine wpAny_bind (wpAny_bind (wpAny_holding ?_));show wpAny _ _ (Builtin.SmallTypes.nextOf (.ref i2) >>= _) _ _ _;refine wpAny_bind (bI (s:={ s with heap:=h₂ }) (h2.keep fun o e=>hs₂.extBut _ o D.i12.symm (hk₀ _ o D.i2z e)) (hl2.keep fun o e=>hs₂.extBut _ o O2.2.1 (hk₀ _ o O2.1 e)) hy fun h₃ h2₃ hs₃=>wpAny_pure ?_);refine wpAny_pure (wpAny_pure ?_);refine wpAny_bind (wpAny_newTuple (wpAny_pure ⟨_,rfl,?_⟩) (by show 2<=sizeLine;decide))
 have e2:h₂.objs.size=h₀.objs.size:=hs₂.1;have e3:h₃.objs.size=h₂.objs.size:=hs₃.1;have hsz:h₃.objs.size=s.heap.objs.size:=by rw [e3,e2,hs₀]
 have zl:z≠i1:=D.i1z.symm;have zl2:z≠i2:=D.i2z.symm;show Q (.ref h₃.objs.size) _;rw [hsz];refine hQ _ (Heap.get?_push_of_some _ (hs₃.extBut _ _ zl2 (hs₂.extBut _ _ zl hz₀))) (h1₂.keep fun o e=>Heap.get?_push_of_some _ (hs₃.extBut _ o D.i12 e)) (h2₃.keep fun o e=>Heap.get?_push_of_some _ e) ?_ ?_ fun c o c1 c2 c3 e=>Heap.get?_push_of_some _ (hs₃.extBut _ _ c3 (hs₂.extBut _ _ c2 (hk₀ c o c1 e)))
 ·rw [<- hsz]
  exact Heap.get?_push_size _ rfl
 ·rw [Heap.size_push,hsz]
theorem vt{b1 b2 f1:Bool}{z TI TO T i1 i2 l1 l2:Addr}{k1 k2:Nat}{xs ys:Array Value}{oT:Obj}{Q:Fin->Shared->Prop}(hh:A.handled=none)(D:ZApart z TI TO i1 i2)(O1:l1≠z/\l1≠i1)
  (hz:xf s.heap z TI TO (rawInt T) f1) (hT:s.heap.get? T=some oT) (hTI:IsPair s.heap TI (.ref i1) (.ref i2))
  (h1:SrcTn b1 i1 l1 k1 s.heap) (hl1:SrcSq b1 s.heap l1 xs) (hx:xs[k1]?=none)
  (hE:∀h' e,(∀c o,c≠z->c≠i1->s.heap.get? c=some o->h'.get? c=some o)->(∃o,h'.get? e=some o/\o.cls=.type "StopIteration")->E (.ref e) { s with heap:=h' }):
  wpAny (model prog w) A (Builtin.«zip.__next__» ⟨[.ref z],[]⟩) Q E s:=by
 show wpAny _ _ (field (.ref z) 2 >>= _) _ _ _;refine wpAny_bind (wpAny_field hz rfl (x:=.bool false) rfl ?_);show wpAny _ _ (field (.ref z) 3 >>= _) _ _ _;refine wpAny_bind (wpAny_field hz rfl (x:=.ref TI) rfl ?_);refine wpAny_bind (wpAny_seqItems hTI rfl ?_);show wpAny _ _ (Builtin.SmallTypes.ownedTupleIsFree (.ref z) >>= _) _ _ _;refine wpAny_bind ?_;unfold Builtin.SmallTypes.ownedTupleIsFree;refine wpAny_bind (wpAny_field hz rfl (x:=rawInt T) rfl ?_);show wpAny _ _ (loadIfAlive _ >>= _) _ _ _;refine wpAny_bind (jW (o:=oT) (by simpa using hT) ?_)
 simp only [Option.isNone_some,Bool.false_eq_true,if_false];refine wpAny_bind (wpAny_field hz rfl (x:=.bool f1) rfl ?_)
 have go:wpAny (model prog w) A (if (Value.bool f1 != Value.bool true)=true then do setField (Value.ref z) 1 (Value.bool true);pure false else pure false)
   (fun a s'=>a=false/\∃h₀,s'={ s with heap:=h₀ }/\(∀c o,c≠z->s.heap.get? c=some o->h₀.get? c=some o)) E s:=by
  cases f1 with
  |true=>
   rw [if_neg (by decide)]
   exact wpAny_pure ⟨rfl,s.heap,rfl,fun _ _ _ e=>e⟩
  |false=>
   rw [if_pos (by decide)]
   refine wpAny_bind (wpAny_setField_rec hz (by simp) fun h₀ hz₀ hs₀=>wpAny_pure ⟨rfl,h₀,rfl,fun c o hc e=>hs₀.extBut c o hc e⟩)
 refine wpAny_mono go (fun a s' hq=>?_) fun _ _ e=>e;obtain ⟨rfl,h₀,rfl,hk₀⟩:=hq;simp only [Bool.false_eq_true,if_false];rw [<- Array.forIn_toList];simp only [List.forIn_cons,List.forIn_nil];refine wpAny_bind (wpAny_bind (wpAny_bind (wpAny_holding ?_)));show wpAny _ _ (Builtin.SmallTypes.nextOf (.ref i1) >>= _) _ _ _;exact wpAny_bind (bW (s:={ s with heap:=h₀ }) hh (h1.keep fun o e=>hk₀ _ o D.i1z e) (hl1.keep fun o e=>hk₀ _ o O1.1 e) hx fun h₂ e hs₂ he=>hE h₂ e (fun c o c1 c2 q=>hs₂ _ _ c2 (hk₀ c o c1 q)) he)
theorem gF{b1 b2 f1:Bool}{z TI TO T i1 i2 l1 l2:Addr}{k1 k2:Nat}{xs ys:Array Value}{x y:Value}{oT:Obj}{Q:Option Value->Shared->Prop}(D:ZApart z TI TO i1 i2)(O1:l1≠z/\l1≠i1)(O2:l2≠z/\l2≠i1/\l2≠i2)
  (hz:xf s.heap z TI TO (rawInt T) f1) (hT:s.heap.get? T=some oT) (hTI:IsPair s.heap TI (.ref i1) (.ref i2))
  (h1:SrcTn b1 i1 l1 k1 s.heap) (h2:SrcTn b2 i2 l2 k2 s.heap) (hl1:SrcSq b1 s.heap l1 xs) (hl2:SrcSq b2 s.heap l2 ys) (hx:xs[k1]?=some x) (hy:ys[k2]?=some y)
  (hQ:∀h',xf h' z TI TO (rawInt T) true->SrcTn b1 i1 l1 (k1+1) h'->SrcTn b2 i2 l2 (k2+1) h'->IsPair h' s.heap.objs.size x y->h'.objs.size=s.heap.objs.size+1->
   (∀c o,c≠z->c≠i1->c≠i2->s.heap.get? c=some o->h'.get? c=some o)->Q (some (.ref s.heap.objs.size)) { s with heap:=h' }):wpAny (model prog w) A (pyNext (.ref z)) Q E s:=by
 have hTy:s.TypeIs (.ref z) "zip":=⟨_,hz,rfl⟩;unfold pyNext
 exact wpAny_bind (wpAny_attempt (wpAny_callSpecial?_slot (name:=Str.ofString "__next__") hTy F.slot_zip_next
  (wpAny_call_entry F.slot_zip_next hTy F.entry_zip_next (tU D O1 O2 hz hT hTI h1 h2 hl1 hl2 hx hy fun h' a1 a2 a3 a4 a5 a6=>wpAny_pure (hQ h' a1 a2 a3 a4 a5 a6)) (F.args_zip_next_1 _))))
theorem ik{b1 f1:Bool}{z TI TO T i1 i2 l1:Addr}{k1:Nat}{xs:Array Value}{oT:Obj}{Q:Option Value->Shared->Prop}(hh:A.handled=none)(D:ZApart z TI TO i1 i2)(O1:l1≠z/\l1≠i1)
  (hz:xf s.heap z TI TO (rawInt T) f1) (hT:s.heap.get? T=some oT) (hTI:IsPair s.heap TI (.ref i1) (.ref i2)) (h1:SrcTn b1 i1 l1 k1 s.heap) (hl1:SrcSq b1 s.heap l1 xs) (hx:xs[k1]?=none)
  (hQ:∀h',(∀c o,c≠z->c≠i1->s.heap.get? c=some o->h'.get? c=some o)->Q none { s with heap:=h' }):wpAny (model prog w) A (pyNext (.ref z)) Q E s:=by
 have hTy:s.TypeIs (.ref z) "zip":=⟨_,hz,rfl⟩;unfold pyNext
 refine wpAny_bind (wpAny_attempt (wpAny_callSpecial?_slot (name:=Str.ofString "__next__") hTy F.slot_zip_next
  (wpAny_call_entry F.slot_zip_next hTy F.entry_zip_next (vt (b2:=true) (l2:=l1) (k2:=0) (ys:=#[]) hh D O1 hz hT hTI h1 hl1 hx fun h' e hk he=>?_) (F.args_zip_next_1 _))))
 obtain ⟨o,ho,hc⟩:=he;refine wpAny_bind (wpAny_isInstance (T:="StopIteration") (b:=true) ⟨o,ho,hc⟩ isSubtype_stop ?_);exact wpAny_pure (hQ _ hk)
end
theorem sU{prog:Program}{w:World}{K:Type}[DecidableEq K]{knd:KeyKind prog w K}{A:Around}{R:Result->Shared->Prop}{b1 b2:Bool}{z TI TO T i1 i2 l1 l2 d:Addr}{xs ys:List Value}{ks:List K}(hh:A.handled=none)(D:ZApart z TI TO i1 i2)
  (O1:l1≠z/\l1≠i1/\l1≠i2/\l1≠d) (O2:l2≠z/\l2≠i1/\l2≠i2/\l2≠d) (Od:d≠z/\d≠i1/\d≠i2/\d≠TI/\d≠T) (OT:T≠z/\T≠i1/\T≠i2)
  (hk:Paired (fun k v=>knd.is k v=true) ks xs) (hl:xs.length=ys.length) (hz:xs.length<=1000):
  ∀(n i:Nat) (s:Shared) (f1:Bool) (kvs:List (K×Value)),n=xs.length-i->i<=xs.length->kvs.length<=i->xf s.heap z TI TO (rawInt T) f1->(∃oT,s.heap.get? T=some oT)->IsPair s.heap TI (.ref i1) (.ref i2)->
   SrcTn b1 i1 l1 i s.heap->SrcTn b2 i2 l2 i s.heap->SrcSq b1 s.heap l1 xs.toArray->SrcSq b2 s.heap l2 ys.toArray->s.heap.DictOf knd d kvs->
   (∀s':Shared,s'.os=s.os->s'.gens=s.gens->s'.drawn=s.drawn->s'.heap.DictOf knd d (((ks.zip ys).drop i).foldl (fun a p=>stored a p.1 p.2) kvs)->(∀c o,c≠z->c≠i1->c≠i2->c≠d->s.heap.get? c=some o->s'.heap.get? c=some o)->R (.ok (.ret .none)) s')->
   ∀tk:Nat,codeAny (model prog w) A (.builtin "dict.update.loop" ⟨[.ref d,.ref z,rawInt tk,.none],[]⟩) R s:=by
 intro n
 induction n with
 |zero=>
  intro i s f1 kvs hn hi hkl hzz hT hTI h1 h2 s1 s2 hd hR tk;obtain ⟨oT,hT⟩:=hT;have hin:i=xs.length:=by lia
  refine codeAny_builtin bL ?_;rw [Around.under_plainId aL _];show wpAny _ A.in1 (pyNext (.ref z) >>= _) _ _ s;refine wpAny_bind (ik hh D ⟨O1.1,O1.2.1⟩ hzz hT hTI h1 s1 (by simp;lia) fun h' hk'=>?_)
  refine wpAny_bind (m:=Builtin.Dict.addKeywords d []) (wpAny_pure ?_);refine wpAny_pure (hR _ rfl rfl rfl ?_ fun c o c1 c2 c3 c4 e=>hk' c o c1 c2 e);rw [List.drop_eq_nil_of_le (by have e:=Paired.length hk;rw [List.length_zip];lia)]
  obtain ⟨o,es,ep,ho,r⟩:=hd;exact ⟨o,es,ep,hk' d o Od.1 Od.2.1 ho,r⟩
 |succ n ih=>
  intro i s f1 kvs hn hi hkl hzz hT hTI h1 h2 s1 s2 hd hR tk;obtain ⟨oT,hT⟩:=hT;have hlt:i<xs.length:=by lia
  have hlt2:i<ys.length:=by lia
  refine codeAny_builtin bL ?_;rw [Around.under_plainId aL _];show wpAny _ A.in1 (pyNext (.ref z) >>= _) _ _ s;refine wpAny_bind (gF (x:=xs[i]) (y:=ys[i]) D ⟨O1.1,O1.2.1⟩ ⟨O2.1,O2.2.1,O2.2.2.1⟩ hzz hT hTI h1 h2 s1 s2 (by simp [hlt]) (by simp [hlt2]) fun h' a1 a2 a3 a4 a5 hk'=>?_)
  have hTy:({ s with heap:=h' }:Shared).TypeIs (.ref s.heap.objs.size) "tuple":=⟨_,a4,rfl⟩;refine wpAny_bind (wpAny_holding (wpAny_bind (wpAny_tryCatch ?_)));unfold Builtin.Dict.pairItems;refine wpAny_bind (wpAny_typeOf hTy ?_);rw [if_pos (by decide)]
  refine wpAny_bind (wpAny_seqItems (s:={ s with heap:=h' }) a4 rfl (wpAny_pure ?_));have hd':h'.DictOf knd d kvs:=by
   obtain ⟨o,es,ep,ho,r⟩:=hd;exact ⟨o,es,ep,hk' d o Od.1 Od.2.1 Od.2.2.1 ho,r⟩
  have hks:i<ks.length:=by rw [Paired.length hk];exact hlt
  have hkey:knd.is ks[i] xs[i]=true:=by
   have:∀{l₁:List K} {l₂:List Value},Paired (fun k v=>knd.is k v=true) l₁ l₂->∀(j:Nat) (h1:j<l₁.length) (h2:j<l₂.length),knd.is l₁[j] l₂[j]=true:=by
    intro l₁ l₂ p
    induction p with
    |nil=>intro j h1;exact absurd h1 (Nat.not_lt_zero _)
    |cons r _ ihp=>
     intro j h1 h2;cases j with
     |zero=>exact r
     |succ j=>exact ihp j (by simpa using h1) (by simpa using h2)
   exact this hk i hks hlt
  have hkz:kvs.length<=sizeLine:=Nat.le_trans (Nat.le_trans hkl hi) (Nat.le_trans hz (by decide))
  show wpAny _ _ (holding [xs[i],ys[i]] (dictSet d xs[i] ys[i])) _ _ _;refine wpAny_holding (wpAny_dictSet_pairs (s:={ s with heap:=h' }) hkey hd' (fun h'' hd'' hs''=>?_) hkz);have kk:∀c o,c≠z->c≠i1->c≠i2->c≠d->s.heap.get? c=some o->h''.get? c=some o:=fun c o c1 c2 c3 c4 e=>hs''.extBut c o c4 (hk' c o c1 c2 c3 e);refine wpAny_pure ⟨plainId_quiet aL _,?_⟩;have hst:(stored kvs ks[i] ys[i]).length<=i+1:=by
   unfold stored
   split
   ·rw [List.length_map];lia
   ·rw [List.length_append,List.length_singleton];lia
  refine ih (i+1) { s with heap:=h'',toks:=s.toks+1 } true (stored kvs ks[i] ys[i]) (by lia) hlt hst (hs''.extBut _ _ Od.1.symm a1) ⟨oT,kk T oT OT.1 OT.2.1 OT.2.2 Od.2.2.2.2.symm hT⟩ (kk TI _ D.TIz D.TIi1 D.TIi2 Od.2.2.2.1.symm hTI)
   (a2.keep fun o e=>hs''.extBut _ o Od.2.1.symm e) (a3.keep fun o e=>hs''.extBut _ o Od.2.2.1.symm e) (s1.keep fun o e=>kk l1 o O1.1 O1.2.1 O1.2.2.1 O1.2.2.2 e) (s2.keep fun o e=>kk l2 o O2.1 O2.2.1 O2.2.2.1 O2.2.2.2 e) hd'' ?_ (tk+1)
  intro s' q1 q2 q3 q4 q5;refine hR s' q1 q2 q3 ?_ fun c o c1 c2 c3 c4 e=>q5 c o c1 c2 c3 c4 (kk c o c1 c2 c3 c4 e);have ez:(ks.zip ys).drop i=(ks[i],ys[i])::(ks.zip ys).drop (i+1):=by
   rw [List.drop_eq_getElem_cons (by rw [List.length_zip];lia)]
   simp
  rw [ez,List.foldl_cons];exact q4
namespace F
theorem mro_dict:mroOf (.type "dict")=pure [.type "dict",.type "object"]:=by rw [mroOf_type];kernel_rfl
theorem iq:typeLookup (.type "dict") "__new__"=pure (some (.builtin "dict.__new__")):=by rw [typeLookup_type,builtinLookup_eq_fast];kernel_rfl
theorem called_dict:TypeCalled "dict" "dict.__new__" "dict.__init__":=
 ⟨by decide +kernel,by decide +kernel,⟨_,_,mro_dict⟩,madeBy_type mro_dict iq (by decide +kernel),by decide +kernel,by rw [isSubtype_type];kernel_rfl,PySem.F.slot_dict_init⟩
theorem typeCall_dict_1(a:Value):checkTypeCall "dict" ⟨[a],[]⟩=pure ():=by kernel_rfl
theorem newCall_dict_1(a:Value):checkBuiltinCall "dict.__new__" ⟨[.type "dict",a],[]⟩=pure ():=by kernel_rfl
theorem entry_dict_new:entryFor table "dict.__new__"=some Builtin.«dict.__new__»:=entryFor_of_tree (by kernel_rfl)
theorem plain_dict_new:plainId "dict.__new__"=true:=by decide +kernel
theorem sub_dict:isSubtype (.type "dict") (.type "dict")=pure true:=by rw [isSubtype_type];kernel_rfl
end F
section
variable {prog:Program}{w:World}{K:Type}[DecidableEq K]{knd:KeyKind prog w K}{A:Around}{E:Value->Shared->Prop}{s:Shared}
theorem fu(a:Value){Q₁:Value->Shared->Prop}(h:Q₁ (.ref s.heap.objs.size) { s with heap:=s.heap.push { cls:=.type "dict",data:=.dict #[] } }):
  codeAny (model prog w) A (.call (.builtin "dict.__new__") ⟨[.type "dict",a],[]⟩) (wants Q₁ E) s:=by
 refine codeAny_call_builtin F.plain_dict_new F.entry_dict_new (wpAny_of_eq (F.newCall_dict_1 a) ?_);have hsub:=F.sub_dict;have hmro:=F.mro_dict;obtain ⟨hp,g,d,tk,os⟩:=s;unfold Builtin.«dict.__new__»
 wp_walk
 exact h
theorem k4{b1 b2:Bool}{z TI TO i1 i2 l1 l2:Addr}{xs ys:List Value}{ks:List K}{Q:Value->Shared->Prop}(hh:A.handled=none)(D:ZApart z TI TO i1 i2)(O1:qF z TO i1 i2 l1)(O2:qF z TO i1 i2 l2)
  (hz:IsZip s.heap z TI TO .none) (hTI:IsPair s.heap TI (.ref i1) (.ref i2)) (hTO:∃a b,IsPair s.heap TO a b) (h1:SrcTn b1 i1 l1 0 s.heap) (h2:SrcTn b2 i2 l2 0 s.heap) (hl1:SrcSq b1 s.heap l1 xs.toArray) (hl2:SrcSq b2 s.heap l2 ys.toArray)
  (hk:Paired (fun k v=>knd.is k v=true) ks xs) (hl:xs.length=ys.length) (hz0:0<xs.length) (hzz:xs.length<=1000)
  (h:∀s':Shared,s'.os=s.os->s'.gens=s.gens->s'.drawn=s.drawn->s'.heap.DictOf knd s.heap.objs.size ((ks.zip ys).foldl (fun a p=>stored a p.1 p.2) [])->
   (∀c o,c≠z->c≠TO->c≠i1->c≠i2->s.heap.get? c=some o->s'.heap.get? c=some o)->Q (.ref s.heap.objs.size) s'):
  wpAny (model prog w) A (call (.type "dict") [.ref z]) Q E s:=by
 refine callType_codes (Q₁:=fun obj s₁=>obj=.ref s.heap.objs.size/\s₁={ s with heap:=s.heap.push { cls:=.type "dict",data:=.dict #[] } }) F.called_dict (F.typeCall_dict_1 _) F.entry_dict_init (fu _ ⟨rfl,rfl⟩) ?_
 rintro obj s₁ ⟨rfl,rfl⟩
 have hnew:(s.heap.push { cls:=.type "dict",data:=.dict #[] }).DictOf knd s.heap.objs.size []:=Heap.DictOf.new s.heap;refine ⟨hnew.typeIs,F.args_dict_init_2 _ _,?_⟩;unfold Builtin.«dict.__init__»;refine wpAny_bind ?_;unfold Builtin.Dict.selfAndRest;refine wpAny_bind (wpAny_notOrdered_dict hnew.typeIs ?_);show wpAny _ _ (pure (s.heap.objs.size,[Value.ref z])) _ _ _;refine wpAny_pure ?_;show wpAny _ _ (Builtin.Dict.updateFrom "dict.__init__" s.heap.objs.size (.ref z) [] .none) _ _ _;unfold Builtin.Dict.updateFrom;have hdz:∀c o,s.heap.get? c=some o->c≠s.heap.objs.size:=fun c o e=>Nat.ne_of_lt (Heap.lt_size e);have up:∀c o,s.heap.get? c=some o->(s.heap.push { cls:=.type "dict",data:=.dict #[] }).get? c=some o:=fun c o e=>Heap.get?_push_of_some _ e;refine wpAny_bind (wpAny_typeOf (T:="zip") ⟨_,up _ _ hz,rfl⟩ ?_);rw [if_pos (by decide)]
 refine wpAny_bind (j_ (f1:=false) (s:={ s with heap:=s.heap.push { cls:=.type "dict",data:=.dict #[] } }) (up _ _ hz) hh fun h₁ tk₁ hk₁=>?_);rw [if_pos (show (none:Option Value).isNone=true from rfl)];have up1:∀c o,s.heap.get? c=some o->h₁.get? c=some o:=fun c o e=>hk₁ c o (up c o e);refine wpAny_bind (wpAny_rule (wpAny_bind (wpAny_pyIter_zip (s:={ s with heap:=h₁,toks:=tk₁ }) (up1 _ _ hz) (wpAny_pure ⟨plainId_quiet aL _,codeAny_builtin bL ?_⟩))));rw [Around.under_plainId aL _];show wpAny _ A.in1.in1 (pyNext (.ref z) >>= _) _ _ _;obtain ⟨a,b,hTO⟩:=hTO;have hlt2:0<ys.length:=by lia
 have hd1:h₁.DictOf knd s.heap.objs.size []:=by
  obtain ⟨o,es,ep,ho,r⟩:=hnew;exact ⟨o,es,ep,hk₁ _ o ho,r⟩
 have hnz:s.heap.objs.size≠z:=(hdz _ _ hz).symm;have hnTI:s.heap.objs.size≠TI:=(hdz _ _ hTI).symm;have hnTO:s.heap.objs.size≠TO:=(hdz _ _ hTO).symm;have hni1:s.heap.objs.size≠i1:=by obtain ⟨o,e,_⟩:=h1.lt;exact (hdz _ _ e).symm
 have hni2:s.heap.objs.size≠i2:=by obtain ⟨o,e,_⟩:=h2.lt;exact (hdz _ _ e).symm
 have nl:∀{b:Bool} {l:Addr} {us:Array Value},SrcSq b s.heap l us->l≠s.heap.objs.size:=fun {b l us} q=>by
  cases b with
  |true=>obtain ⟨o,e,_⟩:=(show s.heap.IsList l us from q);exact hdz _ _ e
  |false=>obtain ⟨o,e,_⟩:=(show s.heap.IsTuple l us from q);exact hdz _ _ e
 refine wpAny_bind (dW (s:={ s with heap:=h₁,toks:=tk₁ }) (x:=xs[0]) (y:=ys[0]) D O1 O2 (up1 _ _ hz) (up1 _ _ hTI) (up1 _ _ hTO) (h1.keep fun o e=>up1 _ o e) (h2.keep fun o e=>up1 _ o e) (hl1.keep fun o e=>up1 _ o e) (hl2.keep fun o e=>up1 _ o e) (by simp [hz0]) (by simp [hlt2]) fun h₂ a1 a2 a3 a4 a5 a6 hk₂=>?_)
 have hTy:({ s with heap:=h₂,toks:=tk₁ }:Shared).TypeIs (.ref h₁.objs.size) "tuple":=⟨_,a5,rfl⟩;refine wpAny_bind (wpAny_holding (wpAny_bind (wpAny_tryCatch ?_)));unfold Builtin.Dict.pairItems;refine wpAny_bind (wpAny_typeOf hTy ?_);rw [if_pos (by decide)]
 refine wpAny_bind (wpAny_seqItems (s:={ s with heap:=h₂,toks:=tk₁ }) a5 rfl (wpAny_pure ?_));have hks:0<ks.length:=by rw [Paired.length hk];exact hz0
 have hkey:knd.is ks[0] xs[0]=true:=by
  cases hk with
  |nil=>exact absurd hz0 (Nat.lt_irrefl _)
  |cons r _=>exact r
 have hd2:h₂.DictOf knd s.heap.objs.size []:=by
  obtain ⟨o,es,ep,ho,r⟩:=hd1;exact ⟨o,es,ep,hk₂ _ o hnz hnTO hni1 hni2 ho,r⟩
 show wpAny _ _ (holding [xs[0],ys[0]] (dictSet s.heap.objs.size xs[0] ys[0])) _ _ _;refine wpAny_holding (wpAny_dictSet_pairs (s:={ s with heap:=h₂,toks:=tk₁ }) hkey hd2 (fun h₃ hd₃ hs₃=>?_) (Nat.zero_le _));refine wpAny_pure ⟨plainId_quiet aL _,?_⟩;have T1:∀c o,h₁.get? c=some o->h₁.objs.size≠c:=fun c o e=>Nat.ne_of_gt (Heap.lt_size e);have hdl:s.heap.objs.size<h₁.objs.size:=by obtain ⟨o,es,ep,ho,r⟩:=hd1;exact Heap.lt_size ho
 have kk:∀c o,c≠z->c≠TO->c≠i1->c≠i2->c≠s.heap.objs.size->s.heap.get? c=some o->h₃.get? c=some o:=fun c o c1 c2 c3 c4 c5 e=>hs₃.extBut c o c5 (hk₂ c o c1 c2 c3 c4 (up1 c o e));have hst:(stored ([]:List (K×Value)) ks[0] ys[0]).length<=1:=by simp [stored]
 refine sU (A:=A.in1) (T:=h₁.objs.size) (l1:=l1) (l2:=l2) (xs:=xs) (ys:=ys) (ks:=ks) hh D ⟨O1.1,O1.2.2.1,O1.2.2.2,nl hl1⟩ ⟨O2.1,O2.2.2.1,O2.2.2.2,nl hl2⟩ ⟨hnz,hni1,hni2,hnTI,Nat.ne_of_lt hdl⟩
  ⟨T1 _ _ (up1 _ _ hz),(by obtain ⟨o,e,_⟩:=h1.lt;exact T1 _ _ (up1 _ _ e)),(by obtain ⟨o,e,_⟩:=h2.lt;exact T1 _ _ (up1 _ _ e))⟩ hk hl hzz (xs.length-1) 1 { s with heap:=h₃,toks:=tk₁+1 } false (stored [] ks[0] ys[0]) rfl hz0 hst
  (hs₃.extBut _ _ hnz.symm a1) ⟨_,hs₃.extBut _ _ (Nat.ne_of_gt hdl) a5⟩ (kk TI _ D.TIz D.TITO D.TIi1 D.TIi2 hnTI.symm hTI) (a3.keep fun o e=>hs₃.extBut _ o hni1.symm e) (a4.keep fun o e=>hs₃.extBut _ o hni2.symm e)
  (hl1.keep fun o e=>kk l1 o O1.1 O1.2.1 O1.2.2.1 O1.2.2.2 (nl hl1) e) (hl2.keep fun o e=>kk l2 o O2.1 O2.2.1 O2.2.2.1 O2.2.2.2 (nl hl2) e) hd₃ ?_ 1
 intro s' q1 q2 q3 q4 q5;refine ⟨rfl,h s' q1 q2 q3 ?_ fun c o c1 c2 c3 c4 e=>q5 c o c1 c3 c4 (hdz c o e) (kk c o c1 c2 c3 c4 (hdz c o e) e)⟩;have ez:ks.zip ys=(ks[0],ys[0])::(ks.zip ys).drop 1:=by
  have:=List.drop_eq_getElem_cons (l:=ks.zip ys) (i:=0) (by rw [List.length_zip];lia)
  simpa using this
 rw [ez,List.foldl_cons];exact q4
end
end L2
namespace L2
open PySem PySem.Spec PyProof.Rows
theorem gX:fillsNumberSlot (.type "tuple") "mul"=pure false:=
 PySem.fillsNumberSlot_seq (id:="tuple.__mul__") (r:=some (.builtin "tuple.__rmul__")) PySem.F.slot_tuple_mul.lookup (by decide +kernel) PySem.F.slot_tuple_rmul.lookup (by decide +kernel)
theorem mi:seqRepeat? (.type "tuple")=pure (some (.builtin "tuple.__mul__")):=by
 unfold seqRepeat?;rw [PySem.seqSlot_of (T:="tuple") (name:="__mul__") (id:="tuple.__mul__") PySem.F.slot_tuple_mul.lookup (by decide +kernel),PySem.seqSlot_of (T:="tuple") (name:="__rmul__") (id:="tuple.__rmul__") PySem.F.slot_tuple_rmul.lookup (by decide +kernel)]
 rfl
theorem jq(a:Int)(t:Tok)(l:Addr)(items:Array Value)(n:Nat)(dd:Option Addr)(sl:Array (Option Value)):
  Meets (Builtin.«int.__rmul__» ⟨[.int a t,.ref l],[]⟩) (fun _ R s=>s.heap.get? l=some { cls:=.type "tuple",dict:=dd,data:=.seq items n,slots:=sl }/\R (.ok (.ret Value.notImplemented)) s):=
 .of_wp fun prog w A R s h=>by obtain ⟨hp,g,d,tk,os⟩:=s;obtain ⟨hl,h⟩:=h;wp_walk;exact ⟨_,rfl,h⟩
theorem jh(l:Addr)(items:Array Value)(n:Nat)(dd:Option Addr)(sl:Array (Option Value))(x:Int)(u:Tok)(hx:1<x)(hx2:x<=1000)(hi:items.size<=1000)(h0:items.isEmpty=false):
  Meets (Builtin.«tuple.__mul__» ⟨[.ref l,.int x u],[]⟩) (fun _ R s=>s.heap.get? l=some { cls:=.type "tuple",dict:=dd,data:=.seq items n,slots:=sl }/\
   R (.ok (.ret (.ref s.heap.objs.size))) { s with heap:=s.heap.push { cls:=.type "tuple",data:=.seq ((List.replicate x.toNat items).foldl (·++·) #[]) } }):=
 .of_wp fun prog w A R s h=>by
  obtain ⟨hp,g,d,tk,os⟩:=s;obtain ⟨hl,h⟩:=h;have f1:=AutoSeq1.idx_int;have f2:=AutoSeq1.sub_tuple_tuple;have g1:(decide (x < -(2 ^ 63))||decide (x>=2 ^ 63))=false:=by simp;lia
  have g2:(items.isEmpty||x==1)=false:=by rw [h0];simp;lia
  have g3:(decide (x<=0)||items.isEmpty)=false:=by rw [h0];simp;lia
  have hm:(items.size:Int)*x<=1000000:=by
   have a1:(items.size:Int)*x<=1000*x:=Int.mul_le_mul_of_nonneg_right (by lia) (by lia)
   lia
  have hm2:¬((items.size:Int)*x>(2 ^ 63-1) / 8):=by lia
  have hm3:Builtin.Tuple.tupleTooMany ((items.size:Int)*x)=false:=by
   unfold Builtin.Tuple.tupleTooMany;have:(1000000:Int)<=(sizeLine:Int):=by decide
   exact decide_eq_false (by lia)
  wp_walk using wpAny_loadPart' hl
  try simp only [g1,Bool.false_eq_true,if_false]
  wp_walk using wpAny_loadPart' hl
  try simp only [g2,Bool.false_eq_true,if_false]
  wp_walk using wpAny_loadPart' hl
  try simp only [g3,Bool.false_eq_true,if_false]
  wp_walk using wpAny_loadPart' hl
  rw [if_neg hm2];simp only [hm3,Bool.false_eq_true,if_false];unfold Builtin.Tuple.tupleExact;have hlen:((List.replicate x.toNat items).foldl (·++·) #[]).toList.length<=sizeLine:=by
   have e:∀(k:Nat) (acc:Array Value),((List.replicate k items).foldl (·++·) acc).size=acc.size+k*items.size:=by
    intro k
    induction k with
    |zero=>intro acc;simp
    |succ k ih=>intro acc;rw [List.replicate_succ,List.foldl_cons,ih,Array.size_append,Nat.succ_mul];lia
   rw [Array.length_toList,e];have:x.toNat*items.size<=1000*1000:=Nat.mul_le_mul (by lia) hi
   have h2:(1000*1000:Nat)<=sizeLine:=by decide
   simp only [List.size_toArray,List.length_nil] at *;lia
  refine wpAny_bind (wpAny_newTuple (wpAny_pure ⟨_,rfl,?_⟩) hlen);simpa using h
theorem k9(l:Addr)(items:Array Value)(n:Nat)(dd:Option Addr)(sl:Array (Option Value))(u:Tok):
  Meets (Builtin.«tuple.__mul__» ⟨[.ref l,.int 1 u],[]⟩) (fun _ R s=>s.heap.get? l=some { cls:=.type "tuple",dict:=dd,data:=.seq items n,slots:=sl }/\R (.ok (.ret (.ref l))) s):=
 .of_wp fun prog w A R s h=>by
  obtain ⟨hp,g,d,tk,os⟩:=s;obtain ⟨hl,h⟩:=h;have f1:=AutoSeq1.idx_int;have f2:=AutoSeq1.sub_tuple_tuple;have g1:(decide ((1:Int) < -(2 ^ 63))||decide ((1:Int)>=2 ^ 63))=false:=by decide
  have g2:(items.isEmpty||(1:Int)==1)=true:=by simp
  wp_walk using wpAny_loadPart' hl
  try simp only [g1,Bool.false_eq_true,if_false]
  wp_walk using wpAny_loadPart' hl
  try simp only [g2,if_true]
  wp_walk using wpAny_loadPart' hl
  all_goals first|exact ⟨_,rfl,h⟩|skip
theorem jQ(l:Addr)(items:Array Value)(n:Nat)(dd:Option Addr)(sl:Array (Option Value))(x:Int)(u:Tok)(hx:x<=0)(hx2:-1000<=x)(h0:items.isEmpty=false):
  Meets (Builtin.«tuple.__mul__» ⟨[.ref l,.int x u],[]⟩) (fun _ R s=>s.heap.get? l=some { cls:=.type "tuple",dict:=dd,data:=.seq items n,slots:=sl }/\
   R (.ok (.ret (.ref s.heap.objs.size))) { s with heap:=s.heap.push { cls:=.type "tuple",data:=.seq #[] } }):=
 .of_wp fun prog w A R s h=>by
  obtain ⟨hp,g,d,tk,os⟩:=s;obtain ⟨hl,h⟩:=h;have f1:=AutoSeq1.idx_int;have f2:=AutoSeq1.sub_tuple_tuple;have g1:(decide (x < -(2 ^ 63))||decide (x>=2 ^ 63))=false:=by simp;lia
  have g2:(items.isEmpty||x==1)=false:=by rw [h0];simp;lia
  have g3:(decide (x<=0)||items.isEmpty)=true:=by simp [hx]
  wp_walk using wpAny_loadPart' hl
  try simp only [g1,Bool.false_eq_true,if_false]
  wp_walk using wpAny_loadPart' hl
  try simp only [g2,Bool.false_eq_true,if_false]
  wp_walk using wpAny_loadPart' hl
  try simp only [g3,if_true]
  all_goals exact ⟨_,rfl,h⟩
section
variable {prog:Program}{w:World}{A:Around}{E:Value->Shared->Prop}{s:Shared}
theorem sZ{l:Addr}{its:List Value}{k:Int}{u:Tok}{Q:Value->Shared->Prop}(ht:s.heap.IsTuple l its.toArray)(h0:its≠[])(hk0:0<=k)(hk:k<=1000)(hi:its.length<=1000)
  (h1:k=1->Q (.ref l) s) (h2:k≠1->Q (.ref s.heap.objs.size) { s with heap:=s.heap.push { cls:=.type "tuple",data:=.seq (List.replicate k.toNat its).flatten.toArray } }):
  wpAny (model prog w) A (binaryOp .Mult (.ref l) (.int k u)) Q E s:=by
 obtain ⟨⟨cls,dd,data,sl⟩,e,hc,n,hd⟩:=ht;simp only at hc hd;subst hc hd;have he:its.toArray.isEmpty=false:=by cases its with|nil=>exact absurd rfl h0|cons a r=>rfl
 refine wpAny_binaryOp_repeat_ref (T:="tuple") (U:="int") (by decide) ⟨_,e,rfl⟩ (fun s'=>typeIs_int s' k u) gX PySem.F.fills_int_mul PySem.F.slot_int_rmul mi PySem.F.slot_int_index.lookup
  (call_meets PySem.F.slot_int_rmul (typeIs_int s k u) PySem.F.entry_int_rmul (PySem.F.args_int_rmul_2 _ _) (jq k u l its.toArray n dd sl) ⟨e,rfl,⟨_,e,rfl⟩,?_⟩)
 by_cases hk1:k=1
 ·subst hk1
  exact call_meets PySem.F.slot_tuple_mul ⟨_,e,rfl⟩ PySem.F.entry_tuple_mul (PySem.F.args_tuple_mul_2 _ _) (k9 l its.toArray n dd sl u) ⟨e,h1 rfl⟩
 ·have h2':=h2 hk1
  by_cases hk2:k<=0
  ·refine call_meets PySem.F.slot_tuple_mul ⟨_,e,rfl⟩ PySem.F.entry_tuple_mul (PySem.F.args_tuple_mul_2 _ _) (jQ l its.toArray n dd sl k u hk2 (by lia) he) ⟨e,?_⟩
   have ek:k.toNat=0:=by lia
   rw [ek] at h2';exact h2'
  ·refine call_meets PySem.F.slot_tuple_mul ⟨_,e,rfl⟩ PySem.F.entry_tuple_mul (PySem.F.args_tuple_mul_2 _ _) (jh l its.toArray n dd sl k u (by lia) hk (by rw [List.size_toArray];exact hi) he) ⟨e,?_⟩
   have ef:∀(m:Nat) (acc:List Value),List.foldl (fun x1 x2=>x1++x2) acc.toArray (List.replicate m its.toArray)=(acc++(List.replicate m its).flatten).toArray:=by
    intro m
    induction m with
    |zero=>intro acc;simp
    |succ m ih=>
     intro acc;have e1:acc.toArray++its.toArray=(acc++its).toArray:=by simp
     rw [List.replicate_succ,List.foldl_cons,e1,ih,List.replicate_succ,List.flatten_cons,List.append_assoc]
   have e0:=ef k.toNat [];rw [List.nil_append] at e0;rw [e0];exact h2'
end
end L2
namespace L2
open PySem PySem.Spec PyProof.Rows
section
variable {X:Cx}
theorem wf:d5 X (binaryOp .Add) (fun x y H Q=>∃a b ys,x=.ref a/\y=.ref b/\gE X.K H a []/\gE X.K H b ys/\Q (.ref b) H):=by
 intro pins s σ H x y v u Q I rx ry h;obtain ⟨a,b,ys,rfl,rfl,ha,hb,q⟩:=h;cases rx;cases ry;obtain ⟨its,r1,p1,_⟩:=I.tuple ha;obtain ⟨its2,r2,p2,_⟩:=I.tuple hb;obtain rfl:its=[]:=r1.zero;obtain ⟨⟨cls,dd,data,sl⟩,ho,hc,n,hd⟩:=id p1;obtain ⟨⟨cls2,dd2,data2,sl2⟩,ho2,hc2,n2,hd2⟩:=id p2;simp only at hc hd hc2 hd2;subst hc hd hc2 hd2
 exact concat_meets ⟨_,ho,rfl⟩ ⟨_,ho2,rfl⟩ noFill_tuple_add seq_tuple_add PySem.F.slot_tuple_add PySem.F.entry_tuple_add (PySem.F.args_tuple_add_2 _ _)
  (tuple_addW0 a b #[] its2.toArray n n2 dd dd2 sl sl2 rfl) ⟨ho,ho2,⟨.ref b,H,I,rfl,q⟩⟩
theorem ui{n:Nat}(hn:n.log2<2000)(hn0:0<n):d5 X (binaryOp .FloorDiv) (rI (fun _ j=>j=(n:Int)) fun i j=>.int (i / j)):=opI fun i j _ _ _ _ _ hc q=>by
 subst hc;refine floordiv_int (by lia) ?_ (.inl (PyProof.noPylong_of_log2 (by simpa using Nat.lt_trans hn (by decide))))
 rw [Int.fdiv_eq_ediv_of_nonneg _ (by lia)]
 exact q
def vQ(K:W.Frag)(b1 b2:Bool)(t:TA):TE:=fun σ H Q=>t σ H fun vs H1=>∃(l1 l2:Addr) (ks:List au) (ys:List V),vs=[.ref l1,.ref l2]/\ku K b1 H1 l1 (ks.map kV)/\ku K b2 H1 l2 ys/\ks.length=ys.length/\0<ks.length/\ks.length<=1000/\
 ∀d,H1 d=none->Q (.ref d) (upd H1 d (.dK ((ks.zip ys).foldl (fun a p=>cF a p.1 p.2) [])))
theorem kA{P:Program}{w:World}:∀{ks:List au} {us:List Value},Vals (ks.map kV) us->Paired (fun k v=>(aO P w).is k v=true) ks us
 |[],_,.nil=>.nil
 |_::_,_,.cons r t=>.cons (h_ r) (kA t)
theorem sE:∀{ks:List au} {ys:List V} {us:List Value} {kvs:List (au×V)} {vs:List (au×Value)},Vals ys us->KV kvs vs->
  KV ((ks.zip ys).foldl (fun a p=>cF a p.1 p.2) kvs) ((ks.zip us).foldl (fun a p=>stored a p.1 p.2) vs)
 |[],_,_,_,_,_,r=>r
 |_::_,_,_,_,_,.nil,r=>r
 |k::ks,_,_,_,_,.cons ru t,r=>sE (ks:=ks) t (KV.put r k ru)
theorem mL:∀(ps:List (au×V)) (kvs:List (au×V)),(ps.foldl (fun a p=>cF a p.1 p.2) kvs).length<=kvs.length+ps.length
 |[],kvs=>Nat.le_refl _
 |p::ps,kvs=>by
  have h1:=mL ps (cF kvs p.1 p.2);have h2:=eu kvs p.1 p.2;rw [List.foldl_cons,List.length_cons];lia
theorem pB{a b:Expr}{ta:TA}{p p2 pos pos2:Pos}(b1 b2:Bool)(hc:X.calm=true)(hg:Gl X "zip")(hm:X.mg "zip"=none)(hg2:Gl X "dict")(hm2:X.mg "dict"=none)(ha:PA X [a,b] ta)
  (hs:starEach [a,b] X.env=[(false,eval a X.env),(false,eval b X.env)]:=by rfl) (hs2:starEach [b] X.env=[(false,eval b X.env)]:=by rfl)
  (hs3:starEach [Expr.Call (.Name "zip" p2) [a,b] [] pos2] X.env=[(false,eval (.Call (.Name "zip" p2) [a,b] [] pos2) X.env)]:=by rfl):
  PE X (.Call (.Name "dict" p) [.Call (.Name "zip" p2) [a,b] [] pos2] [] pos) (vQ X.K b1 b2 ta):=by
 intro pins s σ H Q I h;refine Call_ (ld_blt I hg2 hm2 (by decide +kernel:bootBuiltins "dict"=some (.type "dict")) (PyProof.Rows.callWith_type1 ?_ hs3 rfl))
 rw [hs3];show wpAny _ _ (spliced ((false,_)::backTo pos [])) _ _ s;refine Calls.spliced_cons ?_;refine Call_ (ld_blt I hg hm (by decide +kernel:bootBuiltins "zip"=some (.type "zip")) (PyProof.Rows.callWith_type1 (thn (ha pos2 pins s σ H _ I h) fun us s1 ⟨vs,H1,I1,r1,q1⟩=>?_) (by rw [hs,hs2]) (by rw [hs2];rfl)))
 obtain ⟨l1,l2,ks,ys,e,q1,q2,hl,h0,hz,q⟩:=q1;subst e;obtain ⟨u1,u2,rfl,ru1,ru2⟩:=r1.two;cases ru1;cases ru2;obtain ⟨its1,rv1,sq1,z1⟩:=I1.src q1;obtain ⟨its2,rv2,sq2,z2⟩:=I1.src q2;refine oJ sq1 sq2 fun h' hz' hTI hTO h1 h2 hsz hk=>?_;refine Calls.spliced_nil ?_;have e1:=rv1.length;have e2:=rv2.length;rw [List.length_map] at e1;have D:ZApart (s1.heap.objs.size+4) (s1.heap.objs.size+2) (s1.heap.objs.size+3) s1.heap.objs.size (s1.heap.objs.size+1):=by constructor<;>exact (show (_:Nat)≠(_:Nat) by lia)
 have lt:∀{c:Bool} {l:Addr} {us:Array Value},SrcSq c s1.heap l us->l<s1.heap.objs.size:=fun {c l us} z=>by
  cases c with
  |true=>obtain ⟨o,e,_⟩:=(show s1.heap.IsList l us from z);exact Heap.lt_size e
  |false=>obtain ⟨o,e,_⟩:=(show s1.heap.IsTuple l us from z);exact Heap.lt_size e
 have O:∀{l:Addr},l<s1.heap.objs.size->qF (s1.heap.objs.size+4) (s1.heap.objs.size+3) s1.heap.objs.size (s1.heap.objs.size+1) l:=fun {l} z=>⟨Nat.ne_of_lt (Nat.lt_of_lt_of_le z (Nat.le_add_right _ _)),Nat.ne_of_lt (Nat.lt_of_lt_of_le z (Nat.le_add_right _ _)),Nat.ne_of_lt z,Nat.ne_of_lt (Nat.lt_of_lt_of_le z (Nat.le_add_right _ _))⟩;refine k4 (s:={ s1 with heap:=h' }) (knd:=aO X.prog X.w) (ks:=ks) (xs:=its1) (ys:=its2) (I1.ok.hd hc) D (O (lt sq1)) (O (lt sq2)) hz' hTI ⟨_,_,hTO⟩ h1 h2 (sq1.keep fun o e=>hk _ o e) (sq2.keep fun o e=>hk _ o e) (kA rv1) (by lia) (by lia) (by lia) ?_
 intro s' o1 o2 o3 hd hkeep;have hd':s'.heap.DictOf (aO X.prog X.w) h'.objs.size ((ks.zip its2).foldl (fun a p=>stored a p.1 p.2) []):=hd;have hbig:=I1.big;have hnew:∀c o,s1.heap.get? c=some o->s'.heap.get? c=some o:=fun c o e=>by
  have z:=Heap.lt_size e;exact hkeep c o (Nat.ne_of_lt (Nat.lt_of_lt_of_le z (Nat.le_add_right _ _))) (Nat.ne_of_lt (Nat.lt_of_lt_of_le z (Nat.le_add_right _ _))) (Nat.ne_of_lt z) (Nat.ne_of_lt (Nat.lt_of_lt_of_le z (Nat.le_add_right _ _))) (hk c o e)
 have hn:H1 h'.objs.size=none:=I1.hok.fresh (by lia)
 obtain ⟨hh',g',d',t',os'⟩:=s';obtain rfl:os'=s1.os:=o1;obtain rfl:g'=s1.gens:=o2;obtain rfl:d'=s1.drawn:=o3;refine ⟨.ref h'.objs.size,_,I1.laid (a:=h'.objs.size) (o:=.dK ((ks.zip ys).foldl (fun a p=>cF a p.1 p.2) [])) (t':=t') hnew (by lia) ?_,rfl,q _ hn⟩
 refine wR ?_ ?_ (sE rv2 .nil) hd'
 ·have:=mL (ks.zip ys) []
  rw [List.length_zip] at this;have h3:(1000:Nat)<=sizeLine:=by decide
  simp only [List.length_nil] at this;lia
 ·exact beq_eq_false_iff_ne.mpr (Nat.ne_of_gt (Nat.lt_of_lt_of_le hbig (by rw [hsz];exact Nat.le_add_right _ _)))
end
end L2
namespace Tw
open PySem L2
end Tw
namespace L2
open PySem PySem.Spec PyProof.Rows
section
variable {X:Cx}
theorem jF{M:Model}{A:Around}{E:Value->Shared->Prop}{s:Shared}{β:Type}{n:Nat}(f:Nat->β->Sem (ForInStep β))(I:Nat->β->Shared->Prop)(Q:β->Shared->Prop)
  (turn:∀i b s,i<n->I i b s->wpAny M A (f i b) (fun r s'=>match r with|.yield b'=>I (i+1) b' s'|.done b'=>Q b' s') E s)
  (fin:∀b s,I n b s->Q b s) (b:β) (h:I 0 b s):wpAny M A (forIn [0:n] b f) Q E s:=by
 rw [Std.Legacy.Range.forIn_eq_forIn_range'];have hsz:([0:n]:Std.Legacy.Range).size=n:=by simp [Std.Legacy.Range.size]
 show wpAny M A (forIn (List.range' 0 ([0:n]:Std.Legacy.Range).size 1) b f) Q E s;rw [hsz];refine wpAny_forIn_list f (fun l c s=>∃i,i<=n/\l=List.range' i (n-i) 1/\I i c s) Q ?_ ?_ _ b ⟨0,Nat.zero_le _,rfl,h⟩
 ·rintro x rest c s ⟨i,hi,hl,hI⟩
  have hlt:i<n:=by
   rcases Nat.lt_or_ge i n with h'|h'
   ·exact h'
   ·rw [show n-i=0 by lia] at hl;simp at hl
  obtain ⟨k,hk⟩:∃k,n-i=k+1:=⟨n-i-1,by lia⟩
  rw [hk,List.range'_succ] at hl;obtain ⟨rfl,rfl⟩:=List.cons.inj hl;refine wpAny_mono (turn x c s hlt hI) (fun r s' h'=>?_) fun _ _ e=>e;cases r with
  |done c'=>exact h'
  |yield c'=>exact ⟨x+1,by lia,by congr 1;lia,h'⟩
 ·rintro c s ⟨i,hi,hl,hI⟩
  have:i=n:=by
   rcases Nat.lt_or_ge i n with h'|h'
   ·obtain ⟨k,hk⟩:∃k,n-i=k+1:=⟨n-i-1,by lia⟩
    rw [hk,List.range'_succ] at hl;cases hl
   ·lia
  subst this;exact fin _ _ hI
theorem mQ(l:Addr)(items:Array Value)(n:Nat)(dd:Option Addr)(sl:Array (Option Value))(x:Value)(e:Value->Bool)(he:∀y,y∈items->MeetsSeq.EqGives y x (e y))(j:Nat)(hj:j<items.size)(hit:e items[j]=true)
  (hno:∀m (hm:m<items.size),m<j->e items[m]=false):
  Meets (Builtin.«tuple.index» ⟨[.ref l,x],[]⟩) (fun _ R s=>s.heap.get? l=some { cls:=.type "tuple",dict:=dd,data:=.seq items n,slots:=sl }/\R (.ok (.ret (.int j s.toks))) { s with toks:=s.toks+1 }):=
 .of_wp fun prog w A R s h=>by
  obtain ⟨hp,g,d,tk,os⟩:=s;obtain ⟨hl,h⟩:=h
  wp_walk using AutoSeq1.wpAny_loadPart' hl
  refine jF (n:=min items.size items.size) _ (fun i (b:Option _×_) s'=>b.1=none/\i<=j/\s'=⟨hp,g,d,tk,os⟩) _ ?turn ?fin _ ?strt
  case turn=>
   rintro i b s' hi ⟨hb,hij,rfl⟩
   have hlt:i<items.size:=by lia
   have hi':items[i]?=some items[i]:=by simp [hlt]
   simp only [hi'];refine wpAny_bind (he _ (Array.getElem_mem hlt) prog w _ _ _ _ ?_)
   by_cases hx:i=j
   ·subst hx
    rw [hit]
    wp_walk
    exact ⟨_,rfl,h⟩
   ·rw [hno i hlt (by lia)]
    wp_walk
    exact ⟨rfl,by lia,rfl⟩
  case fin=>
   rintro ⟨b1,b2⟩ s' ⟨hb,hij,rfl⟩
   lia
  case strt=>
   exact ⟨rfl,Nat.zero_le _,rfl⟩
theorem Inv.tupD{pins:List (Addr×Obj)}{σ:St}{H:Hp}{s:Shared}{a:Addr}{xs:List V}(I:Inv X pins σ H s)(h:H a=some (.tup xs)):
  ∃(its:List Value) (n:Nat) (sl:Array (Option Value)),Vals xs its/\s.heap.get? a=some { cls:=.type "tuple",dict:=none,data:=.seq its.toArray n,slots:=sl }:=by
 obtain ⟨z,its,r,⟨cls,dd,data,slots⟩,e,⟨c,n,d⟩,dn⟩:=I.hok a _ h;simp only at c d dn;subst c d dn;exact ⟨its,n,slots,r,e⟩
theorem eZ:∀{names:List Str} {us:List Value},Vals (names.map V.str) us->∀(j:Nat) (h:j<us.length),∃(y:Str) (t:Tok),names[j]?=some y/\us[j]=.str y t
 |[],us,r,j,h=>by cases r;exact absurd h (Nat.not_lt_zero _)
 |x::names,us,r,j,h=>by
  rw [List.map_cons] at r;cases r with
  |cons r1 r2=>
   cases j with
   |zero=>obtain ⟨t,rfl⟩:=r1;exact ⟨x,t,rfl,rfl⟩
   |succ j=>obtain ⟨y,t,h1,h2⟩:=eZ r2 j (by simpa using h);exact ⟨y,t,by simpa using h1,by simpa using h2⟩
def D4:V->List V->Hp->VK->Prop:=fun x vs H Q=>∃(a:Addr) (names:List Str) (z:Str) (j:Nat),x=.ref a/\vs=[.str z]/\H a=some (.tup (names.map V.str))/\names.length<=1000/\names[j]?=some z/\(∀m,m<j->names[m]?≠some z)/\Q (.int (j:Int)) H
theorem tQ:zI X "tuple.index" D4:=by
 intro pins s σ H x vs v us Q I rx rv h;obtain ⟨a,names,z,j,rfl,rfl,ha,hz,hj,hno,q⟩:=h;cases rx;obtain ⟨u,rfl,ru⟩:=rv.one;obtain ⟨t,rfl⟩:=ru;obtain ⟨its,n,sl,r,e⟩:=I.tupD ha;have hl:=r.length;rw [List.length_map] at hl;have hjl:j<names.length:=by
  rcases Nat.lt_or_ge j names.length with z'|z'
  ·exact z'
  ·rw [List.getElem?_eq_none z'] at hj;cases hj
 have hjs:j<its.toArray.size:=by rw [List.size_toArray];lia
 refine call_meets PySem.F.slot_tuple_index ⟨_,e,rfl⟩ PySem.F.entry_tuple_index (PySem.F.args_tuple_index_2 _ _)
  (mQ a its.toArray n none sl (.str z t) (fun v=>match v with|.str y _=>y==z|_=>false) (fun y hy=>?_) j hjs ?_ fun m hm hmj=>?_) ⟨e,?_⟩
 ·obtain ⟨m,hm,rfl⟩:=List.getElem_of_mem (by simpa using hy:y∈its)
  obtain ⟨y',t',h1,h2⟩:=eZ r m hm;rw [h2];exact eqGives_str y' z t' t
 ·obtain ⟨y',t',h1,h2⟩:=eZ r j (by lia)
  rw [hj] at h1;cases h1;simp [h2]
 ·obtain ⟨y',t',h1,h2⟩:=eZ r m (by rw [List.size_toArray] at hm;exact hm)
  have h3:=hno m hmj;rw [h1] at h3;have ne:¬y'=z:=fun e=>h3 (by rw [e])
  simp [h2,ne]
 ·exact ⟨.int (j:Int),H,I.tok _,⟨_,rfl⟩,q⟩
def tTM(r:V->List V->Hp->VK->Prop)(to:TE)(t:TA):TE:=fun σ H Q=>to σ H fun x H1=>(∃a xs,x=.ref a/\H1 a=some (.tup xs))/\t σ H1 fun xs H2=>r x xs H2 Q
theorem D3{o e:Expr}{es:List Expr}{to:TE}{t:TA}{name:Str}{apos cpos:Pos}{id:String}{r:V->List V->Hp->VK->Prop}(slot:Slot "tuple" name id)(hty:typeOf (.builtin id)=pure (.type "method_descriptor"))(hm:zI X id r)(ho:PE X o to)(ha:PA X (e::es) t)
  (hbase:attributeBase o name X.env (eval o X.env)=eval o X.env:=by rfl)
  (hfew:((backTo cpos (starEach (e::es) X.env)).all (fun x=>!x.1)&&(backToKw cpos (keywordEach [] X.env)).all (fun x=>x.1.isSome)
   && decide ((e::es).length+([]:List Keyword).length+(if ([]:List Keyword).isEmpty then 0 else 1)<30))=true:=by rfl)
  (hline:(apos.endLine==cpos.line)=true:=by rfl) (hs:starEach (e::es) X.env=(false,eval e X.env)::starEach es X.env:=by rfl) (hplain:(backTo cpos (starEach es X.env)).any (·.1)=false:=by rfl):
  PE X (.Call (.Attribute o name apos) (e::es) [] cpos) (tTM r to t):=by
 intro pins s σ H Q I h;refine wpAny_Call_method_late hbase hfew hline rfl (thn (ho pins s σ H _ I h) fun v s1 ⟨x,H1,I1,r1,⟨a,xs,ex,ea⟩,q1⟩=>?_);subst ex;cases r1;obtain ⟨its,n,sl,rv,eo⟩:=I1.tupD ea;refine ⟨"tuple",id,PySem.F.plainAttrs_tuple,slot,hty,⟨_,eo,rfl⟩,fun b eb=>by cases eb;exact ⟨_,eo,rfl⟩,?_⟩
 have hA:=ha cpos pins s1 σ H1 _ I1 q1;rw [hs] at hA ⊢;refine Calls.callWith_builtin (by show (false||(backTo cpos (starEach es X.env)).any (·.1))=false;rw [hplain]<;>rfl) (Calls.evalArgs_plain ?_)
 exact thn hA fun us s2 ⟨vs,H2,I2,r2,q2⟩=>hm pins s2 σ H2 (.ref a) vs _ us Q I2 rfl r2 q2
end
end L2
namespace L2
open PySem PySem.Spec PyProof.Rows
theorem eS{h base:Heap}{S:List Addr}:∀{l:List Env},h.FunFrames base l->(∀b∈fc l,b∈S)->h.FunFrames (W.hideAll h S) l
 |[],_,_=>trivial
 |env::r,hl,hs=>by
  obtain ⟨hk,⟨L,o,hf,hn,ho,hd⟩,hr⟩:=hl;have hL:L∈S:=hs L (by unfold fc;rw [List.filterMap_cons,hf];exact List.mem_cons_self)
  exact ⟨hk,⟨L,o,hf,W.hideAll_none S hL,ho,hd⟩,eS hr fun b hb=>hs b (by unfold fc;rw [List.filterMap_cons,hf];exact List.mem_cons_of_mem _ hb)⟩
def p0(P:Program)(w:World)(C:Addr):nW:=fun outer H s E e s'=>∃(ea:Addr) (H':Hp) (B:Heap) (a0:Value),e=.ref ea/\s'.os=s.os/\AllBare s'.gens/\Un (fc outer) [] H H' s.heap s'.heap/\HOk P w H' s'.heap/\
 Heap.FlyingW B outer ea (.ref C) a0 s'.heap/\(∀b u,H' b=some u->∃o,B.get? b=some o)/\(∀b o,s.heap.get? b=some o->b∉fc outer->∃o',B.get? b=some o')/\E (.ref C) none H'
theorem kQ{P:Program}{w:World}{H:Hp}{h h' B:Heap}(hok:HOk P w H h)(k:B.StaysIn h)(k':B.StaysIn h')(sT:∀b u,H b=some u->∃o,B.get? b=some o):HOk P w H h':=fun a o e=>
 (hok a o e).stay (fun b u hb q=>by
  obtain ⟨v,hv⟩:∃v,B.get? b=some v:=by
   rcases hb with rfl|z
   ·exact sT _ _ e
   ·exact sT _ _ z
  have:=k b v hv;rw [q] at this;cases this;exact k' b _ hv) (fun _ q=>q) fun _ _ q=>q
theorem qa{fs:List Addr}{H H':Hp}{h h1 h2 B:Heap}(un:Un fs [] H H' h h1)(k1:B.StaysIn h1)(k2:B.StaysIn h2)(up:h1.UpToSlots h2)(sA:∀b o,h.get? b=some o->b∉fs->∃o',B.get? b=some o')
  (nf:∀b∈fs,∀o,h.get? b=some o->∀vs,o.data≠.fields vs) (fr:∀b∈fs,H b=none):Un fs [] H H' h h2 where
 keep:=fun b o q n hb hx=>by
  have q1:=un.keep b o q n hb hx;obtain ⟨o',ho'⟩:=sA b o q hb;have:=k1 b o' ho';rw [q1] at this;cases this;exact k2 b _ ho'
 slot:=fun b o q n hb hx=>by
  obtain ⟨sl,q1⟩:=un.slot b o q n hb hx;obtain ⟨sl2,q2⟩:=up b _ q1 (nf b hb o q);exact ⟨sl2,q2⟩
 free:=un.free
 there:=fun b o q hx=>by
  by_cases hb:b∈fs
  ·obtain ⟨sl,q1⟩:=un.slot b o q (fr b hb) hb hx
   obtain ⟨sl2,q2⟩:=up b _ q1 (nf b hb o q);exact ⟨_,q2⟩
  ·obtain ⟨o',ho'⟩:=sA b o q hb
   exact ⟨o',k2 b o' ho'⟩
 tups:=un.tups
 frzs:=un.frzs
 tbls:=un.tbls
section
variable {P:Program}{w:World}{K:W.Frag}{mg:Str->Option Value}{base:Heap}{N:List Str}{qual:Str}{scope:Scope}{f C:Addr}{cd:Value}{A:Around}{outer:List Env}{s0:Shared}{H0:Hp}{E:XK}
theorem ox{env:Env}{L:Addr}{l:List Env}(h:env.frame=some L):fc (env::l)=L::fc l:=by unfold fc;rw [List.filterMap_cons,h]
theorem Df:d4 (p0 P w C) (dF (p0 P w C) P w K mg base N qual scope f cd A outer s0 H0 E) E:=by
 intro pins σ H s e s' I hx;obtain ⟨ea,H',B,a0,rfl,hos,hb,un,hok,hfl,sT,sA,hE⟩:=hx;have hsk:(dF (p0 P w C) P w K mg base N qual scope f cd A outer s0 H0 E).stack=envOfC qual scope s0.heap.objs.size f cd::outer:=rfl;have hfr:(envOfC qual scope s0.heap.objs.size f cd).frame=some s0.heap.objs.size:=rfl;have hfs:fc (envOfC qual scope s0.heap.objs.size f cd::outer)=s0.heap.objs.size::fc outer:=ox hfr;rw [hsk] at un hfl sA;show wpAny (model P w) (A.deeper (envOfC qual scope s0.heap.objs.size f cd)) (leaving (envOfC qual scope s0.heap.objs.size f cd) (.ref ea)) (fun _ s''=>p0 P w C outer H0 s0 E (.ref ea) s'') (fun e' s''=>p0 P w C outer H0 s0 E e' s'') s';refine wpAny_leaves_onW I.ok.frames hfr hfl fun h' hfl' hup=>?_;have u1:Un (fc outer) [] H0 H s0.heap s.heap:=I.base;have nofr:∀{b:Addr} {o:Obj},s0.heap.get? b=some o->b∉fc outer->b∉fc (envOfC qual scope s0.heap.objs.size f cd::outer):=fun {b o} q hb z=>by
  rw [hfs] at z;rcases List.mem_cons.mp z with e|z
  ·exact Nat.lt_irrefl _ (e▸Heap.lt_size q)
  ·exact hb z
 have un2:Un (fc (envOfC qual scope s0.heap.objs.size f cd::outer)) [] H H' s.heap h':=by
  refine qa un hfl.1 hfl'.1 hup sA (fun b hb o q vs=>?_) fun b hb=>?_
  ·obtain ⟨_,o',ho',hd⟩:=I.stack.mem (show b∈_ from hb)
   rw [q] at ho';cases ho';exact hd vs
  ·exact I.stkFree b hb
 refine ⟨ea,H',B,a0,rfl,hos.trans I.os,hb,?_,kQ hok hfl.1 hfl'.1 sT,hfl',sT,fun b o q hb=>?_,hE⟩
 ·refine ⟨fun b o q n hb hx=>?_,fun b o q n hb hx=>?_,fun b o q n hx=>?_,fun b o q hx=>?_,fun b xs q=>un2.tups b xs (u1.tups b xs q),fun b o u q=>un2.frzs b o u (u1.frzs b o u q),fun b ps q=>?_⟩
  ·exact un2.keep b o (u1.keep b o q n hb hx) (u1.free b o q n hx) (nofr q hb) hx
  ·obtain ⟨sl,q1⟩:=u1.slot b o q n hb hx
   obtain ⟨sl2,q2⟩:=un2.slot b _ q1 (u1.free b o q n hx) (by rw [hfs];exact List.mem_cons_of_mem _ hb) hx
   exact ⟨sl2,q2⟩
  ·obtain ⟨o1,q1⟩:=u1.there b o q hx
   exact un2.free b o1 q1 (u1.free b o q n hx) hx
  ·obtain ⟨o1,q1⟩:=u1.there b o q hx
   exact un2.there b o1 q1 hx
  ·obtain ⟨m1,e1⟩:=u1.tbls b ps q
   obtain ⟨m2,e2⟩:=un2.tbls b _ e1;exact ⟨m1++m2,by rw [e2,Array.append_assoc]⟩
 ·obtain ⟨o1,q1⟩:=u1.there b o q (by simp)
  exact sA b o1 q1 (nofr q hb)
structure ExcAt(K:W.Frag)(C:Addr):Prop where
 at_:∃(nm q:Str) (Nn:Addr) (bs bm bmB:List Value) (hdct:Bool) (sn:List Str) (sub:List Value) (ab:Bool) (col:Option Bool) (dd:Option Addr) (k0 k1 k2 k3 k5:Option Value) (newId initId Bs:String) (mN:Str->Option Value),
  (∀h:Heap,K.In h->h.get? C=some (excClassObj nm q C Nn bs bm hdct sn sub ab col dd k0 k1 k2 k3 k5 newId)/\h.Ns Nn mN/\OwnTail h bmB bm)/\mN "__init__"=none/\ExcBaseFacts Bs newId initId bmB/\bmB.contains (.type Bs)=true/\bm.contains (.type "BaseException")=true
theorem ObjOk.obj{P:Program}{w:World}{H:Hp}{h:Heap}{a:Addr}{o:HO}(x:ObjOk P w H h a o):∃v,h.get? a=some v:=by
 cases o with
 |lst xs=>obtain ⟨_,_,_,_,e⟩:=x;exact ⟨_,e⟩
 |tup xs=>obtain ⟨_,_,_,_,e,_⟩:=x;exact ⟨_,e⟩
 |dK kvs=>obtain ⟨_,_,_,_,o,_,_,e,_⟩:=x;exact ⟨_,e⟩
 |dT kvs=>obtain ⟨_,_,_,_,o,_,_,e,_⟩:=x;exact ⟨_,e⟩
 |set S n=>obtain ⟨o,_,_,_,e,_⟩:=x;exact ⟨_,e⟩
 |ins C dx fs=>obtain ⟨_,_,_,e,_⟩:=x;exact ⟨_,e⟩
 |own y=>obtain ⟨_,e⟩:=x;exact ⟨_,e⟩
 |xd fs=>obtain ⟨_,⟨_,_,_,e,_⟩,_⟩:=x;exact ⟨_,e⟩
 |rng lo hi=>obtain ⟨_,_,_,e⟩:=x;exact ⟨_,e⟩
 |frz ob u=>obtain ⟨e,_⟩:=x;exact ⟨_,e⟩
 |tbl ps=>exact ⟨_,(show h.get? a=some _ from x)⟩
 |met f y=>exact ⟨_,(show h.get? a=some _ from x)⟩
 |ext φ=>obtain ⟨_,⟨_,e⟩,_⟩:=x;exact ⟨_,e⟩
theorem zm{fs:List Addr}{L:Addr}{H0 H H':Hp}{h0 h h':Heap}(u1:Un fs [] H0 H h0 h)(un2:Un (L::fs) [] H H' h h')(hL:h0.objs.size<=L):Un fs [] H0 H' h0 h':=by
 have nofr:∀{b:Addr} {o:Obj},h0.get? b=some o->b∉fs->b∉L::fs:=fun {b o} q hb z=>by
  rcases List.mem_cons.mp z with e|z
  ·exact Nat.lt_irrefl _ (Nat.lt_of_lt_of_le (e▸Heap.lt_size q) hL)
  ·exact hb z
 refine ⟨fun b o q n hb hx=>un2.keep b o (u1.keep b o q n hb hx) (u1.free b o q n hx) (nofr q hb) hx,fun b o q n hb hx=>?_,fun b o q n hx=>?_,fun b o q hx=>?_,fun b xs q=>un2.tups b xs (u1.tups b xs q),fun b o u q=>un2.frzs b o u (u1.frzs b o u q),fun b ps q=>?_⟩
 ·obtain ⟨sl,q1⟩:=u1.slot b o q n hb hx
  obtain ⟨sl2,q2⟩:=un2.slot b _ q1 (u1.free b o q n hx) (List.mem_cons_of_mem _ hb) hx;exact ⟨sl2,q2⟩
 ·obtain ⟨o1,q1⟩:=u1.there b o q hx
  exact un2.free b o1 q1 (u1.free b o q n hx) hx
 ·obtain ⟨o1,q1⟩:=u1.there b o q hx
  exact un2.there b o1 q1 hx
 ·obtain ⟨m1,e1⟩:=u1.tbls b ps q
  obtain ⟨m2,e2⟩:=un2.tbls b _ e1;exact ⟨m1++m2,by rw [e2,Array.append_assoc]⟩
def qp(E:XK)(C:Addr):TS:=fun _ _ H=>E (.ref C) none H
theorem w6{x msg:Str}{np cpos pos apos:Pos}{jj}(X:ExcAt K C)(hm:mg x=some (.ref C))(hg:Gl (dF (p0 P w C) P w K mg base N qual scope f cd A outer s0 H0 E) x)
  (hd:(x==("__debug__":Str))=false:=by decide)
  (hs:starEach [.Constant (.str msg) jj apos] (dF (p0 P w C) P w K mg base N qual scope f cd A outer s0 H0 E).env=[(false,eval (.Constant (.str msg) jj apos) (dF (p0 P w C) P w K mg base N qual scope f cd A outer s0 H0 E).env)]:=by rfl):
  PS (dF (p0 P w C) P w K mg base N qual scope f cd A outer s0 H0 E) (.Raise (some (.Call (.Name x np) [.Constant (.str msg) jj apos] [] cpos)) none pos) (qp E C):=by
 intro pins s σ H D I h;obtain ⟨nm,q,Nn,bs,bm,bmB,hdct,sn,sub,ab,col,dd,k0,k1,k2,k3,k5,newId,initId,Bs,mN,hX,hni,FB,hBs,hbase⟩:=X.at_
 refine wpAny_Raise_call_subU (C:=C) (nm:=nm) (q:=q) (N:=Nn) (bs:=bs) (bm:=bm) (hdct:=hdct) (sn:=sn) (sub:=sub) (ab:=ab) (col:=col) (dd:=dd) (k0:=k0) (k1:=k1) (k2:=k2) (k3:=k3) (k5:=k5) FB hBs FB (mN:=mN) hbase (I.ok.hd rfl) (by rw [hs];rfl) hni
  (ld_glob I hg hm ⟨rfl,?_⟩ hd)
 have hA:=(qP vp uE hs) cpos pins s σ H (fun xs H1=>xs.length=1/\E (.ref C) none H1) I ⟨rfl,h⟩;rw [hs] at hA ⊢;refine Calls.evalArgs_plain (wpAny_mono hA (fun vs s₂ h₂=>?_) fun _ _ y=>y);obtain ⟨vv,H1,I1,r,hlen,hE⟩:=h₂;obtain ⟨hC,hN,T⟩:=hX s₂.heap I1.kIn;refine ⟨rfl,?_,hC,hN,T,fun h' e hx=>?_⟩
 ·show vs.length<=sizeLine
  rw [<- r.length,hlen]
  decide
 have hfr:(envOfC qual scope s0.heap.objs.size f cd).frame=some s0.heap.objs.size:=rfl;have hfs:fc (envOfC qual scope s0.heap.objs.size f cd::outer)=s0.heap.objs.size::fc outer:=ox hfr;have kB:(W.hideAll s₂.heap (fc (envOfC qual scope s0.heap.objs.size f cd::outer))).StaysIn s₂.heap:=fun b o e=>W.of_hideAll _ e;show wpAny (model P w) (A.deeper (envOfC qual scope s0.heap.objs.size f cd)) (leaving (envOfC qual scope s0.heap.objs.size f cd) (.ref e)) (fun _ s''=>p0 P w C outer H0 s0 E (.ref e) s'') (fun e' s''=>p0 P w C outer H0 s0 E e' s'') _;refine wpAny_leaves_madeW I1.ok.frames hfr kB (eS I1.stack fun b hb=>hb) hx fun h'' t hfl _ _ hup=>?_;have up2:s₂.heap.UpToSlots h'':=(Heap.UpToSlots.of_keeps hx.keeps).trans hup;have inB:∀{b:Addr} {o:Obj},s₂.heap.get? b=some o->b∉fc (envOfC qual scope s0.heap.objs.size f cd::outer)->(W.hideAll s₂.heap (fc (envOfC qual scope s0.heap.objs.size f cd::outer))).get? b=some o:=fun e n=>W.hideAll_get _ e n;have sT:∀b u,H1 b=some u->∃o,(W.hideAll s₂.heap (fc (envOfC qual scope s0.heap.objs.size f cd::outer))).get? b=some o:=fun b u e=>by
  obtain ⟨v,hv⟩:=ObjOk.obj (I1.hok b u e);exact ⟨v,inB hv fun z=>by rw [I1.stkFree b z] at e;cases e⟩
 have un2:Un (fc (envOfC qual scope s0.heap.objs.size f cd::outer)) [] H1 H1 s₂.heap h'':=by
  refine qa Un.refl kB hfl.1 up2 (fun b o q hb=>⟨o,inB q hb⟩) (fun b hb o q vs=>?_) fun b hb=>I1.stkFree b hb;obtain ⟨_,o',ho',hd'⟩:=I1.stack.mem (show b∈_ from hb);rw [q] at ho';cases ho';exact hd' vs
 rw [hfs] at un2;refine ⟨e,H1,_,.ref t,rfl,I1.os,I1.bare,zm I1.base un2 (Nat.le_refl _),kQ I1.hok kB hfl.1 sT,hfl,sT,fun b o q hb=>?_,hE⟩;obtain ⟨o1,q1⟩:=I1.base.there b o q (fun z=>absurd (show b∈([]:List Addr) from z) (by simp))
 refine ⟨o1,inB q1 fun z=>?_⟩;rw [hfs] at z;rcases List.mem_cons.mp z with e'|z
 ·exact Nat.lt_irrefl _ (e'▸Heap.lt_size q)
 ·exact hb z
end
abbrev Cx.marked(X:Cx)(e:Value):Cx:={ X with A:=X.A.mark (some e),calm:=false,xe:=fun _ _=>False }
section
variable {X:Cx}{pins:List (Addr×Obj)}{σ:St}{H:Hp}{s:Shared}{e:Value}
theorem Cx.Ok.mark(ok:X.Ok)(e:Value):(X.marked e).Ok:=
 ⟨ok.mod,ok.kind,ok.glob,ok.blt,ok.above,ok.inj,ok.has,ok.cab,fun z=>(Bool.noConfusion z),ok.frames,ok.stk,ok.exf,ok.bs,ok.bsz,ok.noex,ok.exfs,ok.funs,ok.frf⟩
theorem Inv.mark(I:Inv X pins σ H s)(e:Value):Inv (X.marked e) pins σ H s:=⟨I.ok.mark e,I.os,I.bare,I.base,I.loc,I.cell,I.free,I.freeC,I.pin,I.hok,I.len⟩
theorem Inv.unmark(ok:X.Ok)(I:Inv (X.marked e) pins σ H s):Inv X pins σ H s:=⟨ok,I.os,I.bare,I.base,I.loc,I.cell,I.free,I.freeC,I.pin,I.hok,I.len⟩
theorem SP.unmark{D:Ends}{f:Flow}{s':Shared}(ok:X.Ok)(h:SP (X.marked e) pins D f s'):SP X pins D f s':=by
 cases f with
 |next=>obtain ⟨σ',H',I,q⟩:=h;exact ⟨σ',H',I.unmark ok,q⟩
 |brk=>obtain ⟨σ',H',I,q⟩:=h;exact ⟨σ',H',I.unmark ok,q⟩
 |cont=>obtain ⟨σ',H',I,q⟩:=h;exact ⟨σ',H',I.unmark ok,q⟩
 |ret u=>obtain ⟨v,σ',H',I,r,q⟩:=h;exact ⟨v,σ',H',I.unmark ok,r,q⟩
def uq(C:Addr)(sp:Sp)(dvs:List V)(ta:TA)(ts:TS):TS:=fun D σ H=>ta σ H fun vs H1=>sp (vs++dvs) H1 (fun _ H2=>D.nx σ H2) (fun _ _ H2=>ts D σ H2)
theorem pk{C f:Addr}{k:Nat}{fd:FuncData}{ps:List Str}{sp:Sp}{dvs:List V}{ds:List Value}{x cx:Str}{p cp ep np hpos pos:Pos}{e:Expr}{es:List Expr}{ta:TA}{b₀:Stmt}{suite:List Stmt}{ts:TS}
  (hst:X.stack=X.env::X.outer) (hfL:X.env.frame=some X.env.locals) (F:FnOk X.prog X.w X.K X.mg X.base (p0 X.prog X.w C) k f fd ps sp) (hr:Room k X.A) (hg:Gl X x) (hm:X.mg x=some (.ref f)) (hk:W.keepIn X.K (.ref f)=true) (hb:Binds X.K fd ps ds) (hd:Vals dvs ds)
  (ha:PA X.nox (e::es) ta) (EX:ExcAt X.K C) (hgC:Gl X cx) (hmC:X.mg cx=some (.ref C)) (hsu:∀ea:Addr,qY (X.marked (.ref ea)) (b₀::suite) ts)
  (hdb:(x==("__debug__":Str))=false:=by decide) (hdC:(cx==("__debug__":Str))=false:=by decide) (he:starEach (e::es) X.env=(false,eval e X.env)::starEach es X.env:=by rfl) (hpl:(backTo cp (starEach es X.env)).any (·.1)=false:=by rfl)
  (hsw:swapsWith (.Call (.Name x p) (e::es) [] cp) none ep.line X.env=pure false:=by rfl):
  PS X (.Try [.Expr (.Call (.Name x p) (e::es) [] cp) ep] [.ExceptHandler (some (.Name cx np)) none (b₀::suite) hpos] [] [] pos) (uq C sp dvs ta ts):=by
 intro pins s σ H D I h;refine wpAny_Try_except (wpAny_execs_cons (wpAny_Expr_any ?_ I.quiet hsw));refine wpAny_Call_Name_kw (ld_glob I hg hm ?_ hdb);refine W.callWith_K (h₀:=X.base) I.ok.mod.kin hk (wpAny_mono (ha cp pins s σ H _ (I.wish _) h) (fun us s1 ⟨vs,H1,I1',r,q⟩=>?_) fun _ _ z=>False.elim z) he hpl;have I1:Inv X pins σ H1 s1:=I1'.unwish;refine ⟨I1.kIn,?_⟩;have r2:Vals (vs++dvs) (us++ds):=r.append hd;have hl:(us++ds).length=ps.length:=by rw [<- r2.length];exact F.len _ _ _ _ q
 refine wpAny_call (codeAny_mono (F.run X.A X.stack s1 H1 ⟨us,[]⟩ (us++ds) (vs++dvs) _ _ hr I1.env0 (hb s1 us I1.kIn hl) r2 q) fun rr s' hq=>?_);cases rr with
 |ok fl=>
  cases fl with
  |ret u=>
   obtain ⟨x',H2,I2,_,q2⟩:=I1.after hq;exact wpAny_execs_nil (wpAny_execs_nil ⟨σ,H2,I2,q2⟩)
  |next=>exact False.elim hq
  |brk=>exact False.elim hq
  |cont=>exact False.elim hq
 |error er=>
  obtain ⟨ea,H',B,a0,rfl,hos,hbare,un,hok,hfl,sT,sA,hE⟩:=hq;obtain ⟨nm,qn,Nn,bs,bm,bmB,hdct,sn,sub,ab,col,dd,k0,k1,k2,k3,k5,newId,initId,Bs,mN,hX,hni,FB,hBs,hbase⟩:=EX.at_;have nf:∀b∈fc X.stack,∀o,s1.heap.get? b=some o->∀vs,o.data≠.fields vs:=fun b hb' o q' vs=>by
   obtain ⟨_,o',ho',hd'⟩:=I1.stack.mem (show b∈_ from hb');rw [q'] at ho';cases ho';exact hd' vs
  have shift:∀h':Heap,B.StaysIn h'->s'.heap.UpToSlots h'->Inv X pins σ H' { s' with heap:=h' }:=fun h' k up=>
   I1.call' (s':={ s' with heap:=h' }) hos (qa un hfl.1 k up sA nf fun b hb'=>I1.stkFree b hb') (kQ hok hfl.1 k sT) hbare fun b z=>absurd (show b∈([]:List Addr) from z) (by simp)
  rw [hst] at hfl;have hfr:X.A.frames=some (X.env::X.outer):=by rw [<- hst];exact I1.ok.frames
  refine wpAny_looks_onW hfr hfL hfl fun h4 held4 up4=>?_;refine wpAny_landsW held4 fun h5 hfl5 up5=>?_;have I5:=(shift h5 hfl5.1 (up4.trans up5)).mark (.ref ea);obtain ⟨hC,_,_⟩:=hX h5 I5.kIn;obtain ⟨ob,hob,hobc⟩:=hfl5.there;refine wpAny_handleBy_cons (codeAny_handlers_test (ld_glob I5 hgC hmC ?_ hdC)) (by intro q';cases q')
  refine wpAny_excMatches_sub_self hC hob hobc hbase (codeAny_handlers_suite ?_);refine lands_againW hfl5 fun h6 hfl6 up6=>?_;have I6:=(shift h6 hfl6.1 ((up4.trans up5).trans up6)).mark (.ref ea);exact wpAny_mono (hsu ea pins _ σ H' D I6 hE) (fun fl s7 q7=>q7.unmark I.ok) fun _ _ z=>False.elim z
end
end L2
namespace L3
open PySem L2
inductive D where
 |non|bl (b:Bool)|int (i:Int)|str (x:Str)|ty (n:String)|ref (a:Addr)|tup (xs:List D)|lst (xs:List D)|mt (xs:List D)|ml (xs:List D)
def TpD(_:W.Frag)(H:Hp)(p:Addr)(vs:List V):Prop:=H p=some (.tup vs)
def TpM(K:W.Frag)(p:Addr)(vs:List V):Prop:=∃(o:Obj) (its:Array Value) (n:Nat),K.lookup p=some o/\o.cls=.type "tuple"/\o.data=.seq its n/\its.size<=sizeLine/\Vals vs its.toList
def FzD(K:W.Frag)(H:Hp)(p:Addr)(vs:List V):Prop:=
 ∃o,H p=some (.frz o (.lst vs))
def FzK(K:W.Frag)(H:Hp)(p:Addr)(vs:List V):Prop:=(∃o,H p=some (.frz o (.lst vs)))\/∃(o:Obj) (its:Array Value) (n:Nat),K.lookup p=some o/\o.cls=.type "list"/\o.dict=none/\o.data=.seq its n/\its.size<=sizeLine/\Vals vs its.toList
theorem FzK.sq{K:W.Frag}{H:Hp}{p:Addr}{vs:List V}(h:FzK K H p vs):SqL K H p vs:=h.imp (fun ⟨o,e⟩=>.inr ⟨o,e⟩) fun x=>x
theorem TpD.sq{K:W.Frag}{H:Hp}{p:Addr}{vs:List V}(h:TpD K H p vs):gE K H p vs:=.inl (.inl h)
theorem TpM.sq{K:W.Frag}{H:Hp}{p:Addr}{vs:List V}(h:TpM K p vs):gE K H p vs:=.inr h
theorem FzD.sq{K:W.Frag}{H:Hp}{p:Addr}{vs:List V}(h:FzD K H p vs):SqL K H p vs:=by
 obtain ⟨o,h⟩:=h;exact .inl (.inr ⟨o,h⟩)
mutual
def Rp(K:W.Frag)(H:Hp):D->V->Prop
 |.non,v=>v=.non
 |.bl b,v=>v=.bl b
 |.int i,v=>v=.int i
 |.str x,v=>v=.str x
 |.ty n,v=>v=.ty n
 |.ref a,v=>v=.ref a
 |.tup xs,v=>∃p vs,v=.ref p/\TpD K H p vs/\Rps K H xs vs
 |.lst xs,v=>∃p vs,v=.ref p/\FzD K H p vs/\Rps K H xs vs
 |.mt xs,v=>∃p vs,v=.ref p/\TpM K p vs/\Rps K H xs vs
 |.ml xs,v=>∃p vs,v=.ref p/\FzK K H p vs/\Rps K H xs vs
def Rps(K:W.Frag)(H:Hp):List D->List V->Prop
 |[],vs=>vs=[]
 |x::xs,vs=>∃v r,vs=v::r/\Rp K H x v/\Rps K H xs r
end
structure Imm(H H':Hp):Prop where
 tup:∀p vs,H p=some (.tup vs)->H' p=some (.tup vs)
 frz:∀p o u,H p=some (.frz o u)->H' p=some (.frz o u)
theorem Imm.refl{H:Hp}:Imm H H:=⟨fun _ _ e=>e,fun _ _ _ e=>e⟩
theorem TpD.mono{K:W.Frag}{H H':Hp}{p:Addr}{vs:List V}(i:Imm H H')(h:TpD K H p vs):TpD K H' p vs:=i.tup _ _ h
theorem FzK.mono{K:W.Frag}{H H':Hp}{p:Addr}{vs:List V}(i:Imm H H')(h:FzK K H p vs):FzK K H' p vs:=h.imp (fun ⟨o,e⟩=>⟨o,i.frz _ _ _ e⟩) fun x=>x
theorem FzD.mono{K:W.Frag}{H H':Hp}{p:Addr}{vs:List V}(i:Imm H H')(h:FzD K H p vs):FzD K H' p vs:=let ⟨o,e⟩:=h;⟨o,i.frz _ _ _ e⟩
mutual
theorem Rp.mono{K:W.Frag}{H H':Hp}(i:Imm H H'):∀{d:D} {v:V},Rp K H d v->Rp K H' d v
 |.non,_,h=>h
 |.bl _,_,h=>h
 |.int _,_,h=>h
 |.str _,_,h=>h
 |.ty _,_,h=>h
 |.ref _,_,h=>h
 |.tup _,_,h=>by
  obtain ⟨p,vs,e,t,r⟩:=h;exact ⟨p,vs,e,t.mono i,Rps.mono i r⟩
 |.lst _,_,h=>by
  obtain ⟨p,vs,e,t,r⟩:=h;exact ⟨p,vs,e,t.mono i,Rps.mono i r⟩
 |.mt _,_,h=>by
  obtain ⟨p,vs,e,t,r⟩:=h;exact ⟨p,vs,e,t,Rps.mono i r⟩
 |.ml _,_,h=>by
  obtain ⟨p,vs,e,t,r⟩:=h;exact ⟨p,vs,e,t.mono i,Rps.mono i r⟩
theorem Rps.mono{K:W.Frag}{H H':Hp}(i:Imm H H'):∀{ds:List D} {vs:List V},Rps K H ds vs->Rps K H' ds vs
 |[],_,h=>h
 |_::_,_,h=>by
  obtain ⟨v,r,e,a,b⟩:=h;exact ⟨v,r,e,Rp.mono i a,Rps.mono i b⟩
end
section
variable {K:W.Frag}{H H':Hp}
theorem Rps.nil:Rps K H [] []:=rfl
theorem Rps.cons{d:D}{v:V}{ds:List D}{vs:List V}(a:Rp K H d v)(b:Rps K H ds vs):Rps K H (d::ds) (v::vs):=⟨v,vs,rfl,a,b⟩
theorem Rps.length:∀{ds:List D} {vs:List V},Rps K H ds vs->ds.length=vs.length
 |[],_,h=>by cases h;rfl
 |_::_,_,h=>by obtain ⟨v,r,rfl,_,b⟩:=h;simp [b.length]
theorem Rps.get:∀{ds:List D} {vs:List V},Rps K H ds vs->∀{i:Nat} {d:D},ds[i]?=some d->∃v,vs[i]?=some v/\Rp K H d v
 |[],_,_,i,d,e=>by simp at e
 |x::xs,_,h,i,d,e=>by
  obtain ⟨v,r,rfl,a,b⟩:=h;cases i with
  |zero=>simp at e;subst e;exact ⟨v,by simp,a⟩
  |succ i=>simpa using b.get (by simpa using e)
theorem Rps.append:∀{ds es:List D} {vs ws:List V},Rps K H ds vs->Rps K H es ws->Rps K H (ds++es) (vs++ws)
 |[],_,_,_,h,g=>by cases h;exact g
 |_::_,_,_,_,h,g=>by
  obtain ⟨v,r,rfl,a,b⟩:=h;exact ⟨v,_,rfl,a,b.append g⟩
theorem Rps.take:∀{ds:List D} {vs:List V} (n:Nat),Rps K H ds vs->Rps K H (ds.take n) (vs.take n)
 |[],_,n,h=>by cases h;simp [Rps]
 |_::_,_,0,h=>rfl
 |_::_,_,n+1,h=>by
  obtain ⟨v,r,rfl,a,b⟩:=h;exact ⟨v,_,rfl,a,b.take n⟩
theorem Rps.drop:∀{ds:List D} {vs:List V} (n:Nat),Rps K H ds vs->Rps K H (ds.drop n) (vs.drop n)
 |[],_,n,h=>by cases h;simp [Rps]
 |_::_,_,0,h=>h
 |_::_,_,n+1,h=>by
  obtain ⟨v,r,rfl,a,b⟩:=h;exact b.drop n
theorem Rps.set{d:D}{v:V}(a:Rp K H d v):∀{ds:List D} {vs:List V} (i:Nat),Rps K H ds vs->Rps K H (ds.set i d) (vs.set i v)
 |[],_,_,h=>by cases h;rfl
 |_::_,_,0,h=>by obtain ⟨w,r,rfl,_,b⟩:=h;exact ⟨v,r,rfl,a,b⟩
 |_::_,_,i+1,h=>by obtain ⟨w,r,rfl,c,b⟩:=h;exact ⟨w,_,rfl,c,b.set a i⟩
theorem o_:∀{is:List Int} {vs:List V},vs=is.map V.int->Rps K H (is.map D.int) vs
 |[],_,e=>e
 |i::is,_,e=>by subst e;exact ⟨_,_,rfl,rfl,o_ rfl⟩
end
inductive MO where
 |lst (xs:List D)
 |dK (kvs:List (au×D))
 |dT (kvs:List (List au×D))
 |ins (C:Addr) (fs:List (Str×D))
abbrev Mem:=Addr->Option MO
def Mem.upd(M:Mem)(a:Addr)(o:MO):Mem:=fun b=>if b=a then some o else M b
def Mem.del(M:Mem)(a:Addr):Mem:=fun b=>if b=a then none else M b
def Rkv{κ:Type}(K:W.Frag)(H:Hp):List (κ×D)->List (κ×V)->Prop:=Paired fun p q=>p.1=q.1/\Rp K H p.2 q.2
def RepO(K:W.Frag)(H:Hp)(a:Addr):MO->Prop
 |.lst xs=>∃vs,H a=some (.lst vs)/\Rps K H xs vs
 |.dK kvs=>∃ws,H a=some (.dK ws)/\Rkv K H kvs ws
 |.dT kvs=>∃ws,H a=some (.dT ws)/\Rkv K H kvs ws
 |.ins C fs=>∃dx ws,H a=some (.ins C dx ws)/\Rkv K H fs ws
def RepH(K:W.Frag)(H:Hp)(M:Mem):Prop:=∀a o,M a=some o->RepO K H a o
section
variable {K:W.Frag}{H H':Hp}{M:Mem}{a b:Addr}{o:MO}{u:HO}
@[simp] theorem Mem.upd_same:(M.upd a o) a=some o:=by simp [Mem.upd]
theorem ah(h:b≠a):(M.upd a o) b=M b:=by simp [Mem.upd,h]
@[simp] theorem Mem.upd_upd {o':MO}:(M.upd a o).upd a o'=M.upd a o':=by funext c;simp [Mem.upd];split<;>rfl
@[simp] theorem Mem.upd_del:(M.upd a o).del a=M.del a:=by funext c;simp [Mem.upd,Mem.del];split<;>rfl
theorem ap(h:M a=none):M.del a=M:=by
 funext c;simp only [Mem.del];split
 ·rename_i e;rw [e,h]
 ·rfl
theorem bB{o':MO}(h:a≠b):(M.upd a o).upd b o'=(M.upd b o').upd a o:=by
 funext c;simp only [Mem.upd];split
 ·rename_i e;rw [e,if_neg (Ne.symm h)]
 ·rfl
theorem Mem.ne{o:MO}(h:M a=some o)(h':M b=none):a≠b:=by intro e;subst e;rw [h] at h';cases h'
theorem Rkv.mono{κ:Type}{kvs:List (κ×D)}{ws:List (κ×V)}(i:Imm H H')(h:Rkv K H kvs ws):Rkv K H' kvs ws:=de h fun _ _ z=>⟨z.1,z.2.mono i⟩
theorem RepO.obj(r:RepO K H a o):∃u,H a=some u:=by
 cases o with
 |lst xs=>obtain ⟨vs,e,_⟩:=r;exact ⟨_,e⟩
 |dK xs=>obtain ⟨vs,e,_⟩:=r;exact ⟨_,e⟩
 |dT xs=>obtain ⟨vs,e,_⟩:=r;exact ⟨_,e⟩
 |ins C fs=>obtain ⟨dx,vs,e,_⟩:=r;exact ⟨_,e⟩
theorem RepO.keep(r:RepO K H a o)(i:Imm H H')(e:H' a=H a):RepO K H' a o:=by
 cases o with
 |lst xs=>obtain ⟨vs,q,z⟩:=r;exact ⟨vs,e.trans q,z.mono i⟩
 |dK xs=>obtain ⟨vs,q,z⟩:=r;exact ⟨vs,e.trans q,z.mono i⟩
 |dT xs=>obtain ⟨vs,q,z⟩:=r;exact ⟨vs,e.trans q,z.mono i⟩
 |ins C fs=>obtain ⟨dx,vs,q,z⟩:=r;exact ⟨dx,vs,e.trans q,z.mono i⟩
theorem RepH.fresh(r:RepH K H M)(h:H a=none):M a=none:=by
 cases e:M a with
 |none=>rfl
 |some o=>obtain ⟨u,q⟩:=(r a o e).obj;rw [h] at q;cases q
def sd:Option HO->Prop
 |some (.tup _)=>False
 |some (.frz _ _)=>False
 |_=>True
theorem Imm.upd(h:sd (H a)):Imm H (upd H a u):=by
 refine ⟨fun p vs e=>?_,fun p o v e=>?_⟩
 ·rw [upd_ne];exact e
  rintro rfl;rw [e] at h;exact h
 ·rw [upd_ne];exact e
  rintro rfl;rw [e] at h;exact h
theorem Imm.new(h:H a=none):Imm H (L2.upd H a u):=Imm.upd (by rw [h];trivial)
theorem RepO.loose(r:RepO K H a o):sd (H a):=by
 cases o with
 |lst xs=>obtain ⟨vs,e,_⟩:=r;rw [e];trivial
 |dK xs=>obtain ⟨vs,e,_⟩:=r;rw [e];trivial
 |dT xs=>obtain ⟨vs,e,_⟩:=r;rw [e];trivial
 |ins C fs=>obtain ⟨dx,vs,e,_⟩:=r;rw [e];trivial
theorem RepH.new(r:RepH K H M)(h:H a=none):RepH K (L2.upd H a u) M:=fun b o e=>by
 obtain ⟨v,q⟩:=(r b o e).obj;exact (r b o e).keep (Imm.new h) (upd_ne (a_ q h))
theorem RepH.put(r:RepH K H M)(h:sd (H a))(n:RepO K (L2.upd H a u) a o):RepH K (L2.upd H a u) (M.upd a o):=fun b p e=>by
 by_cases hb:b=a
 ·subst hb;rw [Mem.upd_same] at e;cases e;exact n
 ·rw [ah hb] at e
  exact (r b p e).keep (Imm.upd h) (upd_ne hb)
theorem RepH.keep(r:RepH K H M)(i:Imm H H')(e:∀b o,M b=some o->H' b=H b):RepH K H' M:=fun b o q=>(r b o q).keep i (e b o q)
structure Frm(M:Mem)(H:Hp)(M':Mem)(H':Hp):Prop where
 keep:∀b u,H b=some u->M b=none->H' b=some u/\M' b=none
variable {M':Mem}
theorem Frm.refl:Frm M H M H:=⟨fun _ _ e n=>⟨e,n⟩⟩
theorem Frm.trans{M1 M2:Mem}{H1 H2:Hp}(x:Frm M H M1 H1)(y:Frm M1 H1 M2 H2):Frm M H M2 H2:=⟨fun b u e n=>let ⟨e1,n1⟩:=x.keep b u e n;y.keep b u e1 n1⟩
theorem Frm.imm(f:Frm M H M' H')(r:RepH K H M):Imm H H':=by
 have key:∀b u,H b=some u->¬sd (some u)->H' b=some u:=fun b u e n=>(f.keep b u e (by
  cases q:M b with
  |none=>rfl
  |some o=>exact absurd (by rw [<- e];exact (r b o q).loose) n)).1
 exact ⟨fun p vs e=>key p _ e (fun z=>z),fun p o u e=>key p _ e (fun z=>z)⟩
theorem Frm.new(h:H a=none):Frm M H M (L2.upd H a u):=⟨fun b v e n=>⟨by rw [upd_ne (a_ e h)];exact e,n⟩⟩
theorem Frm.put(h:H a=none\/∃o,M a=some o):Frm M H (M.upd a o) (L2.upd H a u):=⟨fun b v e n=>by
 have hb:b≠a:=by
  rintro rfl
  rcases h with h|⟨o,h⟩
  ·rw [h] at e;cases e
  ·rw [h] at n;cases n
 exact ⟨by rw [L2.upd_ne hb];exact e,by rw [ah hb];exact n⟩⟩
theorem Frm.del(h:∃o,M a=some o):Frm M H (M.del a) (L2.upd H a u):=⟨fun b v e n=>by
 have hb:b≠a:=by
  rintro rfl
  obtain ⟨o,h⟩:=h;rw [h] at n;cases n
 refine ⟨by rw [L2.upd_ne hb];exact e,?_⟩
 unfold Mem.del;rw [if_neg hb];exact n⟩
theorem Rp.mf{d:D}{v:V}(x:Rp K H d v)(r:RepH K H M)(f:Frm M H M' H'):Rp K H' d v:=x.mono (f.imm r)
theorem Rps.mf{d:List D}{v:List V}(x:Rps K H d v)(r:RepH K H M)(f:Frm M H M' H'):Rps K H' d v:=x.mono (f.imm r)
end
end L3
namespace L3
open PySem L2
abbrev Dl:=List (Option D)
abbrev DK:=D->Mem->Prop
abbrev bH:=Dl->Mem->DK->Prop
abbrev eg:=Dl->Mem->(Bool->Mem->Prop)->Prop
abbrev fo:=Dl->Mem->(List D->Mem->Prop)->Prop
structure RepS(K:W.Frag)(H:Hp)(δ:Dl)(σ:St):Prop where
 len:δ.length=σ.length
 get:∀(i:Nat) (d:D),δ[i]?=some (some d)->∃v,σ[i]?=some (some v)/\Rp K H d v
theorem RepS.mono{K:W.Frag}{H H':Hp}{δ:Dl}{σ:St}(r:RepS K H δ σ)(i:Imm H H'):RepS K H' δ σ:=
 ⟨r.len,fun j d e=>by obtain ⟨v,h1,h2⟩:=r.get j d e;exact ⟨v,h1,h2.mono i⟩⟩
theorem RepS.set{K:W.Frag}{H:Hp}{δ:Dl}{σ:St}{i:Nat}{d:D}{v:V}(r:RepS K H δ σ)(h:Rp K H d v):RepS K H (δ.set i (some d)) (σ.set i (some v)):=by
 refine ⟨by simp [r.len],fun j e q=>?_⟩
 rw [List.getElem?_set] at q ⊢
 by_cases hij:i=j
 ·rw [if_pos hij] at q ⊢
  by_cases hl:i<δ.length
  ·rw [if_pos (by rw [<- r.len];exact hij▸hl)]
   rw [if_pos (hij▸hl)] at q;cases q;exact ⟨v,rfl,h⟩
  ·rw [if_neg (hij▸hl)] at q;cases q
 ·rw [if_neg hij] at q ⊢
  exact r.get j e q
structure Bd where
 p:Mem->Hp->Prop
 go:∀{M M':Mem} {H H':Hp},p M H->Frm M H M' H'->p M' H'
def Eo(M:Mem)(H:Hp):Bd:=⟨fun M' H'=>Frm M H M' H',fun a b=>a.trans b⟩
structure SR(X:Cx)(B:Bd)(δ:Dl)(M:Mem)(σ:St)(H:Hp):Prop where
 i0:B.p M H
 rh:RepH X.K H M
 rs:RepS X.K H δ σ
theorem SR.go{X:Cx}{B:Bd}{δ:Dl}{M M':Mem}{σ:St}{H H':Hp}(s:SR X B δ M σ H)(rh:RepH X.K H' M')(i:Frm M H M' H'):SR X B δ M' σ H':=⟨B.go s.i0 i,rh,s.rs.mono (i.imm s.rh)⟩
def Up(K:W.Frag)(M:Mem)(H:Hp)(QQ:DK)(Q:VK):Prop:=∀d M',QQ d M'->∀v H',RepH K H' M'->Frm M H M' H'->Rp K H' d v->Q v H'
def UpT(K:W.Frag)(M:Mem)(H:Hp)(QQ:Bool->Mem->Prop)(Q:Bool->Hp->Prop):Prop:=∀b M',QQ b M'->∀H',RepH K H' M'->Frm M H M' H'->Q b H'
def UpA(K:W.Frag)(M:Mem)(H:Hp)(QQ:List D->Mem->Prop)(Q:List V->Hp->Prop):Prop:=∀ds M',QQ ds M'->∀vs H',RepH K H' M'->Frm M H M' H'->Rps K H' ds vs->Q vs H'
theorem Up.go{K:W.Frag}{M M1:Mem}{H H1:Hp}{QQ:DK}{Q:VK}(u:Up K M H QQ Q)(i:Frm M H M1 H1):Up K M1 H1 QQ Q:=fun d M' q v H' a b c=>u d M' q v H' a (i.trans b) c
theorem UpT.go{K:W.Frag}{M M1:Mem}{H H1:Hp}{QQ:Bool->Mem->Prop}{Q:Bool->Hp->Prop}(u:UpT K M H QQ Q)(i:Frm M H M1 H1):UpT K M1 H1 QQ Q:=fun d M' q H' a b=>u d M' q H' a (i.trans b)
inductive liftE(X:Cx)(B:Bd)(T:bH)(σ:St)(H:Hp)(Q:VK):Prop
 |mk (δ:Dl) (M:Mem) (QQ:DK) (s:SR X B δ M σ H) (h:T δ M QQ) (u:Up X.K M H QQ Q):liftE X B T σ H Q
inductive liftT(X:Cx)(B:Bd)(T:eg)(σ:St)(H:Hp)(Q:Bool->Hp->Prop):Prop
 |mk (δ:Dl) (M:Mem) (QQ:Bool->Mem->Prop) (s:SR X B δ M σ H) (h:T δ M QQ) (u:UpT X.K M H QQ Q):liftT X B T σ H Q
inductive liftA(X:Cx)(B:Bd)(T:fo)(σ:St)(H:Hp)(Q:List V->Hp->Prop):Prop
 |mk (δ:Dl) (M:Mem) (QQ:List D->Mem->Prop) (s:SR X B δ M σ H) (h:T δ M QQ) (u:UpA X.K M H QQ Q):liftA X B T σ H Q
def DE(X:Cx)(B:Bd)(e:Expr)(T:bH):Prop:=PE X e (liftE X B T)
def DT(X:Cx)(B:Bd)(e:Expr)(T:eg):Prop:=PT X e (liftT X B T)
def DA(X:Cx)(B:Bd)(es:List Expr)(T:fo):Prop:=PA X es (liftA X B T)
theorem aU{X:Cx}{e:Expr}{t t':TE}(h:PE X e t)(w:∀σ H Q,t' σ H Q->t σ H Q):PE X e t':=fun pins s σ H Q I q=>h pins s σ H Q I (w σ H Q q)
theorem m9{X:Cx}{e:Expr}{t t':TT}(h:PT X e t)(w:∀σ H Q,t' σ H Q->t σ H Q):PT X e t':=fun pins s σ H Q I q=>h pins s σ H Q I (w σ H Q q)
theorem rV{X:Cx}{e:List Expr}{t t':TA}(h:PA X e t)(w:∀σ H Q,t' σ H Q->t σ H Q):PA X e t':=fun pos pins s σ H Q I q=>h pos pins s σ H Q I (w σ H Q q)
theorem cg{X:Cx}{e:Stmt}{t t':TS}(h:PS X e t)(w:∀D σ H,t' D σ H->t D σ H):PS X e t':=fun pins s σ H D I q=>h pins s σ H D I (w D σ H q)
theorem jr{X:Cx}{e:List Stmt}{t t':TS}(h:qY X e t)(w:∀D σ H,t' D σ H->t D σ H):qY X e t':=fun pins s σ H D I q=>h pins s σ H D I (w D σ H q)
def aa(i:Nat):bH:=fun δ M Q=>match δ[i]? with
 |some (some d)=>Q d M
 |_=>False
def dC(d:D):bH:=fun _ M Q=>Q d M
section
variable {X:Cx}{B:Bd}{a b c:Expr}{ta tb tc:bH}{pos:Pos}
theorem AM{i:Nat}{x:Str}{pos:Pos}(hN:X.N[i]?=some x)(hv:Ce X.env.scope x)(hd:(x==("__debug__":Str))=false:=by decide)(hcd:(x==("__classdict__":Str))=false:=by decide):DE X B (.Name x pos) (aa i):=by
 refine aU (C2 hN hv hd hcd) ?_
 rintro σ H Q ⟨δ,M,QQ,s,h,u⟩
 unfold aa at h
 split at h
 ·rename_i d e
  obtain ⟨v,h1,h2⟩:=s.rs.get i d e;exact ⟨v,h1,u d M h v H s.rh Frm.refl h2⟩
 ·exact h.elim
theorem vy{e:Expr}{v:V}{d:D}(h:PE X e (tC v))(r:∀H,Rp X.K H d v):DE X B e (dC d):=by
 refine aU h ?_
 rintro σ H Q ⟨δ,M,QQ,s,h,u⟩
 exact u d M h v H s.rh Frm.refl (r H)
theorem ae{i j pos}:DE X B (.Constant (.int i) j pos) (dC (.int i)):=vy A_ fun _=>rfl
theorem cJ{i j pos}:DE X B (.Constant (.bool i) j pos) (dC (.bl i)):=vy E9 fun _=>rfl
theorem fD{j pos}:DE X B (.Constant .none j pos) (dC .non):=vy AE fun _=>rfl
theorem bo{i j pos}:DE X B (.Constant (.str i) j pos) (dC (.str i)):=vy vp fun _=>rfl
abbrev fP:=D->D->Mem->DK->Prop
inductive liftR2(X:Cx)(r:fP)(x y:V)(H:Hp)(Q:VK):Prop
 |mk (d1 d2:D) (M:Mem) (QQ:DK) (rh:RepH X.K H M) (r1:Rp X.K H d1 x) (r2:Rp X.K H d2 y) (h:r d1 d2 M QQ) (u:Up X.K M H QQ Q):liftR2 X r x y H Q
def az(r:fP)(ta tb:bH):bH:=fun δ M Q=>ta δ M fun x M1=>tb δ M1 fun y M2=>r x y M2 Q
theorem j4{r:fP}{σ:St}{H:Hp}{Q:VK}(h:liftE X B (az r ta tb) σ H Q):Di (liftR2 X r) (liftE X B ta) (liftE X B tb) σ H Q:=by
 obtain ⟨δ,M,QQ,s,h,u⟩:=h;refine ⟨δ,M,_,s,h,fun x M1 h1 v1 H1 rh1 i1 r1=>?_⟩;refine ⟨δ,M1,_,s.go rh1 i1,h1,fun y M2 h2 v2 H2 rh2 i2 r2=>?_⟩;exact ⟨x,y,M2,QQ,rh2,r1.mf rh1 i2,r2,h2,u.go (i1.trans i2)⟩
theorem aP{op:Operator}{r:fP}(ho:d5 X (binaryOp op) (liftR2 X r))(ha:DE X B a ta)(hb:DE X B b tb):DE X B (.BinOp a op b pos) (az r ta tb):=aU (Ei ho ha hb) fun _ _ _ h=>j4 h
theorem fL{op:CmpOp}{r:fP}(ho:d5 X (compareOp op) (liftR2 X r))(ha:DE X B a ta)(hb:DE X B b tb)(hm:behindInMarks op b=false):DE X B (.Compare a [op] [b] pos) (az r ta tb):=aU (yJ ho ha hb hm) fun _ _ _ h=>j4 h
theorem aw{r:fP}(hr:IxR X (liftR2 X r))(ha:DE X B a ta)(hb:DE X B b tb)(hs:rW b):DE X B (.Subscript a b pos) (az r ta tb):=aU (Dy hr ha hb hs) fun _ _ _ h=>j4 h
def aE(t:bH):eg:=fun δ M Q=>t δ M fun d M'=>match d with
 |.bl k=>Q k M'
 |_=>False
theorem aG{op:CmpOp}{r:fP}(ho:d5 X (compareOp op) (liftR2 X r))(ha:DE X B a ta)(hb:DE X B b tb)(hm:behindInMarks op b=false):DT X B (.Compare a [op] [b] pos) (aE (az r ta tb)):=by
 refine m9 (xr ho ha hb hm) ?_
 rintro σ H Q ⟨δ,M,QQ,s,h,u⟩
 have h':liftE X B (az r ta tb) σ H (fun x H'=>∃k,x=.bl k/\Q k H'):=by
  refine ⟨δ,M,_,s,h,fun d M' q v H' rh i rp=>?_⟩;cases d with
  |bl k=>exact ⟨k,rp,u k M' q H' rh i⟩
  |_=>exact (show False from q).elim
 exact j4 h'
def Bx(M:Mem):D->Option Bool
 |.non=>some false
 |.bl b=>some b
 |.int i=>some (i != 0)
 |.str y=>if y.length<=sizeLine then some ((y.length:Int) != 0) else none
 |.tup xs=>some (!xs.isEmpty)
 |.lst xs=>some (!xs.isEmpty)
 |.ref a=>match M a with
  |some (.lst xs)=>some (!xs.isEmpty)
  |some (.dK xs)=>some (!xs.isEmpty)
  |_=>none
 |_=>none
def fi(t:bH):eg:=fun δ M Q=>t δ M fun d M'=>match Bx M' d with
 |some k=>Q k M'
 |none=>False
theorem eK{K:W.Frag}{H:Hp}{ds:List D}{vs:List V}(r:Rps K H ds vs):vs.isEmpty=ds.isEmpty:=by
 have:=r.length;cases ds<;>cases vs<;>simp_all
theorem Ar{K:W.Frag}{H:Hp}{M:Mem}{d:D}{v:V}{k:Bool}(rh:RepH K H M)(r:Rp K H d v)(e:Bx M d=some k):Ap K v H k:=by
 cases d with
 |non=>cases r;cases e;rfl
 |bl b=>cases r;cases e;rfl
 |int i=>cases r;cases e;rfl
 |str y=>
  cases r;simp only [Bx] at e
  split at e
  ·cases e;exact ⟨by assumption,rfl⟩
  ·cases e
 |ty n=>cases e
 |tup xs=>
  obtain ⟨p,vs,rfl,t,r⟩:=r;cases e;exact .inr (.inl ⟨vs,t.sq,by rw [eK r]⟩)
 |mt xs=>cases e
 |ml xs=>cases e
 |lst xs=>
  obtain ⟨p,vs,rfl,t,r⟩:=r;cases e;exact .inl ⟨vs,t.sq,by rw [eK r]⟩
 |ref a=>
  cases r;simp only [Bx] at e
  split at e
  ·rename_i xs q
   obtain ⟨vs,h1,h2⟩:=rh _ _ q;cases e;exact .inl ⟨vs,jZ h1,by rw [eK h2]⟩
  ·rename_i xs q
   obtain ⟨vs,h1,h2⟩:=rh _ _ q;cases e;refine .inr (.inr ⟨vs,h1,?_⟩);cases h2<;>rfl
  ·cases e
theorem cO{e:Expr}(h:DE X B e ta)(he:∀whole,isTrue e X.env whole=(do let v <- whole;standAt e.pos;holding [v] (truthy v)):=by intro _;rfl):DT X B e (fi ta):=by
 refine m9 (x9 h he) ?_
 rintro σ H Q ⟨δ,M,QQ,s,h,u⟩
 refine ⟨δ,M,_,s,h,fun d M' q v H' rh i rp=>?_⟩
 split at q
 ·rename_i k e
  exact ⟨k,Ar rh rp e,u k M' q H' rh i⟩
 ·exact q.elim
def oO(t:eg):eg:=fun δ M Q=>t δ M fun c M1=>Q (!c) M1
theorem jl{tA:eg}(ha:DT X B a tA):DT X B (.UnaryOp .Not a pos) (oO tA):=by
 refine m9 (A4 ha) ?_
 rintro σ H Q ⟨δ,M,QQ,s,h,u⟩
 exact ⟨δ,M,_,s,h,fun c M' q H' rh i=>u _ M' q H' rh i⟩
end
end L3
namespace L3
open PySem L2
section
variable {X:Cx}{B:Bd}{a b c:Expr}{ta tb tc:bH}{tA tB':eg}{rest:List Expr}{pos:Pos}
def DW(X:Cx)(B:Bd)(e:Expr)(T:eg):Prop:=PW X e (liftT X B T)
theorem ie{e:Expr}{T:eg}(h:DW X B e T):DT X B e T:=Em h
theorem qR{X:Cx}{e:Expr}{t t':TT}(h:PW X e t)(w:∀σ H Q,t' σ H Q->t σ H Q):PW X e t':=fun wh pins s σ H Q I q=>h wh pins s σ H Q I (w σ H Q q)
def DY(t u:eg):eg:=fun δ M Q=>t δ M fun c M1=>if c=true then u δ M1 Q else Q false M1
def u6(t u:eg):eg:=fun δ M Q=>t δ M fun c M1=>if c=true then Q true M1 else u δ M1 Q
theorem yO(ha:DT X B a tA):DW X B (.BoolOp .And [a] pos) tA:=zt ha
theorem fM(ha:DT X B a tA):DW X B (.BoolOp .Or [a] pos) tA:=BW ha
theorem A5(ha:DT X B a tA)(hb:DW X B (.BoolOp .And (b::rest) pos) tB'):DW X B (.BoolOp .And (a::b::rest) pos) (DY tA tB'):=by
 refine qR (Bq ha hb) ?_
 rintro σ H Q ⟨δ,M,QQ,s,h,u⟩
 refine ⟨δ,M,_,s,h,fun c M' q H' rh i=>?_⟩;cases c with
 |true=>rw [if_pos rfl] at q ⊢;exact ⟨δ,M',QQ,s.go rh i,q,u.go i⟩
 |false=>rw [if_neg Bool.false_ne_true] at q ⊢;exact u _ M' q H' rh i
theorem i8(ha:DT X B a tA)(hb:DW X B (.BoolOp .Or (b::rest) pos) tB'):DW X B (.BoolOp .Or (a::b::rest) pos) (u6 tA tB'):=by
 refine qR (E8 ha hb) ?_
 rintro σ H Q ⟨δ,M,QQ,s,h,u⟩
 refine ⟨δ,M,_,s,h,fun c M' q H' rh i=>?_⟩;cases c with
 |false=>rw [if_neg Bool.false_ne_true] at q ⊢;exact ⟨δ,M',QQ,s.go rh i,q,u.go i⟩
 |true=>rw [if_pos rfl] at q ⊢;exact u _ M' q H' rh i
def hG(ta tb:bH):bH:=fun δ M Q=>ta δ M fun x M1=>match x with
 |.bl true=>tb δ M1 Q
 |.bl false=>Q (.bl false) M1
 |_=>False
def zX(ta:bH):bH:=fun δ M Q=>ta δ M fun x M1=>match x with
 |.bl c=>Q (.bl (!c)) M1
 |_=>False
theorem gR{op}{t:bH}(h:DE X B a t):DE X B (.BoolOp op [a] pos) t:=BG h
theorem fN(ha:DE X B a ta)(hb:DE X B (.BoolOp .And (b::rest) pos) tb):DE X B (.BoolOp .And (a::b::rest) pos) (hG ta tb):=by
 refine aU (BO ha hb) ?_
 rintro σ H Q ⟨δ,M,QQ,s,h,u⟩
 refine ⟨δ,M,_,s,h,fun d M' q v H' rh i r=>?_⟩;cases d with
 |bl c=>
  cases c with
  |true=>exact ⟨true,r,by rw [if_pos rfl];exact ⟨δ,M',QQ,s.go rh i,q,u.go i⟩⟩
  |false=>exact ⟨false,r,by rw [if_neg Bool.false_ne_true];exact u _ M' q _ H' rh i rfl⟩
 |_=>exact (show False from q).elim
theorem B3(ha:DE X B a ta):DE X B (.UnaryOp .Not a pos) (zX ta):=by
 refine aU (Al ha) ?_
 rintro σ H Q ⟨δ,M,QQ,s,h,u⟩
 refine ⟨δ,M,_,s,h,fun d M' q v H' rh i r=>?_⟩;cases d with
 |bl c=>exact ⟨c,r,u _ M' q _ H' rh i rfl⟩
 |_=>exact (show False from q).elim
def Cc(t:eg)(ta tb:bH):bH:=fun δ M Q=>t δ M fun c M1=>if c=true then ta δ M1 Q else tb δ M1 Q
theorem eE{c:Expr}(hc:DT X B c tA)(ha:DE X B a ta)(hb:DE X B b tb):DE X B (.IfExp c a b pos) (Cc tA ta tb):=by
 refine aU (wY hc ha hb) ?_
 rintro σ H Q ⟨δ,M,QQ,s,h,u⟩
 refine ⟨δ,M,_,s,h,fun c M' q H' rh i=>?_⟩;cases c with
 |true=>rw [if_pos rfl] at q ⊢;exact ⟨δ,M',QQ,s.go rh i,q,u.go i⟩
 |false=>rw [if_neg Bool.false_ne_true] at q ⊢;exact ⟨δ,M',QQ,s.go rh i,q,u.go i⟩
variable {e:Expr}{es:List Expr}{te:bH}{t:fo}
def dNil:fo:=fun _ M Q=>Q [] M
def a9(ta:bH)(tr:fo):fo:=fun δ M Q=>ta δ M fun x M1=>tr δ M1 fun xs M2=>Q (x::xs) M2
theorem ac:DA X B [] dNil:=by
 refine rV uE ?_
 rintro σ H Q ⟨δ,M,QQ,s,h,u⟩
 exact u [] M h [] H s.rh Frm.refl .nil
theorem a8(ha:DE X B e te)(hr:DA X B es t)(hs:starEach (e::es) X.env=(false,eval e X.env)::starEach es X.env:=by rfl):DA X B (e::es) (a9 te t):=by
 refine rV (qP ha hr hs) ?_
 rintro σ H Q ⟨δ,M,QQ,s,h,u⟩
 refine ⟨δ,M,_,s,h,fun x M1 h1 v1 H1 rh1 i1 r1=>?_⟩;refine ⟨δ,M1,_,s.go rh1 i1,h1,fun xs M2 h2 v2 H2 rh2 i2 r2=>?_⟩;exact u _ M2 h2 _ H2 rh2 (i1.trans i2) (.cons (r1.mf rh1 i2) r2)
def bV(t:fo):bH:=fun δ M Q=>t δ M fun xs M1=>xs.length<=sizeLine/\Q (.tup xs) M1
def mC(t:fo):bH:=fun δ M Q=>t δ M fun xs M1=>xs.length<=sizeLine/\∀p,M1 p=none->Q (.ref p) (M1.upd p (.lst xs))
theorem bp{x1}(h:DA X B es t):DE X B (.Tuple es x1 pos) (bV t):=by
 refine aU (BA h) ?_
 rintro σ H Q ⟨δ,M,QQ,s,h,u⟩
 refine ⟨δ,M,_,s,h,fun xs M1 h1 v1 H1 rh1 i1 r1=>⟨by rw [<- r1.length];exact h1.1,fun p hp=>?_⟩⟩
 exact u _ M1 h1.2 _ _ (rh1.new hp) (i1.trans (Frm.new hp)) ⟨p,v1,rfl,upd_same,r1.mono (Imm.new hp)⟩
theorem eD(h:DA X B es t):DE X B (.List es pos) (mC t):=by
 refine aU (Bw h) ?_
 rintro σ H Q ⟨δ,M,QQ,s,h,u⟩
 refine ⟨δ,M,_,s,h,fun xs M1 h1 v1 H1 rh1 i1 r1=>⟨by rw [<- r1.length];exact h1.1,fun p hp=>?_⟩⟩
 exact u _ _ (h1.2 p (rh1.fresh hp)) _ _ (rh1.put (by rw [hp];trivial) ⟨v1,upd_same,r1.mono (Imm.new hp)⟩) (i1.trans (Frm.put (.inl hp))) rfl
theorem Inv.freeze{pins:List (Addr×Obj)}{σ:L2.St}{H:Hp}{s:Shared}{p:Addr}{vs:List V}(I:Inv X pins σ H s)(h:H p=some (.lst vs)):∃o,Inv X pins σ (upd H p (.frz o (.lst vs))) s:=by
 obtain ⟨its,n,r,e,z⟩:=I.lst h;have ne:∀{b:Addr} {u:Option HO},H b=u->u≠some (.lst vs)->b≠p:=fun {b u} q hu z=>by subst z;rw [h] at q;exact hu q.symm
 refine ⟨{ cls:=.type "list",data:=.seq its.toArray n },I.ok,I.os,I.bare,⟨I.base.keep,I.base.slot,fun b o q hn hx=>?_,I.base.there,fun b xs q=>?_,fun b o u q=>?_,fun b ps q=>?_⟩,I.loc,I.cell,?_,fun x c q=>?_,fun pp hp=>?_,fun b o q=>?_,I.len⟩
 ·have q':=I.base.free b o q hn hx
  rw [upd_ne (ne q' (by simp))];exact q'
 ·have q':=I.base.tups b xs q
  rw [upd_ne (ne q' (by simp))];exact q'
 ·have q':=I.base.frzs b o u q
  rw [upd_ne (ne q' (by simp))];exact q'
 ·obtain ⟨more,q'⟩:=I.base.tbls b ps q
  exact ⟨more,by rw [upd_ne (ne q' (by simp))];exact q'⟩
 ·rw [upd_ne (ne I.free (by simp))];exact I.free
 ·have q':=I.freeC x c q
  rw [upd_ne (ne q' (by simp))];exact q'
 ·obtain ⟨h1,h2,h3⟩:=I.pin pp hp
  exact ⟨h1,by rw [upd_ne (ne h2 (by simp))];exact h2,h3⟩
 ·by_cases hb:b=p
  ·subst hb
   rw [upd_same] at q;cases q;refine ⟨e,?_⟩;exact ⟨z,its,n,r,e⟩
  ·rw [upd_ne hb] at q
   refine (I.hok b o q).stay (fun _ _ _ y=>y) (fun c y=>?_) fun c xs y=>?_
   ·rw [upd_ne (ne y (by simp))];exact y
   ·rw [upd_ne (ne y (by simp))];exact y
def frz(d:D)(M:Mem)(Q:DK):Prop:=match d with
 |.ref a=>match M a with
  |some (.lst xs)=>Q (.lst xs) (M.del a)
  |_=>Q d M
 |_=>Q d M
def ax(t:bH):bH:=fun δ M Q=>t δ M fun d M'=>frz d M' Q
theorem RepH.freeze{K:W.Frag}{H:Hp}{M:Mem}{p:Addr}{vs:List V}{o:Obj}(r:RepH K H M)(h:H p=some (.lst vs)):RepH K (upd H p (.frz o (.lst vs))) (M.del p):=fun b u e=>by
 unfold Mem.del at e
 split at e
 ·cases e
 ·rename_i hb
  exact (r b u e).keep (Imm.upd (by rw [h];trivial)) (upd_ne hb)
theorem am(h:DE X B e te):DE X B e (ax te):=by
 intro pins s σ H Q I hq;obtain ⟨δ,M,QQ,sr,hT,u⟩:=hq;refine thn (h pins s σ H (fun v H'=>∃d M',RepH X.K H' M'/\Frm M H M' H'/\Rp X.K H' d v/\frz d M' QQ) I ⟨δ,M,_,sr,hT,fun d M' q v H' rh i r=>⟨d,M',rh,i,r,q⟩⟩) ?_
 rintro w s' ⟨v,H',I',rv,d,M',rh,i,r,q⟩
 unfold frz at q
 split at q
 ·rename_i a
  split at q
  ·rename_i xs e
   obtain ⟨vs,h1,h2⟩:=rh _ _ e;obtain ⟨o,I2⟩:=Inv.freeze I' h1;refine ⟨v,_,I2,rv,u _ _ q v _ (rh.freeze h1) (i.trans (Frm.del ⟨_,e⟩)) ?_⟩;exact ⟨a,vs,r,⟨o,upd_same⟩,h2.mono (Imm.upd (by rw [h1];trivial))⟩
  ·exact ⟨v,H',I',rv,u _ _ q v H' rh i r⟩
 ·exact ⟨v,H',I',rv,u _ _ q v H' rh i r⟩
end
end L3
namespace L3
open PySem L2
def seqL(M:Mem):D->Option (List D)
 |.lst xs=>some xs
 |.ref a=>match M a with
  |some (.lst xs)=>some xs
  |_=>none
 |_=>none
def b_(M:Mem):D->Option (List D)
 |.tup xs=>some xs
 |.lst xs=>some xs
 |.mt xs=>some xs
 |.ml xs=>some xs
 |.ref a=>match M a with
  |some (.lst xs)=>some xs
  |_=>none
 |_=>none
section
variable {X:Cx}{B:Bd}{K:W.Frag}{H:Hp}{M:Mem}{d:D}{v:V}{xs:List D}
theorem cS(rh:RepH K H M)(r:Rp K H d v)(e:seqL M d=some xs):∃p vs,v=.ref p/\Rd H p (.lst vs)/\Rps K H xs vs:=by
 cases d with
 |lst ys=>
  cases e;obtain ⟨p,vs,rfl,⟨o,h⟩,r⟩:=r;exact ⟨p,vs,rfl,.inr ⟨o,h⟩,r⟩
 |ref a=>
  simp only [seqL] at e
  split at e
  ·rename_i ys q
   cases e;obtain ⟨vs,h1,h2⟩:=rh _ _ q;exact ⟨a,vs,r,.inl h1,h2⟩
  ·cases e
 |_=>cases e
theorem gu(rh:RepH K H M)(r:Rp K H d v)(e:b_ M d=some xs):∃p vs,v=.ref p/\(SqL K H p vs\/gE K H p vs)/\Rps K H xs vs:=by
 cases d with
 |tup ys=>
  cases e;obtain ⟨p,vs,rfl,h,r⟩:=r;exact ⟨p,vs,rfl,.inr h.sq,r⟩
 |lst ys=>
  cases e;obtain ⟨p,vs,rfl,h,r⟩:=r;exact ⟨p,vs,rfl,.inl h.sq,r⟩
 |mt ys=>
  cases e;obtain ⟨p,vs,rfl,h,r⟩:=r;exact ⟨p,vs,rfl,.inr h.sq,r⟩
 |ml ys=>
  cases e;obtain ⟨p,vs,rfl,h,r⟩:=r;exact ⟨p,vs,rfl,.inl h.sq,r⟩
 |ref a=>
  simp only [b_] at e
  split at e
  ·rename_i ys q
   cases e;obtain ⟨vs,h1,h2⟩:=rh _ _ q;exact ⟨a,vs,r,.inl (jZ h1),h2⟩
  ·cases e
 |_=>cases e
theorem yC:d5 X (binaryOp .Add) (fun x y H Q=>∃l b xs zs,x=.ref l/\y=.ref b/\Rd H l (.lst xs)/\Rd H b (.lst zs)/\xs.length+zs.length<=sizeLine/\∀p,H p=none->Q (.ref p) (upd H p (.lst (xs++zs)))):=by
 intro pins s σ H x y v u Q I rx ry h;obtain ⟨l,b,xs,zs,rfl,rfl,hH,hB,hz,q⟩:=h;cases rx;cases ry;obtain ⟨z,its,n,r,e⟩:=hH.ok I.hok;obtain ⟨z2,its2,n2,r2,e2⟩:=hB.ok I.hok;have hl:=r.length;have hl2:=r2.length;refine PySem.P.add_list e e2 ?_ (by rw [List.size_toArray,List.size_toArray];lia)
 have ea:its.toArray++its2.toArray=(its++its2).toArray:=by simp
 rw [ea];exact ⟨.ref _,_,I.lnew (t':=s.toks) (r.append r2) (by rw [List.length_append];lia),rfl,q _ I.fresh⟩
def cA:fP:=fun x y M Q=>match x,y with
 |.int i,.int j=>Q (.int (i+j)) M
 |.str a,.str b=>a.length+b.length<=sizeLine/\Q (.str (a++b)) M
 |.tup xs,.tup ys=>xs.length+ys.length<=sizeLine/\Q (.tup (xs++ys)) M
 |x,y=>match seqL M x,seqL M y with
  |some xs,some ys=>xs.length+ys.length<=sizeLine/\∀p,M p=none->Q (.ref p) (M.upd p (.lst (xs++ys)))
  |_,_=>False
theorem bh:d5 X (binaryOp .Add) (liftR2 X cA):=by
 intro pins s σ H x y v u Q I rx ry h;obtain ⟨d1,d2,M,QQ,rh,r1,r2,h,up⟩:=h;unfold cA at h
 split at h
 ·cases r1;cases r2
  exact BM pins s σ H _ _ v u Q I rx ry ⟨_,_,rfl,rfl,up _ M h _ H rh Frm.refl rfl⟩
 ·cases r1;cases r2
  exact qi pins s σ H _ _ v u Q I rx ry ⟨_,_,rfl,rfl,h.1,up _ M h.2 _ H rh Frm.refl rfl⟩
 ·obtain ⟨p,vs,rfl,t1,r1⟩:=r1
  obtain ⟨p',vs',rfl,t2,r2⟩:=r2;have l1:=r1.length;have l2:=r2.length;have r12:=r1.append r2
  by_cases hx:vs=[]
  ·subst hx
   have hu:=up _ M h.2 (.ref p') H rh Frm.refl ⟨p',vs',rfl,t2,r12⟩;exact wf pins s σ H _ _ v u Q I rx ry ⟨p,p',vs',rfl,rfl,t1.sq,t2.sq,hu⟩
  ·refine yP pins s σ H _ _ v u Q I rx ry ⟨p,p',vs,vs',rfl,rfl,t1.sq,t2.sq,hx,by lia,fun e=>?_,fun _ q hq=>?_⟩
   ·subst e
    rw [List.append_nil] at r12;exact up _ M h.2 (.ref p) H rh Frm.refl ⟨p,vs,rfl,t1,r12⟩
   ·exact up _ M h.2 _ _ (rh.new hq) (Frm.new hq) ⟨q,_,rfl,upd_same,r12.mono (Imm.new hq)⟩
 ·split at h
  ·rename_i xs ys e1 e2
   obtain ⟨p,vs,rfl,t1,r1⟩:=cS rh r1 e1;obtain ⟨p',vs',rfl,t2,r2⟩:=cS rh r2 e2;have l1:=r1.length;have l2:=r2.length;refine yC pins s σ H _ _ v u Q I rx ry ⟨p,p',vs,vs',rfl,rfl,t1,t2,by lia,fun q hq=>?_⟩
   exact up _ _ (h.2 q (rh.fresh hq)) _ _ (rh.put (by rw [hq];trivial) ⟨_,upd_same,(r1.append r2).mono (Imm.new hq)⟩) (Frm.put (.inl hq)) rfl
  ·exact h.elim
def oI(C:Int->Int->Prop)(g:Int->Int->D):fP:=fun x y M Q=>match x,y with
 |.int i,.int j=>C i j/\Q (g i j) M
 |_,_=>False
theorem B8{f:Value->Value->Sem Value}{C:Int->Int->Prop}{g:Int->Int->V}{g':Int->Int->D}(h:d5 X f (rI C g))(e:∀i j K H,Rp K H (g' i j) (g i j)):d5 X f (liftR2 X (oI C g')):=by
 intro pins s σ H x y v u Q I rx ry hq;obtain ⟨d1,d2,M,QQ,rh,r1,r2,hq,up⟩:=hq;unfold oI at hq
 split at hq
 ·cases r1;cases r2
  exact h pins s σ H _ _ v u Q I rx ry ⟨_,_,rfl,rfl,hq.1,up _ M hq.2 _ H rh Frm.refl (e _ _ _ _)⟩
 ·exact hq.elim
def xT(g:Int->Int->D):fP:=fun x y M Q=>match x,y with
 |.int i,.int j=>Q (g i j) M
 |_,_=>False
theorem rZ{f:Value->Value->Sem Value}{g:Int->Int->V}{g':Int->Int->D}(h:d5 X f (zF g))(e:∀i j K H,Rp K H (g' i j) (g i j)):d5 X f (liftR2 X (xT g')):=by
 intro pins s σ H x y v u Q I rx ry hq;obtain ⟨d1,d2,M,QQ,rh,r1,r2,hq,up⟩:=hq;unfold xT at hq
 split at hq
 ·cases r1;cases r2
  exact h pins s σ H _ _ v u Q I rx ry ⟨_,_,rfl,rfl,up _ M hq _ H rh Frm.refl (e _ _ _ _)⟩
 ·exact hq.elim
abbrev Bi:fP:=xT fun i j=>.int (i-j)
theorem sm:d5 X (binaryOp .Sub) (liftR2 X Bi):=rZ BB fun _ _ _ _=>rfl
abbrev gT:fP:=oI (fun _ j=>0<j) fun i j=>.int (i % j)
theorem cu:d5 X (binaryOp .Mod) (liftR2 X gT):=B8 C5 fun _ _ _ _=>rfl
def zQ(_ j:Int):Prop:=0<j/\j<2 ^ 200
theorem um:d5 X (binaryOp .FloorDiv) (rI zQ fun i j=>.int (i / j)):=by
 intro pins s σ H x y v u Q I rx ry h;obtain ⟨i,j,rfl,rfl,hc,q⟩:=h;obtain ⟨h0,h1⟩:=hc;have hj:((j.toNat:Nat):Int)=j:=by lia
 refine ui (n:=j.toNat) ?_ (by lia) pins s σ H _ _ v u Q I rx ry ⟨i,j,rfl,rfl,hj.symm,q⟩
 have hlt:j.toNat<2 ^ 200:=by
  have:((j.toNat:Nat):Int)<((2 ^ 200:Nat):Int):=by rw [hj,Int.natCast_pow];exact h1
  exact Int.ofNat_lt.mp this
 have:=(Nat.log2_lt (n:=j.toNat) (k:=200) (by lia)).mpr hlt
 lia
abbrev on:fP:=oI zQ fun i j=>.int (i / j)
theorem fZ:d5 X (binaryOp .FloorDiv) (liftR2 X on):=B8 um fun _ _ _ _=>rfl
abbrev CF:fP:=oI Dt fun i j=>.int (i ^ j.toNat)
theorem xM:d5 X (binaryOp .Pow) (liftR2 X CF):=B8 BY fun _ _ _ _=>rfl
abbrev Cj:fP:=xT fun i j=>.bl (decide (i<j))
theorem pR:d5 X (compareOp .Lt) (liftR2 X Cj):=rZ CP fun _ _ _ _=>rfl
abbrev BK:fP:=xT fun i j=>.bl (decide (j<i))
theorem mr:d5 X (compareOp .Gt) (liftR2 X BK):=rZ Dv fun _ _ _ _=>rfl
abbrev oGe:fP:=xT fun i j=>.bl (decide (j<=i))
theorem v8:d5 X (compareOp .GtE) (liftR2 X oGe):=rZ Cz fun _ _ _ _=>rfl
theorem uh{c:Nat}:∀(k:Nat) (acc:Array Nat),(List.replicate k #[c]).foldl (·++·) acc=acc++Array.replicate k c
 |0,acc=>by simp
 |k+1,acc=>by
  rw [List.replicate_succ,List.foldl_cons,uh k (acc++#[c])];apply Array.ext';simp [List.replicate_succ]
theorem vz:d5 X (binaryOp .Mult) (fun x y H Q=>∃c k,x=.str ⟨#[c]⟩/\y=.int k/\1<=k/\k<=1000/\Q (.str ⟨Array.replicate k.toNat c⟩) H):=by
 intro pins s σ H x y v u Q I rx ry h;obtain ⟨c,k,rfl,rfl,h1,h2,q⟩:=h;obtain ⟨t,rfl⟩:=rx;obtain ⟨t',rfl⟩:=ry;have hlen:(⟨#[c]⟩:Str).length=1:=rfl;have hsl:sizeLine=16777216:=rfl;refine PySem.P.mul_str ?_ ?_ ?_ ?_
 ·rw [decide_eq_false (by lia),decide_eq_false (by lia)];rfl
 ·intro _ _ hc
  rw [hlen] at hc;have:(1:Int)<=(2 ^ 63-1) / k:=Int.le_ediv_of_mul_le (by lia) (by lia)
  lia
 ·intro _ _
  rw [hlen];unfold PySem.Builtin.Str.tooLong;exact decide_eq_false (by lia)
 ·rw [if_neg (by lia)]
  by_cases hk:k=1
  ·rw [if_pos (by rw [hk];rfl)]
   subst hk;exact ⟨.str ⟨#[c]⟩,H,I,⟨_,rfl⟩,q⟩
  ·rw [if_neg (by simp [hlen,hk])]
   have he:(List.replicate k.toNat #[c]).foldl (·++·) #[]=Array.replicate k.toNat c:=by rw [uh];simp
   refine ⟨?_,.str ⟨(List.replicate k.toNat #[c]).foldl (·++·) #[]⟩,H,I.tok _,⟨_,rfl⟩,by rw [he];exact q⟩
   show ((List.replicate k.toNat #[c]).foldl (·++·) #[]).size<=sizeLine;rw [he];simp;lia
def ii:fP:=fun x y M Q=>match x,y with
 |.int i,.int j=>CMul i j/\Q (.int (i*j)) M
 |.str z,.int k=>match z.cps.toList with
  |[c]=>1<=k/\k<=1000/\Q (.str ⟨Array.replicate k.toNat c⟩) M
  |_=>False
 |.tup xs,.int k=>xs≠[]/\0<=k/\k<=1000/\xs.length<=1000/\Q (.tup (List.replicate k.toNat xs).flatten) M
 |_,_=>False
theorem Rps.rep{ds:List D}{vs:List V}(h:Rps K H ds vs):∀k:Nat,Rps K H (List.replicate k ds).flatten (List.replicate k vs).flatten
 |0=>rfl
 |k+1=>by
  rw [List.replicate_succ,List.replicate_succ,List.flatten_cons,List.flatten_cons];exact h.append (Rps.rep h k)
theorem cH:d5 X (binaryOp .Mult) (liftR2 X ii):=by
 intro pins s σ H x y v u Q I rx ry h;obtain ⟨d1,d2,M,QQ,rh,r1,r2,h,up⟩:=h;cases d1 with
 |int i=>
  cases d2 with
  |int j=>
   cases r1;cases r2;exact AL pins s σ H _ _ v u Q I rx ry ⟨_,_,rfl,rfl,h.1,up _ M h.2 _ H rh Frm.refl rfl⟩
  |_=>exact (show False from h).elim
 |str z=>
  cases d2 with
  |int k=>
   cases r1;cases r2;simp only [ii] at h
   split at h
   ·rename_i c e
    have ez:z=⟨#[c]⟩:=by
     obtain ⟨⟨l⟩⟩:=z;have e':l=[c]:=e;rw [e']
    subst ez;exact vz pins s σ H _ _ v u Q I rx ry ⟨_,_,rfl,rfl,h.1,h.2.1,up _ M h.2.2 _ H rh Frm.refl rfl⟩
   ·exact h.elim
  |_=>exact (show False from h).elim
 |tup xs=>
  cases d2 with
  |int k=>
   obtain ⟨p,vs,rfl,t1,r1⟩:=r1;cases r2;obtain ⟨h1,h2,h3,h4,h5⟩:=h;have l1:=r1.length;obtain ⟨t,rfl⟩:=ry;cases rx;obtain ⟨its,r,pt,_⟩:=I.tuple t1.sq;have hl:=r.length;refine sZ pt (fun z=>h1 ?_) h2 h3 (by lia) (fun e=>?_) fun e=>?_
   ·have hz:its.length=0:=congrArg List.length z
    exact List.eq_nil_of_length_eq_zero (by lia)
   ·subst e
    refine ⟨.ref p,H,I,rfl,up _ M h5 _ H rh Frm.refl ⟨p,vs,rfl,t1,?_⟩⟩;simpa using r1
   ·have hf:H s.heap.objs.size=none:=I.hok.fresh (Nat.le_refl _)
    have hz:(List.replicate k.toNat vs).flatten.length<=sizeLine:=by
     rw [yh];have h1:k.toNat*vs.length<=1000*1000:=Nat.mul_le_mul (by lia) (by lia)
     exact Nat.le_trans h1 (by decide)
    have i2:Imm H (upd H s.heap.objs.size (.tup (List.replicate k.toNat vs).flatten)):=Imm.new hf;exact ⟨.ref s.heap.objs.size,_,I.laid (t':=s.toks) (o:=.tup (List.replicate k.toNat vs).flatten) (fun b ob z=>Heap.get?_push_of_some _ z) (Nat.le_refl _) ⟨hz,_,r.rep k.toNat,⟨_,Heap.get?_push_size _ rfl,⟨rfl,_,rfl⟩,rfl⟩⟩,rfl,
     up _ M h5 _ _ (rh.new hf) (Frm.new hf) ⟨_,_,rfl,upd_same,(r1.rep _).mono i2⟩⟩
  |_=>exact (show False from h).elim
 |_=>exact (show False from h).elim
def vx:D->Bool
 |.non=>true
 |_=>false
def ue:fP:=fun x y M Q=>match y with
 |.non=>Q (.bl (vx x)) M
 |_=>False
def uD:fP:=fun x y M Q=>match y with
 |.non=>Q (.bl (!vx x)) M
 |_=>False
theorem uu(r:Rp K H d v):decide (v=V.non)=vx d:=by
 cases d with
 |non=>cases r;rfl
 |tup xs=>obtain ⟨p,vs,rfl,_⟩:=r;rfl
 |lst xs=>obtain ⟨p,vs,rfl,_⟩:=r;rfl
 |mt xs=>obtain ⟨p,vs,rfl,_⟩:=r;rfl
 |ml xs=>obtain ⟨p,vs,rfl,_⟩:=r;rfl
 |_=>cases r;rfl
theorem kP:d5 X (compareOp .Is) (liftR2 X ue):=by
 intro pins s σ H x y v u Q I rx ry h;obtain ⟨d1,d2,M,QQ,rh,r1,r2,h,up⟩:=h;unfold ue at h
 split at h
 ·cases r2
  exact AY pins s σ H _ _ v u Q I rx ry ⟨rfl,by rw [uu r1];exact up _ M h _ H rh Frm.refl rfl⟩
 ·exact h.elim
theorem uR:d5 X (compareOp .IsNot) (liftR2 X uD):=by
 intro pins s σ H x y v u Q I rx ry h;obtain ⟨d1,d2,M,QQ,rh,r1,r2,h,up⟩:=h;unfold uD at h
 split at h
 ·cases r2
  refine yS pins s σ H _ _ v u Q I rx ry ⟨rfl,up _ M h _ H rh Frm.refl ?_⟩;show _=V.bl _;rw [uu r1]
 ·exact h.elim
end
end L3
namespace L3
open PySem L2
section
variable {κ:Type}[DecidableEq κ]
def gn(kvs:List (κ×D))(k:κ):Option D:=(kvs.find? fun kv=>decide (kv.1=k)).map (·.2)
def di(kvs:List (κ×D))(k:κ)(v:D):List (κ×D):=
 if (kvs.any fun kv=>decide (kv.1=k))=true then kvs.map (fun kv=>if kv.1=k then (kv.1,v) else kv) else kvs++[(k,v)]
variable {K:W.Frag}{H:Hp}
theorem Rkv.val{kvs:List (κ×D)}{ws:List (κ×V)}(h:Rkv K H kvs ws)(k:κ):(gn kvs k=none/\fj ws k=none)\/∃d v,gn kvs k=some d/\fj ws k=some v/\Rp K H d v:=by
 induction h with
 |nil=>exact .inl ⟨rfl,rfl⟩
 |@cons p q ps qs r t ih=>
  obtain ⟨k1,d⟩:=p;obtain ⟨k2,v⟩:=q;obtain ⟨e,r⟩:=r;dsimp only at e r;subst e
  by_cases hk:k1=k
  ·exact .inr ⟨d,v,by simp [gn,hk],by simp [fj,hk],r⟩
  ·simpa [gn,fj,hk] using ih
theorem Rkv.any{kvs:List (κ×D)}{ws:List (κ×V)}(h:Rkv K H kvs ws)(k:κ):(kvs.any fun kv=>decide (kv.1=k))=(ws.any fun kv=>decide (kv.1=k)):=by
 induction h with
 |nil=>rfl
 |cons r t ih=>rw [List.any_cons,List.any_cons,ih,r.1]
theorem Rkv.put{kvs:List (κ×D)}{ws:List (κ×V)}(h:Rkv K H kvs ws)(k:κ){d:D}{v:V}(r:Rp K H d v):Rkv K H (di kvs k d) (cF ws k v):=by
 unfold di cF;rw [h.any k]
 split
 ·rename_i q;clear q
  induction h with
  |nil=>exact .nil
  |@cons p q ps qs rr t ih=>
   obtain ⟨k1,d'⟩:=p;obtain ⟨k2,v'⟩:=q;obtain ⟨e,r'⟩:=rr;dsimp only at e r';subst e;rw [List.map_cons,List.map_cons];refine .cons ?_ ih
   by_cases hk:k1=k
   ·rw [if_pos hk,if_pos hk];exact ⟨rfl,r⟩
   ·rw [if_neg hk,if_neg hk];exact ⟨rfl,r'⟩
 ·rename_i q;clear q
  induction h with
  |nil=>exact .cons ⟨rfl,r⟩ .nil
  |cons rr t ih=>exact .cons rr ih
theorem Rkv.length{kvs:List (κ×D)}{ws:List (κ×V)}(h:Rkv K H kvs ws):kvs.length=ws.length:=Paired.length h
end
def db:D->Option au
 |.int i=>some (.inl i)
 |.str x=>some (.inr x)
 |_=>none
def dG:List D->Option (List au)
 |[]=>some []
 |d::ds=>match db d,dG ds with
  |some k,some ks=>some (k::ks)
  |_,_=>none
def kT:D->Option (List au)
 |.tup xs=>dG xs
 |_=>none
section
variable {X:Cx}{K:W.Frag}{H:Hp}{M:Mem}
theorem kR{d:D}{v:V}{k:au}(r:Rp K H d v)(e:db d=some k):v=kV k:=by
 cases d with
 |int i=>cases e;exact r
 |str x=>cases e;exact r
 |_=>cases e
theorem ju:∀{ds:List D} {vs:List V} {ks:List au},Rps K H ds vs->dG ds=some ks->vs=ks.map kV
 |[],vs,ks,r,e=>by cases e;exact r
 |d::ds,vs,ks,r,e=>by
  obtain ⟨v,r',rfl,a,b⟩:=r;simp only [dG] at e
  split at e
  ·rename_i k ks' e1 e2
   cases e;rw [kR a e1,ju b e2];rfl
  ·cases e
def kb(M:Mem)(a:Addr)(y:D):Option (Option D):=match M a with
 |some (.dK kvs)=>match db y with
  |some k=>some (gn kvs k)
  |none=>none
 |some (.dT kvs)=>match kT y with
  |some k=>some (gn kvs k)
  |none=>none
 |_=>none
theorem jL{d:D}{v:V}{ks:List au}(r:Rp K H d v)(e:kT d=some ks):∃b,v=.ref b/\H b=some (.tup (ks.map kV)):=by
 cases d with
 |tup xs=>
  obtain ⟨p,vs,rfl,t,r⟩:=r;exact ⟨p,rfl,by rw [<- ju r e];exact t⟩
 |_=>cases e
theorem dL{a:Addr}{y:D}{v:V}{o:Option D}(rh:RepH K H M)(r:Rp K H y v)(e:kb M a y=some o):
  (o=none/\DGet H a v none)\/∃d w,o=some d/\DGet H a v (some w)/\Rp K H d w:=by
 unfold kb at e
 split at e
 ·rename_i kvs hM
  obtain ⟨ws,h1,h2⟩:=rh _ _ hM
  split at e
  ·rename_i k ek
   cases e;have ev:=kR r ek;subst ev;rcases h2.val k with ⟨e1,e2⟩|⟨d,w,e1,e2,r'⟩
   ·exact .inl ⟨e1,by rw [<- e2];exact xc h1⟩
   ·exact .inr ⟨d,w,e1,by rw [<- e2];exact xc h1,r'⟩
  ·cases e
 ·rename_i kvs hM
  obtain ⟨ws,h1,h2⟩:=rh _ _ hM
  split at e
  ·rename_i k ek
   cases e;obtain ⟨b,rfl,hb⟩:=jL r ek;rcases h2.val k with ⟨e1,e2⟩|⟨d,w,e1,e2,r'⟩
   ·exact .inl ⟨e1,by rw [<- e2];exact DGet.t h1 hb⟩
   ·exact .inr ⟨d,w,e1,by rw [<- e2];exact DGet.t h1 hb,r'⟩
  ·cases e
 ·cases e
end
end L3
namespace HT
open PySem PyProof.Rows
section
variable {prog:Program}{w:World}{A:Around}{E:Value->Shared->Prop}{s:Shared}
theorem fh{t sl:Addr}{items:Array Value}{vl vu:Value}{lo hi:Option Int}{Q:Value->Shared->Prop}(ht:IsTup s.heap t items)(hs:s.heap.IsSliceOf sl vl vu .none)(pl:IsPart vl lo)(pu:IsPart vu hi)
  (hw:sIx items.size 0 lo=0/\sIx items.size items.size hi=items.size) (h:Q (.ref t) s):wpAny (model prog w) A (getItem (.ref t) (.ref sl)) Q E s:=by
 obtain ⟨os,hos,hcs,hds⟩:=id hs;have hTs:s.TypeIs (.ref sl) "slice":=⟨os,hos,hcs⟩;unfold getItem
 try with_reducible refine wpAny_holding ?_
 first|refine wpAny_bind (wpAny_pure ?_)|skip
 refine wpAny_bind (wpAny_sequenceKey ht.typeIs (by decide) ?_)
 refine wpAny_bind (wpAny_callSpecial?_slot (name:=Str.ofString "__getitem__") ht.typeIs PyProof.Rows.slot_tuple_getitem
  (wpAny_call_entry PyProof.Rows.slot_tuple_getitem ht.typeIs entry_tuple_getitem ?_ (args_tuple_getitem _ _)))
 show wpAny _ _ (Builtin.Tuple.tupleItemsOf (.ref t) >>= _) _ _ s;refine wpAny_bind (tupleItemsOf_ ht ?_);refine wpAny_bind (wpAny_typeOf hTs ?_);rw [if_pos (by decide)]
 refine wpAny_bind (dy hs pl pu ?_);have hyes:((((sIx items.size 0 lo:Nat):Int)==0&&(1:Int)==1&&(sIx items.size items.size hi-sIx items.size 0 lo)==items.size)=true):=by
  rw [hw.1,hw.2];simp
 show wpAny _ _ (if (((sIx items.size 0 lo:Nat):Int)==0&&(1:Int)==1&&(sIx items.size items.size hi-sIx items.size 0 lo)==items.size)=true then _ else _) _ _ s
 rw [if_pos hyes];refine wpAny_bind (m:=Builtin.Tuple.tupleIsExact _) (wpAny_bind (wpAny_typeOf ht.typeIs (wpAny_pure ?_)));rw [if_pos (by decide)]
 first
  |exact wpAny_bind (wpAny_rule (wpAny_bind (wpAny_pure (wpAny_pure ⟨_,rfl,wpAny_pure h⟩))))
  |exact wpAny_bind (wpAny_rule (wpAny_pure ⟨_,rfl,wpAny_pure h⟩))
  |exact wpAny_bind (wpAny_rule (wpAny_bind (wpAny_pure ⟨_,rfl,wpAny_pure h⟩)))
  |trace_state
end
end HT
namespace L3
open PySem L2
section
variable {X:Cx}{B:Bd}{K:W.Frag}{H:Hp}{M:Mem}{a b c:Expr}{ta tb tc:bH}{pos:Pos}
def bz:fP:=fun x y M Q=>match b_ M x,y with
 |some xs,.int i=>match atI xs i with
  |some d=>Q d M
  |none=>False
 |some _,_=>False
 |none,y=>match x,y with
  |.str z,.int i=>z.length<=sizeLine/\match atI z.cps.toList i with
   |some c=>Q (.str ⟨#[c]⟩) M
   |none=>False
  |.ref a,y=>match kb M a y with
   |some (some d)=>Q d M
   |_=>False
  |_,_=>False
theorem Rps.atI{ds:List D}{vs:List V}{i:Int}{d:D}(r:Rps K H ds vs)(e:atI ds i=some d):∃v,L2.atI vs i=some v/\Rp K H d v:=by
 unfold L2.atI at e ⊢;rw [<- r.length];cases q:xj ds.length i with
 |none=>rw [q] at e;cases e
 |some j=>
  rw [q] at e;exact r.get (i:=j) e
theorem xW(hu:X.A.units+1<cLine):IxR X (fun x y H Q=>∃a v,x=.ref a/\DGet H a y (some v)/\Q v H):=by
 intro value slice pins s σ H x y v u Q I rx ry h hs;obtain ⟨a,w,rfl,g,q⟩:=h;cases rx;exact PyProof.Rows.tail_any (o8 I g) PySem.F.slot_dict_getitem.lookup (tZ hu I g ry fun w' s3 I3 rw'=>⟨w,H,I3,rw',q⟩) hs
theorem aj(hu:X.A.units+1<cLine):IxR X (liftR2 X bz):=by
 intro value slice pins s σ H x y v u Q I rx ry h hs;obtain ⟨d1,d2,M,QQ,rh,r1,r2,h,up⟩:=h;unfold bz at h
 split at h
 ·rename_i xs i e
  split at h
  ·rename_i d ed
   cases r2;obtain ⟨p,vs,rfl,hq,r⟩:=gu rh r1 e;obtain ⟨w,ew,rw'⟩:=r.atI ed;refine BL value slice pins s σ H _ _ v u Q I rx ry ?_ hs;have hu':=up _ M h _ H rh Frm.refl rw';rcases hq with hq|hq
   ·exact .inl ⟨p,vs,i,w,rfl,rfl,hq,ew,hu'⟩
   ·exact .inr (.inl ⟨p,vs,i,w,rfl,rfl,hq,ew,hu'⟩)
  ·exact h.elim
 ·exact h.elim
 ·split at h
  ·obtain ⟨hz,h⟩:=h
   split at h
   ·rename_i ch ec
    cases r1;cases r2;exact wn value slice pins s σ H _ _ v u Q I rx ry ⟨_,_,ch,rfl,rfl,hz,ec,up _ M h _ H rh Frm.refl rfl⟩ hs
   ·exact h.elim
  ·split at h
   ·rename_i d ed
    cases r1;rcases dL rh r2 ed with ⟨z,_⟩|⟨d',w,z,g,rw'⟩
    ·cases z
    ·cases z
     exact xW hu value slice pins s σ H _ _ v u Q I rx ry ⟨_,w,rfl,g,up _ M h _ H rh Frm.refl rw'⟩ hs
   ·exact h.elim
  ·exact h.elim
abbrev Ch:=Dl->Mem->(Option Int->Mem->Prop)->Prop
inductive liftO(X:Cx)(B:Bd)(T:Ch)(σ:St)(H:Hp)(Q:Option Int->Hp->Prop):Prop
 |mk (δ:Dl) (M:Mem) (QQ:Option Int->Mem->Prop) (s:SR X B δ M σ H) (h:T δ M QQ) (u:∀o M',QQ o M'->∀H',RepH X.K H' M'->Frm M H M' H'->Q o H'):liftO X B T σ H Q
def DO(X:Cx)(B:Bd)(e:Option Expr)(T:Ch):Prop:=PO X e (liftO X B T)
theorem r_{X:Cx}{e:Option Expr}{t t':TO}(h:PO X e t)(w:∀σ H Q,t' σ H Q->t σ H Q):PO X e t':=fun pins s σ H Q I q=>h pins s σ H Q I (w σ H Q q)
def bU:Ch:=fun _ M Q=>Q none M
def d9(t:bH):Ch:=fun δ M Q=>t δ M fun x M1=>match x with
 |.int i=>Q (some i) M1
 |_=>False
theorem cz:DO X B none bU:=r_ zr fun σ H Q ⟨δ,M,QQ,s,h,u⟩=>u none M h H s.rh Frm.refl
theorem cE{e:Expr}{te:bH}(h:DE X B e te):DO X B (some e) (d9 te):=by
 refine r_ (yv h) ?_
 rintro σ H Q ⟨δ,M,QQ,s,h,u⟩
 refine ⟨δ,M,_,s,h,fun d M' q v H' rh i r=>?_⟩;cases d with
 |int j=>exact ⟨j,r,u _ M' q H' rh i⟩
 |_=>exact (show False from q).elim
def e_(xs:List D)(lo hi:Option Int):List D:=(xs.drop (HT.sIx xs.length 0 lo)).take (HT.sIx xs.length xs.length hi-HT.sIx xs.length 0 lo)
theorem Rps.cut{ds:List D}{vs:List V}(r:Rps K H ds vs)(lo hi:Option Int):Rps K H (e_ ds lo hi) (io vs lo hi):=by
 unfold e_ io;rw [<- r.length];exact (r.drop _).take _
def oSl(x:D)(lo hi:Option Int)(M:Mem)(Q:DK):Prop:=match x with
 |.tup xs=>Q (.tup (e_ xs lo hi)) M
 |.ml xs=>∀p,M p=none->Q (.ref p) (M.upd p (.lst (e_ xs lo hi)))
 |x=>match seqL M x with
  |some xs=>∀p,M p=none->Q (.ref p) (M.upd p (.lst (e_ xs lo hi)))
  |none=>False
inductive liftSl(X:Cx)(x:V)(lo hi:Option Int)(H:Hp)(Q:VK):Prop
 |mk (d:D) (M:Mem) (QQ:DK) (rh:RepH X.K H M) (r:Rp X.K H d x) (h:oSl d lo hi M QQ) (u:Up X.K M H QQ Q):liftSl X x lo hi H Q
theorem pH{vs:List V}{lo hi:Option Int}(h:HT.sIx vs.length 0 lo=0/\HT.sIx vs.length vs.length hi=vs.length):io vs lo hi=vs:=by
 unfold io;rw [h.1,h.2];simp
theorem yX:Dm X (fun x lo hi H Q=>∃a xs,x=.ref a/\gE X.K H a xs/\(io xs lo hi=xs->Q (.ref a) H)/\∀p,H p=none->Q (.ref p) (upd H p (.tup (io xs lo hi)))):=by
 intro pins s σ H x v vl vu lo hi sl Q I rx hs pl pu h;obtain ⟨a,xs,rfl,hx,q0,q⟩:=h
 by_cases hw:HT.sIx xs.length 0 lo=0/\HT.sIx xs.length xs.length hi=xs.length
 ·cases rx
  obtain ⟨its,r,ht,hz⟩:=I.tuple hx;have hlen:its.toArray.size=xs.length:=by rw [List.size_toArray];exact r.length.symm
  refine ⟨"tuple",_,PyProof.Rows.slot_tuple_getitem.lookup,ht.typeIs,?_⟩;exact HT.fh ht hs pl pu (by rw [hlen];exact hw) ⟨.ref a,H,I,rfl,q0 (pH hw)⟩
 ·exact At pins s σ H _ v vl vu lo hi sl Q I rx hs pl pu ⟨a,xs,rfl,hx,hw,q⟩
end
end L3
namespace L3
open PySem L2
section
variable {X:Cx}{B:Bd}{K:W.Frag}{H:Hp}{M:Mem}{e:Expr}{es:List Expr}{te:bH}{lo hi:Option Expr}{tl th:Ch}{pos p2 p:Pos}{t:fo}
theorem C0:Dm X (liftSl X):=by
 intro pins s σ H x v vl vu lo hi sl Q I rx hs pl pu h;obtain ⟨d,M,QQ,rh,r,h,up⟩:=h;unfold oSl at h
 split at h
 ·obtain ⟨a,vs,rfl,ht,r⟩:=r
  refine yX pins s σ H _ v vl vu lo hi sl Q I rx hs pl pu ⟨a,vs,rfl,ht.sq,fun e=>?_,fun p hp=>?_⟩
  ·exact up _ M h _ H rh Frm.refl ⟨a,vs,rfl,ht,by rw [<- e];exact r.cut lo hi⟩
  ·exact up _ M h _ _ (rh.new hp) (Frm.new hp) ⟨p,_,rfl,upd_same,(r.cut lo hi).mono (Imm.new hp)⟩
 ·obtain ⟨a,vs,rfl,hq,r⟩:=r
  refine rF pins s σ H _ v vl vu lo hi sl Q I rx hs pl pu ⟨a,vs,rfl,hq.sq,fun p hp=>?_⟩;exact up _ _ (h p (rh.fresh hp)) _ _ (rh.put (by rw [hp];trivial) ⟨_,upd_same,(r.cut lo hi).mono (Imm.new hp)⟩) (Frm.put (.inl hp)) rfl
 ·split at h
  ·rename_i xs e
   obtain ⟨a,vs,rfl,hq,r⟩:=cS rh r e;refine rF pins s σ H _ v vl vu lo hi sl Q I rx hs pl pu ⟨a,vs,rfl,.inl hq,fun p hp=>?_⟩;exact up _ _ (h p (rh.fresh hp)) _ _ (rh.put (by rw [hp];trivial) ⟨_,upd_same,(r.cut lo hi).mono (Imm.new hp)⟩) (Frm.put (.inl hp)) rfl
  ·exact h.elim
def r8(te:bH)(tl th:Ch):bH:=fun δ M Q=>te δ M fun x M1=>tl δ M1 fun l M2=>th δ M2 fun u M3=>oSl x l u M3 Q
theorem bY(he:DE X B e te)(hl:DO X B lo tl)(hu:DO X B hi th):DE X B (.Subscript e (.Slice lo hi none p2) pos) (r8 te tl th):=by
 refine aU (vh C0 he hl hu) ?_
 rintro σ H Q ⟨δ,M,QQ,s,h,u⟩
 refine ⟨δ,M,_,s,h,fun x M1 h1 v1 H1 rh1 i1 r1=>?_⟩;refine ⟨δ,M1,_,s.go rh1 i1,h1,fun l M2 h2 H2 rh2 i2=>?_⟩;refine ⟨δ,M2,_,s.go rh2 (i1.trans i2),h2,fun w M3 h3 H3 rh3 i3=>?_⟩;exact ⟨x,M3,QQ,rh3,r1.mf rh1 (i2.trans i3),h3,u.go ((i1.trans i2).trans i3)⟩
abbrev pi:=List D->Mem->DK->Prop
inductive liftC(X:Cx)(r:pi)(xs:List V)(H:Hp)(Q:VK):Prop
 |mk (ds:List D) (M:Mem) (QQ:DK) (rh:RepH X.K H M) (rp:Rps X.K H ds xs) (h:r ds M QQ) (u:Up X.K M H QQ Q):liftC X r xs H Q
def bR(r:pi)(t:fo):bH:=fun δ M Q=>t δ M fun vs M1=>r vs M1 Q
theorem rm{r:pi}{σ:L2.St}{H:Hp}{Q:VK}(h:liftE X B (bR r t) σ H Q):tCB (liftC X r) (liftA X B t) σ H Q:=by
 obtain ⟨δ,M,QQ,s,h,u⟩:=h;refine ⟨δ,M,_,s,h,fun ds M1 h1 vs H1 rh1 i1 r1=>?_⟩;exact ⟨ds,M1,QQ,rh1,r1,h1,u.go i1⟩
theorem aA{x:Str}{id:String}{r:pi}(hc:bX X (.builtin id) (liftC X r))(hg:Gl X x)(hm:X.mg x=none)(hv:bootBuiltins x=some (.builtin id))(ha:DA X B (e::es) t)(hn:x≠"__name__":=by decide)(hdb:(x==("__debug__":Str))=false:=by decide)
  (he:starEach (e::es) X.env=(false,eval e X.env)::starEach es X.env:=by rfl) (hpl:(backTo pos (starEach es X.env)).any (·.1)=false:=by rfl):DE X B (.Call (.Name x p) (e::es) [] pos) (bR r t):=
 aU (xa hc hg hm hv ha hn hdb he hpl) fun _ _ _ h=>rm h
theorem br{x:Str}{T:String}{r:pi}(hc:bX X (.type T) (liftC X r))(hg:Gl X x)(hm:X.mg x=none)(hv:bootBuiltins x=some (.type T))(ha:DA X B (e::es) t)(hn:x≠"__name__":=by decide)(hdb:(x==("__debug__":Str))=false:=by decide)
  (he:starEach (e::es) X.env=(false,eval e X.env)::starEach es X.env:=by rfl) (hpl:(backTo pos (starEach es X.env)).any (·.1)=false:=by rfl):DE X B (.Call (.Name x p) (e::es) [] pos) (bR r t):=
 aU (sI hc hg hm hv ha hn hdb he hpl) fun _ _ _ h=>rm h
theorem eP{ds:List D}{vs:List V}{d:D}(r:Rps K H [d] vs):∃v,vs=[v]/\Rp K H d v:=by
 obtain ⟨v,w,rfl,a,b⟩:=r;cases b;exact ⟨v,rfl,a⟩
theorem AG{vs:List V}{d e:D}(r:Rps K H [d,e] vs):∃v w,vs=[v,w]/\Rp K H d v/\Rp K H e w:=by
 obtain ⟨v,w,rfl,a,b⟩:=r;obtain ⟨v',w',rfl,a',b⟩:=b;cases b;exact ⟨v,v',rfl,a,a'⟩
def cG:pi:=fun ds M Q=>match ds with
 |[d]=>match b_ M d with
  |some xs=>Q (.int xs.length) M
  |none=>match d with
   |.str z=>z.length<=sizeLine/\Q (.int z.length) M
   |.ref a=>match M a with
    |some (.dK kvs)=>Q (.int kvs.length) M
    |_=>False
   |_=>False
 |_=>False
theorem aY:bX X (.builtin "len") (liftC X cG):=by
 intro pins s σ H xs us Q I r h;obtain ⟨ds,M,QQ,rh,rp,h,up⟩:=h;unfold cG at h
 split at h
 ·obtain ⟨v,rfl,rv⟩:=eP (ds:=[]) rp
  split at h
  ·rename_i ys e
   obtain ⟨q,vs,rfl,hq,rr⟩:=gu rh rv e;exact mD pins s σ H _ us Q I r ⟨q,vs,rfl,hq,by rw [<- rr.length];exact up _ M h _ H rh Frm.refl rfl⟩
  ·split at h
   ·cases rv
    exact lG pins s σ H _ us Q I r ⟨_,rfl,h.1,up _ M h.2 _ H rh Frm.refl rfl⟩
   ·split at h
    ·rename_i kvs e
     cases rv;obtain ⟨ws,h1,h2⟩:=rh _ _ e;exact tI pins s σ H _ us Q I r ⟨_,ws,rfl,h1,by rw [<- h2.length];exact up _ M h _ H rh Frm.refl rfl⟩
    ·exact h.elim
   ·exact h.elim
 ·exact h.elim
def jI:pi:=fun ds M Q=>match ds with
 |[d]=>match b_ M d with
  |some xs=>∀p,M p=none->Q (.ref p) (M.upd p (.lst xs))
  |none=>False
 |_=>False
theorem fH:bX X (.type "list") (liftC X jI):=by
 intro pins s σ H xs us Q I r h;obtain ⟨ds,M,QQ,rh,rp,h,up⟩:=h;unfold jI at h
 split at h
 ·obtain ⟨v,rfl,rv⟩:=eP (ds:=[]) rp
  split at h
  ·rename_i ys e
   obtain ⟨q,vs,rfl,hq,rr⟩:=gu rh rv e;refine mq pins s σ H _ us Q I r ⟨q,vs,rfl,hq,fun p hp=>?_⟩;exact up _ _ (h p (rh.fresh hp)) _ _ (rh.put (by rw [hp];trivial) ⟨_,upd_same,rr.mono (Imm.new hp)⟩) (Frm.put (.inl hp)) rfl
  ·exact h.elim
 ·exact h.elim
def cTuple:pi:=fun ds M Q=>match ds with
 |[.tup xs]=>Q (.tup xs) M
 |[d]=>match seqL M d with
  |some xs=>Q (.tup xs) M
  |none=>False
 |_=>False
theorem bv:bX X (.type "tuple") (liftC X cTuple):=by
 intro pins s σ H xs us Q I r h;obtain ⟨ds,M,QQ,rh,rp,h,up⟩:=h;unfold cTuple at h
 split at h
 ·obtain ⟨v,rfl,rv⟩:=eP (ds:=[]) rp
  obtain ⟨q,vs,rfl,ht,rr⟩:=rv;exact fm pins s σ H _ us Q I r ⟨q,vs,rfl,.inr ⟨ht.sq,up _ M h _ H rh Frm.refl ⟨q,vs,rfl,ht,rr⟩⟩⟩
 ·obtain ⟨v,rfl,rv⟩:=eP (ds:=[]) rp
  split at h
  ·rename_i ys e
   obtain ⟨q,vs,rfl,hq,rr⟩:=cS rh rv e;refine fm pins s σ H _ us Q I r ⟨q,vs,rfl,.inl ⟨.inl hq,fun p hp=>?_⟩⟩;exact up _ M h _ _ (rh.new hp) (Frm.new hp) ⟨p,_,rfl,upd_same,rr.mono (Imm.new hp)⟩
  ·exact h.elim
 ·exact h.elim
def gA(M:Mem):D->Option String
 |.non=>some "NoneType"
 |.bl _=>some "bool"
 |.int _=>some "int"
 |.str _=>some "str"
 |.tup _=>some "tuple"
 |.lst _=>some "list"
 |.ref a=>match M a with
  |some (.lst _)=>some "list"
  |some (.dK _)=>some "dict"
  |some (.dT _)=>some "dict"
  |_=>none
 |_=>none
def dO(t T:String):Bool:=t==T||(t=="bool"&&T=="int")
def kO(T:String):Bool:=T=="bool"||T=="int"||T=="str"||T=="tuple"||T=="list"||T=="dict"
theorem xu:(∀K:W.Frag,∀t∈["NoneType","bool","int","str","tuple","list","dict"],∀T∈["bool","int","str","tuple","list","dict"],W.kitOne K (.type t) (.type T)=some (dO t T)):=by
 intro K t ht T hT;simp only [List.mem_cons,List.not_mem_nil,or_false] at ht hT;rcases ht with rfl|rfl|rfl|rfl|rfl|rfl|rfl<;>rcases hT with rfl|rfl|rfl|rfl|rfl|rfl<;>kernel_rfl
theorem yB{d:D}{v:V}{t:String}(rh:RepH K H M)(r:Rp K H d v)(e:gA M d=some t):TyOf K H v (.type t)/\t∈["NoneType","bool","int","str","tuple","list","dict"]:=by
 cases d with
 |non=>cases r;cases e;exact ⟨.non,by simp⟩
 |bl b=>cases r;cases e;exact ⟨.bl b,by simp⟩
 |int i=>cases r;cases e;exact ⟨.int i,by simp⟩
 |str x=>cases r;cases e;exact ⟨.str x,by simp⟩
 |ty n=>cases e
 |mt n=>cases e
 |ml n=>cases e
 |tup xs=>
  cases e;obtain ⟨q,vs,rfl,ht,rr⟩:=r;exact ⟨.tup ht,by simp⟩
 |lst xs=>
  cases e;obtain ⟨q,vs,rfl,⟨o,ht⟩,rr⟩:=r;exact ⟨.frz ht,by simp⟩
 |ref a=>
  cases r;simp only [gA] at e
  split at e
  ·rename_i q;cases e;obtain ⟨ws,h1,h2⟩:=rh _ _ q;exact ⟨.lst h1,by simp⟩
  ·rename_i q;cases e;obtain ⟨ws,h1,h2⟩:=rh _ _ q;exact ⟨.dK h1,by simp⟩
  ·rename_i q;cases e;obtain ⟨ws,h1,h2⟩:=rh _ _ q;exact ⟨.dT h1,by simp⟩
  ·cases e
def dq:pi:=fun ds M Q=>match ds with
 |[d,.ty T]=>kO T=true/\match gA M d with
  |some t=>Q (.bl (dO t T)) M
  |none=>False
 |_=>False
theorem bi:bX X (.builtin "isinstance") (liftC X dq):=by
 intro pins s σ H xs us Q I r h;obtain ⟨ds,M,QQ,rh,rp,h,up⟩:=h;unfold dq at h
 split at h
 ·rename_i d T
  obtain ⟨hT,h⟩:=h;obtain ⟨v,w,rfl,rv,rw'⟩:=AG rp;cases rw'
  split at h
  ·rename_i t e
   obtain ⟨ty,ht⟩:=yB rh rv e;refine nv pins s σ H _ us Q I r ⟨v,T,.type t,_,rfl,ty,xu X.K t ht T ?_,up _ M h _ H rh Frm.refl rfl⟩;simp only [kO,Bool.or_eq_true,beq_iff_eq] at hT;simp only [List.mem_cons,List.not_mem_nil,or_false];rcases hT with ((((h|h)|h)|h)|h)|h<;>simp [h]
  ·exact h.elim
 ·exact h.elim
def jT:List D->Option (List Bool)
 |[]=>some []
 |.bl b::ds=>match jT ds with
  |some bs=>some (b::bs)
  |none=>none
 |_=>none
theorem gS:∀{ds:List D} {vs:List V} {bs:List Bool},Rps K H ds vs->jT ds=some bs->vs=bs.map V.bl
 |[],vs,bs,r,e=>by cases e;exact r
 |d::ds,vs,bs,r,e=>by
  obtain ⟨v,r',rfl,a,b⟩:=r;cases d with
  |bl c=>
   simp only [jT] at e
   split at e
   ·rename_i bs' e2
    cases e;cases a;rw [gS b e2];rfl
   ·cases e
  |_=>cases e
def pV:pi:=fun ds M Q=>match ds with
 |[d]=>match seqL M d with
  |some xs=>match jT xs with
   |some bs=>Q (.bl (bs.all id)) M
   |none=>False
  |none=>False
 |_=>False
theorem gB(hc:X.calm=true):bX X (.builtin "all") (liftC X pV):=by
 intro pins s σ H xs us Q I r h;obtain ⟨ds,M,QQ,rh,rp,h,up⟩:=h;unfold pV at h
 split at h
 ·obtain ⟨v,rfl,rv⟩:=eP (ds:=[]) rp
  split at h
  ·rename_i ys e
   split at h
   ·rename_i bs eb
    obtain ⟨q,vs,rfl,hq,rr⟩:=cS rh rv e;have ev:=gS rr eb;subst ev;exact vB hc pins s σ H _ us Q I r ⟨q,bs,rfl,.inl hq,up _ M h _ H rh Frm.refl rfl⟩
   ·exact h.elim
  ·exact h.elim
 ·exact h.elim
end
end L3
namespace L3
open PySem L2
mutual
def aN:D->D->Bool
 |.non,.non=>true
 |.bl a,.bl b=>a==b
 |.bl a,.int b=>(if a then 1 else 0)==b
 |.int a,.bl b=>a==(if b then 1 else 0)
 |.int a,.int b=>decide (a=b)
 |.str a,.str b=>decide (a=b)
 |.tup xs,.tup ys=>ff xs ys
 |.lst xs,.lst ys=>ff xs ys
 |_,_=>false
def ff:List D->List D->Bool
 |[],[]=>true
 |x::xs,y::ys=>aN x y&&ff xs ys
 |_,_=>false
end
mutual
def bZ:Nat->D->Bool
 |_,.non=>true
 |_,.bl _=>true
 |_,.int _=>true
 |_,.str _=>true
 |n+1,.tup xs=>fits n xs
 |n+1,.lst xs=>fits n xs
 |_,_=>false
def fits:Nat->List D->Bool
 |_,[]=>true
 |n,x::xs=>bZ n x&&fits n xs
end
mutual
def Hr(h:Heap):D->Value->Prop
 |.non,u=>u=.none
 |.bl b,u=>u=.bool b
 |.int i,u=>∃t,u=.int i t
 |.str x,u=>∃t,u=.str x t
 |.tup xs,u=>∃p its,u=.ref p/\h.IsTuple p (List.toArray its)/\Hrs h xs its
 |.lst xs,u=>∃p its,u=.ref p/\h.IsList p (List.toArray its)/\Hrs h xs its
 |_,_=>False
def Hrs(h:Heap):List D->List Value->Prop
 |[],us=>us=[]
 |x::xs,us=>∃u r,us=u::r/\Hr h x u/\Hrs h xs r
end
section
variable {h:Heap}
theorem Hrs.length:∀{ds:List D} {us:List Value},Hrs h ds us->ds.length=us.length
 |[],_,q=>by cases q;rfl
 |_::_,_,q=>by obtain ⟨v,r,rfl,_,b⟩:=q;simp [b.length]
theorem Hrs.get:∀{ds:List D} {us:List Value},Hrs h ds us->∀(i:Nat) (h1:i<ds.length) (h2:i<us.length),Hr h ds[i] us[i]
 |[],_,_,i,h1,_=>absurd h1 (Nat.not_lt_zero _)
 |x::xs,_,q,i,h1,h2=>by
  obtain ⟨v,r,rfl,a,b⟩:=q;cases i with
  |zero=>exact a
  |succ i=>exact b.get i (by simpa using h1) (by simpa using h2)
theorem rk{p:Addr}{a b:Array Value}(x:h.IsTuple p a)(y:h.IsTuple p b):a=b:=by
 obtain ⟨o,h1,_,n,h2⟩:=x;obtain ⟨o',h1',_,n',h2'⟩:=y;rw [h1] at h1';cases h1';rw [h2] at h2'
 injection h2' with e _
theorem qM{p:Addr}{a b:Array Value}(x:h.IsList p a)(y:h.IsList p b):a=b:=by
 obtain ⟨o,h1,_,n,h2⟩:=x;obtain ⟨o',h1',_,n',h2'⟩:=y;rw [h1] at h1';cases h1';rw [h2] at h2'
 injection h2' with e _
theorem E1{p:Addr}{a b:Array Value}(x:h.IsList p a)(y:h.IsTuple p b):False:=by
 obtain ⟨o,h1,c,_⟩:=x;obtain ⟨o',h1',c',_⟩:=y;rw [h1] at h1';cases h1';rw [c] at c'
 injection c' with e
 exact absurd e (by decide)
mutual
theorem wb:∀{d e:D} {u:Value},Hr h d u->Hr h e u->d=e
 |.non,e,u,a,b=>by
  cases a;cases e with
  |non=>rfl
  |bl _=>cases b
  |int _=>obtain ⟨t,q⟩:=b;cases q
  |str _=>obtain ⟨t,q⟩:=b;cases q
  |tup _=>obtain ⟨p,i,q,_⟩:=b;cases q
  |lst _=>obtain ⟨p,i,q,_⟩:=b;cases q
  |_=>exact (show False from b).elim
 |.bl c,e,u,a,b=>by
  cases a;cases e with
  |non=>cases b
  |bl _=>cases b;rfl
  |int _=>obtain ⟨t,q⟩:=b;cases q
  |str _=>obtain ⟨t,q⟩:=b;cases q
  |tup _=>obtain ⟨p,i,q,_⟩:=b;cases q
  |lst _=>obtain ⟨p,i,q,_⟩:=b;cases q
  |_=>exact (show False from b).elim
 |.int c,e,u,a,b=>by
  obtain ⟨t,rfl⟩:=a;cases e with
  |non=>cases b
  |bl _=>cases b
  |int _=>obtain ⟨t,q⟩:=b;cases q;rfl
  |str _=>obtain ⟨t,q⟩:=b;cases q
  |tup _=>obtain ⟨p,i,q,_⟩:=b;cases q
  |lst _=>obtain ⟨p,i,q,_⟩:=b;cases q
  |_=>exact (show False from b).elim
 |.str c,e,u,a,b=>by
  obtain ⟨t,rfl⟩:=a;cases e with
  |non=>cases b
  |bl _=>cases b
  |int _=>obtain ⟨t,q⟩:=b;cases q
  |str _=>obtain ⟨t,q⟩:=b;cases q;rfl
  |tup _=>obtain ⟨p,i,q,_⟩:=b;cases q
  |lst _=>obtain ⟨p,i,q,_⟩:=b;cases q
  |_=>exact (show False from b).elim
 |.tup xs,e,u,a,b=>by
  obtain ⟨p,its,rfl,t1,r1⟩:=a;cases e with
  |non=>cases b
  |bl _=>cases b
  |int _=>obtain ⟨t,q⟩:=b;cases q
  |str _=>obtain ⟨t,q⟩:=b;cases q
  |tup ys=>
   obtain ⟨p',its',q,t2,r2⟩:=b;cases q;have e:=rk t1 t2;have e':its=its':=by simpa using congrArg Array.toList e
   subst e';rw [gq r1 r2]
  |lst ys=>obtain ⟨p',its',q,t2,r2⟩:=b;cases q;exact (E1 t2 t1).elim
  |_=>exact (show False from b).elim
 |.lst xs,e,u,a,b=>by
  obtain ⟨p,its,rfl,t1,r1⟩:=a;cases e with
  |non=>cases b
  |bl _=>cases b
  |int _=>obtain ⟨t,q⟩:=b;cases q
  |str _=>obtain ⟨t,q⟩:=b;cases q
  |lst ys=>
   obtain ⟨p',its',q,t2,r2⟩:=b;cases q;have e:=qM t1 t2;have e':its=its':=by simpa using congrArg Array.toList e
   subst e';rw [gq r1 r2]
  |tup ys=>obtain ⟨p',its',q,t2,r2⟩:=b;cases q;exact (E1 t1 t2).elim
  |_=>exact (show False from b).elim
 |.ty _,_,_,a,_=>(show False from a).elim
 |.ref _,_,_,a,_=>(show False from a).elim
 |.mt _,_,_,a,_=>(show False from a).elim
 |.ml _,_,_,a,_=>(show False from a).elim
theorem gq:∀{ds es:List D} {us:List Value},Hrs h ds us->Hrs h es us->ds=es
 |[],es,us,a,b=>by
  cases a;cases es with
  |nil=>rfl
  |cons _ _=>obtain ⟨v,r,q,_⟩:=b;cases q
 |d::ds,es,us,a,b=>by
  obtain ⟨v,r,rfl,a1,a2⟩:=a;cases es with
  |nil=>cases b
  |cons e es=>
   obtain ⟨v',r',q,b1,b2⟩:=b;cases q;rw [wb a1 b1,gq a2 b2]
end
mutual
theorem ng:∀{n:Nat} {d:D},bZ n d=true->aN d d=true
 |_,.non,_=>by simp [aN]
 |_,.bl _,_=>by simp [aN]
 |_,.int _,_=>by simp [aN]
 |_,.str _,_=>by simp [aN]
 |0,.tup _,f=>by simp [bZ] at f
 |0,.lst _,f=>by simp [bZ] at f
 |n+1,.tup xs,f=>by rw [aN];exact dw (n:=n) f
 |n+1,.lst xs,f=>by rw [aN];exact dw (n:=n) f
 |_,.ty _,f=>by simp [bZ] at f
 |_,.ref _,f=>by simp [bZ] at f
 |_,.mt _,f=>by simp [bZ] at f
 |_,.ml _,f=>by simp [bZ] at f
theorem dw:∀{n:Nat} {ds:List D},fits n ds=true->ff ds ds=true
 |_,[],_=>by simp [ff]
 |n,x::xs,f=>by
  rw [fits,Bool.and_eq_true] at f;rw [ff,ng f.1,dw f.2];rfl
end
theorem cZ:∀{xs ys:List D},xs.length≠ys.length->ff xs ys=false
 |[],[],h=>absurd rfl h
 |[],_::_,_=>by simp [ff]
 |_::_,[],_=>by simp [ff]
 |x::xs,y::ys,h=>by rw [ff,cZ (by simpa using h),Bool.and_false]
theorem gj:∀(xs ys:List D) (f:Nat->Bool),xs.length=ys.length->(∀j (h1:j<xs.length) (h2:j<ys.length),f j=aN xs[j] ys[j])->(List.range xs.length).all f=ff xs ys
 |[],[],f,_,_=>by simp [ff]
 |[],_::_,_,h,_=>by simp at h
 |_::_,[],_,h,_=>by simp at h
 |x::xs,y::ys,f,h,hf=>by
  have h0:=hf 0 (by simp) (by simp)
  have ht:=gj xs ys (fun j=>f (j+1)) (by simpa using h) (fun j h1 h2=>hf (j+1) (by simpa using h1) (by simpa using h2))
  rw [List.length_cons,List.range_succ_eq_map,List.all_cons,List.all_map,ff,<- ht];simp only [List.getElem_cons_zero] at h0;rw [h0];rfl
theorem c_:∀{n:Nat} {xs:List D},fits n xs=true->∀(j:Nat) (h1:j<xs.length),bZ n xs[j]=true
 |_,[],_,j,h1=>absurd h1 (Nat.not_lt_zero _)
 |n,x::xs,f,j,h1=>by
  rw [fits,Bool.and_eq_true] at f;cases j with
  |zero=>exact f.1
  |succ j=>exact c_ f.2 j (by simpa using h1)
def jD:D->Option V
 |.non=>some .non
 |.bl b=>some (.bl b)
 |.int i=>some (.int i)
 |.str x=>some (.str x)
 |_=>none
theorem iL{d:D}{v:V}{u:Value}(e:jD d=some v)(r:Hr h d u):RelV v u/\w8 v=true:=by
 cases d with
 |non=>cases e;exact ⟨r,rfl⟩
 |bl b=>cases e;exact ⟨r,rfl⟩
 |int b=>cases e;exact ⟨r,rfl⟩
 |str b=>cases e;exact ⟨r,rfl⟩
 |_=>cases e
theorem mS{d e:D}{v w:V}(h1:jD d=some v)(h2:jD e=some w):mH v w=aN d e:=by
 cases d with
 |non=>cases h1;cases e with|non=>cases h2;simp [mH,aN]|bl b=>cases h2;simp [mH,aN]|int b=>cases h2;simp [mH,aN]|str b=>cases h2;simp [mH,aN]|_=>cases h2
 |bl a=>cases h1;cases e with|non=>cases h2;simp [mH,aN]|bl b=>cases h2;simp [mH,aN]|int b=>cases h2;simp [mH,aN]|str b=>cases h2;simp [mH,aN]|_=>cases h2
 |int a=>cases h1;cases e with|non=>cases h2;simp [mH,aN]|bl b=>cases h2;simp [mH,aN]|int b=>cases h2;simp [mH,aN];rfl|str b=>cases h2;simp [mH,aN]|_=>cases h2
 |str a=>cases h1;cases e with|non=>cases h2;simp [mH,aN]|bl b=>cases h2;simp [mH,aN]|int b=>cases h2;simp [mH,aN]|str b=>cases h2;simp [mH,aN];rfl|_=>cases h2
 |_=>cases h1
end
theorem zU:∀(n:Nat) {A:Around} {s:Shared} {d e:D} {u w:Value},Hr s.heap d u->Hr s.heap e w->bZ n d=true->bZ n e=true->A.units+n<cLine->SeqAt.EqAt A s u w (aN d e):=by
 intro n
 induction n with
 |zero=>
  intro A s d e u w rd re fd fe hu;have f1:∃v,jD d=some v:=by cases d<;>first|exact ⟨_,rfl⟩|(simp [bZ] at fd)
  have f2:∃v,jD e=some v:=by cases e<;>first|exact ⟨_,rfl⟩|(simp [bZ] at fe)
  obtain ⟨v1,e1⟩:=f1;obtain ⟨v2,e2⟩:=f2;obtain ⟨a1,b1⟩:=iL e1 rd;obtain ⟨a2,b2⟩:=iL e2 re;rw [<- mS e1 e2];exact vg a1 a2 b1 b2
 |succ n ih=>
  intro A s d e u w rd re fd fe hu;have hu0:A.units<cLine:=by lia
  have hu1:A.in1.units+n<cLine:=by show A.units+1+n<cLine;lia
  by_cases f1:∃v,jD d=some v
  ·obtain ⟨v1,e1⟩:=f1
   obtain ⟨a1,b1⟩:=iL e1 rd
   by_cases f2:∃v,jD e=some v
   ·obtain ⟨v2,e2⟩:=f2
    obtain ⟨a2,b2⟩:=iL e2 re;rw [<- mS e1 e2];exact vg a1 a2 b1 b2
   ·cases e with
    |tup ys=>
     obtain ⟨p,its,rfl,t,_⟩:=re;cases d with
     |non=>cases rd;simp only [aN];exact .none_tuple t hu0
     |bl b=>cases rd;simp only [aN];exact .bool_tuple b t hu0
     |int b=>obtain ⟨tk,rfl⟩:=rd;simp only [aN];exact .int_tuple b tk t hu0
     |str b=>obtain ⟨tk,rfl⟩:=rd;simp only [aN];exact .str_tuple b tk t hu0
     |_=>cases e1
    |lst ys=>
     obtain ⟨p,its,rfl,t,_⟩:=re;cases d with
     |non=>cases rd;simp only [aN];exact .none_list t hu0
     |bl b=>cases rd;simp only [aN];exact .bool_list b t hu0
     |int b=>obtain ⟨tk,rfl⟩:=rd;simp only [aN];exact .int_list b tk t hu0
     |str b=>obtain ⟨tk,rfl⟩:=rd;simp only [aN];exact .str_list b tk t hu0
     |_=>cases e1
    |ty _=>exact (show False from re).elim
    |ref _=>exact (show False from re).elim
    |mt _=>exact (show False from re).elim
    |ml _=>exact (show False from re).elim
    |_=>exact absurd ⟨_,rfl⟩ f2
  ·cases d with
   |tup xs=>
    obtain ⟨p,its,rfl,t1,r1⟩:=rd;cases e with
    |non=>cases re;simp only [aN];exact .tuple_none t1 hu0
    |bl b=>cases re;simp only [aN];exact .tuple_bool b t1 hu0
    |int b=>obtain ⟨tk,rfl⟩:=re;simp only [aN];exact .tuple_int b tk t1 hu0
    |str b=>obtain ⟨tk,rfl⟩:=re;simp only [aN];exact .tuple_str b tk t1 hu0
    |tup ys=>
     obtain ⟨p',its',rfl,t2,r2⟩:=re;rw [aN]
     by_cases hp:p=p'
     ·subst hp
      have e':its=its':=by simpa using congrArg Array.toList (rk t1 t2)
      subst e';rw [gq r1 r2,dw (n:=n) fe];exact .same _
     ·refine .of_refs hp ?_
      have l1:=r1.length;have l2:=r2.length;have key:∀j (h1:j<its.toArray.size) (h2:j<its'.toArray.size),SeqAt.EqAt A.in1 s its.toArray[j] its'.toArray[j] (match xs[j]?,ys[j]? with|some x,some y=>aN x y|_,_=>false):=fun j h1 h2=>by
       have h1':j<xs.length:=by rw [l1];simpa using h1
       have h2':j<ys.length:=by rw [l2];simpa using h2
       rw [List.getElem?_eq_getElem h1',List.getElem?_eq_getElem h2'];exact ih (r1.get j h1' (by simpa using h1)) (r2.get j h2' (by simpa using h2)) (c_ fd j h1') (c_ fe j h2') hu1
      have:=SeqAt.RcAt.tuples (e:=fun j=>match xs[j]?,ys[j]? with|some x,some y=>aN x y|_,_=>false) t1 t2 hu0 key
      by_cases hl:xs.length=ys.length
      ·have hsz:its.toArray.size=its'.toArray.size:=by simp;lia
       rw [hsz] at this;simp only [Nat.min_self,beq_self_eq_true,Bool.and_true] at this;have hxs:its'.toArray.size=xs.length:=by simp;lia
       rw [hxs,gj xs ys _ hl (fun j h1 h2=>by rw [List.getElem?_eq_getElem h1,List.getElem?_eq_getElem h2])] at this
       exact this
      ·have hsz:(its.toArray.size==its'.toArray.size)=false:=by simp;lia
       rw [hsz,Bool.and_false] at this;rw [cZ hl];exact this
    |lst ys=>obtain ⟨p',its',rfl,t2,r2⟩:=re;simp only [aN];exact .tuple_list t1 t2 hu0
    |_=>exact (show False from re).elim
   |lst xs=>
    obtain ⟨p,its,rfl,t1,r1⟩:=rd;cases e with
    |non=>cases re;simp only [aN];exact .list_none t1 hu0
    |bl b=>cases re;simp only [aN];exact .list_bool b t1 hu0
    |int b=>obtain ⟨tk,rfl⟩:=re;simp only [aN];exact .list_int b tk t1 hu0
    |str b=>obtain ⟨tk,rfl⟩:=re;simp only [aN];exact .list_str b tk t1 hu0
    |lst ys=>
     obtain ⟨p',its',rfl,t2,r2⟩:=re;rw [aN]
     by_cases hp:p=p'
     ·subst hp
      have e':its=its':=by simpa using congrArg Array.toList (qM t1 t2)
      subst e';rw [gq r1 r2,dw (n:=n) fe];exact .same _
     ·refine .of_refs hp ?_
      have l1:=r1.length;have l2:=r2.length
      by_cases hl:xs.length=ys.length
      ·have key:∀j (h1:j<its.toArray.size) (h2:j<its'.toArray.size),SeqAt.EqAt A.in1 s its.toArray[j] its'.toArray[j] (match xs[j]?,ys[j]? with|some x,some y=>aN x y|_,_=>false):=fun j h1 h2=>by
        have h1':j<xs.length:=by rw [l1];simpa using h1
        have h2':j<ys.length:=by rw [l2];simpa using h2
        rw [List.getElem?_eq_getElem h1',List.getElem?_eq_getElem h2'];exact ih (r1.get j h1' (by simpa using h1)) (r2.get j h2' (by simpa using h2)) (c_ fd j h1') (c_ fe j h2') hu1
       have:=SeqAt.RcAt.lists (e:=fun j=>match xs[j]?,ys[j]? with|some x,some y=>aN x y|_,_=>false) t1 t2 (by simp;lia) hu0 key
       have hxs:its.toArray.size=xs.length:=by simp;lia
       rw [hxs,gj xs ys _ hl (fun j h1 h2=>by rw [List.getElem?_eq_getElem h1,List.getElem?_eq_getElem h2])] at this
       exact this
      ·rw [cZ hl]
       exact SeqAt.RcAt.lists_lengths t1 t2 (by simp;lia) hu0
    |tup ys=>obtain ⟨p',its',rfl,t2,r2⟩:=re;simp only [aN];exact .list_tuple t1 t2 hu0
    |_=>exact (show False from re).elim
   |ty _=>exact (show False from rd).elim
   |ref _=>exact (show False from rd).elim
   |mt _=>exact (show False from rd).elim
   |ml _=>exact (show False from rd).elim
   |_=>exact absurd ⟨_,rfl⟩ f1
end L3
namespace L3
open PySem L2
theorem iE{n:Nat}{A:Around}{s:Shared}{xs ys:List D}{its its':List Value}(r1:Hrs s.heap xs its)(r2:Hrs s.heap ys its')(fd:fits n xs=true)(fe:fits n ys=true)(hu:A.units+n<cLine):
  ∀j (h1:j<its.toArray.size) (h2:j<its'.toArray.size),SeqAt.EqAt A s its.toArray[j] its'.toArray[j] (match xs[j]?,ys[j]? with|some x,some y=>aN x y|_,_=>false):=fun j h1 h2=>by
 have h1':j<xs.length:=by rw [r1.length];simpa using h1
 have h2':j<ys.length:=by rw [r2.length];simpa using h2
 rw [List.getElem?_eq_getElem h1',List.getElem?_eq_getElem h2'];exact zU n (r1.get j h1' (by simpa using h1)) (r2.get j h2' (by simpa using h2)) (c_ fd j h1') (c_ fe j h2') hu
theorem iR{xs ys:List D}(hl:xs.length=ys.length):(List.range xs.length).all (fun j=>match xs[j]?,ys[j]? with|some x,some y=>aN x y|_,_=>false)=ff xs ys:=
 gj xs ys _ hl (fun j h1 h2=>by rw [List.getElem?_eq_getElem h1,List.getElem?_eq_getElem h2])
theorem AZ{n:Nat}{A:Around}{s:Shared}{xs ys:List D}{p p':Addr}{its its':List Value}(t1:s.heap.IsTuple p its.toArray)(t2:s.heap.IsTuple p' its'.toArray)(r1:Hrs s.heap xs its)(r2:Hrs s.heap ys its')(fd:bZ n (.tup xs)=true)(fe:bZ n (.tup ys)=true)(hu:A.units+n<cLine):
  SeqAt.RcAt A s (.ref p) (.ref p') (aN (.tup xs) (.tup ys)):=by
 cases n with
 |zero=>simp [bZ] at fd
 |succ n=>
  have l1:=r1.length;have l2:=r2.length;have:=SeqAt.RcAt.tuples (A:=A) t1 t2 (by lia) (iE (n:=n) r1 r2 fd fe (by show A.units+1+n<cLine;lia))
  rw [aN]
  by_cases hl:xs.length=ys.length
  ·have hsz:its.toArray.size=its'.toArray.size:=by simp;lia
   rw [hsz] at this;simp only [Nat.min_self,beq_self_eq_true,Bool.and_true] at this;have hxs:its'.toArray.size=xs.length:=by simp;lia
   rw [hxs,iR hl] at this;exact this
  ·have hsz:(its.toArray.size==its'.toArray.size)=false:=by simp;lia
   rw [hsz,Bool.and_false] at this;rw [cZ hl];exact this
theorem AH{n:Nat}{A:Around}{s:Shared}{xs ys:List D}{p p':Addr}{its its':List Value}(t1:s.heap.IsList p its.toArray)(t2:s.heap.IsList p' its'.toArray)(r1:Hrs s.heap xs its)(r2:Hrs s.heap ys its')(fd:bZ n (.lst xs)=true)(fe:bZ n (.lst ys)=true)(hu:A.units+n<cLine):
  SeqAt.RcAt A s (.ref p) (.ref p') (aN (.lst xs) (.lst ys)):=by
 cases n with
 |zero=>simp [bZ] at fd
 |succ n=>
  have l1:=r1.length;have l2:=r2.length;rw [aN]
  by_cases hl:xs.length=ys.length
  ·have:=SeqAt.RcAt.lists (A:=A) t1 t2 (by simp;lia) (by lia) (iE (n:=n) r1 r2 fd fe (by show A.units+1+n<cLine;lia))
   have hxs:its.toArray.size=xs.length:=by simp;lia
   rw [hxs,iR hl] at this;exact this
  ·rw [cZ hl]
   exact SeqAt.RcAt.lists_lengths t1 t2 (by simp;lia) (by lia)
theorem vD{n:Nat}{A:Around}{s:Shared}{xs ys:List D}{p p':Addr}{its its':List Value}(t1:s.heap.IsTuple p its.toArray)(t2:s.heap.IsTuple p' its'.toArray)(r1:Hrs s.heap xs its)(r2:Hrs s.heap ys its')(fd:bZ n (.tup xs)=true)(fe:bZ n (.tup ys)=true)(hu:A.units+n<cLine):
  SeqAt.RcNeAt A s (.ref p) (.ref p') (!aN (.tup xs) (.tup ys)):=by
 cases n with
 |zero=>simp [bZ] at fd
 |succ n=>
  have l1:=r1.length;have l2:=r2.length;have:=SeqAt.RcNeAt.tuples (A:=A) t1 t2 (by lia) (iE (n:=n) r1 r2 fd fe (by show A.units+1+n<cLine;lia))
  rw [aN]
  by_cases hl:xs.length=ys.length
  ·have hsz:its.toArray.size=its'.toArray.size:=by simp;lia
   rw [hsz] at this;simp only [Nat.min_self,beq_self_eq_true,Bool.and_true] at this;have hxs:its'.toArray.size=xs.length:=by simp;lia
   rw [hxs,iR hl] at this;exact this
  ·have hsz:(its.toArray.size==its'.toArray.size)=false:=by simp;lia
   rw [hsz,Bool.and_false] at this;rw [cZ hl];exact this
theorem vw{n:Nat}{A:Around}{s:Shared}{xs ys:List D}{p p':Addr}{its its':List Value}(t1:s.heap.IsList p its.toArray)(t2:s.heap.IsList p' its'.toArray)(r1:Hrs s.heap xs its)(r2:Hrs s.heap ys its')(fd:bZ n (.lst xs)=true)(fe:bZ n (.lst ys)=true)(hu:A.units+n<cLine):
  SeqAt.RcNeAt A s (.ref p) (.ref p') (!aN (.lst xs) (.lst ys)):=by
 cases n with
 |zero=>simp [bZ] at fd
 |succ n=>
  have l1:=r1.length;have l2:=r2.length;rw [aN]
  by_cases hl:xs.length=ys.length
  ·have:=SeqAt.RcNeAt.lists (A:=A) t1 t2 (by simp;lia) (by lia) (iE (n:=n) r1 r2 fd fe (by show A.units+1+n<cLine;lia))
   have hxs:its.toArray.size=xs.length:=by simp;lia
   rw [hxs,iR hl] at this;exact this
  ·rw [cZ hl]
   exact SeqAt.RcNeAt.lists_lengths t1 t2 (by simp;lia) (by lia)
theorem Dp{n:Nat}{A:Around}{s:Shared}{d e:D}{u w:Value}(rd:Hr s.heap d u)(re:Hr s.heap e w)(fd:bZ n d=true)(fe:bZ n e=true)(hu:A.units+n<cLine):SeqAt.RcAt A s u w (aN d e):=by
 have hu0:A.units<cLine:=by lia
 cases d with
 |non=>
  cases rd;cases e with
  |non=>
   cases re;simpa [aN,Bool.beq_eq_decide_eq] using SeqAt.RcAt.none_none
  |bl y=>
   cases re;simpa [aN] using SeqAt.RcAt.none_bool y
  |int y=>
   obtain ⟨tky,rfl⟩:=re;simpa [aN] using SeqAt.RcAt.none_int y tky
  |str y=>
   obtain ⟨tky,rfl⟩:=re;simpa [aN] using SeqAt.RcAt.none_str y tky
  |tup y=>
   obtain ⟨py,itsy,rfl,ty,ry⟩:=re;simpa [aN] using SeqAt.RcAt.none_tuple ty hu0
  |lst y=>
   obtain ⟨py,itsy,rfl,ty,ry⟩:=re;simpa [aN] using SeqAt.RcAt.none_list ty hu0
  |_=>exact (show False from re).elim
 |bl x=>
  cases rd;cases e with
  |non=>
   cases re;simpa [aN] using SeqAt.RcAt.bool_none x
  |bl y=>
   cases re;simpa [aN,Bool.beq_eq_decide_eq] using SeqAt.RcAt.bool_bool x y
  |int y=>
   obtain ⟨tky,rfl⟩:=re;simpa [aN,Bool.beq_eq_decide_eq] using SeqAt.RcAt.bool_int x y tky
  |str y=>
   obtain ⟨tky,rfl⟩:=re;simpa [aN] using SeqAt.RcAt.bool_str x y tky
  |tup y=>
   obtain ⟨py,itsy,rfl,ty,ry⟩:=re;simpa [aN] using SeqAt.RcAt.bool_tuple x ty hu0
  |lst y=>
   obtain ⟨py,itsy,rfl,ty,ry⟩:=re;simpa [aN] using SeqAt.RcAt.bool_list x ty hu0
  |_=>exact (show False from re).elim
 |int x=>
  obtain ⟨tkx,rfl⟩:=rd;cases e with
  |non=>
   cases re;simpa [aN] using SeqAt.RcAt.int_none x tkx
  |bl y=>
   cases re;simpa [aN,Bool.beq_eq_decide_eq] using SeqAt.RcAt.int_bool x tkx y
  |int y=>
   obtain ⟨tky,rfl⟩:=re;simpa [aN,Bool.beq_eq_decide_eq] using SeqAt.RcAt.int_int x tkx y tky
  |str y=>
   obtain ⟨tky,rfl⟩:=re;simpa [aN] using SeqAt.RcAt.int_str x tkx y tky
  |tup y=>
   obtain ⟨py,itsy,rfl,ty,ry⟩:=re;simpa [aN] using SeqAt.RcAt.int_tuple x tkx ty hu0
  |lst y=>
   obtain ⟨py,itsy,rfl,ty,ry⟩:=re;simpa [aN] using SeqAt.RcAt.int_list x tkx ty hu0
  |_=>exact (show False from re).elim
 |str x=>
  obtain ⟨tkx,rfl⟩:=rd;cases e with
  |non=>
   cases re;simpa [aN] using SeqAt.RcAt.str_none x tkx
  |bl y=>
   cases re;simpa [aN] using SeqAt.RcAt.str_bool x tkx y
  |int y=>
   obtain ⟨tky,rfl⟩:=re;simpa [aN] using SeqAt.RcAt.str_int x tkx y tky
  |str y=>
   obtain ⟨tky,rfl⟩:=re;simpa [aN,Bool.beq_eq_decide_eq] using SeqAt.RcAt.str_str x tkx y tky
  |tup y=>
   obtain ⟨py,itsy,rfl,ty,ry⟩:=re;simpa [aN] using SeqAt.RcAt.str_tuple x tkx ty hu0
  |lst y=>
   obtain ⟨py,itsy,rfl,ty,ry⟩:=re;simpa [aN] using SeqAt.RcAt.str_list x tkx ty hu0
  |_=>exact (show False from re).elim
 |tup x=>
  obtain ⟨px,itsx,rfl,tx,rx⟩:=rd;cases e with
  |non=>
   cases re;simpa [aN] using SeqAt.RcAt.tuple_none tx hu0
  |bl y=>
   cases re;simpa [aN] using SeqAt.RcAt.tuple_bool y tx hu0
  |int y=>
   obtain ⟨tky,rfl⟩:=re;simpa [aN] using SeqAt.RcAt.tuple_int y tky tx hu0
  |str y=>
   obtain ⟨tky,rfl⟩:=re;simpa [aN] using SeqAt.RcAt.tuple_str y tky tx hu0
  |tup y=>
   obtain ⟨py,itsy,rfl,ty,ry⟩:=re;exact AZ tx ty rx ry fd fe hu
  |lst y=>
   obtain ⟨py,itsy,rfl,ty,ry⟩:=re;simpa [aN] using SeqAt.RcAt.tuple_list tx ty hu0
  |_=>exact (show False from re).elim
 |lst x=>
  obtain ⟨px,itsx,rfl,tx,rx⟩:=rd;cases e with
  |non=>
   cases re;simpa [aN] using SeqAt.RcAt.list_none tx hu0
  |bl y=>
   cases re;simpa [aN] using SeqAt.RcAt.list_bool y tx hu0
  |int y=>
   obtain ⟨tky,rfl⟩:=re;simpa [aN] using SeqAt.RcAt.list_int y tky tx hu0
  |str y=>
   obtain ⟨tky,rfl⟩:=re;simpa [aN] using SeqAt.RcAt.list_str y tky tx hu0
  |tup y=>
   obtain ⟨py,itsy,rfl,ty,ry⟩:=re;simpa [aN] using SeqAt.RcAt.list_tuple tx ty hu0
  |lst y=>
   obtain ⟨py,itsy,rfl,ty,ry⟩:=re;exact AH tx ty rx ry fd fe hu
  |_=>exact (show False from re).elim
 |_=>exact (show False from rd).elim
theorem yQ{n:Nat}{A:Around}{s:Shared}{d e:D}{u w:Value}(rd:Hr s.heap d u)(re:Hr s.heap e w)(fd:bZ n d=true)(fe:bZ n e=true)(hu:A.units+n<cLine):SeqAt.RcNeAt A s u w (!aN d e):=by
 have hu0:A.units<cLine:=by lia
 cases d with
 |non=>
  cases rd;cases e with
  |non=>
   cases re;simpa [aN,Bool.beq_eq_decide_eq] using SeqAt.RcNeAt.none_none
  |bl y=>
   cases re;simpa [aN] using SeqAt.RcNeAt.none_bool y
  |int y=>
   obtain ⟨tky,rfl⟩:=re;simpa [aN] using SeqAt.RcNeAt.none_int y tky
  |str y=>
   obtain ⟨tky,rfl⟩:=re;simpa [aN] using SeqAt.RcNeAt.none_str y tky
  |tup y=>
   obtain ⟨py,itsy,rfl,ty,ry⟩:=re;simpa [aN] using SeqAt.RcNeAt.none_tuple ty hu0
  |lst y=>
   obtain ⟨py,itsy,rfl,ty,ry⟩:=re;simpa [aN] using SeqAt.RcNeAt.none_list ty hu0
  |_=>exact (show False from re).elim
 |bl x=>
  cases rd;cases e with
  |non=>
   cases re;simpa [aN] using SeqAt.RcNeAt.bool_none x
  |bl y=>
   cases re;simpa [aN,Bool.beq_eq_decide_eq] using SeqAt.RcNeAt.bool_bool x y
  |int y=>
   obtain ⟨tky,rfl⟩:=re;simpa [aN,Bool.beq_eq_decide_eq] using SeqAt.RcNeAt.bool_int x y tky
  |str y=>
   obtain ⟨tky,rfl⟩:=re;simpa [aN] using SeqAt.RcNeAt.bool_str x y tky
  |tup y=>
   obtain ⟨py,itsy,rfl,ty,ry⟩:=re;simpa [aN] using SeqAt.RcNeAt.bool_tuple x ty hu0
  |lst y=>
   obtain ⟨py,itsy,rfl,ty,ry⟩:=re;simpa [aN] using SeqAt.RcNeAt.bool_list x ty hu0
  |_=>exact (show False from re).elim
 |int x=>
  obtain ⟨tkx,rfl⟩:=rd;cases e with
  |non=>
   cases re;simpa [aN] using SeqAt.RcNeAt.int_none x tkx
  |bl y=>
   cases re;simpa [aN,Bool.beq_eq_decide_eq] using SeqAt.RcNeAt.int_bool x tkx y
  |int y=>
   obtain ⟨tky,rfl⟩:=re;simpa [aN,Bool.beq_eq_decide_eq] using SeqAt.RcNeAt.int_int x tkx y tky
  |str y=>
   obtain ⟨tky,rfl⟩:=re;simpa [aN] using SeqAt.RcNeAt.int_str x tkx y tky
  |tup y=>
   obtain ⟨py,itsy,rfl,ty,ry⟩:=re;simpa [aN] using SeqAt.RcNeAt.int_tuple x tkx ty hu0
  |lst y=>
   obtain ⟨py,itsy,rfl,ty,ry⟩:=re;simpa [aN] using SeqAt.RcNeAt.int_list x tkx ty hu0
  |_=>exact (show False from re).elim
 |str x=>
  obtain ⟨tkx,rfl⟩:=rd;cases e with
  |non=>
   cases re;simpa [aN] using SeqAt.RcNeAt.str_none x tkx
  |bl y=>
   cases re;simpa [aN] using SeqAt.RcNeAt.str_bool x tkx y
  |int y=>
   obtain ⟨tky,rfl⟩:=re;simpa [aN] using SeqAt.RcNeAt.str_int x tkx y tky
  |str y=>
   obtain ⟨tky,rfl⟩:=re;simpa [aN,Bool.beq_eq_decide_eq] using SeqAt.RcNeAt.str_str x tkx y tky
  |tup y=>
   obtain ⟨py,itsy,rfl,ty,ry⟩:=re;simpa [aN] using SeqAt.RcNeAt.str_tuple x tkx ty hu0
  |lst y=>
   obtain ⟨py,itsy,rfl,ty,ry⟩:=re;simpa [aN] using SeqAt.RcNeAt.str_list x tkx ty hu0
  |_=>exact (show False from re).elim
 |tup x=>
  obtain ⟨px,itsx,rfl,tx,rx⟩:=rd;cases e with
  |non=>
   cases re;simpa [aN] using SeqAt.RcNeAt.tuple_none tx hu0
  |bl y=>
   cases re;simpa [aN] using SeqAt.RcNeAt.tuple_bool y tx hu0
  |int y=>
   obtain ⟨tky,rfl⟩:=re;simpa [aN] using SeqAt.RcNeAt.tuple_int y tky tx hu0
  |str y=>
   obtain ⟨tky,rfl⟩:=re;simpa [aN] using SeqAt.RcNeAt.tuple_str y tky tx hu0
  |tup y=>
   obtain ⟨py,itsy,rfl,ty,ry⟩:=re;exact vD tx ty rx ry fd fe hu
  |lst y=>
   obtain ⟨py,itsy,rfl,ty,ry⟩:=re;simpa [aN] using SeqAt.RcNeAt.tuple_list tx ty hu0
  |_=>exact (show False from re).elim
 |lst x=>
  obtain ⟨px,itsx,rfl,tx,rx⟩:=rd;cases e with
  |non=>
   cases re;simpa [aN] using SeqAt.RcNeAt.list_none tx hu0
  |bl y=>
   cases re;simpa [aN] using SeqAt.RcNeAt.list_bool y tx hu0
  |int y=>
   obtain ⟨tky,rfl⟩:=re;simpa [aN] using SeqAt.RcNeAt.list_int y tky tx hu0
  |str y=>
   obtain ⟨tky,rfl⟩:=re;simpa [aN] using SeqAt.RcNeAt.list_str y tky tx hu0
  |tup y=>
   obtain ⟨py,itsy,rfl,ty,ry⟩:=re;simpa [aN] using SeqAt.RcNeAt.list_tuple tx ty hu0
  |lst y=>
   obtain ⟨py,itsy,rfl,ty,ry⟩:=re;exact vw tx ty rx ry fd fe hu
  |_=>exact (show False from re).elim
 |_=>exact (show False from rd).elim
section
variable {X:Cx}{B:Bd}{pins:List (Addr×Obj)}{σ:L2.St}{H:Hp}{s:Shared}{M:Mem}
mutual
theorem vE(I:Inv X pins σ H s):∀{n:Nat} {d:D} {v:V} {u:Value},bZ n d=true->Rp X.K H d v->RelV v u->Hr s.heap d u
 |_,.non,v,u,_,r,q=>by cases r;exact q
 |_,.bl _,v,u,_,r,q=>by cases r;exact q
 |_,.int _,v,u,_,r,q=>by cases r;exact q
 |_,.str _,v,u,_,r,q=>by cases r;exact q
 |n+1,.tup xs,v,u,f,r,q=>by
  obtain ⟨p,vs,rfl,t,r⟩:=r;cases q;obtain ⟨its,rv,ht,_⟩:=I.tuple t.sq;exact ⟨p,its,rfl,ht,eQ I (n:=n) f r rv⟩
 |n+1,.lst xs,v,u,f,r,q=>by
  obtain ⟨p,vs,rfl,t,r⟩:=r;cases q;obtain ⟨its,rv,ht,_⟩:=I.list t.sq;exact ⟨p,its,rfl,ht.isList,eQ I (n:=n) f r rv⟩
 |0,.tup _,_,_,f,_,_=>by simp [bZ] at f
 |0,.lst _,_,_,f,_,_=>by simp [bZ] at f
 |_,.ty _,_,_,f,_,_=>by simp [bZ] at f
 |_,.ref _,_,_,f,_,_=>by simp [bZ] at f
 |_,.mt _,_,_,f,_,_=>by simp [bZ] at f
 |_,.ml _,_,_,f,_,_=>by simp [bZ] at f
theorem eQ(I:Inv X pins σ H s):∀{n:Nat} {ds:List D} {vs:List V} {us:List Value},fits n ds=true->Rps X.K H ds vs->Vals vs us->Hrs s.heap ds us
 |_,[],vs,us,_,r,q=>by cases r;cases q;rfl
 |n,d::ds,vs,us,f,r,q=>by
  obtain ⟨v,r',rfl,a,b⟩:=r;rw [fits,Bool.and_eq_true] at f;cases q with
  |cons q1 q2=>exact ⟨_,_,rfl,vE I f.1 a q1,eQ I f.2 b q2⟩
end
def dv(M:Mem):D->D
 |.ref a=>match M a with
  |some (.lst xs)=>.lst xs
  |_=>.ref a
 |d=>d
theorem kE(I:Inv X pins σ H s){n:Nat}{d:D}{v:V}{u:Value}(rh:RepH X.K H M)(f:bZ n (dv M d)=true)(r:Rp X.K H d v)(q:RelV v u):Hr s.heap (dv M d) u:=by
 cases d with
 |ref a=>
  cases r;simp only [dv] at f ⊢
  split at f
  ·rename_i xs e
   obtain ⟨vs,h1,h2⟩:=rh _ _ e;obtain ⟨its,rv,ht,_⟩:=I.list (jZ h1);cases q;cases n with
   |zero=>simp [bZ] at f
   |succ n=>exact ⟨a,its,rfl,ht.isList,eQ I (n:=n) f h2 rv⟩
  ·simp [bZ] at f
 |_=>exact vE I f r q
def gz:fP:=fun x y M Q=>bZ 60 (dv M x)=true/\bZ 60 (dv M y)=true/\Q (.bl (aN (dv M x) (dv M y))) M
def zV:fP:=fun x y M Q=>bZ 60 (dv M x)=true/\bZ 60 (dv M y)=true/\Q (.bl (!aN (dv M x) (dv M y))) M
theorem bE(hu:X.A.units+64<cLine):d5 X (compareOp .Eq) (liftR2 X gz):=by
 intro pins s σ H x y v u Q I rx ry h;obtain ⟨d1,d2,M,QQ,rh,r1,r2,⟨f1,f2,h⟩,up⟩:=h;exact Dp (kE I rh f1 r1 rx) (kE I rh f2 r2 ry) f1 f2 (by lia) _ _ _ _ ⟨.bl _,H,I,rfl,up _ M h _ H rh Frm.refl rfl⟩
theorem fK(hu:X.A.units+64<cLine):d5 X (compareOp .NotEq) (liftR2 X zV):=by
 intro pins s σ H x y v u Q I rx ry h;obtain ⟨d1,d2,M,QQ,rh,r1,r2,⟨f1,f2,h⟩,up⟩:=h;exact yQ (kE I rh f1 r1 rx) (kE I rh f2 r2 ry) f1 f2 (by lia) _ _ _ _ ⟨.bl _,H,I,rfl,up _ M h _ H rh Frm.refl rfl⟩
open Classical in
noncomputable def p4(h:Heap)(x:D)(u:Value):Bool:=if q:∃d,Hr h d u then aN q.choose x else false
theorem wD{h:Heap}{x d:D}{u:Value}(r:Hr h d u):p4 h x u=aN d x:=by
 have q:∃d,Hr h d u:=⟨d,r⟩;unfold p4;rw [dif_pos q,wb q.choose_spec r]
theorem gp{h:Heap}{x:D}:∀{ds:List D} {us:List Value},Hrs h ds us->us.any (p4 h x)=ds.any fun d=>aN d x
 |[],_,r=>by cases r;rfl
 |d::ds,_,r=>by
  obtain ⟨v,r',rfl,a,b⟩:=r;rw [List.any_cons,List.any_cons,wD a,gp b]
theorem g8{A:Around}{n:Nat}{x:D}{w:Value}(rx:Hr s.heap x w)(fx:bZ n x=true)(hu:A.units+n<cLine):∀{ds:List D} {us:List Value},Hrs s.heap ds us->fits n ds=true->∀u∈us,SeqAt.EqAt A s u w (p4 s.heap x u)
 |[],_,r,_,u,hu=>by cases r;cases hu
 |d::ds,_,r,f,u,h=>by
  obtain ⟨v,r',rfl,a,b⟩:=r;rw [fits,Bool.and_eq_true] at f;rcases List.mem_cons.mp h with rfl|h
  ·rw [wD a];exact zU n a rx f.1 fx hu
  ·exact g8 rx fx hu b f.2 u h
def mw(M:Mem)(x y:D):Option Bool:=match b_ M y with
 |some xs=>if bZ 60 (dv M x)=true/\fits 60 xs=true then some (xs.any fun d=>aN d (dv M x)) else none
 |none=>match y with
  |.ref a=>match kb M a x with
   |some o=>some o.isSome
   |none=>none
  |_=>none
def xP:fP:=fun x y M Q=>match mw M x y with
 |some k=>Q (.bl k) M
 |none=>False
def eO:fP:=fun x y M Q=>match mw M x y with
 |some k=>Q (.bl (!k)) M
 |none=>False
theorem wE(hu:X.A.units+64<cLine):d5 X (compareOp .In) (liftR2 X xP):=by
 intro pins s σ H x y v u Q I rx ry h;obtain ⟨d1,d2,M,QQ,rh,r1,r2,h,up⟩:=h;unfold xP at h
 split at h
 ·rename_i k e
  have fin:=up _ M h _ H rh Frm.refl rfl;unfold mw at e
  split at e
  ·rename_i xs ex
   split at e
   ·rename_i f
    cases e;obtain ⟨p,vs,rfl,hq,r⟩:=gu rh r2 ex;cases ry;have hx:=kE I rh f.1 r1 rx;rcases hq with hq|hq
    ·obtain ⟨its,rv,pl,_⟩:=I.list hq
     have hs:=eQ I f.2 r rv;refine SeqAt.in_listAt (p4 s.heap (dv M d1)) pl.isList (fun w hw=>g8 hx f.1 (by show X.A.units+1+60<cLine;lia) hs f.2 w (by simpa using hw)) ⟨.bl _,H,I,rfl,?_⟩
     rw [show its.toArray.any (p4 s.heap (dv M d1))=its.any (p4 s.heap (dv M d1)) by simp,gp hs]
     exact fin
    ·obtain ⟨its,rv,pl,_⟩:=I.tuple hq
     have hs:=eQ I f.2 r rv;refine SeqAt.in_tupleAt (p4 s.heap (dv M d1)) pl (fun w hw=>g8 hx f.1 (by show X.A.units+1+60<cLine;lia) hs f.2 w (by simpa using hw)) ⟨.bl _,H,I,rfl,?_⟩
     rw [show its.toArray.any (p4 s.heap (dv M d1))=its.any (p4 s.heap (dv M d1)) by simp,gp hs]
     exact fin
   ·cases e
  ·split at e
   ·split at e
    ·rename_i o eo
     cases e;cases r2;cases ry;rcases dL rh r1 eo with ⟨rfl,g⟩|⟨d,w,rfl,g,_⟩
     ·exact D9 (by lia) I g rx fun s' I'=>⟨.bl _,H,I',rfl,fin⟩
     ·exact D9 (by lia) I g rx fun s' I'=>⟨.bl _,H,I',rfl,fin⟩
    ·cases e
   ·cases e
 ·exact h.elim
theorem gC(hu:X.A.units+64<cLine):d5 X (compareOp .NotIn) (liftR2 X eO):=by
 intro pins s σ H x y v u Q I rx ry h;obtain ⟨d1,d2,M,QQ,rh,r1,r2,h,up⟩:=h;unfold eO at h
 split at h
 ·rename_i k e
  have fin:=up _ M h _ H rh Frm.refl rfl;unfold mw at e
  split at e
  ·rename_i xs ex
   split at e
   ·rename_i f
    cases e;obtain ⟨p,vs,rfl,hq,r⟩:=gu rh r2 ex;cases ry;have hx:=kE I rh f.1 r1 rx;rcases hq with hq|hq
    ·obtain ⟨its,rv,pl,_⟩:=I.list hq
     have hs:=eQ I f.2 r rv;refine SeqAt.notIn_listAt (p4 s.heap (dv M d1)) pl.isList (fun w hw=>g8 hx f.1 (by show X.A.units+1+60<cLine;lia) hs f.2 w (by simpa using hw)) ⟨.bl _,H,I,rfl,?_⟩
     rw [show its.toArray.any (p4 s.heap (dv M d1))=its.any (p4 s.heap (dv M d1)) by simp,gp hs]
     exact fin
    ·obtain ⟨its,rv,pl,_⟩:=I.tuple hq
     have hs:=eQ I f.2 r rv;refine SeqAt.notIn_tupleAt (p4 s.heap (dv M d1)) pl (fun w hw=>g8 hx f.1 (by show X.A.units+1+60<cLine;lia) hs f.2 w (by simpa using hw)) ⟨.bl _,H,I,rfl,?_⟩
     rw [show its.toArray.any (p4 s.heap (dv M d1))=its.any (p4 s.heap (dv M d1)) by simp,gp hs]
     exact fin
   ·cases e
  ·split at e
   ·split at e
    ·rename_i o eo
     cases e;cases r2;cases ry;rcases dL rh r1 eo with ⟨rfl,g⟩|⟨d,w,rfl,g,_⟩
     ·exact rD (by lia) I g rx fun s' I'=>⟨.bl _,H,I',rfl,fin⟩
     ·exact rD (by lia) I g rx fun s' I'=>⟨.bl _,H,I',rfl,fin⟩
    ·cases e
   ·cases e
 ·exact h.elim
end
end L3
namespace L3
open PySem L2
structure DEnds where
 nx:Dl->Mem->Prop
 rt:DK
 bk:Dl->Mem->Prop:=fun _ _=>False
 ct:Dl->Mem->Prop:=fun _ _=>False
abbrev aI:=DEnds->Dl->Mem->Prop
def UpN(X:Cx)(B:Bd)(M:Mem)(H:Hp)(QQ:Dl->Mem->Prop)(Q:L2.St->Hp->Prop):Prop:=∀δ M',QQ δ M'->∀σ H',Frm M H M' H'->SR X B δ M' σ H'->Q σ H'
theorem UpN.go{X:Cx}{B:Bd}{M M1:Mem}{H H1:Hp}{QQ:Dl->Mem->Prop}{Q:L2.St->Hp->Prop}(u:UpN X B M H QQ Q)(i:Frm M H M1 H1):UpN X B M1 H1 QQ Q:=fun δ M q σ H' a b=>u δ M q σ H' (i.trans a) b
structure UpD(X:Cx)(B:Bd)(M:Mem)(H:Hp)(DD:DEnds)(D:Ends):Prop where
 nx:UpN X B M H DD.nx D.nx
 rt:Up X.K M H DD.rt D.rt
 bk:UpN X B M H DD.bk D.bk
 ct:UpN X B M H DD.ct D.ct
theorem UpD.go{X:Cx}{B:Bd}{M M1:Mem}{H H1:Hp}{DD:DEnds}{D:Ends}(u:UpD X B M H DD D)(i:Frm M H M1 H1):UpD X B M1 H1 DD D:=⟨u.nx.go i,u.rt.go i,u.bk.go i,u.ct.go i⟩
inductive liftS(X:Cx)(B:Bd)(T:aI)(D:Ends)(σ:St)(H:Hp):Prop
 |mk (δ:Dl) (M:Mem) (DD:DEnds) (s:SR X B δ M σ H) (h:T DD δ M) (u:UpD X B M H DD D):liftS X B T D σ H
def DS(X:Cx)(B:Bd)(st:Stmt)(T:aI):Prop:=PS X st (liftS X B T)
def xh(X:Cx)(B:Bd)(st:List Stmt)(T:aI):Prop:=qY X st (liftS X B T)
section
variable {X:Cx}{B:Bd}{st:Stmt}{rest:List Stmt}{t u:aI}{e:Expr}{te:bH}{pos:Pos}
def bf:aI:=fun D δ M=>D.nx δ M
def aB(t u:aI):aI:=fun D δ M=>t { D with nx:=u D } δ M
theorem aK:xh X B [] bf:=jr yu fun D σ H ⟨δ,M,DD,s,h,up⟩=>up.nx δ M h σ H Frm.refl s
theorem af(h1:DS X B st t)(h2:xh X B rest u):xh X B (st::rest) (aB t u):=by
 refine jr (v4 h1 h2) ?_
 rintro D σ H ⟨δ,M,DD,s,h,up⟩
 exact ⟨δ,M,{ DD with nx:=u DD },s,h,⟨fun δ' M' q σ' H' i s'=>⟨δ',M',DD,s',q,up.go i⟩,up.rt,up.bk,up.ct⟩⟩
theorem ag(h1:DS X B st t):xh X B [st] t:=zj h1
def wG:aI:=fun D δ M=>D.bk δ M
theorem uo:DS X B (.Break pos) wG:=cg wv fun D σ H ⟨δ,M,DD,s,h,up⟩=>up.bk δ M h σ H Frm.refl s
def cI(te:bH):aI:=fun D δ M=>te δ M fun _ M1=>D.nx δ M1
theorem cr(he:DE X B e te)(hs:swapsWith e none pos.line X.env=pure false:=by rfl):DS X B (.Expr e pos) (cI te):=by
 refine cg (zk he hs) ?_
 rintro D σ H ⟨δ,M,DD,s,h,up⟩
 exact ⟨δ,M,_,s,h,fun d M' q v H' rh i r=>up.nx δ M' q σ H' i (s.go rh i)⟩
def aX(te:bH):aI:=fun D δ M=>te δ M D.rt
theorem ay(he:DE X B e te):DS X B (.Return (some e) pos) (aX te):=by
 refine cg (Bf he) ?_
 rintro D σ H ⟨δ,M,DD,s,h,up⟩
 exact ⟨δ,M,_,s,h,up.rt⟩
def bC(c:eg)(t u:aI):aI:=fun D δ M=>c δ M fun b M1=>if b=true then t D δ M1 else u D δ M1
theorem bj{c:Expr}{a b:List Stmt}{tc:eg}(hc:DT X B c tc)(ha:xh X B a t)(hb:xh X B b u):DS X B (.If c a b pos) (bC tc t u):=by
 refine cg (Ct hc ha hb) ?_
 rintro D σ H ⟨δ,M,DD,s,h,up⟩
 refine ⟨δ,M,_,s,h,fun c M' q H' rh i=>?_⟩;cases c with
 |true=>rw [if_pos rfl] at q ⊢;exact ⟨δ,M',DD,s.go rh i,q,up.go i⟩
 |false=>rw [if_neg Bool.false_ne_true] at q ⊢;exact ⟨δ,M',DD,s.go rh i,q,up.go i⟩
abbrev jA:=D->Dl->Mem->(Dl->Mem->Prop)->Prop
abbrev mW:=List D->Dl->Mem->(Dl->Mem->Prop)->Prop
inductive liftG(X:Cx)(B:Bd)(g:jA)(v:V)(σ:St)(H:Hp)(Q:St->Hp->Prop):Prop
 |mk (d:L3.D) (δ:Dl) (M:Mem) (QQ:Dl->Mem->Prop) (s:SR X B δ M σ H) (r:Rp X.K H d v) (h:g d δ M QQ) (u:UpN X B M H QQ Q):liftG X B g v σ H Q
inductive liftGs(X:Cx)(B:Bd)(g:mW)(vs:List V)(σ:St)(H:Hp)(Q:St->Hp->Prop):Prop
 |mk (ds:List L3.D) (δ:Dl) (M:Mem) (QQ:Dl->Mem->Prop) (s:SR X B δ M σ H) (r:Rps X.K H ds vs) (h:g ds δ M QQ) (u:UpN X B M H QQ Q):liftGs X B g vs σ H Q
def DG(X:Cx)(B:Bd)(tg:Expr)(g:jA):Prop:=PG X tg (liftG X B g)
def DGs(X:Cx)(B:Bd)(tgs:List Expr)(g:mW):Prop:=Af X tgs (liftGs X B g)
theorem iB{tg:Expr}{t t':TG}(h:PG X tg t)(w:∀v σ H Q,t' v σ H Q->t v σ H Q):PG X tg t':=fun pins s σ H v u Q I r q=>h pins s σ H v u Q I r (w v σ H Q q)
theorem ow{tg:List Expr}{t t':zH}(h:Af X tg t)(w:∀v σ H Q,t' v σ H Q->t v σ H Q):Af X tg t':=fun pins s σ H v u Q I r q=>h pins s σ H v u Q I r (w v σ H Q q)
theorem SR.set{δ:Dl}{M:Mem}{σ:L2.St}{H:Hp}{i:Nat}{d:D}{v:V}(s:SR X B δ M σ H)(r:Rp X.K H d v):SR X B (δ.set i (some d)) M (σ.set i (some v)) H:=⟨s.i0,s.rh,s.rs.set r⟩
def ao(i:Nat):jA:=fun d δ M Q=>Q (δ.set i (some d)) M
theorem aT{i:Nat}{x:Str}(hN:X.N.Nodup)(hi:X.N[i]?=some x)(hx:xg X.env.scope x)(hf:X.fn x=true\/X.env.scope.names.lookup x=some .local:=by first|exact .inl rfl|exact .inr rfl|assumption):DG X B (.Name x pos) (ao i):=by
 refine iB (xy hN hi hx hf) ?_
 rintro v σ H Q ⟨d,δ,M,QQ,s,r,h,u⟩
 exact u _ M h _ H Frm.refl (s.set r)
def dZ:mW:=fun ds δ M Q=>match ds with
 |[]=>Q δ M
 |_=>False
def bD(t:jA)(u:mW):mW:=fun ds δ M Q=>match ds with
 |d::r=>t d δ M fun δ' M'=>u r δ' M' Q
 |[]=>False
theorem dR:DGs X B [] dZ:=by
 refine ow xB ?_
 rintro v σ H Q ⟨ds,δ,M,QQ,s,r,h,u⟩
 cases ds with
 |nil=>exact ⟨r,u δ M h σ H Frm.refl s⟩
 |cons _ _=>exact (show False from h).elim
theorem bK{e:Expr}{es:List Expr}{t:jA}{u:mW}(h1:DG X B e t)(h2:DGs X B es u)
  (hs:(assignEach (e::es) X.env).map (·.2)=assign e X.env::(assignEach es X.env).map (·.2):=by rfl):DGs X B (e::es) (bD t u):=by
 refine ow (wZ h1 h2 hs) ?_
 rintro v σ H Q ⟨ds,δ,M,QQ,s,r,h,up⟩
 cases ds with
 |nil=>exact (show False from h).elim
 |cons d ds=>
  obtain ⟨v1,vr,rfl,r1,r2⟩:=r;refine ⟨v1,vr,rfl,d,δ,M,_,s,r1,h,fun δ' M' q σ' H' i s'=>?_⟩;exact ⟨ds,δ',M',QQ,s',r2.mf s.rh i,q,up.go i⟩
def d_(n:Nat)(t:mW):jA:=fun d δ M Q=>match d with
 |.tup xs=>xs.length=n/\t xs δ M Q
 |_=>False
theorem fO{es:List Expr}{k:Nat}{t:mW}{n:Nat}(hc:X.calm=true)(h:DGs X B es t)
  (hn:(assignEach es X.env).length=n:=by rfl) (hst:(assignEach es X.env).findIdx? (·.1)=none:=by rfl):DG X B (.Tuple es k pos) (d_ n t):=by
 refine iB (C6 hc h hn hst) ?_
 rintro v σ H Q ⟨d,δ,M,QQ,s,r,h,up⟩
 cases d with
 |tup xs=>
  obtain ⟨p,vs,rfl,ht,r⟩:=r;exact ⟨p,vs,rfl,ht.sq,by rw [<- r.length];exact h.1,xs,δ,M,QQ,s,r,h.2,up⟩
 |_=>exact (show False from h).elim
def bd(te:bH)(g:jA):aI:=fun D δ M=>te δ M fun x M1=>g x δ M1 D.nx
theorem fJ{tg e:Expr}{te:bH}{g:jA}(he:DE X B e te)(hg:DG X B tg g)(hs:swapsWithSole [tg] e pos.line X.env=pure false:=by rfl)(hw:swappedStores [tg] e X.env=pure none:=by rfl)
  (h1:(assignEach [tg] X.env).map (·.2)=[assign tg X.env]:=by rfl):DS X B (.Assign [tg] e pos) (bd te g):=by
 refine cg (BS he hg hs hw h1) ?_
 rintro D σ H ⟨δ,M,DD,s,h,up⟩
 refine ⟨δ,M,_,s,h,fun d M' q v H' rh i r=>?_⟩;exact ⟨d,δ,M',DD.nx,s.go rh i,r,q,up.nx.go i⟩
theorem aJ{i:Nat}{x:Str}{e:Expr}{te:bH}{pos':Pos}(hN:X.N.Nodup)(hi:X.N[i]?=some x)(hx:xg X.env.scope x)(he:DE X B e te)(hs:swapsWith e (some (.Name x pos')) pos.line X.env=pure false:=by rfl)(hf:X.fn x=true\/X.env.scope.names.lookup x=some .local:=by first|exact .inl rfl|exact .inr rfl|assumption):
  DS X B (.Assign [.Name x pos'] e pos) (bd te (ao i)):=by
 refine cg (Ac hN hi hx he hs hf) ?_
 rintro D σ H ⟨δ,M,DD,s,h,up⟩
 refine ⟨δ,M,_,s,h,fun d M' q v H' rh i r=>?_⟩;exact up.nx _ M' q _ H' i ((s.go rh i).set r)
def sJ(i:Nat)(te:bH)(r:fP):aI:=fun D δ M=>match δ[i]? with
 |some (some x)=>te δ M fun y M1=>r x y M1 fun z M2=>D.nx (δ.set i (some z)) M2
 |_=>False
theorem pT{i:Nat}{x:Str}{e:Expr}{te:bH}{op:Operator}{r:fP}{pos':Pos}(hN:X.N.Nodup)(hi:X.N[i]?=some x)(hx:xg X.env.scope x)(he:DE X B e te)(ho:Ci X op (liftR2 X r))(hf:X.fn x=true\/X.env.scope.names.lookup x=some .local:=by first|exact .inl rfl|exact .inr rfl|assumption):
  DS X B (.AugAssign (.Name x pos') op e pos) (sJ i te r):=by
 refine cg (Am hN hi hx he ho hf) ?_
 rintro D σ H ⟨δ,M,DD,s,h,up⟩
 unfold sJ at h
 split at h
 ·rename_i x' ex
  obtain ⟨v,hv,rv⟩:=s.rs.get i x' ex;refine ⟨v,hv,δ,M,_,s,h,fun y M1 h1 w H1 rh1 i1 r1=>?_⟩;refine ⟨x',y,M1,_,rh1,rv.mf s.rh i1,r1,h1,fun z M2 h2 w2 H2 rh2 i2 r2=>?_⟩;exact up.nx _ M2 h2 _ H2 (i1.trans i2) ((s.go rh2 (i1.trans i2)).set r2)
 ·exact h.elim
theorem Do{op:Operator}{g:Int->Int->Int}(h:Ci X op (ipI g)):Ci X op (liftR2 X (xT fun i j=>.int (g i j))):=by
 intro pins s σ H x y v u Q I rx ry hq;obtain ⟨d1,d2,M,QQ,rh,r1,r2,hq,up⟩:=hq;unfold xT at hq
 split at hq
 ·cases r1;cases r2
  exact h pins s σ H _ _ v u Q I rx ry ⟨_,_,rfl,rfl,up _ M hq _ H rh Frm.refl rfl⟩
 ·exact hq.elim
abbrev nP:fP:=xT fun i j=>.int (i+j)
theorem lN:Ci X .Add (liftR2 X nP):=Do Bo
def yc(o i v:D)(M:Mem)(Q:Mem->Prop):Prop:=match o with
 |.ref a=>match M a,i with
  |some (.lst xs),.int k=>match xj xs.length k with
   |some j=>Q (M.upd a (.lst (xs.set j v)))
   |none=>False
  |some (.dK kvs),y=>match db y with
   |some k=>kvs.length<sizeLine/\Q (M.upd a (.dK (di kvs k v)))
   |none=>False
  |some (.dT kvs),y=>match kT y with
   |some k=>kvs.length<sizeLine/\Q (M.upd a (.dT (di kvs k v)))
   |none=>False
  |_,_=>False
 |_=>False
inductive liftSet(X:Cx)(o i v:V)(H:Hp)(Q:Hp->Prop):Prop
 |mk (d1 d2 d3:L3.D) (M:Mem) (QQ:Mem->Prop) (rh:RepH X.K H M) (r1:Rp X.K H d1 o) (r2:Rp X.K H d2 i) (r3:Rp X.K H d3 v) (h:yc d1 d2 d3 M QQ) (u:∀M',QQ M'->∀H',RepH X.K H' M'->Frm M H M' H'->Q H'):liftSet X o i v H Q
theorem xt(hu:X.A.units+1<cLine):A7 X (liftSet X):=by
 intro pins s σ H o i v ov iv u Q I ro ri rv h;obtain ⟨d1,d2,d3,M,QQ,rh,r1,r2,r3,h,up⟩:=h;unfold yc at h
 split at h
 ·rename_i a
  cases r1;cases ro
  split at h
  ·rename_i xs k hM
   cases r2;obtain ⟨vs,h1,h2⟩:=rh _ _ hM
   split at h
   ·rename_i j ej
    refine ww pins s σ H (.ref a) _ v _ iv u Q I rfl ri rv ⟨a,vs,k,j,rfl,rfl,h1,by rw [<- h2.length];exact ej,?_⟩
    have i2:Imm H (upd H a (.lst (vs.set j v))):=Imm.upd (by rw [h1];trivial)
    exact up _ h _ (rh.put (by rw [h1];trivial) ⟨_,upd_same,(h2.set r3 j).mono i2⟩) (Frm.put (.inr ⟨_,hM⟩))
   ·exact h.elim
  ·rename_i kvs hM
   obtain ⟨ws,h1,h2⟩:=rh _ _ hM
   split at h
   ·rename_i k ek
    have ev:=kR r2 ek;subst ev;have i2:Imm H (upd H a (.dK (cF ws k v))):=Imm.upd (by rw [h1];trivial)
    refine kg hu I (Cb h1 (by rw [<- h2.length];exact h.1)) ri rv fun s' I'=>⟨_,I',?_⟩
    exact up _ h.2 _ (rh.put (by rw [h1];trivial) ⟨_,upd_same,(h2.put k r3).mono i2⟩) (Frm.put (.inr ⟨_,hM⟩))
   ·exact h.elim
  ·rename_i kvs hM
   obtain ⟨ws,h1,h2⟩:=rh _ _ hM
   split at h
   ·rename_i k ek
    obtain ⟨b,rfl,hb⟩:=jL r2 ek;have i2:Imm H (upd H a (.dT (cF ws k v))):=Imm.upd (by rw [h1];trivial)
    refine kg hu I (DPut.t h1 hb (by rw [<- h2.length];exact h.1)) ri rv fun s' I'=>⟨_,I',?_⟩
    exact up _ h.2 _ (rh.put (by rw [h1];trivial) ⟨_,upd_same,(h2.put k r3).mono i2⟩) (Frm.put (.inr ⟨_,hM⟩))
   ·exact h.elim
  ·exact h.elim
 ·exact h.elim
def oE(to ti:bH):jA:=fun v δ M Q=>to δ M fun o M1=>ti δ M1 fun i M2=>yc o i v M2 fun M3=>Q δ M3
theorem ji{o i:Expr}{to ti:bH}(hu:X.A.units+1<cLine)(ho:DE X B o to)(hi:DE X B i ti)
  (ha:∀v,assign (.Subscript o i pos) X.env v=(do
   let ov <- holding [v] (eval o X.env)
   let iv <- holding [v,ov] (eval i X.env)
   standAt pos
   holding [v,ov,iv] (setItem ov iv v)
   release [v,ov,iv] []):=by intro _;rfl):DG X B (.Subscript o i pos) (oE to ti):=by
 refine iB (BZ ho hi (xt hu) ha) ?_
 rintro v σ H Q ⟨d,δ,M,QQ,s,r,h,up⟩
 refine ⟨δ,M,_,s,h,fun x M1 h1 v1 H1 rh1 i1 r1=>?_⟩;refine ⟨δ,M1,_,s.go rh1 i1,h1,fun y M2 h2 v2 H2 rh2 i2 r2=>?_⟩;exact ⟨x,y,d,M2,_,rh2,r1.mf rh1 i2,r2,r.mf s.rh (i1.trans i2),h2,fun M3 h3 H3 rh3 i3=>up δ M3 h3 σ H3 ((i1.trans i2).trans i3) (s.go rh3 ((i1.trans i2).trans i3))⟩
end
end L3
namespace L3
open PySem L2
section
variable {X:Cx}{B:Bd}{o e value:Expr}{f:Str}{pos pos' tpos:Pos}{ta tv te:bH}{C:Addr}
def dz(f:Str)(v:D):List (Str×D)->List (Str×D)
 |[]=>[(f,v)]
 |(g,w)::r=>if g=f then (g,v)::r else (g,w)::dz f v r
theorem Rkv.lookup{K:W.Frag}{H:Hp}{fs:List (Str×D)}{ws:List (Str×V)}(h:Rkv K H fs ws)(f:Str):(fs.lookup f=none/\ws.lookup f=none)\/∃d v,fs.lookup f=some d/\ws.lookup f=some v/\Rp K H d v:=by
 induction h with
 |nil=>exact .inl ⟨rfl,rfl⟩
 |@cons p q ps qs r t ih=>
  obtain ⟨k1,d⟩:=p;obtain ⟨k2,v⟩:=q;obtain ⟨e,r⟩:=r;dsimp only at e r;subst e;rw [List.lookup_cons,List.lookup_cons];cases hk:f==k1 with
  |true=>exact .inr ⟨d,v,rfl,rfl,r⟩
  |false=>exact ih
theorem yA(f:Str)(v:V):∀ws:List (Str×V),d8 f v ws=(match ws with|[]=>[(f,v)]|(g,w)::r=>if g=f then (g,v)::r else (g,w)::d8 f v r)
 |[]=>rfl
 |(g,w)::r=>by rw [d8]
theorem oY{K:W.Frag}{H:Hp}{f:Str}{d:D}{v:V}(rd:Rp K H d v):∀{fs:List (Str×D)} {ws:List (Str×V)},Rkv K H fs ws->Rkv K H (dz f d fs) (L2.d8 f v ws)
 |_,_,.nil=>.cons ⟨rfl,rd⟩ .nil
 |(k1,d1)::fs,(k2,v1)::ws,.cons r t=>by
  obtain ⟨e,r⟩:=r;dsimp only at e r;subst e;rw [yA];show Rkv K H (if k1=f then (k1,d)::fs else (k1,d1)::dz f d fs) (if k1=f then (k1,v)::ws else (k1,v1)::L2.d8 f v ws)
  split
  ·exact .cons ⟨rfl,rd⟩ t
  ·exact .cons ⟨rfl,r⟩ (oY rd t)
def cU(C:Addr)(ta:bH)(f:Str):bH:=fun δ M Q=>ta δ M fun x M1=>match x with
 |.ref a=>match M1 a with
  |some (.ins C' fs)=>C'=C/\match fs.lookup f with
   |some d=>Q d M1
   |none=>False
  |_=>False
 |_=>False
theorem bO(c:Cls X.K C)(n:NoAttr X.K C f)(he:DE X B e ta)(hb:attributeBase e f X.env (eval e X.env)=eval e X.env:=by rfl):DE X B (.Attribute e f pos) (cU C ta f):=by
 refine aU (BV he hb) ?_
 rintro σ H Q ⟨δ,M,QQ,s,h,u⟩
 refine ⟨δ,M,_,s,h,fun x M1 h1 v1 H1 rh1 i1 r1=>?_⟩
 split at h1
 ·rename_i a
  cases r1
  split at h1
  ·rename_i C' fs hM
   obtain ⟨rfl,h1⟩:=h1;obtain ⟨dx,ws,e1,e2⟩:=rh1 _ _ hM
   split at h1
   ·rename_i d ed
    rcases e2.lookup f with ⟨z,_⟩|⟨d',v,z1,z2,z3⟩
    ·rw [ed] at z;cases z
    ·rw [ed] at z1;cases z1
     exact ⟨a,_,dx,ws,v,rfl,e1,c,n,z2,u _ M1 h1 _ H1 rh1 i1 z3⟩
   ·exact h1.elim
  ·exact h1.elim
 ·exact h1.elim
def gm(C:Addr)(ta tv:bH)(f:Str):aI:=fun D δ M=>tv δ M fun y M1=>ta δ M1 fun x M2=>match x with
 |.ref a=>match M2 a with
  |some (.ins C' fs)=>C'=C/\fs.length<1000/\D.nx δ (M2.upd a (.ins C (dz f y fs)))
  |_=>False
 |_=>False
theorem eR(c:Cls X.K C)(n:NoAttr X.K C f)(ha:DE X B o ta)(hv:DE X B value tv)(hs:swapsWith value (some (.Attribute o f pos')) pos.line X.env=pure false:=by rfl):DS X B (.Assign [.Attribute o f pos'] value pos) (gm C ta tv f):=by
 refine cg (Ae ha hv hs) ?_
 rintro D σ H ⟨δ,M,DD,s,h,up⟩
 refine ⟨δ,M,_,s,h,fun y M1 h1 v1 H1 rh1 i1 r1=>?_⟩;refine ⟨δ,M1,_,s.go rh1 i1,h1,fun x M2 h2 v2 H2 rh2 i2 r2=>?_⟩
 split at h2
 ·rename_i a
  cases r2
  split at h2
  ·rename_i C' fs hM
   obtain ⟨rfl,hl,h2⟩:=h2;obtain ⟨dx,ws,e1,e2⟩:=rh2 _ _ hM;have i3:Frm M2 H2 (M2.upd a (.ins C' (dz f y fs))) (upd H2 a (.ins C' dx (L2.d8 f v1 ws))):=Frm.put (.inr ⟨_,hM⟩);refine ⟨a,C',dx,ws,rfl,e1,c,n,by rw [<- e2.length];exact hl,up.nx _ _ h2 σ _ ((i1.trans i2).trans i3) (s.go (rh2.put (by rw [e1];trivial) ⟨dx,_,upd_same,?_⟩) ((i1.trans i2).trans i3))⟩
   exact (oY (r1.mf rh1 i2) e2).mono (i3.imm rh2)
  ·exact h2.elim
 ·exact h2.elim
structure BxW(c:eg)(tb:aI)(D:DEnds):Type
structure BxF(g:jA)(tb:aI)(D:DEnds)(ok:Mem->Prop):Type
def whileD(c:eg)(tb:aI)(D:DEnds)(bx:BxW c tb D):Nat->Dl->Mem->Prop
 |0,_,_=>False
 |n+1,δ,M=>c δ M fun b M1=>if b=true then tb { D with nx:=whileD c tb D bx n,ct:=whileD c tb D bx n,bk:=D.nx } δ M1 else D.nx δ M1
def dWhile(c:eg)(tb:aI):aI:=fun D δ M=>∃n,whileD c tb D ⟨⟩ n δ M
theorem jc{c:Expr}{body:List Stmt}{tc:eg}{tb:aI}(hp:PassesOwn (model X.prog X.w) X.A X.env X.xe)(hc:DT X B c tc)(hb:xh X B body tb):DS X B (.While c body [] pos) (dWhile tc tb):=by
 refine cg (u9 hp hc hb) ?_
 rintro D σ H ⟨δ,M,DD,s,⟨n,h⟩,up⟩
 refine ⟨fun m σ' H'=>∃δ' M',SR X B δ' M' σ' H'/\Frm M H M' H'/\whileD tc tb DD ⟨⟩ m δ' M',⟨n,δ,M,s,Frm.refl,h⟩,?_⟩
 rintro m σ1 H1 ⟨δ1,M1,s1,i1,h1⟩
 cases m with
 |zero=>exact (show False from h1).elim
 |succ m=>
  refine ⟨δ1,M1,_,s1,h1,fun b M2 q H2 rh2 i2=>?_⟩;cases b with
  |false=>rw [if_neg Bool.false_ne_true] at q ⊢;exact up.nx _ _ q σ1 H2 (i1.trans i2) (s1.go rh2 i2)
  |true=>
   rw [if_pos rfl] at q ⊢;refine ⟨fun σ' H'=>∃δ' M',SR X B δ' M' σ' H'/\Frm M H M' H'/\whileD tc tb DD ⟨⟩ m δ' M',fun σ' H' z=>⟨m,Nat.lt_succ_self _,z⟩,?_⟩;refine ⟨δ1,M2,_,s1.go rh2 i2,q,⟨?_,(up.go (i1.trans i2)).rt,(up.go (i1.trans i2)).nx,?_⟩⟩
   ·exact fun δ3 M3 q3 σ3 H3 i3 s3=>⟨δ3,M3,s3,(i1.trans i2).trans i3,q3⟩
   ·exact fun δ3 M3 q3 σ3 H3 i3 s3=>⟨δ3,M3,s3,(i1.trans i2).trans i3,q3⟩
structure DIt where
 items:List D
 src:List (Addr×List D)
def DIt.ok(I:DIt)(M:Mem):Prop:=∀p∈I.src,M p.1=some (.lst p.2)
abbrev u5:=Dl->Mem->(DIt->Mem->Prop)->Prop
def D5(K:W.Frag)(H0:Hp)(it:DIt)(J:It):Prop:=∀(i:Nat) (H:Hp) (M:Mem),Imm H0 H->RepH K H M->it.ok M->
 (∀d,it.items[i]?=some d->J.go i H/\∀x H',J.yld i H x H'->Frm M H M H'/\RepH K H' M/\Rp K H' d x)/\(it.items.length<=i->J.stop i H)
inductive liftI(X:Cx)(B:Bd)(T:u5)(σ:St)(H:Hp)(R:It->Hp->Prop):Prop
 |mk (δ:Dl) (M:Mem) (RR:DIt->Mem->Prop) (s:SR X B δ M σ H) (h:T δ M RR) (u:∀it M',RR it M'->∀J H',RepH X.K H' M'->Frm M H M' H'->D5 X.K H' it J->R J H'):liftI X B T σ H R
def DI(X:Cx)(B:Bd)(tg iter:Expr)(T:u5):Prop:=PI X tg iter (liftI X B T)
theorem fR{tg iter:Expr}{t t':TI}(h:PI X tg iter t)(w:∀σ H Q,t' σ H Q->t σ H Q):PI X tg iter t':=fun pins s σ H Q I q=>h pins s σ H Q I (w σ H Q q)
def qm(g:jA)(tb:aI)(DD:DEnds)(ok:Mem->Prop)(b:BxF g tb DD ok):List D->Dl->Mem->Prop
 |[],δ,M=>ok M/\DD.nx δ M
 |x::xs,δ,M=>ok M/\g x δ M fun δ2 M2=>tb { DD with nx:=qm g tb DD ok b xs,ct:=qm g tb DD ok b xs,bk:=DD.nx } δ2 M2
def dFor(wi:u5)(g:jA)(tb:aI):aI:=fun D δ M=>wi δ M fun it M1=>qm g tb D it.ok ⟨⟩ it.items δ M1
theorem z8{g:jA}{tb:aI}{DD:DEnds}{ok:Mem->Prop}{b:BxF g tb DD ok}{xs:List D}{δ:Dl}{M:Mem}(h:qm g tb DD ok b xs δ M):ok M:=by
 cases xs with
 |nil=>exact h.1
 |cons _ _=>exact h.1
theorem lS{tg iter:Expr}{body:List Stmt}{wi:u5}{g:jA}{tb:aI}(hp:PassesOwn (model X.prog X.w) X.A X.env X.xe)(hc:X.calm=true)(hi:DI X B tg iter wi)(hg:DG X B tg g)(hb:xh X B body tb)
  (hs:∀x,foldedSetIterable iter X.env x=pure x:=by intro _;rfl):DS X B (.For tg iter body [] pos) (dFor wi g tb):=by
 refine cg (BH hp hc hi hg hb hs) ?_
 rintro D σ H ⟨δ,M,DD,s,h,up⟩
 refine ⟨δ,M,_,s,h,fun it M1 h1 J H1 rh1 i1 hJ=>?_⟩;refine ⟨fun i m σ' H'=>m=it.items.length-i/\i<=it.items.length/\∃δ' M',SR X B δ' M' σ' H'/\Frm M1 H1 M' H'/\qm g tb DD it.ok ⟨⟩ (it.items.drop i) δ' M',⟨_,rfl,Nat.zero_le _,δ,M1,s.go rh1 i1,Frm.refl,h1⟩,?_⟩
 rintro i m σ2 H2 ⟨rfl,hi',δ2,M2,s2,i2,h2⟩
 have hok:=z8 h2;obtain ⟨hgo,hstop⟩:=hJ i H2 M2 (i2.imm rh1) s2.rh hok
 by_cases hlt:i<it.items.length
 ·rw [List.drop_eq_getElem_cons hlt] at h2
  obtain ⟨go,hy⟩:=hgo _ (List.getElem?_eq_getElem hlt);refine .inr ⟨go,fun σ' H'=>∃δ' M',SR X B δ' M' σ' H'/\Frm M1 H1 M' H'/\qm g tb DD it.ok ⟨⟩ (it.items.drop (i+1)) δ' M',fun σ' H' z=>⟨it.items.length-(i+1),by omega,rfl,hlt,z⟩,fun x H3 hx=>?_⟩
  obtain ⟨i3,rh3,rx⟩:=hy x H3 hx;refine ⟨_,δ2,M2,_,s2.go rh3 i3,rx,h2.2,fun δ4 M4 h4 σ4 H4 i4 s4=>?_⟩;have i14:=(i2.trans i3).trans i4;refine ⟨δ4,M4,_,s4,h4,⟨?_,(up.go (i1.trans i14)).rt,(up.go (i1.trans i14)).nx,?_⟩⟩
  ·exact fun δ5 M5 q5 σ5 H5 i5 s5=>⟨δ5,M5,s5,i14.trans i5,q5⟩
  ·exact fun δ5 M5 q5 σ5 H5 i5 s5=>⟨δ5,M5,s5,i14.trans i5,q5⟩
 ·rw [List.drop_eq_nil_of_le (by omega)] at h2
  exact .inl ⟨hstop (by omega),up.nx _ _ h2.2 σ2 H2 (i1.trans i2) s2⟩
end
end L3
namespace L2
open PySem PySem.Spec PyProof.Rows
section
variable {X:Cx}{B:Bd}{tg:Expr}
def Da(K:W.Frag)(tl:TE):TI:=fun σ H R=>tl σ H fun x H1=>∃a b xs,x=.ref a/\ku K b H1 a xs/\R (if b=true then Itl K a else Itt K a) H1
theorem x_{l:Expr}{tl:TE}(hl:PE X l tl):PI X tg l (Da X.K tl):=by
 intro pins s σ H R I h;refine thn (hl pins s σ H _ I h) fun v s1 ⟨x,H1,I1,r1,q1⟩=>?_;obtain ⟨a,b,xs,e,hq,q⟩:=q1;subst e;cases r1;cases b with
 |true=>
  obtain ⟨its,rv,p,hz⟩:=I1.list (show SqL X.K H1 a xs from hq);refine wpAny_pyIter_list p.isList ?_;refine ⟨s1.heap.objs.size,[s1.heap.objs.size],_,_,H1,rfl,I1.kept (t':=s1.toks) fun b o e=>Heap.get?_push_of_some _ e,sV a _,⟨_,Heap.get?_push_size _ rfl,rfl,rfl⟩,fun b hb=>?_,q⟩;have e:b=s1.heap.objs.size:=by simpa using hb
  subst e;exact I1.fpOk (Nat.le_refl _) (I1.hok.fresh (Nat.le_refl _))
 |false=>
  obtain ⟨its,rv,p,hz⟩:=I1.tuple (show gE X.K H1 a xs from hq);refine wpAny_pyIter_tuple (show s1.heap.IsTuple a its.toArray from p) ?_;refine ⟨s1.heap.objs.size,[s1.heap.objs.size],_,_,H1,rfl,I1.kept (t':=s1.toks) fun b o e=>Heap.get?_push_of_some _ e,qD a _,⟨_,Heap.get?_push_size _ rfl,rfl,rfl⟩,fun b hb=>?_,q⟩;have e:b=s1.heap.objs.size:=by simpa using hb
  subst e;exact I1.fpOk (Nat.le_refl _) (I1.hok.fresh (Nat.le_refl _))
def CB(K:W.Frag)(t:TA):TI:=fun σ H R=>t σ H fun vs H1=>∃b1 b2 l1 l2 xs ys,vs=[.ref l1,.ref l2]/\ku K b1 H1 l1 xs/\ku K b2 H1 l2 ys/\R (Itz K b1 b2 l1 l2) H1
theorem zo{a b:Expr}{elts:List Expr}{x1:Nat}{tp:Pos}{ta:TA}{p pos:Pos}(hg:Gl X "zip")(hm:X.mg "zip"=none)(ha:PA X [a,b] ta)
  (hs:starEach [a,b] X.env=[(false,eval a X.env),(false,eval b X.env)]:=by rfl) (hs2:starEach [b] X.env=[(false,eval b X.env)]:=by rfl):
  PI X (.Tuple elts x1 tp) (.Call (.Name "zip" p) [a,b] [] pos) (CB X.K ta):=by
 intro pins s σ H R I h;refine Call_ (ld_blt I hg hm (by decide +kernel:bootBuiltins "zip"=some (.type "zip")) (PyProof.Rows.callWith_type1 (thn (ha pos pins s σ H _ I h) fun us s1 ⟨vs,H1,I1,r1,q1⟩=>?_) (by rw [hs,hs2]) (by rw [hs2];rfl)))
 obtain ⟨b1,b2,l1,l2,xs,ys,e,q1,q2,q⟩:=q1;subst e;obtain ⟨u1,u2,rfl,ru1,ru2⟩:=r1.two;cases ru1;cases ru2;obtain ⟨its1,rv1,sq1,z1⟩:=I1.src q1;obtain ⟨its2,rv2,sq2,z2⟩:=I1.src q2;refine oJ sq1 sq2 fun h' hz hTI hTO h1 h2 hsz hk=>?_;have I2:Inv X pins σ H1 { s1 with heap:=h' }:=I1.kept (t':=s1.toks) hk;refine wpAny_pyIter_zip (s:={ s1 with heap:=h' }) hz ?_;have D:ZApart (s1.heap.objs.size+4) (s1.heap.objs.size+2) (s1.heap.objs.size+3) s1.heap.objs.size (s1.heap.objs.size+1):=by constructor<;>exact (show (_:Nat)≠(_:Nat) by lia)
 refine ⟨s1.heap.objs.size+4,[s1.heap.objs.size+4,s1.heap.objs.size+2,s1.heap.objs.size+3,s1.heap.objs.size,s1.heap.objs.size+1],_,_,H1,rfl,I2,uA b1 b2 l1 l2 _ _ _ _ _ D,⟨hz,hTI,⟨_,_,hTO⟩,h1,h2⟩,fun b hb=>?_,q⟩;have hb':s1.heap.objs.size<=b:=by
  have hb2:b=s1.heap.objs.size+4\/b=s1.heap.objs.size+2\/b=s1.heap.objs.size+3\/b=s1.heap.objs.size\/b=s1.heap.objs.size+1:=by simpa using hb
  rcases hb2 with e|e|e|e|e<;>rw [e]<;>first|exact Nat.le_add_right _ _|exact Nat.le_refl _
 exact I1.fpOk (H':=H1) hb' (I1.hok.fresh hb')
def As(K:W.Frag)(t:TA):TI:=fun σ H R=>t σ H fun vs H1=>∃b l xs,vs=[.ref l]/\ku K b H1 l xs/\R (Ite K b l) H1
theorem w4{a:Expr}{elts:List Expr}{x1:Nat}{tp:Pos}{ta:TA}{p pos:Pos}(hg:Gl X "enumerate")(hm:X.mg "enumerate"=none)(ha:PA X [a] ta)(hs:starEach [a] X.env=[(false,eval a X.env)]:=by rfl):
  PI X (.Tuple elts x1 tp) (.Call (.Name "enumerate" p) [a] [] pos) (As X.K ta):=by
 intro pins s σ H R I h;refine Call_ (ld_blt I hg hm (by decide +kernel:bootBuiltins "enumerate"=some (.type "enumerate")) (PyProof.Rows.callWith_type1 (thn (ha pos pins s σ H _ I h) fun us s1 ⟨vs,H1,I1,r1,q1⟩=>?_) hs rfl))
 obtain ⟨b,l,xs,e,q1,q⟩:=q1;subst e;obtain ⟨u1,rfl,ru1⟩:=r1.one;cases ru1;obtain ⟨its,rv,sq,z⟩:=I1.src q1;refine sO sq fun h' he h1 hsz hk=>?_;have I2:Inv X pins σ H1 { s1 with heap:=h' }:=I1.kept (t':=s1.toks) hk;refine wpAny_pyIter_enum (s:={ s1 with heap:=h' }) he ?_;refine ⟨s1.heap.objs.size+1,[s1.heap.objs.size+1,s1.heap.objs.size],_,_,H1,rfl,I2,tX b l _ _ (show (_:Nat)≠(_:Nat) by lia),⟨⟨_,he⟩,h1⟩,fun c hc=>?_,q⟩
 have hc':s1.heap.objs.size<=c:=by
  have hc2:c=s1.heap.objs.size+1\/c=s1.heap.objs.size:=by simpa using hc
  rcases hc2 with e|e<;>rw [e]<;>first|exact Nat.le_add_right _ _|exact Nat.le_refl _
 exact I1.fpOk (H':=H1) hc' (I1.hok.fresh hc')
end
end L2
namespace L3
open PySem L2
section
variable {X:Cx}{B:Bd}{tg:Expr}{K:W.Frag}{H:Hp}{M:Mem}
def srcOf(d:D)(xs:List D):List (Addr×List D):=match d with
 |.ref a=>[(a,xs)]
 |_=>[]
theorem ld{d:D}{v:V}{xs:List D}(rh:RepH K H M)(r:Rp K H d v)(e:b_ M d=some xs):∃p b,v=.ref p/\∀H' M',Imm H H'->RepH K H' M'->(∀q∈srcOf d xs,M' q.1=some (.lst q.2))->∃vs,ku K b H' p vs/\Rps K H' xs vs:=by
 cases d with
 |tup ys=>
  cases e;obtain ⟨p,vs,rfl,h,r⟩:=r;exact ⟨p,false,rfl,fun H' M' i _ _=>⟨vs,(h.mono i).sq,r.mono i⟩⟩
 |lst ys=>
  cases e;obtain ⟨p,vs,rfl,h,r⟩:=r;exact ⟨p,true,rfl,fun H' M' i _ _=>⟨vs,(h.mono i).sq,r.mono i⟩⟩
 |mt ys=>
  cases e;obtain ⟨p,vs,rfl,h,r⟩:=r;exact ⟨p,false,rfl,fun H' M' i _ _=>⟨vs,h.sq,r.mono i⟩⟩
 |ml ys=>
  cases e;obtain ⟨p,vs,rfl,h,r⟩:=r;exact ⟨p,true,rfl,fun H' M' i _ _=>⟨vs,(h.mono i).sq,r.mono i⟩⟩
 |ref a=>
  refine ⟨a,true,r,fun H' M' i rh' hs=>?_⟩;obtain ⟨vs,h1,h2⟩:=rh' _ _ (hs (a,xs) (by simp [srcOf]))
  exact ⟨vs,jZ h1,h2⟩
 |_=>cases e
theorem lV{d:D}{xs:List D}(e:b_ M d=some xs):∀q∈srcOf d xs,M q.1=some (.lst q.2):=by
 cases d with
 |ref a=>
  intro q hq;have:q=(a,xs):=by simpa [srcOf] using hq
  subst this;simp only [b_] at e
  split at e
  ·rename_i ys h;cases e;exact h
  ·cases e
 |_=>intro q hq;simp [srcOf] at hq
def dh(te:bH):u5:=fun δ M R=>te δ M fun d M1=>match b_ M1 d with
 |some xs=>R ⟨xs,srcOf d xs⟩ M1
 |none=>False
theorem cN{l:Expr}{tl:bH}(hl:DE X B l tl):DI X B tg l (dh tl):=by
 refine fR (x_ hl) ?_
 rintro σ H R ⟨δ,M,RR,s,h,up⟩
 refine ⟨δ,M,_,s,h,fun d M1 h1 v H1 rh1 i1 r1=>?_⟩
 split at h1
 ·rename_i xs e
  obtain ⟨p,b,rfl,hsrc⟩:=ld rh1 r1 e;obtain ⟨vs,hq,_⟩:=hsrc H1 M1 Imm.refl rh1 (lV e);refine ⟨p,b,vs,rfl,hq,up _ M1 h1 _ H1 rh1 i1 fun i H2 M2 i2 rh2 ok2=>?_⟩;obtain ⟨vs2,hq2,r2⟩:=hsrc H2 M2 i2 rh2 ok2;have hl:=r2.length;cases b with
  |true=>
   refine ⟨fun d hd=>?_,fun hle=>⟨vs2,hq2,by rw [<- hl];exact hle⟩⟩
   obtain ⟨w,hw,rw'⟩:=r2.get hd;refine ⟨⟨vs2,w,hq2,hw⟩,?_⟩
   rintro x H3 ⟨rfl,hx⟩
   have:=hx vs2 hq2;rw [hw] at this;cases this;exact ⟨Frm.refl,rh2,rw'⟩
  |false=>
   refine ⟨fun d hd=>?_,fun hle=>⟨vs2,hq2,by rw [<- hl];exact hle⟩⟩
   obtain ⟨w,hw,rw'⟩:=r2.get hd;refine ⟨⟨vs2,w,hq2,hw⟩,?_⟩
   rintro x H3 ⟨rfl,hx⟩
   have:=hx vs2 hq2;rw [hw] at this;cases this;exact ⟨Frm.refl,rh2,rw'⟩
 ·exact h1.elim
def cw(lo:Int)(n:Nat):List D:=(List.range n).map fun (i:Nat)=>D.int (lo+i)
def fk(t:fo):u5:=fun δ M R=>t δ M fun ds M1=>match ds with
 |[.int j]=>-(2 ^ 62)<=j/\j<2 ^ 62/\R ⟨cw 0 j.toNat,[]⟩ M1
 |_=>False
theorem AN{lo:Int}{n:Nat}:D5 K H ⟨cw lo n,[]⟩ (Itr lo n):=fun i H2 M2 i2 rh2 _=>by
 have hlen:(cw lo n).length=n:=by simp [cw]
 refine ⟨fun d hd=>?_,fun hle=>by rw [hlen] at hle;exact hle⟩
 have hi:i<n:=by
  rcases Nat.lt_or_ge i n with h|h
  ·exact h
  ·rw [List.getElem?_eq_none (by rw [hlen];exact h)] at hd;cases hd
 have ed:d=.int (lo+i):=by
  simp only [cw,List.getElem?_map,List.getElem?_range hi] at hd;exact (Option.some.inj hd).symm
 subst ed;refine ⟨hi,?_⟩
 rintro x H3 ⟨rfl,rfl⟩
 exact ⟨Frm.refl,rh2,rfl⟩
theorem dE{a:Expr}{ta:fo}{p pos:Pos}(hg:Gl X "range")(hm:X.mg "range"=none)(ha:DA X B [a] ta)(hs:starEach [a] X.env=[(false,eval a X.env)]:=by rfl):DI X B tg (.Call (.Name "range" p) [a] [] pos) (fk ta):=by
 refine fR (tY hg hm ha hs) ?_
 rintro σ H R ⟨δ,M,RR,s,h,up⟩
 refine ⟨δ,M,_,s,h,fun ds M1 h1 vs H1 rh1 i1 r1=>?_⟩
 split at h1
 ·obtain ⟨v,rfl,rv⟩:=eP (ds:=[]) r1
  cases rv;exact ⟨_,rfl,h1.1,h1.2.1,up _ M1 h1.2.2 _ H1 rh1 i1 AN⟩
 ·exact h1.elim
def nZ(xs:List D):List D:=(xs.zipIdx).map fun p=>D.tup [.int (p.2:Nat),p.1]
theorem sX{xs:List D}{i:Nat}:(nZ xs)[i]?=(xs[i]?).map fun d=>D.tup [.int (i:Nat),d]:=by
 simp [nZ,List.getElem?_map,List.getElem?_zipIdx];cases xs[i]?<;>simp
def zL(t:fo):u5:=fun δ M R=>t δ M fun ds M1=>match ds with
 |[d]=>match b_ M1 d with
  |some xs=>R ⟨nZ xs,srcOf d xs⟩ M1
  |none=>False
 |_=>False
theorem yj{a:Expr}{elts:List Expr}{x1:Nat}{tp:Pos}{ta:fo}{p pos:Pos}(hg:Gl X "enumerate")(hm:X.mg "enumerate"=none)(ha:DA X B [a] ta)(hs:starEach [a] X.env=[(false,eval a X.env)]:=by rfl):
  DI X B (.Tuple elts x1 tp) (.Call (.Name "enumerate" p) [a] [] pos) (zL ta):=by
 refine fR (w4 hg hm ha hs) ?_
 rintro σ H R ⟨δ,M,RR,s,h,up⟩
 refine ⟨δ,M,_,s,h,fun ds M1 h1 vs H1 rh1 i1 r1=>?_⟩
 split at h1
 ·obtain ⟨v,rfl,rv⟩:=eP (ds:=[]) r1
  split at h1
  ·rename_i xs e
   obtain ⟨p,b,rfl,hsrc⟩:=ld rh1 rv e;obtain ⟨vs,hq,_⟩:=hsrc H1 M1 Imm.refl rh1 (lV e);refine ⟨b,p,vs,rfl,hq,up _ M1 h1 _ H1 rh1 i1 fun i H2 M2 i2 rh2 ok2=>?_⟩;obtain ⟨vs2,hq2,r2⟩:=hsrc H2 M2 i2 rh2 ok2;have hl:=r2.length;refine ⟨fun d hd=>?_,fun hle=>⟨vs2,hq2,by rw [<- hl];simpa [nZ] using hle⟩⟩
   rw [sX] at hd;obtain ⟨d0,hd0,rfl⟩:=Option.map_eq_some_iff.mp hd;obtain ⟨w,hw,rw'⟩:=r2.get hd0;refine ⟨⟨vs2,w,hq2,hw⟩,?_⟩
   rintro x H3 ⟨T,x',hT,rfl,rfl,hx⟩
   have:=hx vs2 hq2;rw [hw] at this;cases this;have i3:Imm H2 (upd H2 T (.tup [.int i,w])):=Imm.new hT;exact ⟨Frm.new hT,rh2.new hT,T,_,rfl,upd_same,.cons rfl (.cons (rw'.mono i3) .nil)⟩
  ·exact h1.elim
 ·exact h1.elim
def mR(xs ys:List D):List D:=(xs.zip ys).map fun p=>D.tup [p.1,p.2]
theorem wC{xs ys:List D}{i:Nat}{d:D}(h:(mR xs ys)[i]?=some d):∃x y,xs[i]?=some x/\ys[i]?=some y/\d=.tup [x,y]:=by
 simp only [mR,List.getElem?_map,Option.map_eq_some_iff] at h;obtain ⟨⟨x,y⟩,h1,rfl⟩:=h;rw [List.getElem?_zip_eq_some] at h1;exact ⟨x,y,h1.1,h1.2,rfl⟩
def BP(t:fo):u5:=fun δ M R=>t δ M fun ds M1=>match ds with
 |[d,e]=>match b_ M1 d,b_ M1 e with
  |some xs,some ys=>R ⟨mR xs ys,srcOf d xs++srcOf e ys⟩ M1
  |_,_=>False
 |_=>False
theorem z_{a b:Expr}{elts:List Expr}{x1:Nat}{tp:Pos}{ta:fo}{p pos:Pos}(hg:Gl X "zip")(hm:X.mg "zip"=none)(ha:DA X B [a,b] ta)
  (hs:starEach [a,b] X.env=[(false,eval a X.env),(false,eval b X.env)]:=by rfl) (hs2:starEach [b] X.env=[(false,eval b X.env)]:=by rfl):
  DI X B (.Tuple elts x1 tp) (.Call (.Name "zip" p) [a,b] [] pos) (BP ta):=by
 refine fR (zo hg hm ha hs hs2) ?_
 rintro σ H R ⟨δ,M,RR,s,h,up⟩
 refine ⟨δ,M,_,s,h,fun ds M1 h1 vs H1 rh1 i1 r1=>?_⟩
 split at h1
 ·obtain ⟨v,w,rfl,rv,rw'⟩:=AG r1
  split at h1
  ·rename_i xs ys e1 e2
   obtain ⟨p,b,rfl,hsrc⟩:=ld rh1 rv e1;obtain ⟨p',b',rfl,hsrc'⟩:=ld rh1 rw' e2;obtain ⟨vs,hq,_⟩:=hsrc H1 M1 Imm.refl rh1 (lV e1);obtain ⟨vs',hq',_⟩:=hsrc' H1 M1 Imm.refl rh1 (lV e2);refine ⟨b,b',p,p',vs,vs',rfl,hq,hq',up _ M1 h1 _ H1 rh1 i1 fun i H2 M2 i2 rh2 ok2=>?_⟩;obtain ⟨vs2,hq2,r2⟩:=hsrc H2 M2 i2 rh2 fun q hq=>ok2 q (List.mem_append_left _ hq);obtain ⟨vs2',hq2',r2'⟩:=hsrc' H2 M2 i2 rh2 fun q hq=>ok2 q (List.mem_append_right _ hq);have hl:=r2.length;have hl':=r2'.length;refine ⟨fun d hd=>?_,fun hle=>⟨vs2,vs2',hq2,hq2',?_⟩⟩
   ·obtain ⟨x,y,hx,hy,rfl⟩:=wC hd
    obtain ⟨w1,hw1,rw1⟩:=r2.get hx;obtain ⟨w2,hw2,rw2⟩:=r2'.get hy;refine ⟨⟨vs2,vs2',w1,w2,hq2,hq2',hw1,hw2⟩,?_⟩
    rintro x H3 ⟨T,x',y',hT,rfl,rfl,hx1,hx2⟩
    have q1:=hx1 vs2 hq2;have q2:=hx2 vs2' hq2';rw [hw1] at q1;rw [hw2] at q2;cases q1;cases q2;have i3:Imm H2 (upd H2 T (.tup [w1,w2])):=Imm.new hT;exact ⟨Frm.new hT,rh2.new hT,T,_,rfl,upd_same,.cons (rw1.mono i3) (.cons (rw2.mono i3) .nil)⟩
   ·have:(mR xs ys).length=min xs.length ys.length:=by simp [mR]
    rw [this] at hle;lia
  ·exact h1.elim
 ·exact h1.elim
end
end L3
namespace L3
open PySem L2
def yz:Bd:=⟨fun _ _=>True,fun _ _=>trivial⟩
section
variable {X:Cx}{B:Bd}{K:W.Frag}{H H':Hp}{M M':Mem}
inductive liftE0(K:W.Frag)(T:bH)(σ:L2.St)(H:Hp)(Q:VK):Prop
 |mk (δ:Dl) (M:Mem) (QQ:DK) (rh:RepH K H M) (rs:RepS K H δ σ) (h:T δ M QQ) (u:Up K M H QQ Q):liftE0 K T σ H Q
inductive liftT0(K:W.Frag)(T:eg)(σ:L2.St)(H:Hp)(Q:Bool->Hp->Prop):Prop
 |mk (δ:Dl) (M:Mem) (QQ:Bool->Mem->Prop) (rh:RepH K H M) (rs:RepS K H δ σ) (h:T δ M QQ) (u:UpT K M H QQ Q):liftT0 K T σ H Q
inductive liftG0(K:W.Frag)(g:jA)(v:V)(σ:L2.St)(H:Hp)(Q:L2.St->Hp->Prop):Prop
 |mk (d:D) (δ:Dl) (M:Mem) (QQ:Dl->Mem->Prop) (rh:RepH K H M) (rs:RepS K H δ σ) (r:Rp K H d v) (h:g d δ M QQ) (u:∀δ' M',QQ δ' M'->∀σ' H',Frm M H M' H'->RepH K H' M'->RepS K H' δ' σ'->Q σ' H'):liftG0 K g v σ H Q
theorem uM{e:Expr}{T:bH}(h:DE X yz e T):PE X e (liftE0 X.K T):=aU h fun σ H Q ⟨δ,M,QQ,rh,rs,h,u⟩=>⟨δ,M,QQ,⟨trivial,rh,rs⟩,h,u⟩
theorem wr{e:Expr}{g:jA}(h:DG X yz e g):PG X e (liftG0 X.K g):=iB h fun v σ H Q ⟨d,δ,M,QQ,rh,rs,r,h,u⟩=>⟨d,δ,M,QQ,⟨trivial,rh,rs⟩,r,h,fun δ' M' q σ' H' f s=>u δ' M' q σ' H' f s.rh s.rs⟩
theorem RepH.add{a:Addr}{o:MO}(r:RepH K H M)(n:RepO K H a o):RepH K H (M.upd a o):=fun b p e=>by
 by_cases hb:b=a
 ·subst hb;rw [Mem.upd_same] at e;cases e;exact n
 ·rw [ah hb] at e;exact r b p e
def cj(ls:List Str)(js:List Nat)(δ:Dl):Dl:=ls.map (fun _=>none)++js.map fun j=>(δ[j]?).join
theorem RepS.start{δ:Dl}{σ:L2.St}(r:RepS K H δ σ)(ls:List Str)(js:List Nat):RepS K H (cj ls js δ) (cM ls js σ):=by
 refine ⟨by simp [cj,cM],fun i d e=>?_⟩
 unfold cj at e;unfold cM
 by_cases hi:i<ls.length
 ·rw [List.getElem?_append_left (by simpa using hi),List.getElem?_map,List.getElem?_eq_getElem hi] at e
  cases e
 ·rw [List.getElem?_append_right (by simpa using hi),List.length_map,List.getElem?_map] at e
  rw [List.getElem?_append_right (by simpa using hi),List.length_map,List.getElem?_map]
  cases hj:js[i-ls.length]? with
  |none=>rw [hj] at e;cases e
  |some j=>
   rw [hj] at e;have q:(δ[j]?).join=some d:=by simpa using e
   have q2:δ[j]?=some (some d):=by
    cases z:δ[j]? with
    |none=>rw [z] at q;cases q
    |some o=>rw [z] at q;have q':o=some d:=q;rw [q']
   obtain ⟨v,h1,h2⟩:=r.get j d q2;exact ⟨v,by simp [h1],h2⟩
structure BxC(g:jA)(tt:eg)(te:bH)(ok:Mem->Prop)(Q:List D->Mem->Prop):Type
def cR(g:jA)(tt:eg)(te:bH)(ok:Mem->Prop)(Q:List D->Mem->Prop)(b:BxC g tt te ok Q):List D->List D->Dl->Mem->Prop
 |[],acc,_,M=>ok M/\Q acc M
 |x::xs,acc,δ,M=>ok M/\g x δ M fun δ2 M2=>tt δ2 M2 fun c M3=>if c=true then te δ2 M3 fun y M4=>acc.length<sizeLine/\cR g tt te ok Q b xs (acc++[y]) δ2 M4 else cR g tt te ok Q b xs acc δ2 M3
def bq(wi:u5)(ls:List Str)(js:List Nat)(g:jA)(tt:eg)(te:bH):bH:=fun δ M Q=>wi δ M fun it M1=>cR g tt te it.ok (fun acc M'=>∀p,M' p=none->Q (.ref p) (M'.upd p (.lst acc))) ⟨⟩ it.items [] (cj ls js δ) M1
theorem xb{g:jA}{tt:eg}{te:bH}{ok:Mem->Prop}{xs acc:List D}{δ:Dl}{Q:List D->Mem->Prop}{b:BxC g tt te ok Q}(h:cR g tt te ok Q b xs acc δ M):ok M:=by
 cases xs with
 |nil=>exact h.1
 |cons _ _=>exact h.1
variable {tg iter elt:Expr}{ifs:List Expr}{scope:Scope}{cl:List (Str×Addr)}{pos:Pos}{ls fs:List Str}{js:List Nat}{wi:u5}{g:jA}{tt:eg}{te:bH}
theorem kh{σ:L2.St}{Q:VK}(h:liftE X B (bq wi ls js g tt te) σ H Q):v_ (liftI X B wi) ls js (liftG0 X.K g) (liftT0 X.K tt) (liftE0 X.K te) σ H Q:=by
 obtain ⟨δ,M,QQ,s,h,u⟩:=h;refine ⟨δ,M,_,s,h,fun it M1 h1 J H1 rh1 f1 hJ p hp=>?_⟩;have hMp:M1 p=none:=rh1.fresh hp
 refine ⟨fun i m σ' H'=>m=it.items.length-i/\i<=it.items.length/\∃δ' M' acc ys,RepH X.K H' M'/\RepS X.K H' δ' σ'/\H' p=some (.lst ys)/\Rps X.K H' acc ys/\M' p=none/\Frm M1 H1 M' H'/\
   cR g tt te it.ok (fun acc M'=>∀p,M' p=none->QQ (.ref p) (M'.upd p (.lst acc))) ⟨⟩ (it.items.drop i) acc δ' M',
  ⟨_,rfl,Nat.zero_le _,cj ls js δ,M1,[],[],rh1.new hp,((s.rs.mono (f1.imm s.rh)).mono (Imm.new hp)).start ls js,upd_same,.nil,hMp,Frm.new hp,h1⟩,?_⟩
 rintro i m σ2 H2 ⟨rfl,hi,δ2,M2,acc,ys,rh2,rs2,hp2,ra2,hm2,f2,h2⟩
 have hok:=xb h2;obtain ⟨hgo,hstop⟩:=hJ i H2 M2 (f2.imm rh1) rh2 hok
 by_cases hlt:i<it.items.length
 ·rw [List.drop_eq_getElem_cons hlt] at h2
  obtain ⟨go,hy⟩:=hgo _ (List.getElem?_eq_getElem hlt)
  refine .inr ⟨go,fun σ' H'=>∃δ' M' acc ys,RepH X.K H' M'/\RepS X.K H' δ' σ'/\H' p=some (.lst ys)/\Rps X.K H' acc ys/\M' p=none/\Frm M1 H1 M' H'/\
   cR g tt te it.ok (fun acc M'=>∀p,M' p=none->QQ (.ref p) (M'.upd p (.lst acc))) ⟨⟩ (it.items.drop (i+1)) acc δ' M',fun σ' H' z=>⟨it.items.length-(i+1),by omega,rfl,hlt,z⟩,fun x H3 hx=>?_⟩
  obtain ⟨f3,rh3,rx⟩:=hy x H3 hx;refine ⟨_,δ2,M2,_,rh3,rs2.mono (f3.imm rh2),rx,h2.2,fun δ4 M4 h4 σ4 H4 f4 rh4 rs4=>?_⟩;refine ⟨δ4,M4,_,rh4,rs4,h4,fun c M5 h5 H5 rh5 f5=>?_⟩;have f35:=(f3.trans f4).trans f5;obtain ⟨hp5,hm5⟩:=f35.keep p _ hp2 hm2;cases c with
  |false=>
   try dsimp only
   rw [if_neg Bool.false_ne_true] at h5 ⊢;exact ⟨δ4,M5,acc,ys,rh5,rs4.mono (f5.imm rh4),hp5,ra2.mf rh2 f35,hm5,f2.trans f35,h5⟩
  |true=>
   try dsimp only
   rw [if_pos rfl] at h5 ⊢;refine ⟨δ4,M5,_,rh5,rs4.mono (f5.imm rh4),h5,fun y M6 h6 v6 H6 rh6 f6 r6=>?_⟩;obtain ⟨hp6,hm6⟩:=f6.keep p _ hp5 hm5;have f26:=f35.trans f6;have ra6:=ra2.mf rh2 f26;refine ⟨ys,hp6,by rw [<- ra6.length];exact h6.1,?_⟩
   have im:Imm H6 (upd H6 p (.lst (ys++[v6]))):=Imm.upd (by rw [hp6];trivial)
   refine ⟨δ4,M6,acc++[y],ys++[v6],rh6.keep im fun b o hb=>upd_ne (Mem.ne hb hm6),((rs4.mono (f5.imm rh4)).mono (f6.imm rh5)).mono im,upd_same,(ra6.append (.cons r6 .nil)).mono im,hm6,?_,h6.2⟩;refine ⟨fun b w e n=>?_⟩;obtain ⟨e2,n2⟩:=(f2.trans f26).keep b w e n;exact ⟨by rw [upd_ne (a_ e hp)];exact e2,n2⟩
 ·rw [List.drop_eq_nil_of_le (by omega)] at h2
  refine .inl ⟨hstop (by omega),u _ _ (h2.2 p hm2) _ H2 (rh2.add ⟨ys,hp2,ra2⟩) ?_ rfl⟩
  refine ⟨fun b w e n=>?_⟩;obtain ⟨e1,n1⟩:=f1.keep b w e n;obtain ⟨e2,n2⟩:=f2.keep b w e1 n1;exact ⟨e2,by rw [ah (a_ e1 hp)];exact n2⟩
def Co(X:Cx)(B:Bd)(ifs:List Expr)(T:eg):Prop:=Aw X ifs (liftT X B T)
def cv:eg:=fun _ M Q=>Q true M
theorem c9:Co X B [] cv:=fun pins s σ H Q I zz=>by obtain ⟨δ,M,QQ,sr,h,u⟩:=zz;exact zw pins s σ H Q I (u true M h H sr.rh Frm.refl)
theorem lD{c:Expr}{t:eg}(h:DT X B c t):Co X B [c] t:=yN h
theorem qW{es:List Expr}{T:eg}(h:Co X yz es T):Aw X es (liftT0 X.K T):=fun pins s σ H Q I zz=>by obtain ⟨δ,M,QQ,rh,rs,hT,u⟩:=zz;exact h pins s σ H Q I ⟨δ,M,QQ,⟨trivial,rh,rs⟩,hT,u⟩
theorem bT(hc:X.calm=true)(co:CompOk X scope cl ls fs js)(hi:DI X B tg iter wi)
  (hY:∀(C:Addr) (s₀:Shared) (H₀:Hp) (fp:List Addr) (pl:List (Addr×Obj)),DG (bF X (ls++fs) scope cl C s₀ H₀ fp pl) yz tg g/\Co (bF X (ls++fs) scope cl C s₀ H₀ fp pl) yz ifs tt/\DE (bF X (ls++fs) scope cl C s₀ H₀ fp pl) yz elt te)
  (hs:∀x,foldedSetIterable iter X.env x=pure x:=by intro _;rfl):DE X B (.ListComp elt [⟨tg,iter,ifs,0⟩] scope pos) (bq wi ls js g tt te):=
 aU (yL (g:=liftG0 X.K g) (tt:=liftT0 X.K tt) (te:=liftE0 X.K te) hc co hi (fun C s₀ H₀ fp pl=>⟨wr (hY C s₀ H₀ fp pl).1,qW (hY C s₀ H₀ fp pl).2.1,uM (hY C s₀ H₀ fp pl).2.2⟩) hs) fun _ _ _ h=>kh h
def jo(i:Nat)(t:bH):aI:=fun D δ M=>t δ M fun d M1=>D.nx (δ.set i (some d)) M1
theorem rE{i:Nat}{x:Str}{px spos:Pos}(hN:X.N.Nodup)(hix:X.N[i]?=some x)(hx:xg X.env.scope x)(hc:X.calm=true)(co:CompOk X scope cl ls fs js)(hi:DI X B tg iter wi)
  (hY:∀(C:Addr) (s₀:Shared) (H₀:Hp) (fp:List Addr) (pl:List (Addr×Obj)),DG (bF X (ls++fs) scope cl C s₀ H₀ fp pl) yz tg g/\Co (bF X (ls++fs) scope cl C s₀ H₀ fp pl) yz ifs tt/\DE (bF X (ls++fs) scope cl C s₀ H₀ fp pl) yz elt te)
  (hsw:swapsWith (.ListComp elt [⟨tg,iter,ifs,0⟩] scope pos) (some (.Name x px)) spos.line X.env=pure true:=by rfl)
  (hs:∀x,foldedSetIterable iter X.env x=pure x:=by intro _;rfl) (hf:X.fn x=true\/X.env.scope.names.lookup x=some .local:=by first|exact .inl rfl|exact .inr rfl|assumption):
  DS X B (.Assign [.Name x px] (.ListComp elt [⟨tg,iter,ifs,0⟩] scope pos) spos) (jo i (bq wi ls js g tt te)):=by
 refine cg (yD (g:=liftG0 X.K g) (tt:=liftT0 X.K tt) (te:=liftE0 X.K te) hN hix hx hc co hi (fun C s₀ H₀ fp pl=>⟨wr (hY C s₀ H₀ fp pl).1,qW (hY C s₀ H₀ fp pl).2.1,uM (hY C s₀ H₀ fp pl).2.2⟩) hsw hs hf) ?_
 rintro D σ H ⟨δ,M,DD,s,h,up⟩
 refine kh ⟨δ,M,_,s,h,fun d M' q v H' rh f r=>?_⟩;exact up.nx _ M' q _ H' f ((s.go rh f).set r)
def gx(i:Nat)(δ:Dl)(M:Mem)(Q:Dl->Mem->Prop):Prop:=match δ[i]? with
 |some (some (.ref a))=>match M a with
  |some (.lst xs)=>Q (δ.set i (some (.lst xs))) (M.del a)
  |_=>Q δ M
 |_=>Q δ M
def el(t:aI)(i:Nat):aI:=fun D δ M=>t { D with nx:=fun δ' M'=>gx i δ' M' D.nx } δ M
theorem o0{α:Type}:∀{l:List α} {i:Nat} {x:α},l[i]?=some x->l.set i x=l
 |[],_,_,h=>by simp at h
 |_::_,0,_,h=>by simp at h;subst h;rfl
 |_::_,i+1,_,h=>by rw [List.set_cons_succ,o0 (by simpa using h)]
theorem vU{st:Stmt}{t:aI}(i:Nat)(h:DS X B st t):DS X B st (el t i):=by
 intro pins s σ H D I ⟨δ,M,DD,sr,hT,up⟩;refine thn (h pins s σ H { D with nx:=fun σ' H'=>∃δ' M',gx i δ' M' DD.nx/\Frm M H M' H'/\SR X B δ' M' σ' H' } I ⟨δ,M,_,sr,hT,⟨fun δ' M' q σ' H' f s'=>⟨δ',M',q,f,s'⟩,up.rt,up.bk,up.ct⟩⟩) fun f s' q=>?_;cases f with
 |next=>
  obtain ⟨σ',H',I',δ',M',q,f,s'⟩:=q;unfold gx at q
  split at q
  ·rename_i a ea
   split at q
   ·rename_i xs e
    obtain ⟨vs,h1,h2⟩:=s'.rh _ _ e;obtain ⟨o,I2⟩:=Inv.freeze I' h1;have im:Imm H' (upd H' a (.frz o (.lst vs))):=Imm.upd (by rw [h1];trivial)
    obtain ⟨v,hv,rv⟩:=s'.rs.get i _ ea;cases rv;refine ⟨σ',_,I2,up.nx _ _ q σ' _ (f.trans (Frm.del ⟨_,e⟩)) ⟨B.go s'.i0 (Frm.del ⟨_,e⟩),s'.rh.freeze h1,?_⟩⟩;have:=(s'.rs.mono im).set (i:=i) (d:=.lst xs) (v:=.ref a) ⟨a,vs,rfl,⟨o,upd_same⟩,h2.mono im⟩
    rwa [o0 hv] at this
   ·exact ⟨σ',H',I',up.nx _ _ q σ' H' f s'⟩
  ·exact ⟨σ',H',I',up.nx _ _ q σ' H' f s'⟩
 |brk=>exact q
 |cont=>exact q
 |ret u=>exact q
end
end L3
namespace L3
open PySem L2
abbrev DX:=Addr->Mem->Prop
abbrev Sd:=List D->Mem->DK->DX->Prop
def bP(P:Program)(w:World):nW:=fun outer H s E e s'=>∃C,p0 P w C outer H s E e s'
def UpX(K:W.Frag)(M:Mem)(H:Hp)(EE:DX)(E:XK):Prop:=∀C M',EE C M'->∀H',RepH K H' M'->Frm M H M' H'->E (.ref C) none H'
def AF(K:W.Frag)(B:Bd)(EE:DX)(E:XK):Prop:=∀C M',EE C M'->∀H',RepH K H' M'->B.p M' H'->E (.ref C) none H'
theorem UpX.go{K:W.Frag}{M M1:Mem}{H H1:Hp}{EE:DX}{E:XK}(u:UpX K M H EE E)(i:Frm M H M1 H1):UpX K M1 H1 EE E:=fun C M' q H' a b=>u C M' q H' a (i.trans b)
def aq(K:W.Frag)(n:Nat)(T:Sd):Sp:=fun vs H Q E=>vs.length=n/\∃ds M QQ EE,RepH K H M/\Rps K H ds vs/\T ds M QQ EE/\Up K M H QQ Q/\UpX K M H EE E
def startN(N:List Str)(ds:List D):Dl:=ds.map some++List.replicate (N.length-ds.length) none
theorem RepS.startN{K:W.Frag}{H:Hp}{ds:List D}{vs:List V}(N:List Str)(r:Rps K H ds vs):RepS K H (L3.startN N ds) (L2.start N vs):=by
 have hl:=r.length;refine ⟨by simp [L3.startN,L2.start,hl],fun i d e=>?_⟩
 unfold L3.startN at e;unfold L2.start
 by_cases hi:i<ds.length
 ·rw [List.getElem?_append_left (by simpa using hi),List.getElem?_map,List.getElem?_eq_getElem hi] at e
  have e':ds[i]=d:=by simpa using e
  obtain ⟨v,h1,h2⟩:=r.get (i:=i) (d:=d) (by rw [List.getElem?_eq_getElem hi,e'])
  refine ⟨v,?_,h2⟩;rw [List.getElem?_append_left (by simp;lia),List.getElem?_map,h1]
  rfl
 ·rw [List.getElem?_append_right (by simpa using hi),List.getElem?_replicate] at e
  split at e<;>cases e
section
variable {P:Program}{w:World}{K:W.Frag}{mg:Str->Option Value}{base:Heap}{f:Addr}{fd:FuncData}
def drp(Q:DK)(d:D)(M':Mem):Prop:=∃M'',(∀b o,M'' b=some o->M' b=some o)/\Q d M''
def aS(EE:DX)(C:Addr)(M':Mem):Prop:=∃M'',(∀b o,M'' b=some o->M' b=some o)/\EE C M''
theorem aD{Q:DK}{d:D}{M':Mem}(h:Q d M'):drp Q d M':=⟨M',fun _ _ e=>e,h⟩
theorem da{EE:DX}{C:Addr}{M':Mem}(h:EE C M'):aS EE C M':=⟨M',fun _ _ e=>e,h⟩
theorem Frm.less{M M' M'':Mem}{H H':Hp}(f:Frm M H M' H')(s:∀b o,M'' b=some o->M' b=some o):Frm M H M'' H':=⟨fun b u e n=>by
 obtain ⟨e',n'⟩:=f.keep b u e n;refine ⟨e',?_⟩;cases q:M'' b with
 |none=>rfl
 |some o=>rw [s b o q] at n';cases n'⟩
theorem Up.drp{M:Mem}{H:Hp}{Q:DK}{QV:VK}(u:Up K M H Q QV):Up K M H (L3.drp Q) QV:=fun d M' ⟨M'',s,q⟩ v H' rh f r=>u d M'' q v H' (fun b o e=>rh b o (s b o e)) (f.less s) r
theorem UpX.drp{M:Mem}{H:Hp}{EE:DX}{E:XK}(u:UpX K M H EE E):UpX K M H (aS EE) E:=fun C M' ⟨M'',s,q⟩ H' rh f=>u C M'' q H' (fun b o e=>rh b o (s b o e)) (f.less s)
def bg(N:List Str)(T:DX->aI):Sd:=fun ds M Q EE=>T (aS EE) { nx:=fun _ M'=>drp Q .non M',rt:=drp Q } (startN N ds) M
theorem dX{x qual:Str}{st:Stmt}{N ps:List Str}{k:Nat}{T:DX->aI}(F:Fun K x qual st f fd)(S:FnScope N ps (ar st))
  (hb:∀(cdv:Value) (A:Around) (outer:List Env) (s:Shared) (H:Hp) (E:XK) (B:Bd) (EE:DX),Room k (A.deeper (PyProof.Rows.envOfC qual (ar st) s.heap.objs.size f cdv))->AF K B EE E->
   xh (dF (bP P w) P w K mg base N qual (ar st) f cdv A outer s H E) B (dQ st) (T EE)):
  FnOk P w K mg base (bP P w) (k+1) f fd ps (aq K ps.length (bg N T)):=by
 obtain ⟨oc,od,kV,doc,pm,an,cdv,ct,osl,rfl,lk,hcd⟩:=F.ex;refine CK lk hcd S (fun vs H Q E h=>h.1) fun A outer s H vs Q E hr hsp=>?_;obtain ⟨hl,ds,M,QQ,EE,rh,r,hT,u,ux⟩:=hsp;refine ⟨_,hb cdv A outer s H E (Eo M H) (aS EE) hr ux.drp,startN N ds,M,{ nx:=fun _ M'=>drp QQ .non M',rt:=drp QQ },⟨Frm.refl,rh,.startN N r⟩,hT,⟨?_,u.drp,?_,?_⟩⟩
 ·exact fun δ M' q σ H' f s'=>u.drp _ M' q _ H' s'.rh f rfl
 ·exact fun δ M' q=>(show False from q).elim
 ·exact fun δ M' q=>(show False from q).elim
theorem gO{ps:List Str}{k n:Nat}{CX:nW}:FnOk P w K mg base CX k f fd ps (aq K n fun _ _ _ _=>False):=
 ⟨fun vs H Q E h=>(by obtain ⟨_,_,_,_,_,_,_,h,_⟩:=h;exact h.elim),fun A outer s H args us vs Q E _ _ _ _ h=>(by obtain ⟨_,_,_,_,_,_,_,h,_⟩:=h;exact h.elim)⟩
theorem aH{N:List Str}{qual:Str}{scope:Scope}{cd:Value}{A:Around}{outer:List Env}{s0:Shared}{H0:Hp}{E:XK}:d4 (bP P w) (dF (bP P w) P w K mg base N qual scope f cd A outer s0 H0 E) E:=by
 intro pins σ H s e s' I ⟨C,hx⟩;have I':Inv (dF (p0 P w C) P w K mg base N qual scope f cd A outer s0 H0 E) pins σ H s:=I.wish _;have:=Df pins σ H s e s' I' hx;exact wpAny_mono this (fun _ _ z=>⟨C,z⟩) fun _ _ z=>⟨C,z⟩
theorem dP{X:Cx}:d4 (bP P w) X E0:=fun pins σ H s e s' I ⟨C,hx⟩=>by
 obtain ⟨_,_,_,_,_,_,_,_,_,_,_,_,hE⟩:=hx;exact (show False from hE).elim
end
def Sub(M1 M:Mem):Prop:=∀b o,M1 b=some o->M b=some o
def Dis(M1 M M':Mem):Prop:=∀b o,M b=some o->M1 b=none->M' b=none
def plus(M' M1 M:Mem):Mem:=fun b=>match M' b with
 |some o=>some o
 |none=>match M1 b with
  |some _=>none
  |none=>M b
theorem kz{M' M:Mem}:plus M' M M=M':=by
 funext b;simp only [plus];cases h:M' b with
 |some o=>rfl
 |none=>cases h2:M b<;>rfl
structure BxQ(EE:DX)(Q:DK):Type
structure calls(T:Sd)(EE:DX)(ds:List D)(M:Mem)(Q:DK)(_:BxQ EE Q):Prop where
 go:∃M1,Sub M1 M/\T ds M1 (fun d M'=>Dis M1 M M'->Q d (plus M' M1 M)) (fun C M'=>Dis M1 M M'->EE C (plus M' M1 M))
section
variable {X:Cx}{B:Bd}{K:W.Frag}{H H':Hp}{M M1 M':Mem}
theorem RepH.sub(r:RepH K H M)(s:Sub M1 M):RepH K H M1:=fun b o e=>r b o (s b o e)
theorem RepH.dis(r:RepH K H M)(f:Frm M1 H M' H'):Dis M1 M M':=fun b o e n=>by
 obtain ⟨u,q⟩:=(r b o e).obj;exact (f.keep b u q n).2
theorem RepH.plus(r:RepH K H M)(s:Sub M1 M)(r':RepH K H' M')(f:Frm M1 H M' H'):RepH K H' (plus M' M1 M):=fun b o e=>by
 simp only [L3.plus] at e
 split at e
 ·rename_i o' q;cases e;exact r' b _ q
 ·split at e
  ·cases e
  ·rename_i q n
   obtain ⟨u,hu⟩:=(r b o e).obj;exact (r b o e).keep (f.imm (r.sub s)) ((f.keep b u hu n).1.trans hu.symm)
theorem Frm.plus(s:Sub M1 M)(f:Frm M1 H M' H'):Frm M H (plus M' M1 M) H':=⟨fun b u e n=>by
 have n1:M1 b=none:=by
  cases q:M1 b with
  |none=>rfl
  |some o=>rw [s b o q] at n;cases n
 obtain ⟨e',n'⟩:=f.keep b u e n1;exact ⟨e',by simp only [L3.plus,n',n1,n]⟩⟩
theorem dJ{T:Sd}{EE:DX}{ds:List D}{vs:List V}{Q:DK}{n:Nat}{QV:VK}{E:XK}{b:BxQ EE Q}(h:calls T EE ds M Q b)(rh:RepH K H M)(r:Rps K H ds vs)(hl:vs.length=n)(u:Up K M H Q QV)(ux:UpX K M H EE E):aq K n T vs H QV E:=by
 obtain ⟨M1,s,h⟩:=h.go;refine ⟨hl,ds,M1,_,_,rh.sub s,r,h,fun d M' q v H' rh' f r'=>?_,fun C M' q H' rh' f=>?_⟩
 ·exact u d _ (q (rh.dis f)) v H' (rh.plus s rh' f) (f.plus s) r'
 ·exact ux C _ (q (rh.dis f)) H' (rh.plus s rh' f) (f.plus s)
theorem calls_of{T:Sd}{EE:DX}{ds:List D}{Q:DK}{b:BxQ EE Q}(hm:∀Q' E',(∀d M,Q d M->Q' d M)->(∀C M,EE C M->E' C M)->T ds M Q' E'):calls T EE ds M Q b:=
 ⟨M,fun _ _ e=>e,hm _ _ (fun d M' q _=>by rw [kz];exact q) fun C M' q _=>by rw [kz];exact q⟩
variable {CX:nW}{k n:Nat}{f C:Addr}{fd:FuncData}{ps:List Str}{T:Sd}{EE:DX}{E:XK}{x m:Str}{p pos apos:Pos}{e o:Expr}{es:List Expr}{ta:bH}{t:fo}
def aC(T:Sd)(EE:DX)(n:Nat)(t:fo):bH:=fun δ M Q=>t δ M fun ds M1=>ds.length=n/\calls T EE ds M1 Q ⟨⟩
theorem SR.ux{δ:Dl}{σ:L2.St}(s:SR X B δ M σ H)(ux:AF X.K B EE E):UpX X.K M H EE E:=fun C M' q H' a b=>ux C M' q H' a (B.go s.i0 b)
theorem av(F:FnOk X.prog X.w X.K X.mg X.base CX k f fd ps (aq X.K n T))(hr:Room k X.A)(hg:Gl X x)(hm:X.mg x=some (.ref f))(hk:W.keepIn X.K (.ref f)=true)(hb:Binds X.K fd ps [])(hx:d4 CX X E)(ux:AF X.K B EE E)
  (ha:DA X B (e::es) t) (hdb:(x==("__debug__":Str))=false:=by decide) (he:starEach (e::es) X.env=(false,eval e X.env)::starEach es X.env:=by rfl) (hpl:(backTo pos (starEach es X.env)).any (·.1)=false:=by rfl):
  DE X B (.Call (.Name x p) (e::es) [] pos) (aC T EE n t):=by
 refine aU (ym F hr hg hm hk hb .nil hx ha hdb he hpl) ?_
 rintro σ H Q ⟨δ,M,QQ,s,h,u⟩
 refine ⟨δ,M,_,s,h,fun ds M1 h1 vs H1 rh1 i1 r1=>?_⟩
 try dsimp only
 rw [List.append_nil];exact dJ h1.2 rh1 r1 (by rw [<- r1.length];exact h1.1) (u.go i1) ((s.ux ux).go i1)
def ck(C:Addr)(m:Str)(T:Sd)(EE:DX)(n:Nat)(ta:bH)(t:fo):bH:=fun δ M Q=>ta δ M fun x M1=>match x with
 |.ref a=>match M1 a with
  |some (.ins C' fs)=>C'=C/\fs.lookup m=none/\t δ M1 fun ds M2=>ds.length+1=n/\calls T EE (.ref a::ds) M2 Q ⟨⟩
  |_=>False
 |_=>False
theorem cq{pl:Sem Bool}(he:DE X B o ta)(c:Cls X.K C)(hm:Meth X.K C m f)(F:FnOk X.prog X.w X.K X.mg X.base CX k f fd ps (aq X.K n T))(hr:Room k X.A)(hb:Binds X.K fd ps [])(hx:d4 CX X E)(ux:AF X.K B EE E)(ha:DA X B (e::es) t)
  (hst:starEach (e::es) X.env=(false,eval e X.env)::starEach es X.env:=by rfl) (hpl:(backTo pos (starEach es X.env)).any (·.1)=false:=by rfl)
  (ht:eval (.Call (.Attribute o m apos) (e::es) [] pos) X.env=(do
   let ov <- eval o X.env
   standAt apos.atName
   let (f,first) <- holding [ov] (getMethod ov m pl)
   callWith pos f first (backTo pos (starEach (e::es) X.env)) (backToKw pos (keywordEach [] X.env))):=by rfl):
  DE X B (.Call (.Attribute o m apos) (e::es) [] pos) (ck C m T EE n ta t):=by
 refine aU (xp he c hm F hr hb .nil hx ha hst hpl ht) ?_
 rintro σ H Q ⟨δ,M,QQ,s,h,u⟩
 refine ⟨δ,M,_,s,h,fun x M1 h1 v H1 rh1 i1 r1=>?_⟩
 split at h1
 ·rename_i a
  cases r1
  split at h1
  ·rename_i C' fs hM
   obtain ⟨rfl,hl,h1⟩:=h1;obtain ⟨dx,ws,e1,e2⟩:=rh1 _ _ hM;have hl':ws.lookup m=none:=by
    rcases e2.lookup m with ⟨_,z⟩|⟨d,v,z,_⟩
    ·exact z
    ·rw [hl] at z;cases z
   refine ⟨a,dx,ws,rfl,e1,hl',δ,M1,_,s.go rh1 i1,h1,fun ds M2 h2 vs H2 rh2 i2 r2=>?_⟩
   try dsimp only
   rw [List.append_nil];exact dJ (ds:=.ref a::ds) h2.2 rh2 (.cons rfl r2) (by rw [List.length_cons,<- r2.length];exact h2.1) (u.go (i1.trans i2)) ((s.ux ux).go (i1.trans i2))
  ·exact h1.elim
 ·exact h1.elim
def oK(C:Addr)(T:Sd)(EE:DX)(n:Nat)(t:fo):bH:=fun δ M Q=>t δ M fun ds M1=>ds.length+1=n/\∀a,M1 a=none->calls T EE (.ref a::ds) (M1.upd a (.ins C [])) (fun d M2=>match d with
 |.non=>Q (.ref a) M2
 |_=>False) ⟨⟩
theorem iS(Mk':Mk X.K C f)(F:FnOk X.prog X.w X.K X.mg X.base CX k f fd ps (aq X.K n T))(hr:Room (k+1) X.A)(hg:Gl X x)(hm:X.mg x=some (.ref C))(hb:Binds X.K fd ps [])(hx:d4 CX X E)(ux:AF X.K B EE E)
  (ha:DA X B (e::es) t) (hdb:(x==("__debug__":Str))=false:=by decide) (he:starEach (e::es) X.env=(false,eval e X.env)::starEach es X.env:=by rfl) (hpl:(backTo pos (starEach es X.env)).any (·.1)=false:=by rfl):
  DE X B (.Call (.Name x p) (e::es) [] pos) (oK C T EE n t):=by
 refine aU (xo Mk' F hr hg hm hb .nil hx ha hdb he hpl) ?_
 rintro σ H Q ⟨δ,M,QQ,s,h,u⟩
 refine ⟨δ,M,_,s,h,fun ds M1 h1 vs H1 rh1 i1 r1 a dx na ndx nex=>?_⟩;rw [List.append_nil];have nx1:upd H1 dx (.own a) a=none:=by rw [upd_ne (Ne.symm nex)];exact na
 have im1:Imm H1 (upd H1 dx (.own a)):=Imm.new ndx;have im2:Imm (upd H1 dx (.own a)) (upd (upd H1 dx (.own a)) a (.ins C dx [])):=Imm.new nx1;have rh2:RepH X.K (upd (upd H1 dx (.own a)) a (.ins C dx [])) (M1.upd a (.ins C [])):=(rh1.new ndx).put (by rw [nx1];trivial) ⟨dx,[],upd_same,.nil⟩
 have f2:Frm M1 H1 (M1.upd a (.ins C [])) (upd (upd H1 dx (.own a)) a (.ins C dx [])):=(Frm.new ndx).trans (Frm.put (.inl nx1));refine dJ (h1.2 a (rh1.fresh na)) rh2 (.cons rfl ((r1.mono im1).mono im2)) (by rw [List.length_cons,<- r1.length];exact h1.1) (fun d M2 h2 v H2 rh f r=>?_) ((s.ux ux).go (i1.trans f2))
 cases d with
 |non=>exact ⟨r,u _ M2 h2 _ H2 rh ((i1.trans f2).trans f) rfl⟩
 |_=>exact (show False from h2).elim
end
end L3
namespace L3
open PySem L2
section
variable {X:Cx}{B:Bd}{K:W.Frag}{H H':Hp}{M M1 M':Mem}{o e:Expr}{es:List Expr}{to:bH}{t:fo}{name:Str}{apos cpos:Pos}{Ty id:String}
abbrev zW:=D->List D->Mem->DK->Prop
inductive liftM(X:Cx)(r:zW)(x:V)(xs:List V)(H:Hp)(Q:VK):Prop
 |mk (d:D) (ds:List D) (M:Mem) (QQ:DK) (rh:RepH X.K H M) (rx:Rp X.K H d x) (rs:Rps X.K H ds xs) (h:r d ds M QQ) (u:Up X.K M H QQ Q):liftM X r x xs H Q
def Cd(Ty:String)(r:zW)(to:bH)(t:fo):bH:=fun δ M Q=>to δ M fun x M1=>gA M1 x=some Ty/\t δ M1 fun ds M2=>r x ds M2 Q
theorem B_{d:D}{v:V}(rh:RepH K H M)(r:Rp K H d v)(e:gA M d=some Ty)(h:Ty="list"\/Ty="str"\/Ty="int"\/Ty="dict"):tyV K Ty v H:=by
 cases d with
 |non=>cases e;rcases h with h|h|h|h<;>exact absurd h (by decide)
 |bl b=>cases e;rcases h with h|h|h|h<;>exact absurd h (by decide)
 |int i=>cases r;cases e;rfl
 |str x=>cases r;cases e;rfl
 |tup xs=>cases e;rcases h with h|h|h|h<;>exact absurd h (by decide)
 |lst xs=>
  cases e;obtain ⟨p,vs,rfl,hf,r⟩:=r;exact .inl ⟨rfl,vs,hf.sq⟩
 |ref a=>
  cases r;simp only [gA] at e
  split at e
  ·rename_i q;cases e;obtain ⟨ws,h1,h2⟩:=rh _ _ q;exact .inl ⟨rfl,ws,jZ h1⟩
  ·rename_i q;cases e;obtain ⟨ws,h1,h2⟩:=rh _ _ q;exact .inr (.inr (.inl ⟨rfl,.inl ⟨ws,h1⟩⟩))
  ·rename_i q;cases e;obtain ⟨ws,h1,h2⟩:=rh _ _ q;exact .inr (.inr (.inl ⟨rfl,.inr ⟨ws,h1⟩⟩))
  ·cases e
 |_=>cases e
theorem qO{r:zW}(hT:Ty="list"\/Ty="str"\/Ty="int"\/Ty="dict")(pa:PlainAttrs Ty)(slot:Slot Ty name id)(hty:typeOf (.builtin id)=pure (.type "method_descriptor"))(hm:zI X id (liftM X r))(ho:DE X B o to)(ha:DA X B (e::es) t)
  (hbase:attributeBase o name X.env (eval o X.env)=eval o X.env:=by rfl)
  (hfew:((backTo cpos (starEach (e::es) X.env)).all (fun x=>!x.1)&&(backToKw cpos (keywordEach [] X.env)).all (fun x=>x.1.isSome)
   && decide ((e::es).length+([]:List Keyword).length+(if ([]:List Keyword).isEmpty then 0 else 1)<30))=true:=by rfl)
  (hline:(apos.endLine==cpos.line)=true:=by rfl) (hs:starEach (e::es) X.env=(false,eval e X.env)::starEach es X.env:=by rfl) (hplain:(backTo cpos (starEach es X.env)).any (·.1)=false:=by rfl):
  DE X B (.Call (.Attribute o name apos) (e::es) [] cpos) (Cd Ty r to t):=by
 refine aU (Cl pa slot hty hm ho ha hbase hfew hline hs hplain) ?_
 rintro σ H Q ⟨δ,M,QQ,s,h,u⟩
 refine ⟨δ,M,_,s,h,fun x M1 h1 v H1 rh1 i1 r1=>⟨B_ rh1 r1 h1.1 hT,δ,M1,_,s.go rh1 i1,h1.2,fun ds M2 h2 vs H2 rh2 i2 r2=>?_⟩⟩;exact ⟨x,ds,M2,QQ,rh2,r1.mf rh1 i2,r2,h2,u.go (i1.trans i2)⟩
def eV:zW:=fun x ds M Q=>match x,ds with
 |.ref a,[y]=>match M a with
  |some (.lst xs)=>xs.length<sizeLine/\Q .non (M.upd a (.lst (xs++[y])))
  |_=>False
 |_,_=>False
theorem fF:zI X "list.append" (liftM X eV):=by
 intro pins s σ H x vs v us Q I rx rv h;obtain ⟨d,ds,M,QQ,rh,r,rs,h,up⟩:=h;unfold eV at h
 split at h
 ·rename_i a y
  cases r;obtain ⟨w,rfl,rw'⟩:=eP (ds:=[]) rs
  split at h
  ·rename_i xs hM
   obtain ⟨ws,h1,h2⟩:=rh _ _ hM;have im:Imm H (upd H a (.lst (ws++[w]))):=Imm.upd (by rw [h1];trivial)
   exact tW pins s σ H _ _ v us Q I rx rv ⟨a,ws,w,rfl,rfl,h1,by rw [<- h2.length];exact h.1,up _ _ h.2 _ _ (rh.put (by rw [h1];trivial) ⟨_,upd_same,(h2.append (.cons rw' .nil)).mono im⟩) (Frm.put (.inr ⟨_,hM⟩)) rfl⟩
  ·exact h.elim
 ·exact h.elim
def uz:V->List V->Hp->VK->Prop:=fun x vs H Q=>∃l b xs zs,x=.ref l/\vs=[.ref b]/\H l=some (.lst xs)/\Rd H b (.lst zs)/\xs.length+zs.length<=sizeLine/\Q .non (upd H l (.lst (xs++zs)))
theorem pX:MtM X "list.extend" uz:=by
 intro pins s σ H x vs v us Q I rx rv h;obtain ⟨l,b,xs,zs,rfl,rfl,hH,hB,hz,q⟩:=h;cases rx;obtain ⟨u,rfl,ru⟩:=rv.one;cases ru;obtain ⟨z,its,n,r,hl,e⟩:=I.lstM hH;obtain ⟨z2,its2,n2,r2,e2⟩:=hB.ok I.hok;have hl2:=r2.length;have hsz:its.toArray.size+its2.toArray.size<=sizeLine:=by rw [List.size_toArray,List.size_toArray];lia
 have hlong:¬(!its.toArray.isEmpty&&Builtin.List.listTooLong (its.toArray.size+its2.toArray.size))=true:=by
  rw [ve hsz,Bool.and_false];exact Bool.false_ne_true
 refine call_meets F.slot_list_extend ⟨_,e,rfl⟩ F.entry_list_extend (F.args_list_extend_2 _ _)
  (AutoSeq1.list_extend_list_list_0 l its.toArray n b its2.toArray n2 hlong (by rw [List.size_toArray];lia) (by lia)) ⟨e,e2,?_⟩
 refine ⟨.non,_,I.lset (its':=its++its2) hH e (by simp) (r.append r2) ?_,rfl,q⟩
 rw [List.length_append];lia
def ma:zW:=fun x ds M Q=>match x,ds with
 |.ref a,[y]=>match M a,seqL M y with
  |some (.lst xs),some ys=>xs.length+ys.length<=sizeLine/\Q .non (M.upd a (.lst (xs++ys)))
  |_,_=>False
 |_,_=>False
theorem qy:zI X "list.extend" (liftM X ma):=by
 intro pins s σ H x vs v us Q I rx rv h;obtain ⟨d,ds,M,QQ,rh,r,rs,h,up⟩:=h;unfold ma at h
 split at h
 ·rename_i a y
  cases r;obtain ⟨w,rfl,rw'⟩:=eP (ds:=[]) rs
  split at h
  ·rename_i xs ys hM hy
   obtain ⟨ws,h1,h2⟩:=rh _ _ hM;obtain ⟨p,zs,rfl,hq,r2⟩:=cS rh rw' hy;have l1:=h2.length;have l2:=r2.length;have im:Imm H (upd H a (.lst (ws++zs))):=Imm.upd (by rw [h1];trivial)
   exact pX pins s σ H _ _ v us Q I rx rv ⟨a,p,ws,zs,rfl,rfl,h1,hq,by lia,up _ _ h.2 _ _ (rh.put (by rw [h1];trivial) ⟨_,upd_same,(h2.append r2).mono im⟩) (Frm.put (.inr ⟨_,hM⟩)) rfl⟩
  ·exact h.elim
 ·exact h.elim
def dj:List D->Option (List Str)
 |[]=>some []
 |.str x::ds=>match dj ds with
  |some xs=>some (x::xs)
  |none=>none
 |_=>none
theorem jP:∀{ds:List D} {vs:List V} {xs:List Str},Rps K H ds vs->dj ds=some xs->vs=xs.map V.str
 |[],vs,xs,r,e=>by cases e;exact r
 |d::ds,vs,xs,r,e=>by
  obtain ⟨v,r',rfl,a,b⟩:=r;cases d with
  |str c=>
   simp only [dj] at e
   split at e
   ·rename_i xs' e2
    cases e;cases a;rw [jP b e2];rfl
   ·cases e
  |_=>cases e
def m7:zW:=fun x ds M Q=>match x,ds with
 |.tup xs,[.str z]=>match dj xs with
  |some names=>names.length<=1000/\match names.findIdx? (fun y=>decide (y=z)) with
   |some j=>Q (.int (j:Nat)) M
   |none=>False
  |none=>False
 |_,_=>False
theorem jd:zI X "tuple.index" (liftM X m7):=by
 intro pins s σ H x vs v us Q I rx rv h;obtain ⟨d,ds,M,QQ,rh,r,rs,h,up⟩:=h;unfold m7 at h
 split at h
 ·rename_i xs z
  obtain ⟨p,ws,rfl,ht,r⟩:=r;obtain ⟨w,rfl,rw'⟩:=eP (ds:=[]) rs;cases rw'
  split at h
  ·rename_i names en
   obtain ⟨hl,h⟩:=h
   split at h
   ·rename_i j ej
    have:=jP r en;subst this;rw [List.findIdx?_eq_some_iff_getElem] at ej;obtain ⟨hj,e1,e2⟩:=ej;refine tQ pins s σ H _ _ v us Q I rx rv ⟨p,names,z,j,rfl,rfl,ht,hl,?_,fun m hm=>?_,up _ M h _ H rh Frm.refl rfl⟩
    ·rw [List.getElem?_eq_getElem hj];simpa using e1
    ·have:=e2 m hm
     rw [List.getElem?_eq_getElem (by lia)]
     simpa using this
   ·exact h.elim
  ·exact h.elim
 ·exact h.elim
def dTM(r:zW)(to:bH)(t:fo):bH:=fun δ M Q=>to δ M fun x M1=>match x with
 |.tup xs=>t δ M1 fun ds M2=>r (.tup xs) ds M2 Q
 |_=>False
theorem zE{r:zW}(slot:Slot "tuple" name id)(hty:typeOf (.builtin id)=pure (.type "method_descriptor"))(hm:zI X id (liftM X r))(ho:DE X B o to)(ha:DA X B (e::es) t)
  (hbase:attributeBase o name X.env (eval o X.env)=eval o X.env:=by rfl)
  (hfew:((backTo cpos (starEach (e::es) X.env)).all (fun x=>!x.1)&&(backToKw cpos (keywordEach [] X.env)).all (fun x=>x.1.isSome)
   && decide ((e::es).length+([]:List Keyword).length+(if ([]:List Keyword).isEmpty then 0 else 1)<30))=true:=by rfl)
  (hline:(apos.endLine==cpos.line)=true:=by rfl) (hs:starEach (e::es) X.env=(false,eval e X.env)::starEach es X.env:=by rfl) (hplain:(backTo cpos (starEach es X.env)).any (·.1)=false:=by rfl):
  DE X B (.Call (.Attribute o name apos) (e::es) [] cpos) (dTM r to t):=by
 refine aU (D3 slot hty hm ho ha hbase hfew hline hs hplain) ?_
 rintro σ H Q ⟨δ,M,QQ,s,h,u⟩
 refine ⟨δ,M,_,s,h,fun x M1 h1 v H1 rh1 i1 r1=>?_⟩;cases x with
 |tup xs=>
  have r1':=r1;obtain ⟨p,vs,rfl,ht,rr⟩:=r1';refine ⟨⟨p,vs,rfl,ht⟩,δ,M1,_,s.go rh1 i1,h1,fun ds M2 h2 vs H2 rh2 i2 r2=>?_⟩;exact ⟨_,ds,M2,QQ,rh2,r1.mf rh1 i2,r2,h2,u.go (i1.trans i2)⟩
 |_=>exact (show False from h1).elim
def zR:bH:=fun _ M Q=>∀p,M p=none->Q (.ref p) (M.upd p (.dT []))
theorem xq{pos:Pos}:DE X B (.Dict [] [] pos) zR:=by
 refine aU vS ?_
 rintro σ H Q ⟨δ,M,QQ,s,h,u⟩ p hp
 exact u _ _ (h p (s.rh.fresh hp)) _ _ (s.rh.put (by rw [hp];trivial) ⟨[],upd_same,.nil⟩) (Frm.put (.inl hp)) rfl
def uf(ks:List au)(ys:List D):List (au×D):=(ks.zip ys).foldl (fun a p=>di a p.1 p.2) []
theorem oZ:∀{ks:List au} {ds:List D} {vs:List V} {a:List (au×D)} {b:List (au×V)},Rps K H ds vs->Rkv K H a b->
  Rkv K H ((ks.zip ds).foldl (fun a p=>di a p.1 p.2) a) ((ks.zip vs).foldl (fun a p=>cF a p.1 p.2) b)
 |[],_,_,_,_,_,r=>r
 |_::_,[],_,_,_,h,r=>by cases h;exact r
 |k::ks,d::ds,_,_,_,h,r=>by
  obtain ⟨v,vs,rfl,a,b⟩:=h;exact oZ (ks:=ks) b (r.put k a)
def mZ(t:fo):bH:=fun δ M Q=>t δ M fun ds M1=>match ds with
 |[.tup xs,.tup ys]=>match dG xs with
  |some ks=>ks.length=ys.length/\0<ks.length/\ks.length<=1000/\∀p,M1 p=none->Q (.ref p) (M1.upd p (.dK (uf ks ys)))
  |none=>False
 |_=>False
theorem pN{a b:Expr}{ta:fo}{p p2 pos pos2:Pos}(hc:X.calm=true)(hg:Gl X "zip")(hm:X.mg "zip"=none)(hg2:Gl X "dict")(hm2:X.mg "dict"=none)(ha:DA X B [a,b] ta)
  (hs:starEach [a,b] X.env=[(false,eval a X.env),(false,eval b X.env)]:=by rfl) (hs2:starEach [b] X.env=[(false,eval b X.env)]:=by rfl)
  (hs3:starEach [Expr.Call (.Name "zip" p2) [a,b] [] pos2] X.env=[(false,eval (.Call (.Name "zip" p2) [a,b] [] pos2) X.env)]:=by rfl):
  DE X B (.Call (.Name "dict" p) [.Call (.Name "zip" p2) [a,b] [] pos2] [] pos) (mZ ta):=by
 refine aU (pB false false hc hg hm hg2 hm2 ha hs hs2 hs3) ?_
 rintro σ H Q ⟨δ,M,QQ,s,h,u⟩
 refine ⟨δ,M,_,s,h,fun ds M1 h1 vs H1 rh1 i1 r1=>?_⟩
 split at h1
 ·obtain ⟨v,w,rfl,rv,rw'⟩:=AG r1
  obtain ⟨l1,us,rfl,t1,ru⟩:=rv;obtain ⟨l2,ws,rfl,t2,rw2⟩:=rw'
  split at h1
  ·rename_i ks ek
   obtain ⟨e1,e2,e3,h1⟩:=h1;have hk:=ju ru ek;subst hk;refine ⟨l1,l2,ks,ws,rfl,t1.sq,t2.sq,by rw [<- rw2.length];exact e1,e2,e3,fun d hd=>?_⟩
   have im:Imm H1 (upd H1 d (.dK ((ks.zip ws).foldl (fun a p=>cF a p.1 p.2) []))):=Imm.new hd;exact u _ _ (h1 d (rh1.fresh hd)) _ _ (rh1.put (by rw [hd];trivial) ⟨_,upd_same,(oZ rw2 .nil).mono im⟩) (i1.trans (Frm.put (.inl hd))) rfl
  ·exact h1.elim
 ·exact h1.elim
end
section
variable {P:Program}{w:World}{K:W.Frag}{mg:Str->Option Value}{base:Heap}{N:List Str}{qual:Str}{scope:Scope}{f C:Addr}{cd:Value}{A:Around}{outer:List Env}{s0:Shared}{H0:Hp}{E:XK}{B:Bd}
theorem yt{X:Cx}{st:Stmt}{t:TS}{E':Value->Shared->Prop}(h:PS X st t)(k:∀e s,X.xe e s->E' e s):PS (X.wish E') st t:=fun pins s σ H D I q=>
 wpAny_mono (h pins s σ H D (I.unwish) q) (fun f s' z=>by
  cases f with
  |next=>obtain ⟨σ',H',I,q⟩:=z;exact ⟨σ',H',I.wish _,q⟩
  |brk=>obtain ⟨σ',H',I,q⟩:=z;exact ⟨σ',H',I.wish _,q⟩
  |cont=>obtain ⟨σ',H',I,q⟩:=z;exact ⟨σ',H',I.wish _,q⟩
  |ret u=>obtain ⟨v,σ',H',I,r,q⟩:=z;exact ⟨v,σ',H',I.wish _,r,q⟩) k
def lg(C:Addr)(EE:DX):aI:=fun _ _ M=>EE C M
theorem jY{x msg:Str}{np cpos pos apos:Pos}{jj}{EE:DX}(X:ExcAt K C)(hm:mg x=some (.ref C))(ux:AF K B EE E)(hg:Gl (dF (bP P w) P w K mg base N qual scope f cd A outer s0 H0 E) x)
  (hd:(x==("__debug__":Str))=false:=by decide)
  (hs:starEach [.Constant (.str msg) jj apos] (dF (bP P w) P w K mg base N qual scope f cd A outer s0 H0 E).env=[(false,eval (.Constant (.str msg) jj apos) (dF (bP P w) P w K mg base N qual scope f cd A outer s0 H0 E).env)]:=by rfl):
  DS (dF (bP P w) P w K mg base N qual scope f cd A outer s0 H0 E) B (.Raise (some (.Call (.Name x np) [.Constant (.str msg) jj apos] [] cpos)) none pos) (lg C EE):=by
 have h1:PS (dF (p0 P w C) P w K mg base N qual scope f cd A outer s0 H0 E) (.Raise (some (.Call (.Name x np) [.Constant (.str msg) jj apos] [] cpos)) none pos) (qp E C):=w6 X hm hg hd hs;have h2:PS (dF (bP P w) P w K mg base N qual scope f cd A outer s0 H0 E) (.Raise (some (.Call (.Name x np) [.Constant (.str msg) jj apos] [] cpos)) none pos) (qp E C):=
  yt h1 fun e s h=>wpAny_mono h (fun _ _ z=>⟨C,z⟩) fun _ _ z=>⟨C,z⟩
 refine cg h2 ?_
 rintro D σ H ⟨δ,M,DD,s,h,up⟩
 exact ux C M h H s.rh s.i0
end
section
variable {X:Cx}{B:Bd}
def Dd(C:Addr)(T:Sd)(n:Nat)(ta:fo)(ts:aI):aI:=fun D δ M=>ta δ M fun ds M1=>ds.length=n/\calls T (fun C' M2=>C'=C/\ts D δ M2) ds M1 (fun _ M2=>D.nx δ M2) ⟨⟩
theorem SR.mark{δ:Dl}{M:Mem}{σ:L2.St}{H:Hp}{e:Value}(s:SR X B δ M σ H):SR (X.marked e) B δ M σ H:=⟨s.i0,s.rh,s.rs⟩
theorem SR.unmark{δ:Dl}{M:Mem}{σ:L2.St}{H:Hp}{e:Value}(s:SR (X.marked e) B δ M σ H):SR X B δ M σ H:=⟨s.i0,s.rh,s.rs⟩
theorem UpD.mark{M:Mem}{H:Hp}{DD:DEnds}{D:Ends}{e:Value}(u:UpD X B M H DD D):UpD (X.marked e) B M H DD D:=
 ⟨fun δ M q σ H' f s=>u.nx δ M q σ H' f s.unmark,u.rt,fun δ M q σ H' f s=>u.bk δ M q σ H' f s.unmark,fun δ M q σ H' f s=>u.ct δ M q σ H' f s.unmark⟩
theorem yE{P:Program}{w:World}{K:W.Frag}{mg:Str->Option Value}{base:Heap}{k:Nat}{f C:Addr}{fd:FuncData}{ps:List Str}{sp:Sp}(F:FnOk P w K mg base (bP P w) k f fd ps sp):
  FnOk P w K mg base (p0 P w C) k f fd ps (fun vs H Q E=>sp vs H Q fun Cv a H'=>Cv=.ref C/\E Cv a H'):=
 ⟨fun vs H Q E h=>F.len _ _ _ _ h,fun A outer s H args us vs Q E hr he hb hv hs=>codeAny_mono (F.run A outer s H args us vs Q _ hr he hb hv hs) fun r s' h=>by
  cases r with
  |ok fl=>cases fl<;>exact h
  |error e=>
   obtain ⟨C',ea,H',B,a0,e1,e2,e3,e4,e5,e6,e7,e8,e9,e10⟩:=h;have eC:C'=C:=by injection e9
   subst eC;exact ⟨ea,H',B,a0,e1,e2,e3,e4,e5,e6,e7,e8,e10⟩⟩
theorem qE{C f:Addr}{k n:Nat}{fd:FuncData}{ps:List Str}{T:Sd}{x cx:Str}{p cp ep np hpos pos:Pos}{e:Expr}{es:List Expr}{ta:fo}{b₀:Stmt}{suite:List Stmt}{ts:aI}
  (hst:X.stack=X.env::X.outer) (hfL:X.env.frame=some X.env.locals) (F:FnOk X.prog X.w X.K X.mg X.base (bP X.prog X.w) k f fd ps (aq X.K n T)) (hr:Room k X.A) (hg:Gl X x) (hm:X.mg x=some (.ref f)) (hk:W.keepIn X.K (.ref f)=true) (hb:Binds X.K fd ps [])
  (ha:DA X.nox B (e::es) ta) (EX:ExcAt X.K C) (hgC:Gl X cx) (hmC:X.mg cx=some (.ref C)) (hsu:∀ea:Addr,xh (X.marked (.ref ea)) B (b₀::suite) ts)
  (hdb:(x==("__debug__":Str))=false:=by decide) (hdC:(cx==("__debug__":Str))=false:=by decide) (he:starEach (e::es) X.env=(false,eval e X.env)::starEach es X.env:=by rfl) (hpl:(backTo cp (starEach es X.env)).any (·.1)=false:=by rfl)
  (hsw:swapsWith (.Call (.Name x p) (e::es) [] cp) none ep.line X.env=pure false:=by rfl):
  DS X B (.Try [.Expr (.Call (.Name x p) (e::es) [] cp) ep] [.ExceptHandler (some (.Name cx np)) none (b₀::suite) hpos] [] [] pos) (Dd C T n ta ts):=by
 have hsu':∀ea:Addr,qY (X.marked (.ref ea)) (b₀::suite) (liftS X B ts):=fun ea=>jr (hsu ea) fun D σ H ⟨δ,M,DD,s,h,u⟩=>⟨δ,M,DD,s.mark,h,u.mark⟩;refine cg (pk (C:=C) hst hfL (yE F) hr hg hm hk hb .nil ha EX hgC hmC hsu' hdb hdC he hpl hsw) ?_
 rintro D σ H ⟨δ,M,DD,s,h,up⟩
 refine ⟨δ,M,_,⟨s.i0,s.rh,s.rs⟩,h,fun ds M1 h1 vs H1 rh1 i1 r1=>?_⟩
 try dsimp only
 rw [List.append_nil];refine dJ h1.2 rh1 r1 (by rw [<- r1.length];exact h1.1) (fun d M2 h2 v H2 rh2 i2 r2=>?_) fun C' M2 h2 H2 rh2 i2=>?_
 ·exact up.nx _ _ h2 σ H2 (i1.trans i2) (s.go rh2 (i1.trans i2))
 ·obtain ⟨rfl,h2⟩:=h2
  exact ⟨rfl,δ,M2,DD,s.go rh2 (i1.trans i2),h2,up.go (i1.trans i2)⟩
end
end L3
namespace L2
open PySem PySem.Spec PyProof.Rows
theorem cC{scope:Scope}{env:Env}{x:Str}{k:NameKind}(h:(relabel scope env).names.lookup x=some k):∃k',(x,k')∈scope.names/\(k=k'\/(k'=.free/\k=.cell)):=by
 have hm:=PySem.mem_of_lookup h;obtain ⟨⟨n,kk⟩,h1,h2⟩:=List.mem_map.mp hm
 by_cases hc:(kk==NameKind.free&&env.scope.kind==.function&&env.kindOf n==some .cell)=true
 ·have h2':(n,NameKind.cell)=(x,k):=by rw [<- h2];show _=(if _ then _ else _);rw [if_pos hc]
  cases h2';have hf:kk=.free:=by
   simp only [Bool.and_eq_true] at hc;exact beq_iff_eq.mp hc.1.1
  exact ⟨kk,h1,.inr ⟨hf,rfl⟩⟩
 ·have h2':(n,kk)=(x,k):=by rw [<- h2];show _=(if _ then _ else _);rw [if_neg hc]
  cases h2';exact ⟨_,h1,.inl rfl⟩
theorem g_{x:Str}:∀{fs:List Str} {cs:List Addr},fs.length=cs.length->x∈fs->∃c,(fs.zip cs).lookup x=some c
 |[],_,_,h=>by cases h
 |_::_,[],h,_=>by simp at h
 |y::fs,c::cs,hl,h=>by
  rw [List.zip_cons_cons,List.lookup_cons];cases e:x==y with
  |true=>exact ⟨c,rfl⟩
  |false=>
   have ne:¬x=y:=fun z=>by rw [z] at e;simp at e
   rcases List.mem_cons.mp h with z|z
   ·exact absurd z ne
   ·exact g_ (by simpa using hl) z
theorem iD{X:Cx}{scope:Scope}{ls:List Str}(hk:scope.kind=.function)(hn:∀y∈scope.names,y.2≠.cell/\y.2≠.free)(hl:∀x∈scope.names,x.2=.local->scope.names.lookup x.1=some .local):CompOk X scope [] ls [] [] where
 kind:=hk
 nocell:=fun y hy=>(hn y hy).1
 locs:=hl
 clos:=closureFor_none fun x hx=>(hn x hx).2
 cells:=fun x c h=>by cases h
 has:=fun x h=>by
  rcases h with h|h
  ·obtain ⟨k',h1,h2|⟨h2,_⟩⟩:=cC h
   ·exact absurd h2.symm (hn _ h1).1
   ·exact absurd h2 (hn _ h1).2
  ·obtain ⟨k',h1,h2|⟨h2,_⟩⟩:=cC h
   ·exact absurd h2.symm (hn _ h1).2
   ·exact absurd h2 (hn _ h1).2
 frees:=.nil
theorem cn{X:Cx}{scope:Scope}{ls fs:List Str}{cs:List Addr}{js:List Nat}(hk:scope.kind=.function)(hn:∀y∈scope.names,y.2≠.cell/\(y.2=.free->y.1∈fs))(hl:∀x∈scope.names,x.2=.local->scope.names.lookup x.1=some .local)
  (hlen:fs.length=cs.length) (hcl:closureFor scope X.env=pure (fs.zip cs)) (hc:∀p∈fs.zip cs,X.env.cells.lookup p.1=some p.2) (hf:Frees X scope fs js):CompOk X scope (fs.zip cs) ls fs js where
 kind:=hk
 nocell:=fun y hy=>(hn y hy).1
 locs:=hl
 clos:=hcl
 cells:=fun y d h=>hc (y,d) (PySem.mem_of_lookup h)
 has:=fun y h=>by
  have hy:y∈fs:=by
   rcases h with h|h
   ·obtain ⟨k',h1,h2|⟨h2,_⟩⟩:=cC h
    ·exact absurd h2.symm (hn _ h1).1
    ·exact (hn _ h1).2 h2
   ·obtain ⟨k',h1,h2|⟨h2,_⟩⟩:=cC h
    ·exact (hn _ h1).2 h2.symm
    ·exact (hn _ h1).2 h2
  exact g_ hlen hy
 frees:=hf
theorem ij{α:Type}{C:α->Prop}:∀p∈([]:List α),C p:=fun _ h=>by cases h
theorem eM{α:Type}{C:α->Prop}{a:α}{l:List α}(ha:C a)(hl:∀p∈l,C p):∀p∈a::l,C p:=fun p hp=>by
 rcases List.mem_cons.mp hp with rfl|z
 ·exact ha
 ·exact hl p z
end L2
namespace L3
open PySem L2
section
variable {X:Cx}{B:Bd}{pos:Pos}
theorem ai(i:Nat){x:Str}{pos:Pos}(hN:X.N[i]?=some x:=by rfl)(hv:Ce X.env.scope x:=by first|exact Or.inl rfl|exact Or.inr (Or.inl rfl)|exact Or.inr (Or.inr rfl))(hd:(x==("__debug__":Str))=false:=by decide)
  (hcd:(x==("__classdict__":Str))=false:=by decide):DE X B (.Name x pos) (aa i):=AM hN hv hd hcd
def kq:DX:=fun _ _=>False
theorem z6{K:W.Frag}{E:XK}:AF K B kq E:=fun _ _ z=>z.elim
theorem bt_list':bootBuiltins "list"=some (.type "list"):=by decide +kernel
theorem bt:bootBuiltins "tuple"=some (.type "tuple"):=by decide +kernel
theorem lc:bootBuiltins "all"=some (.builtin "all"):=by decide +kernel
theorem aW:bootBuiltins "isinstance"=some (.builtin "isinstance"):=by decide +kernel
theorem ou:bootBuiltins "bool"=some (.type "bool"):=by decide +kernel
theorem xH:bootBuiltins "str"=some (.type "str"):=by decide +kernel
theorem uj:bootBuiltins "dict"=some (.type "dict"):=by decide +kernel
theorem bA:bootBuiltins "len"=some (.builtin "len"):=by decide +kernel
theorem eG{x:Str}{T:String}(hg:Gl X x)(hm:X.mg x=none)(hv:bootBuiltins x=some (.type T))(hn:x≠"__name__":=by decide)(hd:(x==("__debug__":Str))=false:=by decide):DE X B (.Name x pos) (dC (.ty T)):=
 vy (xx (v:=.ty T) hg hm hv rfl hn hd) fun _=>rfl
def E5(t:bH):bH:=fun δ M Q=>t δ M fun x M1=>match x with
 |.int i=>Q (.int (-i)) M1
 |_=>False
theorem AS{a:Expr}{ta:bH}(ha:DE X B a ta):DE X B (.UnaryOp .USub a pos) (E5 ta):=by
 refine aU (D6 B4 ha) ?_
 rintro σ H Q ⟨δ,M,QQ,s,h,u⟩
 refine ⟨δ,M,_,s,h,fun d M' q v H' rh i r=>?_⟩;cases d with
 |int j=>exact ⟨j,r,u _ M' q _ H' rh i rfl⟩
 |_=>exact (show False from q).elim
def frzs:List D->Mem->(List D->Mem->Prop)->Prop
 |[],M,Q=>Q [] M
 |d::ds,M,Q=>match d with
  |.ref a=>match M a with
   |some (.lst xs)=>frzs ds (M.del a) fun es M'=>Q (.lst xs::es) M'
   |_=>frzs ds M fun es M'=>Q (d::es) M'
  |_=>frzs ds M fun es M'=>Q (d::es) M'
theorem fX{pins:List (Addr×Obj)}{σ:L2.St}{s:Shared}:∀{ds:List D} {vs:List V} {M:Mem} {H:Hp} {Q:List D->Mem->Prop},Inv X pins σ H s->RepH X.K H M->Rps X.K H ds vs->frzs ds M Q->
  ∃H' es M',Inv X pins σ H' s/\RepH X.K H' M'/\Frm M H M' H'/\Rps X.K H' es vs/\Q es M'
 |[],vs,M,H,Q,I,rh,r,h=>⟨H,[],M,I,rh,Frm.refl,r,h⟩
 |d::ds,vs,M,H,Q,I,rh,r,h=>by
  obtain ⟨v,vs',rfl,a,b⟩:=r;unfold frzs at h
  split at h
  ·rename_i a'
   cases a
   split at h
   ·rename_i xs e
    obtain ⟨ws,h1,h2⟩:=rh _ _ e;obtain ⟨o,I2⟩:=Inv.freeze I h1;have im:Imm H (upd H a' (.frz o (.lst ws))):=Imm.upd (by rw [h1];trivial)
    obtain ⟨H',es,M',I',rh',f,r',q⟩:=fX I2 (rh.freeze h1) (b.mono im) h;refine ⟨H',_,M',I',rh',(Frm.del ⟨_,e⟩).trans f,.cons ?_ r',q⟩;have z:Rp X.K (upd H a' (.frz o (.lst ws))) (.lst xs) (.ref a'):=⟨a',ws,rfl,⟨o,upd_same⟩,h2.mono im⟩;exact z.mf (rh.freeze h1) f
   ·obtain ⟨H',es,M',I',rh',f,r',q⟩:=fX I rh b h
    exact ⟨H',_,M',I',rh',f,.cons (d:=.ref a') rfl r',q⟩
  ·obtain ⟨H',es,M',I',rh',f,r',q⟩:=fX I rh b h
   exact ⟨H',_,M',I',rh',f,.cons (a.mf rh f) r',q⟩
def frzT(d:D)(M:Mem)(Q:DK):Prop:=match d with
 |.tup ds=>frzs ds M fun es M'=>Q (.tup es) M'
 |d=>Q d M
def ko(t:bH):bH:=fun δ M Q=>t δ M fun d M'=>frzT d M' Q
theorem lT{e:Expr}{te:bH}(h:DE X B e te):DE X B e (ko te):=by
 intro pins s σ H Q I hq;obtain ⟨δ,M,QQ,sr,hT,u⟩:=hq;refine thn (h pins s σ H (fun v H'=>∃d M',RepH X.K H' M'/\Frm M H M' H'/\Rp X.K H' d v/\frzT d M' QQ) I ⟨δ,M,_,sr,hT,fun d M' q v H' rh i r=>⟨d,M',rh,i,r,q⟩⟩) ?_
 rintro w s' ⟨v,H',I',rv,d,M',rh,i,r,q⟩
 unfold frzT at q
 split at q
 ·obtain ⟨p,vs,rfl,ht,r⟩:=r
  obtain ⟨H2,es,M2,I2,rh2,f2,r2,q2⟩:=fX I' rh r q;exact ⟨.ref p,H2,I2,rv,u _ _ q2 _ H2 rh2 (i.trans f2) ⟨p,vs,rfl,ht.mono (f2.imm rh),r2⟩⟩
 ·exact ⟨v,H',I',rv,u _ _ q v H' rh i r⟩
theorem AT{P:Program}{w:World}{K:W.Frag}{mg:Str->Option Value}{base:Heap}{k n:Nat}{f:Addr}{fd:FuncData}{ps:List Str}{T:Sd}(F:FnOk P w K mg base (bP P w) k f fd ps (aq K n T)):
  FnOk P w K mg base CX0 k f fd ps (fun vs H Q _=>aq K n T vs H Q E0):=
 ⟨fun vs H Q E h=>F.len _ _ _ _ h,fun A outer s H args us vs Q E hr he hb hv hs=>codeAny_mono (F.run A outer s H args us vs Q E0 hr he hb hv hs) fun r s' h=>by
  cases r with
  |ok fl=>cases fl<;>exact h
  |error e=>
   obtain ⟨C',ea,H',B,a0,e1,e2,e3,e4,e5,e6,e7,e8,e9⟩:=h;exact (show False from e9).elim⟩
theorem xU{K:W.Frag}{T:Sd}{H:Hp}{a:Addr}{ns:List Int}{Q:VK}(hO:ug H)(hS:SqL K H a (ns.map V.int))(h:T [.ml (ns.map D.int)] (fun _=>none) (fun d _=>d=.bl true) kq)(k:∀H',Q (.bl true) H'):aq K 1 T [.ref a] H Q E0:=by
 refine ⟨rfl,[.ml (ns.map D.int)],fun _=>none,_,_,fun b o e=>(by cases e),.cons ⟨a,_,rfl,?_,o_ rfl⟩ .nil,h,fun d M' q v H' rh f r=>?_,fun _ _ z=>z.elim⟩
 ·rcases hS with (z|z)|z
  ·rcases hO a with e|⟨o,xs,e⟩
   ·rw [e] at z;cases z
   ·rw [e] at z;cases z
  ·exact .inl z
  ·exact .inr z
 ·subst q;cases r;exact k H'
end
theorem il{K:W.Frag}{h h':Heap}{N:Addr}(X:K.In h)(X':K.In h')(e:W.nsOkIn K N=true):h'.nsMap N=h.nsMap N:=by
 unfold W.nsOkIn at e
 split at e
 ·rename_i ho
  funext x;unfold Heap.nsMap;rw [X _ _ ho,X' _ _ ho]
 ·cases e
theorem jM{K:W.Frag}{h:Heap}{C:Addr}(X:K.In h)(q:W.excIn K C [.type "ValueError",.type "Exception",.type "BaseException",.type "object"] "ValueError.__new__"=true):ExcAt K C:=by
 unfold W.excIn at q
 split at q
 ·rename_i dd cd sl ho
  split at q
  ·rename_i C' bm k0 k1 k2 k3 n k5 hm hs
   simp only [Bool.and_eq_true,beq_iff_eq,Bool.not_eq_true'] at q;obtain ⟨⟨⟨⟨⟨rfl,rfl⟩,hdel⟩,ht⟩,hok⟩,hni⟩:=q;obtain ⟨nm,bs,mro,ns,qn,hd,sn,sub,ab,col,del⟩:=cd;dsimp only at hm hdel hok hni;subst hm hdel;have hsl:sl=#[k0,k1,k2,k3,some (.builtin "ValueError.__new__"),k5]:=by
    obtain ⟨l⟩:=sl;simp only at hs;rw [hs]
   subst hsl;refine ⟨⟨nm,qn,ns,bs,bm,_,hd,sn,sub,ab,col,dd,k0,k1,k2,k3,k5,"ValueError.__new__","ValueError.__init__","ValueError",h.nsMap ns,fun h' X'=>⟨X' _ _ ho,?_,W.tail_of_in X' ht⟩,W.nsMap_none_of_in X hok hni,PySem.F.excBase_ValueError,by decide,(W.tail_of_in X ht).hasType (by decide)⟩⟩
   rw [<- il X X' hok];exact .of_isNs (W.isNs_of_in X' hok)
  ·cases q
 ·cases q
end L3
namespace L2
open PySem
theorem rX{elt:Expr}{gens:List Comprehension}{scope:Scope}{pos px:Pos}{x:Str}{line:Nat}{env:Env}(h1:env.blockKind=.function)(h2:env.scope.names.lookup x=some .local)(h3:px.line=pos.line)
  (h4:(scope.names.any fun (n,k)=>n==x&&(k==.local||k==.cell))=false):swapsWith (.ListComp elt gens scope pos) (some (.Name x px)) line env=pure true:=by
 have e:(Expr.ListComp elt gens scope pos).pos=pos:=rfl;have h2':env.kindOf x=some .local:=h2;unfold swapsWith
 try dsimp only
 rw [h1,h2',e,h3,h4];simp
end L2
namespace L3
open PySem L2
def vA:Expr->Bool
 |.Starred ..=>false
 |_=>true
theorem sR{e:Expr}{es:List Expr}{env:Env}(h:vA e=true):starEach (e::es) env=(false,eval e env)::starEach es env:=by
 cases e<;>first|rfl|exact Bool.noConfusion h
section
variable {X:Cx}{B:Bd}
theorem pO{e:Expr}{es:List Expr}{te:bH}{t:fo}(ha:DE X B e te)(hr:DA X B es t)(hp:vA e=true:=by rfl):DA X B (e::es) (a9 te t):=a8 ha hr (sR hp)
end
end L3
namespace L3
open PySem L2
section
variable {X:Cx}{B:Bd}
end
end L3
namespace L3
open PySem L2
section
variable {X:Cx}{B:Bd}
end
end L3
namespace L3
open PySem L2
mutual
def cQ:D->PyData
 |.non=>.none
 |.bl b=>.bool b
 |.int i=>.int i
 |.str x=>.str x
 |.tup xs=>.tuple (dk xs)
 |.lst xs=>.list (dk xs)
 |_=>.none
def dk:List D->List PyData
 |[]=>[]
 |x::xs=>cQ x::dk xs
end
mutual
theorem qk:∀d:D,(cQ d).hasDict=false
 |.non=>by simp only [cQ,PyData.hasDict]
 |.bl _=>by simp only [cQ,PyData.hasDict]
 |.int _=>by simp only [cQ,PyData.hasDict]
 |.str _=>by simp only [cQ,PyData.hasDict]
 |.tup xs=>by simp only [cQ,PyData.hasDict];exact lq xs
 |.lst xs=>by simp only [cQ,PyData.hasDict];exact lq xs
 |.ty _=>by simp only [cQ,PyData.hasDict]
 |.ref _=>by simp only [cQ,PyData.hasDict]
 |.mt _=>by simp only [cQ,PyData.hasDict]
 |.ml _=>by simp only [cQ,PyData.hasDict]
theorem lq:∀xs:List D,PyData.hasDictAll (dk xs)=false
 |[]=>by simp only [dk,PyData.hasDictAll]
 |x::xs=>by simp only [dk,PyData.hasDictAll,qk x,lq xs,Bool.or_self]
end
mutual
theorem nR:∀(n:Nat) (d:D),bZ n d=true->(cQ d).depth<=n
 |_,.non,_=>by simp [cQ,PyData.depth]
 |_,.bl _,_=>by simp [cQ,PyData.depth]
 |_,.int _,_=>by simp [cQ,PyData.depth]
 |_,.str _,_=>by simp [cQ,PyData.depth]
 |n+1,.tup xs,f=>by have:=gW n xs f;simp only [cQ,PyData.depth];lia
 |n+1,.lst xs,f=>by have:=gW n xs f;simp only [cQ,PyData.depth];lia
 |0,.tup _,f=>by simp [bZ] at f
 |0,.lst _,f=>by simp [bZ] at f
 |_,.ty _,f=>by simp [bZ] at f
 |_,.ref _,f=>by simp [bZ] at f
 |_,.mt _,f=>by simp [bZ] at f
 |_,.ml _,f=>by simp [bZ] at f
theorem gW:∀(n:Nat) (xs:List D),fits n xs=true->PyData.depthAll (dk xs)<=n
 |_,[],_=>by simp [dk,PyData.depthAll]
 |n,x::xs,f=>by
  rw [fits,Bool.and_eq_true] at f;have:=nR n x f.1;have:=gW n xs f.2;simp only [dk,PyData.depthAll];lia
end
mutual
theorem nI{h:Heap}:∀(d:D) (u:Value),Hr h d u->∃as,Reads h u (cQ d) as
 |.non,u,q=>by cases q;exact ⟨_,.none⟩
 |.bl _,u,q=>by cases q;exact ⟨_,.bool _⟩
 |.int _,u,q=>by obtain ⟨t,rfl⟩:=q;exact ⟨_,.int _ _⟩
 |.str _,u,q=>by obtain ⟨t,rfl⟩:=q;exact ⟨_,.str _ _⟩
 |.tup xs,u,q=>by
  obtain ⟨p,its,rfl,⟨o,h1,h2,n,h3⟩,r⟩:=q;obtain ⟨as,ra⟩:=gP xs its r;exact ⟨_,.tuple h1 h2 h3 ra⟩
 |.lst xs,u,q=>by
  obtain ⟨p,its,rfl,⟨o,h1,h2,n,h3⟩,r⟩:=q;obtain ⟨as,ra⟩:=gP xs its r;exact ⟨_,.list h1 h2 h3 ra⟩
 |.ty _,_,q=>q.elim
 |.ref _,_,q=>q.elim
 |.mt _,_,q=>q.elim
 |.ml _,_,q=>q.elim
theorem gP{h:Heap}:∀(xs:List D) (us:List Value),Hrs h xs us->∃as,ReadsAll h us (dk xs) as
 |[],_,q=>by cases q;exact ⟨_,.nil⟩
 |x::xs,_,q=>by
  obtain ⟨u,r,rfl,a,b⟩:=q;obtain ⟨a1,r1⟩:=nI x u a;obtain ⟨a2,r2⟩:=gP xs r b;exact ⟨_,.cons r1 r2⟩
end
section
variable {X:Cx}{B:Bd}
end
theorem wO:bootBuiltins "repr"=some (.builtin "repr"):=by decide +kernel
end L3
namespace LS
open PySem
def Rs(xs:Array Nat):Prop:=xs.toList.Pairwise (· < ·)
theorem Rs.lt{xs:Array Nat}(r:Rs xs){i j:Nat}(h:i<j)(hj:j<xs.size):xs[i]'(by lia)<xs[j]:=by
 have:=List.pairwise_iff_getElem.mp r i j (by simpa using (by lia:i<xs.size)) (by simpa using hj) h
 simpa using this
structure Lb(xs:Array Nat)(j p:Nat):Prop where
 le:p<=xs.size
 lo:∀i (h:i<xs.size),i<p->xs[i]<j
 hi:∀i (h:i<xs.size),p<=i->j<=xs[i]
theorem jk{xs:Array Nat}(r:Rs xs)(j:Nat):∀(f lo hi:Nat),lo<=hi->hi<=xs.size->hi-lo<=f->(∀i (h:i<xs.size),i<lo->xs[i]<j)->(∀i (h:i<xs.size),hi<=i->j<=xs[i])->Lb xs j (SetTable.below.go xs j f lo hi)
 |0,lo,hi,h1,h2,h3,a,b=>by
  have:lo=hi:=by lia
  subst this;exact ⟨by simp only [SetTable.below.go];exact h2,a,b⟩
 |f+1,lo,hi,h1,h2,h3,a,b=>by
  simp only [SetTable.below.go]
  by_cases c:lo<hi
  ·rw [if_pos c]
   have hm:(lo+hi) / 2<xs.size:=by lia
   have hg:xs.getD ((lo+hi) / 2) j=xs[(lo+hi) / 2]:=by simp [Array.getD,hm]
   rw [hg]
   by_cases d:xs[(lo+hi) / 2]<j
   ·rw [if_pos d]
    refine jk r j f _ _ (by lia) h2 (by lia) (fun i h q=>?_) b
    rcases Nat.lt_or_ge i ((lo+hi) / 2) with z|z
    ·exact Nat.lt_trans (r.lt z hm) d
    ·have:i=(lo+hi) / 2:=by lia
     subst this;exact d
   ·rw [if_neg d]
    refine jk r j f _ _ (by lia) (by lia) (by lia) a (fun i h q=>?_)
    rcases Nat.lt_or_ge ((lo+hi) / 2) i with z|z
    ·have:=r.lt z h;lia
    ·have:i=(lo+hi) / 2:=by lia
     subst this;lia
  ·rw [if_neg c]
   have:lo=hi:=by lia
   subst this;exact ⟨h2,a,b⟩
theorem vj{xs:Array Nat}(r:Rs xs)(j:Nat):Lb xs j (SetTable.below xs j):=
 jk r j xs.size 0 xs.size (Nat.zero_le _) (Nat.le_refl _) (Nat.le_refl _) (fun i _ h=>by lia) (fun i h q=>by lia)
theorem Bl{xs:Array Nat}(r:Rs xs){j:Nat}(hj:xs[SetTable.below xs j]?≠some j):Rs (SetTable.insertAt xs (SetTable.below xs j) j):=by
 have b:=vj r j;generalize SetTable.below xs j=p at b hj;unfold Rs at r ⊢;have e:(SetTable.insertAt xs p j).toList=xs.toList.take p++j::xs.toList.drop p:=by
  unfold SetTable.insertAt;simp [List.take_of_length_le]
 have m:∀y∈xs.toList.drop p,j<y:=fun y hy=>by
  obtain ⟨k,hk⟩:=List.mem_iff_getElem?.mp hy;rw [List.getElem?_drop,Array.getElem?_toList] at hk;obtain ⟨h1,h2⟩:=Array.getElem?_eq_some_iff.mp hk;have:=b.hi _ h1 (by lia)
  rcases Nat.lt_or_ge j y with z|z
  ·exact z
  ·have ey:xs[p+k]=j:=by lia
   cases k with
   |zero=>exact absurd (by rw [<- ey];simpa using h1) hj
   |succ k=>
    have hp:p<xs.size:=by lia
    have:=b.hi p hp (Nat.le_refl _);have:xs[p]<xs[p+(k+1)]:=by
     have:=List.pairwise_iff_getElem.mp r p (p+(k+1)) (by simpa using hp) (by simpa using h1) (by lia)
     simpa using this
    lia
 rw [e,List.pairwise_append];refine ⟨r.sublist (List.take_sublist ..),List.pairwise_cons.mpr ⟨m,r.sublist (List.drop_sublist ..)⟩,fun x hx y hy=>?_⟩;obtain ⟨k,hk⟩:=List.mem_iff_getElem?.mp hx;have hkp:k<p:=by
  rcases Nat.lt_or_ge k p with z|z
  ·exact z
  ·rw [List.getElem?_take,if_neg (by lia)] at hk;cases hk
 rw [List.getElem?_take_of_lt hkp,Array.getElem?_toList] at hk;obtain ⟨h1,h2⟩:=Array.getElem?_eq_some_iff.mp hk;have:=b.lo _ h1 hkp;rcases List.mem_cons.mp hy with rfl|hy
 ·lia
 ·have:=m y hy;lia
theorem zd{mask f mv:Nat}{led pl:Bool}{hs:Array Int}{t:SetTable}{o:Array Nat}(e:SetTable.laid mask f mv led pl hs=some (t,o)):Rs t.place/\t.dummies=#[]:=by
 unfold SetTable.laid at e;cases hq:SetTable.layClean mask hs with
 |none=>rw [hq] at e;cases e
 |some q=>
  rw [hq] at e;cases e;refine ⟨?_,rfl⟩;unfold Rs;rw [List.toList_toArray];rw [List.pairwise_map,List.pairwise_filterMap];refine List.Pairwise.imp ?_ List.pairwise_lt_range;intro a b hab x hx y hy;obtain ⟨_,_,rfl⟩:=Option.map_eq_some_iff.mp hx;obtain ⟨_,_,rfl⟩:=Option.map_eq_some_iff.mp hy;exact hab
theorem mM{t:SetTable}{f:Nat->Int}{h:Int}(hd:t.dummies=#[]):∀(n:Nat) (p:SetTable.Probe) (j:Nat) (d:Option Nat),p.dummy=none->SetTable.probe.go t f h n p=some (.empty j d)->t.place[SetTable.below t.place j]?≠some j/\d=none
 |0,p,j,d,hp,e=>by simp [SetTable.probe.go] at e
 |n+1,p,j,d,hp,e=>by
  have adv:∀q:SetTable.Probe,q.dummy=none->(t.advance q).dummy=none:=fun q hq=>by
   unfold SetTable.advance
   split
   ·exact hq
   ·exact hq
  simp only [SetTable.probe.go] at e;cases hs:t.slot p.j with
  |empty=>
   rw [hs] at e;simp only [Option.some.injEq,SetTable.Met.empty.injEq] at e;obtain ⟨rfl,rfl⟩:=e;refine ⟨fun z=>?_,hp⟩;unfold SetTable.slot at hs;simp [z] at hs
  |dummy=>
   unfold SetTable.slot at hs;rw [hd] at hs;have:SetTable.has #[] p.j=false:=by simp [SetTable.has]
   rw [this] at hs;dsimp only at hs
   split at hs<;>simp at hs
  |live i=>
   rw [hs] at e;dsimp only at e
   split at e
   ·cases e
   ·exact mM hd n _ j d (adv p hp) e
theorem xG{t:SetTable}{h:Int}{q:Nat×Bool}(r:Rs t.place)(hd:t.dummies=#[])(e:t.freeSlot h=some q):Rs (t.put q.1).1.place/\(t.put q.1).1.dummies=#[]:=by
 unfold SetTable.freeSlot at e
 split at e
 ·rename_i j d hm
  cases e;obtain ⟨h1,h2⟩:=mM hd _ _ _ _ rfl hm;subst h2;refine ⟨Bl r h1,?_⟩;show (if SetTable.has t.dummies j=true then _ else t.dummies)=#[]
  rw [hd,if_neg (by simp [SetTable.has])]
 ·cases e
end LS
namespace LS
open PySem
section
variable {prog:Program}{w:World}{K:Type}[DecidableEq K]{A:Around}{E:Value->Shared->Prop}{s:Shared}
def Pl(t:SetTable):Prop:=t.plain=true->Rs t.place/\t.dummies=#[]
theorem mI(t:SetTable)(n:Nat):(t.orStandIn n).led=t.led/\(Pl t->Pl (t.orStandIn n)):=by
 unfold SetTable.orStandIn
 by_cases q:t.fits n=true
 ·rw [if_pos q];exact ⟨rfl,id⟩
 ·rw [if_neg q];exact ⟨rfl,fun _ e=>by cases e⟩
theorem ph(t:SetTable)(es:Array (Int×Value))(h:Int)(x:Value):(layNew t es h x).2.1.led=t.led/\(Pl t->Pl (layNew t es h x).2.1):=by
 unfold layNew;cases hq:t.freeSlot h with
 |some q=>
  have s:=mI (t.put q.1).1 (SetTable.insertAt es (t.put q.1).2 (h,x)).size;exact ⟨s.1,fun p=>s.2 fun e=>xG (p e).1 (p e).2 hq⟩
 |none=>exact ⟨rfl,fun _ e=>by cases e⟩
theorem qx{t t':SetTable}{hs:Array Int}{n:Nat}{o:Array Nat}(e:t.relaid hs n=some (t',o)):t'.led=t.led/\Pl t':=by
 refine ⟨?_,fun _=>zd e⟩;unfold SetTable.relaid SetTable.laid at e;cases hq:SetTable.layClean (SetTable.sizeAbove n-1) hs with
 |none=>rw [hq] at e;cases e
 |some q=>rw [hq] at e;cases e;rfl
theorem lx(t:SetTable)(es:Array (Int×Value))(n:Nat):(relayAll t es n).2.1.led=t.led/\Pl (relayAll t es n).2.1:=by
 unfold relayAll;cases hr:t.relaid (es.map (·.1)) n with
 |none=>exact ⟨rfl,fun z=>by cases z⟩
 |some q=>
  have hq:=qx (t':=q.1) (o:=q.2) hr
  try dsimp only
  split
  ·exact hq
  ·exact ⟨rfl,fun z=>by cases z⟩
structure Holds(knd:KeyKind prog w K)(h:Heap)(a:Addr)(led:Bool)(l:List K):Prop where
 ex:∃(o:Obj) (es:Array (Int×Value)) (ep:Nat) (t:SetTable),h.get? a=some o/\o.ExactSet/\o.data=.set es ep t/\ElemsOf knd es.toList/\(∀k,k∈l↔∃e∈es.toList,knd.is k e.2=true)/\es.size=l.length/\t.fits es.size=true/\t.led=led/\Pl t
 nd:l.Nodup
 few:l.length<scanBound
variable {knd:KeyKind prog w K}
theorem stored{h:Heap}{a:Addr}{o:Obj}{es es1:Array (Int×Value)}{ep:Nat}{t t1:SetTable}{led:Bool}{l:List K}(ho:h.get? a=some o)(hx:o.ExactSet)(hd:o.data=.set es ep t)(q1:ElemsOf knd es1.toList)
  (q2:∀k,k∈l↔∃e∈es1.toList,knd.is k e.2=true) (q3:es1.size=l.length) (q4:t1.fits es1.size=true) (q5:t1.led=led) (q6:Pl t1) (nd:l.Nodup) (few:l.length<scanBound):
  (h.update a (Obj.putSet es1 t1)).get? a=some { o with data:=.set es1 (ep+1) t1 }/\Holds knd (h.update a (Obj.putSet es1 t1)) a led l:=by
 have e:=Heap.get?_update_self (Obj.putSet es1 t1) ho (by rw [putSet_of es1 t1 hd];rfl)
 rw [putSet_of es1 t1 hd] at e;exact ⟨e,⟨_,es1,ep+1,t1,e,hx,rfl,q1,q2,q3,q4,q5,q6⟩,nd,few⟩
theorem lK{g:Bool->Sem Unit}(hg:∀(b:Bool) (s':Shared) (P:Unit->Shared->Prop),P () s'->wpAny (model prog w) A (g b) P E s'){a:Addr}{o:Obj}{es es1:Array (Int×Value)}{ep:Nat}{t t2:SetTable}{led wd:Bool}{l:List K}{R:Option Bool->Shared->Prop}
  (ho:s.heap.get? a=some o) (hx:o.ExactSet) (hd:o.data=.set es ep t) (q1:ElemsOf knd es1.toList) (q2:∀k,k∈l↔∃e∈es1.toList,knd.is k e.2=true) (q3:es1.size=l.length) (q4:t2.fits es1.size=true) (q5:t2.led=led)
  (q6:Pl t2) (nd:l.Nodup) (few:l.length<scanBound) (hR:∀h',Heap.SameBut a s.heap h'->Holds knd h' a led l->R (some true) { s with heap:=h' }):
  wpAny (model prog w) A (storeSet a es1 t2 >>= fun _=>if (!wd&&t2.tooFull)=true then g (relayAll t2 es1 (SetTable.grown es1.size)).2.2 >>= fun _=>storeSet a (relayAll t2 es1 (SetTable.grown es1.size)).1 (relayAll t2 es1 (SetTable.grown es1.size)).2.1 >>= fun _=>pure (some true) else pure (some true)) R E s:=by
 obtain ⟨e1,H1⟩:=stored (knd:=knd) ho hx hd q1 q2 q3 q4 q5 q6 nd few;have hb:es1.size<scanBound:=by rw [q3];exact few
 refine wpAny_bind (wpAny_storeSet_of ho hd ?_ (fits_of_scanBound hb))
 by_cases hq:(!wd&&t2.tooFull)=true
 ·rw [if_pos hq]
  have r1:=relayAll_perm t2 es1 (SetTable.grown es1.size);have r2:=relayAll_fits t2 es1 (SetTable.grown es1.size);have r3:=lx t2 es1 (SetTable.grown es1.size);generalize relayAll t2 es1 (SetTable.grown es1.size)=L at r1 r2 r3 ⊢;have r4:L.1.size=es1.size:=by rw [<- Array.length_toList,r1.length_eq,Array.length_toList]
  refine wpAny_bind (hg _ _ _ (wpAny_bind (wpAny_storeSet_of e1 rfl ?_ (by rw [r4];exact fits_of_scanBound hb))))
  obtain ⟨_,H2⟩:=stored (knd:=knd) (l:=l) (led:=led) (es1:=L.1) (t1:=L.2.1) e1 hx rfl (q1.perm r1) (fun k=>(q2 k).trans ⟨fun ⟨e,he,z⟩=>⟨e,r1.mem_iff.mpr he,z⟩,fun ⟨e,he,z⟩=>⟨e,r1.mem_iff.mp he,z⟩⟩) (by rw [r4];exact q3) r2 (r3.1.trans q5) r3.2 nd few
  exact wpAny_pure (hR _ ((Heap.SameBut.update s.heap a _).trans (Heap.SameBut.update _ a _)) H2)
 ·rw [if_neg hq]
  exact wpAny_pure (hR _ (Heap.SameBut.update s.heap a _) H1)
theorem yb{a:Addr}{led:Bool}{l:List K}{k:K}{x:Value}{Q:Bool->Shared->Prop}(hkey:knd.is k x=true)(hsc:x.scannable=true)(H:Holds knd s.heap a led l)(room:l.length+1<scanBound)
  (h:∀h' b,Heap.SameBut a s.heap h'->Holds knd h' a led (if k∈l then l else l++[k])->Q b { s with heap:=h' }):wpAny (model prog w) A (setAddHashed a x (knd.hash k)) Q E s:=by
 obtain ⟨⟨o,es,ep,t,ho,hx,hd,hel,hm,hsz,hf,hle,hpl⟩,nd,few⟩:=H;have hb:es.size<scanBound:=by rw [hsz];exact few
 unfold setAddHashed setAddHashedIn;refine wpAny_holding (wpAny_bind (wpAny_setState_of ho hd hf ?_));simp only [byScan_of hsc hb hel,if_true];unfold setAddByScan;refine wpAny_bind (wpAny_bind (wpAny_rule (wpAny_bind (wpAny_setScan_of hkey ho hd hf hel ?_))))
 by_cases hk:k∈l
 ·obtain ⟨e,he,hp⟩:=(hm k).mp hk
  cases hr:es.toList.findIdx? (fun e=>knd.is k e.2) with
  |none=>have:=List.findIdx?_eq_none_iff.mp hr e he;rw [hp] at this;cases this
  |some j=>
   refine wpAny_pure (wpAny_pure ?_);have:=h s.heap false (Heap.SameBut.refl a s.heap) (by rw [if_pos hk];exact ⟨⟨o,es,ep,t,ho,hx,hd,hel,hm,hsz,hf,hle,hpl⟩,nd,few⟩)
   cases s;exact this
 ·have hr:es.toList.findIdx? (fun e=>knd.is k e.2)=none:=List.findIdx?_eq_none_iff.mpr fun e he=>by
   cases q:knd.is k e.2 with
   |false=>rfl
   |true=>exact absurd ((hm k).mpr ⟨e,he,q⟩) hk
  rw [hr];have p1:=layNew_perm t es (knd.hash k) x;have p2:=layNew_fits t es (knd.hash k) x;have p3:=ph t es (knd.hash k) x;rw [Array.toList_push] at p1
  try dsimp only
  generalize layNew t es (knd.hash k) x=L at p1 p2 p3 ⊢;obtain ⟨es1,t1,wd,gv⟩:=L;dsimp only at p1 p2 p3 ⊢;have q1:ElemsOf knd es1.toList:=(hel.push hkey hsc).perm p1;have q2:∀k',k'∈l++[k]↔∃e∈es1.toList,knd.is k' e.2=true:=fun k'=>by
   constructor
   ·intro hk'
    rcases List.mem_append.mp hk' with z|z
    ·obtain ⟨e,he,hp⟩:=(hm k').mp z
     exact ⟨e,p1.mem_iff.mpr (List.mem_append_left _ he),hp⟩
    ·rw [List.mem_singleton] at z;subst z
     exact ⟨_,p1.mem_iff.mpr (List.mem_append_right _ (List.mem_singleton.mpr rfl)),hkey⟩
   ·rintro ⟨e,he,hp⟩
    rcases List.mem_append.mp (p1.mem_iff.mp he) with z|z
    ·exact List.mem_append_left _ ((hm k').mpr ⟨e,z,hp⟩)
    ·rw [List.mem_singleton] at z;subst z
     exact List.mem_append_right _ (List.mem_singleton.mpr (knd.inj x k' k hp hkey))
  have q3:es1.size=(l++[k]).length:=by rw [<- Array.length_toList,p1.length_eq];simp [hsz]
  have nd':(l++[k]).Nodup:=List.nodup_append.mpr ⟨nd,by simp,fun y hy z hz=>by rw [List.mem_singleton] at hz;subst hz;rintro rfl;exact hk hy⟩
  have few':(l++[k]).length<scanBound:=by simp;lia
  have q4:Pl t1:=p3.2 hpl;have hgw:∀(b:Bool) (s':Shared) (P:Unit->Shared->Prop),P () s'->wpAny (model prog w) A (match b with|true=>rule "set.scan.the-table-gave-way"|false=>pure ()) P E s':=fun b s' P z=>by
   cases b
   ·exact wpAny_pure z
   ·exact wpAny_rule z
  have last:∀h',Heap.SameBut a s.heap h'->Holds knd h' a led (l++[k])->wpAny (model prog w) A (pure true) Q E { s with heap:=h' }:=fun h' z H'=>wpAny_pure (h h' true z (by rw [if_neg hk];exact H'))
  refine wpAny_bind (hgw gv s _ ?_)
  by_cases hpn:t1.plain=true
  ·rw [if_pos hpn]
   refine wpAny_bind (wpAny_of_eq (hashByValue_scannable 8 hsc) ?_);cases hpk:plainKind x with
   |true=>exact lK (knd:=knd) (g:=fun b=>match b with|true=>rule "set.scan.the-table-gave-way"|false=>pure ()) hgw ho hx hd q1 q2 q3 p2 (p3.1.trans hle) q4 nd' few' last
   |false=>exact lK (knd:=knd) (g:=fun b=>match b with|true=>rule "set.scan.the-table-gave-way"|false=>pure ()) (t2:={ t1 with plain:=false }) hgw ho hx hd q1 q2 q3 (SetTable.fits_plain_off p2) (p3.1.trans hle) (fun z=>by cases z) nd' few' last
  ·rw [if_neg hpn]
   refine wpAny_bind (wpAny_pure ?_);exact lK (knd:=knd) (g:=fun b=>match b with|true=>rule "set.scan.the-table-gave-way"|false=>pure ()) hgw ho hx hd q1 q2 q3 p2 (p3.1.trans hle) q4 nd' few' last
end
end LS
namespace LS
open PySem
section
variable {prog:Program}{w:World}{K:Type}[DecidableEq K]{A:Around}{E:Value->Shared->Prop}{s:Shared}{knd:KeyKind prog w K}
theorem Holds.keep{h h':Heap}{a:Addr}{led:Bool}{l:List K}(H:Holds knd h a led l)(k:∀o,h.get? a=some o->h'.get? a=some o):Holds knd h' a led l:=by
 obtain ⟨⟨o,es,ep,t,ho,r⟩,nd,few⟩:=H;exact ⟨⟨o,es,ep,t,k _ ho,r⟩,nd,few⟩
def cD(w:World):Bool:=w.params.followText "set-order"
def bN(led:Bool):Obj:={ cls:=.type "set",dict:=none,data:=.set #[] 0 (.fresh 0 0 led) }
theorem yV(a:Value){Z:Value->Shared->Prop}(h:Z (.ref s.heap.objs.size) { s with heap:=s.heap.push (bN (!cD w)) }):
  codeAny (model prog w) A (.call (.builtin "set.__new__") ⟨[.type "set",a],[]⟩) (wants Z E) s:=by
 apply codeAny_of_tree;show wpAny _ A.in1 (checkBuiltinCall "set.__new__" ⟨[.type "set",a],[]⟩ >>= fun _=>again (.builtin "set.__new__" ⟨[.type "set",a],[]⟩)) _ _ s;apply wpAny_bind;refine wpAny_of_eq (F.newCall_set_1 a) (wpAny_pure ⟨plainId_quiet F.plain_set_new _,codeAny_builtin F.entry_set_new ?_⟩);rw [Around.under_plainId (F.plain_set_new) _];have sub:=sub_set_self;obtain ⟨hp,gg,dd,tt,oo⟩:=s;unfold Builtin.«set.__new__» Builtin.Frozenset.newClass;dsimp only;wp_walk;refine wpAny_askSetting (wpAny_pure ?_);simp only [newObj];exact wpAny_bind (wpAny_alloc (wpAny_pure (wpAny_pure h)))
def ka(l:List K):List K->List K
 |[]=>l
 |k::r=>ka (if k∈l then l else l++[k]) r
theorem zY{P:Nat->Value->Prop}{St:Nat->Heap->Prop}{I S:Addr}{fp:List Addr}{ks:List K}{led:Bool}{R:Result->Shared->Prop}(W:Walks prog w A.in1 I fp [I] ks.length P St)(hS:S∉fp)(hI:S≠I)
  (hP:∀i v,P i v->∃k,ks[i]?=some k/\knd.is k v=true/\v.scannable=true) (few:ks.length+1<scanBound):
  ∀(r i:Nat) (s:Shared) (l:List K),i+r=ks.length->St i s.heap->Holds knd s.heap S led l->l.length<=i->
   (∀h' tk,(∀b o,b≠S->b≠I->s.heap.get? b=some o->h'.get? b=some o)->Holds knd h' S led (ka l (ks.drop i))->R (.ok (.ret .none)) { s with heap:=h',toks:=tk })->
   codeAny (model prog w) A (.builtin "set.update.loop" ⟨[.ref S,.ref I],[]⟩) R s
 |0,i,s,l,e,st,H,hl,hR=>by
  refine codeAny_builtin PyProof.Rows.F.entry_set_update_loop ?_;rw [Around.under_plainId (PyProof.Rows.F.plain_set_update_loop) _];show wpAny _ A.in1 (pyNext (.ref I) >>= _) _ _ s;obtain rfl:i=ks.length:=by lia
  refine wpAny_bind (W.done s _ _ st fun h' tk k=>?_);refine wpAny_pure (hR h' tk (fun b o _ hb q=>k b o (by simpa using hb) q) ?_)
  rw [List.drop_length];exact H.keep fun o q=>k S o (by simpa using hI) q
 |r+1,i,s,l,e,st,H,hl,hR=>by
  refine codeAny_builtin PyProof.Rows.F.entry_set_update_loop ?_;rw [Around.under_plainId (PyProof.Rows.F.plain_set_update_loop) _];show wpAny _ A.in1 (pyNext (.ref I) >>= _) _ _ s;refine wpAny_bind (W.item i s _ _ (by lia) st fun v h' tk pv st' k=>?_)
  obtain ⟨x,hx,ix,sx⟩:=hP i v pv;have H':Holds knd h' S led l:=H.keep fun o q=>k S o (by simpa using hI) q
  show wpAny _ A.in1 (holding [v] (setAdd S v) >>= _) _ _ _;refine wpAny_bind (wpAny_holding ?_);unfold setAdd;refine wpAny_holding (wpAny_bind (knd.pyHash ix ?_));refine yb (s:={ s with heap:=h',toks:=tk+1 }) ix sx H' (by lia) fun h2 b2 sb H2=>?_
  refine wpAny_pure ⟨plainId_quiet PyProof.Rows.F.plain_set_update_loop _,?_⟩;have hd:ks.drop i=x::ks.drop (i+1):=by
   obtain ⟨hlt,hxe⟩:=List.getElem?_eq_some_iff.mp hx;rw [<- hxe];exact List.drop_eq_getElem_cons hlt
  have hl2:(if x∈l then l else l++[x]).length<=i+1:=by
   by_cases z:x∈l
   ·rw [if_pos z];lia
   ·rw [if_neg z,List.length_append,List.length_singleton];lia
  refine zY W hS hI hP few r (i+1) _ _ (by lia) (W.frame _ _ _ st' fun b hb o q=>?_) H2 hl2 fun h3 tk3 k3 H3=>?_
  ·rw [sb.2 b fun z=>hS (z▸hb)];exact q
  ·refine hR h3 tk3 (fun b o hb1 hb2 q=>k3 b o hb1 hb2 ?_) ?_
   ·show h2.get? b=some o
    rw [sb.2 b hb1];exact k b o (by simpa using hb2) q
   ·rw [hd];exact H3
theorem nQ{h:Heap}{a:Addr}{led:Bool}(e:h.get? a=some (bN led)):Holds knd h a led []:=by
 exact ⟨⟨_,#[],0,.fresh 0 0 led,e,⟨rfl,rfl,rfl⟩,rfl,fun _ q=>by simp at q,fun k=>by simp,rfl,by rfl,rfl,fun _=>⟨List.Pairwise.nil,rfl⟩⟩,List.nodup_nil,by simp [scanBound]⟩
theorem uO{l:Addr}{items:Array Value}{ks:List K}{Q:Value->Shared->Prop}(hh:A.handled=none)(hl:s.heap.IsList l items)(hn:items.size=ks.length)
  (hk:∀(i:Nat) (v:Value),items[i]?=some v->∃k,ks[i]?=some k/\knd.is k v=true/\v.scannable=true) (few:ks.length+1<scanBound)
  (h:∀(h':Heap) (tk:Nat),Holds knd h' s.heap.objs.size (!cD w) (ka [] ks)->(∀b o,s.heap.get? b=some o->h'.get? b=some o)->Q (.ref s.heap.objs.size) { s with heap:=h',toks:=tk }):
  wpAny (model prog w) A (call (.type "set") [.ref l]) Q E s:=by
 have ft:=F.called_set;obtain ⟨cc,tl,m1⟩:=ft.mro;have m2:=ft.made;have m3:=ft.sub;apply wpAny_call;apply codeAny_of_tree;refine wpAny_pure ⟨Code.quiet_builtin _ (by decide +kernel),codeAny_builtin F.entry_type_call ?_⟩
 rw [Around.under_plain (weight_type_call_type "set" [.ref l] []) (rfl)];have m4:=ft.notType;have m5:=ft.canCreate;have m6:=F.typeCall_set_1 (.ref l)
 repeat (any_goals (first|(assumption)|wp_step))
 refine codeAny_mono (yV (.ref l) (E:=E) (Z:=fun o s1=>o=.ref s.heap.objs.size/\s1={ s with heap:=s.heap.push (bN (!cD w)) }) ⟨rfl,rfl⟩) fun r s1 hr=>?_;cases r with
 |error e=>exact hr
 |ok fl=>
  cases fl with
  |ret obj=>
   obtain ⟨rfl,rfl⟩:=hr;have at0:(s.heap.push (bN (!cD w))).get? s.heap.objs.size=some (bN (!cD w)):=Heap.get?_push_size _ rfl;have ty0:Shared.TypeIs { s with heap:=s.heap.push (bN (!cD w)) } (.ref s.heap.objs.size) "set":=⟨_,at0,rfl⟩;have i1:=ft.init.lookup;have i2:=ft.init.bind (.ref s.heap.objs.size)
   repeat (any_goals (first|(assumption)|wp_step))
   refine codeAny_mono (codeAny_call_builtin (R:=wants (fun r s2=>r=.none/\∃h' tk,s2={ s with heap:=h',toks:=tk }/\Holds knd h' s.heap.objs.size (!cD w) (ka [] ks)/\∀b o,s.heap.get? b=some o->h'.get? b=some o) E) ft.init.plain F.entry_set_init (check_set_init_1 ty0 ?_)) fun r2 s2 hr2=>?_
   ·have hl1:(s.heap.push (bN (!cD w))).IsList l items:=hl.push _
    obtain ⟨ol,g1,g2,nl,g3⟩:=id hl1;have lt:l<s.heap.objs.size:=let ⟨_,q,_⟩:=hl;Heap.lt_size q;obtain ⟨oc,od,oz,os⟩:=ol;dsimp only at g2 g3;subst g2;subst g3;have n1:=F.sub_list_set;have n2:=F.sub_list_frozenset;have n3:(Value.type "list"==Value.type "dict")=false:=rfl;have at1:=at0;unfold bN at at1 g1 ⊢;unfold Builtin.«set.__init__» noKeywords Builtin.Frozenset.updateFrom;generalize ei:pyIter=it
    wp_walk
    subst ei;refine wpAny_pyIter_list hl1 (wpAny_bind (wpAny_runValue ?_));have hS:s.heap.objs.size∉[(s.heap.push (bN (!cD w))).objs.size,l]:=by
     rw [Heap.size_push];simp only [List.mem_cons,List.not_mem_nil,or_false,not_or];exact ⟨Nat.ne_of_lt (Nat.lt_succ_self _),Nat.ne_of_gt lt⟩
    have hI:l≠(s.heap.push (bN (!cD w))).objs.size:=by rw [Heap.size_push];exact Nat.ne_of_lt (Nat.lt_succ_of_lt lt)
    have at2:((s.heap.push (bN (!cD w))).push { cls:=.type "list_iterator",data:=.fields #[.ref l,.int 0 0] }).get? s.heap.objs.size=some (bN (!cD w)):=Heap.get?_push_of_some _ at0;have W:=Walks.list (prog:=prog) (w:=w) (A:=A.in1.in1.in1) (by simpa using hh) (s.heap.push (bN (!cD w))).objs.size l hI items
    rw [hn] at W;refine zY (knd:=knd) (led:=!cD w) (ks:=ks) W hS (fun z=>hS (by rw [<- z];simp)) hk few ks.length 0 _ [] (by lia) ⟨⟨_,Heap.get?_push_size _ rfl,rfl,rfl⟩,hl1.push _⟩ (nQ at2) (Nat.zero_le _) fun h' tk k H=>?_
    refine wpAny_pure (wpAny_pure ⟨rfl,h',tk,rfl,by rw [List.drop_zero] at H;exact H,fun b o q=>?_⟩)
    have lb:=Heap.lt_size q;exact k b o (Nat.ne_of_lt lb) (by rw [Heap.size_push];exact Nat.ne_of_lt (Nat.lt_succ_of_lt lb)) (Heap.get?_push_of_some _ (Heap.get?_push_of_some _ q))
   ·cases r2 with
    |error e=>exact hr2
    |ok f2=>
     cases f2 with
     |ret r=>
      obtain ⟨rfl,h',tk,rfl,H,k⟩:=hr2
      repeat (any_goals (first|(assumption)|wp_step))
      exact h _ _ H k
     |_=>exact hr2.elim
  |_=>exact hr.elim
end
end LS
namespace LS
open PySem
section
variable {M:Model}{A:Around}{E:Value->Shared->Prop}
end
end LS
namespace LS
open PySem
section
variable {prog:Program}{w:World}{A:Around}{E:Value->Shared->Prop}{s:Shared}{I a:Addr}{f:Value}{i n ep:Nat}{es:Array (Int×Value)}{t:SetTable}
end
end LS
namespace LS
open PySem
section
variable {prog:Program}{w:World}{A:Around}{E:Value->Shared->Prop}{s:Shared}{I a:Addr}{ep:Nat}{es:Array (Int×Value)}{t:SetTable}
end
end LS
namespace LS
open PySem PySem.W PySem.Calls PyProof.Rows PyProof.V PySem.Spec
section
variable {prog:Program}{w:World}{A:Around}{E:Value->Shared->Prop}{s:Shared}{a:Addr}{ep:Nat}{es:Array (Int×Value)}{t:SetTable}
end
end LS
namespace LS
open PySem
section
variable {prog:Program}{w:World}{A:Around}{E:Value->Shared->Prop}{s:Shared}{a:Addr}
end
end LS
namespace LS
open PySem
structure Ord(K:Type) where
 lt:K->K->Bool
 anti:∀x y,lt x y=false->lt y x=false->x=y
 tr:∀x y z,lt y x=false->lt z y=false->lt z x=false
 asym:∀x y,lt x y=true->lt y x=false
section
variable {K:Type}[DecidableEq K](o:Ord K)
abbrev zS(l:List K):Prop:=l.Pairwise fun a b=>o.lt b a=false
def ins(x:K):List K->List K
 |[]=>[x]
 |y::r=>if o.lt y x=true then y::ins x r else x::y::r
def df:List K->List K
 |[]=>[]
 |x::r=>ins o x (df r)
theorem jN(x:K):∀l:List K,(ins o x l).Perm (x::l)
 |[]=>List.Perm.refl _
 |y::r=>by
  unfold ins
  by_cases h:o.lt y x=true
  ·rw [if_pos h];exact (List.Perm.cons y (jN x r)).trans (List.Perm.swap ..)
  ·rw [if_neg h]
theorem eB:∀l:List K,(df o l).Perm l
 |[]=>List.Perm.refl _
 |x::r=>(jN o x _).trans (List.Perm.cons x (eB r))
theorem rY(x:K):∀l:List K,zS o l->zS o (ins o x l)
 |[],_=>by simp [ins,zS]
 |y::r,h=>by
  unfold ins;have hc:=List.pairwise_cons.mp h
  by_cases c:o.lt y x=true
  ·rw [if_pos c]
   refine List.pairwise_cons.mpr ⟨fun z hz=>?_,rY x r hc.2⟩;rcases List.mem_cons.mp ((jN o x r).mem_iff.mp hz) with rfl|q
   ·exact o.asym _ _ c
   ·exact hc.1 z q
  ·rw [if_neg c]
   have c':o.lt y x=false:=by simpa using c
   refine List.pairwise_cons.mpr ⟨fun z hz=>?_,h⟩;rcases List.mem_cons.mp hz with rfl|q
   ·exact c'
   ·exact o.tr _ _ _ c' (hc.1 z q)
theorem rC:∀l:List K,zS o (df o l)
 |[]=>List.Pairwise.nil
 |x::r=>rY o x _ (rC r)
theorem ut:∀(a b:List K),zS o a->zS o b->a.Perm b->a=b
 |[],b,_,_,p=>by rw [p.symm.eq_nil]
 |x::a,b,ha,hb,p=>by
  cases b with
  |nil=>have:=p.eq_nil;cases this
  |cons y b=>
   have pa:=List.pairwise_cons.mp ha;have pb:=List.pairwise_cons.mp hb;have e:x=y:=by
    rcases List.mem_cons.mp (p.mem_iff.mp (List.mem_cons_self ..)) with e|hx
    ·exact e
    ·rcases List.mem_cons.mp (p.symm.mem_iff.mp (List.mem_cons_self ..)) with e|hy
     ·exact e.symm
     ·exact o.anti _ _ (pb.1 x hx) (pa.1 y hy)
   subst e;rw [ut a b pa.2 pb.2 (List.Perm.cons_inv p)]
theorem vW{a l:List K}(ha:zS o a)(p:a.Perm l):a=df o l:=ut o _ _ ha (rC o l) (p.trans (eB o l).symm)
theorem r0:∀(a b:List K),a.Nodup->b.Nodup->(∀x,x∈a↔x∈b)->a.Perm b
 |[],b,_,_,m=>by
  cases b with
  |nil=>exact List.Perm.refl _
  |cons y b=>exact absurd ((m y).mpr (by simp)) (by simp)
 |x::a,b,na,nb,m=>by
  have hx:=(m x).mp (by simp)
  rw [List.nodup_cons] at na;refine (List.Perm.cons x (r0 a (b.erase x) na.2 (nb.erase x) fun y=>?_)).trans (List.perm_cons_erase hx).symm;rw [nb.mem_erase_iff];constructor
  ·exact fun hy=>⟨fun e=>na.1 (e▸hy),(m y).mp (by simp [hy])⟩
  ·rintro ⟨e,hy⟩
   rcases List.mem_cons.mp ((m y).mpr hy) with z|z
   ·exact absurd z e
   ·exact z
end
end LS
namespace L3
open PySem L2 LS
theorem nj:∀{ss:List Str} {us:List Value},Vals (ss.map V.str) us->PyProof.Rows.StrsAre us ss
 |[],_,.nil=>.nil
 |_::_,_,.cons r t=>by obtain ⟨u,rfl⟩:=r;exact .cons _ _ (nj t)
section
variable {X:Cx}{B:Bd}
theorem jB:bootBuiltins "sorted"=some (.builtin "sorted"):=by decide +kernel
theorem yU:bootBuiltins "set"=some (.type "set"):=by decide +kernel
theorem uW:∀{us:List Value} {ss:List Str},PyProof.Rows.StrsAre us ss->∀(i:Nat) (v:Value),us[i]?=some v->∃x t,ss[i]?=some x/\v=.str x t
 |_,_,.nil,i,v,h=>by simp at h
 |_,_,.cons x t r,0,v,h=>⟨x,t,by simp,by simpa using h.symm⟩
 |_,_,.cons x t r,i+1,v,h=>by simpa using uW r i v (by simpa using h)
end
end L3
namespace LS
open PySem
def bG:Ord Int where
 lt:=fun x y=>decide (x<y)
 anti:=fun x y h1 h2=>by simp at h1 h2;lia
 tr:=fun x y z h1 h2=>by simp at h1 h2 ⊢;lia
 asym:=fun x y h=>by simp at h ⊢;lia
theorem n6{l:List Int}(h:l.Pairwise (·<=·)):zS bG l:=h.imp fun {a b} z=>by show decide (b<a)=false;simp;lia
section
variable {prog:Program}{w:World}{A:Around}{E:Value->Shared->Prop}{s:Shared}{a:Addr}
end
end LS
namespace L3
open PySem L2 LS
def fA:List D->Option (List Int)
 |[]=>some []
 |.int i::ds=>match fA ds with
  |some is=>some (i::is)
  |none=>none
 |_=>none
theorem n4{K:W.Frag}{H:Hp}:∀{ds:List D} {vs:List V} {xs:List Int},Rps K H ds vs->fA ds=some xs->vs=xs.map V.int
 |[],vs,xs,r,e=>by cases e;exact r
 |d::ds,vs,xs,r,e=>by
  obtain ⟨v,r',rfl,a,b⟩:=r;cases d with
  |int c=>
   simp only [fA] at e
   split at e
   ·rename_i xs' e2
    cases e;cases a;rw [n4 b e2];rfl
   ·cases e
  |_=>simp [fA] at e
theorem nV:∀{ss:List Int} {us:List Value},Vals (ss.map V.int) us->PyProof.Rows.IntsAre us ss
 |[],_,.nil=>.nil
 |_::_,_,.cons r t=>by obtain ⟨u,rfl⟩:=r;exact .cons _ _ (nV t)
theorem mU:∀{ss:List Int} {us:List Value},PyProof.Rows.IntsAre us ss->Vals (ss.map V.int) us
 |_,_,.nil=>.nil
 |_,_,.cons x t r=>.cons ⟨t,rfl⟩ (mU r)
theorem mV{K:W.Frag}{H:Hp}:∀(ss:List Int),Rps K H (ss.map D.int) (ss.map V.int)
 |[]=>rfl
 |_::ss=>⟨_,_,rfl,rfl,mV ss⟩
section
variable {X:Cx}{B:Bd}
def g9:pi:=fun ds M Q=>match ds with
 |[d]=>match seqL M d with
  |some xs=>match fA xs with
   |some ss=>ss.length<64/\∀p,M p=none->Q (.ref p) (M.upd p (.lst ((df bG ss).map D.int)))
   |none=>False
  |none=>False
 |_=>False
theorem ga:bX X (.builtin "sorted") (liftC X g9):=by
 intro pins s σ H xs us Q I r h;obtain ⟨ds,M,QQ,rh,rp,h,up⟩:=h;unfold g9 at h
 split at h
 ·obtain ⟨v,rfl,rv⟩:=eP (ds:=[]) rp
  split at h
  ·rename_i ys e
   obtain ⟨q,vs,rfl,hq,rr⟩:=cS rh rv e
   split at h
   ·rename_i ss es
    obtain ⟨h64,h⟩:=h;have:=n4 rr es;subst this;obtain ⟨u,rfl,ru⟩:=fT r;cases ru;obtain ⟨its,r',pl,hz⟩:=I.list (.inl hq);have hlen:=r'.length;rw [List.length_map] at hlen;refine PyProof.Rows.sorted_ints pl.isList (nV r') (by lia) fun out ss' s1 s2 s3=>?_
    obtain ⟨k,hk⟩:=PyProof.Rows.sortedAll_at s.heap its out;obtain rfl:=vW bG (n6 s3) s2;have hn:H (s.heap.objs.size+1)=none:=I.hok.fresh (Nat.le_succ _);refine ⟨.ref (s.heap.objs.size+1),_,I.laid (t':=s.toks) (o:=.lst ((df bG ss).map V.int)) (fun b o z=>PyProof.Rows.sortedAll_old z) (Nat.le_succ _) (show ObjOk X.prog X.w _ _ _ (.lst _) from ⟨?_,out.toList,k,mU s1,by rw [Array.toArray_toList];exact hk⟩),rfl,?_⟩
    ·rw [List.length_map,s2.length_eq];exact Nat.le_trans (Nat.le_of_lt h64) (by decide)
    ·exact up _ _ (h _ (rh.fresh hn)) _ _ (rh.put (by rw [hn];trivial) ⟨_,upd_same,mV _⟩) (Frm.put (.inl hn)) rfl
   ·exact h.elim
  ·exact h.elim
 ·exact h.elim
end
end L3
namespace L2
open PySem
section
variable {X:Cx}
theorem uv(hc:X.calm=true):bX X (.builtin "any") (fun xs H Q=>∃(l:Addr) (bs:List Bool),xs=[.ref l]/\SqL X.K H l (bs.map V.bl)/\Q (.bl (bs.any id)) H):=by
 intro pins s σ H xs us Q I r h;obtain ⟨l,bs,rfl,hq,q⟩:=h;obtain ⟨u,rfl,ru⟩:=r.one;cases ru;obtain ⟨its,rv,p,hz⟩:=I.list hq;have hl:=rv.length;have hli:l<s.heap.objs.size:=by obtain ⟨o,e,_⟩:=p.isList;exact Heap.lt_size e
 have hne:l≠s.heap.objs.size:=Nat.ne_of_lt hli;have val:∀(i:Nat) (v:Value),its.toArray[i]?=some v->∃c,bs[i]?=some c/\v=.bool c:=fun i v hv=>by
  have hv':its[i]?=some v:=by simpa using hv
  have hi:i<bs.length:=by
   have:=(List.getElem?_eq_some_iff.mp hv').1;rw [List.length_map] at hl;lia
  obtain ⟨w',h1,h2⟩:=rv.get (i:=i) (x:=.bl bs[i]) (by rw [List.getElem?_map,List.getElem?_eq_getElem hi];rfl)
  rw [hv'] at h1;cases h1;exact ⟨bs[i],List.getElem?_eq_getElem hi,h2⟩
 have hsz:its.toArray.size=bs.length:=by rw [List.size_toArray,<- hl,List.length_map]
 refine call_any_walk (wpAny_pyIter_list p.isList ⟨s.heap.objs.size,_,_,_,_,_,fun i=>bs.getD i false,rfl,Walks.list (A:=X.A.in1) (I.ok.hd hc) s.heap.objs.size l hne its.toArray,⟨⟨_,Heap.get?_push_size _ rfl,rfl,rfl⟩,p.isList.push _⟩,fun i v s' Q' E' hv hq'=>?_,fun h' tk hk=>?_⟩)
 ·obtain ⟨c,h1,rfl⟩:=val i v hv
  refine wpAny_truthy_bool ?_;have eb:bs.getD i false=c:=by rw [List.getD_eq_getElem?_getD,h1];rfl
  have hq2:Q' (bs.getD i false) s':=hq';rw [eb] at hq2;exact hq2
 ·have e:(List.range its.toArray.size).any (fun i=>bs.getD i false)=bs.any id:=by
   rw [hsz,Bool.eq_iff_iff,List.any_eq_true,List.any_eq_true];constructor
   ·rintro ⟨i,hi,h⟩
    have hi':=List.mem_range.mp hi;rw [List.getD_eq_getElem?_getD,List.getElem?_eq_getElem hi'] at h;exact ⟨_,List.getElem_mem hi',h⟩
   ·rintro ⟨b,hb,h⟩
    obtain ⟨i,hi,rfl⟩:=List.mem_iff_getElem.mp hb;exact ⟨i,List.mem_range.mpr hi,by rw [List.getD_eq_getElem?_getD,List.getElem?_eq_getElem hi];exact h⟩
  rw [e];refine ⟨.bl (bs.any id),H,?_,rfl,q⟩;exact I.kept (t':=tk) fun b o hb=>hk b o (by simp;exact Nat.ne_of_lt (Heap.lt_size hb)) (Heap.get?_push_of_some _ hb)
end
end L2
namespace L3
open PySem L2 LS
section
variable {X:Cx}{B:Bd}
def wm:pi:=fun ds M Q=>match ds with
 |[d]=>match seqL M d with
  |some xs=>match jT xs with
   |some bs=>Q (.bl (bs.any id)) M
   |none=>False
  |none=>False
 |_=>False
theorem km(hc:X.calm=true):bX X (.builtin "any") (liftC X wm):=by
 intro pins s σ H xs us Q I r h;obtain ⟨ds,M,QQ,rh,rp,h,up⟩:=h;unfold wm at h
 split at h
 ·obtain ⟨v,rfl,rv⟩:=eP (ds:=[]) rp
  split at h
  ·rename_i ys e
   split at h
   ·rename_i bs eb
    obtain ⟨q,vs,rfl,hq,rr⟩:=cS rh rv e;have ev:=gS rr eb;subst ev;exact uv hc pins s σ H _ us Q I r ⟨q,bs,rfl,.inl hq,up _ M h _ H rh Frm.refl rfl⟩
   ·exact h.elim
  ·exact h.elim
 ·exact h.elim
theorem qZ:bootBuiltins "any"=some (.builtin "any"):=by decide +kernel
theorem sH:bootBuiltins "range"=some (.type "range"):=by decide +kernel
def jv(t:fo):bH:=fun δ M Q=>t δ M fun ds M1=>match ds with
 |[.int j]=>(-(2 ^ 62)<=j/\j<=1000)/\∀p,M1 p=none->Q (.ref p) (M1.upd p (.lst (cw 0 j.toNat)))
 |_=>False
def qj(n:Nat):List V:=(List.range n).map fun (i:Nat)=>V.int (0+(i:Int))
theorem xw{K:W.Frag}{H:Hp}{n:Nat}:Rps K H (cw 0 n) (qj n):=by
 unfold cw qj;generalize List.range n=l
 induction l with
 |nil=>rfl
 |cons i l ih=>exact ⟨_,_,rfl,rfl,ih⟩
theorem uk{acc:Array Value}{n:Nat}(h:ItemsOf (fun i v=>∃t,v=.int (0+i*1) t) acc n):Vals (qj n) acc.toList:=by
 obtain ⟨h1,h2⟩:=h;have key:∀(l:List Value) (k m:Nat),l.length=m->(∀(j:Nat) (v:Value),l[j]?=some v->∃t,v=.int (0+((k+j:Nat):Int)) t)->Vals ((List.range' k m).map fun (i:Nat)=>V.int (0+(i:Int))) l:=by
  intro l
  induction l with
  |nil=>intro k m e _;subst e;exact .nil
  |cons x l ih=>
   intro k m e h;subst e;rw [List.length_cons,List.range'_succ,List.map_cons];refine .cons ?_ (ih (k+1) _ rfl fun j v q=>?_)
   ·obtain ⟨t,rfl⟩:=h 0 x (by simp)
    exact ⟨t,rfl⟩
   ·obtain ⟨t,e⟩:=h (j+1) v (by simpa using q)
    exact ⟨t,by rw [e];congr 2;lia⟩
 have:=key acc.toList 0 n (by simpa using h1) fun j v q=>by
  obtain ⟨t,e⟩:=h2 j v (by simpa using q)
  exact ⟨t,by rw [e,Int.mul_one,Nat.zero_add]⟩
 unfold qj;rw [List.range_eq_range'];exact this
def wP(t:TA):TE:=fun σ H Q=>t σ H fun vs H1=>∃j:Int,vs=[.int j]/\(-(2 ^ 62)<=j/\j<=1000)/\∀p,H1 p=none->Q (.ref p) (upd H1 p (.lst (qj j.toNat)))
theorem qg{e:Expr}{t:TA}{p p2 pos pos2:Pos}(hc:X.calm=true)(hg:Gl X "range")(hm:X.mg "range"=none)(hg2:Gl X "list")(hm2:X.mg "list"=none)(ha:PA X [e] t)
  (hs:starEach [e] X.env=[(false,eval e X.env)]:=by rfl) (hs3:starEach [Expr.Call (.Name "range" p2) [e] [] pos2] X.env=[(false,eval (.Call (.Name "range" p2) [e] [] pos2) X.env)]:=by rfl):
  PE X (.Call (.Name "list" p) [.Call (.Name "range" p2) [e] [] pos2] [] pos) (wP t):=by
 intro pins s σ H Q I h;refine wpAny_Call_Name_kw (ld_blt I hg2 hm2 bt_list' (PyProof.Rows.callWith_type1 ?_ hs3 rfl));rw [hs3];show wpAny _ _ (spliced ((false,_)::backTo pos [])) _ _ s;refine Calls.spliced_cons ?_;refine wpAny_Call_Name_kw (ld_blt I hg hm sH (PyProof.Rows.callWith_type1 (thn (ha pos2 pins s σ H _ I h) fun us s1 ⟨vs,H1,I1,r1,q1⟩=>?_) hs rfl));obtain ⟨j,rfl,⟨j0,j1⟩,q⟩:=q1;obtain ⟨u,rfl,ru⟩:=fT r1;obtain ⟨t',rfl⟩:=ru;refine call_range_1 ?_;refine Calls.spliced_nil ?_;have hh:=I1.ok.hd hc;refine call_list_range (n:=j.toNat) hh (IsRange.new ..) (small_one (by decide) (by decide) j0 (by lia)) (by rw [rangeSize_one];split<;>lia) (by lia) fun h' tk acc c' k1 hS hacc=>?_
 have hsz:(s1.heap.push { cls:=.type "range",data:=.fields #[.int 0 s1.toks,.int j t',.int 1 (s1.toks+1)] }).objs.size=s1.heap.objs.size+1:=Heap.size_push ..;have hn:H1 (s1.heap.objs.size+1)=none:=I1.hok.fresh (Nat.le_succ _);have hS':h'.get? (s1.heap.objs.size+1)=some { cls:=.type "list",dict:=none,data:=.seq acc c',slots:=#[] }:=by rw [<- hsz];exact hS
 refine ⟨.ref (s1.heap.objs.size+1),_,I1.laid (t':=tk) (o:=.lst (qj j.toNat)) (fun b o z=>k1 b o (Heap.get?_push_of_some _ z)) (Nat.le_succ _) (show ObjOk X.prog X.w _ _ _ (.lst _) from ⟨?_,acc.toList,c',uk hacc,by rw [Array.toArray_toList];exact hS'⟩),?_,q _ hn⟩
 ·simp only [qj,List.length_map,List.length_range]
  exact Nat.le_trans (by lia:j.toNat<=1000) (by decide)
 ·show Value.ref _=Value.ref _
  rw [<- hsz]
theorem j6{e:Expr}{t:fo}{p p2 pos pos2:Pos}(hc:X.calm=true)(hg:Gl X "range")(hm:X.mg "range"=none)(hg2:Gl X "list")(hm2:X.mg "list"=none)(ha:DA X B [e] t)
  (hs:starEach [e] X.env=[(false,eval e X.env)]:=by rfl) (hs3:starEach [Expr.Call (.Name "range" p2) [e] [] pos2] X.env=[(false,eval (.Call (.Name "range" p2) [e] [] pos2) X.env)]:=by rfl):
  DE X B (.Call (.Name "list" p) [.Call (.Name "range" p2) [e] [] pos2] [] pos) (jv t):=by
 refine aU (qg hc hg hm hg2 hm2 ha hs hs3) ?_
 rintro σ H Q ⟨δ,M,QQ,s,h,u⟩
 refine ⟨δ,M,_,s,h,fun ds M1 h1 vs H1 rh1 i1 r1=>?_⟩
 split at h1
 ·obtain ⟨v,rfl,rv⟩:=eP (ds:=[]) r1
  cases rv;refine ⟨_,rfl,h1.1,fun d hd=>?_⟩;exact u _ _ (h1.2 d (rh1.fresh hd)) _ _ (rh1.put (by rw [hd];trivial) ⟨_,upd_same,xw⟩) (i1.trans (Frm.put (.inl hd))) rfl
 ·exact h1.elim
end
end L3
namespace L3
open PySem L2 LS
section
variable {X:Cx}{B:Bd}{name:Str}{a:Addr}{tab:List (Str×D)}
end
end L3
namespace LS
open PySem
section
variable {prog:Program}{w:World}{K:Type}[DecidableEq K]{A:Around}{E:Value->Shared->Prop}{s:Shared}{knd:KeyKind prog w K}
end
end LS
namespace LS
open PySem
section
variable {prog:Program}{w:World}{K:Type}[DecidableEq K]{A:Around}{E:Value->Shared->Prop}{s:Shared}{knd:KeyKind prog w K}
theorem uw{a:Addr}{led:Bool}{l:List K}{Q:Value->Shared->Prop}(H:Holds knd s.heap a led l)(hQ:∀t tk,Q (.int (l.length:Nat) t) { s with toks:=tk }):wpAny (model prog w) A (call (.builtin "len") [.ref a]) Q E s:=by
 obtain ⟨⟨o,es,ep,t,ho,hx,hd,_,_,hsz,hf,_⟩,_,few⟩:=H;refine call_len_set ho hx hd hf ?_ ?_
 ·have:es.size<scanBound:=by rw [hsz];exact few
  have:scanBound<=2 ^ 30:=by decide
  lia
 ·rw [hsz];exact hQ _ _
end
end LS
namespace L2
open PySem PySem.Spec
section
variable {X:Cx}{tg:Expr}
end
end L2
namespace L3
open PySem L2 LS
section
variable {X:Cx}{B:Bd}{tg:Expr}{K:W.Frag}{H:Hp}{M:Mem}
theorem bt_len2:bootBuiltins "len"=some (.builtin "len"):=by decide +kernel
end
end L3
namespace L3
open PySem L2
section
variable {X:Cx}{B:Bd}{pos:Pos}
end
end L3
namespace L3
open PySem L2
section
variable {X:Cx}{B:Bd}
end
end L3
namespace L3
open PySem L2 LS
section
variable {X:Cx}{B:Bd}
end
end L3
namespace LS
open PySem PySem.W PySem.Calls PyProof.Rows PyProof.V PySem.Spec
section
variable {prog:Program}{w:World}{K:Type}[DecidableEq K]{knd:KeyKind prog w K}{A:Around}{E:Value->Shared->Prop}{s:Shared}{v d:Addr}{ep:Nat}{kvs:List (K×Value)}
end
end LS
namespace L3
open PySem L2 LS
section
variable {X:Cx}{B:Bd}{pos:Pos}
end
end L3
namespace LX
open PySem PySem.W PySem.Spec PySem.Calls PyProof.Rows Builtin Builtin.ObjectAttr Builtin.Getset_descriptor
section
variable {K:Frag}{prog:Program}{w:World}{A:Around}{E:Value->Shared->Prop}{s:Shared}
end
end LX
namespace LX
open PySem PySem.W PySem.Spec PySem.Calls PyProof.Rows
end LX
namespace L2
open PySem PySem.Spec PyProof.Rows
section
variable {X:Cx}{pins:List (Addr×Obj)}{σ:St}{H:Hp}{s:Shared}{e:Value}
end
end L2
namespace L2
open PySem PySem.Spec PyProof.Rows
end L2
namespace L2
open PySem
end L2
namespace L3
open PySem L2
section
variable {X:Cx}{B:Bd}{K:W.Frag}{H H':Hp}{M M1 M':Mem}
end
section
variable {P:Program}{w:World}{K:W.Frag}{mg:Str->Option Value}{base:Heap}{f:Addr}{fd:FuncData}
end
section
variable {X:Cx}{B:Bd}{K:W.Frag}{H H':Hp}{M M1 M':Mem}
end
end L3
namespace L3
open PySem L2 LS
section
variable {X:Cx}{B:Bd}
end
end L3
namespace L3
open PySem L2
end L3
namespace L3
open PySem L2
section
variable {X:Cx}{B:Bd}
def Bb:fP:=fun x y M Q=>match x,y with
 |.bl c,.bl d=>Q (.bl (c==d)) M
 |_,_=>False
def kM:fP:=fun x y M Q=>match x,y with
 |.bl c,.bl d=>Q (.bl (c != d)) M
 |_,_=>False
theorem z7:d5 X (compareOp .Is) (liftR2 X Bb):=by
 intro pins s σ H x y v u Q I rx ry h;obtain ⟨d1,d2,M,QQ,rh,r1,r2,h,up⟩:=h;unfold Bb at h
 split at h
 ·cases r1;cases r2;cases rx;cases ry
  exact PyProof.Rows.is_bool (lf I (up _ M h _ H rh Frm.refl rfl) rfl)
 ·exact h.elim
theorem gy:d5 X (compareOp .IsNot) (liftR2 X kM):=by
 intro pins s σ H x y v u Q I rx ry h;obtain ⟨d1,d2,M,QQ,rh,r1,r2,h,up⟩:=h;unfold kM at h
 split at h
 ·cases r1;cases r2;cases rx;cases ry
  exact PyProof.Rows.isnot_bool (lf I (up _ M h _ H rh Frm.refl rfl) rfl)
 ·exact h.elim
def qL:pi:=fun ds M Q=>match ds with
 |[d]=>bZ 60 d=true/\(cQ d).showable=true/\(cQ d).shown.length<=sizeLine/\Q (.str (cQ d).shown) M
 |_=>False
theorem pC(hg:X.A.guards=some [])(hu:X.A.units+64<cLine):bX X (.builtin "repr") (liftC X qL):=by
 intro pins s σ H xs us Q I r h;obtain ⟨ds,M,QQ,rh,rp,h,up⟩:=h;unfold qL at h
 split at h
 ·rename_i d
  obtain ⟨hf,hs,hz,h⟩:=h;obtain ⟨v,rfl,rv⟩:=eP (ds:=[]) rp;obtain ⟨u,rfl,ru⟩:=fT r;have q:=vE I hf rv ru;have hd:=nR 60 _ hf;obtain ⟨as,rd⟩:=nI _ _ q;have fin:∀(t:Tok) (tk:Nat) (h':Heap),(∀b o,s.heap.get? b=some o->h'.get? b=some o)->EP X pins σ Q (.str (cQ d).shown t) { s with heap:=h',toks:=tk }:=fun t tk h' hk=>
   ⟨.str _,H,I.kept (t':=tk) fun b o e=>hk b o e,⟨_,rfl⟩,up _ M h _ H rh Frm.refl rfl⟩
  cases d with
  |non=>cases q;exact PySem.P.repr_of_none (fin _ _ _ fun _ _ e=>e)
  |bl b=>cases q;exact PySem.P.repr_of_bool (fin _ _ _ fun _ _ e=>e)
  |int i=>
   obtain ⟨t,rfl⟩:=q;exact PySem.P.repr_of_int (by simpa [cQ,PyData.showable] using hs) (fin _ _ _ fun _ _ e=>e)
  |str x=>
   obtain ⟨t,rfl⟩:=q;exact PySem.P.repr_of_str (fin _ _ _ fun _ _ e=>e) hz
  |tup xs=>
   obtain ⟨p,its,rfl,_⟩:=q;exact repr_of_reads' rd hs (PyData.noDict_hsm (qk _)) hg (by lia) (fun _ _ e=>e) (fun h' u tk hk=>fin u tk h' hk) hz
  |lst xs=>
   obtain ⟨p,its,rfl,_⟩:=q;exact repr_of_reads' rd hs (PyData.noDict_hsm (qk _)) hg (by lia) (fun _ _ e=>e) (fun h' u tk hk=>fin u tk h' hk) hz
  |_=>exact q.elim
 ·exact h.elim
end
end L3
namespace L3
open PySem L2
section
variable {X:Cx}{B:Bd}
variable {C:Addr}{f:Str}{o value:Expr}{ta tv:bH}{pos tpos:Pos}
end
section
variable {X:Cx}{B:Bd}{CX:nW}{k n:Nat}{f C:Addr}{fd:FuncData}{ps:List Str}{T:Sd}{E:XK}{EE:DX}{x:Str}{p pos:Pos}
end
end L3
namespace L3
open PySem L2
section
variable {X:Cx}{B:Bd}{K:W.Frag}{H H':Hp}{M M1 M':Mem}{pos:Pos}
end
end L3
namespace L3
open PySem L2
section
variable {X:Cx}{B:Bd}
end
end L3
namespace LS
open PySem PySem.W PySem.Calls PyProof.Rows PyProof.V PySem.Spec
section
variable {prog:Program}{w:World}{A:Around}{E:Value->Shared->Prop}{s:Shared}{it d:Addr}{i n ep:Nat}{ok ov:Value}{od:Obj}{es:Array DictEntry}
theorem pG{Q:Value->Shared->Prop}(hT:s.TypeIs (.ref d) "dict")(hd:(d==sysModules)=false)(h:Q (.ref s.heap.objs.size) { s with heap:=s.heap.push { cls:=.type "dict_items",data:=.fields #[.ref d] } }):
  wpAny (model prog w) A (call (.builtin "dict.items") [.ref d]) Q E s:=by
 refine wpAny_call_entry F.slot_dict_items hT F.entry_dict_items ?_ (F.args_dict_items_1 _);unfold Builtin.«dict.items» Builtin.Dict.noArgs;refine wpAny_bind (wpAny_bind (wpAny_notOrdered_dict hT (wpAny_pure ?_)));show wpAny _ _ (Builtin.Dict.showsAll d >>= _) _ _ s;unfold Builtin.Dict.showsAll;rw [if_neg (by rw [hd];simp)]
 exact wpAny_bind (wpAny_pure (wpAny_bind (wpAny_newObj_type (wpAny_pure ⟨_,rfl,h⟩))))
theorem pY{v:Addr}{Q:Value->Shared->Prop}(hv:s.heap.IsItemsView v d)(ho:s.heap.get? d=some od)(hdat:od.data=.dict es ep)
  (hQ:Q (.ref s.heap.objs.size) { s with heap:=s.heap.push { cls:=.type "dict_itemiterator",data:=.fields #[.none,.bool false,.ref d,.int 0 0,.int es.size 0,.int ep 0,.none,.none] } }):wpAny (model prog w) A (pyIter (.ref v)) Q E s:=by
 obtain ⟨ov,hov,_,hdv⟩:=id hv;refine wpAny_pyIter_slot hv.typeIs F.slot_dict_items_iter (wpAny_call_entry F.slot_dict_items_iter hv.typeIs F.entry_dict_items_iter (wpAny_bind (wpAny_pure (wpAny_bind ?_))) (F.args_dict_items_iter_1 _));unfold Builtin.Dict_items.dictOf;refine wpAny_bind (wpAny_field hov hdv (x:=.ref d) rfl (wpAny_pure (wpAny_bind ?_)));unfold Builtin.Dict_items.newIterator;refine wpAny_bind (wpAny_dictEntries ho hdat (wpAny_bind (wpAny_dictEpoch ho hdat ?_)));simp only [show Builtin.Dict_items.ownsTuple "dict_itemiterator"=true by decide,if_true]
 refine wpAny_newObj_type (wpAny_pure ⟨_,rfl,"dict_itemiterator",_,⟨_,Heap.get?_push_size _ rfl,rfl⟩,F.slot_dict_itemiterator_next.lookup,?_⟩) (by simp only [sizeOk,Builtin.Dict_items.ownedTupleFields,List.size_toArray,List.length_append,List.length_cons,List.length_nil,sizeLine_eq];lia)
 simpa [rawInt,Builtin.Dict_items.ownedTupleFields] using hQ
theorem p_{Q:Option Value->Shared->Prop}(hit:IsItemIter s.heap it d i n ep ok ov)(ho:s.heap.get? d=some od)(hdat:od.data=.dict es ep)(hn:es.size=n)(hlt:i<es.size)
  (hQ:∀h',IsItemIterOut h' it d (i+1) n ep es[i].key es[i].val s.heap.objs.size->h'.get? s.heap.objs.size=some { cls:=.type "tuple",data:=.seq #[es[i].key,es[i].val] }->h'.objs.size=s.heap.objs.size+1->
   (∀b o,b≠it->s.heap.get? b=some o->h'.get? b=some o)->Q (some (.ref s.heap.objs.size)) { s with heap:=h' }):wpAny (model prog w) A (pyNext (.ref it)) Q E s:=by
 obtain ⟨hp,g,dr,tk,os⟩:=s;have hT:Shared.TypeIs ⟨hp,g,dr,tk,os⟩ (.ref it) "dict_itemiterator":=⟨_,hit,rfl⟩;unfold pyNext;refine wpAny_bind (wpAny_attempt (wpAny_callSpecial?_slot (name:=Str.ofString "__next__") hT F.slot_dict_itemiterator_next (wpAny_call_entry F.slot_dict_itemiterator_next hT F.entry_dict_itemiterator_next (wpAny_bind (wpAny_pure (wpAny_bind (wpAny_bind ?_)))) (F.args_dict_itemiterator_next_1 _))));refine wpAny_bind (wpAny_typeNameOfWhole_itemiter hT (wpAny_pure (wpAny_bind (wpAny_fieldsOf hit rfl ?_))));simp only [show Builtin.Dict_items.ownsTuple "dict_itemiterator"=true by decide,if_true]
 show wpAny _ _ (if (Value.ref d==Value.none)=true then _ else _) _ _ _
 rw [if_neg (show ¬((Value.ref d==Value.none)=true) by simp)]
 refine wpAny_bind (wpAny_pure (wpAny_bind (wpAny_dictEntries ho hdat ?_)));rw [if_neg (by rw [hn];simp)]
 refine wpAny_bind (wpAny_pure (wpAny_bind (wpAny_dictEpoch ho hdat ?_)));rw [if_neg (by simp)]
 refine wpAny_pure ?_;simp only [show ¬((i:Int)<0) from by lia,if_false,Int.toNat_natCast,Array.getElem?_eq_getElem hlt]
 refine wpAny_bind (wpAny_bind (wpAny_typeNameOfWhole_itemiter hT (wpAny_pure ?_)));refine wpAny_bind (wpAny_isOneOf_itemiter hT ?_);show wpAny _ _ (setField (.ref it) 3 (rawInt ((i:Int)+1)) >>= _) _ _ ⟨hp,g,dr,tk,os⟩;refine wpAny_bind (wpAny_setField_rec hit (by simp) fun g1 e1 s1=>?_)
 have s1':Heap.SameBut it hp g1:=s1;have e1':IsItemIter g1 it d (i+1) n ep ok ov:=by
  have e:((i+1:Nat):Int)=(i:Int)+1:=by lia
  unfold IsItemIter;rw [e];simpa [rawInt] using e1
 have hT1:Shared.TypeIs ⟨g1,g,dr,tk,os⟩ (.ref it) "dict_itemiterator":=⟨_,e1',rfl⟩;refine wpAny_bind (wpAny_holding (wpAny_bind (wpAny_isOneOf_itemiter hT1 (wpAny_bind (wpAny_isOneOf_itemiter hT1 ?_)))));show wpAny _ _ (Builtin.Dict_items.pairFromOwner (.ref it) 6 es[i].key es[i].val) _ _ ⟨g1,g,dr,tk,os⟩;unfold Builtin.Dict_items.pairFromOwner;refine wpAny_bind (wpAny_newTuple ?_);have e2:IsItemIter (g1.push { cls:=.type "tuple",data:=.seq #[es[i].key,es[i].val] }) it d (i+1) n ep ok ov:=Heap.get?_push_of_some _ e1';have z1:g1.objs.size=hp.objs.size:=s1'.1;have hil:hp.objs.size≠it:=Nat.ne_of_gt (Heap.lt_size hit);have t2:(g1.push { cls:=.type "tuple",data:=.seq #[es[i].key,es[i].val] }).get? hp.objs.size=some { cls:=.type "tuple",data:=.seq #[es[i].key,es[i].val] }:=by rw [<- z1];exact Heap.get?_push_size _ rfl
 have z2:(g1.push { cls:=.type "tuple",data:=.seq #[es[i].key,es[i].val] }).objs.size=hp.objs.size+1:=by rw [Heap.size_push,z1]
 have k2:∀b o,b≠it->hp.get? b=some o->(g1.push { cls:=.type "tuple",data:=.seq #[es[i].key,es[i].val] }).get? b=some o:=fun b o hb e=>Heap.get?_push_of_some _ (s1'.extBut b o hb e);show wpAny _ _ (Builtin.Dict_items.ownedTupleIsFree (.ref it) >>= _) _ _ ⟨g1.push { cls:=.type "tuple",data:=.seq #[es[i].key,es[i].val] },g,dr,tk,os⟩;rw [z1];generalize g1.push { cls:=.type "tuple",data:=.seq #[es[i].key,es[i].val] }=g2 at e2 t2 z2 k2;unfold Builtin.Dict_items.ownedTupleIsFree;refine wpAny_bind (wpAny_bind (wpAny_field e2 rfl (x:=.none) rfl (wpAny_pure ?_)));simp only [if_true];refine wpAny_bind (wpAny_field e2 rfl (x:=ok) rfl (wpAny_bind (wpAny_field e2 rfl (x:=ov) rfl ?_)));refine wpAny_bind (wpAny_setField_rec e2 (by simp) fun g3 e3 s3=>?_)
 have e3':IsItemIter g3 it d (i+1) n ep es[i].key ov:=e3;refine wpAny_bind (wpAny_setField_rec e3' (by simp) fun g4 e4 s4=>?_)
 have e4':IsItemIter g4 it d (i+1) n ep es[i].key es[i].val:=e4;refine wpAny_bind (wpAny_setField_rec e4' (by simp) fun g5 e5 s5=>?_)
 have e5':IsItemIterOut g5 it d (i+1) n ep es[i].key es[i].val hp.objs.size:=e5;refine wpAny_bind (wpAny_setField_rec e5' (by simp) fun g6 e6 s6=>?_)
 have a3:Heap.SameBut it g2 g3:=s3;have a4:Heap.SameBut it g3 g4:=s4;have a5:Heap.SameBut it g4 g5:=s5;have a6:Heap.SameBut it g5 g6:=s6;have kk:∀b o,b≠it->g2.get? b=some o->g6.get? b=some o:=fun b o hb e=>a6.extBut b o hb (a5.extBut b o hb (a4.extBut b o hb (a3.extBut b o hb e)));refine wpAny_bind (wpAny_letGo (wpAny_pure (wpAny_pure ⟨_,rfl,wpAny_pure (hQ g6 e6 (kk _ _ hil t2) ?_ fun b o hb e=>kk b o hb (k2 b o hb e))⟩)));rw [a6.1,a5.1,a4.1,a3.1,z2]
theorem tq{Q:Option Value->Shared->Prop}(hh:A.handled=none)(hit:IsItemIter s.heap it d i n ep ok ov)(ho:s.heap.get? d=some od)(hdat:od.data=.dict es ep)(hn:es.size=n)(hge:es.size<=i)
  (hQ:∀h',Heap.ExtBut it s.heap h'->Q none { s with heap:=h' }):wpAny (model prog w) A (pyNext (.ref it)) Q E s:=by
 have hT:s.TypeIs (.ref it) "dict_itemiterator":=⟨_,hit,rfl⟩;unfold pyNext;refine wpAny_bind (wpAny_attempt (wpAny_callSpecial?_slot (name:=Str.ofString "__next__") hT F.slot_dict_itemiterator_next (wpAny_call_entry F.slot_dict_itemiterator_next hT F.entry_dict_itemiterator_next (wpAny_bind (wpAny_pure (wpAny_bind (wpAny_bind ?_)))) (F.args_dict_itemiterator_next_1 _))));refine wpAny_bind (wpAny_typeNameOfWhole_itemiter hT (wpAny_pure (wpAny_bind (wpAny_fieldsOf hit rfl ?_))));simp only [show Builtin.Dict_items.ownsTuple "dict_itemiterator"=true by decide,if_true]
 show wpAny _ _ (if (Value.ref d==Value.none)=true then _ else _) _ _ s
 rw [if_neg (show ¬((Value.ref d==Value.none)=true) by simp)]
 refine wpAny_bind (wpAny_pure (wpAny_bind (wpAny_dictEntries ho hdat ?_)));rw [if_neg (by rw [hn];simp)]
 refine wpAny_bind (wpAny_pure (wpAny_bind (wpAny_dictEpoch ho hdat ?_)));rw [if_neg (by simp)]
 refine wpAny_pure ?_;simp only [show ¬((i:Int)<0) from by lia,if_false,Int.toNat_natCast,Array.getElem?_eq_none hge]
 refine wpAny_bind (wpAny_bind (wpAny_typeNameOfWhole_itemiter hT (wpAny_pure ?_)));show wpAny _ _ (setField (.ref it) 2 .none >>= _) _ _ s;refine wpAny_bind (wpAny_setField hit rfl (by simp) ?_)
 show wpAny _ _ (newExc (.type "StopIteration") [] >>= _) _ _ _;simp only [newExc,newTuple];refine wpAny_bind (wpAny_bind (wpAny_newObj_type ?_ (by size_fits)))
 refine wpAny_bind (m:=firstArgMember _ _) (wpAny_of_eq (a:=Value.none) (by first|rfl|(simp only [firstArgMember];rfl)) (wpAny_newObj_type ?_ (by size_fits)))
 simp only [raiseNew];refine wpAny_bind (wpAny_handled ?_);rw [show A.in1.handled=none from hh];refine wpAny_bind (wpAny_pure (wpAny_throw (wpAny_bind ?_)));refine wpAny_isInstance (T:="StopIteration") (b:=true) ⟨_,Heap.get?_push_size _ rfl,rfl⟩ isSubtype_stop (wpAny_pure ?_);exact hQ _ (((Heap.SameBut.update ..).extBut.push _).push _)
end
end LS
namespace L2
open PySem PySem.Spec PyProof.Rows LS
def Itd(d:Addr)(od:Obj)(kvs:List (List au×V)):It:=
 ⟨fun i H=>H d=some (.frz od (.dT kvs))/\i<kvs.length,
  fun i H v H'=>∃T ks x b,kvs[i]?=some (ks,x)/\H b=some (.tup (ks.map kV))/\H T=none/\v=.ref T/\H'=upd H T (.tup [.ref b,x]),
  fun i H=>H d=some (.frz od (.dT kvs))/\kvs.length<=i⟩
theorem Inv.frzT{X:Cx}{pins:List (Addr×Obj)}{σ:St}{H:Hp}{s:Shared}{d:Addr}{od:Obj}{kvs:List (List au×V)}{es:Array DictEntry}{ep:Nat}(I:Inv X pins σ H s)(e:H d=some (.frz od (.dT kvs)))(hd:od.data=.dict es ep):
  s.heap.get? d=some od/\∃xs:List (List au×Addr×Value),KT H kvs xs/\es.toList=xs.map (entryOfKey (tupleKind (aO X.prog X.w))):=by
 obtain ⟨h1,_,_,xs,r,o,es',ep',h2,_,h4,h5,_⟩:=(show ObjOk X.prog X.w H s.heap d (.frz od (.dT kvs)) from I.hok d _ e);rw [h1] at h2;cases h2;rw [hd] at h4;cases h4;exact ⟨h1,xs,r,h5⟩
theorem KT.at{H:Hp}:∀{kvs:List (List au×V)} {xs:List (List au×Addr×Value)},KT H kvs xs->∀{i:Nat} {ks:List au} {x:V},kvs[i]?=some (ks,x)->∃b u,xs[i]?=some (ks,b,u)/\H b=some (.tup (ks.map kV))/\RelV x u
 |_,_,.nil,i,ks,x,e=>by simp at e
 |_,_,.cons (a:=p) (b:=q) h t,0,ks,x,e=>by
  simp at e;subst e;obtain ⟨q1,q2,q3⟩:=q;exact ⟨q2,q3,by simp;exact h.1.symm,h.2.1,h.2.2⟩
 |_,_,.cons h t,i+1,ks,x,e=>by
  simp at e;simpa using KT.at t e
theorem qq{P:Program}{w:World}{K:W.Frag}{elts:List Expr}{x1:Nat}{tp:Pos}{kvs:List (List au×V)}{es:Array DictEntry}{ep:Nat}{od:Obj}(d it:Addr)(hd:od.data=.dict es ep)(hn:es.size=kvs.length):
  Turn P w K (.Tuple elts x1 tp) (Itd d od kvs) [it] it (fun i h=>∃ok ov,IsItemIter h it d i kvs.length ep ok ov) where
 mem:=by simp
 obj:=fun i h st b hb=>by
  have e:b=it:=by simpa using hb
  subst e;obtain ⟨ok,ov,e⟩:=st;exact ⟨_,e,fun v z=>nomatch z⟩
 keep:=fun i h h' st k=>let ⟨ok,ov,e⟩:=st;⟨ok,ov,k it (by simp) _ e⟩
 item:=by
  intro X hP hw hK hc i pins s σ H E I hf st hg;subst hP hw hK;obtain ⟨ok,ov,hit⟩:=st;obtain ⟨e,hi⟩:=hg;obtain ⟨h1,xs,r,he⟩:=I.frzT e hd;have hx:kvs[i]?=some (kvs[i].1,kvs[i].2):=by rw [List.getElem?_eq_getElem hi]
  obtain ⟨b,u,e1,e2,e3⟩:=r.at hx;have hi':i<es.size:=by rw [hn];exact hi
  have ee:es[i]=entryOfKey (tupleKind (aO X.prog X.w)) (kvs[i].1,b,u):=by
   have:=entry_at he i;rw [e1,Array.getElem?_eq_getElem hi'] at this;exact Option.some.inj this
  have k1:es[i].key=.ref b:=by rw [ee];rfl
  have k2:es[i].val=u:=by rw [ee];rfl
  refine p_ hit h1 hd hn hi' fun h' o1 o2 o3 o4=>?_;rw [k1,k2] at o1 o2;refine ⟨_,rfl,wpAny_letOwnedTupleGo_items (s:={ s with heap:=h' }) o1 fun g e' sb=>?_⟩;have hes:s.heap.objs.size≠it:=Nat.ne_of_gt (Heap.lt_size hit);have hTn:H s.heap.objs.size=none:=I.hok.fresh (Nat.le_refl _);refine ⟨.ref s.heap.objs.size,_,I.turnedNew (s:=s) (h':=g) (t':=s.toks) (fp:=[it]) (zs:=[.ref b,kvs[i].2]) (us:=[.ref b,u]) hf (fun c o hc q=>?_) (fun c hc=>?_) (fun c hc=>?_) (sb.extBut _ _ hes o2) rfl ⟨_,rfl⟩ (.cons rfl (.cons e3 .nil)) rfl (by show 2<=sizeLine;decide),rfl,⟨_,_,_,b,hx,e2,hTn,rfl,rfl⟩,⟨_,_,e'⟩,fun c hc=>?_⟩
  ·have hc':c≠it:=by simpa using hc
   exact sb.extBut c o hc' (o4 c o hc' q)
  ·have hc':c=it:=by simpa using hc
   subst hc';exact ⟨_,hit⟩
  ·have hc':c=it:=by simpa using hc
   subst hc';exact ⟨_,e'⟩
  ·have hc':c=it:=by simpa using hc
   subst hc';rw [upd_ne (Ne.symm hes)];exact (hf c hc).1
 done:=by
  intro X hP hw hK hc i pins s σ H E I hf st hg;subst hP hw hK;obtain ⟨ok,ov,hit⟩:=st;obtain ⟨e,hi⟩:=hg;obtain ⟨h1,xs,r,he⟩:=I.frzT e hd;obtain ⟨f0,f1,f2,f3,f4,f5⟩:=hf it (by simp)
  exact tq (I.ok.hd hc) hit h1 hd hn (by rw [hn];exact hi) fun h' eb=>⟨rfl,I.turned (t':=s.toks) (fun b o hb e=>eb b o hb e) f0 f1 f3 f4 f5⟩
 self:=fun A i s Q E st h=>by
  obtain ⟨ok,ov,hit⟩:=st;exact W.kcp_self hit h
theorem Inv.freezeT{X:Cx}{pins:List (Addr×Obj)}{σ:St}{H:Hp}{s:Shared}{p:Addr}{kvs:List (List au×V)}(I:Inv X pins σ H s)(h:H p=some (.dT kvs)):
  ∃od es ep,od.data=.dict es ep/\es.size=kvs.length/\s.heap.get? p=some od/\(p==sysModules)=false/\Inv X pins σ (upd H p (.frz od (.dT kvs))) s:=by
 obtain ⟨z,y,xs,r,od,es,ep,h1,h2,h3,h4,h5⟩:=(show ObjOk X.prog X.w H s.heap p (.dT kvs) from I.hok p _ h);have ne:∀{b:Addr} {u:Option HO},H b=u->u≠some (.dT kvs)->b≠p:=fun {b u} q hu z=>by subst z;rw [h] at q;exact hu q.symm
 refine ⟨od,es,ep,h3,by rw [<- Array.length_toList,h4,List.length_map,<- Paired.length r],h1,y,I.ok,I.os,I.bare,⟨I.base.keep,I.base.slot,fun b o q hn hx=>?_,I.base.there,fun b xs q=>?_,fun b o u q=>?_,fun b ps q=>?_⟩,I.loc,I.cell,?_,fun x c q=>?_,fun pp hp=>?_,fun b o q=>?_,I.len⟩
 ·have q':=I.base.free b o q hn hx
  rw [upd_ne (ne q' (by simp))];exact q'
 ·have q':=I.base.tups b xs q
  rw [upd_ne (ne q' (by simp))];exact q'
 ·have q':=I.base.frzs b o u q
  rw [upd_ne (ne q' (by simp))];exact q'
 ·obtain ⟨more,q'⟩:=I.base.tbls b ps q
  exact ⟨more,by rw [upd_ne (ne q' (by simp))];exact q'⟩
 ·rw [upd_ne (ne I.free (by simp))];exact I.free
 ·have q':=I.freeC x c q
  rw [upd_ne (ne q' (by simp))];exact q'
 ·obtain ⟨h1,h2,h3⟩:=I.pin pp hp
  exact ⟨h1,by rw [upd_ne (ne h2 (by simp))];exact h2,h3⟩
 ·have st:∀{u:HO} {b:Addr},ObjOk X.prog X.w H s.heap b u->ObjOk X.prog X.w (upd H p (.frz od (.dT kvs))) s.heap b u:=fun x=>x.stay (fun _ _ _ y=>y) (fun c y=>by rw [upd_ne (ne y (by simp))];exact y) fun c xs y=>by rw [upd_ne (ne y (by simp))];exact y
  by_cases hb:b=p
  ·subst hb
   rw [upd_same] at q;cases q;exact ⟨h1,st (I.hok b _ h)⟩
  ·rw [upd_ne hb] at q
   exact st (I.hok b o q)
def A9(to:TE):TI:=fun σ H R=>to σ H fun x H1=>∃a kvs,x=.ref a/\H1 a=some (.dT kvs)/\∀od,R (Itd a od kvs) (upd H1 a (.frz od (.dT kvs)))
theorem uN{X:Cx}{o:Expr}{to:TE}{apos cpos:Pos}{elts:List Expr}{x1:Nat}{tp:Pos}(ho:PE X o to)(hbase:attributeBase o "items" X.env (eval o X.env)=eval o X.env:=by rfl)(hline:(apos.endLine==cpos.line)=true:=by rfl):
  PI X (.Tuple elts x1 tp) (.Call (.Attribute o "items" apos) [] [] cpos) (A9 to):=by
 intro pins s σ H R I h;refine wpAny_Call_method0_late hbase hline (thn (ho pins s σ H _ I h) fun v s1 zz=>?_);obtain ⟨x,H1,I1,r1,a,kvs,ex,e,q⟩:=zz;subst ex;cases r1;obtain ⟨h1,h2⟩:=x5 I1 (x:=.ref a) rfl (.inr (.inr (.inl ⟨rfl,.inr ⟨kvs,e⟩⟩)));refine ⟨"dict","dict.items",F.plainAttrs_dict,F.slot_dict_items,F.type_dict_items,h1,h2,Calls.callWith_builtin rfl (PySem.evalArgs_none ?_)⟩;obtain ⟨od,es,ep,g1,g2,g3,g4,I2⟩:=I1.freezeT e;refine pG h1 g4 ?_;refine pY (s:={ s1 with heap:=s1.heap.push { cls:=.type "dict_items",data:=.fields #[.ref a] } }) ⟨_,Heap.get?_push_size _ rfl,rfl,rfl⟩ (Heap.get?_push_of_some _ g3) g1 ?_;have hz:(s1.heap.push { cls:=.type "dict_items",data:=.fields #[.ref a] }).objs.size=s1.heap.objs.size+1:=Heap.size_push ..;have hk:∀b o,s1.heap.get? b=some o->((s1.heap.push { cls:=.type "dict_items",data:=.fields #[.ref a] }).push { cls:=.type "dict_itemiterator",data:=.fields #[.none,.bool false,.ref a,.int 0 0,.int es.size 0,.int ep 0,.none,.none] }).get? b=some o:=fun b o z=>Heap.get?_push_of_some _ (Heap.get?_push_of_some _ z);refine ⟨s1.heap.objs.size+1,[s1.heap.objs.size+1],_,_,_,by rw [hz],I2.kept (t':=s1.toks) hk,qq a (s1.heap.objs.size+1) g1 g2,⟨.none,.none,?_⟩,fun c hc=>?_,q od⟩
 ·rw [<- g2,<- hz];exact Heap.get?_push_size _ rfl
 ·have hc':c=s1.heap.objs.size+1:=by simpa using hc
  subst hc';have hlt:(a:Nat)<s1.heap.objs.size:=Heap.lt_size g3;have hne:s1.heap.objs.size+1≠a:=Nat.ne_of_gt (Nat.lt_succ_of_lt hlt);exact I1.fpOk (Nat.le_succ _) (by rw [upd_ne hne];exact I1.hok.fresh (Nat.le_succ _))
end L2
namespace L3
open PySem L2 LS
section
variable {X:Cx}{B:Bd}
def gJ(kvs:List (List au×D)):List D:=kvs.map fun p=>.tup [.tup (p.1.map fun k=>match k with|.inl i=>D.int i|.inr x=>D.str x),p.2]
def pZ(to:bH):u5:=fun δ M R=>to δ M fun d M1=>match d with
 |.ref a=>match M1 a with
  |some (.dT kvs)=>R ⟨gJ kvs,[]⟩ (M1.del a)
  |_=>False
 |_=>False
theorem lH{K:W.Frag}{H:Hp}:∀ks:List au,Rps K H (ks.map fun k=>match k with|.inl i=>D.int i|.inr x=>D.str x) (ks.map kV)
 |[]=>rfl
 |.inl i::ks=>⟨_,_,rfl,rfl,lH ks⟩
 |.inr x::ks=>⟨_,_,rfl,rfl,lH ks⟩
theorem wH{κ:Type}{K:W.Frag}{H:Hp}:∀{a:List (κ×D)} {b:List (κ×V)},Rkv K H a b->∀{i:Nat} {k:κ} {d:D},a[i]?=some (k,d)->∃v,b[i]?=some (k,v)/\Rp K H d v
 |_,_,.nil,i,k,d,e=>by simp at e
 |_,_,.cons (a:=p) (b:=q) h t,0,k,d,e=>by
  simp at e;subst e;obtain ⟨q1,q2⟩:=q;exact ⟨q2,by simp;exact h.1.symm,h.2⟩
 |_,_,.cons h t,i+1,k,d,e=>by
  simp at e;simpa using wH t e
theorem RepH.freezeT{K:W.Frag}{H:Hp}{M:Mem}{p:Addr}{kvs:List (List au×V)}{o:Obj}(r:RepH K H M)(h:H p=some (.dT kvs)):RepH K (upd H p (.frz o (.dT kvs))) (M.del p):=fun b u e=>by
 unfold Mem.del at e
 split at e
 ·cases e
 ·rename_i hb
  exact (r b u e).keep (Imm.upd (by rw [h];trivial)) (upd_ne hb)
theorem wS{o:Expr}{to:bH}{apos cpos:Pos}{elts:List Expr}{x1:Nat}{tp:Pos}(ho:DE X B o to)(hbase:attributeBase o "items" X.env (eval o X.env)=eval o X.env:=by rfl)(hline:(apos.endLine==cpos.line)=true:=by rfl):
  DI X B (.Tuple elts x1 tp) (.Call (.Attribute o "items" apos) [] [] cpos) (pZ to):=by
 refine fR (uN ho hbase hline) ?_
 rintro σ H R ⟨δ,M,RR,s,h,up⟩
 refine ⟨δ,M,_,s,h,fun d M1 h1 v H1 rh1 i1 r1=>?_⟩
 split at h1
 ·rename_i a
  cases r1
  split at h1
  ·rename_i kvs e
   obtain ⟨ws,h2,h3⟩:=rh1 _ _ e;refine ⟨a,ws,rfl,h2,fun od=>up _ _ h1 _ _ (rh1.freezeT h2) (i1.trans (Frm.del ⟨_,e⟩)) fun i H2 M2 i2 rh2 _=>⟨fun d hd=>?_,fun hle=>?_⟩⟩
   ·have ha:H2 a=some (.frz od (.dT ws)):=i2.frz _ _ _ upd_same
    unfold gJ at hd;rw [List.getElem?_map] at hd;obtain ⟨p,hp,rfl⟩:=Option.map_eq_some_iff.mp hd;obtain ⟨ks,pd⟩:=p;obtain ⟨x,hx,rx⟩:=wH h3 hp;refine ⟨⟨ha,by rw [<- h3.length];exact (List.getElem?_eq_some_iff.mp hp).1⟩,?_⟩
    rintro y H3 ⟨T,ks',x',b,q1,q2,q3,rfl,rfl⟩
    rw [hx] at q1;cases q1;have i3:Imm H2 (upd H2 T (.tup [.ref b,x])):=Imm.new q3;have im1:Imm H1 (upd H1 a (.frz od (.dT ws))):=Imm.upd (by rw [h2];trivial)
    exact ⟨Frm.new q3,rh2.new q3,T,_,rfl,upd_same,.cons ⟨b,_,rfl,i3.tup _ _ q2,lH ks⟩ (.cons (((rx.mono im1).mono i2).mono i3) .nil)⟩
   ·exact ⟨i2.frz _ _ _ upd_same,by rw [<- h3.length];simpa [gJ] using hle⟩
  ·exact h1.elim
 ·exact h1.elim
end
end L3
namespace LS
open PySem PySem.W PySem.Calls PyProof.Rows PyProof.V PySem.Spec L2
theorem dB:entryFor table "list.__getattribute__"=some Builtin.«object.__getattribute__»:=entryFor_alias (id':="object.__getattribute__") (by kernel_rfl) (by decide +kernel) (by decide +kernel) (by kernel_rfl)
theorem fS:typeLookup (.type "list") "__getattr__"=pure none:=by rw [typeLookup_type];rw [builtinLookup_eq_fast];kernel_rfl
theorem lB:typeLookup (.type "list") "keys"=pure none:=by rw [typeLookup_type];rw [builtinLookup_eq_fast];kernel_rfl
abbrev yY(h:Heap)(a:Addr)(its:Array Value)(n:Nat):Prop:=h.get? a=some { cls:=.type "list",dict:=none,data:=.seq its n,slots:=#[] }
theorem ig(a:Addr)(its:Array Value)(n:Nat)(name:Str)(u:Tok)(hmiss:typeLookup (.type "list") name=pure none)(hname:(["__module__","__name__","__qualname__","__doc__","__annotations__"]:List Str).contains name=false)(hsz:name.length+100<=sizeLine):
  Meets (Builtin.«object.__getattribute__» ⟨[.ref a,.str name u],[]⟩) (fun A R s=>yY s.heap a its n/\raisesAttr (.ref a) name A R s):=
 Meets.of_wp fun prog w A R s hs=>by
  obtain ⟨hp,g,d,tk,os⟩:=s;obtain ⟨hx,hs⟩:=hs;have hT:(⟨hp,g,d,tk,os⟩:Shared).TypeIs (.ref a) "list":=⟨_,hx,rfl⟩;unfold Builtin.«object.__getattribute__»
  repeat (any_goals (first|assumption|wp_step))
  simp only [hname,Bool.false_eq_true,if_false]
  repeat (any_goals (first|assumption|wp_step))
  exact wpAny_raiseAttrError hs.1 hs.2 (attrMsg_fits (by decide +kernel) hsz)
section
variable {prog:Program}{w:World}{A:Around}{E:Value->Shared->Prop}{s:Shared}
theorem ja{a:Addr}{its:Array Value}{n:Nat}{Q:Option Value->Shared->Prop}(hx:yY s.heap a its n)(hA:A.handled=none)
  (h:∀h' tk,(∀b o,s.heap.get? b=some o->h'.get? b=some o)->Q none { s with heap:=h',toks:=tk }):wpAny (model prog w) A (getAttr? (.ref a) "keys") Q E s:=by
 obtain ⟨hp,g,d,tk,os⟩:=s;have hT:∀tk',(⟨hp,g,d,tk',os⟩:Shared).TypeIs (.ref a) "list":=fun _=>⟨_,hx,rfl⟩;have f1':=sub_AttributeError;have f3:=PySem.F.slot_list_getattribute.lookup;have f4:=PySem.F.slot_list_getattribute.bind (.ref a);have f5:=fS;unfold getAttr? getAttrBy? getAttrBy
 repeat (any_goals (first|assumption|exact hT _|((with_reducible show wpAny _ _ (call (Value.builtin "list.__getattribute__") _ _) _ _ _);refine call_meets PySem.F.slot_list_getattribute (hT _) dB (PySem.F.args_list_getattribute_2 _ _) (ig a its n "keys" _ lB (by decide +kernel) (by decide +kernel)) ⟨hx,hA,fun h' tk' e hx'=>?_⟩)|wp_step))
 obtain ⟨t',u',he⟩:=hx'.there;show wpAny _ _ (getattributeRaised _ _ _ _ _ _ _) _ _ _;unfold getattributeRaised
 repeat (any_goals (first|assumption|wp_step))
 exact h _ _ hx'.keeps
end
def zq(h:Heap)(T:Addr)(k v:Value):Prop:=∃o n,h.get? T=some o/\o.cls=.type "tuple"/\o.data=.seq #[k,v] n
theorem u4{prog:Program}{w:World}{A:Around}{R:Result->Shared->Prop}{l it d:Addr}{ps:List (Value×Value)}{Ts:List Addr}(hh:A.handled=none)(P:Nat->Heap->Prop)
  (stay:∀i h h',P i h->(∀b o,b≠it->h.get? b=some o->h'.get? b=some o)->P i h')
  (step:∀(i:Nat) (hi:i<ps.length) (s:Shared) (Q:Unit->Shared->Prop) (E:Value->Shared->Prop),P i s.heap->(∀h' tk,P (i+1) h'->Heap.SameBut d s.heap h'->Q () { s with heap:=h',toks:=tk })->wpAny (model prog w) A.in1 (dictSet d ps[i].1 ps[i].2) Q E s)
  (hl:Ts.length=ps.length) (n1:l≠it) (n2:d≠it) (n3:l≠d) (nT:∀T∈Ts,T≠it/\T≠d):
  ∀(n i:Nat) (s:Shared),n=ps.length-i->i<=ps.length->s.heap.IsListIter it l i->s.heap.IsList l (Ts.map Value.ref).toArray->(∀(i:Nat) (h1:i<Ts.length) (h2:i<ps.length),zq s.heap Ts[i] ps[i].1 ps[i].2)->P i s.heap->
   (∀s':Shared,s'.os=s.os->s'.gens=s.gens->s'.drawn=s.drawn->P ps.length s'.heap->(∀c o,c≠it->c≠d->s.heap.get? c=some o->s'.heap.get? c=some o)->R (.ok (.ret .none)) s')->
   ∀tk:Nat,codeAny (model prog w) A (.builtin "dict.update.loop" ⟨[.ref d,.ref it,rawInt tk,.none],[]⟩) R s:=by
 intro n
 induction n with
 |zero=>
  intro i s hn hi hit hls _ hP hR tk;have hin:i=ps.length:=by lia
  refine codeAny_builtin bL ?_;rw [Around.under_plainId aL _];show wpAny _ A.in1 (pyNext (.ref it) >>= _) _ _ s;refine wpAny_bind (wpAny_pyNext_list_end (A:=A.in1) hh hit hls (by simp;lia) fun h' hk'=>?_)
  refine wpAny_bind (m:=Builtin.Dict.addKeywords d []) (wpAny_pure (wpAny_pure (hR _ rfl rfl rfl ?_ fun c o c1 c2 e=>hk' c o c1 e)));rw [<- hin];exact stay i _ _ hP fun b o hb e=>hk' b o hb e
 |succ n ih=>
  intro i s hn hi hit hls hpr hP hR tk;have hlt:i<ps.length:=by lia
  have hlT:i<Ts.length:=by lia
  refine codeAny_builtin bL ?_;rw [Around.under_plainId aL _];show wpAny _ A.in1 (pyNext (.ref it) >>= _) _ _ s;refine wpAny_bind (wpAny_pyNext_list_item (x:=.ref Ts[i]) hit hls (by simp [hlT]) fun h' hit' sb=>?_)
  obtain ⟨nTi,nTd⟩:=nT Ts[i] (List.getElem_mem hlT);have k1:∀b o,b≠it->s.heap.get? b=some o->h'.get? b=some o:=fun b o hb e=>sb.extBut b o hb e;obtain ⟨oT,m,e1,e2,e3⟩:=hpr i hlT hlt;have e1':=k1 _ _ nTi e1;have hTy:({ s with heap:=h' }:Shared).TypeIs (.ref Ts[i]) "tuple":=⟨_,e1',e2⟩;refine wpAny_bind (wpAny_holding (wpAny_bind (wpAny_tryCatch ?_)));unfold Builtin.Dict.pairItems;refine wpAny_bind (wpAny_typeOf hTy ?_);rw [if_pos (by decide)]
  refine wpAny_bind (wpAny_seqItems (s:={ s with heap:=h' }) e1' e3 (wpAny_pure ?_));show wpAny _ _ (holding [ps[i].1,ps[i].2] (dictSet d ps[i].1 ps[i].2)) _ _ _;refine wpAny_holding (step i hlt { s with heap:=h' } _ _ (stay i _ _ hP k1) fun h'' tk2 hP' hs''=>?_);have k2:∀b o,b≠it->b≠d->s.heap.get? b=some o->h''.get? b=some o:=fun b o hb hd e=>hs''.extBut b o hd (k1 b o hb e);refine wpAny_pure ⟨plainId_quiet aL _,?_⟩;refine ih (i+1) { s with heap:=h'',toks:=tk2 } (by lia) hlt (hit'.at fun o e=>hs''.extBut _ o n2.symm e) ?_ (fun j h1 h2=>?_) hP' (fun s' q1 q2 q3 q4 q5=>hR s' q1 q2 q3 q4 fun c o c1 c2 e=>q5 c o c1 c2 (k2 c o c1 c2 e)) (tk+1)
  ·obtain ⟨o,z1,z2⟩:=hls
   exact ⟨o,k2 _ _ n1 n3 z1,z2⟩
  ·obtain ⟨o,m,z1,z2⟩:=hpr j h1 h2
   obtain ⟨q1,q2⟩:=nT Ts[j] (List.getElem_mem h1);exact ⟨o,m,k2 _ _ q1 q2 z1,z2⟩
theorem sY{prog:Program}{w:World}{A:Around}{E:Value->Shared->Prop}{s:Shared}{l:Addr}{m:Nat}{ps:List (Value×Value)}{Ts:List Addr}{Q:Value->Shared->Prop}(hh:A.handled=none)(P:Nat->Heap->Prop)
  (h0:∀h',(∀b o,s.heap.get? b=some o->h'.get? b=some o)->h'.get? s.heap.objs.size=some { cls:=.type "dict",data:=.dict #[] }->P 0 h')
  (stay:∀i h h',P i h->(∀b o,b<=s.heap.objs.size->h.get? b=some o->h'.get? b=some o)->P i h')
  (step:∀(i:Nat) (hi:i<ps.length) (s':Shared) (Q:Unit->Shared->Prop) (E:Value->Shared->Prop),P i s'.heap->(∀h' tk,P (i+1) h'->Heap.SameBut s.heap.objs.size s'.heap h'->Q () { s' with heap:=h',toks:=tk })->wpAny (model prog w) A.in1.in1 (dictSet s.heap.objs.size ps[i].1 ps[i].2) Q E s')
  (hl:Ts.length=ps.length) (hls:yY s.heap l (Ts.map Value.ref).toArray m) (hpr:∀(i:Nat) (h1:i<Ts.length) (h2:i<ps.length),zq s.heap Ts[i] ps[i].1 ps[i].2)
  (h:∀s':Shared,s'.os=s.os->s'.gens=s.gens->s'.drawn=s.drawn->P ps.length s'.heap->(∀c o,s.heap.get? c=some o->s'.heap.get? c=some o)->Q (.ref s.heap.objs.size) s'):
  wpAny (model prog w) A (call (.type "dict") [.ref l]) Q E s:=by
 refine callType_codes (Q₁:=fun obj s₁=>obj=.ref s.heap.objs.size/\s₁={ s with heap:=s.heap.push { cls:=.type "dict",data:=.dict #[] } }) L2.F.called_dict (L2.F.typeCall_dict_1 _) PySem.F.entry_dict_init (fu _ ⟨rfl,rfl⟩) ?_
 rintro obj s₁ ⟨rfl,rfl⟩
 have up:∀c o,s.heap.get? c=some o->(s.heap.push { cls:=.type "dict",data:=.dict #[] }).get? c=some o:=fun c o e=>Heap.get?_push_of_some _ e;have lt:∀{c o},s.heap.get? c=some o->c<s.heap.objs.size:=fun e=>Heap.lt_size e;have hnew:(s.heap.push { cls:=.type "dict",data:=.dict #[] }).get? s.heap.objs.size=some { cls:=.type "dict",data:=.dict #[] }:=Heap.get?_push_size _ rfl;have hTd:({ s with heap:=s.heap.push { cls:=.type "dict",data:=.dict #[] } }:Shared).TypeIs (.ref s.heap.objs.size) "dict":=⟨_,hnew,rfl⟩;refine ⟨hTd,PySem.F.args_dict_init_2 _ _,?_⟩;unfold Builtin.«dict.__init__» Builtin.Dict.selfAndRest;refine wpAny_bind (wpAny_bind (wpAny_notOrdered_dict hTd (wpAny_pure ?_)));show wpAny _ _ (Builtin.Dict.updateFrom "dict.__init__" s.heap.objs.size (.ref l) [] .none) _ _ _;unfold Builtin.Dict.updateFrom;refine wpAny_bind (wpAny_typeOf (T:="list") ⟨_,up _ _ hls,rfl⟩ ?_);rw [if_pos (by decide)]
 refine wpAny_bind (ja (s:={ s with heap:=s.heap.push { cls:=.type "dict",data:=.dict #[] } }) (up _ _ hls) hh fun h₁ tk₁ hk₁=>?_);rw [if_pos (show (none:Option Value).isNone=true from rfl)];have up1:∀c o,s.heap.get? c=some o->h₁.get? c=some o:=fun c o e=>hk₁ c o (up c o e);have isl:h₁.IsList l (Ts.map Value.ref).toArray:=⟨_,up1 _ _ hls,rfl,m,rfl⟩;refine wpAny_bind (wpAny_rule (wpAny_bind (wpAny_pyIter_list (s:={ s with heap:=h₁,toks:=tk₁ }) isl (wpAny_pure ⟨plainId_quiet aL _,?_⟩))));have hd1:=hk₁ _ _ hnew;have dlt:s.heap.objs.size<h₁.objs.size:=Heap.lt_size hd1;have up2:∀c o,h₁.get? c=some o->(h₁.push { cls:=.type "list_iterator",data:=.fields #[.ref l,.int 0 0] }).get? c=some o:=fun c o e=>Heap.get?_push_of_some _ e;have ltn:∀{c o},s.heap.get? c=some o->c≠h₁.objs.size/\c≠s.heap.objs.size:=fun {c o} e=>⟨Nat.ne_of_lt (Nat.lt_trans (lt e) dlt),Nat.ne_of_lt (lt e)⟩;refine u4 (A:=A.in1) (l:=l) (it:=h₁.objs.size) (d:=s.heap.objs.size) (ps:=ps) (Ts:=Ts) hh P (fun i h h' hP hk=>stay i h h' hP fun b o hb e=>hk b o (Nat.ne_of_lt (Nat.lt_of_le_of_lt hb dlt)) e) step hl (ltn hls).1 (Nat.ne_of_lt dlt) (ltn hls).2 (fun T hT=>?_) ps.length 0 { s with heap:=h₁.push { cls:=.type "list_iterator",data:=.fields #[.ref l,.int 0 0] },toks:=tk₁ } (by simp) (Nat.zero_le _) ⟨_,Heap.get?_push_size _ rfl,rfl,rfl⟩ ?_ (fun i h1 h2=>?_) (h0 _ (fun b o e=>up2 b o (up1 b o e)) (up2 _ _ hd1)) (fun s' q1 q2 q3 q4 q5=>?_) 0
 ·obtain ⟨i,hi,rfl⟩:=List.mem_iff_getElem.mp hT
  obtain ⟨o,n,e,_⟩:=hpr i hi (by lia)
  exact ltn e
 ·obtain ⟨o,z1,z2⟩:=isl
  exact ⟨o,up2 _ _ z1,z2⟩
 ·obtain ⟨o,n,e,r⟩:=hpr i h1 h2
  exact ⟨o,n,up2 _ _ (up1 _ _ e),r⟩
 ·exact ⟨rfl,h s' q1 q2 q3 q4 fun c o e=>q5 c o (ltn e).1 (ltn e).2 (up2 _ _ (up1 _ _ e))⟩
end LS
namespace L2
open PySem PySem.Spec PyProof.Rows LS
inductive PrT(H:Hp):List V->List (List au×V)->Prop
 |nil:PrT H [] []
 |cons {T b:Addr} {k:List au} {x:V} {vs:List V} {kvs:List (List au×V)} (hT:H T=some (.tup [.ref b,x])) (hb:H b=some (.tup (k.map kV))) (r:PrT H vs kvs):PrT H (.ref T::vs) ((k,x)::kvs)
section
variable {X:Cx}{pins:List (Addr×Obj)}{σ:St}{H:Hp}{s:Shared}
theorem Inv.pair{T:Addr}{y x:V}(I:Inv X pins σ H s)(h:H T=some (.tup [y,x])):∃k v,RelV y k/\RelV x v/\zq s.heap T k v:=by
 obtain ⟨_,its,r,o,e,⟨c,n,d⟩,_⟩:=(show ObjOk X.prog X.w H s.heap T (.tup [y,x]) from I.hok T _ h);obtain ⟨k,v,rfl,r1,r2⟩:=r.two;exact ⟨k,v,r1,r2,o,n,e,c,d⟩
theorem Inv.prT(I:Inv X pins σ H s):∀{vs:List V} {kvs:List (List au×V)},PrT H vs kvs->∃(Ts:List Addr) (rs:List (List au×Addr×Value)),vs=Ts.map V.ref/\KT H kvs rs/\Ts.length=rs.length/\∀(i:Nat) (h1:i<Ts.length) (h2:i<rs.length),zq s.heap Ts[i] (.ref rs[i].2.1) rs[i].2.2
 |_,_,.nil=>⟨[],[],rfl,.nil,rfl,fun i h=>absurd h (Nat.not_lt_zero _)⟩
 |_,_,.cons (T:=T) (b:=b) (k:=k) hT hb r=>by
  obtain ⟨Ts,rs,rfl,q,hl,hp⟩:=I.prT r;obtain ⟨kk,v,r1,r2,p⟩:=I.pair hT;cases r1;refine ⟨T::Ts,(k,b,v)::rs,rfl,.cons ⟨rfl,hb,r2⟩ q,by simp [hl],fun i h1 h2=>?_⟩
  cases i with
  |zero=>exact p
  |succ i=>exact hp i (by simpa using h1) (by simpa using h2)
theorem nD{xs:List (List au×Addr×Value)}{k:List au}{b:Addr}{u:Value}:(storedH xs k b u).length<=xs.length+1:=by
 unfold storedH
 split
 ·rw [List.length_map];lia
 ·simp
theorem gQ:∀(rs xs:List (List au×Addr×Value)),(rs.foldl (fun a r=>storedH a r.1 r.2.1 r.2.2) xs).length<=xs.length+rs.length
 |[],xs=>by simp
 |r::rs,xs=>by
  have:=gQ rs (storedH xs r.1 r.2.1 r.2.2);have:=nD (xs:=xs) (k:=r.1) (b:=r.2.1) (u:=r.2.2);rw [List.foldl_cons,List.length_cons];lia
theorem sF:∀{kvs:List (List au×V)} {rs:List (List au×Addr×Value)},KT H kvs rs->∀{a:List (List au×V)} {xs:List (List au×Addr×Value)},KT H a xs->KT H (kvs.foldl (fun a p=>cF a p.1 p.2) a) (rs.foldl (fun a r=>storedH a r.1 r.2.1 r.2.2) xs)
 |_,_,.nil,a,xs,h=>h
 |_,_,.cons (a:=p) (b:=q) h t,a,xs,h0=>by
  rw [List.foldl_cons,List.foldl_cons];refine sF t ?_;rw [<- h.1];exact h0.put p.1 h.2.1 h.2.2
theorem Inv.ls{l:Addr}{vs:List V}(I:Inv X pins σ H s)(e:Rd H l (.lst vs)):∃its n,Vals vs its/\yY s.heap l its.toArray n:=by
 obtain ⟨_,its,n,r,q⟩:=(show ObjOk X.prog X.w H s.heap l (.lst vs) from e.ok I.hok);exact ⟨its,n,r,q⟩
theorem kF:∀{Ts:List Addr} {its:List Value},Vals (Ts.map V.ref) its->its=Ts.map Value.ref
 |[],_,h=>by cases h;rfl
 |T::Ts,_,h=>by
  cases h with
  |cons r t=>
   have r':_=Value.ref T:=r;rw [r',kF t];rfl
theorem qK(hc:X.calm=true)(hu:X.A.units+2<cLine):bX X (.type "dict") (fun xs H Q=>∃l vs kvs,xs=[.ref l]/\Rd H l (.lst vs)/\PrT H vs kvs/\kvs.length<=1000000/\∀p,H p=none->Q (.ref p) (upd H p (.dT (kvs.foldl (fun a p=>cF a p.1 p.2) [])))):=by
 intro pins s σ H xs us Q I r h;obtain ⟨l,vs,kvs,rfl,hl,pr,hz,q⟩:=h;obtain ⟨u,rfl,ru⟩:=r.one;cases ru;obtain ⟨Ts,rs,rfl,kt,hlen,hpr⟩:=I.prT pr;obtain ⟨its,n,rv,hls⟩:=I.ls hl;have:=kF rv;subst this;have hrl:rs.length<=1000000:=by rw [<- Paired.length kt];exact hz
 have hkeys:∀x∈rs,(tupleKind (aO X.prog X.w)).is s.heap x.1 x.2.1:=by
  have all:∀{a:List (List au×V)} {m:List (List au×Addr×Value)},KT H a m->∀x∈m,(tupleKind (aO X.prog X.w)).is s.heap x.1 x.2.1:=by
   intro a m q
   induction q with
   |nil=>intro x hx;exact nomatch hx
   |@cons p q ps qs hq t ih=>
    intro x hx;rcases List.mem_cons.mp hx with e|hx
    ·subst e;exact eI I.hok (by rw [<- hq.1];exact hq.2.1)
    ·exact ih x hx
  exact all kt
 have is_keep:∀{h h':Heap} {k:List au} {a:Addr},(tupleKind (aO X.prog X.w)).is h k a->(∀o,h.get? a=some o->h'.get? a=some o)->(tupleKind (aO X.prog X.w)).is h' k a:=fun {h h' k a} z hk=>by
  obtain ⟨o,its,n,e,r⟩:=z;exact ⟨o,its,n,hk o e,r⟩
 have klt:∀x∈rs,x.2.1<s.heap.objs.size:=fun x hx=>by
  obtain ⟨o,_,_,e,_⟩:=hkeys x hx;exact Heap.lt_size e
 refine sY (ps:=rs.map fun r=>(Value.ref r.2.1,r.2.2)) (Ts:=Ts) (I.ok.hd hc) (fun i h=>h.DictOfH (tupleKind (aO X.prog X.w)) s.heap.objs.size ((rs.take i).foldl (fun a r=>storedH a r.1 r.2.1 r.2.2) [])/\∀x∈rs,(tupleKind (aO X.prog X.w)).is h x.1 x.2.1) ?_ ?_ ?_ (by simp [hlen]) hls (fun i h1 h2=>?_) ?_
 ·intro h' hk hd
  exact ⟨⟨_,#[],0,hd,⟨rfl,rfl,rfl⟩,rfl,rfl,fun _ hx=>by simp at hx,List.nodup_nil⟩,fun x hx=>is_keep (hkeys x hx) fun o e=>hk _ o e⟩
 ·rintro i h h' ⟨⟨o,es,ep,e1,e2,e3,e4,e5,e6⟩,hk⟩ hk'
  have hk2:∀x∈rs,(tupleKind (aO X.prog X.w)).is h' x.1 x.2.1:=fun x hx=>is_keep (hk x hx) fun o e=>hk' _ o (Nat.le_of_lt (klt x hx)) e;refine ⟨⟨o,es,ep,hk' _ o (Nat.le_refl _) e1,e2,e3,e4,fun x hx=>is_keep (e5 x hx) fun o e=>hk' _ o ?_ e,e6⟩,hk2⟩;have sub:∀(ys zs:List (List au×Addr×Value)) (x:List au×Addr×Value),x∈ys.foldl (fun a r=>storedH a r.1 r.2.1 r.2.2) zs->(∃y∈ys,y.2.1=x.2.1)\/∃y∈zs,y.2.1=x.2.1:=by
   intro ys
   induction ys with
   |nil=>intro zs x hx;exact .inr ⟨x,hx,rfl⟩
   |cons y ys ih=>
    intro zs x hx;rcases ih _ x hx with ⟨z,hz,e⟩|⟨z,hz,e⟩
    ·exact .inl ⟨z,List.mem_cons_of_mem _ hz,e⟩
    ·replace hz:z∈storedH zs y.1 y.2.1 y.2.2:=hz
     unfold storedH at hz
     split at hz
     ·obtain ⟨z',hz',rfl⟩:=List.mem_map.mp hz
      refine .inr ⟨z',hz',?_⟩;rw [<- e];unfold putAt;split<;>rfl
     ·rcases List.mem_append.mp hz with hz|hz
      ·exact .inr ⟨z,hz,e⟩
      ·rw [List.mem_singleton] at hz;subst hz;exact .inl ⟨y,by simp,e⟩
  rcases sub _ _ x hx with ⟨y,hy,e⟩|⟨y,hy,_⟩
  ·rw [<- e];exact Nat.le_of_lt (klt y (List.mem_of_mem_take hy))
  ·cases hy
 ·rintro i hi s' Q' E' ⟨hd,hk⟩ hQ
  have hi':i<rs.length:=by simpa using hi
  simp only [List.getElem_map];have hlen':((rs.take i).foldl (fun a r=>storedH a r.1 r.2.1 r.2.2) ([]:List (List au×Addr×Value))).length<=sizeLine:=by
   have:=gQ (rs.take i) [];have h2:(1000000:Nat)<=sizeLine:=by decide
   simp only [List.length_nil,List.length_take] at this;lia
  refine wpAny_dictSet_heap (knd:=tupleKind (aO X.prog X.w)) (show X.A.units+1+1<cLine from hu) (hk rs[i] (List.getElem_mem hi')) hd (fun h' hd' sb=>hQ h' _ ⟨?_,fun x hx=>?_⟩ sb) hlen'
  ·rw [List.take_succ_eq_append_getElem hi',List.foldl_append]
   exact hd'
  ·exact is_keep (hk x hx) fun o e=>sb.extBut _ o (Nat.ne_of_lt (klt x hx)) e
 ·have h2':i<rs.length:=by simpa using h2
  simp only [List.getElem_map];exact hpr i h1 h2'
 ·rintro s' o1 o2 o3 ⟨hd,_⟩ hk
  simp only [List.length_map,List.take_length] at hd;have hbig:=I.big;have hn:H s.heap.objs.size=none:=I.hok.fresh (Nat.le_refl _);obtain ⟨hh',g',d',t',os'⟩:=s';obtain rfl:os'=s.os:=o1;obtain rfl:g'=s.gens:=o2;obtain rfl:d'=s.drawn:=o3;have ktf:=sF kt (H:=H) (a:=[]) (xs:=[]) .nil;obtain ⟨o,es,ep,e1,e2,e3,e4,e5,e6⟩:=hd;refine ⟨.ref s.heap.objs.size,_,I.laid (a:=s.heap.objs.size) (o:=.dT (kvs.foldl (fun a p=>cF a p.1 p.2) [])) (t':=t') hk (Nat.le_refl _) ⟨?_,beq_eq_false_iff_ne.mpr (Nat.ne_of_gt hbig),_,ktf.keeps fun b ys e=>by rw [upd_ne (a_ e hn)];exact e,o,es,ep,e1,e2,e3,e4,e6⟩,rfl,q _ hn⟩
  rw [Paired.length ktf];have:=gQ rs [];have h2:(1000000:Nat)<=sizeLine:=by decide
  simp only [List.length_nil] at this;lia
end
end L2
namespace L3
open PySem L2 LS
section
variable {X:Cx}{B:Bd}{K:W.Frag}{H:Hp}
def u0:List D->Option (List (List au×D))
 |[]=>some []
 |.tup [k,v]::ds=>match kT k,u0 ds with
  |some ks,some r=>some ((ks,v)::r)
  |_,_=>none
 |_=>none
theorem v9:∀{ds:List D} {vs:List V} {kvs:List (List au×D)},Rps K H ds vs->u0 ds=some kvs->∃ws,PrT H vs ws/\Rkv K H kvs ws
 |[],vs,kvs,r,e=>by cases e;cases r;exact ⟨[],.nil,.nil⟩
 |d::ds,vs,kvs,r,e=>by
  obtain ⟨v,r',rfl,a,b⟩:=r;unfold u0 at e
  split at e
  ·rename_i h;cases h
  ·rename_i k x ds' h
   cases h
   split at e
   ·rename_i ks q e1 e2
    cases e;obtain ⟨ws,h1,h2⟩:=v9 b e2;obtain ⟨T,us,rfl,hT,ru⟩:=a;obtain ⟨u1,us',rfl,ru1,ru2⟩:=ru;obtain ⟨u2,us'',rfl,ru2,ru3⟩:=ru2;cases ru3;obtain ⟨bb,rfl,hb⟩:=jL ru1 e1;exact ⟨(ks,u2)::ws,.cons hT hb h1,.cons ⟨rfl,ru2⟩ h2⟩
   ·cases e
  ·cases e
theorem ny{κ:Type}[DecidableEq κ]:∀{a:List (κ×D)} {b:List (κ×V)},Rkv K H a b->∀{a0:List (κ×D)} {b0:List (κ×V)},Rkv K H a0 b0->Rkv K H (a.foldl (fun x p=>di x p.1 p.2) a0) (b.foldl (fun x p=>cF x p.1 p.2) b0)
 |_,_,.nil,a0,b0,h=>h
 |_,_,.cons (a:=p) (b:=q) h t,a0,b0,h0=>by
  rw [List.foldl_cons,List.foldl_cons];refine ny t ?_;rw [<- h.1];exact h0.put p.1 h.2
theorem yo{M:Mem}{d:D}{v:V}{xs:List D}(rh:RepH K H M)(r:Rp K H d v)(e:seqL M d=some xs)(hm:∀ys,d≠.ml ys):∃l vs,v=.ref l/\Rd H l (.lst vs)/\Rps K H xs vs:=by
 cases d with
 |lst ys=>
  cases e;obtain ⟨p,vs,rfl,⟨o,h⟩,r⟩:=r;exact ⟨p,vs,rfl,.inr ⟨o,h⟩,r⟩
 |ml ys=>exact absurd rfl (hm ys)
 |ref a=>
  simp only [seqL] at e
  split at e
  ·rename_i ys q
   cases e;cases r;obtain ⟨vs,h1,h2⟩:=rh _ _ q;exact ⟨a,vs,rfl,.inl h1,h2⟩
  ·cases e
 |_=>cases e
def AQ:D->Bool
 |.ml _=>false
 |_=>true
theorem y3{d:D}(h:AQ d=true):∀ys,d≠.ml ys:=fun ys e=>by subst e;cases h
def kS:pi:=fun ds M Q=>match ds with
 |[d]=>AQ d=true/\match seqL M d with
  |some xs=>match u0 xs with
   |some kvs=>kvs.length<=1000000/\∀p,M p=none->Q (.ref p) (M.upd p (.dT (kvs.foldl (fun a p=>di a p.1 p.2) [])))
   |none=>False
  |none=>False
 |_=>False
theorem nJ(hc:X.calm=true)(hu:X.A.units+64<cLine):bX X (.type "dict") (liftC X kS):=by
 intro pins s σ H xs us Q I r h;obtain ⟨ds,M,QQ,rh,rp,h,up⟩:=h;unfold kS at h
 split at h
 ·obtain ⟨v,rfl,rv⟩:=eP (ds:=[]) rp
  obtain ⟨hm,h⟩:=h
  split at h
  ·rename_i ys e
   split at h
   ·rename_i kvs e2
    obtain ⟨l,vs,rfl,hq,rr⟩:=yo rh rv e (y3 hm);obtain ⟨ws,h1,h2⟩:=v9 rr e2;refine qK hc (by lia) pins s σ H _ us Q I r ⟨l,vs,ws,rfl,hq,h1,by rw [<- h2.length];exact h.1,fun p hp=>?_⟩
    exact up _ _ (h.2 p (rh.fresh hp)) _ _ (rh.put (by rw [hp];trivial) ⟨_,upd_same,(ny h2 .nil).mono (Imm.new hp)⟩) (Frm.put (.inl hp)) rfl
   ·exact h.elim
  ·exact h.elim
 ·exact h.elim
def Cg(M:Mem):D->Bool
 |.ref a=>match M a with
  |some (.dK _)=>true
  |some (.dT _)=>true
  |_=>false
 |_=>false
def uT(td ty:bH):bH:=fun δ M Q=>td δ M fun x M1=>Cg M1 x=true/\ty δ M1 fun y M2=>match x with
 |.ref a=>match kb M2 a y with
  |some (some v)=>Q v M2
  |some none=>Q .non M2
  |none=>False
 |_=>False
def wJ(td ty tx:bH):bH:=fun δ M Q=>td δ M fun x M1=>Cg M1 x=true/\ty δ M1 fun y M2=>tx δ M2 fun z M3=>match x with
 |.ref a=>match kb M3 a y with
  |some (some v)=>Q v M3
  |some none=>Q z M3
  |none=>False
 |_=>False
theorem uF{M:Mem}{x:D}{v:V}(rh:RepH K H M)(r:Rp K H x v)(e:Cg M x=true):∃a,x=.ref a/\v=.ref a/\IsD H a:=by
 cases x with
 |ref a=>
  cases r;refine ⟨a,rfl,rfl,?_⟩;simp only [Cg] at e
  split at e
  ·rename_i q;obtain ⟨ws,h1,_⟩:=rh _ _ q;exact .inl ⟨ws,.inl h1⟩
  ·rename_i q;obtain ⟨ws,h1,_⟩:=rh _ _ q;exact .inr ⟨ws,.inl h1⟩
  ·cases e
 |_=>cases e
theorem za{o e:Expr}{to te:bH}{apos cpos:Pos}(hu:X.A.units+64<cLine)(ho:DE X B o to)(he:DE X B e te)(m:M1 X o "get" apos e cpos):DE X B (.Call (.Attribute o "get" apos) [e] [] cpos) (uT to te):=by
 refine aU (vY (by lia) ho he m) ?_
 rintro σ H Q ⟨δ,M,QQ,s,h,u⟩
 refine ⟨δ,M,_,s,h,fun x M1 h1 v1 H1 rh1 i1 r1=>?_⟩;obtain ⟨a,rfl,rfl,hd⟩:=uF rh1 r1 h1.1;refine ⟨a,rfl,hd,δ,M1,_,s.go rh1 i1,h1.2,fun y M2 h2 v2 H2 rh2 i2 r2=>?_⟩;dsimp only at h2
 split at h2
 ·rename_i d e
  rcases dL rh2 r2 e with ⟨q,_⟩|⟨d',w,q,g,rw'⟩
  ·cases q
  ·cases q
   exact ⟨_,g,u _ M2 h2 _ H2 rh2 (i1.trans i2) rw'⟩
 ·rename_i e
  rcases dL rh2 r2 e with ⟨_,g⟩|⟨d',w,q,g,rw'⟩
  ·exact ⟨_,g,u _ M2 h2 _ H2 rh2 (i1.trans i2) rfl⟩
  ·cases q
 ·exact h2.elim
theorem zf{o e f:Expr}{to te tf:bH}{apos cpos:Pos}(hu:X.A.units+64<cLine)(ho:DE X B o to)(he:DE X B e te)(hf:DE X B f tf)(m:M2 X o "get" apos e f cpos):DE X B (.Call (.Attribute o "get" apos) [e,f] [] cpos) (wJ to te tf):=by
 refine aU (vq (by lia) ho he hf m) ?_
 rintro σ H Q ⟨δ,M,QQ,s,h,u⟩
 refine ⟨δ,M,_,s,h,fun x M1 h1 v1 H1 rh1 i1 r1=>?_⟩;obtain ⟨a,rfl,rfl,hd⟩:=uF rh1 r1 h1.1;refine ⟨a,rfl,hd,δ,M1,_,s.go rh1 i1,h1.2,fun y M2 h2 v2 H2 rh2 i2 r2=>?_⟩;refine ⟨δ,M2,_,(s.go rh1 i1).go rh2 i2,h2,fun z M3 h3 v3 H3 rh3 i3 r3=>?_⟩;dsimp only at h3;have r2':=r2.mf rh2 i3
 split at h3
 ·rename_i d e
  rcases dL rh3 r2' e with ⟨q,_⟩|⟨d',w,q,g,rw'⟩
  ·cases q
  ·cases q
   exact ⟨_,g,u _ M3 h3 _ H3 rh3 ((i1.trans i2).trans i3) rw'⟩
 ·rename_i e
  rcases dL rh3 r2' e with ⟨_,g⟩|⟨d',w,q,g,rw'⟩
  ·exact ⟨_,g,u _ M3 h3 _ H3 rh3 ((i1.trans i2).trans i3) r3⟩
  ·cases q
 ·exact h3.elim
end
end L3
namespace LS
open PySem PySem.W PySem.Calls PyProof.Rows PyProof.V PySem.Spec L2
theorem xZ{prog:Program}{w:World}{A:Around}{E:Value->Shared->Prop}{s:Shared}{d:Addr}{o:Obj}{es:Array DictEntry}{ep:Nat}{Q:Value->Shared->Prop}(hd:(d==sysModules)=false)(ho:s.heap.get? d=some o)(hc:o.ExactDict)(hdat:o.data=.dict es ep)(hfit:(es.size:Int)<2 ^ 63)
  (h:Q (.int es.size (s.toks+1)) { s with toks:=s.toks+1+1 }):wpAny (model prog w) A (call (.builtin "len") [.ref d]) Q E s:=by
 have hT:s.TypeIs (.ref d) "dict":=⟨o,ho,hc.1⟩;refine Calls.call_function_entry kind_len plain_len entry_len (args_len1 _) ?_;unfold Builtin.«len»;refine wpAny_bind (m:=oneArg "len" _) (wpAny_pure (wpAny_bind (m:=callSpecial? (.ref d) (Str.ofString "__len__")) (wpAny_callSpecial?_slot (name:=Str.ofString "__len__") hT PySem.F.slot_dict_len (wpAny_call_entry PySem.F.slot_dict_len hT PySem.F.entry_dict_len ?_ (PySem.F.args_dict_len_1 _)))));show wpAny _ _ (dictSize d >>= _) _ _ s;unfold dictSize;refine wpAny_bind (wpAny_bind (wpAny_dictEntries ho hdat (wpAny_pure ?_)));show wpAny _ _ (Builtin.Dict.pendingCount d >>= _) _ _ s;refine wpAny_bind (wpAny_pendingCount_other hd (wpAny_ret_mkInt ?_));rw [Int.natCast_zero,Int.add_zero];show wpAny _ _ _ _ _ { s with toks:=s.toks+1 };refine wpAny_bind (wpAny_holding (wpAny_pure ?_));refine wpAny_bind (wpAny_letGo ?_);show wpAny _ _ (if ((es.size:Nat):Int)<0 then _ else _) _ _ _
 rw [if_neg (by lia)]
 show wpAny _ _ (if ((es.size:Nat):Int)>=2 ^ 63 then _ else _) _ _ _
 rw [if_neg (by lia)]
 exact wpAny_bind (wpAny_mkInt (wpAny_pure ⟨_,rfl,h⟩))
end LS
namespace L3
open PySem L2 LS
section
variable {X:Cx}{B:Bd}
def rg:pi:=fun ds M Q=>match ds with
 |[.ref a]=>match M a with
  |some (.dT kvs)=>Q (.int kvs.length) M
  |_=>False
 |_=>False
theorem pL:bX X (.builtin "len") (liftC X rg):=by
 intro pins s σ H xs us Q I r h;obtain ⟨ds,M,QQ,rh,rp,h,up⟩:=h;unfold rg at h
 split at h
 ·rename_i a
  obtain ⟨v,rfl,rv⟩:=eP (ds:=[]) rp;cases rv
  split at h
  ·rename_i kvs e
   obtain ⟨u,rfl,ru⟩:=r.one;cases ru;obtain ⟨ws,h1,h2⟩:=rh _ _ e;obtain ⟨z,y,xs,rr,o,es,ep,g1,g2,g3,g4,g5⟩:=(show ObjOk X.prog X.w H s.heap a (.dT ws) from I.hok a _ h1);have hs:es.size=kvs.length:=by rw [<- Array.length_toList,g4,List.length_map,<- Paired.length rr,<- h2.length]
   refine xZ y g1 g2 g3 ?_ ?_
   ·rw [hs,h2.length];rw [sizeLine_eq] at z;lia
   ·rw [hs]
    exact ⟨.int kvs.length,H,I.tok _,⟨_,rfl⟩,up _ M h _ H rh Frm.refl rfl⟩
  ·exact h.elim
 ·exact h.elim
end
end L3
namespace L3
open PySem PySem.W PySem.Calls PyProof.Rows PyProof.V PySem.Spec L2
section
variable {X:Cx}{B:Bd}{pins:List (Addr×Obj)}{σ:L2.St}{H:Hp}{s:Shared}{M:Mem}
end
end L3
namespace L3
open PySem L2 LS
section
variable {X:Cx}{B:Bd}
def jG(t:fo):bH:=fun δ M Q=>t δ M fun ds M1=>match ds with
 |[d]=>match seqL M1 d with
  |some xs=>match dj xs with
   |some ss=>ss.length<4000/\Q (.int ((ka [] ss).length:Nat)) M1
   |none=>False
  |none=>False
 |_=>False
def wc(K:W.Frag)(t:TA):TE:=fun σ H Q=>t σ H fun vs H1=>∃(l:Addr) (ss:List Str),vs=[.ref l]/\SqL K H1 l (ss.map V.str)/\ss.length<4000/\Q (.int ((ka [] ss).length:Nat)) H1
theorem qc{e:Expr}{t:TA}{p p2 pos pos2:Pos}(hc:X.calm=true)(hg:Gl X "set")(hm:X.mg "set"=none)(hg2:Gl X "len")(hm2:X.mg "len"=none)(ha:PA X [e] t)
  (hs:starEach [e] X.env=[(false,eval e X.env)]:=by rfl) (hs3:starEach [Expr.Call (.Name "set" p2) [e] [] pos2] X.env=[(false,eval (.Call (.Name "set" p2) [e] [] pos2) X.env)]:=by rfl):
  PE X (.Call (.Name "len" p) [.Call (.Name "set" p2) [e] [] pos2] [] pos) (wc X.K t):=by
 intro pins s σ H Q I h;refine wpAny_Call_Name_kw (ld_blt I hg2 hm2 bt_len2 (PyProof.Rows.callWith_builtin1 ?_ hs3 rfl));rw [hs3];show wpAny _ _ (spliced ((false,_)::backTo pos [])) _ _ s;refine Calls.spliced_cons ?_;refine wpAny_Call_Name_kw (ld_blt I hg hm yU (PyProof.Rows.callWith_type1 (thn (ha pos2 pins s σ H _ I h) fun us s1 ⟨vs,H1,I1,r1,q1⟩=>?_) hs rfl));obtain ⟨l,ss,rfl,hq,h64,q⟩:=q1;obtain ⟨u,rfl,ru⟩:=fT r1;cases ru;obtain ⟨its,rv,pl,hz⟩:=I1.list hq;have hlen:=rv.length;rw [List.length_map] at hlen;have sa:=nj rv;have hh:=I1.ok.hd hc;refine uO (knd:=strKind X.prog X.w) (ks:=ss) hh pl.isList (by simp;lia) (fun i v hv=>?_) (Nat.lt_of_le_of_lt (Nat.succ_le_of_lt h64) (by decide)) fun h2 tk H2 k2=>?_
 ·rw [List.getElem?_toArray] at hv
  obtain ⟨x,t',e1,e2⟩:=uW sa i v hv;subst e2;exact ⟨x,e1,by simp [strKind,Value.isStrOf],rfl⟩
 refine Calls.spliced_nil ?_;refine uw (s:={ s1 with heap:=h2,toks:=tk }) H2 fun t2 tk2=>?_;exact ⟨.int _,H1,I1.kept (t':=tk2) k2,⟨_,rfl⟩,q⟩
theorem qI{e:Expr}{t:fo}{p p2 pos pos2:Pos}(hc:X.calm=true)(hg:Gl X "set")(hm:X.mg "set"=none)(hg2:Gl X "len")(hm2:X.mg "len"=none)(ha:DA X B [e] t)
  (hs:starEach [e] X.env=[(false,eval e X.env)]:=by rfl) (hs3:starEach [Expr.Call (.Name "set" p2) [e] [] pos2] X.env=[(false,eval (.Call (.Name "set" p2) [e] [] pos2) X.env)]:=by rfl):
  DE X B (.Call (.Name "len" p) [.Call (.Name "set" p2) [e] [] pos2] [] pos) (jG t):=by
 refine aU (qc hc hg hm hg2 hm2 ha hs hs3) ?_
 rintro σ H Q ⟨δ,M,QQ,s,h,u⟩
 refine ⟨δ,M,_,s,h,fun ds M1 h1 vs H1 rh1 i1 r1=>?_⟩
 split at h1
 ·obtain ⟨v,rfl,rv⟩:=eP (ds:=[]) r1
  split at h1
  ·rename_i ys ey
   obtain ⟨q,vs,rfl,hq,rr⟩:=cS rh1 rv ey
   split at h1
   ·rename_i ss es
    have:=jP rr es;subst this;exact ⟨q,ss,rfl,.inl hq,h1.1,u _ _ h1.2 _ H1 rh1 i1 rfl⟩
   ·exact h1.elim
  ·exact h1.elim
 ·exact h1.elim
end
end L3
namespace Tw
open PySem L2 L3
def dU(i:Nat):Stmt:=PySem.Challenge.pw_twinstride_k64_whole_causes_of_several_t.main.body.getD i (.Pass ⟨0,0,0,0⟩)
abbrev C9:Stmt:=eW (dU 5) 0
abbrev BX:Stmt:=eW (dU 5) 1
abbrev vM:Stmt:=eW (dU 5) 2
abbrev wL:Stmt:=dU 6
abbrev x6:Stmt:=dU 7
abbrev ub:Stmt:=dU 8
abbrev vk:Stmt:=dU 9
abbrev uX:Stmt:=dU 10
abbrev vZ:Stmt:=dU 11
abbrev wU:Stmt:=dU 12
abbrev Bt:Stmt:=dU 13
abbrev wK:Stmt:=dU 14
abbrev u8:Stmt:=dU 16
abbrev vV:Stmt:=dU 17
abbrev vI:Stmt:=dU 18
abbrev wI:Stmt:=dU 19
abbrev wo:Stmt:=dU 21
abbrev vR:Stmt:=dU 23
abbrev wT:Stmt:=dU 24
abbrev wN:Stmt:=dU 25
abbrev x8:Stmt:=dU 26
abbrev AK:Stmt:=dU 27
abbrev uy:Stmt:=dU 28
abbrev AA:Stmt:=eW (dU 30) 0
abbrev B6:Stmt:=eW (dU 30) 1
abbrev Ao:Stmt:=eW (dU 30) 2
abbrev wz:Stmt:=dU 31
abbrev wu:Stmt:=dU 32
abbrev vn:Stmt:=dU 33
abbrev Bz:Stmt:=dU 34
abbrev AO:Stmt:=dU 35
abbrev A1:Stmt:=dU 36
abbrev uV:Stmt:=dU 37
abbrev vT:Stmt:=dU 38
abbrev vL:Stmt:=dU 40
abbrev vO:Stmt:=dU 41
abbrev vF:Stmt:=dU 42
abbrev eA:Stmt:=dU 43
theorem DN:FnScope ["self","plan","stand","most"] ["self","plan","stand","most"] (ar C9):=⟨rfl,rfl,rfl,by decide +kernel,rfl,by decide +kernel,by decide +kernel⟩
theorem Dh:FnScope ["self","place","number"] ["self","place","number"] (ar BX):=⟨rfl,rfl,rfl,by decide +kernel,rfl,by decide +kernel,by decide +kernel⟩
theorem sc_q18:FnScope ["self","place","name","seen"] ["self","place","name"] (ar vM):=⟨rfl,rfl,rfl,by decide +kernel,rfl,by decide +kernel,by decide +kernel⟩
theorem sc_q36:FnScope ["plan","stand","most","walk"] ["plan","stand","most"] (ar wL):=⟨rfl,rfl,rfl,by decide +kernel,rfl,by decide +kernel,by decide +kernel⟩
theorem sc_q35:FnScope ["plan","stand","most","end"] ["plan","stand","most"] (ar x6):=⟨rfl,rfl,rfl,by decide +kernel,rfl,by decide +kernel,by decide +kernel⟩
theorem sc_q24:FnScope ["walk","rows","place","j","row"] ["walk","rows","place"] (ar ub):=⟨rfl,rfl,rfl,by decide +kernel,rfl,by decide +kernel,by decide +kernel⟩
theorem sc_q32:FnScope ["walk","row","place","number"] ["walk","row","place"] (ar vk):=⟨rfl,rfl,rfl,by decide +kernel,rfl,by decide +kernel,by decide +kernel⟩
theorem sc_q33:FnScope ["walk","row","place","seen"] ["walk","row","place"] (ar uX):=⟨rfl,rfl,rfl,by decide +kernel,rfl,by decide +kernel,by decide +kernel⟩
theorem sc_q22:FnScope ["walk","row","place","turn"] ["walk","row","place"] (ar vZ):=⟨rfl,rfl,rfl,by decide +kernel,rfl,by decide +kernel,by decide +kernel⟩
theorem sc_q13:FnScope ["plan","numbers","pieces","row","piece"] ["plan","numbers","pieces","row"] (ar wU):=⟨rfl,rfl,rfl,by decide +kernel,rfl,by decide +kernel,by decide +kernel⟩
theorem Ej:FnScope ["plan","numbers","row"] ["plan","numbers","row"] (ar Bt):=⟨rfl,rfl,rfl,by decide +kernel,rfl,by decide +kernel,by decide +kernel⟩
theorem Br:FnScope ["word","y","z","wheel"] ["word","y","z","wheel"] (ar wK):=⟨rfl,rfl,rfl,by decide +kernel,rfl,by decide +kernel,by decide +kernel⟩
theorem Au:FnScope ["plan"] ["plan"] (ar u8):=⟨rfl,rfl,rfl,by decide +kernel,rfl,by decide +kernel,by decide +kernel⟩
theorem Ba:FnScope ["plan","stand","thing"] ["plan","stand","thing"] (ar vV):=⟨rfl,rfl,rfl,by decide +kernel,rfl,by decide +kernel,by decide +kernel⟩
theorem Bj:FnScope ["thing","told"] ["thing","told"] (ar vI):=⟨rfl,rfl,rfl,by decide +kernel,rfl,by decide +kernel,by decide +kernel⟩
theorem AI:FnScope ["things","told"] ["things","told"] (ar wI):=⟨rfl,rfl,rfl,by decide +kernel,rfl,by decide +kernel,by decide +kernel⟩
theorem Aj:FnScope ["plan","one","other"] ["plan","one","other"] (ar wo):=⟨rfl,rfl,rfl,by decide +kernel,rfl,by decide +kernel,by decide +kernel⟩
theorem sc_q34:FnScope ["case","sound","faulty"] ["case"] (ar vR):=⟨rfl,rfl,rfl,by decide +kernel,rfl,by decide +kernel,by decide +kernel⟩
theorem C7:FnScope ["case"] ["case"] (ar wT):=⟨rfl,rfl,rfl,by decide +kernel,rfl,by decide +kernel,by decide +kernel⟩
theorem Aq:FnScope ["things","thing"] ["things","thing"] (ar wN):=⟨rfl,rfl,rfl,by decide +kernel,rfl,by decide +kernel,by decide +kernel⟩
theorem sc_q23:FnScope ["case","mix","names","pieces"] ["case","mix"] (ar x8):=⟨rfl,rfl,rfl,by decide +kernel,rfl,by decide +kernel,by decide +kernel⟩
theorem CA:FnScope ["case","mix","thing"] ["case","mix","thing"] (ar AK):=⟨rfl,rfl,rfl,by decide +kernel,rfl,by decide +kernel,by decide +kernel⟩
theorem BD:FnScope ["two","one"] ["two","one"] (ar uy):=⟨rfl,rfl,rfl,by decide +kernel,rfl,by decide +kernel,by decide +kernel⟩
theorem Ef:FnScope ["self","case"] ["self","case"] (ar AA):=⟨rfl,rfl,rfl,by decide +kernel,rfl,by decide +kernel,by decide +kernel⟩
theorem Cw:FnScope ["self","mix"] ["self","mix"] (ar B6):=⟨rfl,rfl,rfl,by decide +kernel,rfl,by decide +kernel,by decide +kernel⟩
theorem Eb:FnScope ["self","mix"] ["self","mix"] (ar Ao):=⟨rfl,rfl,rfl,by decide +kernel,rfl,by decide +kernel,by decide +kernel⟩
theorem sc_q21:FnScope ["case","askings","things","cause"] ["case"] (ar wz):=⟨rfl,rfl,rfl,by decide +kernel,rfl,by decide +kernel,by decide +kernel⟩
theorem sc_q29:FnScope ["askings","cause","middle"] ["askings","cause"] (ar wu):=⟨rfl,rfl,rfl,by decide +kernel,rfl,by decide +kernel,by decide +kernel⟩
theorem sc_q26:FnScope ["askings","cause","at","staying","less"] ["askings","cause"] (ar vn):=⟨rfl,rfl,rfl,by decide +kernel,rfl,by decide +kernel,by decide +kernel⟩
theorem CM:FnScope ["mix"] ["mix"] (ar Bz):=⟨rfl,rfl,rfl,by decide +kernel,rfl,by decide +kernel,by decide +kernel⟩
theorem sc_q7:FnScope ["case","thing","askings","things","told"] ["case","thing"] (ar AO):=⟨rfl,rfl,rfl,by decide +kernel,rfl,by decide +kernel,by decide +kernel⟩
theorem Cu:FnScope ["things","thing"] ["things","thing"] (ar A1):=⟨rfl,rfl,rfl,by decide +kernel,rfl,by decide +kernel,by decide +kernel⟩
theorem BT:FnScope ["things","thing"] ["things","thing"] (ar uV):=⟨rfl,rfl,rfl,by decide +kernel,rfl,by decide +kernel,by decide +kernel⟩
theorem sc_q25:FnScope ["case","mix","askings"] ["case","mix"] (ar vT):=⟨rfl,rfl,rfl,by decide +kernel,rfl,by decide +kernel,by decide +kernel⟩
theorem B7:FnScope ["_law_script"] ["_law_script"] (ar vL):=⟨rfl,rfl,rfl,by decide +kernel,rfl,by decide +kernel,by decide +kernel⟩
theorem sc_q15:FnScope ["_law_tape_here","_law_many","_law_digit","_law_at","_law_cell","_law_mixed"] ["_law_tape_here","_law_many"] (ar vO):=⟨rfl,rfl,rfl,by decide +kernel,rfl,by decide +kernel,by decide +kernel⟩
theorem sc_q11:FnScope ["_law_tape_here","_law_wheel","_law_many","_law_goals","_law_k","_law_piece","_law_rows","_law_faulty","_law_plan_here"] ["_law_tape_here"] (ar vF):=⟨rfl,rfl,rfl,by decide +kernel,rfl,by decide +kernel,by decide +kernel⟩
theorem sc_law:FnScope ["_law_script","_law_tape_here","_law_case_here","_law_goals","_law_many","_law_askings","_law_cause","_law_mixes","_law_others","_law_more"] ["_law_script"] (ar eA):=⟨rfl,rfl,rfl,by decide +kernel,rfl,by decide +kernel,by decide +kernel⟩
end Tw
namespace Tw
open PySem L2 L3
set_option genInjectivity false in
structure Ad where
 C_Askings:Addr
 C_Walk:Addr
 C_Dry:Addr
 C_NoCase:Addr
 a_q4:Addr
 d_q4:FuncData
 a_q3:Addr
 d_q3:FuncData
 a_q18:Addr
 d_q18:FuncData
 a_q36:Addr
 d_q36:FuncData
 a_q35:Addr
 d_q35:FuncData
 a_q24:Addr
 d_q24:FuncData
 a_q32:Addr
 d_q32:FuncData
 a_q33:Addr
 d_q33:FuncData
 a_q22:Addr
 d_q22:FuncData
 a_q13:Addr
 d_q13:FuncData
 a_q9:Addr
 d_q9:FuncData
 a_q30:Addr
 d_q30:FuncData
 a_q10:Addr
 d_q10:FuncData
 a_q17:Addr
 d_q17:FuncData
 a_q27:Addr
 d_q27:FuncData
 a_q20:Addr
 d_q20:FuncData
 a_q28:Addr
 d_q28:FuncData
 a_q34:Addr
 d_q34:FuncData
 a_q19:Addr
 d_q19:FuncData
 a_q31:Addr
 d_q31:FuncData
 a_q23:Addr
 d_q23:FuncData
 a_q5:Addr
 d_q5:FuncData
 a_q12:Addr
 d_q12:FuncData
 a_q2:Addr
 d_q2:FuncData
 a_q8:Addr
 d_q8:FuncData
 a_q1:Addr
 d_q1:FuncData
 a_q21:Addr
 d_q21:FuncData
 a_q29:Addr
 d_q29:FuncData
 a_q26:Addr
 d_q26:FuncData
 a_q6:Addr
 d_q6:FuncData
 a_q7:Addr
 d_q7:FuncData
 a_q0:Addr
 d_q0:FuncData
 a_q16:Addr
 d_q16:FuncData
 a_q25:Addr
 d_q25:FuncData
 a_q14:Addr
 d_q14:FuncData
 a_q15:Addr
 d_q15:FuncData
 a_q11:Addr
 d_q11:FuncData
 a_law:Addr
 d_law:FuncData
def B1(ad:Ad)(EE:DX):aI:=
 (aB (gm ad.C_Walk (aa 0) (aa 3) "most")
  (gm ad.C_Walk (aa 0) (mC dNil) "steps"))
def B2(ad:Ad)(EE:DX):aI:=
 (aB (gm ad.C_Walk (aa 0) (az bz (aa 2) (dC (.int 1))) "pieces")
  (B1 ad EE))
def Ay(ad:Ad)(EE:DX):aI:=
 (aB (gm ad.C_Walk (aa 0) (mZ (a9 (az bz (aa 1) (dC (.int 1))) (a9 (az bz (aa 2) (dC (.int 0))) dNil))) "numbers")
  (B2 ad EE))
def vb(ad:Ad)(EE:DX):aI:=
 (aB (gm ad.C_Walk (aa 0) (aa 1) "plan")
  (Ay ad EE))
def yT(ad:Ad):Sd:=bg ["self","plan","stand","most"] (vb ad)
theorem u_q4{ad:Ad}{n:Nat}{x0 x1 x2 x3:D}{M:Mem}{Q:DK}{E:DX}:yT ad [x0,x1,x2,x3] M Q E=vb ad (aS E) { nx:=fun _ M'=>drp Q .non M',rt:=drp Q } [some x0,some x1,some x2,some x3] M:=rfl
def Bk(ad:Ad)(EE:DX):aI:=
 (cI (Cd "list" eV (cU ad.C_Walk (aa 0) "steps") (a9 (bV (a9 (aa 1) (a9 (aa 2) dNil))) dNil)))
def uH(ad:Ad)(EE:DX):aI:=
 (aB (bC (aE (az oGe (bR cG (a9 (cU ad.C_Walk (aa 0) "steps") dNil)) (cU ad.C_Walk (aa 0) "most"))) (lg ad.C_Dry EE) bf)
  (Bk ad EE))
def qB(ad:Ad):Sd:=bg ["self","place","number"] (uH ad)
theorem u_q3{ad:Ad}{n:Nat}{x0 x1 x2:D}{M:Mem}{Q:DK}{E:DX}:qB ad [x0,x1,x2] M Q E=uH ad (aS E) { nx:=fun _ M'=>drp Q .non M',rt:=drp Q } [some x0,some x1,some x2] M:=rfl
def y2(ad:Ad)(EE:DX):aI:=
 (aB (cI (ck ad.C_Walk "note_step" (qB ad) EE 3 (aa 0) (a9 (aa 1) (a9 (aa 3) dNil))))
  (aX (aa 3)))
def mT(ad:Ad)(EE:DX):aI:=
 (aB (bd (Cc (aE (az gz (az bz (cU ad.C_Walk (aa 0) "numbers") (aa 2)) (dC (.int 0)))) (dC (.int 0)) (dC (.int 1))) (ao 3))
  (y2 ad EE))
def ke(ad:Ad):Sd:=bg ["self","place","name","seen"] (mT ad)
theorem Ck{ad:Ad}{n:Nat}{x0 x1 x2:D}{M:Mem}{Q:DK}{E:DX}:ke ad [x0,x1,x2] M Q E=mT ad (aS E) { nx:=fun _ M'=>drp Q .non M',rt:=drp Q } [some x0,some x1,some x2,none] M:=rfl
def xA(ad:Ad)(EE:DX):aI:=
 (aX (az gT (ax (az cA (aa 1) (aa 2))) (aa 3)))
def yM(ad:Ad)(EE:DX):aI:=
 (aX (Cc (aE (az Cj (aa 1) (aa 2))) (dC (.int 1)) (dC (.int 0))))
def y4(ad:Ad)(EE:DX):aI:=
 (aX (Cc (aE (az gz (aa 1) (aa 2))) (dC (.int 1)) (dC (.int 0))))
def xI(ad:Ad)(EE:DX):aI:=
 (aB (bC (aE (az gz (aa 0) (dC (.str "less")))) (yM ad EE) bf)
  (y4 ad EE))
def ya(ad:Ad)(EE:DX):aI:=
 (aB (bC (aE (az gz (aa 0) (dC (.str "by")))) (aX (az gT (az ii (aa 1) (aa 2)) (aa 3))) bf)
  (xI ad EE))
def oj(ad:Ad)(EE:DX):aI:=
 (aB (bC (aE (az gz (aa 0) (dC (.str "sum")))) (xA ad EE) bf)
  (ya ad EE))
def so(ad:Ad):Sd:=bg ["word","y","z","wheel"] (oj ad)
theorem CU{ad:Ad}{n:Nat}{x0 x1 x2 x3:D}{M:Mem}{Q:DK}{E:DX}:so ad [x0,x1,x2,x3] M Q E=oj ad (aS E) { nx:=fun _ M'=>drp Q .non M',rt:=drp Q } [some x0,some x1,some x2,some x3] M:=rfl
def Aa(ad:Ad)(EE:DX):aI:=
 (aX (az gT (az bz (aa 1) (az bz (aa 2) (dC (.int 2)))) (az bz (aa 0) (dC (.int 2)))))
def AV(ad:Ad)(EE:DX):aI:=
 (aB (bC (aE (az gz (az bz (aa 2) (dC (.int 0))) (dC (.str "pick")))) (Aa ad EE) bf)
  (aX (dC .non)))
def nL(ad:Ad)(EE:DX):aI:=
 (aB (bC (aE (az gz (az bz (aa 2) (dC (.int 0))) (dC (.str "take")))) (aX (az bz (aa 2) (dC (.int 2)))) bf)
  (AV ad EE))
def xF(ad:Ad):Sd:=bg ["plan","numbers","row"] (nL ad)
theorem xQ{ad:Ad}{n:Nat}{x0 x1 x2:D}{M:Mem}{Q:DK}{E:DX}:xF ad [x0,x1,x2] M Q E=nL ad (aS E) { nx:=fun _ M'=>drp Q .non M',rt:=drp Q } [some x0,some x1,some x2] M:=rfl
def yk(ad:Ad)(EE:DX):aI:=
 (aX (aC (so ad) EE 4 (a9 (az bz (aa 3) (dC (.int 0))) (a9 (az bz (aa 1) (az bz (aa 3) (dC (.int 2)))) (a9 (az bz (aa 1) (az bz (aa 3) (dC (.int 3)))) (a9 (az bz (aa 0) (dC (.int 0))) dNil))))))
def xY(ad:Ad)(EE:DX):aI:=
 (aB (bC (aE (az uD (aa 4) (dC .non))) (aX (az bz (aa 2) (aa 4))) bf)
  (yk ad EE))
def zg(ad:Ad)(EE:DX):aI:=
 (aB (bd (ax (aC (xF ad) EE 3 (a9 (aa 0) (a9 (aa 1) (a9 (aa 3) dNil))))) (ao 4))
  (xY ad EE))
def ib(ad:Ad)(EE:DX):aI:=
 (aB (bC (aE (az gz (az bz (aa 3) (dC (.int 0))) (dC (.str "put")))) (aX (az bz (aa 3) (dC (.int 2)))) bf)
  (zg ad EE))
def oa(ad:Ad):Sd:=bg ["plan","numbers","pieces","row","piece"] (ib ad)
theorem sy{ad:Ad}{n:Nat}{x0 x1 x2 x3:D}{M:Mem}{Q:DK}{E:DX}:oa ad [x0,x1,x2,x3] M Q E=ib ad (aS E) { nx:=fun _ M'=>drp Q .non M',rt:=drp Q } [some x0,some x1,some x2,some x3,none] M:=rfl
def yx(ad:Ad)(S_q24 S_q32 S_q33 S_q22:Sd)(EE:DX):aI:=
 (cI (aC S_q32 EE 3 (a9 (aa 0) (a9 (aa 4) (a9 (az cA (aa 2) (bV (a9 (aa 3) dNil))) dNil)))))
def T_q24(ad:Ad)(S_q24 S_q32 S_q33 S_q22:Sd)(EE:DX):aI:=
 (dFor (zL (a9 (aa 1) dNil)) (d_ 2 (bD (ao 3) (bD (ao 4) dZ))) (yx ad S_q24 S_q32 S_q33 S_q22 EE))
def zy(ad:Ad)(S_q24 S_q32 S_q33 S_q22:Sd)(EE:DX):aI:=
 (cI (aC S_q33 EE 3 (a9 (aa 0) (a9 (aa 1) (a9 (aa 2) dNil)))))
def xn(ad:Ad)(S_q24 S_q32 S_q33 S_q22:Sd)(EE:DX):aI:=
 (cI (aC S_q22 EE 3 (a9 (aa 0) (a9 (aa 1) (a9 (aa 2) dNil)))))
def yZ(ad:Ad)(S_q24 S_q32 S_q33 S_q22:Sd)(EE:DX):aI:=
 (bd (aa 3) (oE (cU ad.C_Walk (aa 0) "numbers") (az bz (aa 1) (dC (.int 1)))))
def zh(ad:Ad)(S_q24 S_q32 S_q33 S_q22:Sd)(EE:DX):aI:=
 (aB (cI (ck ad.C_Walk "note_step" (qB ad) EE 3 (aa 0) (a9 (aa 2) (a9 (aa 3) dNil))))
    (yZ ad S_q24 S_q32 S_q33 S_q22 EE))
def yy(ad:Ad)(S_q24 S_q32 S_q33 S_q22:Sd)(EE:DX):aI:=
 (aB (bd (ax (aC (oa ad) EE 4 (a9 (cU ad.C_Walk (aa 0) "plan") (a9 (cU ad.C_Walk (aa 0) "numbers") (a9 (cU ad.C_Walk (aa 0) "pieces") (a9 (aa 1) dNil)))))) (ao 3))
    (zh ad S_q24 S_q32 S_q33 S_q22 EE))
def xN(ad:Ad)(S_q24 S_q32 S_q33 S_q22:Sd)(EE:DX):aI:=
 (bC (aE (az gz (az bz (aa 1) (dC (.int 0))) (dC (.str "again")))) (xn ad S_q24 S_q32 S_q33 S_q22 EE) (yy ad S_q24 S_q32 S_q33 S_q22 EE))
def fq(ad:Ad)(S_q24 S_q32 S_q33 S_q22:Sd)(EE:DX):aI:=
 (bC (aE (az gz (az bz (aa 1) (dC (.int 0))) (dC (.str "if")))) (zy ad S_q24 S_q32 S_q33 S_q22 EE) (xN ad S_q24 S_q32 S_q33 S_q22 EE))
def z9(ad:Ad)(S_q24 S_q32 S_q33 S_q22:Sd)(EE:DX):aI:=
 (cI (aC S_q24 EE 3 (a9 (aa 0) (a9 (Cc (aE (az gz (aa 3) (dC (.int 1)))) (az bz (aa 1) (dC (.int 2))) (az bz (aa 1) (dC (.int 3)))) (a9 (az cA (aa 2) (bV (a9 (aa 3) dNil))) dNil)))))
def T_q33(ad:Ad)(S_q24 S_q32 S_q33 S_q22:Sd)(EE:DX):aI:=
 (aB (bd (ax (ck ad.C_Walk "look" (ke ad) EE 3 (aa 0) (a9 (aa 2) (a9 (az bz (aa 1) (dC (.int 1))) dNil)))) (ao 3))
  (z9 ad S_q24 S_q32 S_q33 S_q22 EE))
def yR(ad:Ad)(S_q24 S_q32 S_q33 S_q22:Sd)(EE:DX):aI:=
 (aB (cI (aC S_q24 EE 3 (a9 (aa 0) (a9 (az bz (aa 1) (dC (.int 2))) (a9 (az cA (aa 2) (bV (a9 (aa 3) dNil))) dNil)))))
   (sJ 3 (dC (.int 1)) nP))
def yg(ad:Ad)(S_q24 S_q32 S_q33 S_q22:Sd)(EE:DX):aI:=
 (dWhile (aE (az gz (ax (ck ad.C_Walk "look" (ke ad) EE 3 (aa 0) (a9 (az cA (aa 2) (bV (a9 (aa 3) dNil))) (a9 (az bz (aa 1) (dC (.int 1))) dNil)))) (dC (.int 1)))) (yR ad S_q24 S_q32 S_q33 S_q22 EE))
def T_q22(ad:Ad)(S_q24 S_q32 S_q33 S_q22:Sd)(EE:DX):aI:=
 (aB (bd (dC (.int 0)) (ao 3))
  (yg ad S_q24 S_q32 S_q33 S_q22 EE))
mutual
def S_q24(ad:Ad):Nat->Sd
 |0=>fun _ _ _ _=>False
 |n+1=>bg ["walk","rows","place","j","row"] (T_q24 ad (S_q24 ad n) (S_q32 ad n) (S_q33 ad n) (S_q22 ad n))
def S_q32(ad:Ad):Nat->Sd
 |0=>fun _ _ _ _=>False
 |n+1=>bg ["walk","row","place","number"] (fq ad (S_q24 ad n) (S_q32 ad n) (S_q33 ad n) (S_q22 ad n))
def S_q33(ad:Ad):Nat->Sd
 |0=>fun _ _ _ _=>False
 |n+1=>bg ["walk","row","place","seen"] (T_q33 ad (S_q24 ad n) (S_q32 ad n) (S_q33 ad n) (S_q22 ad n))
def S_q22(ad:Ad):Nat->Sd
 |0=>fun _ _ _ _=>False
 |n+1=>bg ["walk","row","place","turn"] (T_q22 ad (S_q24 ad n) (S_q32 ad n) (S_q33 ad n) (S_q22 ad n))
end
theorem u_q24{ad:Ad}{n:Nat}{x0 x1 x2:D}{M:Mem}{Q:DK}{E:DX}:S_q24 ad (n+1) [x0,x1,x2] M Q E=T_q24 ad (S_q24 ad n) (S_q32 ad n) (S_q33 ad n) (S_q22 ad n) (aS E) { nx:=fun _ M'=>drp Q .non M',rt:=drp Q } [some x0,some x1,some x2,none,none] M:=rfl
theorem kL{ad:Ad}{n:Nat}{x0 x1 x2:D}{M:Mem}{Q:DK}{E:DX}:S_q32 ad (n+1) [x0,x1,x2] M Q E=fq ad (S_q24 ad n) (S_q32 ad n) (S_q33 ad n) (S_q22 ad n) (aS E) { nx:=fun _ M'=>drp Q .non M',rt:=drp Q } [some x0,some x1,some x2,none] M:=rfl
theorem u_q33{ad:Ad}{n:Nat}{x0 x1 x2:D}{M:Mem}{Q:DK}{E:DX}:S_q33 ad (n+1) [x0,x1,x2] M Q E=T_q33 ad (S_q24 ad n) (S_q32 ad n) (S_q33 ad n) (S_q22 ad n) (aS E) { nx:=fun _ M'=>drp Q .non M',rt:=drp Q } [some x0,some x1,some x2,none] M:=rfl
theorem u_q22{ad:Ad}{n:Nat}{x0 x1 x2:D}{M:Mem}{Q:DK}{E:DX}:S_q22 ad (n+1) [x0,x1,x2] M Q E=T_q22 ad (S_q24 ad n) (S_q32 ad n) (S_q33 ad n) (S_q22 ad n) (aS E) { nx:=fun _ M'=>drp Q .non M',rt:=drp Q } [some x0,some x1,some x2,none] M:=rfl
def xC(ad:Ad)(EE:DX):aI:=
 (aX (bV (a9 (cU ad.C_Walk (aa 3) "steps") (a9 (bR cTuple (a9 (ax (bq (dh (az bz (aa 0) (dC (.int 1)))) ["name"] [3] (ao 0) cv (az bz (cU ad.C_Walk (aa 1) "numbers") (aa 0)))) dNil)) dNil))))
def yr(ad:Ad)(EE:DX):aI:=
 (aB (Dd ad.C_Dry (S_q24 ad 24) 3 (a9 (aa 3) (a9 (az bz (aa 0) (dC (.int 3))) (a9 (bV dNil) dNil))) (aX (bV (a9 (cU ad.C_Walk (aa 3) "steps") (a9 (dC .non) dNil)))))
  (xC ad EE))
def o6(ad:Ad)(EE:DX):aI:=
 (aB (bd (oK ad.C_Walk (yT ad) EE 4 (a9 (aa 0) (a9 (aa 1) (a9 (aa 2) dNil)))) (ao 3))
  (yr ad EE))
def oF(ad:Ad):Sd:=bg ["plan","stand","most","walk"] (o6 ad)
theorem CW{ad:Ad}{n:Nat}{x0 x1 x2:D}{M:Mem}{Q:DK}{E:DX}:oF ad [x0,x1,x2] M Q E=o6 ad (aS E) { nx:=fun _ M'=>drp Q .non M',rt:=drp Q } [some x0,some x1,some x2,none] M:=rfl
def xK(ad:Ad)(EE:DX):aI:=
 (aX (az bz (aa 3) (dTM m7 (az bz (aa 0) (dC (.int 1))) (a9 (az bz (aa 0) (dC (.int 4))) dNil))))
def xO(ad:Ad)(EE:DX):aI:=
 (aB (bC (aE (az ue (aa 3) (dC .non))) (aX (dC .non)) bf)
  (xK ad EE))
def oy(ad:Ad)(EE:DX):aI:=
 (aB (bd (az bz (ko (aC (oF ad) EE 3 (a9 (aa 0) (a9 (aa 1) (a9 (aa 2) dNil))))) (dC (.int 1))) (ao 3))
  (xO ad EE))
def jw(ad:Ad):Sd:=bg ["plan","stand","most","end"] (oy ad)
theorem CN{ad:Ad}{n:Nat}{x0 x1 x2:D}{M:Mem}{Q:DK}{E:DX}:jw ad [x0,x1,x2] M Q E=oy ad (aS E) { nx:=fun _ M'=>drp Q .non M',rt:=drp Q } [some x0,some x1,some x2,none] M:=rfl
def nA(ad:Ad)(EE:DX):aI:=
 (aX (az cA (ax (bR jI (a9 (az bz (aa 0) (dC (.int 1))) dNil))) (ax (jv (a9 (az bz (aa 0) (dC (.int 2))) dNil)))))
def rT(ad:Ad):Sd:=bg ["plan"] (nA ad)
theorem CL{ad:Ad}{n:Nat}{x0:D}{M:Mem}{Q:DK}{E:DX}:rT ad [x0] M Q E=nA ad (aS E) { nx:=fun _ M'=>drp Q .non M',rt:=drp Q } [some x0] M:=rfl
def zc(ad:Ad)(EE:DX):aI:=
 (aX (az bz (az bz (aa 1) (dC (.int 0))) (dTM m7 (az bz (aa 0) (dC (.int 1))) (a9 (aa 2) dNil))))
def kf(ad:Ad)(EE:DX):aI:=
 (aB (bC (fi (bR dq (a9 (aa 2) (a9 (dC (.ty "str")) dNil)))) (zc ad EE) bf)
  (aX (az bz (az bz (aa 1) (dC (.int 1))) (aa 2))))
def kr(ad:Ad):Sd:=bg ["plan","stand","thing"] (kf ad)
theorem zP{ad:Ad}{n:Nat}{x0 x1 x2:D}{M:Mem}{Q:DK}{E:DX}:kr ad [x0,x1,x2] M Q E=kf ad (aS E) { nx:=fun _ M'=>drp Q .non M',rt:=drp Q } [some x0,some x1,some x2] M:=rfl
def mE(ad:Ad)(S_q27 S_q20:Sd)(EE:DX):aI:=
 (aX (hG (bR dq (a9 (aa 0) (a9 (dC (.ty "tuple")) dNil))) (ax (aC S_q20 EE 2 (a9 (aa 0) (a9 (aa 1) dNil))))))
def lP(ad:Ad)(S_q27 S_q20:Sd)(EE:DX):aI:=
 (aX (hG (bR dq (a9 (aa 0) (a9 (dC (.ty "list")) dNil))) (ax (aC S_q20 EE 2 (a9 (aa 0) (a9 (aa 1) dNil))))))
def li(ad:Ad)(S_q27 S_q20:Sd)(EE:DX):aI:=
 (aX (hG (az gz (bR dq (a9 (aa 0) (a9 (dC (.ty "bool")) dNil))) (bR dq (a9 (aa 1) (a9 (dC (.ty "bool")) dNil)))) (az gz (aa 0) (aa 1))))
def l_(ad:Ad)(S_q27 S_q20:Sd)(EE:DX):aI:=
 (aB (bC (fi (bR dq (a9 (aa 1) (a9 (dC (.ty "list")) dNil)))) (lP ad S_q27 S_q20 EE) bf)
  (li ad S_q27 S_q20 EE))
def kj(ad:Ad)(S_q27 S_q20:Sd)(EE:DX):aI:=
 (aB (bC (fi (bR dq (a9 (aa 1) (a9 (dC (.ty "tuple")) dNil)))) (mE ad S_q27 S_q20 EE) bf)
  (l_ ad S_q27 S_q20 EE))
def lw(ad:Ad)(S_q27 S_q20:Sd)(EE:DX):aI:=
 (aX (bR pV (a9 (ax (bq (BP (a9 (aa 0) (a9 (aa 1) dNil))) ["thing","one"] [] (d_ 2 (bD (ao 0) (bD (ao 1) dZ))) cv (ax (aC S_q27 kq 2 (a9 (aa 0) (a9 (aa 1) dNil)))))) dNil)))
def nE(ad:Ad)(S_q27 S_q20:Sd)(EE:DX):aI:=
 (aB (bC (aE (az zV (bR cG (a9 (aa 0) dNil)) (bR cG (a9 (aa 1) dNil)))) (aX (dC (.bl false))) bf)
  (lw ad S_q27 S_q20 EE))
mutual
def S_q27(ad:Ad):Nat->Sd
 |0=>fun _ _ _ _=>False
 |n+1=>bg ["thing","told"] (kj ad (S_q27 ad n) (S_q20 ad n))
def S_q20(ad:Ad):Nat->Sd
 |0=>fun _ _ _ _=>False
 |n+1=>bg ["things","told"] (nE ad (S_q27 ad n) (S_q20 ad n))
end
theorem zB{ad:Ad}{n:Nat}{x0 x1:D}{M:Mem}{Q:DK}{E:DX}:S_q27 ad (n+1) [x0,x1] M Q E=kj ad (S_q27 ad n) (S_q20 ad n) (aS E) { nx:=fun _ M'=>drp Q .non M',rt:=drp Q } [some x0,some x1] M:=rfl
theorem D_{ad:Ad}{n:Nat}{x0 x1:D}{M:Mem}{Q:DK}{E:DX}:S_q20 ad (n+1) [x0,x1] M Q E=nE ad (S_q27 ad n) (S_q20 ad n) (aS E) { nx:=fun _ M'=>drp Q .non M',rt:=drp Q } [some x0,some x1] M:=rfl
def ni(ad:Ad)(EE:DX):aI:=
 (aX (bq (dh (ax (aC (rT ad) EE 1 (a9 (aa 0) dNil)))) ["thing"] [0,2,1] (ao 0) (aE (az zV (ax (aC (kr ad) kq 3 (a9 (aa 1) (a9 (aa 3) (a9 (aa 0) dNil))))) (ax (aC (kr ad) kq 3 (a9 (aa 1) (a9 (aa 2) (a9 (aa 0) dNil))))))) (aa 0)))
def rL(ad:Ad):Sd:=bg ["plan","one","other"] (ni ad)
theorem Ek{ad:Ad}{n:Nat}{x0 x1 x2:D}{M:Mem}{Q:DK}{E:DX}:rL ad [x0,x1,x2] M Q E=ni ad (aS E) { nx:=fun _ M'=>drp Q .non M',rt:=drp Q } [some x0,some x1,some x2] M:=rfl
def qS(ad:Ad)(EE:DX):aI:=
 (aB (bC (aE (az gz (aa 1) (aa 2))) (lg ad.C_NoCase EE) bf)
  (aX (bV (a9 (aa 1) (a9 (aa 2) dNil)))))
def lC(ad:Ad)(EE:DX):aI:=
 (aB (bC (u6 (aE (az ue (aa 1) (dC .non))) (aE (az ue (aa 2) (dC .non)))) (lg ad.C_NoCase EE) bf)
  (qS ad EE))
def rq(ad:Ad)(EE:DX):aI:=
 (aB (bd (ax (aC (jw ad) EE 3 (a9 (az bz (aa 0) (dC (.int 0))) (a9 (az bz (aa 0) (dC (.int 2))) (a9 (az bz (aa 0) (dC (.int 3))) dNil))))) (ao 2))
  (lC ad EE))
def nU(ad:Ad)(EE:DX):aI:=
 (aB (bd (ax (aC (jw ad) EE 3 (a9 (az bz (aa 0) (dC (.int 0))) (a9 (az bz (aa 0) (dC (.int 1))) (a9 (az bz (aa 0) (dC (.int 3))) dNil))))) (ao 1))
  (rq ad EE))
def sh(ad:Ad):Sd:=bg ["case","sound","faulty"] (nU ad)
theorem Ed{ad:Ad}{n:Nat}{x0:D}{M:Mem}{Q:DK}{E:DX}:sh ad [x0] M Q E=nU ad (aS E) { nx:=fun _ M'=>drp Q .non M',rt:=drp Q } [some x0,none,none] M:=rfl
def oq(ad:Ad)(EE:DX):aI:=
 (aX (aC (rL ad) EE 3 (a9 (az bz (aa 0) (dC (.int 0))) (a9 (az bz (aa 0) (dC (.int 1))) (a9 (az bz (aa 0) (dC (.int 2))) dNil)))))
def oB(ad:Ad):Sd:=bg ["case"] (oq ad)
theorem CY{ad:Ad}{n:Nat}{x0:D}{M:Mem}{Q:DK}{E:DX}:oB ad [x0] M Q E=oq ad (aS E) { nx:=fun _ M'=>drp Q .non M',rt:=drp Q } [some x0] M:=rfl
def nS(ad:Ad)(EE:DX):aI:=
 (aX (hG (bR dq (a9 (aa 1) (a9 (dC (.ty "list")) dNil))) (ax (aC (S_q27 ad 24) EE 2 (a9 (aa 1) (a9 (ax (bq (dh (aa 0)) ["one"] [1] (ao 0) (aE (az xP (aa 0) (aa 1))) (aa 0))) dNil))))))
def n_(ad:Ad):Sd:=bg ["things","thing"] (nS ad)
theorem Cp{ad:Ad}{n:Nat}{x0 x1:D}{M:Mem}{Q:DK}{E:DX}:n_ ad [x0,x1] M Q E=nS ad (aS E) { nx:=fun _ M'=>drp Q .non M',rt:=drp Q } [some x0,some x1] M:=rfl
def vm(ad:Ad)(EE:DX):aI:=
 (aX (aC (kr ad) EE 3 (a9 (az bz (aa 0) (dC (.int 0))) (a9 (Cc (aE (az xP (aa 2) (aa 1))) (az bz (aa 0) (dC (.int 2))) (az bz (aa 0) (dC (.int 1)))) (a9 (aa 2) dNil)))))
def tj(ad:Ad):Sd:=bg ["case","mix","thing"] (vm ad)
theorem u_q5{ad:Ad}{n:Nat}{x0 x1 x2:D}{M:Mem}{Q:DK}{E:DX}:tj ad [x0,x1,x2] M Q E=vm ad (aS E) { nx:=fun _ M'=>drp Q .non M',rt:=drp Q } [some x0,some x1,some x2] M:=rfl
def iZ(ad:Ad)(EE:DX):aI:=
 (aX (bV (a9 (bR cTuple (a9 (ax (bq (dh (aa 2)) ["name"] [1,0] (ao 0) cv (ax (aC (tj ad) kq 3 (a9 (aa 2) (a9 (aa 1) (a9 (aa 0) dNil))))))) dNil)) (a9 (bR cTuple (a9 (ax (bq (dh (aa 3)) ["piece"] [1,0] (ao 0) cv (ax (aC (tj ad) kq 3 (a9 (aa 2) (a9 (aa 1) (a9 (aa 0) dNil))))))) dNil)) dNil))))
def rH(ad:Ad)(EE:DX):aI:=
 (aB (bd (ax (jv (a9 (az bz (az bz (aa 0) (dC (.int 0))) (dC (.int 2))) dNil))) (ao 3))
  (iZ ad EE))
def oW(ad:Ad)(EE:DX):aI:=
 (aB (bd (az bz (az bz (aa 0) (dC (.int 0))) (dC (.int 1))) (ao 2))
  (rH ad EE))
def rN(ad:Ad):Sd:=bg ["case","mix","names","pieces"] (oW ad)
theorem E7{ad:Ad}{n:Nat}{x0 x1:D}{M:Mem}{Q:DK}{E:DX}:rN ad [x0,x1] M Q E=oW ad (aS E) { nx:=fun _ M'=>drp Q .non M',rt:=drp Q } [some x0,some x1,none,none] M:=rfl
def xJ(ad:Ad)(EE:DX):aI:=
 (aB (bC (aE (az gz (aa 1) (az bz (aa 0) (dC (.int 1))))) (aX (dC (.str "faulty"))) bf)
  (aX (dC (.str "other"))))
def kI(ad:Ad)(EE:DX):aI:=
 (aB (bC (aE (az gz (aa 1) (az bz (aa 0) (dC (.int 0))))) (aX (dC (.str "sound"))) bf)
  (xJ ad EE))
def sv(ad:Ad):Sd:=bg ["two","one"] (kI ad)
theorem zM{ad:Ad}{n:Nat}{x0 x1:D}{M:Mem}{Q:DK}{E:DX}:sv ad [x0,x1] M Q E=kI ad (aS E) { nx:=fun _ M'=>drp Q .non M',rt:=drp Q } [some x0,some x1] M:=rfl
def vH(ad:Ad)(EE:DX):aI:=
 (aB (gm ad.C_Askings (aa 0) (ax (aC (sh ad) EE 1 (a9 (aa 1) dNil))) "two")
  (gm ad.C_Askings (aa 0) zR "told"))
def wt(ad:Ad)(EE:DX):aI:=
 (aB (gm ad.C_Askings (aa 0) (aa 1) "case")
  (vH ad EE))
def sS(ad:Ad):Sd:=bg ["self","case"] (wt ad)
theorem u_q2{ad:Ad}{n:Nat}{x0 x1:D}{M:Mem}{Q:DK}{E:DX}:sS ad [x0,x1] M Q E=wt ad (aS E) { nx:=fun _ M'=>drp Q .non M',rt:=drp Q } [some x0,some x1] M:=rfl
def qv(ad:Ad)(EE:DX):aI:=
 (bd (ax (aC (sv ad) EE 2 (a9 (cU ad.C_Askings (aa 0) "two") (a9 (ax (aC (jw ad) EE 3 (a9 (az bz (cU ad.C_Askings (aa 0) "case") (dC (.int 0))) (a9 (ax (aC (rN ad) EE 2 (a9 (cU ad.C_Askings (aa 0) "case") (a9 (aa 1) dNil)))) (a9 (az bz (cU ad.C_Askings (aa 0) "case") (dC (.int 3))) dNil))))) dNil)))) (oE (cU ad.C_Askings (aa 0) "told") (bR cTuple (a9 (aa 1) dNil))))
def kX(ad:Ad)(EE:DX):aI:=
 (aX (az bz (cU ad.C_Askings (aa 0) "told") (bR cTuple (a9 (aa 1) dNil))))
def uG(ad:Ad)(EE:DX):aI:=
 (aB (bC (aE (az eO (bR cTuple (a9 (aa 1) dNil)) (cU ad.C_Askings (aa 0) "told"))) (qv ad EE) bf)
  (kX ad EE))
def mj(ad:Ad):Sd:=bg ["self","mix"] (uG ad)
theorem u_q8{ad:Ad}{n:Nat}{x0 x1:D}{M:Mem}{Q:DK}{E:DX}:mj ad [x0,x1] M Q E=uG ad (aS E) { nx:=fun _ M'=>drp Q .non M',rt:=drp Q } [some x0,some x1] M:=rfl
def vd(ad:Ad)(EE:DX):aI:=
 (aX (az gz (ax (ck ad.C_Askings "ask" (mj ad) EE 2 (aa 0) (a9 (aa 1) dNil))) (dC (.str "faulty"))))
def iu(ad:Ad):Sd:=bg ["self","mix"] (vd ad)
theorem u_q1{ad:Ad}{n:Nat}{x0 x1:D}{M:Mem}{Q:DK}{E:DX}:iu ad [x0,x1] M Q E=vd ad (aS E) { nx:=fun _ M'=>drp Q .non M',rt:=drp Q } [some x0,some x1] M:=rfl
def mz(ad:Ad)(EE:DX):aI:=
 (bd (ax (r8 (aa 1) bU (d9 (aa 2)))) (ao 1))
def md(ad:Ad)(EE:DX):aI:=
 (bd (ax (r8 (aa 1) (d9 (aa 2)) bU)) (ao 1))
def lU(ad:Ad)(EE:DX):aI:=
 (bC (fi (ax (ck ad.C_Askings "is_cause" (iu ad) EE 2 (aa 0) (a9 (ax (r8 (aa 1) (d9 (aa 2)) bU)) dNil)))) (md ad EE) wG)
def rJ(ad:Ad)(EE:DX):aI:=
 (bC (fi (ax (ck ad.C_Askings "is_cause" (iu ad) EE 2 (aa 0) (a9 (ax (r8 (aa 1) bU (d9 (aa 2)))) dNil)))) (mz ad EE) (lU ad EE))
def iY(ad:Ad)(EE:DX):aI:=
 (aB (bd (az on (bR cG (a9 (aa 1) dNil)) (dC (.int 2))) (ao 2))
   (rJ ad EE))
def oG(ad:Ad)(EE:DX):aI:=
 (aB (dWhile (aE (az BK (bR cG (a9 (aa 1) dNil)) (dC (.int 1)))) (iY ad EE))
  (aX (aa 1)))
def rQ(ad:Ad):Sd:=bg ["askings","cause","middle"] (oG ad)
theorem CQ{ad:Ad}{n:Nat}{x0 x1:D}{M:Mem}{Q:DK}{E:DX}:rQ ad [x0,x1] M Q E=oG ad (aS E) { nx:=fun _ M'=>drp Q .non M',rt:=drp Q } [some x0,some x1,none] M:=rfl
def lF(ad:Ad)(EE:DX):aI:=
 (aB (bd (aa 4) (ao 1))
    (bd (dC (.int 0)) (ao 3)))
def mh(ad:Ad)(EE:DX):aI:=
 (aB (sJ 2 (dC (.int 1)) nP)
    (sJ 3 (dC (.int 1)) nP))
def lO(ad:Ad)(EE:DX):aI:=
 (bC (fi (ax (ck ad.C_Askings "is_cause" (iu ad) EE 2 (aa 0) (a9 (aa 4) dNil)))) (lF ad EE) (mh ad EE))
def rS(ad:Ad)(EE:DX):aI:=
 (aB (bd (ax (az cA (ax (r8 (aa 1) bU (d9 (aa 2)))) (ax (r8 (aa 1) (d9 (az cA (aa 2) (dC (.int 1)))) bU)))) (ao 4))
   (lO ad EE))
def iK(ad:Ad)(EE:DX):aI:=
 (aB (bd (az gT (aa 2) (bR cG (a9 (aa 1) dNil))) (ao 2))
   (rS ad EE))
def rB(ad:Ad)(EE:DX):aI:=
 (aB (dWhile (aE (az Cj (aa 3) (bR cG (a9 (aa 1) dNil)))) (iK ad EE))
  (aX (aa 1)))
def nh(ad:Ad)(EE:DX):aI:=
 (aB (bd (dC (.int 0)) (ao 2))
  (aB (bd (dC (.int 0)) (ao 3))
  (rB ad EE)))
def rG(ad:Ad):Sd:=bg ["askings","cause","at","staying","less"] (nh ad)
theorem Cy{ad:Ad}{n:Nat}{x0 x1:D}{M:Mem}{Q:DK}{E:DX}:rG ad [x0,x1] M Q E=nh ad (aS E) { nx:=fun _ M'=>drp Q .non M',rt:=drp Q } [some x0,some x1,none,none,none] M:=rfl
def lE(ad:Ad)(EE:DX):aI:=
 (aX (bV (a9 (bq (pZ (cU ad.C_Askings (aa 1) "told")) ["mix","told"] [] (d_ 2 (bD (ao 0) (bD (ao 1) dZ))) cv (bV (a9 (ax (bR jI (a9 (aa 0) dNil))) (a9 (aa 1) dNil)))) (a9 (aa 3) dNil))))
def rP(ad:Ad)(EE:DX):aI:=
 (aB (bd (ax (aC (rG ad) EE 2 (a9 (aa 1) (a9 (ax (aC (rQ ad) EE 2 (a9 (aa 1) (a9 (aa 2) dNil)))) dNil)))) (ao 3))
  (lE ad EE))
def q_(ad:Ad)(EE:DX):aI:=
 (aB (cI (ck ad.C_Askings "ask" (mj ad) EE 2 (aa 1) (a9 (aa 2) dNil)))
  (rP ad EE))
def lZ(ad:Ad)(EE:DX):aI:=
 (aB (bd (ax (aC (oB ad) EE 1 (a9 (aa 0) dNil))) (ao 2))
  (q_ ad EE))
def o5(ad:Ad)(EE:DX):aI:=
 (aB (bd (oK ad.C_Askings (sS ad) EE 2 (a9 (aa 0) dNil)) (ao 1))
  (lZ ad EE))
def rA(ad:Ad):Sd:=bg ["case","askings","things","cause"] (o5 ad)
theorem D1{ad:Ad}{n:Nat}{x0:D}{M:Mem}{Q:DK}{E:DX}:rA ad [x0] M Q E=o5 ad (aS E) { nx:=fun _ M'=>drp Q .non M',rt:=drp Q } [some x0,none,none,none] M:=rfl
def vX(ad:Ad)(EE:DX):aI:=
 (aX (bq (fk (a9 (bR cG (a9 (aa 0) dNil)) dNil)) ["at"] [0] (ao 0) cv (ax (az cA (ax (r8 (aa 1) bU (d9 (aa 0)))) (ax (r8 (aa 1) (d9 (az cA (aa 0) (dC (.int 1)))) bU))))))
def wa(ad:Ad):Sd:=bg ["mix"] (vX ad)
theorem u_q6{ad:Ad}{n:Nat}{x0:D}{M:Mem}{Q:DK}{E:DX}:wa ad [x0] M Q E=vX ad (aS E) { nx:=fun _ M'=>drp Q .non M',rt:=drp Q } [some x0] M:=rfl
def nO(ad:Ad)(EE:DX):aI:=
 (aX (hG (bR dq (a9 (aa 1) (a9 (dC (.ty "tuple")) dNil))) (hG (az gz (bR cG (a9 (aa 1) dNil)) (dC (.int 2))) (ax (aC (n_ ad) EE 2 (a9 (aa 0) (a9 (az bz (aa 1) (dC (.int 0))) dNil)))))))
def su(ad:Ad):Sd:=bg ["things","thing"] (nO ad)
theorem Cn{ad:Ad}{n:Nat}{x0 x1:D}{M:Mem}{Q:DK}{E:DX}:su ad [x0,x1] M Q E=nO ad (aS E) { nx:=fun _ M'=>drp Q .non M',rt:=drp Q } [some x0,some x1] M:=rfl
def qA(ad:Ad)(EE:DX):aI:=
 (aX (bR pV (a9 (ax (bq (dh (az bz (aa 1) (dC (.int 0)))) ["part"] [0] (ao 0) cv (ax (aC (su ad) kq 2 (a9 (aa 1) (a9 (aa 0) dNil)))))) dNil)))
def uc(ad:Ad)(EE:DX):aI:=
 (aB (bC (u6 (aE (az gz (bR cG (a9 (az bz (aa 1) (dC (.int 0))) dNil)) (dC (.int 0)))) (oO (fi (ax (aC (n_ ad) EE 2 (a9 (aa 0) (a9 (az bz (aa 1) (dC (.int 1))) dNil))))))) (aX (dC (.bl false))) bf)
  (qA ad EE))
def wF(ad:Ad)(EE:DX):aI:=
 (aB (bC (u6 (oO (fi (bR dq (a9 (aa 1) (a9 (dC (.ty "tuple")) dNil))))) (u6 (aE (az zV (bR cG (a9 (aa 1) dNil)) (dC (.int 2)))) (oO (fi (bR dq (a9 (az bz (aa 1) (dC (.int 0))) (a9 (dC (.ty "list")) dNil))))))) (aX (dC (.bl false))) bf)
  (uc ad EE))
def yf(ad:Ad):Sd:=bg ["things","thing"] (wF ad)
theorem u_q0{ad:Ad}{n:Nat}{x0 x1:D}{M:Mem}{Q:DK}{E:DX}:yf ad [x0,x1] M Q E=wF ad (aS E) { nx:=fun _ M'=>drp Q .non M',rt:=drp Q } [some x0,some x1] M:=rfl
def pF(ad:Ad)(EE:DX):aI:=
 (aX (bR pV (a9 (ax (bq (dh (az bz (aa 1) (dC (.int 0)))) ["mix","verdict"] [2] (d_ 2 (bD (ao 0) (bD (ao 1) dZ))) cv (az gz (ax (ck ad.C_Askings "ask" (mj ad) kq 2 (aa 2) (a9 (aa 0) dNil))) (aa 1)))) dNil)))
def pf(ad:Ad)(EE:DX):aI:=
 (aB (bC (fi (bR wm (a9 (ax (bq (dh (ax (aC (wa ad) EE 1 (a9 (az bz (aa 1) (dC (.int 1))) dNil)))) ["less"] [4] (ao 0) cv (az gz (wJ (aa 1) (bR cTuple (a9 (aa 0) dNil)) (dC (.str "faulty"))) (dC (.str "faulty"))))) dNil))) (aX (dC (.bl false))) bf)
  (pF ad EE))
def lX(ad:Ad)(EE:DX):aI:=
 (aB (bC (aE (az zV (uT (aa 4) (bR cTuple (a9 (az bz (aa 1) (dC (.int 1))) dNil))) (dC (.str "faulty")))) (aX (dC (.bl false))) bf)
  (pf ad EE))
def vf(ad:Ad)(EE:DX):aI:=
 (aB (bC (u6 (aE (az zV (bR rg (a9 (aa 4) dNil)) (bR cG (a9 (az bz (aa 1) (dC (.int 0))) dNil)))) (oO (fi (ax (aC (S_q27 ad 24) EE 2 (a9 (az bz (az bz (az bz (aa 1) (dC (.int 0))) (dC (.int 0))) (dC (.int 0))) (a9 (aa 3) dNil))))))) (aX (dC (.bl false))) bf)
  (lX ad EE))
def vo(ad:Ad)(EE:DX):aI:=
 (aB (bd (bR kS (a9 (ax (bq (dh (az bz (aa 1) (dC (.int 0)))) ["mix","verdict"] [] (d_ 2 (bD (ao 0) (bD (ao 1) dZ))) cv (bV (a9 (bR cTuple (a9 (aa 0) dNil)) (a9 (aa 1) dNil))))) dNil)) (ao 4))
  (vf ad EE))
def wW(ad:Ad)(EE:DX):aI:=
 (aB (bC (oO (fi (ax (aC (yf ad) EE 2 (a9 (aa 3) (a9 (aa 1) dNil)))))) (aX (dC (.bl false))) bf)
  (vo ad EE))
def pI(ad:Ad)(EE:DX):aI:=
 (aB (bd (ax (aC (oB ad) EE 1 (a9 (aa 0) dNil))) (ao 3))
  (wW ad EE))
def uI(ad:Ad)(EE:DX):aI:=
 (aB (bd (oK ad.C_Askings (sS ad) EE 2 (a9 (aa 0) dNil)) (ao 2))
  (pI ad EE))
def vK(ad:Ad):Sd:=bg ["case","thing","askings","things","told"] (uI ad)
theorem u_q7{ad:Ad}{n:Nat}{x0 x1:D}{M:Mem}{Q:DK}{E:DX}:vK ad [x0,x1] M Q E=uI ad (aS E) { nx:=fun _ M'=>drp Q .non M',rt:=drp Q } [some x0,some x1,none,none,none] M:=rfl
def lR(ad:Ad)(EE:DX):aI:=
 (aX (hG (ax (ck ad.C_Askings "is_cause" (iu ad) EE 2 (aa 2) (a9 (aa 1) dNil))) (zX (bR wm (a9 (ax (bq (dh (ax (aC (wa ad) EE 1 (a9 (aa 1) dNil)))) ["less"] [2] (ao 0) cv (ax (ck ad.C_Askings "is_cause" (iu ad) kq 2 (aa 1) (a9 (aa 0) dNil))))) dNil)))))
def nY(ad:Ad)(EE:DX):aI:=
 (aB (bd (oK ad.C_Askings (sS ad) EE 2 (a9 (aa 0) dNil)) (ao 2))
  (lR ad EE))
def jm(ad:Ad):Sd:=bg ["case","mix","askings"] (nY ad)
theorem C_{ad:Ad}{n:Nat}{x0 x1:D}{M:Mem}{Q:DK}{E:DX}:jm ad [x0,x1] M Q E=nY ad (aS E) { nx:=fun _ M'=>drp Q .non M',rt:=drp Q } [some x0,some x1,none] M:=rfl
def nX(ad:Ad)(EE:DX):aI:=
 (aX (mC (a9 (bR jI (a9 (ax (r8 (aa 0) bU (d9 (dC (.int 63))))) dNil)) (a9 (dC (.int 0)) (a9 (dC (.int 0)) dNil)))))
def r9(ad:Ad):Sd:=bg ["_law_script"] (nX ad)
theorem DQ{ad:Ad}{n:Nat}{x0:D}{M:Mem}{Q:DK}{E:DX}:r9 ad [x0] M Q E=nX ad (aS E) { nx:=fun _ M'=>drp Q .non M',rt:=drp Q } [some x0] M:=rfl
def xX(ad:Ad)(EE:DX):aI:=
 (aB (bd (az on (az bz (aa 0) (dC (.int 2))) (aa 1)) (oE (aa 0) (dC (.int 2))))
   (aX (aa 2)))
def yG(ad:Ad)(EE:DX):aI:=
 (aB (bd (az gT (az bz (aa 0) (dC (.int 2))) (aa 1)) (ao 2))
   (xX ad EE))
def yd(ad:Ad)(EE:DX):aI:=
 (bd (az bz (az bz (aa 0) (dC (.int 0))) (az gT (aa 3) (bR cG (a9 (az bz (aa 0) (dC (.int 0))) dNil)))) (ao 4))
def y_(ad:Ad)(EE:DX):aI:=
 (aB (bd (az on (aa 4) (aa 1)) (oE (aa 0) (dC (.int 2))))
   (aX (az gT (aa 4) (aa 1))))
def zx(ad:Ad)(EE:DX):aI:=
 (aX (az gT (az on (aa 5) (dC (.int 8))) (aa 1)))
def zn(ad:Ad)(EE:DX):aI:=
 (aB (bd (az gT (az cA (az cA (az ii (aa 5) (aa 5)) (az ii (dC (.int 48271)) (aa 3))) (az gT (aa 4) (dC (.int 65537)))) (dC (.int 2147483629))) (ao 5))
  (zx ad EE))
def j2(ad:Ad)(EE:DX):aI:=
 (aB (bd (az gT (az ii (az cA (az gT (aa 4) (dC (.int 1000003))) (dC (.int 1))) (az cA (az cA (az ii (az ii (dC (.int 7919)) (aa 3)) (aa 3)) (az ii (dC (.int 104729)) (aa 3))) (dC (.int 12345)))) (dC (.int 2147483647))) (ao 5))
  (zn ad EE))
def qT(ad:Ad)(EE:DX):aI:=
 (aB (bC (DY (aE (az Cj (aa 3) (bR cG (a9 (az bz (aa 0) (dC (.int 0))) dNil)))) (aE (az oGe (aa 4) (az CF (dC (.int 10)) (dC (.int 18)))))) (y_ ad EE) bf)
  (j2 ad EE))
def si(ad:Ad)(EE:DX):aI:=
 (aB (bC (aE (az BK (bR cG (a9 (az bz (aa 0) (dC (.int 0))) dNil)) (dC (.int 0)))) (yd ad EE) bf)
  (qT ad EE))
def om(ad:Ad)(EE:DX):aI:=
 (aB (bd (dC (.int 0)) (ao 4))
  (si ad EE))
def mK(ad:Ad)(EE:DX):aI:=
 (aB (bd (az cA (aa 3) (dC (.int 1))) (oE (aa 0) (dC (.int 1))))
  (om ad EE))
def gf(ad:Ad)(EE:DX):aI:=
 (aB (bd (az bz (aa 0) (dC (.int 1))) (ao 3))
  (mK ad EE))
def n8(ad:Ad)(EE:DX):aI:=
 (aB (bC (aE (az BK (az bz (aa 0) (dC (.int 2))) (dC (.int 0)))) (yG ad EE) bf)
  (gf ad EE))
def dD(ad:Ad):Sd:=bg ["_law_tape_here","_law_many","_law_digit","_law_at","_law_cell","_law_mixed"] (n8 ad)
theorem DV{ad:Ad}{n:Nat}{x0 x1:D}{M:Mem}{Q:DK}{E:DX}:dD ad [x0,x1] M Q E=n8 ad (aS E) { nx:=fun _ M'=>drp Q .non M',rt:=drp Q } [some x0,some x1,none,none,none,none] M:=rfl
def my(ad:Ad)(EE:DX):aI:=
 (bC (aE (az eO (aa 5) (aa 3))) (cI (Cd "list" eV (aa 3) (a9 (aa 5) dNil))) bf)
def iH(ad:Ad)(EE:DX):aI:=
 (aB (bd (ax (aC (dD ad) EE 2 (a9 (aa 0) (a9 (aa 2) dNil)))) (ao 5))
   (my ad EE))
def i_(ad:Ad)(EE:DX):aI:=
 (cI (Cd "list" eV (aa 6) (a9 (bV (a9 (dC (.str "take")) (a9 (dC (.str "b")) (a9 (ax (aC (dD ad) EE 2 (a9 (aa 0) (a9 (aa 2) dNil)))) dNil)))) dNil)))
def iA(ad:Ad)(EE:DX):aI:=
 (cI (Cd "list" ma (aa 6) (a9 (ax (mC (a9 (bV (a9 (dC (.str "take")) (a9 (dC (.str "b")) (a9 (aa 5) dNil)))) (a9 (bV (a9 (dC (.str "by")) (a9 (dC (.str "a")) (a9 (dC (.str "a")) (a9 (dC (.str "b")) dNil))))) dNil)))) dNil)))
def iG(ad:Ad)(EE:DX):aI:=
 (aB (dFor (fk (a9 (ax (aC (dD ad) EE 2 (a9 (aa 0) (a9 (dC (.int 3)) dNil)))) dNil)) (ao 4) (i_ ad EE))
   (iA ad EE))
def qV(ad:Ad)(EE:DX):aI:=
 (aX (bV (a9 (bV (a9 (aa 8) (a9 (bV (a9 (bV (a9 (dC (.int 0)) (a9 (dC (.int 0)) dNil))) (a9 (az ii (bV (a9 (dC (.int 0)) dNil)) (aa 2)) dNil))) (a9 (bV (a9 (bV (a9 (dC (.int 0)) (a9 (dC (.int 0)) dNil))) (a9 (aa 7) dNil))) (a9 (dC (.int 30)) dNil))))) (a9 (bR g9 (a9 (aa 3) dNil)) dNil))))
def lW(ad:Ad)(EE:DX):aI:=
 (aB (bd (bV (a9 (aa 1) (a9 (bV (a9 (dC (.str "a")) (a9 (dC (.str "b")) dNil))) (a9 (aa 2) (a9 (bR cTuple (a9 (aa 6) dNil)) (a9 (dC (.str "a")) dNil)))))) (ao 8))
  (qV ad EE))
def iN(ad:Ad)(EE:DX):aI:=
 (aB (bd (bR cTuple (a9 (ax (bq (fk (a9 (aa 2) dNil)) ["_law_k"] [1,0] (ao 0) cv (az cA (dC (.int 1)) (ax (aC (dD ad) kq 2 (a9 (aa 2) (a9 (az Bi (aa 1) (dC (.int 1))) dNil))))))) dNil)) (ao 7))
  (lW ad EE))
def rf(ad:Ad)(EE:DX):aI:=
 (aB (dFor (dh (aa 3)) (ao 5) (iG ad EE))
  (iN ad EE))
def jE(ad:Ad)(EE:DX):aI:=
 (aB (bd (mC (a9 (bV (a9 (dC (.str "put")) (a9 (dC (.str "a")) (a9 (az cA (dC (.int 1)) (ax (aC (dD ad) EE 2 (a9 (aa 0) (a9 (az Bi (aa 1) (dC (.int 1))) dNil))))) dNil)))) dNil)) (ao 6))
  (rf ad EE))
def nn(ad:Ad)(EE:DX):aI:=
 (aB (dFor (fk (a9 (az cA (dC (.int 1)) (ax (aC (dD ad) EE 2 (a9 (aa 0) (a9 (dC (.int 3)) dNil))))) dNil)) (ao 4) (iH ad EE))
  (jE ad EE))
def oQ(ad:Ad)(EE:DX):aI:=
 (aB (bd (mC dNil) (ao 3))
  (nn ad EE))
def ot(ad:Ad)(EE:DX):aI:=
 (aB (bd (az cA (dC (.int 2)) (ax (aC (dD ad) EE 2 (a9 (aa 0) (a9 (dC (.int 39)) dNil))))) (ao 2))
  (oQ ad EE))
def n5(ad:Ad)(EE:DX):aI:=
 (aB (bd (az bz (ax (mC (a9 (dC (.int 2)) (a9 (dC (.int 3)) (a9 (dC (.int 5)) (a9 (dC (.int 97)) (a9 (dC (.int 997)) dNil))))))) (ax (aC (dD ad) EE 2 (a9 (aa 0) (a9 (dC (.int 5)) dNil))))) (ao 1))
  (ot ad EE))
def sB(ad:Ad):Sd:=bg ["_law_tape_here","_law_wheel","_law_many","_law_goals","_law_k","_law_piece","_law_rows","_law_faulty","_law_plan_here"] (n5 ad)
theorem Dn{ad:Ad}{n:Nat}{x0:D}{M:Mem}{Q:DK}{E:DX}:sB ad [x0] M Q E=n5 ad (aS E) { nx:=fun _ M'=>drp Q .non M',rt:=drp Q } [some x0,none,none,none,none,none,none,none,none] M:=rfl
def iQ(ad:Ad)(EE:DX):aI:=
 (aX (az Bb (ax (aC (jm ad) EE 2 (a9 (aa 2) (a9 (ax (bR g9 (a9 (ax (az cA (aa 3) (ax (mC (a9 (aa 9) dNil))))) dNil))) dNil)))) (dC (.bl false))))
def lj(ad:Ad)(EE:DX):aI:=
 (aB (bd (az bz (aa 8) (ax (aC (dD ad) EE 2 (a9 (aa 1) (a9 (bR cG (a9 (aa 8) dNil)) dNil))))) (ao 9))
  (iQ ad EE))
def mo(ad:Ad)(EE:DX):aI:=
 (aB (bC (aE (az gz (aa 8) (ax (mC dNil)))) (aX (dC (.bl true))) bf)
  (lj ad EE))
def iI(ad:Ad)(EE:DX):aI:=
 (aB (el (jo 8 (bq (fk (a9 (aa 4) dNil)) ["_law_piece"] [3] (ao 0) (aE (az eO (aa 0) (aa 1))) (aa 0))) 8)
  (mo ad EE))
def iV(ad:Ad)(EE:DX):aI:=
 (aB (bC (u6 (aE (az kM (ax (aC (jm ad) EE 2 (a9 (aa 2) (a9 (aa 3) dNil)))) (dC (.bl true)))) (aE (az kM (ax (aC (jm ad) EE 2 (a9 (aa 2) (a9 (ax (r8 (aa 3) bU (d9 (E5 (dC (.int 1)))))) dNil)))) (dC (.bl false))))) (aX (dC (.bl false))) bf)
  (iI ad EE))
def iU(ad:Ad)(EE:DX):aI:=
 (aB (bC (aE (az kM (ax (aC (vK ad) EE 2 (a9 (aa 2) (a9 (bV (a9 (aa 5) (a9 (ax (r8 (aa 6) (d9 (dC (.int 1))) bU)) dNil))) dNil)))) (dC (.bl false)))) (aX (dC (.bl false))) bf)
  (iV ad EE))
def iM(ad:Ad)(EE:DX):aI:=
 (aB (bC (u6 (aE (az zV (jG (a9 (aa 7) dNil)) (bR cG (a9 (aa 7) dNil)))) (aE (az kM (ax (aC (vK ad) EE 2 (a9 (aa 2) (a9 (bV (a9 (aa 5) (a9 (aa 6) dNil))) dNil)))) (dC (.bl true))))) (aX (dC (.bl false))) bf)
  (iU ad EE))
def iC(ad:Ad)(EE:DX):aI:=
 (aB (el (jo 7 (bq (dh (aa 5)) ["_law_row"] [] (ao 0) cv (bR qL (a9 (az bz (aa 0) (dC (.int 0))) dNil)))) 7)
  (iM ad EE))
def iO(ad:Ad)(EE:DX):aI:=
 (aB (bC (u6 (aE (az zV (aa 6) (aa 3))) (aE (az BK (bR cG (a9 (aa 5) dNil)) (az cA (az cA (az ii (aa 4) (aa 4)) (az ii (dC (.int 3)) (aa 4))) (dC (.int 2)))))) (aX (dC (.bl false))) bf)
  (iC ad EE))
def nM(ad:Ad)(EE:DX):aI:=
 (aB (bd (ko (aC (rA ad) EE 1 (a9 (aa 2) dNil))) (d_ 2 (bD (ao 5) (bD (ao 6) dZ))))
  (iO ad EE))
def oS(ad:Ad)(EE:DX):aI:=
 (aB (bd (az bz (az bz (aa 2) (dC (.int 0))) (dC (.int 2))) (ao 4))
  (nM ad EE))
def oR(ad:Ad)(EE:DX):aI:=
 (aB (bd (ko (aC (sB ad) EE 1 (a9 (aa 1) dNil))) (d_ 2 (bD (ao 2) (bD (ao 3) dZ))))
  (oS ad EE))
def nK(ad:Ad)(EE:DX):aI:=
 (aB (bd (aC (r9 ad) EE 1 (a9 (aa 0) dNil)) (ao 1))
  (oR ad EE))
def wQ(ad:Ad):Sd:=bg ["_law_script","_law_tape_here","_law_case_here","_law_goals","_law_many","_law_askings","_law_cause","_law_mixes","_law_others","_law_more"] (nK ad)
theorem CH{ad:Ad}{n:Nat}{x0:D}{M:Mem}{Q:DK}{E:DX}:wQ ad [x0] M Q E=nK ad (aS E) { nx:=fun _ M'=>drp Q .non M',rt:=drp Q } [some x0,none,none,none,none,none,none,none,none,none] M:=rfl
end Tw
namespace Tw
open PySem L2 L3
set_option genInjectivity false in
structure En(K:W.Frag)(mg:Str->Option Value)(ad:Ad):Prop where
 c_Askings:Cls K ad.C_Askings
 mC_Askings:mg "Askings"=some (.ref ad.C_Askings)
 mk_Askings:Mk K ad.C_Askings ad.a_q2
 n_Askings_case:NoAttr K ad.C_Askings "case"
 n_Askings_told:NoAttr K ad.C_Askings "told"
 n_Askings_two:NoAttr K ad.C_Askings "two"
 c_Walk:Cls K ad.C_Walk
 mC_Walk:mg "Walk"=some (.ref ad.C_Walk)
 mk_Walk:Mk K ad.C_Walk ad.a_q4
 n_Walk_most:NoAttr K ad.C_Walk "most"
 n_Walk_numbers:NoAttr K ad.C_Walk "numbers"
 n_Walk_pieces:NoAttr K ad.C_Walk "pieces"
 n_Walk_plan:NoAttr K ad.C_Walk "plan"
 n_Walk_steps:NoAttr K ad.C_Walk "steps"
 x_Dry:ExcAt K ad.C_Dry
 mC_Dry:mg "Dry"=some (.ref ad.C_Dry)
 x_NoCase:ExcAt K ad.C_NoCase
 mC_NoCase:mg "NoCase"=some (.ref ad.C_NoCase)
 F_q4:Fun K "__init__" "Walk.__init__" C9 ad.a_q4 ad.d_q4
 b_q4:Binds K ad.d_q4 ["self","plan","stand","most"] []
 k_q4:W.keepIn K (.ref ad.a_q4)=true
 F_q3:Fun K "note_step" "Walk.note_step" BX ad.a_q3 ad.d_q3
 b_q3:Binds K ad.d_q3 ["self","place","number"] []
 k_q3:W.keepIn K (.ref ad.a_q3)=true
 me_q3:Meth K ad.C_Walk "note_step" ad.a_q3
 F_q18:Fun K "look" "Walk.look" vM ad.a_q18 ad.d_q18
 b_q18:Binds K ad.d_q18 ["self","place","name"] []
 k_q18:W.keepIn K (.ref ad.a_q18)=true
 me_q18:Meth K ad.C_Walk "look" ad.a_q18
 F_q36:Fun K "run" "run" wL ad.a_q36 ad.d_q36
 b_q36:Binds K ad.d_q36 ["plan","stand","most"] []
 k_q36:W.keepIn K (.ref ad.a_q36)=true
 m_q36:mg "run"=some (.ref ad.a_q36)
 F_q35:Fun K "mark" "mark" x6 ad.a_q35 ad.d_q35
 b_q35:Binds K ad.d_q35 ["plan","stand","most"] []
 k_q35:W.keepIn K (.ref ad.a_q35)=true
 m_q35:mg "mark"=some (.ref ad.a_q35)
 F_q24:Fun K "do_rows" "do_rows" ub ad.a_q24 ad.d_q24
 b_q24:Binds K ad.d_q24 ["walk","rows","place"] []
 k_q24:W.keepIn K (.ref ad.a_q24)=true
 m_q24:mg "do_rows"=some (.ref ad.a_q24)
 F_q32:Fun K "do_row" "do_row" vk ad.a_q32 ad.d_q32
 b_q32:Binds K ad.d_q32 ["walk","row","place"] []
 k_q32:W.keepIn K (.ref ad.a_q32)=true
 m_q32:mg "do_row"=some (.ref ad.a_q32)
 F_q33:Fun K "do_if" "do_if" uX ad.a_q33 ad.d_q33
 b_q33:Binds K ad.d_q33 ["walk","row","place"] []
 k_q33:W.keepIn K (.ref ad.a_q33)=true
 m_q33:mg "do_if"=some (.ref ad.a_q33)
 F_q22:Fun K "do_again" "do_again" vZ ad.a_q22 ad.d_q22
 b_q22:Binds K ad.d_q22 ["walk","row","place"] []
 k_q22:W.keepIn K (.ref ad.a_q22)=true
 m_q22:mg "do_again"=some (.ref ad.a_q22)
 F_q13:Fun K "number_of" "number_of" wU ad.a_q13 ad.d_q13
 b_q13:Binds K ad.d_q13 ["plan","numbers","pieces","row"] []
 k_q13:W.keepIn K (.ref ad.a_q13)=true
 m_q13:mg "number_of"=some (.ref ad.a_q13)
 F_q9:Fun K "piece_read" "piece_read" Bt ad.a_q9 ad.d_q9
 b_q9:Binds K ad.d_q9 ["plan","numbers","row"] []
 k_q9:W.keepIn K (.ref ad.a_q9)=true
 m_q9:mg "piece_read"=some (.ref ad.a_q9)
 F_q30:Fun K "joined" "joined" wK ad.a_q30 ad.d_q30
 b_q30:Binds K ad.d_q30 ["word","y","z","wheel"] []
 k_q30:W.keepIn K (.ref ad.a_q30)=true
 m_q30:mg "joined"=some (.ref ad.a_q30)
 F_q10:Fun K "all_things" "all_things" u8 ad.a_q10 ad.d_q10
 b_q10:Binds K ad.d_q10 ["plan"] []
 k_q10:W.keepIn K (.ref ad.a_q10)=true
 m_q10:mg "all_things"=some (.ref ad.a_q10)
 F_q17:Fun K "number_in" "number_in" vV ad.a_q17 ad.d_q17
 b_q17:Binds K ad.d_q17 ["plan","stand","thing"] []
 k_q17:W.keepIn K (.ref ad.a_q17)=true
 m_q17:mg "number_in"=some (.ref ad.a_q17)
 F_q27:Fun K "is_just" "is_just" vI ad.a_q27 ad.d_q27
 b_q27:Binds K ad.d_q27 ["thing","told"] []
 k_q27:W.keepIn K (.ref ad.a_q27)=true
 m_q27:mg "is_just"=some (.ref ad.a_q27)
 F_q20:Fun K "are_just" "are_just" wI ad.a_q20 ad.d_q20
 b_q20:Binds K ad.d_q20 ["things","told"] []
 k_q20:W.keepIn K (.ref ad.a_q20)=true
 m_q20:mg "are_just"=some (.ref ad.a_q20)
 F_q28:Fun K "unlike" "unlike" wo ad.a_q28 ad.d_q28
 b_q28:Binds K ad.d_q28 ["plan","one","other"] []
 k_q28:W.keepIn K (.ref ad.a_q28)=true
 m_q28:mg "unlike"=some (.ref ad.a_q28)
 F_q34:Fun K "marks" "marks" vR ad.a_q34 ad.d_q34
 b_q34:Binds K ad.d_q34 ["case"] []
 k_q34:W.keepIn K (.ref ad.a_q34)=true
 m_q34:mg "marks"=some (.ref ad.a_q34)
 F_q19:Fun K "unlike_of" "unlike_of" wT ad.a_q19 ad.d_q19
 b_q19:Binds K ad.d_q19 ["case"] []
 k_q19:W.keepIn K (.ref ad.a_q19)=true
 m_q19:mg "unlike_of"=some (.ref ad.a_q19)
 F_q31:Fun K "is_mix" "is_mix" wN ad.a_q31 ad.d_q31
 b_q31:Binds K ad.d_q31 ["things","thing"] []
 k_q31:W.keepIn K (.ref ad.a_q31)=true
 m_q31:mg "is_mix"=some (.ref ad.a_q31)
 F_q23:Fun K "stand_of" "stand_of" x8 ad.a_q23 ad.d_q23
 b_q23:Binds K ad.d_q23 ["case","mix"] []
 k_q23:W.keepIn K (.ref ad.a_q23)=true
 m_q23:mg "stand_of"=some (.ref ad.a_q23)
 F_q5:Fun K "number_mixed" "number_mixed" AK ad.a_q5 ad.d_q5
 b_q5:Binds K ad.d_q5 ["case","mix","thing"] []
 k_q5:W.keepIn K (.ref ad.a_q5)=true
 m_q5:mg "number_mixed"=some (.ref ad.a_q5)
 F_q12:Fun K "verdict_of" "verdict_of" uy ad.a_q12 ad.d_q12
 b_q12:Binds K ad.d_q12 ["two","one"] []
 k_q12:W.keepIn K (.ref ad.a_q12)=true
 m_q12:mg "verdict_of"=some (.ref ad.a_q12)
 F_q2:Fun K "__init__" "Askings.__init__" AA ad.a_q2 ad.d_q2
 b_q2:Binds K ad.d_q2 ["self","case"] []
 k_q2:W.keepIn K (.ref ad.a_q2)=true
 F_q8:Fun K "ask" "Askings.ask" B6 ad.a_q8 ad.d_q8
 b_q8:Binds K ad.d_q8 ["self","mix"] []
 k_q8:W.keepIn K (.ref ad.a_q8)=true
 me_q8:Meth K ad.C_Askings "ask" ad.a_q8
 F_q1:Fun K "is_cause" "Askings.is_cause" Ao ad.a_q1 ad.d_q1
 b_q1:Binds K ad.d_q1 ["self","mix"] []
 k_q1:W.keepIn K (.ref ad.a_q1)=true
 me_q1:Meth K ad.C_Askings "is_cause" ad.a_q1
 F_q21:Fun K "narrowed" "narrowed" wz ad.a_q21 ad.d_q21
 b_q21:Binds K ad.d_q21 ["case"] []
 k_q21:W.keepIn K (.ref ad.a_q21)=true
 m_q21:mg "narrowed"=some (.ref ad.a_q21)
 F_q29:Fun K "halved" "halved" wu ad.a_q29 ad.d_q29
 b_q29:Binds K ad.d_q29 ["askings","cause"] []
 k_q29:W.keepIn K (.ref ad.a_q29)=true
 m_q29:mg "halved"=some (.ref ad.a_q29)
 F_q26:Fun K "thinned" "thinned" vn ad.a_q26 ad.d_q26
 b_q26:Binds K ad.d_q26 ["askings","cause"] []
 k_q26:W.keepIn K (.ref ad.a_q26)=true
 m_q26:mg "thinned"=some (.ref ad.a_q26)
 F_q6:Fun K "all_one_less" "all_one_less" Bz ad.a_q6 ad.d_q6
 b_q6:Binds K ad.d_q6 ["mix"] []
 k_q6:W.keepIn K (.ref ad.a_q6)=true
 m_q6:mg "all_one_less"=some (.ref ad.a_q6)
 F_q7:Fun K "is_narrowed" "is_narrowed" AO ad.a_q7 ad.d_q7
 b_q7:Binds K ad.d_q7 ["case","thing"] []
 k_q7:W.keepIn K (.ref ad.a_q7)=true
 m_q7:mg "is_narrowed"=some (.ref ad.a_q7)
 F_q0:Fun K "has_narrowed_form" "has_narrowed_form" A1 ad.a_q0 ad.d_q0
 b_q0:Binds K ad.d_q0 ["things","thing"] []
 k_q0:W.keepIn K (.ref ad.a_q0)=true
 m_q0:mg "has_narrowed_form"=some (.ref ad.a_q0)
 F_q16:Fun K "is_asking" "is_asking" uV ad.a_q16 ad.d_q16
 b_q16:Binds K ad.d_q16 ["things","thing"] []
 k_q16:W.keepIn K (.ref ad.a_q16)=true
 m_q16:mg "is_asking"=some (.ref ad.a_q16)
 F_q25:Fun K "is_bare" "is_bare" vT ad.a_q25 ad.d_q25
 b_q25:Binds K ad.d_q25 ["case","mix"] []
 k_q25:W.keepIn K (.ref ad.a_q25)=true
 m_q25:mg "is_bare"=some (.ref ad.a_q25)
 F_q14:Fun K "_law_tape" "_law_tape" vL ad.a_q14 ad.d_q14
 b_q14:Binds K ad.d_q14 ["_law_script"] []
 k_q14:W.keepIn K (.ref ad.a_q14)=true
 m_q14:mg "_law_tape"=some (.ref ad.a_q14)
 F_q15:Fun K "_law_draw" "_law_draw" vO ad.a_q15 ad.d_q15
 b_q15:Binds K ad.d_q15 ["_law_tape_here","_law_many"] []
 k_q15:W.keepIn K (.ref ad.a_q15)=true
 m_q15:mg "_law_draw"=some (.ref ad.a_q15)
 F_q11:Fun K "_law_joint" "_law_joint" vF ad.a_q11 ad.d_q11
 b_q11:Binds K ad.d_q11 ["_law_tape_here"] []
 k_q11:W.keepIn K (.ref ad.a_q11)=true
 m_q11:mg "_law_joint"=some (.ref ad.a_q11)
 F_law:Fun K "law" "law" eA ad.a_law ad.d_law
 b_law:Binds K ad.d_law ["_law_script"] []
 k_law:W.keepIn K (.ref ad.a_law)=true
 m_law:mg "law"=some (.ref ad.a_law)
 z_all:mg "all"=none
 z_any:mg "any"=none
 z_bool:mg "bool"=none
 z_dict:mg "dict"=none
 z_enumerate:mg "enumerate"=none
 z_isinstance:mg "isinstance"=none
 z_len:mg "len"=none
 z_list:mg "list"=none
 z_range:mg "range"=none
 z_repr:mg "repr"=none
 z_set:mg "set"=none
 z_sorted:mg "sorted"=none
 z_str:mg "str"=none
 z_tuple:mg "tuple"=none
 z_zip:mg "zip"=none
abbrev O1(P:Program)(w:World)(K:W.Frag)(mg:Str->Option Value)(base:Heap)(ad:Ad):Prop:=FnOk P w K mg base (bP P w) 1 ad.a_q4 ad.d_q4 ["self","plan","stand","most"] (aq K 4 (yT ad))
abbrev O2(P:Program)(w:World)(K:W.Frag)(mg:Str->Option Value)(base:Heap)(ad:Ad):Prop:=FnOk P w K mg base (bP P w) 1 ad.a_q3 ad.d_q3 ["self","place","number"] (aq K 3 (qB ad))
abbrev O3(P:Program)(w:World)(K:W.Frag)(mg:Str->Option Value)(base:Heap)(ad:Ad):Prop:=FnOk P w K mg base (bP P w) 2 ad.a_q18 ad.d_q18 ["self","place","name"] (aq K 3 (ke ad))
abbrev O4(P:Program)(w:World)(K:W.Frag)(mg:Str->Option Value)(base:Heap)(ad:Ad):Prop:=FnOk P w K mg base (bP P w) 1 ad.a_q30 ad.d_q30 ["word","y","z","wheel"] (aq K 4 (so ad))
abbrev O5(P:Program)(w:World)(K:W.Frag)(mg:Str->Option Value)(base:Heap)(ad:Ad):Prop:=FnOk P w K mg base (bP P w) 1 ad.a_q9 ad.d_q9 ["plan","numbers","row"] (aq K 3 (xF ad))
abbrev O6(P:Program)(w:World)(K:W.Frag)(mg:Str->Option Value)(base:Heap)(ad:Ad):Prop:=FnOk P w K mg base (bP P w) 2 ad.a_q13 ad.d_q13 ["plan","numbers","pieces","row"] (aq K 4 (oa ad))
abbrev O7(P:Program)(w:World)(K:W.Frag)(mg:Str->Option Value)(base:Heap)(ad:Ad):Prop:=FnOk P w K mg base (bP P w) 27 ad.a_q36 ad.d_q36 ["plan","stand","most"] (aq K 3 (oF ad))
abbrev O8(P:Program)(w:World)(K:W.Frag)(mg:Str->Option Value)(base:Heap)(ad:Ad):Prop:=FnOk P w K mg base (bP P w) 28 ad.a_q35 ad.d_q35 ["plan","stand","most"] (aq K 3 (jw ad))
abbrev O9(P:Program)(w:World)(K:W.Frag)(mg:Str->Option Value)(base:Heap)(ad:Ad):Prop:=FnOk P w K mg base (bP P w) 1 ad.a_q10 ad.d_q10 ["plan"] (aq K 1 (rT ad))
abbrev O10(P:Program)(w:World)(K:W.Frag)(mg:Str->Option Value)(base:Heap)(ad:Ad):Prop:=FnOk P w K mg base (bP P w) 1 ad.a_q17 ad.d_q17 ["plan","stand","thing"] (aq K 3 (kr ad))
abbrev O11(P:Program)(w:World)(K:W.Frag)(mg:Str->Option Value)(base:Heap)(ad:Ad):Prop:=FnOk P w K mg base (bP P w) 2 ad.a_q28 ad.d_q28 ["plan","one","other"] (aq K 3 (rL ad))
abbrev O12(P:Program)(w:World)(K:W.Frag)(mg:Str->Option Value)(base:Heap)(ad:Ad):Prop:=FnOk P w K mg base (bP P w) 29 ad.a_q34 ad.d_q34 ["case"] (aq K 1 (sh ad))
abbrev O13(P:Program)(w:World)(K:W.Frag)(mg:Str->Option Value)(base:Heap)(ad:Ad):Prop:=FnOk P w K mg base (bP P w) 3 ad.a_q19 ad.d_q19 ["case"] (aq K 1 (oB ad))
abbrev O14(P:Program)(w:World)(K:W.Frag)(mg:Str->Option Value)(base:Heap)(ad:Ad):Prop:=FnOk P w K mg base (bP P w) 24 ad.a_q27 ad.d_q27 ["thing","told"] (aq K 2 (S_q27 ad 24))
abbrev O15(P:Program)(w:World)(K:W.Frag)(mg:Str->Option Value)(base:Heap)(ad:Ad):Prop:=FnOk P w K mg base (bP P w) 25 ad.a_q31 ad.d_q31 ["things","thing"] (aq K 2 (n_ ad))
abbrev O16(P:Program)(w:World)(K:W.Frag)(mg:Str->Option Value)(base:Heap)(ad:Ad):Prop:=FnOk P w K mg base (bP P w) 2 ad.a_q5 ad.d_q5 ["case","mix","thing"] (aq K 3 (tj ad))
abbrev O17(P:Program)(w:World)(K:W.Frag)(mg:Str->Option Value)(base:Heap)(ad:Ad):Prop:=FnOk P w K mg base (bP P w) 3 ad.a_q23 ad.d_q23 ["case","mix"] (aq K 2 (rN ad))
abbrev O18(P:Program)(w:World)(K:W.Frag)(mg:Str->Option Value)(base:Heap)(ad:Ad):Prop:=FnOk P w K mg base (bP P w) 1 ad.a_q12 ad.d_q12 ["two","one"] (aq K 2 (sv ad))
abbrev O19(P:Program)(w:World)(K:W.Frag)(mg:Str->Option Value)(base:Heap)(ad:Ad):Prop:=FnOk P w K mg base (bP P w) 30 ad.a_q2 ad.d_q2 ["self","case"] (aq K 2 (sS ad))
abbrev O20(P:Program)(w:World)(K:W.Frag)(mg:Str->Option Value)(base:Heap)(ad:Ad):Prop:=FnOk P w K mg base (bP P w) 29 ad.a_q8 ad.d_q8 ["self","mix"] (aq K 2 (mj ad))
abbrev O21(P:Program)(w:World)(K:W.Frag)(mg:Str->Option Value)(base:Heap)(ad:Ad):Prop:=FnOk P w K mg base (bP P w) 30 ad.a_q1 ad.d_q1 ["self","mix"] (aq K 2 (iu ad))
abbrev O22(P:Program)(w:World)(K:W.Frag)(mg:Str->Option Value)(base:Heap)(ad:Ad):Prop:=FnOk P w K mg base (bP P w) 31 ad.a_q29 ad.d_q29 ["askings","cause"] (aq K 2 (rQ ad))
abbrev O23(P:Program)(w:World)(K:W.Frag)(mg:Str->Option Value)(base:Heap)(ad:Ad):Prop:=FnOk P w K mg base (bP P w) 31 ad.a_q26 ad.d_q26 ["askings","cause"] (aq K 2 (rG ad))
abbrev O24(P:Program)(w:World)(K:W.Frag)(mg:Str->Option Value)(base:Heap)(ad:Ad):Prop:=FnOk P w K mg base (bP P w) 32 ad.a_q21 ad.d_q21 ["case"] (aq K 1 (rA ad))
abbrev O25(P:Program)(w:World)(K:W.Frag)(mg:Str->Option Value)(base:Heap)(ad:Ad):Prop:=FnOk P w K mg base (bP P w) 1 ad.a_q6 ad.d_q6 ["mix"] (aq K 1 (wa ad))
abbrev O26(P:Program)(w:World)(K:W.Frag)(mg:Str->Option Value)(base:Heap)(ad:Ad):Prop:=FnOk P w K mg base (bP P w) 26 ad.a_q16 ad.d_q16 ["things","thing"] (aq K 2 (su ad))
abbrev O27(P:Program)(w:World)(K:W.Frag)(mg:Str->Option Value)(base:Heap)(ad:Ad):Prop:=FnOk P w K mg base (bP P w) 27 ad.a_q0 ad.d_q0 ["things","thing"] (aq K 2 (yf ad))
abbrev O28(P:Program)(w:World)(K:W.Frag)(mg:Str->Option Value)(base:Heap)(ad:Ad):Prop:=FnOk P w K mg base (bP P w) 32 ad.a_q7 ad.d_q7 ["case","thing"] (aq K 2 (vK ad))
abbrev O29(P:Program)(w:World)(K:W.Frag)(mg:Str->Option Value)(base:Heap)(ad:Ad):Prop:=FnOk P w K mg base (bP P w) 32 ad.a_q25 ad.d_q25 ["case","mix"] (aq K 2 (jm ad))
abbrev O30(P:Program)(w:World)(K:W.Frag)(mg:Str->Option Value)(base:Heap)(ad:Ad):Prop:=FnOk P w K mg base (bP P w) 1 ad.a_q14 ad.d_q14 ["_law_script"] (aq K 1 (r9 ad))
abbrev O31(P:Program)(w:World)(K:W.Frag)(mg:Str->Option Value)(base:Heap)(ad:Ad):Prop:=FnOk P w K mg base (bP P w) 1 ad.a_q15 ad.d_q15 ["_law_tape_here","_law_many"] (aq K 2 (dD ad))
abbrev O32(P:Program)(w:World)(K:W.Frag)(mg:Str->Option Value)(base:Heap)(ad:Ad):Prop:=FnOk P w K mg base (bP P w) 2 ad.a_q11 ad.d_q11 ["_law_tape_here"] (aq K 1 (sB ad))
abbrev O33(P:Program)(w:World)(K:W.Frag)(mg:Str->Option Value)(base:Heap)(ad:Ad):Prop:=FnOk P w K mg base (bP P w) 33 ad.a_law ad.d_law ["_law_script"] (aq K 1 (wQ ad))
section
variable {P:Program}{w:World}{K:W.Frag}{mg:Str->Option Value}{base:Heap}{ad:Ad}
theorem DL(En:En K mg ad)  : O1 P w K mg base ad:=by
 refine dX (k:=0) (T:=vb ad) En.F_q4 DN fun cdv A outer s H E B EE hr ux=>?_;have hU:=hr.units;have hu:=bn hr;unfold vb
 exact (af (eR En.c_Walk En.n_Walk_plan (ai 0) (ai 1))
  (af (eR En.c_Walk En.n_Walk_numbers (ai 0) (pN rfl rfl En.z_zip rfl En.z_dict (a8 (aw (aj hu) (ai 1) ae (fun _ _=>rfl)) (a8 (aw (aj hu) (ai 2) ae (fun _ _=>rfl)) ac))))
  (af (eR En.c_Walk En.n_Walk_pieces (ai 0) (aw (aj hu) (ai 2) ae (fun _ _=>rfl)))
  (af (eR En.c_Walk En.n_Walk_most (ai 0) (ai 3))
  (ag (eR En.c_Walk En.n_Walk_steps (ai 0) (eD ac)))))))
theorem D7(En:En K mg ad)  : O2 P w K mg base ad:=by
 refine dX (k:=0) (T:=uH ad) En.F_q3 Dh fun cdv A outer s H E B EE hr ux=>?_;have hU:=hr.units;have hu:=bn hr;unfold uH
 exact (af (bj (aG v8 (aA aY rfl En.z_len bA (a8 (bO En.c_Walk En.n_Walk_steps (ai 0)) ac)) (bO En.c_Walk En.n_Walk_most (ai 0)) (aF _)) (ag (jY En.x_Dry En.mC_Dry ux rfl)) aK)
  (ag (cr (qO (Or.inl rfl) PySem.F.plainAttrs_list PySem.F.slot_list_append PySem.F.type_list_append fF (bO En.c_Walk En.n_Walk_steps (ai 0)) (a8 (bp (a8 (ai 1) (a8 (ai 2) ac))) ac)))))
theorem Be(En:En K mg ad)(G_q3:O2 P w K mg base ad):O3 P w K mg base ad:=by
 refine dX (k:=1) (T:=mT ad) En.F_q18 sc_q18 fun cdv A outer s H E B EE hr ux=>?_;have hU:=hr.units;have hu:=bn hr;unfold mT
 exact (af (aJ (i:=3) sc_q18.nd rfl (Or.inl rfl) (eE (aG (bE hU) (aw (aj hu) (bO En.c_Walk En.n_Walk_numbers (ai 0)) (ai 2) (fun _ _=>rfl)) ae (aF _)) ae ae))
  (af (cr (cq (ai 0) En.c_Walk En.me_q3 G_q3 (hr.mono (by decide)) En.b_q3 aH ux (a8 (ai 1) (a8 (ai 3) ac))))
  (ag (ay (ai 3)))))
theorem BN(En:En K mg ad)  : O4 P w K mg base ad:=by
 refine dX (k:=0) (T:=oj ad) En.F_q30 Br fun cdv A outer s H E B EE hr ux=>?_;have hU:=hr.units;have hu:=bn hr;unfold oj
 exact (af (bj (aG (bE hU) (ai 0) bo (aF _)) (ag (ay (aP cu (am (aP bh (ai 1) (ai 2))) (ai 3)))) aK)
  (af (bj (aG (bE hU) (ai 0) bo (aF _)) (ag (ay (aP cu (aP cH (ai 1) (ai 2)) (ai 3)))) aK)
  (af (bj (aG (bE hU) (ai 0) bo (aF _)) (ag (ay (eE (aG pR (ai 1) (ai 2) (aF _)) ae ae))) aK)
  (ag (ay (eE (aG (bE hU) (ai 1) (ai 2) (aF _)) ae ae))))))
theorem Dc(En:En K mg ad)  : O5 P w K mg base ad:=by
 refine dX (k:=0) (T:=nL ad) En.F_q9 Ej fun cdv A outer s H E B EE hr ux=>?_;have hU:=hr.units;have hu:=bn hr;unfold nL
 exact (af (bj (aG (bE hU) (aw (aj hu) (ai 2) ae (fun _ _=>rfl)) bo (aF _)) (ag (ay (aw (aj hu) (ai 2) ae (fun _ _=>rfl)))) aK)
  (af (bj (aG (bE hU) (aw (aj hu) (ai 2) ae (fun _ _=>rfl)) bo (aF _)) (ag (ay (aP cu (aw (aj hu) (ai 1) (aw (aj hu) (ai 2) ae (fun _ _=>rfl)) (fun _ _=>rfl)) (aw (aj hu) (ai 0) ae (fun _ _=>rfl))))) aK)
  (ag (ay fD))))
theorem AJ(En:En K mg ad)(G_q30:O4 P w K mg base ad)(G_q9:O5 P w K mg base ad):O6 P w K mg base ad:=by
 refine dX (k:=1) (T:=ib ad) En.F_q13 sc_q13 fun cdv A outer s H E B EE hr ux=>?_;have hU:=hr.units;have hu:=bn hr;unfold ib
 exact (af (bj (aG (bE hU) (aw (aj hu) (ai 3) ae (fun _ _=>rfl)) bo (aF _)) (ag (ay (aw (aj hu) (ai 3) ae (fun _ _=>rfl)))) aK)
  (af (aJ (i:=4) sc_q13.nd rfl (Or.inl rfl) (am (av G_q9 (hr.mono (by decide)) rfl En.m_q9 En.k_q9 En.b_q9 aH ux (a8 (ai 0) (a8 (ai 1) (a8 (ai 3) ac))))))
  (af (bj (aG uR (ai 4) fD (aF _)) (ag (ay (aw (aj hu) (ai 2) (ai 4) (fun _ _=>rfl)))) aK)
  (ag (ay (av G_q30 (hr.mono (by decide)) rfl En.m_q30 En.k_q30 En.b_q30 aH ux (a8 (aw (aj hu) (ai 3) ae (fun _ _=>rfl)) (a8 (aw (aj hu) (ai 1) (aw (aj hu) (ai 3) ae (fun _ _=>rfl)) (fun _ _=>rfl)) (a8 (aw (aj hu) (ai 1) (aw (aj hu) (ai 3) ae (fun _ _=>rfl)) (fun _ _=>rfl)) (a8 (aw (aj hu) (ai 0) ae (fun _ _=>rfl)) ac))))))))))
theorem n0(En:En K mg ad)(G_q18:O3 P w K mg base ad)(G_q3:O2 P w K mg base ad)(G_q13:O6 P w K mg base ad)(n:Nat)(G_q24:FnOk P w K mg base (bP P w) (2+n) ad.a_q24 ad.d_q24 ["walk","rows","place"] (aq K 3 (S_q24 ad n)))(G_q32:FnOk P w K mg base (bP P w) (2+n) ad.a_q32 ad.d_q32 ["walk","row","place"] (aq K 3 (S_q32 ad n)))(G_q33:FnOk P w K mg base (bP P w) (2+n) ad.a_q33 ad.d_q33 ["walk","row","place"] (aq K 3 (S_q33 ad n)))(G_q22:FnOk P w K mg base (bP P w) (2+n) ad.a_q22 ad.d_q22 ["walk","row","place"] (aq K 3 (S_q22 ad n))):FnOk P w K mg base (bP P w) (2+n+1) ad.a_q24 ad.d_q24 ["walk","rows","place"] (aq K 3 (S_q24 ad (n+1))):=by
 refine dX (k:=2+n) (T:=T_q24 ad (S_q24 ad n) (S_q32 ad n) (S_q33 ad n) (S_q22 ad n)) En.F_q24 sc_q24 fun cdv A outer s H E B EE hr ux=>?_;have hU:=hr.units;have hu:=bn hr;unfold T_q24;exact (ag (lS PassesOwn.leaving rfl (yj rfl En.z_enumerate (a8 (ai 1) ac)) (fO (n:=2) rfl (bK (aT (i:=3) sc_q24.nd rfl (Or.inl rfl)) (bK (aT (i:=4) sc_q24.nd rfl (Or.inl rfl)) dR))) (ag (cr (av G_q32 (hr.mono (by lia)) rfl En.m_q32 En.k_q32 En.b_q32 aH ux (a8 (ai 0) (a8 (ai 4) (a8 (aP bh (ai 2) (bp (a8 (ai 3) ac))) ac))))))))
theorem pU(En:En K mg ad)(G_q18:O3 P w K mg base ad)(G_q3:O2 P w K mg base ad)(G_q13:O6 P w K mg base ad)(n:Nat)(G_q24:FnOk P w K mg base (bP P w) (2+n) ad.a_q24 ad.d_q24 ["walk","rows","place"] (aq K 3 (S_q24 ad n)))(G_q32:FnOk P w K mg base (bP P w) (2+n) ad.a_q32 ad.d_q32 ["walk","row","place"] (aq K 3 (S_q32 ad n)))(G_q33:FnOk P w K mg base (bP P w) (2+n) ad.a_q33 ad.d_q33 ["walk","row","place"] (aq K 3 (S_q33 ad n)))(G_q22:FnOk P w K mg base (bP P w) (2+n) ad.a_q22 ad.d_q22 ["walk","row","place"] (aq K 3 (S_q22 ad n))):FnOk P w K mg base (bP P w) (2+n+1) ad.a_q32 ad.d_q32 ["walk","row","place"] (aq K 3 (S_q32 ad (n+1))):=by
 refine dX (k:=2+n) (T:=fq ad (S_q24 ad n) (S_q32 ad n) (S_q33 ad n) (S_q22 ad n)) En.F_q32 sc_q32 fun cdv A outer s H E B EE hr ux=>?_;have hU:=hr.units;have hu:=bn hr;unfold fq
 exact (ag (bj (aG (bE hU) (aw (aj hu) (ai 1) ae (fun _ _=>rfl)) bo (aF _)) (ag (cr (av G_q33 (hr.mono (by lia)) rfl En.m_q33 En.k_q33 En.b_q33 aH ux (a8 (ai 0) (a8 (ai 1) (a8 (ai 2) ac)))))) (ag (bj (aG (bE hU) (aw (aj hu) (ai 1) ae (fun _ _=>rfl)) bo (aF _)) (ag (cr (av G_q22 (hr.mono (by lia)) rfl En.m_q22 En.k_q22 En.b_q22 aH ux (a8 (ai 0) (a8 (ai 1) (a8 (ai 2) ac)))))) (af (aJ (i:=3) sc_q32.nd rfl (Or.inl rfl) (am (av G_q13 (hr.mono (by lia)) rfl En.m_q13 En.k_q13 En.b_q13 aH ux (a8 (bO En.c_Walk En.n_Walk_plan (ai 0)) (a8 (bO En.c_Walk En.n_Walk_numbers (ai 0)) (a8 (bO En.c_Walk En.n_Walk_pieces (ai 0)) (a8 (ai 1) ac)))))))
    (af (cr (cq (ai 0) En.c_Walk En.me_q3 G_q3 (hr.mono (by lia)) En.b_q3 aH ux (a8 (ai 2) (a8 (ai 3) ac))))
    (ag (fJ (ai 3) (ji hu (bO En.c_Walk En.n_Walk_numbers (ai 0)) (aw (aj hu) (ai 1) ae (fun _ _=>rfl)))))))))))
theorem tJ(En:En K mg ad)(G_q18:O3 P w K mg base ad)(G_q3:O2 P w K mg base ad)(G_q13:O6 P w K mg base ad)(n:Nat)(G_q24:FnOk P w K mg base (bP P w) (2+n) ad.a_q24 ad.d_q24 ["walk","rows","place"] (aq K 3 (S_q24 ad n)))(G_q32:FnOk P w K mg base (bP P w) (2+n) ad.a_q32 ad.d_q32 ["walk","row","place"] (aq K 3 (S_q32 ad n)))(G_q33:FnOk P w K mg base (bP P w) (2+n) ad.a_q33 ad.d_q33 ["walk","row","place"] (aq K 3 (S_q33 ad n)))(G_q22:FnOk P w K mg base (bP P w) (2+n) ad.a_q22 ad.d_q22 ["walk","row","place"] (aq K 3 (S_q22 ad n))):FnOk P w K mg base (bP P w) (2+n+1) ad.a_q33 ad.d_q33 ["walk","row","place"] (aq K 3 (S_q33 ad (n+1))):=by
 refine dX (k:=2+n) (T:=T_q33 ad (S_q24 ad n) (S_q32 ad n) (S_q33 ad n) (S_q22 ad n)) En.F_q33 sc_q33 fun cdv A outer s H E B EE hr ux=>?_;have hU:=hr.units;have hu:=bn hr;unfold T_q33
 exact (af (aJ (i:=3) sc_q33.nd rfl (Or.inl rfl) (am (cq (ai 0) En.c_Walk En.me_q18 G_q18 (hr.mono (by lia)) En.b_q18 aH ux (a8 (ai 2) (a8 (aw (aj hu) (ai 1) ae (fun _ _=>rfl)) ac)))))
  (ag (cr (av G_q24 (hr.mono (by lia)) rfl En.m_q24 En.k_q24 En.b_q24 aH ux (a8 (ai 0) (a8 (eE (aG (bE hU) (ai 3) ae (aF _)) (aw (aj hu) (ai 1) ae (fun _ _=>rfl)) (aw (aj hu) (ai 1) ae (fun _ _=>rfl))) (a8 (aP bh (ai 2) (bp (a8 (ai 3) ac))) ac)))))))
theorem lI(En:En K mg ad)(G_q18:O3 P w K mg base ad)(G_q3:O2 P w K mg base ad)(G_q13:O6 P w K mg base ad)(n:Nat)(G_q24:FnOk P w K mg base (bP P w) (2+n) ad.a_q24 ad.d_q24 ["walk","rows","place"] (aq K 3 (S_q24 ad n)))(G_q32:FnOk P w K mg base (bP P w) (2+n) ad.a_q32 ad.d_q32 ["walk","row","place"] (aq K 3 (S_q32 ad n)))(G_q33:FnOk P w K mg base (bP P w) (2+n) ad.a_q33 ad.d_q33 ["walk","row","place"] (aq K 3 (S_q33 ad n)))(G_q22:FnOk P w K mg base (bP P w) (2+n) ad.a_q22 ad.d_q22 ["walk","row","place"] (aq K 3 (S_q22 ad n))):FnOk P w K mg base (bP P w) (2+n+1) ad.a_q22 ad.d_q22 ["walk","row","place"] (aq K 3 (S_q22 ad (n+1))):=by
 refine dX (k:=2+n) (T:=T_q22 ad (S_q24 ad n) (S_q32 ad n) (S_q33 ad n) (S_q22 ad n)) En.F_q22 sc_q22 fun cdv A outer s H E B EE hr ux=>?_;have hU:=hr.units;have hu:=bn hr;unfold T_q22
 exact (af (aJ (i:=3) sc_q22.nd rfl (Or.inl rfl) ae)
  (ag (jc PassesOwn.leaving (aG (bE hU) (am (cq (ai 0) En.c_Walk En.me_q18 G_q18 (hr.mono (by lia)) En.b_q18 aH ux (a8 (aP bh (ai 2) (bp (a8 (ai 3) ac))) (a8 (aw (aj hu) (ai 1) ae (fun _ _=>rfl)) ac)))) ae (aF _)) (af (cr (av G_q24 (hr.mono (by lia)) rfl En.m_q24 En.k_q24 En.b_q24 aH ux (a8 (ai 0) (a8 (aw (aj hu) (ai 1) ae (fun _ _=>rfl)) (a8 (aP bh (ai 2) (bp (a8 (ai 3) ac))) ac)))))
   (ag (pT (i:=3) sc_q22.nd rfl (Or.inl rfl) ae lN))))))
theorem hV(En:En K mg ad)(G_q18:O3 P w K mg base ad)(G_q3:O2 P w K mg base ad)(G_q13:O6 P w K mg base ad):∀n:Nat,FnOk P w K mg base (bP P w) (2+n) ad.a_q24 ad.d_q24 ["walk","rows","place"] (aq K 3 (S_q24 ad n))/\FnOk P w K mg base (bP P w) (2+n) ad.a_q32 ad.d_q32 ["walk","row","place"] (aq K 3 (S_q32 ad n))/\FnOk P w K mg base (bP P w) (2+n) ad.a_q33 ad.d_q33 ["walk","row","place"] (aq K 3 (S_q33 ad n))/\FnOk P w K mg base (bP P w) (2+n) ad.a_q22 ad.d_q22 ["walk","row","place"] (aq K 3 (S_q22 ad n))
 |0=>⟨gO,gO,gO,gO⟩
 |n+1=>by
  obtain ⟨G_q24,G_q32,G_q33,G_q22⟩:=hV En G_q18 G_q3 G_q13 n;exact ⟨n0 En G_q18 G_q3 G_q13 n G_q24 G_q32 G_q33 G_q22,pU En G_q18 G_q3 G_q13 n G_q24 G_q32 G_q33 G_q22,tJ En G_q18 G_q3 G_q13 n G_q24 G_q32 G_q33 G_q22,lI En G_q18 G_q3 G_q13 n G_q24 G_q32 G_q33 G_q22⟩
theorem BJ(En:En K mg ad)(G_q4:O1 P w K mg base ad)(G_q24:FnOk P w K mg base (bP P w) 26 ad.a_q24 ad.d_q24 ["walk","rows","place"] (aq K 3 (S_q24 ad 24))):O7 P w K mg base ad:=by
 refine dX (k:=26) (T:=o6 ad) En.F_q36 sc_q36 fun cdv A outer s H E B EE hr ux=>?_;have hU:=hr.units;have hu:=bn hr;unfold o6
 exact (af (aJ (i:=3) sc_q36.nd rfl (Or.inr rfl) (iS En.mk_Walk G_q4 (hr.mono (by decide)) rfl En.mC_Walk En.b_q4 aH ux (a8 (ai 0) (a8 (ai 1) (a8 (ai 2) ac)))))
  (af (qE (C:=ad.C_Dry) rfl rfl G_q24 (hr.mono (by decide)) rfl En.m_q24 En.k_q24 En.b_q24 (a8 (ai 3) (a8 (aw (aj hu) (ai 0) ae (fun _ _=>rfl)) (a8 (bp ac) ac))) En.x_Dry rfl En.mC_Dry (fun ea=>(ag (ay (bp (a8 (bO En.c_Walk En.n_Walk_steps (ai 3)) (a8 fD ac)))))))
  (ag (ay (bp (a8 (bO En.c_Walk En.n_Walk_steps (ai 3)) (a8 (br bv rfl En.z_tuple bt (a8 (am (bT (ls:=["name"]) (fs:=["walk"]) (js:=[3]) rfl (cn (cs:=[s.heap.objs.size+1]) rfl (by decide +kernel) (by decide +kernel) rfl rfl (eM rfl ij) (.cons rfl (.inl rfl) (.inl rfl) .nil)) (cN (aw (aj hu) (ai 0) ae (fun _ _=>rfl))) (fun C' s₀ H₀ fp pl'=>⟨(aT (i:=0) (show List.Nodup [("name":Str),("walk":Str)] from (by decide +kernel)) rfl (Or.inl rfl)),c9,(aw (aj hu) (bO En.c_Walk En.n_Walk_numbers (ai 1)) (ai 0) (fun _ _=>rfl))⟩))) ac)) ac)))))))
theorem Bm(En:En K mg ad)(G_q36:O7 P w K mg base ad):O8 P w K mg base ad:=by
 refine dX (k:=27) (T:=oy ad) En.F_q35 sc_q35 fun cdv A outer s H E B EE hr ux=>?_;have hU:=hr.units;have hu:=bn hr;unfold oy
 exact (af (aJ (i:=3) sc_q35.nd rfl (Or.inl rfl) (aw (aj hu) (lT (av G_q36 (hr.mono (by decide)) rfl En.m_q36 En.k_q36 En.b_q36 aH ux (a8 (ai 0) (a8 (ai 1) (a8 (ai 2) ac))))) ae (fun _ _=>rfl)))
  (af (bj (aG kP (ai 3) fD (aF _)) (ag (ay fD)) aK)
  (ag (ay (aw (aj hu) (ai 3) (zE PySem.F.slot_tuple_index PySem.F.type_tuple_index jd (aw (aj hu) (ai 0) ae (fun _ _=>rfl)) (a8 (aw (aj hu) (ai 0) ae (fun _ _=>rfl)) ac)) (fun _ _=>rfl))))))
theorem A8(En:En K mg ad)  : O9 P w K mg base ad:=by
 refine dX (k:=0) (T:=nA ad) En.F_q10 Au fun cdv A outer s H E B EE hr ux=>?_;have hU:=hr.units;have hu:=bn hr;unfold nA;exact (ag (ay (aP bh (am (br fH rfl En.z_list bt_list' (a8 (aw (aj hu) (ai 0) ae (fun _ _=>rfl)) ac))) (am (j6 rfl rfl En.z_range rfl En.z_list (a8 (aw (aj hu) (ai 0) ae (fun _ _=>rfl)) ac))))))
theorem Ax(En:En K mg ad)  : O10 P w K mg base ad:=by
 refine dX (k:=0) (T:=kf ad) En.F_q17 Ba fun cdv A outer s H E B EE hr ux=>?_;have hU:=hr.units;have hu:=bn hr;unfold kf
 exact (af (bj (cO (aA bi rfl En.z_isinstance aW (a8 (ai 2) (a8 (eG rfl En.z_str xH) ac)))) (ag (ay (aw (aj hu) (aw (aj hu) (ai 1) ae (fun _ _=>rfl)) (zE PySem.F.slot_tuple_index PySem.F.type_tuple_index jd (aw (aj hu) (ai 0) ae (fun _ _=>rfl)) (a8 (ai 2) ac)) (fun _ _=>rfl)))) aK)
  (ag (ay (aw (aj hu) (aw (aj hu) (ai 1) ae (fun _ _=>rfl)) (ai 2) (fun _ _=>rfl)))))
theorem nB(En:En K mg ad)  (n:Nat)(G_q27:FnOk P w K mg base (bP P w) (0+n) ad.a_q27 ad.d_q27 ["thing","told"] (aq K 2 (S_q27 ad n)))(G_q20:FnOk P w K mg base (bP P w) (0+n) ad.a_q20 ad.d_q20 ["things","told"] (aq K 2 (S_q20 ad n))):FnOk P w K mg base (bP P w) (0+n+1) ad.a_q27 ad.d_q27 ["thing","told"] (aq K 2 (S_q27 ad (n+1))):=by
 refine dX (k:=0+n) (T:=kj ad (S_q27 ad n) (S_q20 ad n)) En.F_q27 Bj fun cdv A outer s H E B EE hr ux=>?_;have hU:=hr.units;have hu:=bn hr;unfold kj
 exact (af (bj (cO (aA bi rfl En.z_isinstance aW (a8 (ai 1) (a8 (eG rfl En.z_tuple bt) ac)))) (ag (ay (fN (aA bi rfl En.z_isinstance aW (a8 (ai 0) (a8 (eG rfl En.z_tuple bt) ac))) (gR (am (av G_q20 (hr.mono (by lia)) rfl En.m_q20 En.k_q20 En.b_q20 aH ux (a8 (ai 0) (a8 (ai 1) ac)))))))) aK)
  (af (bj (cO (aA bi rfl En.z_isinstance aW (a8 (ai 1) (a8 (eG rfl En.z_list bt_list') ac)))) (ag (ay (fN (aA bi rfl En.z_isinstance aW (a8 (ai 0) (a8 (eG rfl En.z_list bt_list') ac))) (gR (am (av G_q20 (hr.mono (by lia)) rfl En.m_q20 En.k_q20 En.b_q20 aH ux (a8 (ai 0) (a8 (ai 1) ac)))))))) aK)
  (ag (ay (fN (fL (bE hU) (aA bi rfl En.z_isinstance aW (a8 (ai 0) (a8 (eG rfl En.z_bool ou) ac))) (aA bi rfl En.z_isinstance aW (a8 (ai 1) (a8 (eG rfl En.z_bool ou) ac))) (aF _)) (gR (fL (bE hU) (ai 0) (ai 1) (aF _))))))))
theorem kY(En:En K mg ad)  (n:Nat)(G_q27:FnOk P w K mg base (bP P w) (0+n) ad.a_q27 ad.d_q27 ["thing","told"] (aq K 2 (S_q27 ad n)))(G_q20:FnOk P w K mg base (bP P w) (0+n) ad.a_q20 ad.d_q20 ["things","told"] (aq K 2 (S_q20 ad n))):FnOk P w K mg base (bP P w) (0+n+1) ad.a_q20 ad.d_q20 ["things","told"] (aq K 2 (S_q20 ad (n+1))):=by
 refine dX (k:=0+n) (T:=nE ad (S_q27 ad n) (S_q20 ad n)) En.F_q20 AI fun cdv A outer s H E B EE hr ux=>?_;have hU:=hr.units;have hu:=bn hr;unfold nE
 exact (af (bj (aG (fK hU) (aA aY rfl En.z_len bA (a8 (ai 0) ac)) (aA aY rfl En.z_len bA (a8 (ai 1) ac)) (aF _)) (ag (ay cJ)) aK)
  (ag (ay (aA (gB rfl) rfl En.z_all lc (a8 (am (bT (ls:=["thing","one"]) (fs:=[]) (js:=[]) rfl (iD rfl (by decide +kernel) (by decide +kernel)) (z_ rfl En.z_zip (a8 (ai 0) (a8 (ai 1) ac))) (fun C' s₀ H₀ fp pl'=>⟨(fO (n:=2) rfl (bK (aT (i:=0) (show List.Nodup [("thing":Str),("one":Str)] from (by decide +kernel)) rfl (Or.inl rfl)) (bK (aT (i:=1) (show List.Nodup [("thing":Str),("one":Str)] from (by decide +kernel)) rfl (Or.inl rfl)) dR))),c9,(am (av G_q27 (hr.mono (by lia)) rfl En.m_q27 En.k_q27 En.b_q27 dP z6 (a8 (ai 0) (a8 (ai 1) ac))))⟩))) ac)))))
theorem hW(En:En K mg ad)  : ∀n:Nat,FnOk P w K mg base (bP P w) (0+n) ad.a_q27 ad.d_q27 ["thing","told"] (aq K 2 (S_q27 ad n))/\FnOk P w K mg base (bP P w) (0+n) ad.a_q20 ad.d_q20 ["things","told"] (aq K 2 (S_q20 ad n))
 |0=>⟨gO,gO⟩
 |n+1=>by
  obtain ⟨G_q27,G_q20⟩:=hW En  n;exact ⟨nB En  n G_q27 G_q20,kY En  n G_q27 G_q20⟩
theorem Ag(En:En K mg ad)(G_q10:O9 P w K mg base ad)(G_q17:O10 P w K mg base ad):O11 P w K mg base ad:=by
 refine dX (k:=1) (T:=ni ad) En.F_q28 Aj fun cdv A outer s H E B EE hr ux=>?_;have hU:=hr.units;have hu:=bn hr;unfold ni;exact (ag (ay (bT (ls:=["thing"]) (fs:=["plan","other","one"]) (js:=[0,2,1]) rfl (cn (cs:=[s.heap.objs.size+1,s.heap.objs.size+3,s.heap.objs.size+2]) rfl (by decide +kernel) (by decide +kernel) rfl rfl (eM rfl (eM rfl (eM rfl ij))) (.cons rfl (.inl rfl) (.inl rfl) (.cons rfl (.inl rfl) (.inl rfl) (.cons rfl (.inl rfl) (.inl rfl) .nil)))) (cN (am (av G_q10 (hr.mono (by decide)) rfl En.m_q10 En.k_q10 En.b_q10 aH ux (a8 (ai 0) ac)))) (fun C' s₀ H₀ fp pl'=>⟨(aT (i:=0) (show List.Nodup [("thing":Str),("plan":Str),("other":Str),("one":Str)] from (by decide +kernel)) rfl (Or.inl rfl)),(lD (aG (fK hU) (am (av G_q17 (hr.mono (by decide)) rfl En.m_q17 En.k_q17 En.b_q17 dP z6 (a8 (ai 1) (a8 (ai 3) (a8 (ai 0) ac))))) (am (av G_q17 (hr.mono (by decide)) rfl En.m_q17 En.k_q17 En.b_q17 dP z6 (a8 (ai 1) (a8 (ai 2) (a8 (ai 0) ac))))) (aF _))),(ai 0)⟩))))
theorem B9(En:En K mg ad)(G_q35:O8 P w K mg base ad):O12 P w K mg base ad:=by
 refine dX (k:=28) (T:=nU ad) En.F_q34 sc_q34 fun cdv A outer s H E B EE hr ux=>?_;have hU:=hr.units;have hu:=bn hr;unfold nU
 exact (af (aJ (i:=1) sc_q34.nd rfl (Or.inl rfl) (am (av G_q35 (hr.mono (by decide)) rfl En.m_q35 En.k_q35 En.b_q35 aH ux (a8 (aw (aj hu) (ai 0) ae (fun _ _=>rfl)) (a8 (aw (aj hu) (ai 0) ae (fun _ _=>rfl)) (a8 (aw (aj hu) (ai 0) ae (fun _ _=>rfl)) ac))))))
  (af (aJ (i:=2) sc_q34.nd rfl (Or.inl rfl) (am (av G_q35 (hr.mono (by decide)) rfl En.m_q35 En.k_q35 En.b_q35 aH ux (a8 (aw (aj hu) (ai 0) ae (fun _ _=>rfl)) (a8 (aw (aj hu) (ai 0) ae (fun _ _=>rfl)) (a8 (aw (aj hu) (ai 0) ae (fun _ _=>rfl)) ac))))))
  (af (bj (ie (i8 (aG kP (ai 1) fD (aF _)) (fM (aG kP (ai 2) fD (aF _))))) (ag (jY En.x_NoCase En.mC_NoCase ux rfl)) aK)
  (af (bj (aG (bE hU) (ai 1) (ai 2) (aF _)) (ag (jY En.x_NoCase En.mC_NoCase ux rfl)) aK)
  (ag (ay (bp (a8 (ai 1) (a8 (ai 2) ac)))))))))
theorem AW(En:En K mg ad)(G_q28:O11 P w K mg base ad):O13 P w K mg base ad:=by
 refine dX (k:=2) (T:=oq ad) En.F_q19 C7 fun cdv A outer s H E B EE hr ux=>?_;have hU:=hr.units;have hu:=bn hr;unfold oq;exact (ag (ay (av G_q28 (hr.mono (by decide)) rfl En.m_q28 En.k_q28 En.b_q28 aH ux (a8 (aw (aj hu) (ai 0) ae (fun _ _=>rfl)) (a8 (aw (aj hu) (ai 0) ae (fun _ _=>rfl)) (a8 (aw (aj hu) (ai 0) ae (fun _ _=>rfl)) ac))))))
theorem A0(En:En K mg ad)(G_q27:O14 P w K mg base ad):O15 P w K mg base ad:=by
 refine dX (k:=24) (T:=nS ad) En.F_q31 Aq fun cdv A outer s H E B EE hr ux=>?_;have hU:=hr.units;have hu:=bn hr;unfold nS;exact (ag (ay (fN (aA bi rfl En.z_isinstance aW (a8 (ai 1) (a8 (eG rfl En.z_list bt_list') ac))) (gR (am (av G_q27 (hr.mono (by decide)) rfl En.m_q27 En.k_q27 En.b_q27 aH ux (a8 (ai 1) (a8 (am (bT (ls:=["one"]) (fs:=["thing"]) (js:=[1]) rfl (cn (cs:=[s.heap.objs.size+1]) rfl (by decide +kernel) (by decide +kernel) rfl rfl (eM rfl ij) (.cons rfl (.inl rfl) (.inl rfl) .nil)) (cN (ai 0)) (fun C' s₀ H₀ fp pl'=>⟨(aT (i:=0) (show List.Nodup [("one":Str),("thing":Str)] from (by decide +kernel)) rfl (Or.inl rfl)),(lD (aG (wE hU) (ai 0) (ai 1) (by rfl))),(ai 0)⟩))) ac))))))))
theorem Cm(En:En K mg ad)(G_q17:O10 P w K mg base ad):O16 P w K mg base ad:=by
 refine dX (k:=1) (T:=vm ad) En.F_q5 CA fun cdv A outer s H E B EE hr ux=>?_;have hU:=hr.units;have hu:=bn hr;unfold vm;exact (ag (ay (av G_q17 (hr.mono (by decide)) rfl En.m_q17 En.k_q17 En.b_q17 aH ux (a8 (aw (aj hu) (ai 0) ae (fun _ _=>rfl)) (a8 (eE (aG (wE hU) (ai 2) (ai 1) (by rfl)) (aw (aj hu) (ai 0) ae (fun _ _=>rfl)) (aw (aj hu) (ai 0) ae (fun _ _=>rfl))) (a8 (ai 2) ac))))))
theorem C4(En:En K mg ad)(G_q5:O16 P w K mg base ad):O17 P w K mg base ad:=by
 refine dX (k:=2) (T:=oW ad) En.F_q23 sc_q23 fun cdv A outer s H E B EE hr ux=>?_;have hU:=hr.units;have hu:=bn hr;unfold oW
 exact (af (aJ (i:=2) sc_q23.nd rfl (Or.inl rfl) (aw (aj hu) (aw (aj hu) (ai 0) ae (fun _ _=>rfl)) ae (fun _ _=>rfl)))
  (af (aJ (i:=3) sc_q23.nd rfl (Or.inl rfl) (am (j6 rfl rfl En.z_range rfl En.z_list (a8 (aw (aj hu) (aw (aj hu) (ai 0) ae (fun _ _=>rfl)) ae (fun _ _=>rfl)) ac))))
  (ag (ay (bp (a8 (br bv rfl En.z_tuple bt (a8 (am (bT (ls:=["name"]) (fs:=["mix","case"]) (js:=[1,0]) rfl (cn (cs:=[s.heap.objs.size+2,s.heap.objs.size+1]) rfl (by decide +kernel) (by decide +kernel) rfl rfl (eM rfl (eM rfl ij)) (.cons rfl (.inl rfl) (.inl rfl) (.cons rfl (.inl rfl) (.inl rfl) .nil))) (cN (ai 2)) (fun C' s₀ H₀ fp pl'=>⟨(aT (i:=0) (show List.Nodup [("name":Str),("mix":Str),("case":Str)] from (by decide +kernel)) rfl (Or.inl rfl)),c9,(am (av G_q5 (hr.mono (by decide)) rfl En.m_q5 En.k_q5 En.b_q5 dP z6 (a8 (ai 2) (a8 (ai 1) (a8 (ai 0) ac)))))⟩))) ac)) (a8 (br bv rfl En.z_tuple bt (a8 (am (bT (ls:=["piece"]) (fs:=["mix","case"]) (js:=[1,0]) rfl (cn (cs:=[s.heap.objs.size+2,s.heap.objs.size+1]) rfl (by decide +kernel) (by decide +kernel) rfl rfl (eM rfl (eM rfl ij)) (.cons rfl (.inl rfl) (.inl rfl) (.cons rfl (.inl rfl) (.inl rfl) .nil))) (cN (ai 3)) (fun C' s₀ H₀ fp pl'=>⟨(aT (i:=0) (show List.Nodup [("piece":Str),("mix":Str),("case":Str)] from (by decide +kernel)) rfl (Or.inl rfl)),c9,(am (av G_q5 (hr.mono (by decide)) rfl En.m_q5 En.k_q5 En.b_q5 dP z6 (a8 (ai 2) (a8 (ai 1) (a8 (ai 0) ac)))))⟩))) ac)) ac)))))))
theorem Ab(En:En K mg ad)  : O18 P w K mg base ad:=by
 refine dX (k:=0) (T:=kI ad) En.F_q12 BD fun cdv A outer s H E B EE hr ux=>?_;have hU:=hr.units;have hu:=bn hr;unfold kI
 exact (af (bj (aG (bE hU) (ai 1) (aw (aj hu) (ai 0) ae (fun _ _=>rfl)) (aF _)) (ag (ay bo)) aK)
  (af (bj (aG (bE hU) (ai 1) (aw (aj hu) (ai 0) ae (fun _ _=>rfl)) (aF _)) (ag (ay bo)) aK)
  (ag (ay bo))))
theorem De(En:En K mg ad)(G_q34:O12 P w K mg base ad):O19 P w K mg base ad:=by
 refine dX (k:=29) (T:=wt ad) En.F_q2 Ef fun cdv A outer s H E B EE hr ux=>?_;have hU:=hr.units;have hu:=bn hr;unfold wt
 exact (af (eR En.c_Askings En.n_Askings_case (ai 0) (ai 1))
  (af (eR En.c_Askings En.n_Askings_two (ai 0) (am (av G_q34 (hr.mono (by decide)) rfl En.m_q34 En.k_q34 En.b_q34 aH ux (a8 (ai 1) ac))))
  (ag (eR En.c_Askings En.n_Askings_told (ai 0) xq))))
theorem Dx(En:En K mg ad)(G_q35:O8 P w K mg base ad)(G_q23:O17 P w K mg base ad)(G_q12:O18 P w K mg base ad):O20 P w K mg base ad:=by
 refine dX (k:=28) (T:=uG ad) En.F_q8 Cw fun cdv A outer s H E B EE hr ux=>?_;have hU:=hr.units;have hu:=bn hr;unfold uG
 exact (af (bj (aG (gC hU) (br bv rfl En.z_tuple bt (a8 (ai 1) ac)) (bO En.c_Askings En.n_Askings_told (ai 0)) (by rfl)) (ag (fJ (am (av G_q12 (hr.mono (by decide)) rfl En.m_q12 En.k_q12 En.b_q12 aH ux (a8 (bO En.c_Askings En.n_Askings_two (ai 0)) (a8 (am (av G_q35 (hr.mono (by decide)) rfl En.m_q35 En.k_q35 En.b_q35 aH ux (a8 (aw (aj hu) (bO En.c_Askings En.n_Askings_case (ai 0)) ae (fun _ _=>rfl)) (a8 (am (av G_q23 (hr.mono (by decide)) rfl En.m_q23 En.k_q23 En.b_q23 aH ux (a8 (bO En.c_Askings En.n_Askings_case (ai 0)) (a8 (ai 1) ac)))) (a8 (aw (aj hu) (bO En.c_Askings En.n_Askings_case (ai 0)) ae (fun _ _=>rfl)) ac))))) ac)))) (ji hu (bO En.c_Askings En.n_Askings_told (ai 0)) (br bv rfl En.z_tuple bt (a8 (ai 1) ac))))) aK)
  (ag (ay (aw (aj hu) (bO En.c_Askings En.n_Askings_told (ai 0)) (br bv rfl En.z_tuple bt (a8 (ai 1) ac)) (fun _ _=>rfl)))))
theorem CZ(En:En K mg ad)(G_q8:O20 P w K mg base ad):O21 P w K mg base ad:=by
 refine dX (k:=29) (T:=vd ad) En.F_q1 Eb fun cdv A outer s H E B EE hr ux=>?_;have hU:=hr.units;have hu:=bn hr;unfold vd;exact (ag (ay (fL (bE hU) (am (cq (ai 0) En.c_Askings En.me_q8 G_q8 (hr.mono (by decide)) En.b_q8 aH ux (a8 (ai 1) ac))) bo (aF _))))
theorem AC(En:En K mg ad)(G_q1:O21 P w K mg base ad):O22 P w K mg base ad:=by
 refine dX (k:=30) (T:=oG ad) En.F_q29 sc_q29 fun cdv A outer s H E B EE hr ux=>?_;have hU:=hr.units;have hu:=bn hr;unfold oG
 exact (af (jc PassesOwn.leaving (aG mr (aA aY rfl En.z_len bA (a8 (ai 1) ac)) ae (aF _)) (af (aJ (i:=2) sc_q29.nd rfl (Or.inl rfl) (aP fZ (aA aY rfl En.z_len bA (a8 (ai 1) ac)) ae))
   (ag (bj (cO (am (cq (ai 0) En.c_Askings En.me_q1 G_q1 (hr.mono (by decide)) En.b_q1 aH ux (a8 (am (bY (ai 1) cz (cE (ai 2)))) ac)))) (ag (aJ (i:=1) sc_q29.nd rfl (Or.inl rfl) (am (bY (ai 1) cz (cE (ai 2)))))) (ag (bj (cO (am (cq (ai 0) En.c_Askings En.me_q1 G_q1 (hr.mono (by decide)) En.b_q1 aH ux (a8 (am (bY (ai 1) (cE (ai 2)) cz)) ac)))) (ag (aJ (i:=1) sc_q29.nd rfl (Or.inl rfl) (am (bY (ai 1) (cE (ai 2)) cz)))) (ag uo)))))))
  (ag (ay (ai 1))))
theorem BQ(En:En K mg ad)(G_q1:O21 P w K mg base ad):O23 P w K mg base ad:=by
 refine dX (k:=30) (T:=nh ad) En.F_q26 sc_q26 fun cdv A outer s H E B EE hr ux=>?_;have hU:=hr.units;have hu:=bn hr;unfold nh
 exact (af (aJ (i:=2) sc_q26.nd rfl (Or.inl rfl) ae)
  (af (aJ (i:=3) sc_q26.nd rfl (Or.inl rfl) ae)
  (af (jc PassesOwn.leaving (aG pR (ai 3) (aA aY rfl En.z_len bA (a8 (ai 1) ac)) (aF _)) (af (aJ (i:=2) sc_q26.nd rfl (Or.inl rfl) (aP cu (ai 2) (aA aY rfl En.z_len bA (a8 (ai 1) ac))))
   (af (aJ (i:=4) sc_q26.nd rfl (Or.inl rfl) (am (aP bh (am (bY (ai 1) cz (cE (ai 2)))) (am (bY (ai 1) (cE (aP bh (ai 2) ae)) cz)))))
   (ag (bj (cO (am (cq (ai 0) En.c_Askings En.me_q1 G_q1 (hr.mono (by decide)) En.b_q1 aH ux (a8 (ai 4) ac)))) (af (aJ (i:=1) sc_q26.nd rfl (Or.inl rfl) (ai 4))
    (ag (aJ (i:=3) sc_q26.nd rfl (Or.inl rfl) ae))) (af (pT (i:=2) sc_q26.nd rfl (Or.inl rfl) ae lN)
    (ag (pT (i:=3) sc_q26.nd rfl (Or.inl rfl) ae lN))))))))
  (ag (ay (ai 1))))))
theorem C8(En:En K mg ad)(G_q2:O19 P w K mg base ad)(G_q8:O20 P w K mg base ad)(G_q29:O22 P w K mg base ad)(G_q26:O23 P w K mg base ad)(G_q19:O13 P w K mg base ad):O24 P w K mg base ad:=by
 refine dX (k:=31) (T:=o5 ad) En.F_q21 sc_q21 fun cdv A outer s H E B EE hr ux=>?_;have hU:=hr.units;have hu:=bn hr;unfold o5
 exact (af (aJ (i:=1) sc_q21.nd rfl (Or.inl rfl) (iS En.mk_Askings G_q2 (hr.mono (by decide)) rfl En.mC_Askings En.b_q2 aH ux (a8 (ai 0) ac)))
  (af (aJ (i:=2) sc_q21.nd rfl (Or.inl rfl) (am (av G_q19 (hr.mono (by decide)) rfl En.m_q19 En.k_q19 En.b_q19 aH ux (a8 (ai 0) ac))))
  (af (cr (cq (ai 1) En.c_Askings En.me_q8 G_q8 (hr.mono (by decide)) En.b_q8 aH ux (a8 (ai 2) ac)))
  (af (aJ (i:=3) sc_q21.nd rfl (Or.inl rfl) (am (av G_q26 (hr.mono (by decide)) rfl En.m_q26 En.k_q26 En.b_q26 aH ux (a8 (ai 1) (a8 (am (av G_q29 (hr.mono (by decide)) rfl En.m_q29 En.k_q29 En.b_q29 aH ux (a8 (ai 1) (a8 (ai 2) ac)))) ac)))))
  (ag (ay (bp (a8 (bT (ls:=["mix","told"]) (fs:=[]) (js:=[]) rfl (iD rfl (by decide +kernel) (by decide +kernel)) (wS (bO En.c_Askings En.n_Askings_told (ai 1))) (fun C' s₀ H₀ fp pl'=>⟨(fO (n:=2) rfl (bK (aT (i:=0) (show List.Nodup [("mix":Str),("told":Str)] from (by decide +kernel)) rfl (Or.inl rfl)) (bK (aT (i:=1) (show List.Nodup [("mix":Str),("told":Str)] from (by decide +kernel)) rfl (Or.inl rfl)) dR))),c9,(bp (a8 (am (br fH rfl En.z_list bt_list' (a8 (ai 0) ac))) (a8 (ai 1) ac)))⟩)) (a8 (ai 3) ac)))))))))
theorem DU(En:En K mg ad)  : O25 P w K mg base ad:=by
 refine dX (k:=0) (T:=vX ad) En.F_q6 CM fun cdv A outer s H E B EE hr ux=>?_;have hU:=hr.units;have hu:=bn hr;unfold vX;exact (ag (ay (bT (ls:=["at"]) (fs:=["mix"]) (js:=[0]) rfl (cn (cs:=[s.heap.objs.size+1]) rfl (by decide +kernel) (by decide +kernel) rfl rfl (eM rfl ij) (.cons rfl (.inl rfl) (.inl rfl) .nil)) (dE rfl En.z_range (a8 (aA aY rfl En.z_len bA (a8 (ai 0) ac)) ac)) (fun C' s₀ H₀ fp pl'=>⟨(aT (i:=0) (show List.Nodup [("at":Str),("mix":Str)] from (by decide +kernel)) rfl (Or.inl rfl)),c9,(am (aP bh (am (bY (ai 1) cz (cE (ai 0)))) (am (bY (ai 1) (cE (aP bh (ai 0) ae)) cz))))⟩))))
theorem A2(En:En K mg ad)(G_q31:O15 P w K mg base ad):O26 P w K mg base ad:=by
 refine dX (k:=25) (T:=nO ad) En.F_q16 BT fun cdv A outer s H E B EE hr ux=>?_;have hU:=hr.units;have hu:=bn hr;unfold nO;exact (ag (ay (fN (aA bi rfl En.z_isinstance aW (a8 (ai 1) (a8 (eG rfl En.z_tuple bt) ac))) (fN (fL (bE hU) (aA aY rfl En.z_len bA (a8 (ai 1) ac)) ae (aF _)) (gR (am (av G_q31 (hr.mono (by decide)) rfl En.m_q31 En.k_q31 En.b_q31 aH ux (a8 (ai 0) (a8 (aw (aj hu) (ai 1) ae (fun _ _=>rfl)) ac)))))))))
theorem CG(En:En K mg ad)(G_q16:O26 P w K mg base ad)(G_q31:O15 P w K mg base ad):O27 P w K mg base ad:=by
 refine dX (k:=26) (T:=wF ad) En.F_q0 Cu fun cdv A outer s H E B EE hr ux=>?_;have hU:=hr.units;have hu:=bn hr;unfold wF
 exact (af (bj (ie (i8 (jl (cO (aA bi rfl En.z_isinstance aW (a8 (ai 1) (a8 (eG rfl En.z_tuple bt) ac))))) (i8 (aG (fK hU) (aA aY rfl En.z_len bA (a8 (ai 1) ac)) ae (aF _)) (fM (jl (cO (aA bi rfl En.z_isinstance aW (a8 (aw (aj hu) (ai 1) ae (fun _ _=>rfl)) (a8 (eG rfl En.z_list bt_list') ac))))))))) (ag (ay cJ)) aK)
  (af (bj (ie (i8 (aG (bE hU) (aA aY rfl En.z_len bA (a8 (aw (aj hu) (ai 1) ae (fun _ _=>rfl)) ac)) ae (aF _)) (fM (jl (cO (am (av G_q31 (hr.mono (by decide)) rfl En.m_q31 En.k_q31 En.b_q31 aH ux (a8 (ai 0) (a8 (aw (aj hu) (ai 1) ae (fun _ _=>rfl)) ac))))))))) (ag (ay cJ)) aK)
  (ag (ay (aA (gB rfl) rfl En.z_all lc (a8 (am (bT (ls:=["part"]) (fs:=["things"]) (js:=[0]) rfl (cn (cs:=[s.heap.objs.size+1]) rfl (by decide +kernel) (by decide +kernel) rfl rfl (eM rfl ij) (.cons rfl (.inl rfl) (.inl rfl) .nil)) (cN (aw (aj hu) (ai 1) ae (fun _ _=>rfl))) (fun C' s₀ H₀ fp pl'=>⟨(aT (i:=0) (show List.Nodup [("part":Str),("things":Str)] from (by decide +kernel)) rfl (Or.inl rfl)),c9,(am (av G_q16 (hr.mono (by decide)) rfl En.m_q16 En.k_q16 En.b_q16 dP z6 (a8 (ai 1) (a8 (ai 0) ac))))⟩))) ac))))))
theorem CS(En:En K mg ad)(G_q2:O19 P w K mg base ad)(G_q8:O20 P w K mg base ad)(G_q6:O25 P w K mg base ad)(G_q0:O27 P w K mg base ad)(G_q27:O14 P w K mg base ad)(G_q19:O13 P w K mg base ad):O28 P w K mg base ad:=by
 refine dX (k:=31) (T:=uI ad) En.F_q7 sc_q7 fun cdv A outer s H E B EE hr ux=>?_;have hU:=hr.units;have hu:=bn hr;unfold uI
 exact (af (aJ (i:=2) sc_q7.nd rfl (Or.inr rfl) (iS En.mk_Askings G_q2 (hr.mono (by decide)) rfl En.mC_Askings En.b_q2 aH ux (a8 (ai 0) ac)))
  (af (aJ (i:=3) sc_q7.nd rfl (Or.inl rfl) (am (av G_q19 (hr.mono (by decide)) rfl En.m_q19 En.k_q19 En.b_q19 aH ux (a8 (ai 0) ac))))
  (af (bj (jl (cO (am (av G_q0 (hr.mono (by decide)) rfl En.m_q0 En.k_q0 En.b_q0 aH ux (a8 (ai 3) (a8 (ai 1) ac)))))) (ag (ay cJ)) aK)
  (af (aJ (i:=4) sc_q7.nd rfl (Or.inr rfl) (br (nJ rfl hU) rfl En.z_dict uj (a8 (am (bT (ls:=["mix","verdict"]) (fs:=[]) (js:=[]) rfl (iD rfl (by decide +kernel) (by decide +kernel)) (cN (aw (aj hu) (ai 1) ae (fun _ _=>rfl))) (fun C' s₀ H₀ fp pl'=>⟨(fO (n:=2) rfl (bK (aT (i:=0) (show List.Nodup [("mix":Str),("verdict":Str)] from (by decide +kernel)) rfl (Or.inl rfl)) (bK (aT (i:=1) (show List.Nodup [("mix":Str),("verdict":Str)] from (by decide +kernel)) rfl (Or.inl rfl)) dR))),c9,(bp (a8 (br bv rfl En.z_tuple bt (a8 (ai 0) ac)) (a8 (ai 1) ac)))⟩))) ac)))
  (af (bj (ie (i8 (aG (fK hU) (aA pL rfl En.z_len bA (a8 (ai 4) ac)) (aA aY rfl En.z_len bA (a8 (aw (aj hu) (ai 1) ae (fun _ _=>rfl)) ac)) (aF _)) (fM (jl (cO (am (av G_q27 (hr.mono (by decide)) rfl En.m_q27 En.k_q27 En.b_q27 aH ux (a8 (aw (aj hu) (aw (aj hu) (aw (aj hu) (ai 1) ae (fun _ _=>rfl)) ae (fun _ _=>rfl)) ae (fun _ _=>rfl)) (a8 (ai 3) ac))))))))) (ag (ay cJ)) aK)
  (af (bj (aG (fK hU) (za hU (ai 4) (br bv rfl En.z_tuple bt (a8 (aw (aj hu) (ai 1) ae (fun _ _=>rfl)) ac)) ⟨rfl,rfl,rfl,rfl⟩) bo (aF _)) (ag (ay cJ)) aK)
  (af (bj (cO (aA (km rfl) rfl En.z_any qZ (a8 (am (bT (ls:=["less"]) (fs:=["told"]) (js:=[4]) rfl (cn (cs:=[s.heap.objs.size+2]) rfl (by decide +kernel) (by decide +kernel) rfl rfl (eM rfl ij) (.cons rfl (.inl rfl) (.inl rfl) .nil)) (cN (am (av G_q6 (hr.mono (by decide)) rfl En.m_q6 En.k_q6 En.b_q6 aH ux (a8 (aw (aj hu) (ai 1) ae (fun _ _=>rfl)) ac)))) (fun C' s₀ H₀ fp pl'=>⟨(aT (i:=0) (show List.Nodup [("less":Str),("told":Str)] from (by decide +kernel)) rfl (Or.inl rfl)),c9,(fL (bE hU) (zf hU (ai 1) (br bv rfl En.z_tuple bt (a8 (ai 0) ac)) bo ⟨rfl,rfl,rfl,rfl⟩) bo (aF _))⟩))) ac))) (ag (ay cJ)) aK)
  (ag (ay (aA (gB rfl) rfl En.z_all lc (a8 (am (bT (ls:=["mix","verdict"]) (fs:=["askings"]) (js:=[2]) rfl (cn (cs:=[s.heap.objs.size+1]) rfl (by decide +kernel) (by decide +kernel) rfl rfl (eM rfl ij) (.cons rfl (.inl rfl) (.inl rfl) .nil)) (cN (aw (aj hu) (ai 1) ae (fun _ _=>rfl))) (fun C' s₀ H₀ fp pl'=>⟨(fO (n:=2) rfl (bK (aT (i:=0) (show List.Nodup [("mix":Str),("verdict":Str),("askings":Str)] from (by decide +kernel)) rfl (Or.inl rfl)) (bK (aT (i:=1) (show List.Nodup [("mix":Str),("verdict":Str),("askings":Str)] from (by decide +kernel)) rfl (Or.inl rfl)) dR))),c9,(fL (bE hU) (am (cq (ai 2) En.c_Askings En.me_q8 G_q8 (hr.mono (by decide)) En.b_q8 dP z6 (a8 (ai 0) ac))) (ai 1) (aF _))⟩))) ac)))))))))))
theorem Bn(En:En K mg ad)(G_q2:O19 P w K mg base ad)(G_q1:O21 P w K mg base ad)(G_q6:O25 P w K mg base ad):O29 P w K mg base ad:=by
 refine dX (k:=31) (T:=nY ad) En.F_q25 sc_q25 fun cdv A outer s H E B EE hr ux=>?_;have hU:=hr.units;have hu:=bn hr;unfold nY
 exact (af (aJ (i:=2) sc_q25.nd rfl (Or.inr rfl) (iS En.mk_Askings G_q2 (hr.mono (by decide)) rfl En.mC_Askings En.b_q2 aH ux (a8 (ai 0) ac)))
  (ag (ay (fN (am (cq (ai 2) En.c_Askings En.me_q1 G_q1 (hr.mono (by decide)) En.b_q1 aH ux (a8 (ai 1) ac))) (gR (B3 (aA (km rfl) rfl En.z_any qZ (a8 (am (bT (ls:=["less"]) (fs:=["askings"]) (js:=[2]) rfl (cn (cs:=[s.heap.objs.size+1]) rfl (by decide +kernel) (by decide +kernel) rfl rfl (eM rfl ij) (.cons rfl (.inl rfl) (.inl rfl) .nil)) (cN (am (av G_q6 (hr.mono (by decide)) rfl En.m_q6 En.k_q6 En.b_q6 aH ux (a8 (ai 1) ac)))) (fun C' s₀ H₀ fp pl'=>⟨(aT (i:=0) (show List.Nodup [("less":Str),("askings":Str)] from (by decide +kernel)) rfl (Or.inl rfl)),c9,(am (cq (ai 1) En.c_Askings En.me_q1 G_q1 (hr.mono (by decide)) En.b_q1 dP z6 (a8 (ai 0) ac)))⟩))) ac))))))))
theorem C1(En:En K mg ad)  : O30 P w K mg base ad:=by
 refine dX (k:=0) (T:=nX ad) En.F_q14 B7 fun cdv A outer s H E B EE hr ux=>?_;have hU:=hr.units;have hu:=bn hr;unfold nX;exact (ag (ay (eD (a8 (br fH rfl En.z_list bt_list' (a8 (am (bY (ai 0) cz (cE ae))) ac)) (a8 ae (a8 ae ac))))))
theorem AX(En:En K mg ad)  : O31 P w K mg base ad:=by
 refine dX (k:=0) (T:=n8 ad) En.F_q15 sc_q15 fun cdv A outer s H E B EE hr ux=>?_;have hU:=hr.units;have hu:=bn hr;unfold n8
 exact (af (bj (aG mr (aw (aj hu) (ai 0) ae (fun _ _=>rfl)) ae (aF _)) (af (aJ (i:=2) sc_q15.nd rfl (Or.inl rfl) (aP cu (aw (aj hu) (ai 0) ae (fun _ _=>rfl)) (ai 1)))
   (af (fJ (aP fZ (aw (aj hu) (ai 0) ae (fun _ _=>rfl)) (ai 1)) (ji hu (ai 0) ae))
   (ag (ay (ai 2))))) aK)
  (af (aJ (i:=3) sc_q15.nd rfl (Or.inl rfl) (aw (aj hu) (ai 0) ae (fun _ _=>rfl)))
  (af (fJ (aP bh (ai 3) ae) (ji hu (ai 0) ae))
  (af (aJ (i:=4) sc_q15.nd rfl (Or.inl rfl) ae)
  (af (bj (aG mr (aA aY rfl En.z_len bA (a8 (aw (aj hu) (ai 0) ae (fun _ _=>rfl)) ac)) ae (aF _)) (ag (aJ (i:=4) sc_q15.nd rfl (Or.inl rfl) (aw (aj hu) (aw (aj hu) (ai 0) ae (fun _ _=>rfl)) (aP cu (ai 3) (aA aY rfl En.z_len bA (a8 (aw (aj hu) (ai 0) ae (fun _ _=>rfl)) ac))) (fun _ _=>rfl)))) aK)
  (af (bj (ie (A5 (aG pR (ai 3) (aA aY rfl En.z_len bA (a8 (aw (aj hu) (ai 0) ae (fun _ _=>rfl)) ac)) (aF _)) (yO (aG v8 (ai 4) (aP xM ae ae) (aF _))))) (af (fJ (aP fZ (ai 4) (ai 1)) (ji hu (ai 0) ae))
   (ag (ay (aP cu (ai 4) (ai 1))))) aK)
  (af (aJ (i:=5) sc_q15.nd rfl (Or.inl rfl) (aP cu (aP cH (aP bh (aP cu (ai 4) ae) ae) (aP bh (aP bh (aP cH (aP cH ae (ai 3)) (ai 3)) (aP cH ae (ai 3))) ae)) ae))
  (af (aJ (i:=5) sc_q15.nd rfl (Or.inl rfl) (aP cu (aP bh (aP bh (aP cH (ai 5) (ai 5)) (aP cH ae (ai 3))) (aP cu (ai 4) ae)) ae))
  (ag (ay (aP cu (aP fZ (ai 5) ae) (ai 1))))))))))))
theorem Bc(En:En K mg ad)(G_q15:O31 P w K mg base ad):O32 P w K mg base ad:=by
 refine dX (k:=1) (T:=n5 ad) En.F_q11 sc_q11 fun cdv A outer s H E B EE hr ux=>?_;have hU:=hr.units;have hu:=bn hr;unfold n5;refine af ?_ ?_
 ·exact (aJ (i:=1) sc_q11.nd rfl (Or.inr rfl) (aw (aj hu) (am (eD (a8 ae (a8 ae (a8 ae (a8 ae (a8 ae ac))))))) (am (av G_q15 (hr.mono (by decide)) rfl En.m_q15 En.k_q15 En.b_q15 aH ux (a8 (ai 0) (a8 ae ac)))) (fun _ _=>rfl)))
 refine af ?_ ?_
 ·exact (aJ (i:=2) sc_q11.nd rfl (Or.inl rfl) (aP bh ae (am (av G_q15 (hr.mono (by decide)) rfl En.m_q15 En.k_q15 En.b_q15 aH ux (a8 (ai 0) (a8 ae ac))))))
 refine af ?_ ?_
 ·exact (aJ (i:=3) sc_q11.nd rfl (Or.inl rfl) (eD ac))
 refine af ?_ ?_
 ·exact (lS PassesOwn.leaving rfl (dE rfl En.z_range (a8 (aP bh ae (am (av G_q15 (hr.mono (by decide)) rfl En.m_q15 En.k_q15 En.b_q15 aH ux (a8 (ai 0) (a8 ae ac))))) ac)) (aT (i:=4) sc_q11.nd rfl (Or.inl rfl)) (af (aJ (i:=5) sc_q11.nd rfl (Or.inl rfl) (am (av G_q15 (hr.mono (by decide)) rfl En.m_q15 En.k_q15 En.b_q15 aH ux (a8 (ai 0) (a8 (ai 2) ac)))))
   (ag (bj (aG (gC hU) (ai 5) (ai 3) (by rfl)) (ag (cr (qO (Or.inl rfl) PySem.F.plainAttrs_list PySem.F.slot_list_append PySem.F.type_list_append fF (ai 3) (a8 (ai 5) ac)))) aK))))
 refine af ?_ ?_
 ·exact (aJ (i:=6) sc_q11.nd rfl (Or.inl rfl) (eD (a8 (bp (a8 bo (a8 bo (a8 (aP bh ae (am (av G_q15 (hr.mono (by decide)) rfl En.m_q15 En.k_q15 En.b_q15 aH ux (a8 (ai 0) (a8 (aP sm (ai 1) ae) ac))))) ac)))) ac)))
 refine af ?_ ?_
 ·exact (lS PassesOwn.leaving rfl (cN (ai 3)) (aT (i:=5) sc_q11.nd rfl (Or.inl rfl)) (af (lS PassesOwn.leaving rfl (dE rfl En.z_range (a8 (am (av G_q15 (hr.mono (by decide)) rfl En.m_q15 En.k_q15 En.b_q15 aH ux (a8 (ai 0) (a8 ae ac)))) ac)) (aT (i:=4) sc_q11.nd rfl (Or.inl rfl)) (ag (cr (qO (Or.inl rfl) PySem.F.plainAttrs_list PySem.F.slot_list_append PySem.F.type_list_append fF (ai 6) (a8 (bp (a8 bo (a8 bo (a8 (am (av G_q15 (hr.mono (by decide)) rfl En.m_q15 En.k_q15 En.b_q15 aH ux (a8 (ai 0) (a8 (ai 2) ac)))) ac)))) ac)))))
   (ag (cr (qO (Or.inl rfl) PySem.F.plainAttrs_list PySem.F.slot_list_extend PySem.F.type_list_extend qy (ai 6) (pO (am (eD (a8 (bp (a8 bo (a8 bo (a8 (ai 5) ac)))) (a8 (bp (a8 bo (a8 bo (a8 bo (a8 bo ac))))) ac)))) ac))))))
 refine af ?_ ?_
 ·exact (aJ (i:=7) sc_q11.nd rfl (Or.inl rfl) (br bv rfl En.z_tuple bt (a8 (am (bT (ls:=["_law_k"]) (fs:=["_law_wheel","_law_tape_here"]) (js:=[1,0]) rfl (cn (cs:=[s.heap.objs.size+2,s.heap.objs.size+1]) rfl (by decide +kernel) (by decide +kernel) rfl rfl (eM rfl (eM rfl ij)) (.cons rfl (.inl rfl) (.inl rfl) (.cons rfl (.inl rfl) (.inl rfl) .nil))) (dE rfl En.z_range (a8 (ai 2) ac)) (fun C' s₀ H₀ fp pl'=>⟨(aT (i:=0) (show List.Nodup [("_law_k":Str),("_law_wheel":Str),("_law_tape_here":Str)] from (by decide +kernel)) rfl (Or.inl rfl)),c9,(aP bh ae (am (av G_q15 (hr.mono (by decide)) rfl En.m_q15 En.k_q15 En.b_q15 dP z6 (a8 (ai 2) (a8 (aP sm (ai 1) ae) ac)))))⟩))) ac)))
 refine af ?_ ?_
 ·exact (aJ (i:=8) sc_q11.nd rfl (Or.inl rfl) (bp (a8 (ai 1) (a8 (bp (a8 bo (a8 bo ac))) (a8 (ai 2) (a8 (br bv rfl En.z_tuple bt (a8 (ai 6) ac)) (a8 bo ac)))))))
 refine ag ?_;refine ay ?_;refine bp ?_;refine pO ?_ ?_ ?_
 ·refine bp ?_
  refine pO ?_ ?_ ?_
  ·exact (ai 8)
  ·refine pO ?_ ?_ ?_
   ·exact (bp (a8 (bp (a8 ae (a8 ae ac))) (a8 (aP cH (bp (a8 ae ac)) (ai 2)) ac)))
   ·refine pO ?_ ?_ ?_
    ·exact (bp (a8 (bp (a8 ae (a8 ae ac))) (a8 (ai 7) ac)))
    ·refine pO ?_ ?_ ?_
     ·exact ae
     ·exact ac
     ·rfl
    ·rfl
   ·rfl
  ·rfl
 ·refine pO ?_ ?_ ?_
  ·exact (aA ga rfl En.z_sorted jB (a8 (ai 3) ac))
  ·exact ac
  ·rfl
 ·rfl
theorem Bg(En:En K mg ad)(G_q15:O31 P w K mg base ad)(G_q11:O32 P w K mg base ad)(G_q14:O30 P w K mg base ad)(G_q25:O29 P w K mg base ad)(G_q7:O28 P w K mg base ad)(G_q21:O24 P w K mg base ad):O33 P w K mg base ad:=by
 refine dX (k:=32) (T:=nK ad) En.F_law sc_law fun cdv A outer s H E B EE hr ux=>?_;have hU:=hr.units;have hu:=bn hr;unfold nK
 exact (af (aJ (i:=1) sc_law.nd rfl (Or.inl rfl) (av G_q14 (hr.mono (by decide)) rfl En.m_q14 En.k_q14 En.b_q14 aH ux (a8 (ai 0) ac)))
  (af (fJ (lT (av G_q11 (hr.mono (by decide)) rfl En.m_q11 En.k_q11 En.b_q11 aH ux (a8 (ai 1) ac))) (fO (n:=2) rfl (bK (aT (i:=2) sc_law.nd rfl (Or.inl rfl)) (bK (aT (i:=3) sc_law.nd rfl (Or.inr rfl)) dR))))
  (af (aJ (i:=4) sc_law.nd rfl (Or.inl rfl) (aw (aj hu) (aw (aj hu) (ai 2) ae (fun _ _=>rfl)) ae (fun _ _=>rfl)))
  (af (fJ (lT (av G_q21 (hr.mono (by decide)) rfl En.m_q21 En.k_q21 En.b_q21 aH ux (a8 (ai 2) ac))) (fO (n:=2) rfl (bK (aT (i:=5) sc_law.nd rfl (Or.inl rfl)) (bK (aT (i:=6) sc_law.nd rfl (Or.inl rfl)) dR))))
  (af (bj (ie (i8 (aG (fK hU) (ai 6) (ai 3) (aF _)) (fM (aG mr (aA aY rfl En.z_len bA (a8 (ai 5) ac)) (aP bh (aP bh (aP cH (ai 4) (ai 4)) (aP cH ae (ai 4))) ae) (aF _))))) (ag (ay cJ)) aK)
  (af (vU 7 (rE (i:=7) (hsw:=rX rfl (show List.lookup ("_law_mixes":Str) (ar eA).names=some .local by decide +kernel) rfl (by decide +kernel)) sc_law.nd rfl (Or.inl rfl) (ls:=["_law_row"]) (fs:=[]) (js:=[]) rfl (iD rfl (by decide +kernel) (by decide +kernel)) (cN (ai 5)) (fun C' s₀ H₀ fp pl'=>⟨(aT (i:=0) (show List.Nodup [("_law_row":Str)] from (by decide +kernel)) rfl (Or.inl rfl)),c9,(aA (pC hr.gd hU) rfl En.z_repr wO (a8 (aw (aj hu) (ai 0) ae (fun _ _=>rfl)) ac))⟩)))
  (af (bj (ie (i8 (aG (fK hU) (qI rfl rfl En.z_set rfl En.z_len (a8 (ai 7) ac)) (aA aY rfl En.z_len bA (a8 (ai 7) ac)) (aF _)) (fM (aG gy (am (av G_q7 (hr.mono (by decide)) rfl En.m_q7 En.k_q7 En.b_q7 aH ux (a8 (ai 2) (a8 (bp (a8 (ai 5) (a8 (ai 6) ac))) ac)))) cJ (aF _))))) (ag (ay cJ)) aK)
  (af (bj (aG gy (am (av G_q7 (hr.mono (by decide)) rfl En.m_q7 En.k_q7 En.b_q7 aH ux (a8 (ai 2) (a8 (bp (a8 (ai 5) (a8 (am (bY (ai 6) (cE ae) cz)) ac))) ac)))) cJ (aF _)) (ag (ay cJ)) aK)
  (af (bj (ie (i8 (aG gy (am (av G_q25 (hr.mono (by decide)) rfl En.m_q25 En.k_q25 En.b_q25 aH ux (a8 (ai 2) (a8 (ai 3) ac)))) cJ (aF _)) (fM (aG gy (am (av G_q25 (hr.mono (by decide)) rfl En.m_q25 En.k_q25 En.b_q25 aH ux (a8 (ai 2) (a8 (am (bY (ai 3) cz (cE (AS ae)))) ac)))) cJ (aF _))))) (ag (ay cJ)) aK)
  (af (vU 8 (rE (i:=8) (hsw:=rX rfl (show List.lookup ("_law_others":Str) (ar eA).names=some .local by decide +kernel) rfl (by decide +kernel)) sc_law.nd rfl (Or.inl rfl) (ls:=["_law_piece"]) (fs:=["_law_goals"]) (js:=[3]) rfl (cn (cs:=[s.heap.objs.size+1]) rfl (by decide +kernel) (by decide +kernel) rfl rfl (eM rfl ij) (.cons rfl (.inl rfl) (.inl rfl) .nil)) (dE rfl En.z_range (a8 (ai 4) ac)) (fun C' s₀ H₀ fp pl'=>⟨(aT (i:=0) (show List.Nodup [("_law_piece":Str),("_law_goals":Str)] from (by decide +kernel)) rfl (Or.inl rfl)),(lD (aG (gC hU) (ai 0) (ai 1) (by rfl))),(ai 0)⟩)))
  (af (bj (aG (bE hU) (ai 8) (am (eD ac)) (aF _)) (ag (ay cJ)) aK)
  (af (aJ (i:=9) sc_law.nd rfl (Or.inl rfl) (aw (aj hu) (ai 8) (am (av G_q15 (hr.mono (by decide)) rfl En.m_q15 En.k_q15 En.b_q15 aH ux (a8 (ai 1) (a8 (aA aY rfl En.z_len bA (a8 (ai 8) ac)) ac)))) (fun _ _=>rfl)))
  (ag (ay (fL z7 (am (av G_q25 (hr.mono (by decide)) rfl En.m_q25 En.k_q25 En.b_q25 aH ux (a8 (ai 2) (a8 (am (aA ga rfl En.z_sorted jB (a8 (am (aP bh (ai 3) (am (eD (a8 (ai 9) ac))))) ac))) ac)))) cJ (aF _))))))))))))))))
theorem C3(En:En K mg ad):O33 P w K mg base ad:=by
 have G_q4:=DL (P:=P) (w:=w) (base:=base) En;have G_q3:=D7 (P:=P) (w:=w) (base:=base) En;have G_q18:=Be (P:=P) (w:=w) (base:=base) En G_q3;have G_q30:=BN (P:=P) (w:=w) (base:=base) En;have G_q9:=Dc (P:=P) (w:=w) (base:=base) En;have G_q13:=AJ (P:=P) (w:=w) (base:=base) En G_q30 G_q9;obtain ⟨G_q24,G_q32,G_q33,G_q22⟩:=hV (P:=P) (w:=w) (base:=base) En G_q18 G_q3 G_q13 24;have G_q36:=BJ (P:=P) (w:=w) (base:=base) En G_q4 G_q24;have G_q35:=Bm (P:=P) (w:=w) (base:=base) En G_q36;have G_q10:=A8 (P:=P) (w:=w) (base:=base) En;have G_q17:=Ax (P:=P) (w:=w) (base:=base) En;obtain ⟨G_q27,G_q20⟩:=hW (P:=P) (w:=w) (base:=base) En  24;have G_q28:=Ag (P:=P) (w:=w) (base:=base) En G_q10 G_q17;have G_q34:=B9 (P:=P) (w:=w) (base:=base) En G_q35;have G_q19:=AW (P:=P) (w:=w) (base:=base) En G_q28;have G_q31:=A0 (P:=P) (w:=w) (base:=base) En G_q27;have G_q5:=Cm (P:=P) (w:=w) (base:=base) En G_q17;have G_q23:=C4 (P:=P) (w:=w) (base:=base) En G_q5;have G_q12:=Ab (P:=P) (w:=w) (base:=base) En;have G_q2:=De (P:=P) (w:=w) (base:=base) En G_q34;have G_q8:=Dx (P:=P) (w:=w) (base:=base) En G_q35 G_q23 G_q12;have G_q1:=CZ (P:=P) (w:=w) (base:=base) En G_q8;have G_q29:=AC (P:=P) (w:=w) (base:=base) En G_q1;have G_q26:=BQ (P:=P) (w:=w) (base:=base) En G_q1;have G_q21:=C8 (P:=P) (w:=w) (base:=base) En G_q2 G_q8 G_q29 G_q26 G_q19;have G_q6:=DU (P:=P) (w:=w) (base:=base) En;have G_q16:=A2 (P:=P) (w:=w) (base:=base) En G_q31;have G_q0:=CG (P:=P) (w:=w) (base:=base) En G_q16 G_q31;have G_q7:=CS (P:=P) (w:=w) (base:=base) En G_q2 G_q8 G_q6 G_q0 G_q27 G_q19;have G_q25:=Bn (P:=P) (w:=w) (base:=base) En G_q2 G_q1 G_q6;have G_q14:=C1 (P:=P) (w:=w) (base:=base) En;have G_q15:=AX (P:=P) (w:=w) (base:=base) En;have G_q11:=Bc (P:=P) (w:=w) (base:=base) En G_q15;have G_law:=Bg (P:=P) (w:=w) (base:=base) En G_q15 G_q11 G_q14 G_q25 G_q7 G_q21;exact G_law
end
end Tw
namespace L3
open PySem L2
theorem aQ{T:Sd}{EE:DX}{ds:List D}{M:Mem}{Q:DK}{b:BxQ EE Q}{d:D}(hm:∀Q' E',Q' d M->T ds M Q' E')(h:Q d M):calls T EE ds M Q b:=
 calls_of fun Q' E' hq _=>hm Q' E' (hq d M h)
theorem cP{α:Type}{xs:List α}{i:Int}(h:0<=i):atI xs i=xs[i.toNat]?:=by
 unfold atI xj;rw [if_pos h]
 by_cases hi:i<xs.length
 ·rw [if_pos hi];rfl
 ·rw [if_neg hi,List.getElem?_eq_none (by lia)];rfl
@[simp] theorem atI_0 {α:Type} {xs:List α}:atI xs 0=xs[0]?:=cP (by decide)
@[simp] theorem atI_1 {α:Type} {xs:List α}:atI xs 1=xs[1]?:=cP (by decide)
@[simp] theorem atI_2 {α:Type} {xs:List α}:atI xs 2=xs[2]?:=cP (by decide)
@[simp] theorem atI_3 {α:Type} {xs:List α}:atI xs 3=xs[3]?:=cP (by decide)
@[simp] theorem atI_4 {α:Type} {xs:List α}:atI xs 4=xs[4]?:=cP (by decide)
theorem du{g:jA}{tb:aI}{DD:DEnds}{ok:Mem->Prop}{b:BxF g tb DD ok}(I:List D->Dl->Mem->Prop)(hok:∀xs δ M,I xs δ M->ok M)(h0:∀δ M,I [] δ M->DD.nx δ M)
  (hs:∀x xs δ M,I (x::xs) δ M->∀D':DEnds,(∀δ' M',I xs δ' M'->D'.nx δ' M')->(∀δ' M',I xs δ' M'->D'.ct δ' M')->D'.rt=DD.rt->D'.bk=DD.nx->g x δ M fun δ2 M2=>tb D' δ2 M2):∀xs δ M,I xs δ M->qm g tb DD ok b xs δ M
 |[],δ,M,h=>⟨hok _ _ _ h,h0 δ M h⟩
 |x::xs,δ,M,h=>⟨hok _ _ _ h,hs x xs δ M h _ (fun δ' M' h'=>du I hok h0 hs xs δ' M' h') (fun δ' M' h'=>du I hok h0 hs xs δ' M' h') rfl rfl⟩
theorem bQ{g:jA}{tt:eg}{te:bH}{ok:Mem->Prop}{Q:List D->Mem->Prop}{b:BxC g tt te ok Q}(I:List D->List D->Dl->Mem->Prop)(hok:∀xs acc δ M,I xs acc δ M->ok M)(h0:∀acc δ M,I [] acc δ M->Q acc M)
  (hs:∀x xs acc δ M,I (x::xs) acc δ M->∀N:Bool->D->Dl->Mem->Prop,(∀y δ' M',acc.length<sizeLine->I xs (acc++[y]) δ' M'->N true y δ' M')->(∀y δ' M',I xs acc δ' M'->N false y δ' M')->g x δ M fun δ2 M2=>tt δ2 M2 fun c M3=>if c=true then te δ2 M3 fun y M4=>N true y δ2 M4 else N false .non δ2 M3)
  (hl:∀x xs acc δ M,I (x::xs) acc δ M->acc.length<sizeLine):∀xs acc δ M,I xs acc δ M->cR g tt te ok Q b xs acc δ M
 |[],acc,δ,M,h=>⟨hok _ _ _ _ h,h0 acc δ M h⟩
 |x::xs,acc,δ,M,h=>⟨hok _ _ _ _ h,hs x xs acc δ M h (fun k y δ' M'=>if k=true then acc.length<sizeLine/\cR g tt te ok Q b xs (acc++[y]) δ' M' else cR g tt te ok Q b xs acc δ' M')
   (fun y δ' M' hlen h'=>by rw [if_pos rfl];exact ⟨hlen,bQ I hok h0 hs hl xs _ δ' M' h'⟩) (fun y δ' M' h'=>by rw [if_neg (by simp)];exact bQ I hok h0 hs hl xs _ δ' M' h') |> fun z=>by simpa using z⟩
theorem szl{n:Nat}(h:n<=1000000):n<=sizeLine:=Nat.le_trans h (by decide)
theorem szs{n:Nat}(h:n<1000000):n<sizeLine:=Nat.lt_of_lt_of_le h (by decide)
end L3
namespace Tw
open PySem L2 L3
inductive Rw where
 |put (x:Str) (k:Int)|take (x:Str) (i:Int)|pick (x y:Str)|two (w x y z:Str)|ifr (x:Str) (a b:List Rw)|again (x:Str) (a:List Rw)
mutual
def Rw.d:Rw->D
 |.put x k=>.tup [.str "put",.str x,.int k]
 |.take x i=>.tup [.str "take",.str x,.int i]
 |.pick x y=>.tup [.str "pick",.str x,.str y]
 |.two w x y z=>.tup [.str w,.str x,.str y,.str z]
 |.ifr x a b=>.tup [.str "if",.str x,.tup (bc a),.tup (bc b)]
 |.again x a=>.tup [.str "again",.str x,.tup (bc a)]
def bc:List Rw->List D
 |[]=>[]
 |r::rs=>r.d::bc rs
end
theorem eT:∀rs:List Rw,bc rs=rs.map Rw.d
 |[]=>rfl
 |r::rs=>by rw [bc,eT rs];rfl
abbrev gH:=List (Str×Int)
def gN(n:gH)(x:Str):Option Int:=(n.find? fun p=>decide (p.1=x)).map (·.2)
def nm(n:gH)(x:Str):Int:=(gN n x).getD 0
def sN(n:gH)(x:Str)(v:Int):gH:=n.map fun p=>if p.1=x then (p.1,v) else p
def kvD(n:gH):List (au×D):=n.map fun p=>(Sum.inr p.1,D.int p.2)
theorem zK:∀{n:gH} {x:Str},x∈n.map (·.1)->gN n x=some (nm n x)
 |[],_,h=>by simp at h
 |(y,v)::n,x,h=>by
  by_cases e:y=x
  ·simp [gN,nm,e]
  ·have:=zK (n:=n) (x:=x) (by simpa [Ne.symm e,eq_comm,e] using h)
   simpa [gN,nm,e] using this
theorem gw:∀{n:gH} {x:Str},gn (kvD n) (Sum.inr x)=(gN n x).map D.int
 |[],x=>rfl
 |(y,v)::n,x=>by
  by_cases e:y=x
  ·simp [gn,kvD,gN,e]
  ·have:=gw (n:=n) (x:=x)
   simpa [gn,kvD,gN,e] using this
theorem u_:∀{n:gH} {x:Str},x∈n.map (·.1)->((kvD n).any fun kv=>decide (kv.1=Sum.inr x))=true
 |[],_,h=>by simp at h
 |(y,v)::n,x,h=>by
  by_cases e:y=x
  ·simp [kvD,e]
  ·have:=u_ (n:=n) (x:=x) (by simpa [Ne.symm e,eq_comm,e] using h)
   simp only [kvD,List.map_cons,List.any_cons,Bool.or_eq_true] at this ⊢;exact .inr this
theorem yw{n:gH}{x:Str}{v:Int}(h:x∈n.map (·.1)):di (kvD n) (Sum.inr x) (.int v)=kvD (sN n x v):=by
 unfold di;rw [u_ h,if_pos rfl];simp only [kvD,sN,List.map_map];apply List.map_congr_left;intro p _
 by_cases e:p.1=x
 ·simp [e]
 ·simp [e]
theorem fU{n:gH}{x:Str}{v:Int}:(sN n x v).map (·.1)=n.map (·.1):=by
 simp only [sN,List.map_map];apply List.map_congr_left;intro p _
 by_cases e:p.1=x<;>simp [e]
theorem DP{n:gH}{x y:Str}{v:Int}(h:x∈n.map (·.1)):gN (sN n x v) y=if y=x then some v else gN n y:=by
 induction n with
 |nil=>simp at h
 |cons p n ih=>
  obtain ⟨k,u⟩:=p
  by_cases e:k=x
  ·subst e
   by_cases e2:y=k
   ·subst e2;simp [gN,sN]
   ·simp only [if_neg e2]
    have hk:¬k=y:=fun z=>e2 z.symm
    by_cases hm:k∈n.map (·.1)
    ·have:=ih hm
     simpa [gN,sN,hk,if_neg e2] using this
    ·simp only [gN,sN,List.map_cons,if_pos,List.find?_cons,hk,decide_false]
     congr 1;have:n.map (fun p=>if p.1=k then (p.1,v) else p)=n:=by
      conv=>rhs;rw [<- List.map_id n]
      apply List.map_congr_left;intro p hp;have:p.1≠k:=fun z=>hm (by rw [<- z];exact List.mem_map_of_mem hp)
      simp [this]
     rw [this]
  ·have hm:x∈n.map (·.1):=by simpa [Ne.symm e,eq_comm,e] using h
   have:=ih hm
   by_cases e2:y=x
   ·subst e2;simpa [gN,sN,e] using this
   ·by_cases e3:k=y
    ·subst e3;simp [gN,sN,e]
    ·simpa [gN,sN,e,e3,e2] using this
structure Cf where
 m:Int
 pieces:List Int
 most:Nat
structure Sx where
 nums:gH
 steps:List (List Int×Int)
def zD(w:Str)(y z m:Int):Int:=if w="sum" then (y+z) % m else if w="by" then y*z % m else if w="less" then (if y<z then 1 else 0) else if y=z then 1 else 0
def fg(c:Cf)(n:gH):Rw->Int
 |.put _ k=>k
 |.take _ i=>(c.pieces[i.toNat]?).getD 0
 |.pick _ y=>(c.pieces[(nm n y % (c.pieces.length:Int)).toNat]?).getD 0
 |.two w _ y z=>zD w (nm n y) (nm n z) c.m
 |_=>0
def xm:Rw->Str
 |.put x _=>x
 |.take x _=>x
 |.pick x _=>x
 |.two _ x _ _=>x
 |.ifr x _ _=>x
 |.again x _=>x
def nt(c:Cf)(pl:List Int)(v:Int)(s:Sx):Bool×Sx:=if s.steps.length<c.most then (true,⟨s.nums,s.steps++[(pl,v)]⟩) else (false,s)
def lk(n:gH)(x:Str):Int:=if nm n x=0 then 0 else 1
def i7(c:Cf)(x:Str)(pl:List Int)(body:Nat->Sx->Bool×Sx):Nat->Nat->Sx->Bool×Sx
 |0,_,s=>(false,s)
 |f+1,t,s=>if (nt c (pl++[(t:Int)]) (lk s.nums x) s).1=true then
   (if lk s.nums x=1 then
    (if (body t (nt c (pl++[(t:Int)]) (lk s.nums x) s).2).1=true then i7 c x pl body f (t+1) (body t (nt c (pl++[(t:Int)]) (lk s.nums x) s).2).2 else body t (nt c (pl++[(t:Int)]) (lk s.nums x) s).2)
   else nt c (pl++[(t:Int)]) (lk s.nums x) s)
  else nt c (pl++[(t:Int)]) (lk s.nums x) s
mutual
def exR(c:Cf):Rw->List Int->Sx->Bool×Sx
 |.ifr x a b,pl,s=>if (nt c pl (lk s.nums x) s).1=true then (if lk s.nums x=1 then cV c a (pl++[lk s.nums x]) 0 (nt c pl (lk s.nums x) s).2 else cV c b (pl++[lk s.nums x]) 0 (nt c pl (lk s.nums x) s).2) else nt c pl (lk s.nums x) s
 |.again x a,pl,s=>i7 c x pl (fun t s=>cV c a (pl++[(t:Int)]) 0 s) (c.most+1) 0 s
 |.put x k,pl,s=>if (nt c pl (fg c s.nums (.put x k)) s).1=true then (true,⟨sN s.nums x (fg c s.nums (.put x k)),(nt c pl (fg c s.nums (.put x k)) s).2.steps⟩) else nt c pl (fg c s.nums (.put x k)) s
 |.take x i,pl,s=>if (nt c pl (fg c s.nums (.take x i)) s).1=true then (true,⟨sN s.nums x (fg c s.nums (.take x i)),(nt c pl (fg c s.nums (.take x i)) s).2.steps⟩) else nt c pl (fg c s.nums (.take x i)) s
 |.pick x y,pl,s=>if (nt c pl (fg c s.nums (.pick x y)) s).1=true then (true,⟨sN s.nums x (fg c s.nums (.pick x y)),(nt c pl (fg c s.nums (.pick x y)) s).2.steps⟩) else nt c pl (fg c s.nums (.pick x y)) s
 |.two w x y z,pl,s=>if (nt c pl (fg c s.nums (.two w x y z)) s).1=true then (true,⟨sN s.nums x (fg c s.nums (.two w x y z)),(nt c pl (fg c s.nums (.two w x y z)) s).2.steps⟩) else nt c pl (fg c s.nums (.two w x y z)) s
def cV(c:Cf):List Rw->List Int->Nat->Sx->Bool×Sx
 |[],_,_,s=>(true,s)
 |r::rs,pl,j,s=>if (exR c r (pl++[(j:Int)]) s).1=true then cV c rs pl (j+1) (exR c r (pl++[(j:Int)]) s).2 else exR c r (pl++[(j:Int)]) s
end
def iy(c:Cf)(r:Rw)(pl:List Int)(s:Sx):Bool×Sx:=if s.steps.length<c.most then (true,⟨sN s.nums (xm r) (fg c s.nums r),s.steps++[(pl,fg c s.nums r)]⟩) else (false,s)
def o9:Rw->Bool
 |.ifr _ _ _=>false
 |.again _ _=>false
 |_=>true
theorem ce{c:Cf}{r:Rw}{pl:List Int}{s:Sx}(h:o9 r=true):exR c r pl s=iy c r pl s:=by
 cases r with
 |ifr x a b=>simp [o9] at h
 |again x a=>simp [o9] at h
 |put x k=>simp only [exR,iy,nt,xm];split<;>simp_all
 |take x k=>simp only [exR,iy,nt,xm];split<;>simp_all
 |pick x k=>simp only [exR,iy,nt,xm];split<;>simp_all
 |two w x y z=>simp only [exR,iy,nt,xm];split<;>simp_all
theorem zu(a b:String):(Str.ofString a=Str.ofString b)=(a=b):=by
 refine propext ⟨fun h=>?_,fun h=>by rw [h]⟩
 rw [Str.ofString_eq_byList] at h;have h1:=congrArg (fun x:Str=>x.cps.toList) h;simp only [Str.ofStringByList] at h1;exact String.toList_inj.mp ((List.map_inj_right fun x y e=>Char.toNat_inj.mp e).mp h1)
end Tw
open PySem L2 L3 Tw
local macro_rules | `(tactic| simp! [$a,*]) => do let p <- ("B1 B2 Ay Bk y2 xA yM y4 xI ya Aa AV yk xY zg yx zy xn yZ zh yy xN z9 yR yg xC yr xK xO zc mE lP li l_ lw qS lC rq iZ rH xJ vH qv kX mz md lU rJ iY lF mh lO rS iK rB lE rP q_ lZ qA uc pF pf lX vf vo wW pI lR xX yG yd y_ zx zn j2 qT si om mK gf my iH i_ iA iG qV lW iN rf jE nn oQ ot iQ lj mo iI iV iU iM iC iO nM oS oR wm jv zR pZ gJ kS uT wJ rg kM Bb g9 Cg AQ jG qL ma bg startN aB bC aE fi Bx az gz zV dv bZ fits aN ff aa dC aX Cc bf oO DY u6 hG zX oI xT ii bz b_ seqL ax frz cA ue uD vx E5 bd ao d_ bD dZ oE yc a9 dNil bV mC bR cG jI cTuple dq gA pV jT cU gm cI Cd eV ma dTM m7 dj mZ dG db kT kb lg sJ oSl r8 d9 bU aC ck oK dh fk zL BP srcOf jo cv el gx ko frzT frzs Dd wG mw xP eO".splitOn " ").toArray.mapM (fun s => `(Lean.Parser.Tactic.simpLemma| ↓$(Lean.mkIdent s.toName):ident)); let q <- ("List.map_cons List.map_nil List.cons_append List.nil_append List.length_cons List.length_nil List.getElem?_cons_succ List.getElem?_cons_zero List.set_cons_succ List.set_cons_zero Nat.zero_add Nat.reduceAdd Nat.reduceSub List.replicate_succ List.replicate_zero List.append_nil true_and and_true if_true if_false Bool.false_eq_true decide_eq_true_eq decide_eq_false_iff_not Bool.not_true Bool.not_false Bool.and_true Bool.true_and Bool.and_false Bool.false_and Mem.upd_same Option.isSome_some Option.isSome_none zu String.reduceEq".splitOn " ").toArray.mapM (fun s => `(Lean.Parser.Tactic.simpLemma| $(Lean.mkIdent s.toName):ident)); let r : Lean.TSyntaxArray [`Lean.Parser.Tactic.simpStar, `Lean.Parser.Tactic.simpErase, `Lean.Parser.Tactic.simpLemma] := (p.map (⟨·.raw⟩)) ++ (q.map (⟨·.raw⟩)) ++ a.getElems; `(tactic| simp -dsimp only [$r,*])
namespace Tw
open PySem L2 L3
theorem oH{ad:Ad}{M:Mem}{Q:DK}{E:DX}{w:Str}{y z m:Int}(hm:0<m)(hy:0<=y)(hy2:y<1000)(h:Q (.int (zD w y z m)) M):so ad [.str w,.int y,.int z,.int m] M Q E:=by
 have hc:CMul y z:=.inl ⟨by lia,by lia⟩
 unfold zD at h;simp! [CU,oj]
 split
 ·rename_i e;rw [if_pos e] at h;exact ⟨hm,aD h⟩
 ·rename_i e;rw [if_neg e] at h
  split
  ·rename_i e;rw [if_pos e] at h;exact ⟨hc,hm,aD h⟩
  ·rename_i e;rw [if_neg e] at h
   split
   ·rename_i e;rw [if_pos e] at h
    split<;>rename_i e2
    ·rw [if_pos e2] at h;exact aD h
    ·rw [if_neg e2] at h;exact aD h
   ·rename_i e;rw [if_neg e] at h
    split<;>rename_i e2
    ·rw [if_pos e2] at h;exact aD h
    ·rw [if_neg e2] at h;exact aD h
def j7(names:List Str)(m many:Int):Rw->Prop
 |.put x k=>x∈names/\0<=k/\k<m
 |.take x i=>x∈names/\0<=i/\i<many
 |.pick x y=>x∈names/\y∈names/\0<many
 |.two w x y z=>(w="sum"\/w="by"\/w="less"\/w="same")/\x∈names/\y∈names/\z∈names
 |_=>False
structure NOk(names:List Str)(m:Int)(n:gH):Prop where
 keys:n.map (·.1)=names
 rng:∀p∈n,0<=p.2/\p.2<m
theorem NOk.at{names:List Str}{m:Int}{n:gH}(h:NOk names m n){x:Str}(hx:x∈names):gN n x=some (nm n x)/\0<=nm n x/\nm n x<m:=by
 have e:gN n x=some (nm n x):=zK (by rw [h.keys];exact hx)
 refine ⟨e,?_⟩;unfold gN at e;obtain ⟨p,hp,hv⟩:=Option.map_eq_some_iff.mp e;rw [<- hv];exact h.rng p (List.mem_of_find?_eq_some hp)
theorem ye{w:Str}{y z m:Int}(h2:2<=m):0<=zD w y z m/\zD w y z m<m:=by
 unfold zD;have a1:=Int.emod_nonneg (y+z) (show m≠0 by lia)
 have a2:=Int.emod_lt_of_pos (y+z) (show 0<m by lia)
 have a3:=Int.emod_nonneg (y*z) (show m≠0 by lia)
 have a4:=Int.emod_lt_of_pos (y*z) (show 0<m by lia)
 repeat' split
 all_goals lia
structure COk(c:Cf):Prop where
 m2:2<=c.m
 m1:c.m<=997
 rng:∀v∈c.pieces,0<=v/\v<c.m
 few:c.pieces.length<=1000
 most:c.most<=10000
theorem COk.piece{c:Cf}(h:COk c){i:Nat}(hi:i<c.pieces.length):c.pieces[i]?=some ((c.pieces[i]?).getD 0)/\0<=(c.pieces[i]?).getD 0/\(c.pieces[i]?).getD 0<c.m:=by
 rw [List.getElem?_eq_getElem hi];exact ⟨rfl,h.rng _ (List.getElem_mem hi)⟩
theorem y9{c:Cf}(h:COk c){names:List Str}{n:gH}(hn:NOk names c.m n){r:Rw}(hr:j7 names c.m c.pieces.length r):0<=fg c n r/\fg c n r<c.m:=by
 cases r with
 |put x k=>exact hr.2
 |take x i=>exact (h.piece (i:=i.toNat) (by have:=hr.2;lia)).2
 |pick x y=>
  have h0:=hr.2.2;have h1:=Int.emod_nonneg (nm n y) (show (c.pieces.length:Int)≠0 by lia)
  have h2:=Int.emod_lt_of_pos (nm n y) h0;exact (h.piece (i:=(nm n y % (c.pieces.length:Int)).toNat) (by lia)).2
 |two w x y z=>exact ye h.m2
 |ifr=>exact hr.elim
 |again=>exact hr.elim
def aV(c:Cf)(names:List Str)(rows:List Rw)(mk:Str):D:=.tup [.int c.m,.tup (names.map D.str),.int (c.pieces.length:Nat),.tup (bc rows),.str mk]
theorem cL{ad:Ad}{M:Mem}{Q:DK}{E:DX}{c:Cf}{names:List Str}{rows:List Rw}{mk:Str}{dn:Addr}{n:gH}{r:Rw}(hn:NOk names c.m n)(hr:j7 names c.m c.pieces.length r)(hd:M dn=some (.dK (kvD n)))
  (h:Q (match r with|.take _ i=>.int i|.pick _ y=>.int (nm n y % (c.pieces.length:Int))|_=>.non) M):xF ad [aV c names rows mk,.ref dn,r.d] M Q E:=by
 cases r with
 |put x k=>(simp! [xQ,nL,aV,Rw.d,atI_0,atI_2];exact aD h)
 |take x i=>(simp! [xQ,nL,aV,Rw.d,atI_0,atI_2];exact aD h)
 |pick x y=>
  simp! [xQ,nL,aV,Rw.d,atI_0,atI_2,hd,gw,(hn.at hr.2.1).1,Option.map_some];exact ⟨hr.2.2,aD h⟩
 |two w x y z=>
  obtain ⟨hw,_⟩:=hr;rcases hw with rfl|rfl|rfl|rfl<;>(simp! [xQ,nL,aV,Rw.d,atI_0,atI_2];exact aD h)
 |ifr=>exact hr.elim
 |again=>exact hr.elim
theorem jJ{ad:Ad}{M:Mem}{Q:DK}{E:DX}{c:Cf}{names:List Str}{rows:List Rw}{mk:Str}{dn:Addr}{n:gH}{r:Rw}(hc:COk c)(hn:NOk names c.m n)(hr:j7 names c.m c.pieces.length r)(hd:M dn=some (.dK (kvD n)))
  (h:Q (.int (fg c n r)) M):oa ad [aV c names rows mk,.ref dn,.tup (c.pieces.map D.int),r.d] M Q E:=by
 have hm1:=hc.m1;have hm2:=hc.m2;cases r with
 |put x k=>
  simp! [sy,ib,aV,Rw.d,atI_0,atI_2];exact aD h
 |take x i=>
  have hr':=hr;obtain ⟨hx,h0,h1⟩:=hr';have hp:=hc.piece (i:=i.toNat) (by lia)
  have e1:(c.pieces.map D.int)[i.toNat]?=some (.int (fg c n (.take x i))):=by rw [List.getElem?_map,hp.1];rfl
  simp! [sy,ib,aV,Rw.d,atI_0,atI_2];refine aQ (d:=.int i) (fun _ _ q=>cL (c:=c) (names:=names) (rows:=rows) (mk:=mk) (r:=.take x i) hn hr hd q) ?_;simp! [cP h0,e1];exact aD h
 |pick x y=>
  have hr':=hr;obtain ⟨hx,hy,h0⟩:=hr';have g0:=Int.emod_nonneg (nm n y) (show (c.pieces.length:Int)≠0 by lia)
  have g1:=Int.emod_lt_of_pos (nm n y) h0;have hp:=hc.piece (i:=(nm n y % (c.pieces.length:Int)).toNat) (by lia)
  have e1:(c.pieces.map D.int)[(nm n y % (c.pieces.length:Int)).toNat]?=some (.int (fg c n (.pick x y))):=by rw [List.getElem?_map,hp.1];rfl
  simp! [sy,ib,aV,Rw.d,atI_0,atI_2];refine aQ (d:=.int (nm n y % (c.pieces.length:Int))) (fun _ _ q=>cL (c:=c) (names:=names) (rows:=rows) (mk:=mk) (r:=.pick x y) hn hr hd q) ?_;simp! [cP g0,e1];exact aD h
 |two w x y z=>
  have hr':=hr;obtain ⟨hw,hx,hy,hz⟩:=hr';have a1:=hn.at hy;have a2:=hn.at hz;have hw1:((w=Str.ofString "put")=False):=by rcases hw with rfl|rfl|rfl|rfl<;>exact eq_false (by decide +kernel)
  simp! [sy,ib,aV,Rw.d,atI_0,atI_2,hw1];refine aQ (d:=.non) (fun _ _ q=>cL (c:=c) (names:=names) (rows:=rows) (mk:=mk) (r:=.two w x y z) hn hr hd q) ?_;simp! [atI_0,atI_2,atI_3,hd,gw,a1.1,a2.1,Option.map_some];exact aQ (d:=.int (fg c n (.two w x y z))) (fun _ _ q=>oH (by lia) (by lia) (by lia) q) (aD h)
 |ifr=>exact hr.elim
 |again=>exact hr.elim
structure Wk where
 a:Addr
 dn:Addr
 ls:Addr
 h1:a≠dn
 h2:a≠ls
 h3:dn≠ls
def plD(l:List Int):D:=.tup (l.map D.int)
def zC(l:List (List Int×Int)):List D:=l.map fun p=>.tup [plD p.1,.int p.2]
def wM(ad:Ad)(k:Wk)(c:Cf)(pD:D)(s:Sx)(M:Mem):Mem:=
 ((M.upd k.a (.ins ad.C_Walk [("plan",pD),("numbers",.ref k.dn),("pieces",.tup (c.pieces.map D.int)),("most",.int (c.most:Nat)),("steps",.ref k.ls)])).upd k.dn (.dK (kvD s.nums))).upd k.ls (.lst (zC s.steps))
section
variable {ad:Ad}{k:Wk}{c:Cf}{pD:D}{s:Sx}{M:Mem}
theorem wM_a:wM ad k c pD s M k.a=some (.ins ad.C_Walk [("plan",pD),("numbers",.ref k.dn),("pieces",.tup (c.pieces.map D.int)),("most",.int (c.most:Nat)),("steps",.ref k.ls)]):=by
 unfold wM;rw [ah k.h2,ah k.h1,Mem.upd_same]
theorem jS:wM ad k c pD s M k.dn=some (.dK (kvD s.nums)):=by unfold wM;rw [ah k.h3,Mem.upd_same]
theorem zJ:wM ad k c pD s M k.ls=some (.lst (zC s.steps)):=by unfold wM;rw [Mem.upd_same]
theorem uC{x:List (List Int×Int)}:(wM ad k c pD s M).upd k.ls (.lst (zC x))=wM ad k c pD ⟨s.nums,x⟩ M:=by unfold wM;rw [Mem.upd_upd]
theorem xL{x:gH}:(wM ad k c pD s M).upd k.dn (.dK (kvD x))=wM ad k c pD ⟨x,s.steps⟩ M:=by
 unfold wM;rw [bB (Ne.symm k.h3),Mem.upd_upd]
theorem lf0:List.lookup ("plan":Str) [(("plan":Str),x0),(("numbers":Str),x1),(("pieces":Str),x2),(("most":Str),x3),(("steps":Str),x4)]=some (x0:D):=rfl
theorem xl:List.lookup ("numbers":Str) [(("plan":Str),x0),(("numbers":Str),x1),(("pieces":Str),x2),(("most":Str),x3),(("steps":Str),x4)]=some (x1:D):=rfl
theorem lf2:List.lookup ("pieces":Str) [(("plan":Str),x0),(("numbers":Str),x1),(("pieces":Str),x2),(("most":Str),x3),(("steps":Str),x4)]=some (x2:D):=rfl
theorem lf3:List.lookup ("most":Str) [(("plan":Str),x0),(("numbers":Str),x1),(("pieces":Str),x2),(("most":Str),x3),(("steps":Str),x4)]=some (x3:D):=rfl
theorem lf4:List.lookup ("steps":Str) [(("plan":Str),x0),(("numbers":Str),x1),(("pieces":Str),x2),(("most":Str),x3),(("steps":Str),x4)]=some (x4:D):=rfl
theorem lfm:List.lookup ("note_step":Str) [(("plan":Str),x0),(("numbers":Str),x1),(("pieces":Str),x2),(("most":Str),x3),(("steps":Str),x4)]=(none:Option D):=rfl
theorem lfl:List.lookup ("look":Str) [(("plan":Str),x0),(("numbers":Str),x1),(("pieces":Str),x2),(("most":Str),x3),(("steps":Str),x4)]=(none:Option D):=rfl
theorem et{Q:DK}{E:DX}{pl:List Int}{v:Int}(hc:c.most<=10000)(h1:(nt c pl v s).1=true->Q .non (wM ad k c pD (nt c pl v s).2 M))(h2:(nt c pl v s).1=false->E ad.C_Dry (wM ad k c pD (nt c pl v s).2 M)):
  qB ad [.ref k.a,plD pl,.int v] (wM ad k c pD s M) Q E:=by
 unfold nt at h1 h2;simp! [u_q3,uH,wM_a,zJ,lf3,lf4,zC,List.length_map]
 split
 ·rename_i e
  have:¬s.steps.length<c.most:=by lia
  rw [if_neg this] at h2;exact da (h2 rfl)
 ·rename_i e
  have hl:s.steps.length<c.most:=by lia
  rw [if_pos hl] at h1;refine ⟨szl (by decide),szs (by lia),aD ?_⟩
  have:=h1 rfl;rw [<- uC] at this;simpa [zC] using this
end
end Tw
namespace L3
open PySem L2
def jR:Nat->List D->List D
 |_,[]=>[]
 |k,x::xs=>.tup [.int (k:Nat),x]::jR (k+1) xs
theorem nk:∀(xs:List D) (k:Nat),(xs.zipIdx k).map (fun p=>D.tup [.int (p.2:Nat),p.1])=jR k xs
 |[],_=>rfl
 |x::xs,k=>by rw [List.zipIdx_cons,List.map_cons,nk xs (k+1)];rfl
theorem enumD_eq(xs:List D):nZ xs=jR 0 xs:=nk xs 0
theorem bS{xs:List D}{M:Mem}:DIt.ok ⟨xs,[]⟩ M:=fun _ h=>by cases h
end L3
namespace Tw
open PySem L2 L3
mutual
def OkR(names:List Str)(m many:Int):Rw->Prop
 |.ifr x a b=>x∈names/\gZ names m many a/\gZ names m many b
 |.again x a=>x∈names/\gZ names m many a
 |.put x k=>j7 names m many (.put x k)
 |.take x k=>j7 names m many (.take x k)
 |.pick x k=>j7 names m many (.pick x k)
 |.two w x y z=>j7 names m many (.two w x y z)
def gZ(names:List Str)(m many:Int):List Rw->Prop
 |[]=>True
 |r::rs=>OkR names m many r/\gZ names m many rs
end
mutual
def hR:Rw->Nat
 |.ifr _ a b=>1+max (m_ a) (m_ b)
 |.again _ a=>1+m_ a
 |_=>0
def m_:List Rw->Nat
 |[]=>0
 |r::rs=>max (hR r) (m_ rs)
end
section
variable {c:Cf}{names:List Str}
theorem CC{n:gH}(hn:NOk names c.m n){x:Str}{v:Int}(hv:0<=v/\v<c.m):NOk names c.m (sN n x v):=by
 refine ⟨by rw [fU];exact hn.keys,fun p hp=>?_⟩
 simp only [sN,List.mem_map] at hp;obtain ⟨q,hq,rfl⟩:=hp
 split
 ·exact hv
 ·exact hn.rng q hq
theorem iz{pl:List Int}{v:Int}{s:Sx}:(nt c pl v s).2.nums=s.nums:=by unfold nt;split<;>rfl
theorem iX(hc:COk c){r:Rw}(hr:j7 names c.m c.pieces.length r){pl:List Int}{s:Sx}(hn:NOk names c.m s.nums):NOk names c.m (iy c r pl s).2.nums:=by
 unfold iy
 split
 ·exact CC hn (y9 hc hn hr)
 ·exact hn
theorem rM{x:Str}{pl:List Int}{body:Nat->Sx->Bool×Sx}(hb:∀t s,NOk names c.m s.nums->NOk names c.m (body t s).2.nums):∀(f t:Nat) (s:Sx),NOk names c.m s.nums->NOk names c.m (i7 c x pl body f t s).2.nums
 |0,_,s,h=>h
 |f+1,t,s,h=>by
  have h1:NOk names c.m (nt c (pl++[(t:Int)]) (lk s.nums x) s).2.nums:=by rw [iz];exact h
  unfold i7
  split
  ·split
   ·split
    ·exact rM hb f (t+1) _ (hb t _ h1)
    ·exact hb t _ h1
   ·exact h1
  ·exact h1
mutual
theorem pS(hc:COk c):∀(r:Rw),OkR names c.m c.pieces.length r->∀(pl:List Int) (s:Sx),NOk names c.m s.nums->NOk names c.m (exR c r pl s).2.nums
 |.ifr x a b,h,pl,s,hn=>by
  have h1:NOk names c.m (nt c pl (lk s.nums x) s).2.nums:=by rw [iz];exact hn
  simp only [OkR] at h;unfold exR
  split
  ·split
   ·exact eX hc a h.2.1 _ _ _ h1
   ·exact eX hc b h.2.2 _ _ _ h1
  ·exact h1
 |.again x a,h,pl,s,hn=>by
  simp only [OkR] at h;unfold exR;exact rM (fun t s hs=>eX hc a h.2 _ _ _ hs) _ _ _ hn
 |.put x k,h,pl,s,hn=>by rw [ce rfl];exact iX hc (by simpa only [OkR] using h) hn
 |.take x k,h,pl,s,hn=>by rw [ce rfl];exact iX hc (by simpa only [OkR] using h) hn
 |.pick x k,h,pl,s,hn=>by rw [ce rfl];exact iX hc (by simpa only [OkR] using h) hn
 |.two w x y z,h,pl,s,hn=>by rw [ce rfl];exact iX hc (by simpa only [OkR] using h) hn
theorem eX(hc:COk c):∀(rs:List Rw),gZ names c.m c.pieces.length rs->∀(pl:List Int) (j:Nat) (s:Sx),NOk names c.m s.nums->NOk names c.m (cV c rs pl j s).2.nums
 |[],_,_,_,s,hn=>by simpa only [cV] using hn
 |r::rs,h,pl,j,s,hn=>by
  simp only [gZ] at h;unfold cV
  split
  ·exact eX hc rs h.2 _ _ _ (pS hc r h.1 _ _ hn)
  ·exact pS hc r h.1 _ _ hn
end
end
def Post(ad:Ad)(k:Wk)(c:Cf)(pD:D)(r:Bool×Sx)(M:Mem)(d:D)(Q:DK)(E:DX):Prop:=(r.1=true->Q d (wM ad k c pD r.2 M))/\(r.1=false->E ad.C_Dry (wM ad k c pD r.2 M))
theorem calls_post{ad:Ad}{k:Wk}{c:Cf}{pD:D}{r:Bool×Sx}{M M0:Mem}{d:D}{T:Sd}{ds:List D}{Q:DK}{E:DX}(hm:∀Q' E',Post ad k c pD r M d Q' E'->T ds M0 Q' E'){b:BxQ E Q}(h:Post ad k c pD r M d Q E):calls T E ds M0 Q b:=
 calls_of fun Q' E' hq he=>hm Q' E' ⟨fun e=>hq _ _ (h.1 e),fun e=>he _ _ (h.2 e)⟩
theorem Post.drp{ad:Ad}{k:Wk}{c:Cf}{pD:D}{r:Bool×Sx}{M:Mem}{d:D}{Q:DK}{E:DX}(h:Post ad k c pD r M d Q E):Post ad k c pD r M d (L3.drp Q) (aS E):=⟨fun e=>aD (h.1 e),fun e=>da (h.2 e)⟩
section
variable {ad:Ad}{k:Wk}{c:Cf}{s:Sx}{M:Mem}{names:List Str}{rows0:List Rw}{mk:Str}
theorem ky{Q:DK}{E:DX}{pl:List Int}{x:Str}(hc:COk c)(hn:NOk names c.m s.nums)(hx:x∈names)(h:Post ad k c (aV c names rows0 mk) (nt c pl (lk s.nums x) s) M (.int (lk s.nums x)) Q E):
  ke ad [.ref k.a,plD pl,.str x] (wM ad k c (aV c names rows0 mk) s M) Q E:=by
 have hv:=hn.at hx;have key:∀v:Int,v=lk s.nums x->calls (qB ad) (aS E) [.ref k.a,plD pl,.int v] (wM ad k c (aV c names rows0 mk) s M) (fun _ M1=>L3.drp Q (.int v) M1) ⟨⟩:=by
  rintro v rfl
  exact calls_post (d:=.non) (fun Q' E' z=>et hc.most z.1 z.2) ⟨fun e=>aD (h.1 e),fun e=>da (h.2 e)⟩
 simp! [Ck,mT,wM_a,jS,xl,lfm,gw,hv.1,Option.map_some]
 split
 ·rename_i e
  exact key 0 (by unfold lk;rw [if_pos e])
 ·rename_i e
  exact key 1 (by unfold lk;rw [if_neg e])
theorem cT{n:Nat}{Q:DK}{E:DX}{pl:List Int}{r:Rw}(hnl:names.length<=1000)(hc:COk c)(hn:NOk names c.m s.nums)(hr:j7 names c.m c.pieces.length r)(h:Post ad k c (aV c names rows0 mk) (iy c r pl s) M .non Q E):
  S_q32 ad (n+1) [.ref k.a,r.d,plD pl] (wM ad k c (aV c names rows0 mk) s M) Q E:=by
 have fin:calls (oa ad) (aS E) [aV c names rows0 mk,.ref k.dn,.tup (c.pieces.map D.int),r.d] (wM ad k c (aV c names rows0 mk) s M) (fun d M'=>frz d M' fun x M1=>
   ao 3 x [some (.ref k.a),some r.d,some (plD pl),none] M1 fun δ M2=>aB (cI (ck ad.C_Walk "note_step" (qB ad) (aS E) 3 (aa 0) (a9 (aa 2) (a9 (aa 3) dNil))))
    (bd (aa 3) (oE (cU ad.C_Walk (aa 0) "numbers") (az bz (aa 1) (dC (.int 1))))) { nx:=fun _ M'=>L3.drp Q .non M',rt:=L3.drp Q } δ M2) ⟨⟩:=by
  refine aQ (d:=.int (fg c s.nums r)) (fun _ _ q=>jJ hc hn hr jS q) ?_;simp! [wM_a,lfm];refine calls_post (r:=nt c pl (fg c s.nums r) s) (d:=.non) (fun Q' E' z=>et hc.most z.1 z.2) ?_;unfold iy at h;unfold nt;have hkeys:xm r∈s.nums.map (·.1):=by
   rw [hn.keys];cases r with
   |put x k=>exact hr.1
   |take x k=>exact hr.1
   |pick x k=>exact hr.1
   |two w x y z=>exact hr.2.1
   |ifr=>exact hr.elim
   |again=>exact hr.elim
  split
  ·rename_i hl
   rw [if_pos hl] at h;refine ⟨fun _=>?_,fun e=>by simp at e⟩
   have h2:=h.1 rfl;have e2:wM ad k c (aV c names rows0 mk) ⟨sN s.nums (xm r) (fg c s.nums r),s.steps++[(pl,fg c s.nums r)]⟩ M=(wM ad k c (aV c names rows0 mk) ⟨s.nums,s.steps++[(pl,fg c s.nums r)]⟩ M).upd k.dn (.dK (di (kvD s.nums) (Sum.inr (xm r)) (.int (fg c s.nums r)))):=by
    rw [yw hkeys,xL]
   rw [e2] at h2;have hlen:(kvD s.nums).length<sizeLine:=by rw [kvD,List.length_map,<- List.length_map (f:=(·.1)),hn.keys];exact szs (by lia)
   cases r with
   |put x kk=>simp! [Rw.d,wM_a,jS,xl,atI_1];exact ⟨hlen,aD h2⟩
   |take x kk=>simp! [Rw.d,wM_a,jS,xl,atI_1];exact ⟨hlen,aD h2⟩
   |pick x kk=>simp! [Rw.d,wM_a,jS,xl,atI_1];exact ⟨hlen,aD h2⟩
   |two w x y z=>simp! [Rw.d,wM_a,jS,xl,atI_1];exact ⟨hlen,aD h2⟩
   |ifr=>exact hr.elim
   |again=>exact hr.elim
  ·rename_i hl
   rw [if_neg hl] at h;exact ⟨fun e=>by simp at e,fun _=>da (h.2 rfl)⟩
 cases r with
 |put x kk=>simp! [kL,fq,Rw.d,wM_a,lf0,xl,lf2,atI_0];exact fin
 |take x kk=>simp! [kL,fq,Rw.d,wM_a,lf0,xl,lf2,atI_0];exact fin
 |pick x kk=>simp! [kL,fq,Rw.d,wM_a,lf0,xl,lf2,atI_0];exact fin
 |two w x y z=>
  have hw1:((w=Str.ofString "if")=False):=by rcases hr.1 with rfl|rfl|rfl|rfl<;>exact eq_false (by decide +kernel)
  have hw2:((w=Str.ofString "again")=False):=by rcases hr.1 with rfl|rfl|rfl|rfl<;>exact eq_false (by decide +kernel)
  simp! [kL,fq,Rw.d,wM_a,lf0,xl,lf2,atI_0,hw1,hw2];exact fin
 |ifr=>exact hr.elim
 |again=>exact hr.elim
end
end Tw
namespace Tw
open PySem L2 L3
section
variable {c:Cf}
def Gr(c:Cf)(s s':Sx):Prop:=s.steps.length<=s'.steps.length/\(s.steps.length<=c.most->s'.steps.length<=c.most)
theorem Gr.refl{s:Sx}:Gr c s s:=⟨Nat.le_refl _,id⟩
theorem Gr.trans{s s1 s2:Sx}(a:Gr c s s1)(b:Gr c s1 s2):Gr c s s2:=⟨Nat.le_trans a.1 b.1,fun h=>b.2 (a.2 h)⟩
theorem nt_gr{pl:List Int}{v:Int}{s:Sx}:Gr c s (nt c pl v s).2:=by
 unfold nt
 split
 ·refine ⟨by simp,fun _=>?_⟩;simp;lia
 ·exact Gr.refl
theorem iJ{r:Rw}{pl:List Int}{s:Sx}:Gr c s (iy c r pl s).2:=by
 unfold iy
 split
 ·refine ⟨by simp,fun _=>?_⟩;simp;lia
 ·exact Gr.refl
theorem sg{x:Str}{pl:List Int}{body:Nat->Sx->Bool×Sx}(hb:∀t s,Gr c s (body t s).2):∀(f t:Nat) (s:Sx),Gr c s (i7 c x pl body f t s).2
 |0,_,s=>Gr.refl
 |f+1,t,s=>by
  unfold i7
  split
  ·split
   ·split
    ·exact nt_gr.trans ((hb t _).trans (sg hb f (t+1) _))
    ·exact nt_gr.trans (hb t _)
   ·exact nt_gr
  ·exact nt_gr
mutual
theorem qH:∀(r:Rw) (pl:List Int) (s:Sx),Gr c s (exR c r pl s).2
 |.ifr x a b,pl,s=>by
  unfold exR
  split
  ·split
   ·exact nt_gr.trans (fV a _ _ _)
   ·exact nt_gr.trans (fV b _ _ _)
  ·exact nt_gr
 |.again x a,pl,s=>by
  unfold exR;exact sg (fun t s=>fV a _ _ _) _ _ _
 |.put x k,pl,s=>by rw [ce rfl];exact iJ
 |.take x k,pl,s=>by rw [ce rfl];exact iJ
 |.pick x k,pl,s=>by rw [ce rfl];exact iJ
 |.two w x y z,pl,s=>by rw [ce rfl];exact iJ
theorem fV:∀(rs:List Rw) (pl:List Int) (j:Nat) (s:Sx),Gr c s (cV c rs pl j s).2
 |[],_,_,s=>by unfold cV;exact Gr.refl
 |r::rs,pl,j,s=>by
  unfold cV
  split
  ·exact (qH r _ _).trans (fV rs _ _ _)
  ·exact qH r _ _
end
end
theorem eJ{pl:List Int}{v:Int}:D.tup (pl.map D.int++[D.int v])=plD (pl++[v]):=by simp [plD]
section
variable {ad:Ad}{k:Wk}{c:Cf}{names:List Str}{rows0:List Rw}{mk:Str}
def sw(ad:Ad)(k:Wk)(c:Cf)(names:List Str)(rows0:List Rw)(mk:Str)(n:Nat):Prop:=∀(rs:List Rw) (pl:List Int) (s:Sx) (M:Mem) (Q:DK) (E:DX),gZ names c.m c.pieces.length rs->3*m_ rs+2<=n->pl.length+2*m_ rs+2<=1000->NOk names c.m s.nums->s.steps.length<=c.most->
 Post ad k c (aV c names rows0 mk) (cV c rs pl 0 s) M .non Q E->S_q24 ad n [.ref k.a,.tup (bc rs),plD pl] (wM ad k c (aV c names rows0 mk) s M) Q E
def Bp(ad:Ad)(k:Wk)(c:Cf)(names:List Str)(rows0:List Rw)(mk:Str)(n:Nat):Prop:=∀(r:Rw) (pl:List Int) (s:Sx) (M:Mem) (Q:DK) (E:DX),OkR names c.m c.pieces.length r->3*hR r+1<=n->pl.length+2*hR r+1<=1000->NOk names c.m s.nums->s.steps.length<=c.most->
 Post ad k c (aV c names rows0 mk) (exR c r pl s) M .non Q E->S_q32 ad n [.ref k.a,r.d,plD pl] (wM ad k c (aV c names rows0 mk) s M) Q E
def PIf(ad:Ad)(k:Wk)(c:Cf)(names:List Str)(rows0:List Rw)(mk:Str)(n:Nat):Prop:=∀(x:Str) (a b:List Rw) (pl:List Int) (s:Sx) (M:Mem) (Q:DK) (E:DX),OkR names c.m c.pieces.length (.ifr x a b)->3*hR (.ifr x a b)<=n->pl.length+2*hR (.ifr x a b)+1<=1000->NOk names c.m s.nums->s.steps.length<=c.most->
 Post ad k c (aV c names rows0 mk) (exR c (.ifr x a b) pl s) M .non Q E->S_q33 ad n [.ref k.a,(Rw.ifr x a b).d,plD pl] (wM ad k c (aV c names rows0 mk) s M) Q E
def PAg(ad:Ad)(k:Wk)(c:Cf)(names:List Str)(rows0:List Rw)(mk:Str)(n:Nat):Prop:=∀(x:Str) (a:List Rw) (pl:List Int) (s:Sx) (M:Mem) (Q:DK) (E:DX),OkR names c.m c.pieces.length (.again x a)->3*hR (.again x a)<=n->pl.length+2*hR (.again x a)+1<=1000->NOk names c.m s.nums->s.steps.length<=c.most->
 Post ad k c (aV c names rows0 mk) (exR c (.again x a) pl s) M .non Q E->S_q22 ad n [.ref k.a,(Rw.again x a).d,plD pl] (wM ad k c (aV c names rows0 mk) s M) Q E
theorem sG(hc:COk c){n:Nat}(ih:Bp ad k c names rows0 mk n):sw ad k c names rows0 mk (n+1):=by
 intro rs pl s M Q E hok hn hpl hno hst h;simp! [u_q24,T_q24,dFor,enumD_eq]
 refine du (fun xs δ M'=>∃(rs':List Rw) (j:Nat) (s':Sx) (c3 c4:Option D),xs=jR j (bc rs')/\δ=[some (.ref k.a),some (.tup (bc rs)),some (plD pl),c3,c4]/\M'=wM ad k c (aV c names rows0 mk) s' M/\gZ names c.m c.pieces.length rs'/\3*m_ rs'+2<=n+1/\pl.length+2*m_ rs'+2<=1000/\NOk names c.m s'.nums/\s'.steps.length<=c.most/\
  Post ad k c (aV c names rows0 mk) (cV c rs' pl j s') M .non Q E) (fun _ _ _ _=>bS) ?_ ?_ _ _ _ ⟨rs,0,s,none,none,rfl,rfl,rfl,hok,hn,hpl,hno,hst,h⟩
 ·rintro δ M' ⟨rs',j,s',c3,c4,e1,rfl,rfl,hok,hn,hpl,hno,hst,h⟩
  cases rs' with
  |nil=>exact aD (by simpa [cV] using h.1 (by simp [cV]))
  |cons r rs=>simp [bc,jR] at e1
 ·rintro x xs δ M' ⟨rs',j,s',c3,c4,e1,rfl,rfl,hok,hn,hpl,hno,hst,h⟩ D' hnx _ _ _
  cases rs' with
  |nil=>simp [bc,jR] at e1
  |cons r rs'=>
   simp only [bc,jR,List.cons.injEq] at e1;obtain ⟨rfl,rfl⟩:=e1;simp only [gZ] at hok;have h1:hR r<=m_ (r::rs')/\m_ rs'<=m_ (r::rs'):=by simp only [m_];lia
   simp! [plD,List.length_append,List.length_map];refine ⟨szl (by decide),szl (by lia),?_⟩
   rw [eJ];refine calls_post (r:=exR c r (pl++[(j:Int)]) s') (d:=.non) (fun Q' E' z=>ih r (pl++[(j:Int)]) s' M Q' E' hok.1 (by lia) (by simp;lia) hno hst z) ?_
   simp only [cV] at h;cases hb:(exR c r (pl++[(j:Int)]) s').1 with
   |true=>
    rw [if_pos hb] at h;refine ⟨fun _=>hnx _ _ ⟨rs',j+1,_,_,_,rfl,rfl,rfl,hok.2,by lia,by lia,pS hc r hok.1 _ _ hno,(qH r _ _).2 hst,h⟩,fun e=>by rw [hb] at e;cases e⟩
   |false=>
    rw [if_neg (by rw [hb];simp)] at h
    exact ⟨fun e=>(by rw [hb] at e;cases e),fun _=>da (h.2 hb)⟩
theorem vN(hnl:names.length<=1000)(hc:COk c){n:Nat}(ihf:PIf ad k c names rows0 mk n)(iha:PAg ad k c names rows0 mk n):Bp ad k c names rows0 mk (n+1):=by
 intro r pl s M Q E hok hn hpl hno hst h;cases r with
 |put x kk=>rw [ce rfl] at h;exact cT hnl hc hno (by simpa only [OkR] using hok) h
 |take x kk=>rw [ce rfl] at h;exact cT hnl hc hno (by simpa only [OkR] using hok) h
 |pick x kk=>rw [ce rfl] at h;exact cT hnl hc hno (by simpa only [OkR] using hok) h
 |two w x y z=>rw [ce rfl] at h;exact cT hnl hc hno (by simpa only [OkR] using hok) h
 |ifr x a b=>
  have hf:=fun Q' E' z=>ihf x a b pl s M Q' E' hok (by lia) hpl hno hst z
  simp only [Rw.d] at hf;simp! [kL,fq,Rw.d,atI_0];exact calls_post hf h.drp
 |again x a=>
  have hf:=fun Q' E' z=>iha x a pl s M Q' E' hok (by lia) hpl hno hst z
  simp only [Rw.d] at hf;simp! [kL,fq,Rw.d,atI_0];exact calls_post hf h.drp
theorem xE(hc:COk c){n:Nat}(ih:sw ad k c names rows0 mk n):PIf ad k c names rows0 mk (n+1):=by
 intro x a b pl s M Q E hok hn hpl hno hst h;simp only [OkR] at hok;simp only [hR] at hn hpl;simp! [u_q33,T_q33,Rw.d,wM_a,lfl,atI_1,atI_2,atI_3];refine calls_post (r:=nt c pl (lk s.nums x) s) (d:=.int (lk s.nums x)) (fun Q' E' z=>ky hc hno hok.1 z) ?_;have hl:lk s.nums x=0\/lk s.nums x=1:=by unfold lk;split<;>simp
 have hno1:NOk names c.m (nt c pl (lk s.nums x) s).2.nums:=by rw [iz];exact hno
 have hst1:=(nt_gr (c:=c) (pl:=pl) (v:=lk s.nums x) (s:=s)).2 hst;unfold exR at h;cases hb:(nt c pl (lk s.nums x) s).1 with
 |false=>
  rw [if_neg (by rw [hb];simp)] at h
  exact ⟨fun e=>(by rw [hb] at e;cases e),fun _=>da (h.2 hb)⟩
 |true=>
  rw [if_pos hb] at h;refine ⟨fun _=>?_,fun e=>by rw [hb] at e;cases e⟩
  rcases hl with hl|hl
  ·rw [if_neg (by rw [hl];decide)] at h
   rw [hl] at h hno1 hst1 ⊢;simp! [atI_2,atI_3,plD,List.length_append,List.length_map,show ((0:Int)=1)=False from eq_false (by decide)]
   refine ⟨szl (by decide),szl (by lia),?_⟩
   rw [eJ];exact calls_post (fun Q' E' z=>ih b (pl++[0]) _ M Q' E' hok.2.2 (by lia) (by simp;lia) hno1 hst1 z) h.drp
  ·rw [if_pos hl] at h
   rw [hl] at h hno1 hst1 ⊢;simp! [atI_2,atI_3,plD,List.length_append,List.length_map];refine ⟨szl (by decide),szl (by lia),?_⟩
   rw [eJ];exact calls_post (fun Q' E' z=>ih a (pl++[1]) _ M Q' E' hok.2.1 (by lia) (by simp;lia) hno1 hst1 z) h.drp
end
end Tw
namespace Tw
open PySem L2 L3
section
variable {ad:Ad}{k:Wk}{c:Cf}{names:List Str}{rows0:List Rw}{mk:Str}
theorem qJ(hc:COk c){n:Nat}(ih:sw ad k c names rows0 mk n):PAg ad k c names rows0 mk (n+1):=by
 intro x a pl s M Q E hok hn hpl hno hst h;simp only [OkR] at hok;simp only [hR] at hn hpl;simp! [u_q22,T_q22,Rw.d,dWhile];refine ⟨c.most+1,?_⟩;unfold exR at h
 have key:∀(f t:Nat) (s:Sx) (tc:eg) (tb:aI) (DD:DEnds) (b:BxW tc tb DD),NOk names c.m s.nums->s.steps.length<=c.most->c.most<s.steps.length+f->
   tc=aE (az gz (ax (ck ad.C_Walk "look" (ke ad) (aS E) 3 (aa 0) (a9 (az cA (aa 2) (bV (a9 (aa 3) dNil))) (a9 (az bz (aa 1) (dC (.int 1))) dNil)))) (dC (.int 1)))->
   tb=aB (cI (aC (S_q24 ad n) (aS E) 3 (a9 (aa 0) (a9 (az bz (aa 1) (dC (.int 2))) (a9 (az cA (aa 2) (bV (a9 (aa 3) dNil))) dNil))))) (sJ 3 (dC (.int 1)) nP)->
   DD.nx=(fun _ M'=>L3.drp Q .non M')->
   Post ad k c (aV c names rows0 mk) (i7 c x pl (fun t s=>cV c a (pl++[(t:Int)]) 0 s) f t s) M .non Q E->
   whileD tc tb DD b f [some (.ref k.a),some (.tup [.str "again",.str x,.tup (bc a)]),some (plD pl),some (.int (t:Int))] (wM ad k c (aV c names rows0 mk) s M):=by
  intro f
  induction f with
  |zero=>intro t s tc tb DD b hno hst hf;lia
  |succ f ihf=>
   intro t s tc tb DD b hno hst hf htc htb hDD h;unfold whileD;subst htc;simp! [wM_a,lfl,atI_1,plD,List.length_append,List.length_map];refine ⟨szl (by decide),szl (by lia),?_⟩
   rw [eJ];refine calls_post (r:=nt c (pl++[(t:Int)]) (lk s.nums x) s) (d:=.int (lk s.nums x)) (fun Q' E' z=>ky hc hno hok.1 z) ?_;have hl:lk s.nums x=0\/lk s.nums x=1:=by unfold lk;split<;>simp
   have hno1:NOk names c.m (nt c (pl++[(t:Int)]) (lk s.nums x) s).2.nums:=by rw [iz];exact hno
   have hst1:=(nt_gr (c:=c) (pl:=pl++[(t:Int)]) (v:=lk s.nums x) (s:=s)).2 hst;unfold i7 at h;cases hb:(nt c (pl++[(t:Int)]) (lk s.nums x) s).1 with
   |false=>
    rw [if_neg (by rw [hb];simp)] at h
    exact ⟨fun e=>(by rw [hb] at e;cases e),fun _=>da (h.2 hb)⟩
   |true=>
    rw [if_pos hb] at h;refine ⟨fun _=>?_,fun e=>by rw [hb] at e;cases e⟩
    have hlen:(nt c (pl++[(t:Int)]) (lk s.nums x) s).2.steps.length=s.steps.length+1:=by
     unfold nt at hb ⊢
     split at hb
     ·rename_i q;rw [if_pos q];simp
     ·cases hb
    rcases hl with hl|hl
    ·rw [if_neg (by rw [hl];decide)] at h
     rw [hl] at h ⊢;simp! [show ((0:Int)=1)=False from eq_false (by decide)]
     rw [hDD];rw [hl] at hb;exact aD (h.1 hb)
    ·rw [if_pos hl] at h
     rw [hl] at h hno1 hst1 hlen ⊢;simp! [];subst htb;simp! [atI_2,plD,List.length_append,List.length_map];refine ⟨szl (by decide),szl (by lia),?_⟩
     rw [eJ];refine calls_post (r:=cV c a (pl++[(t:Int)]) 0 (nt c (pl++[(t:Int)]) 1 s).2) (fun Q' E' z=>ih a (pl++[(t:Int)]) _ M Q' E' hok.2 (by lia) (by simp;lia) hno1 hst1 z) ?_
     have hg:=fV (c:=c) a (pl++[(t:Int)]) 0 (nt c (pl++[(t:Int)]) 1 s).2;cases hb2:(cV c a (pl++[(t:Int)]) 0 (nt c (pl++[(t:Int)]) 1 s).2).1 with
     |true=>
      rw [if_pos hb2] at h;refine ⟨fun _=>?_,fun e=>by rw [hb2] at e;cases e⟩
      simp! [];exact ihf (t+1) _ _ _ _ _ (eX hc a hok.2 _ _ _ hno1) (hg.2 hst1) (by have:=hg.1;lia) rfl rfl hDD h
     |false=>
      rw [if_neg (by rw [hb2];simp)] at h
      exact ⟨fun e=>(by rw [hb2] at e;cases e),fun _=>da (h.2 hb2)⟩
 exact key (c.most+1) 0 s _ _ _ _ hno hst (by lia) rfl rfl rfl h
theorem oA(hnl:names.length<=1000)(hc:COk c):∀n:Nat,sw ad k c names rows0 mk n/\Bp ad k c names rows0 mk n/\PIf ad k c names rows0 mk n/\PAg ad k c names rows0 mk n
 |0=>⟨fun rs pl s M Q E _ h=>by lia,fun r pl s M Q E _ h=>by lia,fun x a b pl s M Q E _ h=>by simp only [hR] at h;lia,fun x a pl s M Q E _ h=>by simp only [hR] at h;lia⟩
 |n+1=>by
  obtain ⟨h1,h2,h3,h4⟩:=oA hnl hc n;exact ⟨sG hc h2,vN hnl hc h3 h4,xE hc h1,qJ hc h1⟩
end
end Tw
namespace Tw
open PySem L2 L3
theorem mP:∀(names:List Str) (nums:List Int) (acc:gH),names.length=nums.length->(acc.map (·.1)++names).Nodup->
  ((names.map (fun x=>(Sum.inr x:au))).zip (nums.map D.int)).foldl (fun a p=>di a p.1 p.2) (kvD acc)=kvD (acc++names.zip nums)
 |[],nums,acc,_,_=>by simp
 |x::names,[],acc,h,_=>by simp at h
 |x::names,v::nums,acc,h,nd=>by
  have hx:x∉acc.map (·.1):=by
   have:=(List.nodup_append.mp nd).2.2;exact fun hm=>this x hm x (by simp) rfl
  have hany:((kvD acc).any fun kv=>decide (kv.1=Sum.inr x))=false:=by
   rw [List.any_eq_false];intro p hp;simp only [kvD,List.mem_map] at hp;obtain ⟨q,hq,rfl⟩:=hp;simp only [decide_eq_true_eq];intro e;have:q.1=x:=Sum.inr.inj e;exact hx (by rw [<- this];exact List.mem_map_of_mem hq)
  simp only [List.map_cons,List.zip_cons_cons,List.foldl_cons];have e1:di (kvD acc) (Sum.inr x) (.int v)=kvD (acc++[(x,v)]):=by
   unfold di;rw [hany];simp [kvD]
  rw [e1,mP names nums (acc++[(x,v)]) (by simpa using h) (by simpa using nd)]
  simp
theorem i9:∀names:List Str,dG (names.map D.str)=some (names.map fun x=>(Sum.inr x:au))
 |[]=>rfl
 |x::names=>by simp [dG,db,i9 names]
theorem nz{names:List Str}{nums:List Int}(h:names.length=nums.length)(nd:names.Nodup):uf (names.map fun x=>(Sum.inr x:au)) (nums.map D.int)=kvD (names.zip nums):=by
 have:=mP names nums [] h (by simpa using nd)
 simpa [uf,kvD] using this
theorem dp1{d:D}:dz "plan" d []=[(("plan":Str),d)]:=rfl
theorem dp2{a d:D}:dz "numbers" d [(("plan":Str),a)]=[(("plan":Str),a),(("numbers":Str),d)]:=rfl
theorem dp3{a b d:D}:dz "pieces" d [(("plan":Str),a),(("numbers":Str),b)]=[(("plan":Str),a),(("numbers":Str),b),(("pieces":Str),d)]:=rfl
theorem dp4{a b e d:D}:dz "most" d [(("plan":Str),a),(("numbers":Str),b),(("pieces":Str),e)]=[(("plan":Str),a),(("numbers":Str),b),(("pieces":Str),e),(("most":Str),d)]:=rfl
theorem dp5{a b e g d:D}:dz "steps" d [(("plan":Str),a),(("numbers":Str),b),(("pieces":Str),e),(("most":Str),g)]=[(("plan":Str),a),(("numbers":Str),b),(("pieces":Str),e),(("most":Str),g),(("steps":Str),d)]:=rfl
def dM(nums pieces:List Int):D:=.tup [.tup (nums.map D.int),.tup (pieces.map D.int)]
section
variable {ad:Ad}{c:Cf}{names:List Str}{rows:List Rw}{mk:Str}{M:Mem}{nums:List Int}
theorem tV{a:Addr}{Q:DK}{E:DX}(ha:M a=none)(hl:names.length=nums.length)(nd:names.Nodup)(h0:0<names.length)(h1:names.length<=1000)
  (h:∀(k:Wk),k.a=a->M k.dn=none->M k.ls=none->Q .non (wM ad k c (aV c names rows mk) ⟨names.zip nums,[]⟩ M)):
  yT ad [.ref a,aV c names rows mk,dM nums c.pieces,.int (c.most:Nat)] (M.upd a (.ins ad.C_Walk [])) Q E:=by
 simp! [u_q4,vb,aV,dM,Mem.upd_upd,atI_0,atI_1,i9,List.length_map,dp1];refine ⟨by decide,hl,h0,h1,fun dn hdn=>?_⟩
 have n1:a≠dn:=Mem.ne Mem.upd_same hdn;have hdn':M dn=none:=by rw [ah (Ne.symm n1)] at hdn;exact hdn
 simp! [ah n1,Mem.upd_same,dp2,bB (Ne.symm n1),Mem.upd_upd,nz hl nd];refine ⟨by simp,?_⟩
 simp! [ah n1,Mem.upd_same,dp3,bB (Ne.symm n1),Mem.upd_upd];refine ⟨by simp,?_⟩
 simp! [ah n1,Mem.upd_same,dp4,bB (Ne.symm n1),Mem.upd_upd];refine ⟨by simp,szl (by simp),fun ls hls=>?_⟩
 have n2:a≠ls:=by
  intro e;subst e;rw [ah n1,Mem.upd_same] at hls;cases hls
 have n3:dn≠ls:=by
  intro e;subst e;rw [Mem.upd_same] at hls;cases hls
 have hls':M ls=none:=by rw [ah (Ne.symm n3),ah (Ne.symm n2)] at hls;exact hls
 simp! [ah n2,ah n1,Mem.upd_same,dp5];refine ⟨by simp,aD ?_⟩
 have:=h ⟨a,dn,ls,n1,n2,n3⟩ rfl hdn' hls';have e:wM ad ⟨a,dn,ls,n1,n2,n3⟩ c (aV c names rows mk) ⟨names.zip nums,[]⟩ M=(((M.upd a (.ins ad.C_Walk [("plan",aV c names rows mk),("numbers",.ref dn),("pieces",.tup (c.pieces.map D.int)),("most",.int (c.most:Nat))])).upd dn (.dK (kvD (names.zip nums)))).upd ls (.lst [])).upd a (.ins ad.C_Walk [("plan",aV c names rows mk),("numbers",.ref dn),("pieces",.tup (c.pieces.map D.int)),("most",.int (c.most:Nat)),("steps",.ref ls)]):=by
  unfold wM;rw [bB (Ne.symm n2),bB (Ne.symm n1),Mem.upd_upd];rfl
 rw [e] at this;exact this
def gi(c:Cf)(names:List Str)(rows:List Rw)(nums:List Int):Bool×Sx:=cV c rows [] 0 ⟨names.zip nums,[]⟩
def qC(names:List Str)(r:Bool×Sx):D:=if r.1=true then .tup (names.map fun x=>.int (nm r.2.nums x)) else .non
structure PlOk(c:Cf)(names:List Str)(rows:List Rw)(nums:List Int):Prop where
 co:COk c
 ln:names.length=nums.length
 nd:names.Nodup
 l0:0<names.length
 l1:names.length<=1000
 rng:∀v∈nums,0<=v/\v<c.m
 ok:gZ names c.m c.pieces.length rows
 h:m_ rows<=7
theorem jg:∀{names:List Str} {nums:List Int},names.length=nums.length->(names.zip nums).map (·.1)=names
 |[],[],_=>rfl
 |[],_::_,h=>by simp at h
 |_::_,[],h=>by simp at h
 |x::xs,v::vs,h=>by simp [jg (by simpa using h)]
theorem PlOk.nok(p:PlOk c names rows nums):NOk names c.m (names.zip nums):=⟨jg p.ln,fun q hq=>p.rng _ (List.of_mem_zip hq).2⟩
theorem wk{Q:DK}{E:DX}(p:PlOk c names rows nums)(h:∀l,M l=none->Q (.tup [.ref l,qC names (gi c names rows nums)]) (M.upd l (.lst (zC (gi c names rows nums).2.steps)))):
  oF ad [aV c names rows mk,dM nums c.pieces,.int (c.most:Nat)] M Q E:=by
 simp! [CW,o6];intro a ha;refine calls_of fun Q' E' hq _=>tV ha p.ln p.nd p.l0 p.l1 fun k hk hdn hls=>hq _ _ ?_;subst hk;have hsub:∀(s':Sx),∀b o,(M.upd k.ls (.lst (zC s'.steps))) b=some o->wM ad k c (aV c names rows mk) s' M b=some o:=by
  intro s' b o e
  by_cases h1:b=k.ls
  ·subst h1;rw [Mem.upd_same] at e;rw [zJ];exact e
  ·rw [ah h1] at e
   have h2:b≠k.dn:=by rintro rfl;rw [hdn] at e;cases e
   have h3:b≠k.a:=by rintro rfl;rw [ha] at e;cases e
   unfold wM;rw [ah h1,ah h2,ah h3];exact e
 have hr:=(oA (ad:=ad) (k:=k) (rows0:=rows) (mk:=mk) p.l1 p.co 24).1 rows [] ⟨names.zip nums,[]⟩ M;unfold aV at hr;simp! [aV,atI_3];refine ⟨szl (by decide),?_⟩
 refine calls_of fun Q2 E2 hq2 he2=>hr Q2 E2 p.ok (by have:=p.h;lia) (by have:=p.h;simp;lia) p.nok (Nat.zero_le _) ⟨fun e=>hq2 _ _ ?_,fun e=>he2 _ _ ⟨rfl,?_⟩⟩
 ·have hn:NOk names c.m (gi c names rows nums).2.nums:=eX p.co rows p.ok [] 0 ⟨names.zip nums,[]⟩ p.nok
  have e':(gi c names rows nums).1=true:=e;simp! [wM_a,lf4,atI_1,bq]
  refine bQ (fun xs acc δ M'=>∃n1 n2 c0,names=n1++n2/\xs=n2.map D.str/\acc=n1.map (fun x=>D.int (nm (gi c names rows nums).2.nums x))/\δ=[c0,some (.ref k.a)]/\M'=wM ad k c (aV c names rows mk) (gi c names rows nums).2 M)
   (fun _ _ _ _ _=>bS) ?_ ?_ ?_ _ _ _ _ ⟨[],names,none,rfl,rfl,rfl,rfl,rfl⟩
  ·rintro acc δ M' ⟨n1,n2,c0,e1,e2,rfl,rfl,rfl⟩
   have:n2=[]:=by cases n2 with|nil=>rfl|cons _ _=>simp at e2
   subst this;intro q hq;simp! [Mem.upd_upd,Mem.upd_del,ap hq];refine ⟨szl (by decide),⟨_,hsub _,?_⟩⟩
   have:=h k.ls hls;unfold qC at this;rw [if_pos e'] at this;have en:n1=names:=by simpa using e1.symm
   rw [en];exact this
  ·rintro x xs acc δ M' ⟨n1,n2,c0,e1,e2,rfl,rfl,rfl⟩ N hN _
   cases n2 with
   |nil=>simp at e2
   |cons y n2=>
    simp only [List.map_cons,List.cons.injEq] at e2;obtain ⟨rfl,rfl⟩:=e2;have hy:y∈names:=by rw [e1];simp
    simp! [wM_a,jS,xl,gw,(hn.at hy).1,Option.map_some];refine hN _ _ _ ?_ ⟨n1++[y],n2,_,by simp [e1],rfl,by simp,rfl,rfl⟩
    have hl:=congrArg List.length e1;have:=p.l1;simp at hl ⊢;exact szs (by lia)
  ·rintro x xs acc δ M' ⟨n1,n2,c0,e1,e2,rfl,rfl,rfl⟩
   have hl:=congrArg List.length e1;have:=p.l1;simp at hl ⊢;exact szs (by lia)
 ·have e':(gi c names rows nums).1=false:=e
  simp! [wM_a,lf4];refine ⟨szl (by decide),⟨_,hsub _,?_⟩⟩
  have:=h k.ls hls;unfold qC at this;rw [if_neg (by rw [e'];simp)] at this
  exact this
end
end Tw
namespace Tw
open PySem L2 L3
structure Pt where
 p:Addr
 q:Addr
 ne:p≠q
def Has(k:Pt)(b:Nat)(M:Mem):Prop:=∃(cells:List Int) (t h:Int),cells.length<=63/\0<=t/\t+b<=2 ^ 50/\M k.p=some (.lst [.ref k.q,.int t,.int h])/\M k.q=some (.lst (cells.map D.int))
def Dr(k:Pt)(b:Nat)(M M':Mem):Prop:=Has k b M'/\∀x,x≠k.p->x≠k.q->M' x=M x
section
variable {k:Pt}{b c:Nat}{M M1 M2:Mem}{l:Addr}{o:MO}
theorem Has.le(h:Has k b M)(e:c<=b):Has k c M:=by
 obtain ⟨cells,t,hh,a1,a2,a3,e1,e2⟩:=h;exact ⟨cells,t,hh,a1,a2,by lia,e1,e2⟩
theorem Dr.le(h:Dr k b M M1)(e:c<=b):Dr k c M M1:=⟨h.1.le e,h.2⟩
theorem Has.refl(h:Has k b M):Dr k b M M:=⟨h,fun _ _ _=>rfl⟩
theorem Dr.trans(x:Dr k b M M1)(y:Dr k c M1 M2):Dr k c M M2:=⟨y.1,fun z h1 h2=>(y.2 z h1 h2).trans (x.2 z h1 h2)⟩
theorem Has.nep(h:Has k b M)(hl:M l=none):l≠k.p/\l≠k.q:=by
 obtain ⟨cells,t,hh,_,_,_,e1,e2⟩:=h;exact ⟨fun e=>(by rw [e,e1] at hl;cases hl),fun e=>(by rw [e,e2] at hl;cases hl)⟩
theorem Has.upd(h:Has k b M)(h1:l≠k.p/\l≠k.q):Has k b (M.upd l o):=by
 obtain ⟨cells,t,hh,a1,a2,a3,e1,e2⟩:=h;exact ⟨cells,t,hh,a1,a2,a3,by rw [ah (Ne.symm h1.1)];exact e1,by rw [ah (Ne.symm h1.2)];exact e2⟩
theorem Dr.none(h0:Has k c M)(h:Dr k b M M1)(hl:M l=none):M1 l=none:=by
 have:=h0.nep hl;rw [h.2 l this.1 this.2];exact hl
end
theorem atL0{α:Type}{x:α}{xs:List α}:atI (x::xs) 0=some x:=by rw [atI_0];rfl
theorem eh{a m:Int}(h:0<m):0<=a % m/\a % m<m:=⟨Int.emod_nonneg _ (by lia),Int.emod_lt_of_pos _ h⟩
theorem DH:xj 3 1=some 1:=rfl
theorem zO:xj 3 2=some 2:=rfl
section
variable {ad:Ad}{EE:DX}{D0:DEnds}{M:Mem}{k:Pt}
theorem va{t cell many:Int}{x0:D}{c2 c5:Option D}(h0:0<many)(ht:0<=t)(ht2:t<2 ^ 51)(h:∀r,D0.rt (.int (r % many)) M):
  j2 ad EE D0 [some x0,some (.int many),c2,some (.int t),some (.int cell),c5] M:=by
 simp! [];have a1:=eh (a:=cell) (m:=1000003) (by decide)
 have a2:=eh (a:=(cell % 1000003+1)*(7919*t*t+104729*t+12345)) (m:=2147483647) (by decide)
 exact ⟨by decide,.inl ⟨by decide,by decide⟩,.inr ⟨by lia,by lia⟩,.inl ⟨by decide,by decide⟩,.inl ⟨by lia,by lia⟩,by decide,.inl ⟨by lia,by lia⟩,.inl ⟨by decide,by decide⟩,by decide,by decide,⟨by decide,by decide⟩,h0,h _⟩
theorem sM{Q:DK}{E:DX}{b:Nat}{many:Int}(hp:Has k (b+1) M)(h0:0<many)(h1:many<2 ^ 62)(h:∀r M',0<=r->r<many->Dr k b M M'->Q (.int r) M'):dD ad [.ref k.p,.int many] M Q E:=by
 obtain ⟨cells,t,hh,a1,a2,a3,e1,e2⟩:=hp;have hne:=k.ne;have fin:∀(r t' h':Int) (M':Mem),(t'=t\/t'=t+1)->(∀x,x≠k.p->M' x=M x)->M' k.p=some (.lst [.ref k.q,.int t',.int h'])->drp Q (.int (r % many)) M':=fun r t' h' M' c1 c2 c3=>
  aD (h _ _ (eh h0).1 (eh h0).2 ⟨⟨cells,t',h',a1,by lia,by lia,c3,by rw [c2 _ (Ne.symm hne)];exact e2⟩,fun x h1 _=>c2 x h1⟩)
 have g1:∀o,(M.upd k.p o) k.q=some (.lst (cells.map D.int)):=fun o=>by rw [ah (Ne.symm hne)];exact e2
 rw [DV (n:=0)];unfold n8;have t12:gf ad (aS E) { nx:=fun _ M'=>drp Q .non M',rt:=drp Q } [some (.ref k.p),some (.int many),none,none,none,none] M:=by
  unfold gf mK om si qT;have t7:∀cell:Int,j2 ad (aS E) { nx:=fun _ M'=>drp Q .non M',rt:=drp Q } [some (.ref k.p),some (.int many),none,some (.int t),some (.int cell),none] (M.upd k.p (.lst [.ref k.q,.int (t+1),.int hh])):=fun cell=>
   va h0 a2 (by lia) fun r=>fin r (t+1) hh _ (.inr rfl) (fun x hx=>ah hx) Mem.upd_same
  generalize j2 ad (aS E)=K7 at t7 ⊢;simp! [e1,atI_1,atI_2,atL0,DH,g1,List.length_map]
  by_cases c1:(0:Int)<(cells.length:Nat)
  ·rw [if_pos c1]
   have a4:=eh (a:=t) c1;obtain ⟨y,ey⟩:∃y,atI (cells.map D.int) (t % (cells.length:Nat))=some (.int y):=by
    have hr:(t % (cells.length:Nat)).toNat<cells.length:=by lia
    exact ⟨cells[(t % (cells.length:Nat)).toNat],by rw [cP a4.1,List.getElem?_map,List.getElem?_eq_getElem hr];rfl⟩
   refine ⟨c1,?_⟩;simp! [ey]
   by_cases c2:t<(cells.length:Nat)
   ·rw [if_pos c2]
    refine ⟨⟨by decide,by decide,by decide⟩,?_⟩
    simp! [zO]
    by_cases c3:10 ^ Int.toNat 18<=y
    ·rw [if_pos c3]
     exact ⟨⟨h0,by lia⟩,h0,fin y (t+1) _ _ (.inr rfl) (fun x hx=>by rw [ah hx,ah hx]) Mem.upd_same⟩
    ·rw [if_neg c3];exact t7 y
   ·rw [if_neg c2];exact t7 y
  ·rw [if_neg c1,if_neg (by lia)]
   exact t7 0
 generalize gf ad (aS E)=K12 at t12 ⊢;simp! [e1,atI_2]
 by_cases c:0<hh
 ·rw [if_pos c]
  simp! [e1,atI_2,zO];exact ⟨h0,⟨h0,by lia⟩,fin hh t _ _ (.inl rfl) (fun x hx=>ah hx) Mem.upd_same⟩
 ·rw [if_neg c]
  exact t12
theorem cb{Q:DK}{b:Nat}{many:Int}{bx:BxQ EE Q}(hp:Has k (b+1) M)(h0:0<many)(h1:many<2 ^ 62)(h:∀r M',0<=r->r<many->Dr k b M M'->Q (.int r) M'):calls (dD ad) EE [.ref k.p,.int many] M Q bx:=
 calls_of fun Q' E' hq _=>sM hp h0 h1 fun r M' a b d=>hq _ _ (h r M' a b d)
theorem k_{xs:List D}{k:Nat}:e_ xs none (some (k:Int))=xs.take k:=by
 unfold e_;rw [HT.jt,HT.rK,List.drop_zero,Nat.sub_zero];rcases Nat.le_total k xs.length with h|h
 ·rw [Nat.min_eq_left h]
 ·rw [Nat.min_eq_right h,List.take_of_length_le (Nat.le_refl _),List.take_of_length_le h]
theorem cutD_lo{xs:List D}{k:Nat}:e_ xs (some (k:Int)) none=xs.drop k:=by
 unfold e_;rw [HT.jt,HT.rK];rcases Nat.le_total k xs.length with h|h
 ·rw [Nat.min_eq_left h,List.take_of_length_le (by simp)]
 ·rw [Nat.min_eq_right h,List.drop_of_length_le (Nat.le_refl _),List.drop_of_length_le h];simp
theorem u3{Q:DK}{E:DX}{ns:List Int}(h:∀(k:Pt) M',Has k (2 ^ 49) M'->(∀b,b≠k.p->b≠k.q->M' b=M b)->Q (.ref k.p) M'):r9 ad [.ml (ns.map D.int)] M Q E:=by
 have c63:e_ (ns.map D.int) none (some 63)=(ns.take 63).map D.int:=by rw [List.map_take];exact k_ (k:=63)
 simp! [DQ,nX,c63];intro b hb;rw [Mem.upd_del,ap hb];intro q hq;refine ⟨szl (by decide),fun p hp=>?_⟩
 have ne:p≠q:=by intro e;subst e;rw [Mem.upd_same] at hp;cases hp
 refine aD (h ⟨p,q,ne⟩ _ ⟨ns.take 63,0,0,by simp;lia,by decide,by decide,Mem.upd_same,?_⟩ fun b b1 b2=>?_)
 ·show ((M.upd q _).upd p _) q=_
  rw [ah (Ne.symm ne),Mem.upd_same]
 ·rw [ah b1,ah b2]
end
end Tw
namespace Tw
open PySem L2 L3
section
variable {te:bH}{M:Mem}
theorem iF{tt:eg}{ok:Mem->Prop}{Q:List D->Mem->Prop}{b:BxC (ao 0) tt te ok Q}{rest:Dl}{c:Option D}{xs:List D}(p:D->Bool)(f:D->D)(ho:ok M)(hl:xs.length<=100000)
  (ht:∀x∈xs,∀K:Bool->Mem->Prop,K (p x) M->tt (some x::rest) M K) (he:∀x∈xs,p x=true->∀K:DK,K (f x) M->te (some x::rest) M K) (h:Q ((xs.filter p).map f) M):
  cR (ao 0) tt te ok Q b xs [] (c::rest) M:=by
 refine bQ (fun ys acc δ N=>∃(us:List D) (c0:Option D),xs=us++ys/\acc=(us.filter p).map f/\δ=c0::rest/\M=N) (fun _ _ _ _ z=>by obtain ⟨_,_,_,_,_,rfl⟩:=z;exact ho) ?_ ?_ ?_ _ _ _ _ ⟨[],c,rfl,rfl,rfl,rfl⟩
 ·rintro acc δ N ⟨us,c0,e1,rfl,rfl,rfl⟩
  rw [List.append_nil] at e1;subst e1;exact h
 ·rintro y ys acc δ N ⟨us,c0,e1,rfl,rfl,rfl⟩ N' hN1 hN2
  have hy:y∈xs:=by rw [e1];simp
  have h2:=congrArg List.length e1;simp only [List.length_append,List.length_cons] at h2;have h3:=List.length_filter_le p us;simp only [ao,List.set];refine ht y hy _ ?_;cases hp:p y with
  |true=>
   rw [if_pos rfl];exact he y hy hp _ (hN1 _ _ _ (by rw [List.length_map];exact szs (by lia)) ⟨us++[y],_,by simp [e1],by simp [hp],rfl,rfl⟩)
  |false=>
   rw [if_neg (by simp)]
   exact hN2 .non _ _ ⟨us++[y],_,by simp [e1],by simp [hp],rfl,rfl⟩
 ·rintro y ys acc δ N ⟨us,c0,e1,rfl,rfl,rfl⟩
  have h2:=congrArg List.length e1;simp only [List.length_append,List.length_cons] at h2;have h3:=List.length_filter_le p us;rw [List.length_map];exact szs (by lia)
theorem eF{ok:Mem->Prop}{Q:List D->Mem->Prop}{b:BxC (ao 0) cv te ok Q}{rest:Dl}{c:Option D}{xs:List D}(f:D->D)(ho:ok M)(hl:xs.length<=100000)
  (he:∀x∈xs,∀K:DK,K (f x) M->te (some x::rest) M K) (h:Q (xs.map f) M):cR (ao 0) cv te ok Q b xs [] (c::rest) M:=by
 refine iF (fun _=>true) f ho hl (fun x _ K q=>q) (fun x hx _=>he x hx) ?_;rw [List.filter_eq_self.mpr fun _ _=>rfl];exact h
end
instance lawKey:LawfulBEq au where
 eq_of_beq {a b} h:=by
  cases a<;>cases b
  ·exact congrArg Sum.inl (eq_of_beq (α:=Int) h)
  ·cases h
  ·cases h
  ·exact congrArg Sum.inr (eq_of_beq (α:=Str) h)
 rfl {a}:=by
  cases a
  ·exact beq_self_eq_true (α:=Int) _
  ·exact beq_self_eq_true (α:=Str) _
def kD:au->D
 |.inl i=>.int i
 |.inr x=>.str x
theorem wV(a b:au):aN (kD a) (kD b)=decide (a=b):=by
 cases a<;>cases b<;>simp [kD,aN]
theorem we(n:Nat)(a:au):bZ n (kD a)=true:=by cases a<;>cases n<;>rfl
theorem sj(n:Nat):∀ks:List au,fits n (ks.map kD)=true
 |[]=>by cases n<;>rfl
 |k::ks=>by simp only [List.map_cons,fits,we,sj n ks,Bool.and_self]
theorem cW:∀ks:List au,dG (ks.map kD)=some ks
 |[]=>rfl
 |k::ks=>by
  have:=cW ks;cases k<;>simp [dG,kD,db,this]
theorem Ai{ks:List au}{k:au}:((ks.map kD).any fun d=>aN d (kD k))=decide (k∈ks):=by
 induction ks with
 |nil=>rfl
 |cons a ks ih=>
  rw [List.map_cons,List.any_cons,ih,wV]
  by_cases h:a=k
  ·simp [h]
  ·have:¬k=a:=fun e=>h e.symm
   simp [h,this]
def mxD(ks:List au):D:=.lst (ks.map kD)
theorem CT{M:Mem}{k:au}:dv M (kD k)=kD k:=by cases k<;>rfl
def IsMx(M:Mem)(d:D)(ks:List au):Prop:=d=mxD ks\/∃p,d=.ref p/\M p=some (.lst (ks.map kD))
theorem IsMx.mx{M:Mem}{ks:List au}:IsMx M (mxD ks) ks:=.inl rfl
theorem IsMx.sD{M:Mem}{d:D}{ks:List au}(h:IsMx M d ks):b_ M d=some (ks.map kD):=by
 rcases h with rfl|⟨p,rfl,e⟩
 ·rfl
 ·simp only [b_,e]
theorem IsMx.sL{M:Mem}{d:D}{ks:List au}(h:IsMx M d ks):seqL M d=some (ks.map kD):=by
 rcases h with rfl|⟨p,rfl,e⟩
 ·rfl
 ·simp only [seqL,e]
theorem IsMx.go{M M':Mem}{d:D}{ks:List au}(h:IsMx M d ks)(k:∀p xs,M p=some (.lst xs)->M' p=some (.lst xs)):IsMx M' d ks:=h.imp (fun e=>e) fun ⟨p,e,q⟩=>⟨p,e,k p _ q⟩
theorem IsMx.tup{M:Mem}{d:D}{ks:List au}{K:DK}(h:IsMx M d ks)(q:K (.tup (ks.map kD)) M):cTuple [d] M K:=by
 have e:=h.sL;rcases h with rfl|⟨p,rfl,_⟩
 ·exact q
 ·simp only [cTuple,e];exact q
theorem qe{M:Mem}{d:D}{ks:List au}{k:au}(h:IsMx M d ks):mw M (kD k) d=some (decide (k∈ks)):=by
 unfold mw;simp only [h.sD,CT,we,sj,and_self,if_true,Ai]
structure Cse where
 w:Int
 many:Nat
 names:List Str
 rows:List Rw
 mn:Str
 most:Nat
structure Sta where
 nums:List Int
 pieces:List Int
def Sta.d(s:Sta):D:=dM s.nums s.pieces
def Cse.cf(C:Cse)(s:Sta):Cf:=⟨C.w,s.pieces,C.most⟩
def Cse.d(C:Cse):D:=.tup [.int C.w,.tup (C.names.map D.str),.int (C.many:Nat),.tup (bc C.rows),.str C.mn]
structure Cse.Ok(C:Cse):Prop where
 m2:2<=C.w
 m1:C.w<=997
 few:C.many<=100
 most:C.most<=10000
 nd:C.names.Nodup
 l0:0<C.names.length
 l1:C.names.length<=100
 ok:gZ C.names C.w C.many C.rows
 h:m_ C.rows<=7
 mn:C.mn∈C.names
structure SOk(C:Cse)(s:Sta):Prop where
 ln:s.nums.length=C.names.length
 lp:s.pieces.length=C.many
 rn:∀v∈s.nums,0<=v/\v<C.w
 rp:∀v∈s.pieces,0<=v/\v<C.w
def wl(mk:Str)(r:Bool×Sx):D:=if r.1=true then .int (nm r.2.nums mk) else .non
def Cse.run(C:Cse)(s:Sta):Bool×Sx:=gi (C.cf s) C.names C.rows s.nums
def Cse.mark(C:Cse)(s:Sta):D:=wl C.mn (C.run s)
section
variable {C:Cse}{s:Sta}{ad:Ad}{M:Mem}{Q:DK}{E:DX}
theorem Cse.Ok.pl(o:C.Ok)(k:SOk C s):PlOk (C.cf s) C.names C.rows s.nums:=
 ⟨⟨o.m2,o.m1,k.rp,by show s.pieces.length<=1000;rw [k.lp];have:=o.few;lia,o.most⟩,k.ln.symm,o.nd,o.l0,by have:=o.l1;lia,k.rn,by show gZ C.names C.w s.pieces.length C.rows;rw [k.lp];exact o.ok,o.h⟩
theorem SOk.pd(k:SOk C s):C.d=aV (C.cf s) C.names C.rows C.mn:=by unfold Cse.d aV Cse.cf;rw [k.lp]
theorem jy(C:Cse)(s:Sta):C.mark s=.non\/∃v,C.mark s=.int v:=by
 unfold Cse.mark wl
 split
 ·exact .inr ⟨_,rfl⟩
 ·exact .inl rfl
theorem j5{Q:DK}(h:Q (C.mark s) M):frz (C.mark s) M Q:=by rcases jy C s with e|⟨v,e⟩<;>rw [e] at h ⊢<;>exact h
theorem qf{mk:Str}:∀{names:List Str},mk∈names->∃j,names.findIdx? (fun y=>decide (y=mk))=some j/\names[j]?=some mk
 |[],h=>by simp at h
 |x::names,h=>by
  by_cases e:x=mk
  ·subst e;exact ⟨0,by simp [List.findIdx?_cons],rfl⟩
  ·have h2:mk∈names:=by
    rcases List.mem_cons.mp h with z|z
    ·exact absurd z.symm e
    ·exact z
   obtain ⟨j,h3,h4⟩:=qf h2;exact ⟨j+1,by simp [List.findIdx?_cons,e,h3],by simpa using h4⟩
theorem fB:∀names:List Str,dj (names.map D.str)=some names
 |[]=>rfl
 |x::names=>by rw [List.map_cons,dj,fB names]
def Av(names:List Str)(r:Bool×Sx):D:=.tup [.lst (zC r.2.steps),qC names r]
theorem uQ{c:Cf}{names:List Str}{rows:List Rw}{mk:Str}{nums:List Int}{EE:DX}{b:BxQ EE fun d M'=>frzT d M' Q}(p:PlOk c names rows nums)(h:Q (Av names (gi c names rows nums)) M):
  calls (oF ad) EE [aV c names rows mk,dM nums c.pieces,.int (c.most:Nat)] M (fun d M'=>frzT d M' Q) b:=by
 refine calls_of fun Q' E' hq _=>wk p fun l hl=>hq _ _ ?_;unfold Av qC at h;unfold qC;cases e:(gi c names rows nums).1 with
 |true=>
  rw [e,if_pos rfl] at h;rw [if_pos rfl];simp! [Mem.upd_del,ap hl];exact h
 |false=>
  rw [e,if_neg (by simp)] at h
  rw [if_neg (by simp)]
  simp! [Mem.upd_del,ap hl];exact h
theorem tu{c:Cf}{names:List Str}{rows:List Rw}{mk:Str}{nums:List Int}(p:PlOk c names rows nums)(hm:mk∈names)(h:Q (wl mk (gi c names rows nums)) M):jw ad [aV c names rows mk,dM nums c.pieces,.int (c.most:Nat)] M Q E:=by
 have l1:=p.l1;obtain ⟨j,e1,e2⟩:=qf hm;simp! [CN,oy];refine uQ p ?_;simp! [Av,atI_1];unfold wl at h;unfold qC;cases e:(gi c names rows nums).1 with
 |true=>
  rw [e,if_pos rfl] at h;rw [if_pos rfl];simp! [aV,atI_1,atI_4,fB,e1];refine ⟨l1,?_⟩;have e3:atI (names.map fun x=>D.int (nm (gi c names rows nums).2.nums x)) (j:Nat)=some (.int (nm (gi c names rows nums).2.nums mk)):=by
   rw [cP (by lia),Int.toNat_natCast,List.getElem?_map,e2];rfl
  simp! [e3];exact aD h
 |false=>
  rw [e,if_neg (by simp)] at h
  rw [if_neg (by simp)]
  simp! [];exact aD h
theorem gM{EE:DX}{b:BxQ EE Q}(o:C.Ok)(k:SOk C s)(h:Q (C.mark s) M):calls (jw ad) EE [C.d,s.d,.int (C.most:Nat)] M Q b:=by
 refine aQ (d:=C.mark s) (fun Q' E' q=>?_) h;rw [k.pd];exact tu (o.pl k) o.mn q
def aZ(C:Cse)(s t:Sta):D:=.tup [C.d,s.d,t.d,.int (C.most:Nat)]
def mG(C:Cse):List au:=C.names.map Sum.inr++(List.range C.many).map fun (i:Nat)=>Sum.inl (i:Int)
def bu(C:Cse)(s:Sta):au->Int
 |.inl i=>(s.pieces[i.toNat]?).getD 0
 |.inr x=>nm (C.names.zip s.nums) x
theorem qh:∀{names:List Str} {nums:List Int} {j:Nat} {x:Str},names.Nodup->names.length=nums.length->names[j]?=some x->nums[j]?=some (nm (names.zip nums) x)
 |[],_,j,x,_,_,h=>by simp at h
 |y::names,[],j,x,_,h,_=>by simp at h
 |y::names,v::nums,0,x,nd,hl,h=>by
  simp at h;subst h;simp [nm,gN]
 |y::names,v::nums,j+1,x,nd,hl,h=>by
  simp only [List.getElem?_cons_succ] at h ⊢;have nd':=List.nodup_cons.mp nd;have hne:¬y=x:=fun e=>nd'.1 (e▸List.mem_of_getElem? h);rw [qh nd'.2 (by simpa using hl) h]
  simp [nm,gN,hne]
theorem qQ{k:au}(h:k∈mG C):(∃x,x∈C.names/\k=.inr x)\/∃i:Nat,i<C.many/\k=.inl (i:Int):=by
 rcases List.mem_append.mp h with q|q
 ·obtain ⟨x,hx,rfl⟩:=List.mem_map.mp q
  exact .inl ⟨x,hx,rfl⟩
 ·obtain ⟨i,hi,rfl⟩:=List.mem_map.mp q
  exact .inr ⟨i,List.mem_range.mp hi,rfl⟩
theorem eU(o:C.Ok)(k:SOk C s){t:au}(ht:t∈mG C):0<=bu C s t/\bu C s t<C.w:=by
 rcases qQ ht with ⟨x,hx,rfl⟩|⟨i,hi,rfl⟩
 ·exact ((o.pl k).nok.at hx).2
 ·exact ((o.pl k).co.piece (i:=(i:Int).toNat) (by show _<s.pieces.length;rw [k.lp];lia)).2
theorem cB(o:C.Ok)(k:SOk C s){t:au}(ht:t∈mG C)(h:Q (.int (bu C s t)) M):kr ad [C.d,s.d,kD t] M Q E:=by
 have l1:=o.l1;rcases qQ ht with ⟨x,hx,rfl⟩|⟨i,hi,rfl⟩
 ·obtain ⟨j,e1,e2⟩:=qf hx
  have e3:atI (s.nums.map D.int) (j:Nat)=some (.int (nm (C.names.zip s.nums) x)):=by
   rw [cP (by lia),Int.toNat_natCast,List.getElem?_map,qh o.nd k.ln.symm e2];rfl
  simp! [zP,kf,kD,Cse.d,Sta.d,dM,dO,kO,atI_0,atI_1,fB,e1,String.reduceBEq,Bool.or_true,Bool.or_false,Bool.false_or,Bool.true_or];refine ⟨by lia,?_⟩
  simp! [e3];exact aD h
 ·have e3:atI (s.pieces.map D.int) (i:Nat)=some (.int ((s.pieces[(i:Int).toNat]?).getD 0)):=by
   rw [cP (by lia),Int.toNat_natCast,List.getElem?_map,List.getElem?_eq_getElem (by rw [k.lp];exact hi)];rfl
  simp! [zP,kf,kD,Cse.d,Sta.d,dM,dO,kO,atI_0,atI_1,e3,String.reduceBEq,Bool.or_true,Bool.or_false,Bool.false_or,Bool.true_or,Bool.false_and,Bool.and_false];exact aD h
end
end Tw
namespace Tw
open PySem L2 L3
def dY(C:Cse)(s t:Sta)(ks:List au):Sta:=
 ⟨C.names.map fun x=>bu C (if Sum.inr x∈ks then t else s) (.inr x),(List.range C.many).map fun (i:Nat)=>bu C (if Sum.inl (i:Int)∈ks then t else s) (.inl (i:Int))⟩
section
variable {C:Cse}{s t:Sta}{ad:Ad}{M:Mem}{Q:DK}{E:DX}{ks:List au}
theorem rR(o:C.Ok)(hs:SOk C s)(ht:SOk C t):SOk C (dY C s t ks):=by
 refine ⟨by simp [dY],by simp [dY],fun v hv=>?_,fun v hv=>?_⟩
 ·simp only [dY,List.mem_map] at hv
  obtain ⟨x,hx,rfl⟩:=hv;have hm:Sum.inr x∈mG C:=List.mem_append.mpr (.inl (List.mem_map.mpr ⟨x,hx,rfl⟩))
  split
  ·exact eU o ht hm
  ·exact eU o hs hm
 ·simp only [dY,List.mem_map] at hv
  obtain ⟨i,hi,rfl⟩:=hv;have hm:(Sum.inl (i:Int):au)∈mG C:=List.mem_append.mpr (.inr (List.mem_map.mpr ⟨i,hi,rfl⟩))
  split
  ·exact eU o ht hm
  ·exact eU o hs hm
theorem CD{ta tb:bH}{δ:Dl}{k:au}{d:D}{K:Bool->Mem->Prop}(hd:IsMx M d ks)(ha:∀K,K (kD k) M->ta δ M K)(hb:∀K,K d M->tb δ M K)(h:K (decide (k∈ks)) M):aE (az xP ta tb) δ M K:=by
 unfold aE az;refine ha _ (hb _ ?_);unfold xP;rw [qe hd];exact h
theorem in_t{ta tb:bH}{δ:Dl}{k:au}{K:Bool->Mem->Prop}(ha:∀K,K (kD k) M->ta δ M K)(hb:∀K,K (mxD ks) M->tb δ M K)(h:K (decide (k∈ks)) M):aE (az xP ta tb) δ M K:=CD .mx ha hb h
theorem jC{d:D}(hd:IsMx M d ks)(o:C.Ok)(hs:SOk C s)(ht:SOk C t){k:au}(hk:k∈mG C)(h:Q (.int (bu C (if k∈ks then t else s) k)) M):tj ad [aZ C s t,d,kD k] M Q E:=by
 rw [u_q5 (n:=0)];unfold vm;generalize hT:aE (az xP (aa 2) (aa 1))=TT;simp! [aZ,atI_0,atI_1,atI_2];rw [<- hT];refine CD (k:=k) (ks:=ks) hd (fun K q=>q) (fun K q=>q) ?_
 by_cases c:k∈ks
 ·rw [if_pos c] at h
  rw [if_pos (by simpa using c)]
  exact aQ (fun _ _ q=>cB o ht hk q) (aD h)
 ·rw [if_neg c] at h
  rw [if_neg (by simpa using c)]
  exact aQ (fun _ _ q=>cB o hs hk q) (aD h)
theorem oP{d:D}(hd:IsMx M d ks){wi:u5}{x0:Str}{c2 c3:Option D}{us:List au}{K:DK}(o:C.Ok)(hs:SOk C s)(ht:SOk C t)(hu:∀k∈us,k∈mG C)(hl:us.length<=1000)(hw:∀R:DIt->Mem->Prop,R ⟨us.map kD,[]⟩ M->wi [some (aZ C s t),some d,c2,c3] M R)
  (h:K (.tup ((us.map fun k=>bu C (if k∈ks then t else s) k).map D.int)) M):bR cTuple (a9 (ax (bq wi [x0] [1,0] (ao 0) cv (ax (aC (tj ad) kq 3 (a9 (aa 2) (a9 (aa 1) (a9 (aa 0) dNil))))))) dNil) [some (aZ C s t),some d,c2,c3] M K:=by
 simp only [bR,a9,ax,bq];refine hw _ ?_;simp only [cj,List.map_cons,List.map_nil,List.cons_append,List.nil_append,List.getElem?_cons_succ,List.getElem?_cons_zero,Option.join_some];refine eF (fun d=>match db d with|some k=>.int (bu C (if k∈ks then t else s) k)|none=>.non) bS (by simp;lia) (fun x hx K q=>?_) ?_
 ·obtain ⟨k,hk,rfl⟩:=List.mem_map.mp hx
  simp! [];refine aQ (fun _ _ q=>jC hd o hs ht (hu k hk) q) ?_;cases k<;>exact q
 intro p1 h1;simp only [frz,Mem.upd_same,Mem.upd_del,ap h1,dNil,cTuple,seqL];have e:(us.map kD).map (fun d=>match db d with|some k=>D.int (bu C (if k∈ks then t else s) k)|none=>.non)=(us.map fun k=>bu C (if k∈ks then t else s) k).map D.int:=by
  rw [List.map_map,List.map_map];refine List.map_congr_left fun k _=>?_;cases k<;>rfl
 rw [e];exact h
theorem qr{d:D}(hd:IsMx M d ks)(o:C.Ok)(hs:SOk C s)(ht:SOk C t)(h:Q (dY C s t ks).d M):rN ad [aZ C s t,d] M Q E:=by
 have l1:=o.l1;have few:=o.few;have e2:cw 0 (Int.toNat (C.many:Nat))=((List.range C.many).map fun (i:Nat)=>(Sum.inl (i:Int):au)).map kD:=by
  simp [cw,kD]
 have e1:C.names.map D.str=(C.names.map fun x=>(Sum.inr x:au)).map kD:=by simp [kD]
 have t1:iZ ad (aS E) { nx:=fun _ M'=>drp Q .non M',rt:=drp Q } [some (aZ C s t),some d,some (.tup (C.names.map D.str)),some (.lst (cw 0 (Int.toNat (C.many:Nat))))] M:=by
  unfold iZ aX bV;rw [e1,e2];refine oP hd (us:=C.names.map fun x=>Sum.inr x) o hs ht (fun k hk=>List.mem_append.mpr (.inl hk)) (by simp;lia) (fun R q=>q) ?_
  refine oP hd (us:=(List.range C.many).map fun (i:Nat)=>Sum.inl (i:Int)) o hs ht (fun k hk=>List.mem_append.mpr (.inr hk)) (by simp;lia) (fun R q=>q) ?_
  refine ⟨szl (by simp),aD ?_⟩
  simpa [dY,Sta.d,dM,Function.comp_def] using h
 rw [E7 (n:=0)];unfold oW rH;generalize iZ ad (aS E)=K at t1 ⊢;unfold aZ Cse.d at t1 ⊢;simp! [atI_0,atI_1,atI_2];refine ⟨⟨by lia,by lia⟩,fun p hp=>?_⟩
 simp only [Mem.upd_del,ap hp];exact t1
theorem pP{a b:Int}(o:C.Ok)(hs:SOk C s)(ht:SOk C t)(ea:C.mark s=.int a)(eb:C.mark t=.int b)(hab:a≠b)(h:Q (.tup [.int a,.int b]) M):sh ad [aZ C s t] M Q E:=by
 rw [Ed (n:=0)];unfold nU rq;generalize hK:lC ad (aS E)=K;simp! [aZ,atI_0,atI_1,atI_2,atI_3];refine gM o hs (j5 ?_);rw [ea];simp! [];refine gM o ht (j5 ?_);rw [eb];simp! [List.set];rw [<- hK];unfold lC qS;simp! [hab,decide_false];exact ⟨szl (by decide),aD h⟩
def Cse.ver(C:Cse)(s t:Sta)(ks:List au):Str:=if aN (C.mark (dY C s t ks)) (C.mark s)=true then "sound" else if aN (C.mark (dY C s t ks)) (C.mark t)=true then "faulty" else "other"
theorem iw{a b:Int}{m:D}(hm:m=.non\/∃v,m=.int v)(h:Q (.str (if aN m (.int a)=true then "sound" else if aN m (.int b)=true then "faulty" else "other")) M):sv ad [.tup [.int a,.int b],m] M Q E:=by
 rcases hm with rfl|⟨v,rfl⟩
 ·simp! [zM,kI,atI_0,atI_1]
  exact aD h
 ·simp! [zM,kI,atI_0,atI_1]
  simp only [aN,decide_eq_true_eq] at h
  split
  ·rename_i q;rw [if_pos q] at h;exact aD h
  ·rename_i q;rw [if_neg q] at h
   split
   ·rename_i q;rw [if_pos q] at h;exact aD h
   ·rename_i q;rw [if_neg q] at h;exact aD h
end
end Tw
namespace Tw
open PySem L2 L3
structure Ak where
 a:Addr
 t:Addr
 ne:a≠t
def dg(C:Cse)(s t:Sta)(ts:List (List au)):List (List au×D):=ts.map fun ks=>(ks,.str (C.ver s t ks))
def xi(k:Ak)(C:Cse)(s t:Sta)(two:D):List (Str×D):=[("case",aZ C s t),("two",two),("told",.ref k.t)]
def aM(ad:Ad)(k:Ak)(C:Cse)(s t:Sta)(two:D)(ts:List (List au))(M:Mem):Mem:=(M.upd k.a (.ins ad.C_Askings (xi k C s t two))).upd k.t (.dT (dg C s t ts))
def bM(ts:List (List au))(ks:List au):List (List au):=if ks∈ts then ts else ts++[ks]
section
variable {C:Cse}{s t:Sta}{ad:Ad}{M:Mem}{Q:DK}{E:DX}{ks:List au}{k:Ak}{ts ts':List (List au)}{two:D}
theorem gU:aM ad k C s t two ts M k.a=some (.ins ad.C_Askings (xi k C s t two)):=by unfold aM;rw [ah k.ne,Mem.upd_same]
theorem sP:aM ad k C s t two ts M k.t=some (.dT (dg C s t ts)):=by unfold aM;rw [Mem.upd_same]
theorem aM_u:(aM ad k C s t two ts M).upd k.t (.dT (dg C s t ts'))=aM ad k C s t two ts' M:=by unfold aM;rw [Mem.upd_upd]
theorem kW:List.lookup ("case":Str) (xi k C s t two)=some (aZ C s t):=rfl
theorem Bv:List.lookup ("two":Str) (xi k C s t two)=some two:=rfl
theorem iT:List.lookup ("told":Str) (xi k C s t two)=some (.ref k.t):=rfl
theorem qw:List.lookup ("ask":Str) (xi k C s t two)=none:=rfl
theorem eN:List.lookup ("is_cause":Str) (xi k C s t two)=none:=rfl
theorem pe:gn (dg C s t ts) ks=if ks∈ts then some (.str (C.ver s t ks)) else none:=by
 induction ts with
 |nil=>rfl
 |cons x ts ih=>
  by_cases e:x=ks
  ·subst e;simp [dg,gn]
  ·have e':¬ks=x:=fun z=>e z.symm
   have:gn (dg C s t (x::ts)) ks=gn (dg C s t ts) ks:=by simp [dg,gn,e]
   rw [this,ih];simp [e']
theorem vP(h:ks∉ts):di (dg C s t ts) ks (.str (C.ver s t ks))=dg C s t (ts++[ks]):=by
 unfold di;rw [if_neg ?_]
 ·simp [dg]
 ·simp only [dg,List.any_map,List.any_eq_true,Function.comp_apply,decide_eq_true_eq,not_exists,not_and]
  exact fun x hx e=>h (e▸hx)
theorem IsMx.ak{d:D}{us us':List (List au)}(h:IsMx (aM ad k C s t two us M) d ks):IsMx (aM ad k C s t two us' M) d ks:=h.go fun p xs e=>by
 have h1:p≠k.a:=fun z=>by rw [z,gU] at e;cases e
 have h2:p≠k.t:=fun z=>by rw [z,sP] at e;cases e
 unfold aM at e ⊢;rw [ah h2,ah h1] at e ⊢;exact e
theorem zA{d:D}{a b:Int}(hd:IsMx (aM ad k C s t (.tup [.int a,.int b]) ts M) d ks)(o:C.Ok)(hs:SOk C s)(ht:SOk C t)(ea:C.mark s=.int a)(eb:C.mark t=.int b)(hl:ts.length<=100000)(h:Q (.str (C.ver s t ks)) (aM ad k C s t (.tup [.int a,.int b]) (bM ts ks) M)):
  mj ad [.ref k.a,d] (aM ad k C s t (.tup [.int a,.int b]) ts M) Q E:=by
 have hcs:aZ C s t=.tup [C.d,s.d,t.d,.int (C.most:Nat)]:=rfl;have tpl:∀{us:List (List au)} {K:DK},K (.tup (ks.map kD)) (aM ad k C s t (.tup [.int a,.int b]) us M)->bR cTuple (a9 (aa 1) dNil) [some (.ref k.a),some d] (aM ad k C s t (.tup [.int a,.int b]) us M) K:=fun q=>hd.ak.tup q;have fld:∀{f:Str} {x:D} {us:List (List au)} {K:DK},List.lookup f (xi k C s t (.tup [.int a,.int b]))=some x->K x (aM ad k C s t (.tup [.int a,.int b]) us M)->cU ad.C_Askings (aa 0) f [some (.ref k.a),some d] (aM ad k C s t (.tup [.int a,.int b]) us M) K:=fun {f x us K} e q=>by
  simp only [cU,aa,List.getElem?_cons_zero,gU,e,true_and];exact q
 have t2:∀us,ks∈us->drp Q (.str (C.ver s t ks)) (aM ad k C s t (.tup [.int a,.int b]) us M)->kX ad (aS E) { nx:=fun _ M'=>drp Q .non M',rt:=drp Q } [some (.ref k.a),some d] (aM ad k C s t (.tup [.int a,.int b]) us M):=fun us hu z=>by
  unfold kX aX az;refine fld iT (tpl ?_);simp only [bz,b_,sP,kb,kT,cW,pe,if_pos hu];exact z
 rw [u_q8 (n:=0)];unfold uG;unfold bM at h;generalize kX ad (aS E)=K2 at t2 ⊢;generalize hK1:qv ad (aS E)=K1;unfold aB bC aE az;refine tpl (fld iT ?_);simp only [eO,mw,b_,sP,kb,kT,cW,pe]
 by_cases c:ks∈ts
 ·rw [if_pos c] at h
  simp only [if_pos c,Option.isSome_some,Bool.not_true,Bool.false_eq_true,if_false];exact t2 ts c (aD h)
 ·rw [if_neg c] at h
  simp only [if_neg c,Option.isSome_none,Bool.not_false,if_true,<- hK1];unfold qv bd;simp only [ax,aC,a9,dNil];refine fld Bv ?_;simp only [az];refine fld kW ?_;simp only [dC,hcs,bz,b_,atI_0,List.getElem?_cons_zero];refine fld kW ?_;simp only [aa,List.getElem?_cons_succ,List.getElem?_cons_zero];refine ⟨rfl,aQ (fun _ _ q=>qr hd o hs ht q) ?_⟩;have fs:∀{M:Mem} {Q:DK} {u:Sta},Q u.d M->frz u.d M Q:=fun h=>h;refine fs ?_;refine fld kW ?_;simp only [hcs,atI_3,List.getElem?_cons_succ,List.getElem?_cons_zero];refine ⟨rfl,gM o (rR o hs ht) (j5 ?_)⟩;refine ⟨rfl,aQ (d:=.str (C.ver s t ks)) (fun _ _ q=>iw (jy C _) (by unfold Cse.ver at q;rw [ea,eb] at q;exact q)) ?_⟩
  have fst:∀{M:Mem} {Q:DK} {x:Str},Q (.str x) M->frz (.str x) M Q:=fun h=>h;refine fst ?_;unfold oE;refine fld iT (tpl ?_);simp only [yc,sP,kT,cW,vP c,aM_u];exact ⟨by rw [dg,List.length_map];exact szs (by lia),t2 (ts++[ks]) (by simp) (aD h)⟩
theorem nH{a b:Int}(o:C.Ok)(hs:SOk C s)(ht:SOk C t)(ea:C.mark s=.int a)(eb:C.mark t=.int b)(hl:ts.length<=100000)(h:Q (.str (C.ver s t ks)) (aM ad k C s t (.tup [.int a,.int b]) (bM ts ks) M)):
  mj ad [.ref k.a,mxD ks] (aM ad k C s t (.tup [.int a,.int b]) ts M) Q E:=zA .mx o hs ht ea eb hl h
theorem yK{d:D}{a b:Int}(hd:IsMx (aM ad k C s t (.tup [.int a,.int b]) ts M) d ks)(o:C.Ok)(hs:SOk C s)(ht:SOk C t)(ea:C.mark s=.int a)(eb:C.mark t=.int b)(hl:ts.length<=100000)(h:Q (.bl (decide (C.ver s t ks="faulty"))) (aM ad k C s t (.tup [.int a,.int b]) (bM ts ks) M)):
  iu ad [.ref k.a,d] (aM ad k C s t (.tup [.int a,.int b]) ts M) Q E:=by
 rw [u_q1 (n:=0)];unfold vd;simp! [gU,qw];refine calls_of fun Q' E' hq _=>zA hd o hs ht ea eb hl (hq _ _ ?_);simp! [];exact aD h
theorem fG{a b:Int}(o:C.Ok)(hs:SOk C s)(ht:SOk C t)(ea:C.mark s=.int a)(eb:C.mark t=.int b)(hl:ts.length<=100000)(h:Q (.bl (decide (C.ver s t ks="faulty"))) (aM ad k C s t (.tup [.int a,.int b]) (bM ts ks) M)):
  iu ad [.ref k.a,mxD ks] (aM ad k C s t (.tup [.int a,.int b]) ts M) Q E:=yK .mx o hs ht ea eb hl h
theorem cm:(bM ts ks).length<=ts.length+1:=by unfold bM;split<;>simp
theorem lA{a b:Int}{x:Addr}(hx:M x=none)(o:C.Ok)(hs:SOk C s)(ht:SOk C t)(ea:C.mark s=.int a)(eb:C.mark t=.int b)(hab:a≠b)
  (h:∀k:Ak,k.a=x->M k.t=none->Q .non (aM ad k C s t (.tup [.int a,.int b]) [] M)):sS ad [.ref x,aZ C s t] (M.upd x (.ins ad.C_Askings [])) Q E:=by
 have hcs:aZ C s t=.tup [C.d,s.d,t.d,.int (C.most:Nat)]:=rfl;have d1:dz "case" (aZ C s t) []=[(("case":Str),aZ C s t)]:=rfl;have d2:∀d,dz "two" d [(("case":Str),aZ C s t)]=[(("case":Str),aZ C s t),(("two":Str),d)]:=fun _=>rfl;have d3:∀d e,dz "told" e [(("case":Str),aZ C s t),(("two":Str),d)]=[(("case":Str),aZ C s t),(("two":Str),d),(("told":Str),e)]:=fun _ _=>rfl;rw [u_q2 (n:=0)];unfold wt vH;simp! [Mem.upd_upd,Mem.upd_same,d1];refine ⟨by decide,?_⟩
 refine aQ (fun _ _ q=>pP o hs ht ea eb hab q) ?_;simp! [Mem.upd_upd,Mem.upd_same,d2];refine ⟨by simp,fun p hp=>?_⟩
 have n1:x≠p:=Mem.ne Mem.upd_same hp;rw [ah n1.symm] at hp;simp! [ah n1,Mem.upd_same,d3];refine ⟨by simp,aD ?_⟩
 have:=h ⟨x,p,n1⟩ rfl hp;unfold aM at this;rw [bB n1.symm,Mem.upd_upd];exact this
theorem AB(h1:M k.a=none)(h2:M k.t=none)(b:Addr)(o:MO)(e:M b=some o):aM ad k C s t two ts M b=some o:=by
 unfold aM;rw [ah (fun q=>by rw [q,h2] at e;cases e),ah (fun q=>by rw [q,h1] at e;cases e)]
 exact e
def bw(C:Cse)(s t:Sta):List au:=(mG C).filter fun k=>decide (bu C s k≠bu C t k)
def cy(ks:List au):List (List au):=(List.range ks.length).map fun i=>ks.take i++ks.drop (i+1)
theorem tM{x0:Str}(hl:ks.length<=1000)(h:∀p,M p=none->Q (.ref p) (M.upd p (.lst ((cy ks).map mxD)))):
  bq (fk (a9 (bR cG (a9 (aa 0) dNil)) dNil)) [x0] [0] (ao 0) cv (ax (az cA (ax (r8 (aa 1) bU (d9 (aa 0)))) (ax (r8 (aa 1) (d9 (az cA (aa 0) (dC (.int 1)))) bU)))) [some (mxD ks)] M Q:=by
 have hmx:∀ks,mxD ks=.lst (ks.map kD):=fun _=>rfl;simp! [bq,hmx,List.length_map];refine ⟨by lia,by lia,?_⟩
 refine eF (fun d=>match d with|.int i=>mxD (ks.take i.toNat++ks.drop (i.toNat+1))|_=>.non) bS (by simp [cw];lia) (fun x hx K q=>?_) ?_
 ·simp only [cw,List.mem_map,List.mem_range] at hx
  obtain ⟨i,hi,rfl⟩:=hx;have e0:(0:Int)+(i:Nat)=(i:Nat):=by lia
  have e1:((i:Nat):Int)+1=((i+1:Nat):Int):=by lia
  rw [e0] at q ⊢;simp! [k_];intro p1 h1;simp only [Mem.upd_del,ap h1,e1,cutD_lo];intro p2 h2;simp only [Mem.upd_del,ap h2];refine ⟨szl (by simp only [List.length_take,List.length_drop,List.length_map];lia),fun p3 h3=>?_⟩
  simp! [Mem.upd_del,ap h3];simp only [hmx,Int.toNat_natCast,List.map_append,List.map_take,List.map_drop] at q;exact q
 ·intro p hp
  have:=h p hp;simp only [cy,List.map_map] at this;simp only [cw,List.map_map,Int.toNat_natCast];have e:(((fun d=>match d with|.int i=>mxD (ks.take i.toNat++ks.drop (i.toNat+1))|_=>.non) ∘ fun (i:Nat)=>D.int (0+(i:Int))):Nat->D)=(mxD ∘ fun i=>ks.take i++ks.drop (i+1)):=by
   funext i;simp
  rw [e];exact this
end
end Tw
namespace Tw
open PySem L2 L3
section
variable {C:Cse}{s t:Sta}{ad:Ad}{M:Mem}{Q:DK}{E:DX}{ks:List au}{k:Ak}{ts ts':List (List au)}{two:D}
theorem gc(hl:ks.length<=1000)(h:∀p,M p=none->Q (.ref p) (M.upd p (.lst ((cy ks).map mxD)))):wa ad [mxD ks] M Q E:=by
 rw [u_q6 (n:=0)];unfold vX;exact tM hl fun p hp=>aD (h p hp)
def Cse.bare(C:Cse)(s t:Sta)(ks:List au):Bool:=decide (C.ver s t ks="faulty")&&!((cy ks).any fun l=>decide (C.ver s t l="faulty"))
theorem cX:∀bs:List Bool,jT (bs.map D.bl)=some bs
 |[]=>rfl
 |b::bs=>by rw [List.map_cons,jT,cX bs]
theorem no{a b:Int}{ls:List (List au)}(o:C.Ok)(hs:SOk C s)(ht:SOk C t)(ea:C.mark s=.int a)(eb:C.mark t=.int b)(hll:ls.length<=1000)(hl:ts.length+ls.length<=100000){Q:List D->Mem->Prop}{c0:Option D}{its:List D}{bx:BxC (ao 0) cv (ax (ck ad.C_Askings "is_cause" (iu ad) kq 2 (aa 1) (a9 (aa 0) dNil))) (DIt.ok ⟨its,[]⟩) Q}
  (h:∀ts',ts'.length<=ts.length+ls.length->Q (ls.map fun l=>.bl (decide (C.ver s t l="faulty"))) (aM ad k C s t (.tup [.int a,.int b]) ts' M)):
  cR (ao 0) cv (ax (ck ad.C_Askings "is_cause" (iu ad) kq 2 (aa 1) (a9 (aa 0) dNil))) (DIt.ok ⟨its,[]⟩) Q bx (ls.map mxD) [] [c0,some (.ref k.a)] (aM ad k C s t (.tup [.int a,.int b]) ts M):=by
 refine bQ (fun xs acc δ N=>∃(l1 l2:List (List au)) (c0:Option D) (us:List (List au)),ls=l1++l2/\xs=l2.map mxD/\acc=l1.map (fun l=>D.bl (decide (C.ver s t l="faulty")))/\δ=[c0,some (.ref k.a)]/\us.length<=ts.length+l1.length/\N=aM ad k C s t (.tup [.int a,.int b]) us M)
  (fun _ _ _ _ _=>bS) ?_ ?_ ?_ _ _ _ _ ⟨[],ls,c0,ts,rfl,rfl,rfl,rfl,by simp,rfl⟩
 ·rintro acc δ N ⟨l1,l2,c0,us,e1,e2,rfl,rfl,hu,rfl⟩
  have:l2=[]:=by cases l2 with|nil=>rfl|cons _ _=>simp at e2
  subst this;rw [List.append_nil] at e1;subst e1;exact h us hu
 ·rintro x xs acc δ N ⟨l1,l2,c0,us,e1,e2,rfl,rfl,hu,rfl⟩ N' hN _
  cases l2 with
  |nil=>simp at e2
  |cons y l2=>
   simp only [List.map_cons,List.cons.injEq] at e2;obtain ⟨rfl,rfl⟩:=e2;have hl2:=congrArg List.length e1;simp only [List.length_append,List.length_cons] at hl2;have hmx:mxD y=.lst (y.map kD):=rfl;simp! [gU,eN];refine calls_of fun Q' E' hq _=>fG o hs ht ea eb (by lia) (hq _ _ ?_)
   simp! [];exact hN _ _ _ (by rw [List.length_map];exact szs (by lia)) ⟨l1++[y],l2,_,_,by simp [e1],rfl,by simp,rfl,by have:=cm (ts:=us) (ks:=y);simp;lia,rfl⟩
 ·rintro x xs acc δ N ⟨l1,l2,c0,us,e1,e2,rfl,rfl,hu,rfl⟩
  have hl2:=congrArg List.length e1;simp only [List.length_append] at hl2;rw [List.length_map];exact szs (by lia)
theorem tL{a b:Int}(o:C.Ok)(hs:SOk C s)(ht:SOk C t)(ea:C.mark s=.int a)(eb:C.mark t=.int b)(hab:a≠b)(hl:ks.length<=1000)(h:Q (.bl (C.bare s t ks)) M):jm ad [aZ C s t,mxD ks] M Q E:=by
 have hcs:aZ C s t=.tup [C.d,s.d,t.d,.int (C.most:Nat)]:=rfl;have hmx:mxD ks=.lst (ks.map kD):=rfl;rw [C_ (n:=0)];unfold nY;generalize hK:lR ad (aS E)=K;simp! [];intro x hx;refine calls_of fun Q' E' hq _=>lA hx o hs ht ea eb hab fun k hk hkt=>hq _ _ ?_;subst hk;simp! [];rw [<- hK];unfold lR;have sb:∀(ts:List (List au)) (r:Bool),Q (.bl r) M->drp Q (.bl r) (aM ad k C s t (.tup [.int a,.int b]) ts M):=fun ts r q=>⟨M,AB hx hkt,q⟩;simp! [hmx,gU,eN];rw [<- hmx];refine calls_of fun Q' E' hq _=>fG o hs ht ea eb (by simp) (hq _ _ ?_)
 unfold Cse.bare at h
 by_cases c:C.ver s t ks="faulty"
 ·simp only [c,decide_true,Bool.true_and] at h
  simp! [c,decide_true,↓bq];refine calls_of fun Q' E' hq _=>gc hl fun p hp=>hq _ _ ?_;simp! [Mem.upd_del,ap hp];have ll:(cy ks).length=ks.length:=by simp [cy]
  have al:=cm (ts:=[]) (ks:=ks);simp only [List.length_nil] at al;refine no o hs ht ea eb (by lia) (by lia) fun ts' hts=>?_
  intro q hq;have eb2:((cy ks).map fun l=>D.bl (decide (C.ver s t l="faulty")))=((cy ks).map fun l=>decide (C.ver s t l="faulty")).map D.bl:=by simp
  simp! [Mem.upd_del,ap hq,eb2,cX];refine sb _ _ ?_;simpa [List.any_map,Function.comp_def] using h
 ·simp only [c,decide_false,Bool.false_and] at h
  simp! [c,decide_false];exact sb _ _ h
end
end Tw
namespace Tw
open PySem L2 L3
theorem whT{c3:eg}{tb:aI}{D':DEnds}{bx:BxW c3 tb D'}{n:Nat}{δ:Dl}{M:Mem}(ht:∀K:Bool->Mem->Prop,K true M->c3 δ M K)(h:tb { D' with nx:=whileD c3 tb D' bx n,ct:=whileD c3 tb D' bx n,bk:=D'.nx } δ M):whileD c3 tb D' bx (n+1) δ M:=by
 unfold whileD;refine ht _ ?_;rw [if_pos rfl];exact h
theorem whF{c3:eg}{tb:aI}{D':DEnds}{bx:BxW c3 tb D'}{n:Nat}{δ:Dl}{M:Mem}(ht:∀K:Bool->Mem->Prop,K false M->c3 δ M K)(h:D'.nx δ M):whileD c3 tb D' bx (n+1) δ M:=by
 unfold whileD;refine ht _ ?_;rw [if_neg (by simp)]
 exact h
theorem frzN{M:Mem}{Q:DK}{p:Addr}{xs:List D}(hp:M p=none)(h:Q (.lst xs) M):frz (.ref p) (M.upd p (.lst xs)) Q:=by
 simp only [frz,Mem.upd_same,Mem.upd_del,ap hp];exact h
section
variable {C:Cse}{s t:Sta}{ad:Ad}{M:Mem}{Q:DK}{E:DX}{ks:List au}
theorem uY(o:C.Ok)(h:∀p,M p=none->Q (.ref p) (M.upd p (.lst ((mG C).map kD)))):rT ad [C.d] M Q E:=by
 have l1:=o.l1;have few:=o.few;rw [CL (n:=0)];unfold nA Cse.d;simp! [atI_1,atI_2];intro p1 h1;simp only [Mem.upd_del,ap h1];refine ⟨⟨by lia,by lia⟩,fun p2 h2=>?_⟩
 simp only [Mem.upd_del,ap h2];refine ⟨szl (by simp [cw];lia),fun p3 h3=>aD ?_⟩
 have:=h p3 h3;have e:(mG C).map kD=C.names.map D.str++cw 0 (Int.toNat (C.many:Nat)):=by simp only [mG,cw,List.map_append,List.map_map,Int.toNat_natCast];congr 1;exact List.map_congr_left fun i _=>by simp [kD]
 rw [e] at this;exact this
theorem wx(o:C.Ok)(hs:SOk C s)(ht:SOk C t)(h:∀p,M p=none->Q (.ref p) (M.upd p (.lst ((bw C s t).map kD)))):rL ad [C.d,s.d,t.d] M Q E:=by
 have l1:=o.l1;have few:=o.few;have tl:(mG C).length=C.names.length+C.many:=by simp [mG]
 rw [Ek (n:=0)];unfold ni;simp only [aX,bq,dh,ax,aC,a9,aa,dNil,List.getElem?_cons_succ,List.getElem?_cons_zero];refine ⟨rfl,calls_of fun Q' E' hq _=>uY o fun p hp=>hq _ _ (frzN hp ?_)⟩;simp only [b_,srcOf,cj,List.map_cons,List.map_nil,List.cons_append,List.nil_append,List.getElem?_cons_succ,List.getElem?_cons_zero,Option.join_some];refine iF (fun d=>match db d with|some k=>decide (bu C s k≠bu C t k)|none=>false) id bS (by simp;lia) (fun x hx K q=>?_) (fun x hx _ K q=>q) ?_
 ·obtain ⟨k,hk,rfl⟩:=List.mem_map.mp hx
  simp only [aE,az,ax,aC,a9,aa,dNil,List.getElem?_cons_succ,List.getElem?_cons_zero];refine ⟨rfl,aQ (fun _ _ q=>cB o hs hk q) ?_⟩;refine ⟨rfl,aQ (fun _ _ q=>cB o ht hk q) ?_⟩;show bZ 60 (.int _)=true/\bZ 60 (.int _)=true/\_;refine ⟨rfl,rfl,?_⟩;have e:db (kD k)=some k:=by cases k<;>rfl
  simp only [e] at q;simpa [dv,aN] using q
 ·intro p hp
  have e:(((mG C).map kD).filter fun d=>match db d with|some k=>decide (bu C s k≠bu C t k)|none=>false).map id=(bw C s t).map kD:=by
   rw [List.map_id,List.filter_map];congr 1;refine List.filter_congr fun k _=>?_;cases k<;>rfl
  rw [e];exact aD (h p hp)
end
def dA(p:List au->Bool):Nat->List au->List (List au)->List au×List (List au)
 |0,ks,ts=>(ks,ts)
 |n+1,ks,ts=>if 1<ks.length then
   (if p (ks.take (ks.length / 2))=true then dA p n (ks.take (ks.length / 2)) (bM ts (ks.take (ks.length / 2)))
   else if p (ks.drop (ks.length / 2))=true then dA p n (ks.drop (ks.length / 2)) (bM (bM ts (ks.take (ks.length / 2))) (ks.drop (ks.length / 2)))
   else (ks,bM (bM ts (ks.take (ks.length / 2))) (ks.drop (ks.length / 2))))
  else (ks,ts)
def d7(p:List au->Bool):Nat->Nat->Nat->List au->List (List au)->List au×List (List au)
 |0,_,_,ks,ts=>(ks,ts)
 |f+1,a,st,ks,ts=>if st<ks.length then
   (if p (ks.take (a % ks.length)++ks.drop (a % ks.length+1))=true then d7 p f (a % ks.length) 0 (ks.take (a % ks.length)++ks.drop (a % ks.length+1)) (bM ts (ks.take (a % ks.length)++ks.drop (a % ks.length+1)))
   else d7 p f (a % ks.length+1) (st+1) ks (bM ts (ks.take (a % ks.length)++ks.drop (a % ks.length+1))))
  else (ks,ts)
def Cse.cau(C:Cse)(s t:Sta)(ks:List au):Bool:=decide (C.ver s t ks="faulty")
def iP(ks:List au)(st:Nat):Nat:=ks.length*ks.length+ks.length-st
section
variable {ks:List au}
theorem pw{n:Nat}:e_ (ks.map kD) none (some (n:Int))=(ks.take n).map kD:=by rw [k_,List.map_take]
theorem lh{n:Nat}:e_ (ks.map kD) (some (n:Int)) none=(ks.drop n).map kD:=by rw [cutD_lo,List.map_drop]
end
def Cse.hal(C:Cse)(s t:Sta):List au×List (List au):=dA (C.cau s t) (bw C s t).length (bw C s t) [bw C s t]
def Cse.nar(C:Cse)(s t:Sta):List au×List (List au):=d7 (C.cau s t) (iP (C.hal s t).1 0) 0 0 (C.hal s t).1 (C.hal s t).2
theorem g7{p:List au->Bool}:∀(n:Nat) (ks:List au) (ts:List (List au)),(dA p n ks ts).1.length<=ks.length/\(dA p n ks ts).2.length<=ts.length+2*n
 |0,ks,ts=>⟨Nat.le_refl _,by simp [dA]⟩
 |n+1,ks,ts=>by
  have a1:=cm (ts:=ts) (ks:=ks.take (ks.length / 2));have a2:=cm (ts:=bM ts (ks.take (ks.length / 2))) (ks:=ks.drop (ks.length / 2));unfold dA
  split
  ·split
   ·have:=g7 (p:=p) n (ks.take (ks.length / 2)) (bM ts (ks.take (ks.length / 2)))
    have h2:(ks.take (ks.length / 2)).length<=ks.length:=by rw [List.length_take];lia
    lia
   ·split
    ·have:=g7 (p:=p) n (ks.drop (ks.length / 2)) (bM (bM ts (ks.take (ks.length / 2))) (ks.drop (ks.length / 2)))
     have h2:(ks.drop (ks.length / 2)).length<=ks.length:=by rw [List.length_drop];lia
     lia
    ·exact ⟨Nat.le_refl _,by dsimp only;lia⟩
  ·exact ⟨Nat.le_refl _,by dsimp only;lia⟩
section
variable {C:Cse}{s t:Sta}{ad:Ad}{Q:DK}{k:Ak}
theorem qX{T:Sd}{EE:DX}{m:Str}{ta te:bH}{δ:Dl}{N:Mem}{x two:D}(hN:N k.a=some (.ins ad.C_Askings (xi k C s t two)))(hm:List.lookup m (xi k C s t two)=none)(ha:∀K:DK,K (.ref k.a) N->ta δ N K)(he:∀K:DK,K x N->te δ N K)(h:calls T EE [.ref k.a,x] N Q ⟨⟩):
  ck ad.C_Askings m T EE 2 ta (a9 te dNil) δ N Q:=by
 unfold ck;refine ha _ ?_;simp only [hN];exact ⟨trivial,hm,he _ ⟨rfl,h⟩⟩
end
theorem qu{l all:List au}(h:l.Sublist all):all.Nodup->(all.filter fun k=>decide (k∈l))=l:=by
 induction h with
 |slnil=>intro _;rfl
 |@cons l1 l2 a h ih=>
  intro nd;obtain ⟨n1,n2⟩:=List.nodup_cons.mp nd;have:a∉l1:=fun z=>n1 (h.subset z);rw [List.filter_cons,if_neg (by simpa using this)]
  exact ih n2
 |@cons_cons l1 l2 a h ih=>
  intro nd;obtain ⟨n1,n2⟩:=List.nodup_cons.mp nd;rw [List.filter_cons,if_pos (by simp)]
  have e:(l2.filter fun k=>decide (k∈a::l1))=l2.filter fun k=>decide (k∈l1):=by
   refine List.filter_congr fun x hx=>?_;have:x≠a:=fun e=>n1 (e▸hx);simp [this]
  rw [e,ih n2]
structure Naf(all:List au)(ts:List (List au)):Prop where
 nd:ts.Nodup
 hd:ts[0]?=some all
 sb:∀l∈ts,l.Sublist all
section
variable {all ks:List au}{ts:List (List au)}
theorem gh:ks∈bM ts ks:=by
 unfold bM
 split
 ·assumption
 ·simp
theorem gk{l:List au}(h:l∈ts):l∈bM ts ks:=by
 unfold bM
 split
 ·exact h
 ·exact List.mem_append_left _ h
theorem wB{l:List au}(h:l∈bM ts ks):l∈ts\/l=ks:=by
 unfold bM at h
 split at h
 ·exact .inl h
 ·rcases List.mem_append.mp h with q|q
  ·exact .inl q
  ·exact .inr (by simpa using q)
theorem Naf.add(h:Naf all ts)(s:ks.Sublist all):Naf all (bM ts ks):=by
 refine ⟨?_,?_,fun l hl=>?_⟩
 ·unfold bM
  split
  ·exact h.nd
  ·rename_i c
   refine List.nodup_append.mpr ⟨h.nd,by simp,fun x hx y hy e=>?_⟩
   rw [List.mem_singleton] at hy;subst hy;subst e;exact c hx
 ·unfold bM
  split
  ·exact h.hd
  ·rw [List.getElem?_append_left (List.getElem?_eq_some_iff.mp h.hd).1];exact h.hd
 ·rcases wB hl with q|q
  ·exact h.sb l q
  ·subst q;exact s
theorem Naf.one:Naf all [all]:=⟨by simp,rfl,fun l h=>by rw [List.mem_singleton] at h;subst h;exact List.Sublist.refl _⟩
theorem less_sub{i:Nat}:(ks.take i++ks.drop (i+1)).Sublist ks:=by
 rw [<- List.eraseIdx_eq_take_drop_succ];exact List.eraseIdx_sublist ..
theorem jn{p:List au->Bool}:∀(n:Nat) (ks:List au) (ts:List (List au)),Naf all ts->ks.Sublist all->Naf all (dA p n ks ts).2/\(dA p n ks ts).1.Sublist all
 |0,ks,ts,h,s=>⟨h,s⟩
 |n+1,ks,ts,h,s=>by
  have s1:(ks.take (ks.length / 2)).Sublist all:=(List.take_sublist ..).trans s;have s2:(ks.drop (ks.length / 2)).Sublist all:=(List.drop_sublist ..).trans s;unfold dA
  split
  ·split
   ·exact jn n _ _ (h.add s1) s1
   ·split
    ·exact jn n _ _ ((h.add s1).add s2) s2
    ·exact ⟨(h.add s1).add s2,s⟩
  ·exact ⟨h,s⟩
theorem jX{p:List au->Bool}:∀(f at0 st:Nat) (ks:List au) (ts:List (List au)),Naf all ts->ks.Sublist all->Naf all (d7 p f at0 st ks ts).2/\(d7 p f at0 st ks ts).1.Sublist all
 |0,_,_,ks,ts,h,s=>⟨h,s⟩
 |f+1,at0,st,ks,ts,h,s=>by
  have s1:(ks.take (at0 % ks.length)++ks.drop (at0 % ks.length+1)).Sublist all:=less_sub.trans s;unfold d7
  split
  ·split
   ·exact jX f _ _ _ _ (h.add s1) s1
   ·exact jX f _ _ _ _ (h.add s1) s
  ·exact ⟨h,s⟩
theorem Bh{C:Cse}(o:C.Ok):(mG C).Nodup:=by
 unfold mG;refine List.nodup_append.mpr ⟨?_,?_,fun x hx y hy e=>?_⟩
 ·exact List.Pairwise.map _ (fun a b (h:a≠b)=>fun e=>h (Sum.inr.inj e)) o.nd
 ·exact List.Pairwise.map _ (fun a b (h:a≠b)=>fun e=>h (by have:=Sum.inl.inj e;lia)) List.nodup_range
 ·obtain ⟨z,_,rfl⟩:=List.mem_map.mp hx
  obtain ⟨i,_,rfl⟩:=List.mem_map.mp hy;cases e
theorem yW{C:Cse}{s t:Sta}(o:C.Ok):(bw C s t).Nodup:=(Bh o).sublist List.filter_sublist
theorem nar_naf{C:Cse}{s t:Sta}:Naf (bw C s t) (C.nar s t).2/\(C.nar s t).1.Sublist (bw C s t):=by
 obtain ⟨h1,h2⟩:=jn (p:=C.cau s t) (bw C s t).length (bw C s t) [bw C s t] Naf.one (List.Sublist.refl _);exact jX _ _ _ _ _ h1 h2
end
end Tw
namespace Tw
open PySem L2 L3
section
variable {C:Cse}{s t:Sta}{ad:Ad}{M:Mem}{Q:DK}{E:DX}{ks:List au}
theorem jb{EE:DX}{bx:BxQ EE fun d M'=>frz d M' Q}(o:C.Ok)(hs:SOk C s)(ht:SOk C t)(h:Q (mxD (bw C s t)) M):calls (oB ad) EE [aZ C s t] M (fun d M'=>frz d M' Q) bx:=by
 refine calls_of fun Q' E' hq _=>?_;rw [CY (n:=0)];unfold oq aZ;simp! [atI_0,atI_1,atI_2];exact calls_of fun Q2 E2 hq2 _=>wx o hs ht fun p hp=>hq2 _ _ (aD (hq _ _ (frzN hp h)))
end
section
variable {C:Cse}{s t:Sta}{ad:Ad}{M:Mem}{Q:DK}{E:DX}{ks:List au}{k:Ak}{ts:List (List au)}{a b:Int}
theorem cause_call{EE:DX}{bx:BxQ EE Q}(o:C.Ok)(hs:SOk C s)(ht:SOk C t)(ea:C.mark s=.int a)(eb:C.mark t=.int b)(hl:ts.length<=100000)(h:Q (.bl (C.cau s t ks)) (aM ad k C s t (.tup [.int a,.int b]) (bM ts ks) M)):
  calls (iu ad) EE [.ref k.a,mxD ks] (aM ad k C s t (.tup [.int a,.int b]) ts M) Q bx:=calls_of fun Q' E' hq _=>fG o hs ht ea eb hl (hq _ _ h)
theorem oN{EE:DX}{D2:DEnds}{c2:Option D}(o:C.Ok)(hs:SOk C s)(ht:SOk C t)(ea:C.mark s=.int a)(eb:C.mark t=.int b)(htl:ts.length<=99990)
  (h1:C.cau s t (ks.take (ks.length / 2))=true->∀c2,D2.nx [some (.ref k.a),some (mxD (ks.take (ks.length / 2))),c2] (aM ad k C s t (.tup [.int a,.int b]) (bM ts (ks.take (ks.length / 2))) M))
  (h2:C.cau s t (ks.take (ks.length / 2))=false->C.cau s t (ks.drop (ks.length / 2))=true->∀c2,D2.nx [some (.ref k.a),some (mxD (ks.drop (ks.length / 2))),c2] (aM ad k C s t (.tup [.int a,.int b]) (bM (bM ts (ks.take (ks.length / 2))) (ks.drop (ks.length / 2))) M))
  (h3:C.cau s t (ks.take (ks.length / 2))=false->C.cau s t (ks.drop (ks.length / 2))=false->∀c2,D2.bk [some (.ref k.a),some (mxD ks),c2] (aM ad k C s t (.tup [.int a,.int b]) (bM (bM ts (ks.take (ks.length / 2))) (ks.drop (ks.length / 2))) M)):
  iY ad EE D2 [some (.ref k.a),some (mxD ks),c2] (aM ad k C s t (.tup [.int a,.int b]) ts M):=by
 have e2:(ks.length:Int) / 2=((ks.length / 2:Nat):Int):=by lia
 have hmx:∀ks,mxD ks=.lst (ks.map kD):=fun _=>rfl;unfold iY rJ;generalize hK1:mz ad EE=K1;generalize hK3:lU ad EE=K3;simp! [hmx,List.length_map];refine ⟨⟨by decide,by decide⟩,?_⟩
 simp! [e2,pw,gU,eN];intro p1 q1;simp only [Mem.upd_del,ap q1];simp only [<- hmx];refine cause_call o hs ht ea eb (by lia) ?_
 have al:=cm (ts:=ts) (ks:=ks.take (ks.length / 2));simp! [];cases c1:C.cau s t (ks.take (ks.length / 2)) with
 |true=>
  simp only [if_true];rw [<- hK1];unfold mz;simp! [e2,hmx,pw];intro p2 q2;simp! [Mem.upd_del,ap q2];simp only [<- hmx];exact h1 c1 _
 |false=>
  simp only [Bool.false_eq_true,if_false];rw [<- hK3];unfold lU;generalize hK2:md ad EE=K2;simp! [e2,hmx,lh,gU,eN];intro p2 q2;simp only [Mem.upd_del,ap q2];simp only [<- hmx];refine cause_call o hs ht ea eb (by lia) ?_
  simp! [];cases c2':C.cau s t (ks.drop (ks.length / 2)) with
  |true=>
   simp only [if_true];rw [<- hK2];unfold md;simp! [e2,hmx,lh];intro p3 q3;simp! [Mem.upd_del,ap q3];simp only [<- hmx];exact h2 c1 c2' _
  |false=>
   simp only [Bool.false_eq_true,if_false];exact h3 c1 c2' _
theorem nN{EE:DX}{D':DEnds}(o:C.Ok)(hs:SOk C s)(ht:SOk C t)(ea:C.mark s=.int a)(eb:C.mark t=.int b):∀(n:Nat) (ks:List au) (ts:List (List au)) (c2:Option D),ks.length<=n+1->ts.length+2*n<=99990->
  (∀c2,D'.nx [some (.ref k.a),some (mxD (dA (C.cau s t) n ks ts).1),c2] (aM ad k C s t (.tup [.int a,.int b]) (dA (C.cau s t) n ks ts).2 M))->
  whileD (aE (az BK (bR cG (a9 (aa 1) dNil)) (dC (.int 1)))) (iY ad EE) D' ⟨⟩ (n+1) [some (.ref k.a),some (mxD ks),c2] (aM ad k C s t (.tup [.int a,.int b]) ts M):=by
 intro n;have hc:∀(ks:List au) (ts:List (List au)) (c2:Option D) (K:Bool->Mem->Prop),K (decide (1<ks.length)) (aM ad k C s t (.tup [.int a,.int b]) ts M)->aE (az BK (bR cG (a9 (aa 1) dNil)) (dC (.int 1))) [some (.ref k.a),some (mxD ks),c2] (aM ad k C s t (.tup [.int a,.int b]) ts M) K:=fun ks ts c2 K q=>by
  have hmx:mxD ks=.lst (ks.map kD):=rfl;have e:decide ((1:Int)<(ks.length:Nat))=decide (1<ks.length):=by congr 1;exact propext ⟨fun z=>by lia,fun z=>by lia⟩
  simp! [hmx,List.length_map,e];exact q
 induction n with
 |zero=>
  intro ks ts c2 hl _ h;refine whF (fun K q=>hc ks ts c2 K ?_) (h c2);rw [decide_eq_false (by lia)];exact q
 |succ n ih=>
  intro ks ts c2 hl htl h
  by_cases c:1<ks.length
  ·refine whT (fun K q=>hc ks ts c2 K ?_) ?_
   ·rw [decide_eq_true c];exact q
   have l1:(ks.take (ks.length / 2)).length<=n+1:=by rw [List.length_take];lia
   have l2:(ks.drop (ks.length / 2)).length<=n+1:=by rw [List.length_drop];lia
   have al:=cm (ts:=ts) (ks:=ks.take (ks.length / 2));have al2:=cm (ts:=bM ts (ks.take (ks.length / 2))) (ks:=ks.drop (ks.length / 2));unfold dA at h;rw [if_pos c] at h;refine oN o hs ht ea eb (by lia) (fun q c2=>ih _ _ _ l1 (by lia) ?_) (fun q1 q2 c2=>ih _ _ _ l2 (by lia) ?_) fun q1 q2 c2=>?_
   ·rw [if_pos q] at h;exact h
   ·rw [if_neg (by rw [q1];simp),if_pos q2] at h;exact h
   ·rw [if_neg (by rw [q1];simp),if_neg (by rw [q2];simp)] at h;exact h c2
  ·refine whF (fun K q=>hc ks ts c2 K ?_) ?_
   ·rw [decide_eq_false c];exact q
   unfold dA at h;rw [if_neg c] at h;exact h c2
theorem oh{EE:DX}{bx:BxQ EE Q}(o:C.Ok)(hs:SOk C s)(ht:SOk C t)(ea:C.mark s=.int a)(eb:C.mark t=.int b)(hl:ks.length<=100)(htl:ts.length<=1000)(h:Q (mxD (dA (C.cau s t) ks.length ks ts).1) (aM ad k C s t (.tup [.int a,.int b]) (dA (C.cau s t) ks.length ks ts).2 M)):
  calls (rQ ad) EE [.ref k.a,mxD ks] (aM ad k C s t (.tup [.int a,.int b]) ts M) Q bx:=by
 refine calls_of fun Q' E' hq _=>?_;rw [CQ (n:=0)];unfold oG;simp only [aB,dWhile];refine ⟨ks.length+1,nN o hs ht ea eb ks.length ks ts _ (by lia) (by lia) fun c2=>?_⟩
 exact aD (hq _ _ h)
theorem sQ{EE:DX}{D2:DEnds}{at0 st:Nat}{c4:Option D}(o:C.Ok)(hs:SOk C s)(ht:SOk C t)(ea:C.mark s=.int a)(eb:C.mark t=.int b)(htl:ts.length<=99990)(h0:0<ks.length)(hl:ks.length<=100)
  (h1:C.cau s t (ks.take (at0 % ks.length)++ks.drop (at0 % ks.length+1))=true->∀c4,D2.nx [some (.ref k.a),some (mxD (ks.take (at0 % ks.length)++ks.drop (at0 % ks.length+1))),some (.int ((at0 % ks.length:Nat):Int)),some (.int ((0:Nat):Int)),c4] (aM ad k C s t (.tup [.int a,.int b]) (bM ts (ks.take (at0 % ks.length)++ks.drop (at0 % ks.length+1))) M))
  (h2:C.cau s t (ks.take (at0 % ks.length)++ks.drop (at0 % ks.length+1))=false->∀c4,D2.nx [some (.ref k.a),some (mxD ks),some (.int ((at0 % ks.length+1:Nat):Int)),some (.int ((st+1:Nat):Int)),c4] (aM ad k C s t (.tup [.int a,.int b]) (bM ts (ks.take (at0 % ks.length)++ks.drop (at0 % ks.length+1))) M)):
  iK ad EE D2 [some (.ref k.a),some (mxD ks),some (.int (at0:Nat)),some (.int (st:Nat)),c4] (aM ad k C s t (.tup [.int a,.int b]) ts M):=by
 have e2:(at0:Int) % ((ks.length:Nat):Int)=((at0 % ks.length:Nat):Int):=by lia
 have e3:((at0 % ks.length:Nat):Int)+1=((at0 % ks.length+1:Nat):Int):=by lia
 have e4:((st:Nat):Int)+1=((st+1:Nat):Int):=by lia
 have hmx:∀ks,mxD ks=.lst (ks.map kD):=fun _=>rfl;have lm:(ks.map kD).length=ks.length:=List.length_map _;generalize hA:at0 % ks.length=A at h1 h2 e2 e3;generalize hL:ks.take A++ks.drop (A+1)=L at h1 h2;unfold iK rS;generalize hK3:lO ad EE=K3;simp! [hmx,lm];refine ⟨by lia,?_⟩
 simp! [e2,e3,pw,lh];intro p1 q1;simp! [Mem.upd_del,ap q1];intro p2 q2;simp! [Mem.upd_del,ap q2];refine ⟨szl (by simp only [List.length_map,List.length_take,List.length_drop];lia),fun p3 q3=>?_⟩
 simp! [Mem.upd_del,ap q3];have eL:(ks.take A).map kD++(ks.drop (A+1)).map kD=L.map kD:=by rw [<- hL,List.map_append]
 rw [eL,<- hmx,<- hmx,<- hK3];unfold lO;generalize hK1:lF ad EE=K1;generalize hK2:mh ad EE=K2;simp! [hmx L,gU,eN];rw [<- hmx];refine cause_call o hs ht ea eb (by lia) ?_
 simp! [];cases c1:C.cau s t L with
 |true=>
  simp only [if_true];rw [<- hK1];unfold lF;simp! [];exact h1 c1 _
 |false=>
  simp only [Bool.false_eq_true,if_false];rw [<- hK2];unfold mh;simp! [e3,e4];exact h2 c1 _
theorem tz{EE:DX}{D':DEnds}(o:C.Ok)(hs:SOk C s)(ht:SOk C t)(ea:C.mark s=.int a)(eb:C.mark t=.int b):∀(f:Nat) (at0 st:Nat) (ks:List au) (ts:List (List au)) (c4:Option D),iP ks st<=f->ks.length<=100->ts.length+f<=99990->
  (∀c2 c3 c4,D'.nx [some (.ref k.a),some (mxD (d7 (C.cau s t) f at0 st ks ts).1),c2,c3,c4] (aM ad k C s t (.tup [.int a,.int b]) (d7 (C.cau s t) f at0 st ks ts).2 M))->
  whileD (aE (az Cj (aa 3) (bR cG (a9 (aa 1) dNil)))) (iK ad EE) D' ⟨⟩ (f+1) [some (.ref k.a),some (mxD ks),some (.int (at0:Nat)),some (.int (st:Nat)),c4] (aM ad k C s t (.tup [.int a,.int b]) ts M):=by
 intro f;have hc:∀(at0 st:Nat) (ks:List au) (ts:List (List au)) (c4:Option D) (K:Bool->Mem->Prop),K (decide (st<ks.length)) (aM ad k C s t (.tup [.int a,.int b]) ts M)->aE (az Cj (aa 3) (bR cG (a9 (aa 1) dNil))) [some (.ref k.a),some (mxD ks),some (.int (at0:Nat)),some (.int (st:Nat)),c4] (aM ad k C s t (.tup [.int a,.int b]) ts M) K:=fun at0 st ks ts c4 K q=>by
  have hmx:mxD ks=.lst (ks.map kD):=rfl;have e:decide (((st:Nat):Int)<(ks.length:Nat))=decide (st<ks.length):=by congr 1;exact propext ⟨fun z=>by lia,fun z=>by lia⟩
  simp! [hmx,List.length_map,e];exact q
 induction f with
 |zero=>
  intro at0 st ks ts c4 hf hl _ h;refine whF (fun K q=>hc at0 st ks ts c4 K ?_) (h _ _ c4);unfold iP at hf;rw [decide_eq_false ?_]
  ·exact q
  ·intro z
   have:1<=ks.length*ks.length:=Nat.mul_pos (by lia) (by lia)
   lia
 |succ f ih=>
  intro at0 st ks ts c4 hf hl htl h
  by_cases c:st<ks.length
  ·refine whT (fun K q=>hc at0 st ks ts c4 K ?_) ?_
   ·rw [decide_eq_true c];exact q
   have hm:at0 % ks.length<ks.length:=Nat.mod_lt _ (by lia)
   have lL:(ks.take (at0 % ks.length)++ks.drop (at0 % ks.length+1)).length=ks.length-1:=by simp only [List.length_append,List.length_take,List.length_drop];lia
   have al:=cm (ts:=ts) (ks:=ks.take (at0 % ks.length)++ks.drop (at0 % ks.length+1));unfold d7 at h;rw [if_pos c] at h;have p1:iP (ks.take (at0 % ks.length)++ks.drop (at0 % ks.length+1)) 0<=f:=by
    unfold iP at hf ⊢;rw [lL];obtain ⟨n,hn⟩:∃n,ks.length=n+1:=⟨ks.length-1,by lia⟩
    rw [hn] at hf c ⊢;simp only [Nat.add_sub_cancel];have:(n+1)*(n+1)=n*n+2*n+1:=by rw [Nat.add_mul,Nat.mul_add];lia
    lia
   have p2:iP ks (st+1)<=f:=by
    unfold iP at hf ⊢;have:1<=ks.length*ks.length:=Nat.mul_pos (by lia) (by lia)
    lia
   refine sQ o hs ht ea eb (by lia) (by lia) hl (fun q c4=>ih _ 0 _ _ _ p1 (by lia) (by lia) ?_) fun q c4=>ih _ (st+1) _ _ _ p2 hl (by lia) ?_
   ·rw [if_pos q] at h;exact h
   ·rw [if_neg (by rw [q];simp)] at h;exact h
  ·refine whF (fun K q=>hc at0 st ks ts c4 K ?_) ?_
   ·rw [decide_eq_false c];exact q
   unfold d7 at h;rw [if_neg c] at h;exact h _ _ c4
theorem me{EE:DX}{bx:BxQ EE Q}(o:C.Ok)(hs:SOk C s)(ht:SOk C t)(ea:C.mark s=.int a)(eb:C.mark t=.int b)(hl:ks.length<=100)(htl:ts.length<=1000)(h:Q (mxD (d7 (C.cau s t) (iP ks 0) 0 0 ks ts).1) (aM ad k C s t (.tup [.int a,.int b]) (d7 (C.cau s t) (iP ks 0) 0 0 ks ts).2 M)):
  calls (rG ad) EE [.ref k.a,mxD ks] (aM ad k C s t (.tup [.int a,.int b]) ts M) Q bx:=by
 refine calls_of fun Q' E' hq _=>?_;have hp:iP ks 0<=20000:=by
  unfold iP;have:ks.length*ks.length<=100*100:=Nat.mul_le_mul hl hl;lia
 rw [Cy (n:=0)];unfold nh rB;simp only [aB,bd,dC,ao,List.set,dWhile];exact ⟨iP ks 0+1,tz o hs ht ea eb (iP ks 0) 0 0 ks ts none (Nat.le_refl _) hl (by lia) fun c2 c3 c4=>aD (hq _ _ h)⟩
end
end Tw
namespace Tw
open PySem L2 L3
def askD(C:Cse)(s t:Sta)(ts:List (List au)):List D:=ts.map fun l=>.tup [mxD l,.str (C.ver s t l)]
section
variable {C:Cse}{s t:Sta}{ad:Ad}{M:Mem}{Q:DK}{E:DX}{ks:List au}{k:Ak}{ts:List (List au)}{a b:Int}
theorem qd{Q:List D->Mem->Prop}{c0 c1:Option D}{its:List D}{bx:BxC (d_ 2 (bD (ao 0) (bD (ao 1) dZ))) cv (bV (a9 (ax (bR jI (a9 (aa 0) dNil))) (a9 (aa 1) dNil))) (DIt.ok ⟨its,[]⟩) Q}(hl:ts.length<=100000)(h:Q (askD C s t ts) M):
  cR (d_ 2 (bD (ao 0) (bD (ao 1) dZ))) cv (bV (a9 (ax (bR jI (a9 (aa 0) dNil))) (a9 (aa 1) dNil))) (DIt.ok ⟨its,[]⟩) Q bx (gJ (dg C s t ts)) [] [c0,c1] M:=by
 have ek:∀l:List au,(l.map fun k=>match k with|.inl i=>D.int i|.inr x=>D.str x)=l.map kD:=fun l=>List.map_congr_left fun k _=>by cases k<;>rfl
 have ei:∀us,gJ (dg C s t us)=us.map fun l=>.tup [.tup (l.map kD),.str (C.ver s t l)]:=fun us=>by
  unfold gJ dg;rw [List.map_map];refine List.map_congr_left fun l _=>?_;show D.tup [.tup (l.map fun k=>match k with|.inl i=>D.int i|.inr x=>D.str x),_]=_
  rw [ek]
 rw [ei];refine bQ (fun xs acc δ N=>∃(l1 l2:List (List au)) (c0 c1:Option D),ts=l1++l2/\xs=l2.map (fun l=>.tup [.tup (l.map kD),.str (C.ver s t l)])/\acc=askD C s t l1/\δ=[c0,c1]/\N=M) (fun _ _ _ _ _=>bS) ?_ ?_ ?_ _ _ _ _ ⟨[],ts,c0,c1,rfl,rfl,rfl,rfl,rfl⟩
 ·rintro acc δ N ⟨l1,l2,c0,c1,e1,e2,rfl,rfl,rfl⟩
  have:l2=[]:=by cases l2 with|nil=>rfl|cons _ _=>simp at e2
  subst this;rw [List.append_nil] at e1;subst e1;exact h
 ·rintro x xs acc δ N ⟨l1,l2,c0,c1,e1,e2,rfl,rfl,rfl⟩ N' hN _
  cases l2 with
  |nil=>simp at e2
  |cons y l2=>
   simp only [List.map_cons,List.cons.injEq] at e2;obtain ⟨rfl,rfl⟩:=e2;have hl2:=congrArg List.length e1;simp only [List.length_append,List.length_cons] at hl2;simp! [];intro p hp;simp only [Mem.upd_del,ap hp];refine ⟨szl (by decide),hN _ _ _ (by rw [askD,List.length_map];exact szs (by lia)) ⟨l1++[y],l2,_,_,by simp [e1],rfl,by simp [askD,mxD],rfl,rfl⟩⟩
 ·rintro x xs acc δ N ⟨l1,l2,c0,c1,e1,e2,rfl,rfl,rfl⟩
  have hl2:=congrArg List.length e1;simp only [List.length_append] at hl2;rw [askD,List.length_map];exact szs (by lia)
theorem k7{EE:DX}{bx:BxQ EE fun d M'=>frzT d M' Q}(o:C.Ok)(hs:SOk C s)(ht:SOk C t)(ea:C.mark s=.int a)(eb:C.mark t=.int b)(hab:a≠b)(hl:(bw C s t).length<=100)(hn:(C.nar s t).2.length<=100000)(h:Q (.tup [.lst (askD C s t (C.nar s t).2),mxD (C.nar s t).1]) M):
  calls (rA ad) EE [aZ C s t] M (fun d M'=>frzT d M' Q) bx:=by
 refine calls_of fun Q' E' hq _=>?_;have hmx:∀l,mxD l=.lst (l.map kD):=fun _=>rfl;have f2:∀{M:Mem} {Q:DK} {l:List au},Q (mxD l) M->frz (mxD l) M Q:=fun h=>h;obtain ⟨hl1,hl2⟩:=g7 (p:=C.cau s t) (bw C s t).length (bw C s t) [bw C s t];rw [D1 (n:=0)];unfold o5;generalize hK4:lZ ad (aS E')=K4;simp! [];intro x hx;refine calls_of fun Q2 E2 hq2 _=>lA hx o hs ht ea eb hab fun k hk hkt=>hq2 _ _ ?_;subst hk;simp! [];rw [<- hK4];unfold lZ q_ rP;generalize hK1:lE ad (aS E')=K1;simp only [aB,bd,ax,aC,a9,aa,dNil,List.getElem?_cons_succ,List.getElem?_cons_zero];refine ⟨rfl,jb o hs ht ?_⟩;simp only [ao,List.set,cI];refine qX (k:=k) gU qw (fun K q=>q) (fun K q=>q) (calls_of fun Q3 E3 hq3 _=>nH o hs ht ea eb (by simp) (hq3 _ _ ?_))
 have e0:bM [] (bw C s t)=[bw C s t]:=by simp [bM]
 rw [e0];simp only [aB,bd,ax,aC,a9,aa,dNil,List.getElem?_cons_succ,List.getElem?_cons_zero];refine ⟨rfl,oh o hs ht ea eb hl (by simp) (f2 ?_)⟩
 have hh1:(C.hal s t).1.length<=100:=Nat.le_trans hl1 hl;have hh2:(C.hal s t).2.length<=1000:=Nat.le_trans hl2 (by simp;lia)
 refine ⟨rfl,me o hs ht ea eb (ks:=(C.hal s t).1) (ts:=(C.hal s t).2) hh1 hh2 (f2 ?_)⟩;simp only [ao,List.set];rw [<- hK1];unfold lE;generalize hN:d7 (C.cau s t) (iP (C.hal s t).1 0) 0 0 (C.hal s t).1 (C.hal s t).2=nr;have hN':C.nar s t=nr:=hN;rw [hN'] at h hn;simp only [aX,bV,a9,bq,pZ,cU,aa,List.getElem?_cons_succ,List.getElem?_cons_zero,gU,iT,sP,true_and,cj,List.map_cons,List.map_nil,List.cons_append,List.nil_append];refine qd hn fun p hp=>?_;have dl:∀x,x≠k.t->(aM ad k C s t (.tup [.int a,.int b]) nr.2 M).del k.t x=aM ad k C s t (.tup [.int a,.int b]) nr.2 M x:=fun x z=>by unfold Mem.del;rw [if_neg z]
 have dn:∀x,x≠k.t->x≠k.a->aM ad k C s t (.tup [.int a,.int b]) nr.2 M x=M x:=fun x z1 z2=>by unfold aM;rw [ah z1,ah z2]
 have hMp:M p=none:=by
  by_cases z:p=k.t
  ·rw [z];exact hkt
  ·have z2:p≠k.a:=fun e=>by rw [dl p z,e,gU] at hp;cases hp
   rw [dl p z,dn p z z2] at hp;exact hp
 refine ⟨szl (by simp),M.upd p (.lst (askD C s t nr.2)),fun x o' e=>?_,hq _ _ ?_⟩
 ·by_cases z:x=p
  ·subst z;rw [Mem.upd_same] at e ⊢;exact e
  ·rw [ah z] at e ⊢
   have z1:x≠k.t:=fun q=>by rw [q,hkt] at e;cases e
   have z2:x≠k.a:=fun q=>by rw [q,hx] at e;cases e
   rw [dl x z1,dn x z1 z2];exact e
 ·simp only [frzT,frzs,frz,Mem.upd_same,Mem.upd_del,ap hMp,hmx]
  exact h
end
end Tw
namespace Tw
open PySem L2 L3
section
variable {ad:Ad}{M:Mem}{Q:DK}{E:DX}{a b:au}{as bs ks all:List au}
theorem ua{n:Nat}(h:Q (.bl (decide (a=b))) M):S_q27 ad (n+1) [kD a,kD b] M Q E:=by
 rw [<- wV] at h;rw [zB (n:=n)];unfold kj l_ li;generalize mE ad (S_q27 ad n) (S_q20 ad n) (aS E)=K1;generalize lP ad (S_q27 ad n) (S_q20 ad n) (aS E)=K2;have h':=aD (Q:=Q) h;cases a<;>cases b
 all_goals
  simp only [kD] at h' ⊢;simp! [dO,kO,String.reduceBEq,Bool.or_true,Bool.or_false,Bool.false_or,Bool.true_or,Bool.false_and,Bool.and_false,beq_self_eq_true];exact h'
theorem wq{n:Nat}{its:List D}{c0 c1:Option D}{Q:List D->Mem->Prop}{bx:BxC (d_ 2 (bD (ao 0) (bD (ao 1) dZ))) cv (ax (aC (S_q27 ad (n+1)) kq 2 (a9 (aa 0) (a9 (aa 1) dNil)))) (DIt.ok ⟨its,[]⟩) Q}(hl:as.length=bs.length)(hs:as.length<=1000)
  (h:Q (((as.zip bs).map fun p=>decide (p.1=p.2)).map D.bl) M):cR (d_ 2 (bD (ao 0) (bD (ao 1) dZ))) cv (ax (aC (S_q27 ad (n+1)) kq 2 (a9 (aa 0) (a9 (aa 1) dNil)))) (DIt.ok ⟨its,[]⟩) Q bx (mR (as.map kD) (bs.map kD)) [] [c0,c1] M:=by
 have ez:∀xs ys:List au,mR (xs.map kD) (ys.map kD)=(xs.zip ys).map fun p=>.tup [kD p.1,kD p.2]:=fun xs ys=>by
  unfold mR;rw [List.zip_map,List.map_map];rfl
 rw [ez];have hz:(as.zip bs).length<=1000:=by rw [List.length_zip];lia
 generalize as.zip bs=ps at h hz;refine bQ (fun xs acc δ N=>∃(l1 l2:List (au×au)) (c0 c1:Option D),ps=l1++l2/\xs=l2.map (fun p=>.tup [kD p.1,kD p.2])/\acc=(l1.map fun p=>decide (p.1=p.2)).map D.bl/\δ=[c0,c1]/\N=M) (fun _ _ _ _ _=>bS) ?_ ?_ ?_ _ _ _ _ ⟨[],ps,c0,c1,rfl,rfl,rfl,rfl,rfl⟩
 ·rintro acc δ N ⟨l1,l2,c0,c1,e1,e2,rfl,rfl,rfl⟩
  have:l2=[]:=by cases l2 with|nil=>rfl|cons _ _=>simp at e2
  subst this;rw [List.append_nil] at e1;subst e1;exact h
 ·rintro x xs acc δ N ⟨l1,l2,c0,c1,e1,e2,rfl,rfl,rfl⟩ N' hN _
  cases l2 with
  |nil=>simp at e2
  |cons y l2=>
   simp only [List.map_cons,List.cons.injEq] at e2;obtain ⟨rfl,rfl⟩:=e2;have hl2:=congrArg List.length e1;simp only [List.length_append,List.length_cons] at hl2;simp only [d_,bD,dZ,ao,List.set,cv,if_true,ax,aC,a9,aa,dNil,List.getElem?_cons_succ,List.getElem?_cons_zero,List.length_cons,List.length_nil];refine ⟨trivial,trivial,aQ (fun _ _ q=>ua q) ?_⟩;exact hN _ _ _ (by rw [List.length_map,List.length_map];exact szs (by lia)) ⟨l1++[y],l2,_,_,by simp [e1],rfl,by simp,rfl,rfl⟩
 ·rintro x xs acc δ N ⟨l1,l2,c0,c1,e1,e2,rfl,rfl,rfl⟩
  have hl2:=congrArg List.length e1;simp only [List.length_append] at hl2;rw [List.length_map,List.length_map];exact szs (by lia)
theorem rO:∀{as bs:List au},as.length=bs.length->((as.zip bs).map fun p=>decide (p.1=p.2)).all id=decide (as=bs)
 |[],[],_=>rfl
 |[],_::_,h=>by simp at h
 |_::_,[],h=>by simp at h
 |a::as,b::bs,h=>by
  have:=rO (as:=as) (bs:=bs) (by simpa using h)
  rw [List.zip_cons_cons,List.map_cons,List.all_cons,this]
  by_cases c:a=b<;>by_cases c2:as=bs<;>simp [c,c2]
theorem lY{n:Nat}(hs:as.length<=1000)(h:Q (.bl (decide (as=bs))) M):S_q20 ad (n+2) [mxD as,mxD bs] M Q E:=by
 have hmx:∀l,mxD l=.lst (l.map kD):=fun _=>rfl;rw [D_ (n:=n+1)];unfold nE;generalize hK:lw ad (S_q27 ad (n+1)) (S_q20 ad (n+1)) (aS E)=K;simp! [hmx,List.length_map]
 by_cases c:as.length=bs.length
 ·have c':((as.length:Nat):Int)=(bs.length:Nat):=by lia
  simp only [c',decide_true,Bool.not_true,Bool.false_eq_true,if_false];rw [<- hK,<- hmx,<- hmx];unfold lw;simp only [aX,bR,a9,ax,bq,BP,aa,dNil,List.getElem?_cons_succ,List.getElem?_cons_zero,hmx,b_,srcOf,List.append_nil,cj,List.map_cons,List.map_nil,List.cons_append,List.nil_append];refine wq c hs fun p hp=>frzN hp ?_;simp only [pV,seqL,cX,rO c];exact aD h
 ·have c':¬((as.length:Nat):Int)=(bs.length:Nat):=by lia
  have c2:¬as=bs:=fun e=>c (by rw [e])
  simp only [c',decide_false,Bool.not_false,if_true];rw [decide_eq_false c2] at h;exact aD h
theorem qN{n:Nat}(hs:as.length<=1000)(h:Q (.bl (decide (as=bs))) M):S_q27 ad (n+3) [mxD as,mxD bs] M Q E:=by
 have hmx:∀l,mxD l=.lst (l.map kD):=fun _=>rfl;rw [zB (n:=n+2)];unfold kj l_ lP;generalize mE ad (S_q27 ad (n+2)) (S_q20 ad (n+2)) (aS E)=K1;generalize li ad (S_q27 ad (n+2)) (S_q20 ad (n+2)) (aS E)=K3;simp! [hmx,dO,kO,String.reduceBEq,Bool.or_true,Bool.or_false,Bool.false_or,Bool.true_or,Bool.false_and,Bool.and_false,beq_self_eq_true];rw [<- hmx,<- hmx];refine aQ (fun _ _ q=>lY hs q) ?_;simp! [];exact aD h
def pK(all ks:List au):Bool:=decide (ks=all.filter fun k=>decide (k∈ks))
theorem jH(hs:ks.length<=1000)(ha:all.length<=1000)(h:Q (.bl (pK all ks)) M):n_ ad [mxD all,mxD ks] M Q E:=by
 have hmx:∀l,mxD l=.lst (l.map kD):=fun _=>rfl;rw [Cp (n:=0)];unfold nS;generalize hF:ax (aC (S_q27 ad 24) (aS E) 2 (a9 (aa 1) (a9 (ax (bq (dh (aa 0)) ["one"] [1] (ao 0) (aE (az xP (aa 0) (aa 1))) (aa 0))) dNil)))=F;simp! [hmx,dO,kO,String.reduceBEq,Bool.or_true,Bool.or_false,Bool.false_or,Bool.true_or,Bool.false_and,Bool.and_false,beq_self_eq_true];rw [<- hF];simp only [ax,aC,a9,bq,dh,aa,dNil,List.getElem?_cons_succ,List.getElem?_cons_zero,b_,srcOf,cj,List.map_cons,List.map_nil,List.cons_append,List.nil_append,Option.join_some];rw [<- hmx ks];refine iF (fun d=>match db d with|some k=>decide (k∈ks)|none=>false) id bS (by simp;lia) (fun x hx K q=>?_) (fun x hx _ K q=>q) ?_
 ·obtain ⟨k,hk,rfl⟩:=List.mem_map.mp hx
  refine in_t (k:=k) (ks:=ks) (fun K q=>q) (fun K q=>q) ?_;have e:db (kD k)=some k:=by cases k<;>rfl
  simp only [e] at q;exact q
 ·intro p hp
  refine frzN hp ?_;have e:((all.map kD).filter fun d=>match db d with|some k=>decide (k∈ks)|none=>false).map id=(all.filter fun k=>decide (k∈ks)).map kD:=by
   rw [List.map_id,List.filter_map];congr 1;refine List.filter_congr fun k _=>?_;cases k<;>rfl
  rw [e,<- hmx];refine ⟨rfl,aQ (fun _ _ q=>qN (n:=21) hs q) ?_⟩;simp only [frz];exact aD h
theorem kc{v:Str}(hs:ks.length<=1000)(ha:all.length<=1000)(h:Q (.bl (pK all ks)) M):su ad [mxD all,.tup [mxD ks,.str v]] M Q E:=by
 rw [Cn (n:=0)];unfold nO;simp! [dO,kO,String.reduceBEq,Bool.or_true,Bool.or_false,Bool.false_or,Bool.true_or,Bool.false_and,Bool.and_false,beq_self_eq_true,atI_0];refine aQ (fun _ _ q=>jH hs ha q) ?_;simp! [];exact aD h
end
section
variable {C:Cse}{s t:Sta}{ad:Ad}{M:Mem}{Q:DK}{E:DX}{cs all:List au}{ts:List (List au)}
theorem m8(ht0:ts≠[])(hl:ts.length<=100000)(hs:∀l∈ts,l.length<=1000)(hc:cs.length<=1000)(ha:all.length<=1000)(m1:pK all cs=true)(m2:∀l∈ts,pK all l=true)(h:Q (.bl true) M):yf ad [mxD all,.tup [.lst (askD C s t ts),mxD cs]] M Q E:=by
 have la:(askD C s t ts).length=ts.length:=by simp [askD]
 have l0:0<ts.length:=by cases ts with|nil=>exact absurd rfl ht0|cons _ _=>simp
 have l0':¬((ts.length:Nat):Int)=0:=by lia
 rw [u_q0 (n:=0)];unfold wF uc;generalize hK1:qA ad (aS E)=K1;simp! [dO,kO,String.reduceBEq,Bool.or_true,Bool.or_false,Bool.false_or,Bool.true_or,Bool.false_and,Bool.and_false,beq_self_eq_true,atI_0,atI_1,la,l0',decide_false,decide_true];refine aQ (fun _ _ q=>jH hc ha q) ?_;rw [m1];simp! [];rw [<- hK1];unfold qA;simp! [atI_0,bq];refine eF (fun _=>.bl true) bS (by lia) (fun x hx K q=>?_) ?_
 ·obtain ⟨l,hl',rfl⟩:=List.mem_map.mp hx
  simp only [ax,aC,a9,aa,dNil,List.getElem?_cons_succ,List.getElem?_cons_zero];refine ⟨rfl,aQ (fun _ _ q=>kc (hs l hl') ha q) ?_⟩;rw [m2 l hl'];exact q
 ·intro p hp
  have e:(askD C s t ts).map (fun _=>D.bl true)=(ts.map fun _=>true).map D.bl:=by simp [askD]
  have e2:(ts.map fun _=>true).all id=true:=by simp
  rw [e];simp! [Mem.upd_del,ap hp,cX,e2];exact aD h
theorem ud:∀us:List (List au),u0 (us.map fun l=>.tup [.tup (l.map kD),.str (C.ver s t l)])=some (dg C s t us)
 |[]=>rfl
 |l::us=>by
  have:=ud us;simp only [List.map_cons,u0,kT,cW,this];rfl
theorem rj:∀(us acc:List (List au)),(acc++us).Nodup->(dg C s t us).foldl (fun a p=>di a p.1 p.2) (dg C s t acc)=dg C s t (acc++us)
 |[],acc,_=>by simp [dg]
 |l::us,acc,nd=>by
  have hn:l∉acc:=fun h=>(List.nodup_append.mp nd).2.2 l h l (by simp) rfl
  have:=rj us (acc++[l]) (by simpa using nd)
  have e:(dg C s t (l::us)).foldl (fun a p=>di a p.1 p.2) (dg C s t acc)=(dg C s t us).foldl (fun a p=>di a p.1 p.2) (di (dg C s t acc) l (.str (C.ver s t l))):=rfl;rw [e,vP hn,this];simp
end
end Tw
namespace Tw
open PySem L2 L3
section
variable {C:Cse}{s t:Sta}{ad:Ad}{M:Mem}{Q:DK}{E:DX}{cs:List au}{ts us:List (List au)}{k:Ak}{a b:Int}{two:D}
theorem yl{d:Addr}{o:MO}(h1:d≠k.a)(h2:d≠k.t):(aM ad k C s t two us M).upd d o=aM ad k C s t two us (M.upd d o):=by
 unfold aM;rw [bB h2.symm,bB h1.symm]
theorem ze{d:Addr}(h:aM ad k C s t two us M d=none):d≠k.a/\d≠k.t/\M d=none:=by
 have h1:d≠k.a:=fun e=>by rw [e,gU] at h;cases h
 have h2:d≠k.t:=fun e=>by rw [e,sP] at h;cases h
 unfold aM at h;rw [ah h2,ah h1] at h;exact ⟨h1,h2,h⟩
theorem tS{ls:List (List au)}(o:C.Ok)(hs:SOk C s)(ht:SOk C t)(ea:C.mark s=.int a)(eb:C.mark t=.int b)(hl:us.length+ls.length<=100000){Q:List D->Mem->Prop}{c0 c1:Option D}{its:List D}
  {bx:BxC (d_ 2 (bD (ao 0) (bD (ao 1) dZ))) cv (az gz (ax (ck ad.C_Askings "ask" (mj ad) kq 2 (aa 2) (a9 (aa 0) dNil))) (aa 1)) (DIt.ok ⟨its,[]⟩) Q}
  (h:∀us',Q (ls.map fun _=>.bl true) (aM ad k C s t (.tup [.int a,.int b]) us' M)):
  cR (d_ 2 (bD (ao 0) (bD (ao 1) dZ))) cv (az gz (ax (ck ad.C_Askings "ask" (mj ad) kq 2 (aa 2) (a9 (aa 0) dNil))) (aa 1)) (DIt.ok ⟨its,[]⟩) Q bx (askD C s t ls) [] [c0,c1,some (.ref k.a)] (aM ad k C s t (.tup [.int a,.int b]) us M):=by
 refine bQ (fun xs acc δ N=>∃(l1 l2:List (List au)) (c0 c1:Option D) (vs:List (List au)),ls=l1++l2/\xs=askD C s t l2/\acc=l1.map (fun _=>D.bl true)/\δ=[c0,c1,some (.ref k.a)]/\vs.length<=us.length+l1.length/\N=aM ad k C s t (.tup [.int a,.int b]) vs M)
  (fun _ _ _ _ _=>bS) ?_ ?_ ?_ _ _ _ _ ⟨[],ls,c0,c1,us,rfl,rfl,rfl,rfl,by simp,rfl⟩
 ·rintro acc δ N ⟨l1,l2,c0,c1,vs,e1,e2,rfl,rfl,hu,rfl⟩
  have:l2=[]:=by cases l2 with|nil=>rfl|cons _ _=>simp [askD] at e2
  subst this;rw [List.append_nil] at e1;subst e1;exact h vs
 ·rintro x xs acc δ N ⟨l1,l2,c0,c1,vs,e1,e2,rfl,rfl,hu,rfl⟩ N' hN _
  cases l2 with
  |nil=>simp [askD] at e2
  |cons y l2=>
   simp only [askD,List.map_cons,List.cons.injEq] at e2;obtain ⟨rfl,rfl⟩:=e2;have hl2:=congrArg List.length e1;simp only [List.length_append,List.length_cons] at hl2;simp only [d_,bD,dZ,ao,List.set,cv,if_true,az,ax,List.length_cons,List.length_nil];refine ⟨trivial,qX (k:=k) (x:=mxD y) gU qw (fun K q=>q) (fun K q=>q) (calls_of fun Q' E' hq _=>nH o hs ht ea eb (by lia) (hq _ _ ?_))⟩
   show bZ 60 (.str _)=true/\bZ 60 (.str _)=true/\_;refine ⟨rfl,rfl,?_⟩;have ed:∀(N:Mem) (x:Str),aN (dv N (.str x)) (dv N (.str x))=true:=fun N x=>by simp [dv,aN]
   rw [ed];exact hN _ _ _ (by rw [List.length_map];exact szs (by lia)) ⟨l1++[y],l2,_,_,_,by simp [e1],rfl,by simp,rfl,by have:=cm (ts:=vs) (ks:=y);simp;lia,rfl⟩
 ·rintro x xs acc δ N ⟨l1,l2,c0,c1,vs,e1,e2,rfl,rfl,hu,rfl⟩
  have hl2:=congrArg List.length e1;simp only [List.length_append] at hl2;rw [List.length_map];exact szs (by lia)
def oV(C:Cse)(s t:Sta)(ts:List (List au))(cs:List au):D:=.tup [.lst (askD C s t ts),mxD cs]
structure NaOk(C:Cse)(s t:Sta)(ts:List (List au)):Prop where
 nd:ts.Nodup
 hd:ts[0]?=some (bw C s t)
 mx:∀l∈ts,pK (bw C s t) l=true
 ln:ts.length<=50000
 ll:∀l∈ts,l.length<=100
theorem wy{d:Addr}{N:Mem}{l:List au}(e:N d=some (.dT (dg C s t ts))):kb N d (.tup (l.map kD))=some (if l∈ts then some (.str (C.ver s t l)) else none):=by
 unfold kb;simp only [e,kT,cW,pe]
theorem zi{D':DEnds}{EE:DX}{d:Addr}(o:C.Ok)(hs:SOk C s)(ht:SOk C t)(ea:C.mark s=.int a)(eb:C.mark t=.int b)(na:NaOk C s t ts)(hc:cs.length<=100)(h1:d≠k.a)(h2:d≠k.t)(hc0:cs∈ts)
  (hf:C.cau s t cs=false->D'.rt (.bl false) (aM ad k C s t (.tup [.int a,.int b]) [] (M.upd d (.dT (dg C s t ts)))))
  (hT:C.cau s t cs=true->(∀l∈cy cs,l∈ts/\C.cau s t l=false)/\∀us',D'.rt (.bl true) (aM ad k C s t (.tup [.int a,.int b]) us' (M.upd d (.dT (dg C s t ts))))):
  lX ad EE D' [some (aZ C s t),some (oV C s t ts cs),some (.ref k.a),some (mxD (bw C s t)),some (.ref d)] (aM ad k C s t (.tup [.int a,.int b]) [] (M.upd d (.dT (dg C s t ts)))):=by
 have hmx:∀l,mxD l=.lst (l.map kD):=fun _=>rfl;have hN:∀us,aM ad k C s t (.tup [.int a,.int b]) us (M.upd d (.dT (dg C s t ts))) d=some (.dT (dg C s t ts)):=fun us=>by
  unfold aM;rw [ah h2,ah h1,Mem.upd_same]
 have la:(askD C s t ts).length=ts.length:=by simp [askD]
 unfold lX;generalize hK2:pf ad EE=K2;simp only [aB,bC,aE,az,uT,aa,bR,a9,dNil,dC,List.getElem?_cons_succ,List.getElem?_cons_zero,Cg,hN,true_and,oV,bz,b_,atI_1,hmx,cTuple,seqL,wy (hN _),if_pos hc0];show bZ 60 (.str _)=true/\bZ 60 (.str _)=true/\_;refine ⟨rfl,rfl,?_⟩;have ev:(!aN (dv (aM ad k C s t (.tup [.int a,.int b]) [] (M.upd d (.dT (dg C s t ts)))) (.str (C.ver s t cs))) (dv (aM ad k C s t (.tup [.int a,.int b]) [] (M.upd d (.dT (dg C s t ts)))) (.str "faulty")))=!C.cau s t cs:=by simp [dv,aN,Cse.cau]
 rw [ev];cases c:C.cau s t cs with
 |false=>exact hf c
 |true=>
  obtain ⟨g1,g2⟩:=hT c;show if (false:Bool)=true then _ else _
  rw [if_neg (by simp)]
  show bf _ _ _;unfold bf;dsimp only;rw [<- hK2];unfold pf;generalize hK1:pF ad EE=K1;simp only [aB,bC,fi,bR,a9,ax,bq,dh,aC,az,aa,dNil,dC,List.getElem?_cons_succ,List.getElem?_cons_zero,bz,b_,atI_1];rw [<- hmx];refine ⟨rfl,calls_of fun Q' E' hq _=>gc (by lia) fun p hp=>hq _ _ (frzN hp ?_)⟩
  simp only [b_,srcOf,cj,List.map_cons,List.map_nil,List.cons_append,List.nil_append,List.getElem?_cons_succ,List.getElem?_cons_zero,Option.join_some];have ll:(cy cs).length=cs.length:=by simp [cy]
  refine eF (fun _=>.bl false) bS (by simp;lia) (fun x hx K q=>?_) ?_
  ·obtain ⟨l,hl',rfl⟩:=List.mem_map.mp hx
   obtain ⟨q1,q2⟩:=g1 l hl';simp only [az,wJ,aa,bR,a9,dNil,dC,List.getElem?_cons_succ,List.getElem?_cons_zero,Cg,hN,true_and,hmx,cTuple,seqL,wy (hN _),if_pos q1];show bZ 60 (.str _)=true/\bZ 60 (.str _)=true/\_;refine ⟨rfl,rfl,?_⟩;have ev:aN (dv (aM ad k C s t (.tup [.int a,.int b]) [] (M.upd d (.dT (dg C s t ts)))) (.str (C.ver s t l))) (dv (aM ad k C s t (.tup [.int a,.int b]) [] (M.upd d (.dT (dg C s t ts)))) (.str "faulty"))=C.cau s t l:=by simp [dv,aN,Cse.cau]
   rw [ev,q2];exact q
  ·intro p2 hp2
   have e:((cy cs).map mxD).map (fun _=>D.bl false)=((cy cs).map fun _=>false).map D.bl:=by simp
   have e2:((cy cs).map fun _=>false).any id=false:=by simp
   rw [e];refine frzN hp2 ?_;simp only [wm,seqL,cX,e2,Bx];rw [if_neg (by simp)]
   unfold bf;dsimp only;rw [<- hK1];unfold pF;simp only [aX,bR,a9,ax,bq,dh,az,aa,dNil,dC,List.getElem?_cons_succ,List.getElem?_cons_zero,bz,b_,atI_0,srcOf,cj,List.map_cons,List.map_nil,List.cons_append,List.nil_append,Option.join_some];refine tS o hs ht ea eb (by have:=na.ln;simp;lia) fun us' p3 hp3=>?_
   have e3:(ts.map fun _=>D.bl true)=(ts.map fun _=>true).map D.bl:=by simp
   have e4:(ts.map fun _=>true).all id=true:=by simp
   rw [e3];refine frzN hp3 ?_;simp only [pV,seqL,cX,e4];exact g2 us'
theorem jx(o:C.Ok)(hs:SOk C s)(ht:SOk C t)(ea:C.mark s=.int a)(eb:C.mark t=.int b)(hab:a≠b)(hu:(bw C s t).length<=100)(na:NaOk C s t ts)(hc:cs.length<=100)(hc0:cs∈ts)
  (hf:C.cau s t cs=false->Q (.bl false) M) (hT:C.cau s t cs=true->(∀l∈cy cs,l∈ts/\C.cau s t l=false)/\Q (.bl true) M):vK ad [aZ C s t,oV C s t ts cs] M Q E:=by
 have hmx:∀l,mxD l=.lst (l.map kD):=fun _=>rfl;have la:(askD C s t ts).length=ts.length:=by simp [askD]
 have f2:∀{M:Mem} {Q:DK} {l:List au},Q (mxD l) M->frz (mxD l) M Q:=fun h=>h;have fb:∀{M:Mem} {Q:DK} {b:Bool},Q (.bl b) M->frz (.bl b) M Q:=fun h=>h;have t0:ts≠[]:=fun e=>by have:=na.hd;rw [e] at this;simp at this
 rw [u_q7 (n:=0)];unfold uI;generalize hK7:pI ad (aS E)=K7;simp! [];intro x hx;refine calls_of fun Q2 E2 hq2 _=>lA hx o hs ht ea eb hab fun k hk hkt=>hq2 _ _ ?_;subst hk;simp! [];rw [<- hK7];unfold pI wW vo vf;generalize hK3:lX ad (aS E)=K3;simp only [aB,bd,ax,aC,a9,aa,dNil,List.getElem?_cons_succ,List.getElem?_cons_zero];refine ⟨rfl,jb o hs ht ?_⟩;simp only [ao,List.set,bC,oO,fi,ax,aC,a9,aa,dNil,List.getElem?_cons_succ,List.getElem?_cons_zero];refine ⟨rfl,aQ (fun _ _ q=>m8 t0 (by have:=na.ln;lia) (fun l hl=>by have:=na.ll l hl;lia) (by lia) (by lia) (na.mx cs hc0) na.mx q) (fb ?_)⟩
 simp only [Bx,Bool.not_true,Bool.false_eq_true,if_false,bf,bR,bq,dh,az,dC,aa,oV,bz,b_,atI_0,List.getElem?_cons_succ,List.getElem?_cons_zero,srcOf,cj,List.map_cons,List.map_nil,List.cons_append,List.nil_append];have ea0:∀us,askD C s t us=us.map fun l=>.tup [mxD l,.str (C.ver s t l)]:=fun _=>rfl;refine bQ (fun xs acc δ N=>∃(l1 l2:List (List au)) (c0 c1:Option D),ts=l1++l2/\xs=askD C s t l2/\acc=l1.map (fun l=>.tup [.tup (l.map kD),.str (C.ver s t l)])/\δ=[c0,c1]/\N=aM ad k C s t (.tup [.int a,.int b]) [] M) (fun _ _ _ _ _=>bS) ?_ ?_ ?_ _ _ _ _ ⟨[],ts,none,none,rfl,rfl,rfl,rfl,rfl⟩
 ·rintro acc δ N ⟨l1,l2,c0,c1,e1,e2,rfl,rfl,rfl⟩
  have:l2=[]:=by cases l2 with|nil=>rfl|cons _ _=>simp [askD] at e2
  subst this;rw [List.append_nil] at e1;subst e1;intro p hp;have ft:=rj (C:=C) (s:=s) (t:=t) ts [] (by simpa using na.nd)
  have ft':(dg C s t ts).foldl (fun a p=>di a p.1 p.2) []=dg C s t ts:=ft;refine frzN hp ?_;simp only [dNil,kS,AQ,seqL,ud,true_and,ft'];refine ⟨by simp only [dg,List.length_map];have:=na.ln;lia,fun d hd=>?_⟩
  obtain ⟨n1,n2,n3⟩:=ze hd;rw [yl n1 n2];have hN:aM ad k C s t (.tup [.int a,.int b]) [] (M.upd d (.dT (dg C s t ts))) d=some (.dT (dg C s t ts)):=by
   unfold aM;rw [ah n2,ah n1,Mem.upd_same]
  have sb:∀us,∀x o,M x=some o->aM ad k C s t (.tup [.int a,.int b]) us (M.upd d (.dT (dg C s t ts))) x=some o:=fun us x o e=>by
   have q1:x≠d:=fun z=>by rw [z,n3] at e;cases e
   have q2:x≠k.a:=fun z=>by rw [z,hx] at e;cases e
   have q3:x≠k.t:=fun z=>by rw [z,hkt] at e;cases e
   unfold aM;rw [ah q3,ah q2,ah q1];exact e
  have tl:(dg C s t ts).length=ts.length:=by simp [dg]
  have a0:(askD C s t ts)[0]?=some (.tup [mxD (bw C s t),.str (C.ver s t (bw C s t))]):=by rw [ea0,List.getElem?_map,na.hd];rfl
  simp only [ao,List.set,aB,bC,u6,aE,bR,a9,aa,dNil,az,dC,List.getElem?_cons_succ,List.getElem?_cons_zero,rg,cG,b_,hN,atI_0,tl,la];show bZ 60 (.int _)=true/\bZ 60 (.int _)=true/\_;refine ⟨rfl,rfl,?_⟩;have ev:∀(N:Mem) (n:Int),(!aN (dv N (.int n)) (dv N (.int n)))=false:=fun N n=>by simp [dv,aN]
  rw [la,ev];dsimp only;rw [if_neg (by simp)]
  simp only [oO,fi,ax,aC,a9,aa,dNil,az,dC,List.getElem?_cons_succ,List.getElem?_cons_zero,bz,b_,atI_0,a0];refine ⟨rfl,aQ (fun _ _ q=>qN (n:=21) (by lia) q) ?_⟩
  simp only [frz,Bx,decide_true,Bool.not_true,Bool.false_eq_true,if_false];show bf _ _ _;unfold bf;dsimp only;rw [<- hK3];exact zi o hs ht ea eb na hc n1 n2 hc0 (fun q=>⟨M,sb _,hf q⟩) fun q=>⟨(hT q).1,fun us'=>⟨M,sb _,(hT q).2⟩⟩
 ·rintro x xs acc δ N ⟨l1,l2,c0,c1,e1,e2,rfl,rfl,rfl⟩ N' hN' _
  cases l2 with
  |nil=>simp [askD] at e2
  |cons y l2=>
   simp only [askD,List.map_cons,List.cons.injEq] at e2;obtain ⟨rfl,rfl⟩:=e2;have hl2:=congrArg List.length e1;simp only [List.length_append,List.length_cons] at hl2;have:=na.ln;simp! [hmx];exact ⟨szl (by decide),hN' _ _ _ (by rw [List.length_map];exact szs (by lia)) ⟨l1++[y],l2,_,_,by simp [e1],rfl,by simp,rfl,rfl⟩⟩
 ·rintro x xs acc δ N ⟨l1,l2,c0,c1,e1,e2,rfl,rfl,rfl⟩
  have hl2:=congrArg List.length e1;simp only [List.length_append] at hl2;have:=na.ln;rw [List.length_map];exact szs (by lia)
end
end Tw
namespace Tw
open PySem L2 L3
theorem uB{l all:List au}(h:l.Sublist all)(nd:all.Nodup):pK all l=true:=by
 unfold pK;rw [qu h nd];simp
section
variable {all ks:List au}{ts:List (List au)}
theorem Naf.ok{C:Cse}{s t:Sta}(o:C.Ok)(h:Naf (bw C s t) ts)(hl:ts.length<=50000)(hu:(bw C s t).length<=100):NaOk C s t ts:=
 ⟨h.nd,h.hd,fun l hl=>uB (h.sb l hl) (yW o),hl,fun l hl=>Nat.le_trans (h.sb l hl).length_le hu⟩
end
end Tw
namespace Tw
open PySem L2 L3
def Tst(p:List au->Bool)(ts:List (List au))(ks:List au)(i:Nat):Prop:=ks.take i++ks.drop (i+1)∈ts/\p (ks.take i++ks.drop (i+1))=false
section
variable {p:List au->Bool}
theorem Tst.add{ts:List (List au)}{ks l:List au}{i:Nat}(h:Tst p ts ks i):Tst p (bM ts l) ks i:=⟨gk h.1,h.2⟩
theorem mB:∀(n:Nat) (ks:List au) (ts:List (List au)),p ks=true->ks∈ts->p (dA p n ks ts).1=true/\(dA p n ks ts).1∈(dA p n ks ts).2
 |0,ks,ts,h1,h2=>⟨h1,h2⟩
 |n+1,ks,ts,h1,h2=>by
  unfold dA
  split
  ·split
   ·rename_i q;exact mB n _ _ q gh
   ·split
    ·rename_i q;exact mB n _ _ q gh
    ·exact ⟨h1,gk (gk h2)⟩
  ·exact ⟨h1,h2⟩
theorem lJ:∀(f at0 st:Nat) (ks:List au) (ts:List (List au)),iP ks st<=f->st<=ks.length->at0<=ks.length->p ks=true->ks∈ts->(∀j,j<st->Tst p ts ks ((at0+ks.length-1-j) % ks.length))->
  p (d7 p f at0 st ks ts).1=true/\(d7 p f at0 st ks ts).1∈(d7 p f at0 st ks ts).2/\(∀i,i<(d7 p f at0 st ks ts).1.length->Tst p (d7 p f at0 st ks ts).2 (d7 p f at0 st ks ts).1 i)/\(d7 p f at0 st ks ts).2.length<=ts.length+f
 |f,at0,st,ks,ts,hf,h1,h2,hp,hm,ht=>by
  have stop:¬st<ks.length->∀i,i<ks.length->Tst p ts ks i:=fun c i hi=>by
   have e:st=ks.length:=by lia
   have hj:(at0+ks.length-1-i) % ks.length<ks.length:=Nat.mod_lt _ (by lia)
   have:=ht ((at0+ks.length-1-i) % ks.length) (by lia)
   have e2:(at0+ks.length-1-(at0+ks.length-1-i) % ks.length) % ks.length=i:=by
    have q:=Nat.div_add_mod (at0+ks.length-1-i) ks.length;have e3:at0+ks.length-1-(at0+ks.length-1-i) % ks.length=i+ks.length*((at0+ks.length-1-i) / ks.length):=by lia
    rw [e3,Nat.add_mul_mod_self_left,Nat.mod_eq_of_lt hi]
   rw [e2] at this;exact this
  match f with
  |0=>
   have c:¬st<ks.length:=fun z=>by
    unfold iP at hf;have:1<=ks.length*ks.length:=Nat.mul_pos (by lia) (by lia)
    lia
   unfold d7;exact ⟨hp,hm,stop c,by dsimp only;lia⟩
  |f+1=>
   unfold d7
   by_cases c:st<ks.length
   ·rw [if_pos c]
    have hm':at0 % ks.length<ks.length:=Nat.mod_lt _ (by lia)
    have lL:(ks.take (at0 % ks.length)++ks.drop (at0 % ks.length+1)).length=ks.length-1:=by simp only [List.length_append,List.length_take,List.length_drop];lia
    have al:=cm (ts:=ts) (ks:=ks.take (at0 % ks.length)++ks.drop (at0 % ks.length+1));have p1:iP (ks.take (at0 % ks.length)++ks.drop (at0 % ks.length+1)) 0<=f:=by
     unfold iP at hf ⊢;rw [lL];obtain ⟨n,hn⟩:∃n,ks.length=n+1:=⟨ks.length-1,by lia⟩
     rw [hn] at hf c ⊢;simp only [Nat.add_sub_cancel];have:(n+1)*(n+1)=n*n+2*n+1:=by rw [Nat.add_mul,Nat.mul_add];lia
     lia
    have p2:iP ks (st+1)<=f:=by
     unfold iP at hf ⊢;have:1<=ks.length*ks.length:=Nat.mul_pos (by lia) (by lia)
     lia
    by_cases q:p (ks.take (at0 % ks.length)++ks.drop (at0 % ks.length+1))=true
    ·rw [if_pos q]
     obtain ⟨r1,r2,r3,r4⟩:=lJ f (at0 % ks.length) 0 _ (bM ts (ks.take (at0 % ks.length)++ks.drop (at0 % ks.length+1))) p1 (Nat.zero_le _) (by lia) q gh fun j hj=>absurd hj (Nat.not_lt_zero _)
     exact ⟨r1,r2,r3,by lia⟩
    ·rw [if_neg q]
     obtain ⟨r1,r2,r3,r4⟩:=lJ f (at0 % ks.length+1) (st+1) ks (bM ts (ks.take (at0 % ks.length)++ks.drop (at0 % ks.length+1))) p2 (by lia) (by lia) hp (gk hm) fun j hj=>by
      cases j with
      |zero=>
       have e:(at0 % ks.length+1+ks.length-1-0) % ks.length=at0 % ks.length:=by
        rw [show at0 % ks.length+1+ks.length-1-0=at0 % ks.length+ks.length by lia,Nat.add_mod_right,Nat.mod_mod]
       rw [e];exact ⟨gh,by simpa using q⟩
      |succ j=>
       have e:(at0 % ks.length+1+ks.length-1-(j+1)) % ks.length=(at0+ks.length-1-j) % ks.length:=by
        rw [show at0 % ks.length+1+ks.length-1-(j+1)=at0 % ks.length+(ks.length-1-j) by lia,show at0+ks.length-1-j=at0+(ks.length-1-j) by lia,Nat.mod_add_mod]
       rw [e];exact (ht j (by lia)).add
     exact ⟨r1,r2,r3,by lia⟩
   ·rw [if_neg c]
    exact ⟨hp,hm,stop c,by dsimp only;lia⟩
end
section
variable {C:Cse}{s t:Sta}
theorem yq(o:C.Ok)(hs:SOk C s)(ht:SOk C t):dY C s t (bw C s t)=t:=by
 have key:∀k∈mG C,bu C (if k∈bw C s t then t else s) k=bu C t k:=fun k hk=>by
  by_cases c:k∈bw C s t
  ·rw [if_pos c]
  ·rw [if_neg c]
   by_cases e:bu C s k=bu C t k
   ·exact e
   ·exact absurd (List.mem_filter.mpr ⟨hk,by simpa using e⟩) c
 have e1:t.nums=C.names.map fun x=>bu C t (.inr x):=by
  refine List.ext_getElem? fun i=>?_;rw [List.getElem?_map];cases e:C.names[i]? with
  |none=>
   have:=List.getElem?_eq_none_iff.mp e;rw [List.getElem?_eq_none (by rw [ht.ln];exact this)]
   rfl
  |some x=>rw [qh o.nd ht.ln.symm e];rfl
 have e2:t.pieces=(List.range C.many).map fun (i:Nat)=>bu C t (.inl (i:Int)):=by
  refine List.ext_getElem? fun i=>?_;rw [List.getElem?_map]
  by_cases c:i<C.many
  ·have e:=List.getElem?_eq_getElem (l:=t.pieces) (i:=i) (by rw [ht.lp];exact c)
   rw [List.getElem?_range c,e];simp [bu,e]
  ·rw [List.getElem?_eq_none (by rw [ht.lp];lia),List.getElem?_eq_none (by simp;lia)]
   rfl
 unfold dY;have e3:(C.names.map fun x=>bu C (if Sum.inr x∈bw C s t then t else s) (.inr x))=t.nums:=by
  rw [e1];exact List.map_congr_left fun x hx=>key _ (List.mem_append.mpr (.inl (List.mem_map.mpr ⟨x,hx,rfl⟩)))
 have e4:((List.range C.many).map fun (i:Nat)=>bu C (if Sum.inl (i:Int)∈bw C s t then t else s) (.inl (i:Int)))=t.pieces:=by
  rw [e2];exact List.map_congr_left fun i hi=>key _ (List.mem_append.mpr (.inr (List.mem_map.mpr ⟨i,hi,rfl⟩)))
 rw [e3,e4]
theorem yI(o:C.Ok)(hs:SOk C s)(ht:SOk C t){a b:Int}(ea:C.mark s=.int a)(eb:C.mark t=.int b)(hab:a≠b):C.cau s t (bw C s t)=true:=by
 unfold Cse.cau Cse.ver;rw [yq o hs ht,ea,eb];simp only [aN,decide_eq_true_eq,Ne.symm hab,if_false,decide_true,if_true]
theorem fY(o:C.Ok)(hs:SOk C s)(ht:SOk C t){a b:Int}(ea:C.mark s=.int a)(eb:C.mark t=.int b)(hab:a≠b):
  C.cau s t (C.nar s t).1=true/\(C.nar s t).1∈(C.nar s t).2/\(∀l∈cy (C.nar s t).1,l∈(C.nar s t).2/\C.cau s t l=false)/\(C.nar s t).2.length<=(bw C s t).length*(bw C s t).length+3*(bw C s t).length+2:=by
 obtain ⟨h1,h2⟩:=mB (p:=C.cau s t) (bw C s t).length (bw C s t) [bw C s t] (yI o hs ht ea eb hab) (by simp)
 obtain ⟨l1,l2⟩:=g7 (p:=C.cau s t) (bw C s t).length (bw C s t) [bw C s t];obtain ⟨r1,r2,r3,r4⟩:=lJ (p:=C.cau s t) (iP (C.hal s t).1 0) 0 0 (C.hal s t).1 (C.hal s t).2 (Nat.le_refl _) (Nat.zero_le _) (Nat.zero_le _) h1 h2 fun j hj=>absurd hj (Nat.not_lt_zero _);refine ⟨r1,r2,fun l hl=>?_,?_⟩
 ·simp only [cy,List.mem_map,List.mem_range] at hl
  obtain ⟨i,hi,rfl⟩:=hl;exact r3 i hi
 ·have q1:(C.hal s t).1.length<=(bw C s t).length:=l1
  have q2:(C.hal s t).2.length<=1+2*(bw C s t).length:=by
   have z:(C.hal s t).2.length<=[bw C s t].length+2*(bw C s t).length:=l2;simpa using z
  have q3:iP (C.hal s t).1 0<=(bw C s t).length*(bw C s t).length+(bw C s t).length:=by
   unfold iP;have:=Nat.mul_le_mul q1 q1;lia
  have q4:(C.nar s t).2.length<=(C.hal s t).2.length+iP (C.hal s t).1 0:=r4;lia
end
end Tw
namespace L3
open PySem L2
mutual
def sz:D->Nat
 |.tup xs=>5+xk xs
 |.lst xs=>5+xk xs
 |.str _=>60
 |_=>2000
def xk:List D->Nat
 |[]=>0
 |x::xs=>sz x+2+xk xs
end
theorem nu:∀xs:List D,(∀x∈xs,(cQ x).showable=true)->PyData.showableAll (dk xs)=true
 |[],_=>by simp only [dk,PyData.showableAll]
 |x::xs,h=>by simp only [dk,PyData.showableAll,h x (by simp),nu xs fun y hy=>h y (List.mem_cons_of_mem _ hy),Bool.and_self]
theorem gb{n:Nat}:∀xs:List D,(∀x∈xs,bZ n x=true)->fits n xs=true
 |[],_=>by simp [fits]
 |x::xs,h=>by simp [fits,h x (by simp),gb xs fun y hy=>h y (List.mem_cons_of_mem _ hy)]
theorem ki:∀xs:List D,(∀x∈xs,(cQ x).shown.length<=sz x)->piled (PyData.shownAll (dk xs))<=xk xs
 |[],_=>by simp [dk,PyData.shownAll,piled,xk]
 |x::xs,h=>by
  have h1:=h x (by simp)
  have h2:=ki xs fun y hy=>h y (List.mem_cons_of_mem _ hy);simp only [dk,PyData.shownAll,xk];simp [piled] at h2 ⊢;lia
end L3
namespace Tw
open PySem L2 L3
def ShN(n:Nat)(d:D):Prop:=bZ n d=true/\(cQ d).showable=true/\(cQ d).shown.length<=sz d
theorem zb{n:Nat}{i:Int}(h:i.natAbs.log2<1920):ShN n (.int i):=⟨by cases n<;>rfl,by simp only [cQ,PyData.showable,decide_eq_true_eq];exact h,by simp only [cQ,PyData.shown,sz];exact Nat.le_trans (PyProof.Rows.int_text_len_1921 h) (by decide)⟩
theorem s_{i:Int}(h0:0<=i)(h1:i<=1000):i.natAbs.log2<1920:=Nat.lt_of_le_of_lt (Nat.log2_le_self _) (by lia)
end Tw
namespace Tw
open PySem L2 L3
def ir:List (List Nat)->List Nat
 |[]=>[]
 |[w]=>w
 |w::v::r=>w++44::32::ir (v::r)
theorem jz:∀(a b:List Nat) {x y:List Nat},44∉a->44∉b->a++44::x=b++44::y->a=b/\x=y
 |[],[],_,_,_,_,h=>by simpa using h
 |[],c::b,_,_,_,hb,h=>by simp at h;exact absurd (by simp [<- h.1]) hb
 |c::a,[],_,_,ha,_,h=>by simp at h;exact absurd (by simp [h.1]) ha
 |c::a,d::b,_,_,ha,hb,h=>by
  simp only [List.cons_append,List.cons.injEq] at h;obtain ⟨rfl,h⟩:=h;obtain ⟨e,f⟩:=jz a b (fun z=>ha (List.mem_cons_of_mem _ z)) (fun z=>hb (List.mem_cons_of_mem _ z)) h;exact ⟨by rw [e],f⟩
theorem mJ:∀(a b:List (List Nat)),(∀w∈a,44∉w/\w≠[])->(∀w∈b,44∉w/\w≠[])->ir a=ir b->a=b
 |[],[],_,_,_=>rfl
 |[],[w],_,hb,h=>absurd h.symm (hb w (by simp)).2
 |[],w::v::r,_,_,h=>by simp [ir] at h
 |[w],[],ha,_,h=>absurd h (ha w (by simp)).2
 |w::v::r,[],_,_,h=>by simp [ir] at h
 |[w],[v],_,_,h=>by simp only [ir] at h;rw [h]
 |[w],v::u::r,ha,_,h=>by
  simp only [ir] at h;exact absurd (by rw [h];simp) (ha w (by simp)).1
 |w::u::r,[v],_,hb,h=>by
  simp only [ir] at h;exact absurd (by rw [<- h];simp) (hb v (by simp)).1
 |w::u::r,v::t::q,ha,hb,h=>by
  simp only [ir] at h;obtain ⟨e,f⟩:=jz w v (ha w (by simp)).1 (hb v (by simp)).1 h
  have:=mJ (u::r) (t::q) (fun x hx=>ha x (List.mem_cons_of_mem _ hx)) (fun x hx=>hb x (List.mem_cons_of_mem _ hx)) (by simpa using f)
  rw [e,this]
theorem iW(a b:Str):(a++b).cps.toList=a.cps.toList++b.cps.toList:=by
 show (a.cps++b.cps).toList=_;simp
theorem kd:∀ws:List Str,(PySem.Str.join ", " ws).cps.toList=ir (ws.map (·.cps.toList))
 |[]=>by unfold Str.join;rfl
 |[w]=>by unfold Str.join;rfl
 |w::v::r=>by
  have ih:=kd (v::r);unfold Str.join;have e:((", ":String):Str).cps.toList=[44,32]:=by decide +kernel
  rw [iW,iW,ih,e];simp [ir]
def tx(k:au):List Nat:=(cQ (kD k)).shown.cps.toList
theorem DJ:∀i<40,(44∉tx (.inl ((i:Nat):Int))/\tx (.inl ((i:Nat):Int))≠[]):=by decide +kernel
theorem BE:∀i<40,∀j<40,tx (.inl ((i:Nat):Int))=tx (.inl ((j:Nat):Int))->i=j:=by decide +kernel
def Pc(k:au):Prop:=∃i:Nat,i<40/\k=.inl (i:Int)
theorem wg:∀l:List au,(PyData.shownAll (dk (l.map kD))).map (·.cps.toList)=l.map tx
 |[]=>by simp [dk,PyData.shownAll]
 |k::l=>by simp only [List.map_cons,dk,PyData.shownAll,wg l];rfl
theorem tw{l m:List au}(hl:∀k∈l,Pc k)(hm:∀k∈m,Pc k)(h:(cQ (mxD l)).shown=(cQ (mxD m)).shown):l=m:=by
 have tt:∀l:List au,(cQ (mxD l)).shown.cps.toList=91::(ir (l.map tx)++[93]):=fun l=>by
  show (listText (PyData.shownAll (dk (l.map kD)))).cps.toList=_;rw [listText_eq_join,iW,iW,kd,wg];have e1:(("[":String):Str).cps.toList=[91]:=by decide +kernel
  have e2:(("]":String):Str).cps.toList=[93]:=by decide +kernel
  rw [e1,e2];rfl
 have h2:=congrArg (fun x:Str=>x.cps.toList) h;simp only [tt,List.cons.injEq,true_and] at h2;have h3:=List.append_cancel_right h2;have ok:∀l:List au,(∀k∈l,Pc k)->∀w∈l.map tx,44∉w/\w≠[]:=fun l hl w hw=>by
  obtain ⟨k,hk,rfl⟩:=List.mem_map.mp hw;obtain ⟨i,hi,rfl⟩:=hl k hk;exact DJ i hi
 have h4:=mJ _ _ (ok l hl) (ok m hm) h3;have inj:∀(a b:List au),(∀k∈a,Pc k)->(∀k∈b,Pc k)->a.map tx=b.map tx->a=b:=by
  intro a
  induction a with
  |nil=>
   intro b _ _ h;cases b with
   |nil=>rfl
   |cons _ _=>cases h
  |cons x a ih=>
   intro b ha hb h;cases b with
   |nil=>cases h
   |cons y b=>
    simp only [List.map_cons,List.cons.injEq] at h;obtain ⟨i,hi,rfl⟩:=ha x (by simp)
    obtain ⟨j,hj,rfl⟩:=hb y (by simp)
    have:=BE i hi j hj h.1;subst this;rw [ih b (fun k hk=>ha k (List.mem_cons_of_mem _ hk)) (fun k hk=>hb k (List.mem_cons_of_mem _ hk)) h.2]
 exact inj l m hl hm h4
theorem oi{K:Type}[DecidableEq K]:∀(r l:List K),(l++r).Nodup->LS.ka l r=l++r
 |[],l,_=>by simp [LS.ka]
 |x::r,l,h=>by
  unfold LS.ka;have hx:x∉l:=fun z=>by
   have:=(List.nodup_append.mp h).2.2 x z x (by simp)
   exact this rfl
  rw [if_neg hx,oi r (l++[x]) (by simpa using h)]
  simp
theorem tO{ts:List (List au)}(nd:ts.Nodup)(hp:∀l∈ts,∀k∈l,Pc k):LS.ka [] (ts.map fun l=>(cQ (mxD l)).shown)=ts.map fun l=>(cQ (mxD l)).shown:=by
 rw [oi,List.nil_append];rw [List.nil_append];have:∀ts:List (List au),ts.Nodup->(∀l∈ts,∀k∈l,Pc k)->(ts.map fun l=>(cQ (mxD l)).shown).Nodup:=by
  intro ts
  induction ts with
  |nil=>intro _ _;simp
  |cons l ts ih=>
   intro nd hp;obtain ⟨n1,n2⟩:=List.nodup_cons.mp nd;rw [List.map_cons,List.nodup_cons];refine ⟨fun z=>?_,ih n2 fun m hm=>hp m (List.mem_cons_of_mem _ hm)⟩;obtain ⟨m,hm,e⟩:=List.mem_map.mp z;have:=tw (hp m (List.mem_cons_of_mem _ hm)) (hp l (by simp)) e
   subst this;exact n1 hm
 exact this ts nd hp
end Tw
namespace Tw
open PySem L2 L3
theorem gD{rs:List Rw}:(bc rs).length=rs.length:=by rw [eT];simp
theorem fE{rs:List Rw}{r:Rw}:bc (rs++[r])=bc rs++[r.d]:=by rw [eT,eT];simp
section
variable {ad:Ad}{M:Mem}{Q:DK}{E:DX}{k:Pt}{b:Nat}
structure Lo(k:Pt)(b:Nat)(M:Mem)(l:Addr)(xs:List D)(N:Mem):Prop where
 has:Has k b N
 np:l≠k.p
 nq:l≠k.q
 fr:M l=none
 kp:∀x,x≠k.p->x≠k.q->x≠l->N x=M x
 at':N l=some (.lst xs)
variable {c:Nat}{N N':Mem}{l:Addr}{xs ys:List D}
theorem zZ(h0:Has k c M)(d:Dr k b M N)(hl:N l=none):Lo k b M l xs (N.upd l (.lst xs)):=by
 have ne:=d.1.nep hl;exact ⟨d.1.upd ne,ne.1,ne.2,by rw [<- d.2 l ne.1 ne.2];exact hl,fun x h1 h2 n=>by rw [ah n];exact d.2 x h1 h2,Mem.upd_same⟩
theorem Lo.dr(h:Lo k b M l xs N)(d:Dr k c N N'):Lo k c M l xs N':=
 ⟨d.1,h.np,h.nq,h.fr,fun x h1 h2 n=>by rw [d.2 x h1 h2];exact h.kp x h1 h2 n,by rw [d.2 l h.np h.nq];exact h.at'⟩
theorem Lo.put(h:Lo k b M l xs N):Lo k b M l ys (N.upd l (.lst ys)):=
 ⟨h.has.upd ⟨h.np,h.nq⟩,h.np,h.nq,h.fr,fun x h1 h2 n=>by rw [ah n];exact h.kp x h1 h2 n,Mem.upd_same⟩
theorem Lo.le(h:Lo k b M l xs N)(e:c<=b):Lo k c M l xs N:=⟨h.has.le e,h.np,h.nq,h.fr,h.kp,h.at'⟩
theorem Lo.fin(h:Lo k b M l xs N):Dr k b M (N.del l)/\∀x o,(N.del l) x=some o->N x=some o:=by
 have fd:∀x,x≠l->(N.del l) x=N x:=fun x hx=>by unfold Mem.del;rw [if_neg hx]
 obtain ⟨cells,t',hh,a1,a2,a3,e1,e2⟩:=h.has;refine ⟨⟨⟨cells,t',hh,a1,a2,a3,by rw [fd _ (Ne.symm h.np)];exact e1,by rw [fd _ (Ne.symm h.nq)];exact e2⟩,fun x h1 h2=>?_⟩,fun x o e=>?_⟩
 ·by_cases c:x=l
  ·subst c;unfold Mem.del;rw [if_pos rfl,h.fr]
  ·rw [fd x c];exact h.kp x h1 h2 c
 ·by_cases c:x=l
  ·subst c;unfold Mem.del at e;rw [if_pos rfl] at e;cases e
  ·rw [fd x c] at e;exact e
theorem Lo.drp{Q:DK}{d:D}(h:Lo k b M l xs N)(q:∀M',Dr k b M M'->Q d M'):L3.drp Q d N:=⟨N.del l,h.fin.2,q _ h.fin.1⟩
theorem vc{te:bH}{items:List D}{Q:List D->Mem->Prop}{bx:BxC (ao 0) cv te (DIt.ok ⟨items,[]⟩) Q}{rest:Dl}{c0:Option D}{xs:List D}(c:Nat)(P:D->D->Prop)(hl:xs.length<=100000)(hp:Has k (b+c*xs.length) M)
  (he:∀x∈xs,∀N b',Dr k (b'+c) M N->∀K:DK,(∀y N',P x y->Dr k b' N N'->K y N')->te (some x::rest) N K) (h:∀ys N,ys.length=xs.length->(∀(i:Nat) x y,xs[i]?=some x->ys[i]?=some y->P x y)->Dr k b M N->Q ys N):
  cR (ao 0) cv te (DIt.ok ⟨items,[]⟩) Q bx xs [] (c0::rest) M:=by
 refine bQ (fun zs acc δ N=>∃(us:List D) (c0:Option D),xs=us++zs/\acc.length=us.length/\(∀(i:Nat) x y,us[i]?=some x->acc[i]?=some y->P x y)/\δ=c0::rest/\Dr k (b+c*zs.length) M N) (fun _ _ _ _ _=>bS) ?_ ?_ ?_ _ _ _ _ ⟨[],c0,rfl,rfl,by simp,rfl,hp.refl⟩
 ·rintro acc δ N ⟨us,c0,e1,e2,e3,rfl,d⟩
  rw [List.append_nil] at e1;subst e1;exact h acc N e2 e3 (by simpa using d)
 ·rintro y ys acc δ N ⟨us,c0,e1,e2,e3,rfl,d⟩ N' hN1 _
  have h2:=congrArg List.length e1;simp only [List.length_append,List.length_cons] at h2;have hy:y∈xs:=by rw [e1];simp
  have d':Dr k (b+c*ys.length+c) M N:=d.le (by rw [List.length_cons,Nat.mul_succ];lia)
  simp only [ao,List.set,cv,if_true];refine he y hy N _ d' _ fun z N2 hz d2=>hN1 _ _ _ (by rw [e2];exact szs (by lia)) ⟨us++[y],_,by simp [e1],by simp [e2],fun i u v q1 q2=>?_,rfl,d.trans d2⟩
  by_cases ci:i<us.length
  ·rw [List.getElem?_append_left ci] at q1
   rw [List.getElem?_append_left (by lia)] at q2
   exact e3 i u v q1 q2
  ·have:i=us.length:=by
    have:=(List.getElem?_eq_some_iff.mp q1).1;simp at this;lia
   subst this;rw [List.getElem?_append_right (Nat.le_refl _)] at q1;rw [List.getElem?_append_right (by lia)] at q2
   simp [e2] at q1 q2;rw [<- q1,<- q2];exact hz
 ·rintro y ys acc δ N ⟨us,c0,e1,e2,e3,rfl,d⟩
  have h2:=congrArg List.length e1;simp only [List.length_append] at h2;rw [e2];exact szs (by lia)
theorem jU{P:Int->Prop}:∀{ys:List D},(∀(i:Nat) y,ys[i]?=some y->∃v,y=D.int v/\P v)->∃vs:List Int,ys=vs.map D.int/\∀v∈vs,P v
 |[],_=>⟨[],rfl,by simp⟩
 |y::ys,h=>by
  obtain ⟨v,rfl,hv⟩:=h 0 y rfl;obtain ⟨vs,rfl,hvs⟩:=jU (P:=P) fun i z hz=>h (i+1) z (by simpa using hz)
  exact ⟨v::vs,rfl,fun u hu=>by rcases List.mem_cons.mp hu with rfl|q;exact hv;exact hvs u q⟩
end
section
variable {C:Cse}{s t:Sta}{ks:List au}
theorem t_{i:Nat}(hi:i<C.many):bu C (dY C s t ks) (.inl (i:Int))=bu C (if Sum.inl (i:Int)∈ks then t else s) (.inl (i:Int)):=by
 show ((dY C s t ks).pieces[(i:Int).toNat]?).getD 0=_;unfold dY;rw [Int.toNat_natCast,List.getElem?_map,List.getElem?_range hi];rfl
end
end Tw
namespace Tw
open PySem L2 L3
def stp(c:Cf)(n:gH)(r:Rw):gH:=sN n (xm r) (fg c n r)
def p5(c:Cf)(rs:List Rw)(n:gH):gH:=rs.foldl (stp c) n
theorem o7{c:Cf}:∀(rs:List Rw) (pl:List Int) (j:Nat) (s:Sx),(∀r∈rs,o9 r=true)->s.steps.length+rs.length<=c.most->(cV c rs pl j s).1=true/\(cV c rs pl j s).2.nums=p5 c rs s.nums
 |[],pl,j,s,_,_=>⟨by simp [cV],by simp [cV,p5]⟩
 |r::rs,pl,j,s,hr,hl=>by
  simp only [List.length_cons] at hl;have e:exR c r (pl++[(j:Int)]) s=(true,⟨sN s.nums (xm r) (fg c s.nums r),s.steps++[(pl++[(j:Int)],fg c s.nums r)]⟩):=by
   rw [ce (hr r (by simp))];unfold iy;rw [if_pos (by lia)]
  simp only [cV,e,if_true];exact o7 rs pl (j+1) _ (fun q hq=>hr q (List.mem_cons_of_mem _ hq)) (by simp;lia)
inductive JR(many:Nat)(v0:Int):List Rw->List Int->Prop
 |base:JR many v0 [.put "a" v0] []
 |take {rows gs i}:JR many v0 rows gs->0<=i->i<(many:Int)->JR many v0 (rows++[.take "b" i]) gs
 |by' {rows gs g}:JR many v0 rows gs->0<=g->g<(many:Int)->JR many v0 (rows++[.take "b" g,.two "by" "a" "a" "b"]) (gs++[g])
def k8(c:Cf)(g:Int):Int:=(c.pieces[g.toNat]?).getD 0
def qo(c:Cf)(v0:Int)(gs:List Int):Int:=gs.foldl (fun x g=>x*k8 c g % c.m) v0
section
variable {c:Cf}{n:gH}{x y:Str}{v:Int}{many:Nat}{v0:Int}{rows:List Rw}{gs:List Int}
theorem nF(h:x∈n.map (·.1)):nm (sN n x v) y=if y=x then v else nm n y:=by
 unfold nm;rw [DP h]
 split<;>rfl
theorem JR.nm(h:JR many v0 rows gs)(hk:n.map (·.1)=(["a","b"]:List Str)):Tw.nm (p5 c rows n) "a"=qo c v0 gs/\(p5 c rows n).map (·.1)=(["a","b"]:List Str):=by
 have ab:¬("a":Str)="b":=by decide +kernel
 have ba:¬("b":Str)="a":=by decide +kernel
 induction h with
 |base=>
  have e:p5 c [.put "a" v0] n=sN n "a" v0:=rfl;rw [e];refine ⟨?_,by rw [fU];exact hk⟩
  rw [nF (by rw [hk];simp),if_pos rfl]
  rfl
 |@take rows gs i _ _ _ ih=>
  obtain ⟨i1,i2⟩:=ih;have e:p5 c (rows++[.take "b" i]) n=sN (p5 c rows n) "b" (k8 c i):=by simp only [p5,List.foldl_append,List.foldl_cons,List.foldl_nil];rfl
  rw [e];refine ⟨?_,by rw [fU];exact i2⟩
  rw [nF (by rw [i2];simp),if_neg ab]
  exact i1
 |@by' rows gs g _ _ _ ih=>
  obtain ⟨i1,i2⟩:=ih;have e:p5 c (rows++[.take "b" g,.two "by" "a" "a" "b"]) n=stp c (sN (p5 c rows n) "b" (k8 c g)) (.two "by" "a" "a" "b"):=by simp only [p5,List.foldl_append,List.foldl_cons,List.foldl_nil];rfl
  rw [e];have i3:(sN (p5 c rows n) "b" (k8 c g)).map (·.1)=(["a","b"]:List Str):=by rw [fU];exact i2
  refine ⟨?_,by unfold stp;rw [fU];exact i3⟩
  show Tw.nm (sN (sN (p5 c rows n) "b" (k8 c g)) "a" (zD "by" (Tw.nm (sN (p5 c rows n) "b" (k8 c g)) "a") (Tw.nm (sN (p5 c rows n) "b" (k8 c g)) "b") c.m)) "a"=_;rw [nF (by rw [i3];simp),if_pos rfl,nF (by rw [i2];simp),if_neg ab,nF (by rw [i2];simp),if_pos rfl,i1]
  have s1:¬("by":Str)="sum":=by decide +kernel
  unfold zD;rw [if_neg s1,if_pos rfl];simp only [qo,List.foldl_append,List.foldl_cons,List.foldl_nil]
theorem JR.all(h:JR many v0 rows gs){w:Int}(h0:1<=v0)(h1:v0<w):∀r∈rows,j7 ["a","b"] w many r/\o9 r=true:=by
 induction h with
 |base=>
  intro r hr;rw [List.mem_singleton] at hr;subst hr;exact ⟨⟨by simp,by lia,by lia⟩,rfl⟩
 |@take rows gs i _ i0 i1 ih=>
  intro r hr;rcases List.mem_append.mp hr with q|q
  ·exact ih r q
  ·rw [List.mem_singleton] at q
   subst q;exact ⟨⟨by simp,i0,i1⟩,rfl⟩
 |@by' rows gs g _ i0 i1 ih=>
  intro r hr;rcases List.mem_append.mp hr with q|q
  ·exact ih r q
  ·simp only [List.mem_cons,List.not_mem_nil,or_false] at q
   rcases q with rfl|rfl
   ·exact ⟨⟨by simp,i0,i1⟩,rfl⟩
   ·exact ⟨⟨.inr (.inl rfl),by simp,by simp,by simp⟩,rfl⟩
theorem oU(hg:∃g∈gs,k8 c g=0):qo c v0 gs=0:=by
 have z:∀gs:List Int,gs.foldl (fun x g=>x*k8 c g % c.m) 0=0:=fun gs=>by
  induction gs with
  |nil=>rfl
  |cons g gs ih=>simp only [List.foldl_cons,Int.zero_mul,Int.zero_emod];exact ih
 unfold qo
 induction gs generalizing v0 with
 |nil=>obtain ⟨_,h,_⟩:=hg;simp at h
 |cons g gs ih=>
  rw [List.foldl_cons]
  by_cases e:k8 c g=0
  ·rw [e,Int.mul_zero,Int.zero_emod];exact z gs
  ·obtain ⟨g',h1,h2⟩:=hg
   rcases List.mem_cons.mp h1 with q|q
   ·subst q;exact absurd h2 e
   ·exact ih ⟨g',q,h2⟩
theorem A6:∀w∈[2,3,5,97,997],∀x<w,0<x->Nat.gcd w x=1:=by decide +kernel
theorem mul_pos{w x y:Int}(hw:w.toNat∈[2,3,5,97,997])(w0:0<w)(x0:1<=x)(x1:x<w)(y0:1<=y)(y1:y<w):1<=x*y % w/\x*y % w<w:=by
 refine ⟨?_,Int.emod_lt_of_pos _ w0⟩;have h0:=Int.emod_nonneg (x*y) (show w≠0 by lia)
 have:x*y % w≠0:=fun e=>by
  obtain ⟨x',rfl⟩:=Int.eq_ofNat_of_zero_le (show 0<=x by lia)
  obtain ⟨y',rfl⟩:=Int.eq_ofNat_of_zero_le (show 0<=y by lia)
  obtain ⟨w',rfl⟩:=Int.eq_ofNat_of_zero_le (show 0<=w by lia)
  rw [Int.toNat_natCast] at hw;have e2:x'*y' % w'=0:=by exact_mod_cast e
  have d:=Nat.dvd_of_mod_eq_zero e2;have co:Nat.Coprime w' x':=A6 w' hw x' (by lia) (by lia)
  have d2:=co.dvd_of_dvd_mul_left d;have:=Nat.le_of_dvd (by lia) d2
  lia
 lia
theorem y6(hw:c.m.toNat∈[2,3,5,97,997])(w0:0<c.m)(hv0:1<=v0)(hv1:v0<c.m)(hg:∀g∈gs,1<=k8 c g/\k8 c g<c.m):1<=qo c v0 gs/\qo c v0 gs<c.m:=by
 unfold qo
 induction gs generalizing v0 with
 |nil=>exact ⟨hv0,hv1⟩
 |cons g gs ih=>
  rw [List.foldl_cons];obtain ⟨g0,g1⟩:=hg g (by simp)
  obtain ⟨q0,q1⟩:=mul_pos hw w0 hv0 hv1 g0 g1;exact ih q0 q1 fun g' h=>hg g' (List.mem_cons_of_mem _ h)
theorem t9{c':Cf}(hm:c.m=c'.m)(hg:∀g∈gs,k8 c g=k8 c' g):qo c v0 gs=qo c' v0 gs:=by
 unfold qo
 induction gs generalizing v0 with
 |nil=>rfl
 |cons g gs ih=>
  have e:v0*k8 c g % c.m=v0*k8 c' g % c'.m:=by rw [hg g (by simp),hm]
  rw [List.foldl_cons,List.foldl_cons,e];exact ih fun g' h=>hg g' (List.mem_cons_of_mem _ h)
end
end Tw
namespace Tw
open PySem L2 L3
structure Jnt(C:Cse)(s t:Sta)(gs:List Int):Prop where
 o:C.Ok
 hs:SOk C s
 ht:SOk C t
 m40:C.many<=40
 nd:gs.Nodup
 g0:gs≠[]
 gl:gs.length<=3
 gr:∀g∈gs,0<=g/\g<(C.many:Int)
 un:bw C s t=(List.range C.many).map fun (i:Nat)=>Sum.inl (i:Int)
 cau:∀ks,C.cau s t ks=decide (∀g∈gs,(Sum.inl g:au)∈ks)
 e:∃a b:Int,C.mark s=.int a/\C.mark t=.int b/\a≠b
def dm(w:Int)(many:Nat)(rows:List Rw):Cse:=⟨w,many,["a","b"],rows,"a",30⟩
theorem v7{w v0:Int}{many:Nat}{rows:List Rw}{gs us:List Int}(hw:w.toNat∈[2,3,5,97,997])(w2:2<=w)(w1:w<=997)(m1:many<=40)(J:JR many v0 rows gs)(rl:rows.length<=30)(v1:1<=v0)(v2:v0<w)(nd:gs.Nodup)(g0:gs≠[])(gl:gs.length<=3)(gr:∀g∈gs,0<=g/\g<(many:Int))(lu:us.length=many)(ru:∀v∈us,1<=v/\v<w):
  Jnt (dm w many rows) ⟨[0,0],List.replicate many 0⟩ ⟨[0,0],us⟩ gs:=by
 have hall:=J.all v1 v2;have okr:∀rs:List Rw,(∀r∈rs,j7 ["a","b"] w many r)->gZ ["a","b"] w many rs/\m_ rs=0:=fun rs=>by
  induction rs with
  |nil=>intro _;exact ⟨trivial,rfl⟩
  |cons r rs ih=>
   intro h;obtain ⟨h1,h2⟩:=ih fun q hq=>h q (List.mem_cons_of_mem _ hq);have hrr:=h r (by simp)
   have:OkR ["a","b"] w many r/\hR r=0:=by
    cases r with
    |ifr=>exact hrr.elim
    |again=>exact hrr.elim
    |put=>exact ⟨hrr,rfl⟩
    |take=>exact ⟨hrr,rfl⟩
    |pick=>exact ⟨hrr,rfl⟩
    |two=>exact ⟨hrr,rfl⟩
   exact ⟨⟨this.1,h1⟩,by simp only [m_,this.2,h2];rfl⟩
 have ok2:=okr rows fun r h=>(hall r h).1;have o:(dm w many rows).Ok:=⟨w2,w1,by show many<=100;lia,by show (30:Nat)<=10000;decide,by show (["a","b"]:List Str).Nodup;decide +kernel,by show (0:Nat)<2;decide,by show (2:Nat)<=100;decide,ok2.1,by show m_ rows<=7;rw [ok2.2];decide,by show ("a":Str)∈(["a","b"]:List Str);simp⟩
 have z0:∀v∈([0,0]:List Int),0<=v/\v<w:=fun v h=>by simp at h;lia
 have hs:SOk (dm w many rows) ⟨[0,0],List.replicate many 0⟩:=⟨rfl,by simp [dm],z0,fun v h=>by have:=List.eq_of_mem_replicate h;subst this;exact ⟨by lia,by show (0:Int)<w;lia⟩⟩
 have ht:SOk (dm w many rows) ⟨[0,0],us⟩:=⟨rfl,lu,z0,fun v h=>by have:=ru v h;exact ⟨by lia,this.2⟩⟩
 have mk:∀u,SOk (dm w many rows) u->(dm w many rows).mark u=.int (qo ((dm w many rows).cf u) v0 gs):=fun u hu=>by
  have hk:((dm w many rows).names.zip u.nums).map (·.1)=(["a","b"]:List Str):=jg hu.ln.symm;obtain ⟨q1,q2⟩:=o7 (c:=(dm w many rows).cf u) rows [] 0 ⟨(dm w many rows).names.zip u.nums,[]⟩ (fun r h=>(hall r h).2) (by show 0+rows.length<=30;lia)
  have q3:=(J.nm (c:=(dm w many rows).cf u) hk).1;unfold Cse.mark wl;have q1':((dm w many rows).run u).1=true:=q1;rw [if_pos q1'];have q2':((dm w many rows).run u).2.nums=p5 ((dm w many rows).cf u) rows ((dm w many rows).names.zip u.nums):=q2;show D.int (nm ((dm w many rows).run u).2.nums "a")=_;rw [q2',q3]
 have pz:∀g:Int,0<=g->g<(many:Int)->k8 ((dm w many rows).cf ⟨[0,0],List.replicate many 0⟩) g=0:=fun g h0 h1=>by
  show ((List.replicate many (0:Int))[g.toNat]?).getD 0=0;rw [List.getElem?_replicate]
  split<;>rfl
 have pt:∀g:Int,0<=g->g<(many:Int)->1<=k8 ((dm w many rows).cf ⟨[0,0],us⟩) g/\k8 ((dm w many rows).cf ⟨[0,0],us⟩) g<w:=fun g h0 h1=>by
  show 1<=(us[g.toNat]?).getD 0/\(us[g.toNat]?).getD 0<w;have hi:g.toNat<us.length:=by lia
  rw [List.getElem?_eq_getElem hi];exact ru _ (List.getElem_mem hi)
 obtain ⟨g1,hg1⟩:=List.exists_mem_of_ne_nil gs g0;have ms:(dm w many rows).mark ⟨[0,0],List.replicate many 0⟩=.int 0:=by
  rw [mk _ hs,oU ⟨g1,hg1,pz g1 (gr g1 hg1).1 (gr g1 hg1).2⟩]
 have mt:=mk _ ht;have tp:=y6 (c:=(dm w many rows).cf ⟨[0,0],us⟩) (v0:=v0) (gs:=gs) hw (by show 0<w;lia) v1 v2 fun g h=>pt g (gr g h).1 (gr g h).2
 have pm:∀(ks:List au) (g:Int),0<=g->g<(many:Int)->k8 ((dm w many rows).cf (dY (dm w many rows) ⟨[0,0],List.replicate many 0⟩ ⟨[0,0],us⟩ ks)) g=if (Sum.inl g:au)∈ks then k8 ((dm w many rows).cf ⟨[0,0],us⟩) g else 0:=fun ks g h0 h1=>by
  obtain ⟨i,rfl⟩:=Int.eq_ofNat_of_zero_le h0;have:=t_ (C:=dm w many rows) (s:=⟨[0,0],List.replicate many 0⟩) (t:=⟨[0,0],us⟩) (ks:=ks) (i:=i) (by show i<many;lia)
  show bu (dm w many rows) (dY (dm w many rows) ⟨[0,0],List.replicate many 0⟩ ⟨[0,0],us⟩ ks) (.inl (i:Int))=_;rw [this]
  by_cases c:(Sum.inl (i:Int):au)∈ks
  ·rw [if_pos c,if_pos c];rfl
  ·rw [if_neg c,if_neg c];exact pz (i:Int) h0 h1
 refine ⟨o,hs,ht,m1,nd,g0,gl,gr,?_,fun ks=>?_,⟨_,_,ms,mt,by lia⟩⟩
 ·unfold bw mG
  rw [List.filter_append];have e1:(((dm w many rows).names.map Sum.inr:List au).filter fun k=>decide (bu (dm w many rows) ⟨[0,0],List.replicate many 0⟩ k≠bu (dm w many rows) ⟨[0,0],us⟩ k))=[]:=by
   rw [List.filter_eq_nil_iff];intro k hk;obtain ⟨x,_,rfl⟩:=List.mem_map.mp hk;simp [bu]
  have e2:(((List.range (dm w many rows).many).map fun (i:Nat)=>(Sum.inl (i:Int):au)).filter fun k=>decide (bu (dm w many rows) ⟨[0,0],List.replicate many 0⟩ k≠bu (dm w many rows) ⟨[0,0],us⟩ k))=(List.range (dm w many rows).many).map fun (i:Nat)=>(Sum.inl (i:Int):au):=by
   rw [List.filter_eq_self];intro k hk;obtain ⟨i,hi,rfl⟩:=List.mem_map.mp hk;have hi':i<many:=List.mem_range.mp hi;have q1:=pz (i:Int) (by lia) (by lia)
   have q2:=(pt (i:Int) (by lia) (by lia)).1
   have q1':bu (dm w many rows) ⟨[0,0],List.replicate many 0⟩ (.inl (i:Int))=0:=q1;have q2':1<=bu (dm w many rows) ⟨[0,0],us⟩ (.inl (i:Int)):=q2;rw [decide_eq_true_eq,q1'];lia
  rw [e1,e2,List.nil_append]
 ·have mm:=mk _ (rR o hs ht (ks:=ks))
  unfold Cse.cau Cse.ver;rw [mm,ms,mt]
  by_cases c:∀g∈gs,(Sum.inl g:au)∈ks
  ·have ep:qo ((dm w many rows).cf (dY (dm w many rows) ⟨[0,0],List.replicate many 0⟩ ⟨[0,0],us⟩ ks)) v0 gs=qo ((dm w many rows).cf ⟨[0,0],us⟩) v0 gs:=t9 rfl fun g h=>by rw [pm ks g (gr g h).1 (gr g h).2,if_pos (c g h)]
   rw [ep];have ne:¬qo ((dm w many rows).cf ⟨[0,0],us⟩) v0 gs=0:=by lia
   rw [decide_eq_true c];simp only [aN,decide_eq_true_eq,ne,decide_false,Bool.false_eq_true,if_false,decide_true,if_true]
  ·have hx:∃g∈gs,(Sum.inl g:au)∉ks:=by
    refine Classical.byContradiction fun z=>c fun g h=>?_;exact Classical.byContradiction fun y=>z ⟨g,h,y⟩
   obtain ⟨g,h1,h2⟩:=hx;have ep:qo ((dm w many rows).cf (dY (dm w many rows) ⟨[0,0],List.replicate many 0⟩ ⟨[0,0],us⟩ ks)) v0 gs=0:=oU ⟨g,h1,by rw [pm ks g (gr g h1).1 (gr g h1).2,if_neg h2]⟩
   rw [ep,decide_eq_false c];simp only [aN,decide_true,if_true];exact decide_eq_false (by simp [zu])
end Tw
namespace Tw
open PySem L2 L3
section
variable {C:Cse}{s t:Sta}{gs:List Int}
theorem cK(x:Int):x∈LS.df LS.bG gs↔x∈gs:=(LS.eB LS.bG gs).mem_iff
theorem Jnt.nar(J:Jnt C s t gs):(C.nar s t).1=(LS.df LS.bG gs).map Sum.inl:=by
 obtain ⟨a,b,ea,eb,hab⟩:=J.e;obtain ⟨r1,r2,r3,r4⟩:=fY J.o J.hs J.ht ea eb hab;have sb:=(nar_naf (C:=C) (s:=s) (t:=t)).2;rw [J.un] at sb;generalize (C.nar s t).1=ks at r1 r3 sb;obtain ⟨ns,n1,rfl⟩:=List.sublist_map_iff.mp sb;have hg:∀g∈gs,(Sum.inl g:au)∈ns.map fun (i:Nat)=>(Sum.inl (i:Int):au):=by
  rw [J.cau] at r1;exact of_decide_eq_true r1
 have asc:(ns.map fun (i:Nat)=>(i:Int)).Pairwise (· < ·):=by
  rw [List.pairwise_map];exact (List.pairwise_lt_range.sublist n1).imp fun z=>by lia
 have hin:∀i∈ns,(i:Int)∈gs:=fun i hi=>by
  refine Classical.byContradiction fun z=>?_;obtain ⟨j,hj,e⟩:=List.getElem_of_mem hi;have hl:(ns.map fun (i:Nat)=>(Sum.inl (i:Int):au)).take j++(ns.map fun (i:Nat)=>(Sum.inl (i:Int):au)).drop (j+1)∈cy (ns.map fun (i:Nat)=>(Sum.inl (i:Int):au)):=List.mem_map.mpr ⟨j,List.mem_range.mpr (by simpa using hj),rfl⟩
  have f:=(r3 _ hl).2;rw [J.cau] at f;refine absurd (fun g h=>?_) (of_decide_eq_false f);rw [<- List.eraseIdx_eq_take_drop_succ,List.mem_eraseIdx_iff_getElem?];obtain ⟨m,hm,em⟩:=List.getElem_of_mem (hg g h);refine ⟨m,fun q=>?_,by rw [List.getElem?_eq_getElem hm,em]⟩
  subst q;rw [List.getElem_map,e] at em;exact z (by rw [Sum.inl.inj em];exact h)
 have pm:(ns.map fun (i:Nat)=>(i:Int)).Perm gs:=LS.r0 _ _ (asc.imp fun z=>by lia) J.nd fun x=>by
  refine ⟨fun h=>?_,fun h=>?_⟩
  ·obtain ⟨i,hi,rfl⟩:=List.mem_map.mp h
   exact hin i hi
  ·obtain ⟨i,hi,e⟩:=List.mem_map.mp (hg x h)
   exact List.mem_map.mpr ⟨i,hi,Sum.inl.inj e⟩
 have:=LS.vW LS.bG (LS.n6 (asc.imp fun z=>by lia)) pm
 rw [<- this,List.map_map];rfl
theorem Jnt.bare_yes(J:Jnt C s t gs):C.bare s t ((LS.df LS.bG gs).map Sum.inl)=true:=by
 obtain ⟨a,b,ea,eb,hab⟩:=J.e;obtain ⟨r1,r2,r3,r4⟩:=fY J.o J.hs J.ht ea eb hab;rw [J.nar] at r1 r3;unfold Cse.bare;have e1:decide (C.ver s t ((LS.df LS.bG gs).map Sum.inl)="faulty")=true:=r1;rw [e1,Bool.true_and,Bool.not_eq_true',List.any_eq_false];intro l hl;have:decide (C.ver s t l="faulty")=false:=(r3 l hl).2;rw [this];simp
theorem Jnt.bare_no(J:Jnt C s t gs){ks:List au}(h:∃g∈gs,(Sum.inl g:au)∉ks):C.bare s t ks=false:=by
 unfold Cse.bare;have e1:decide (C.ver s t ks="faulty")=decide (∀g∈gs,(Sum.inl g:au)∈ks):=J.cau ks;obtain ⟨g,h1,h2⟩:=h;rw [e1,decide_eq_false (fun z=>h2 (z g h1)),Bool.false_and]
theorem Jnt.bare_more(J:Jnt C s t gs){is:List Int}{x:Int}(hx:x∉gs)(hm:x∈is)(hg:∀g∈gs,g∈is):C.bare s t (is.map Sum.inl)=false:=by
 unfold Cse.bare;obtain ⟨j,hj,e⟩:=List.getElem_of_mem hm;have hl:(is.map Sum.inl:List au).take j++(is.map Sum.inl:List au).drop (j+1)∈cy (is.map Sum.inl):=List.mem_map.mpr ⟨j,List.mem_range.mpr (by simpa using hj),rfl⟩
 have ca:decide (C.ver s t ((is.map Sum.inl:List au).take j++(is.map Sum.inl:List au).drop (j+1))="faulty")=true:=by
  have:=J.cau ((is.map Sum.inl:List au).take j++(is.map Sum.inl:List au).drop (j+1));unfold Cse.cau at this;rw [this,decide_eq_true_eq];intro g h;rw [<- List.eraseIdx_eq_take_drop_succ,List.mem_eraseIdx_iff_getElem?];obtain ⟨m,hm',em⟩:=List.getElem_of_mem (hg g h);refine ⟨m,fun q=>?_,by rw [List.getElem?_map,List.getElem?_eq_getElem hm',em];rfl⟩
  subst q;rw [e] at em;exact hx (em▸h)
 have an:((cy (is.map Sum.inl)).any fun l=>decide (C.ver s t l="faulty"))=true:=List.any_eq_true.mpr ⟨_,hl,ca⟩;rw [an];simp
end
end Tw
namespace Tw
open PySem L2 L3
section
variable {ad:Ad}{M:Mem}{Q:DK}{E:DX}{k:Pt}{b:Nat}{w v0:Int}{many:Nat}{EE:DX}{D':DEnds}
theorem jO{gs:List Int}:(gs.map Sum.inl:List au).map kD=gs.map D.int:=by rw [List.map_map];rfl
theorem tP{gs:List Int}{c1 c4 c5 c6 c7 c8:Option D}{l:Addr}{N:Mem}(m0:0<many)(m1:many<=40)(gl:gs.length<=100)(lo:Lo k (b+1) M l (gs.map D.int) N)
  (h1:∀g c5 N',0<=g->g<(many:Int)->g∈gs->Lo k b M l (gs.map D.int) N'->D'.nx [some (.ref k.p),c1,some (.int (many:Nat)),some (.ref l),c4,c5,c6,c7,c8] N')
  (h2:∀g c5 N',0<=g->g<(many:Int)->g∉gs->Lo k b M l ((gs++[g]).map D.int) N'->D'.nx [some (.ref k.p),c1,some (.int (many:Nat)),some (.ref l),c4,c5,c6,c7,c8] N'):
  iH ad EE D' [some (.ref k.p),c1,some (.int (many:Nat)),some (.ref l),c4,c5,c6,c7,c8] N:=by
 unfold iH;generalize hK:my ad EE=K;simp! [];refine cb (b:=b) lo.has (by lia) (by lia) fun i N1 a1 b1 d1=>?_
 have lo1:=lo.dr d1;simp! [];rw [<- hK];unfold my;have hx:IsMx N1 (.ref l) (gs.map Sum.inl):=.inr ⟨l,rfl,by rw [jO];exact lo1.at'⟩
 have hi:mw N1 (.int i) (.ref l)=some (decide (i∈gs)):=by
  have:=qe (k:=.inl i) hx;have e:decide ((Sum.inl i:au)∈gs.map Sum.inl)=decide (i∈gs):=by congr 1;simp
  rw [e] at this;exact this
 generalize hA:cI (Cd "list" eV (aa 3) (a9 (aa 5) dNil))=A;simp only [bC,aE,az,aa,eO,List.getElem?_cons_succ,List.getElem?_cons_zero,hi]
 by_cases c:i∈gs
 ·rw [decide_eq_true c]
  exact h1 i _ N1 a1 b1 c lo1
 ·rw [decide_eq_false c]
  show A D' _ N1;rw [<- hA];simp! [lo1.at'];refine ⟨by rw [List.length_map];exact szs (by lia),?_⟩
  have:=h2 i (some (.int i)) _ a1 b1 c (lo1.put (ys:=(gs++[i]).map D.int));rw [List.map_append] at this;exact this
theorem tm{rows:List Rw}{gs:List Int}{c1 c3 c4 c5 c7 c8:Option D}{l:Addr}{N:Mem}(m0:0<many)(m1:many<=40)(rl:rows.length<=100)(J:JR many v0 rows gs)(lo:Lo k (b+1) M l (bc rows) N)
  (h:∀rows' N',rows'.length=rows.length+1->JR many v0 rows' gs->Lo k b M l (bc rows') N'->D'.nx [some (.ref k.p),c1,some (.int (many:Nat)),c3,c4,c5,some (.ref l),c7,c8] N'):
  i_ ad EE D' [some (.ref k.p),c1,some (.int (many:Nat)),c3,c4,c5,some (.ref l),c7,c8] N:=by
 have rl':(bc rows).length<=100:=by rw [gD];exact rl
 unfold i_;simp! [lo.at'];refine cb (b:=b) lo.has (by lia) (by lia) fun i N1 a1 b1 d1=>?_
 have lo1:=lo.dr d1;simp! [lo1.at'];have e1:bc rows++[D.tup [.str "take",.str "b",.int i]]=bc (rows++[.take "b" i]):=by rw [fE];simp only [Rw.d]
 rw [e1];exact ⟨szl (by decide),szs (by lia),h _ _ (by simp) (J.take a1 b1) lo1.put⟩
theorem yH{rows:List Rw}{gs:List Int}{g:Int}{c1 c3 c4 c7 c8:Option D}{l:Addr}{N:Mem}(rl:rows.length<=100)(J:JR many v0 rows gs)(g0:0<=g)(g1:g<(many:Int))(lo:Lo k b M l (bc rows) N)
  (h:∀rows' N',rows'.length=rows.length+2->JR many v0 rows' (gs++[g])->Lo k b M l (bc rows') N'->D'.nx [some (.ref k.p),c1,some (.int (many:Nat)),c3,c4,some (.int g),some (.ref l),c7,c8] N'):
  iA ad EE D' [some (.ref k.p),c1,some (.int (many:Nat)),c3,c4,some (.int g),some (.ref l),c7,c8] N:=by
 have rl':(bc rows).length<=100:=by rw [gD];exact rl
 unfold iA;simp! [lo.at'];refine ⟨szl (by decide),szl (by decide),szl (by decide),fun p1 h1=>?_⟩
 simp! [Mem.upd_del,ap h1,lo.at'];have e1:bc rows++[D.tup [.str "take",.str "b",.int g],D.tup [.str "by",.str "a",.str "a",.str "b"]]=bc (rows++[.take "b" g,.two "by" "a" "a" "b"]):=by
  rw [show rows++[.take "b" g,.two "by" "a" "a" "b"]=(rows++[.take "b" g])++[.two "by" "a" "a" "b"] by simp,fE,fE]
  simp [Rw.d]
 rw [e1];exact ⟨szl (by simp;lia),h _ _ (by simp) (J.by' g0 g1) lo.put⟩
end
end Tw
namespace Tw
open PySem L2 L3
section
variable {ad:Ad}{M:Mem}{Q:DK}{E:DX}{k:Pt}{b:Nat}{w v0:Int}{many:Nat}{EE:DX}{D':DEnds}
theorem fw:∀gs:List Int,fA (gs.map D.int)=some gs
 |[]=>rfl
 |g::gs=>by simp only [List.map_cons,fA,fw gs]
theorem tT{rows:List Rw}{gs:List Int}{g:Int}{c1 c3 c4 c7 c8:Option D}{l:Addr}{N:Mem}(m0:0<many)(m1:many<=40)(rl:rows.length<=90)(J:JR many v0 rows gs)(g0:0<=g)(g1:g<(many:Int))(lo:Lo k (b+3) M l (bc rows) N)
  (h:∀rows' c4 N',rows'.length<=rows.length+4->JR many v0 rows' (gs++[g])->Lo k b M l (bc rows') N'->D'.nx [some (.ref k.p),c1,some (.int (many:Nat)),c3,c4,some (.int g),some (.ref l),c7,c8] N'):
  iG ad EE D' [some (.ref k.p),c1,some (.int (many:Nat)),c3,c4,some (.int g),some (.ref l),c7,c8] N:=by
 unfold iG;generalize hK4:iA ad EE=K4;generalize hK3:i_ ad EE=K3;simp only [aB,dFor,fk,a9,ax,aC,aa,dC,dNil,List.getElem?_cons_succ,List.getElem?_cons_zero];refine ⟨rfl,cb (b:=b+2) lo.has (by decide) (by decide) fun x N1 a1 b1 d1=>?_⟩
 have lo1:=lo.dr d1;obtain ⟨n,rfl⟩:=Int.eq_ofNat_of_zero_le a1;simp only [frz,List.getElem?_cons_succ,List.getElem?_cons_zero];refine ⟨by lia,by lia,?_⟩
 refine du (fun xs δ N=>∃(rows':List Rw) (c4:Option D),rows'.length+xs.length<=rows.length+2/\JR many v0 rows' gs/\δ=[some (.ref k.p),c1,some (.int (many:Nat)),c3,c4,some (.int g),some (.ref l),c7,c8]/\Lo k (b+xs.length) M l (bc rows') N)
  (fun _ _ _ _=>bS) ?_ ?_ _ _ _ ⟨rows,c4,by simp [cw];lia,J,rfl,lo1.le (by simp [cw];lia)⟩
 ·rintro δ N ⟨rows',c4,hl,J',rfl,lo'⟩
  simp only [List.length_nil,Nat.add_zero] at hl lo';dsimp only;rw [<- hK4];exact yH (by lia) J' g0 g1 lo' fun rows2 N' l2 J2 lo2=>h rows2 _ N' (by lia) J2 lo2
 ·rintro x xs δ N ⟨rows',c4,hl,J',rfl,lo'⟩ E' hnx _ _ _
  simp only [List.length_cons] at hl lo';simp only [ao,List.set];rw [<- hK3];exact tm (b:=b+xs.length) m0 m1 (by lia) J' (lo'.le (by lia)) fun rows2 N' l2 J2 lo2=>hnx _ _ ⟨rows2,_,by lia,J2,rfl,lo2⟩
theorem xR{rows:List Rw}{gs:List Int}{c4 c5:Option D}{l l2:Addr}{N1 N:Mem}(hw:w.toNat∈[2,3,5,97,997])(w2:2<=w)(w1:w<=997)(m1:many<=40)(J:JR many v0 rows gs)(rl:rows.length<=30)(v1:1<=v0)(v2:v0<w)(nd:gs.Nodup)(g0:gs≠[])(gl:gs.length<=3)(gr:∀g∈gs,0<=g/\g<(many:Int))
  (lo1:Lo k (b+40) M l (gs.map D.int) N1) (lo2:Lo k (b+40) N1 l2 (bc rows) N) (h:∀C s t M' p,Jnt C s t gs->Dr k b M M'->M' p=none->Q (.tup [aZ C s t,.ref p]) (M'.upd p (.lst ((LS.df LS.bG gs).map D.int)))):
  iN ad EE { nx:=fun _ M'=>drp Q .non M',rt:=drp Q } [some (.ref k.p),some (.int w),some (.int (many:Nat)),some (.ref l),c4,c5,some (.ref l2),none,none] N:=by
 have rl':(bc rows).length<=30:=by rw [gD];exact rl
 unfold iN;generalize hK7:lW ad EE=K7;simp only [aB,bd,bR,ax,bq,fk,a9,aa,dNil,List.getElem?_cons_succ,List.getElem?_cons_zero,cj,List.map_cons,List.map_nil,List.cons_append,List.nil_append,Option.join_some];refine ⟨by lia,by lia,?_⟩
 have lr:(cw 0 (Int.toNat (many:Nat))).length=many:=by simp [cw]
 refine vc (k:=k) (b:=b) 1 (fun _ y=>∃v,y=D.int v/\1<=v/\v<w) (by lia) (lo2.has.le (by lia)) (fun x hx N b' d K hK=>?_) fun ys N3 ly hy d6=>?_
 ·simp! []
  refine cb (b:=b') d.1 (by lia) (by lia) fun r N2 a2 b2 d2=>?_
  simp! [];exact hK _ _ ⟨1+r,rfl,by lia,by lia⟩ d2
 intro p6 hp6;refine frzN hp6 ?_;obtain ⟨us,rfl,hus⟩:=jU (P:=fun v=>1<=v/\v<w) (ys:=ys) fun i y e=>by
  have hi:=(List.getElem?_eq_some_iff.mp e).1;exact hy i _ y (List.getElem?_eq_getElem (by lia)) e
 have lus:us.length=many:=by rw [List.length_map] at ly;lia
 have lo3:=lo2.dr d6;have nl:l≠l2:=fun z=>by have:=lo2.fr;rw [<- z,lo1.at'] at this;cases this
 have atl:N3 l=some (.lst (gs.map D.int)):=by rw [lo3.kp l lo1.np lo1.nq nl];exact lo1.at'
 have Jn:=v7 hw w2 w1 m1 J rl v1 v2 nd g0 gl gr lus hus;have ez:∀m:Nat,(List.replicate m [D.int 0]).flatten=(List.replicate m (0:Int)).map D.int:=fun m=>by
  induction m with
  |zero=>rfl
  |succ m ih=>rw [List.replicate_succ,List.replicate_succ,List.flatten_cons,ih];rfl
 rw [<- hK7];unfold lW qV;simp! [lo3.at',atl,fw];rw [Int.toNat_natCast,ez];refine ⟨szl (by decide),szl (by decide),szl (by decide),szl (by decide),by simp,by lia,by lia,by decide,szl (by decide),szl (by decide),szl (by decide),szl (by decide),by lia,fun p hp=>⟨szl (by decide),?_⟩⟩
 have f2:=lo3.fin;have f1:=(lo1.dr f2.1).fin;have hMp:((N3.del l2).del l) p=none:=by
  cases e:((N3.del l2).del l) p with
  |none=>rfl
  |some o=>
   have:=f2.2 p o (f1.2 p o e);rw [hp] at this;cases this
 refine ⟨((N3.del l2).del l).upd p (.lst ((LS.df LS.bG gs).map D.int)),fun x o e=>?_,?_⟩
 ·by_cases z:x=p
  ·subst z;rw [Mem.upd_same] at e ⊢;exact e
  ·rw [ah z] at e ⊢;exact f2.2 x o (f1.2 x o e)
 ·have:=h _ _ _ _ p Jn f1.1 hMp
  exact this
theorem pJ(hp:Has k (b+60) M)(h:∀C s t gs M' p,Jnt C s t gs->Dr k b M M'->M' p=none->Q (.tup [aZ C s t,.ref p]) (M'.upd p (.lst ((LS.df LS.bG gs).map D.int)))):sB ad [.ref k.p] M Q E:=by
 rw [Dn (n:=0)];unfold n5 ot oQ nn;generalize hK10:jE ad (aS E)=K10;generalize hK2:iH ad (aS E)=K2;simp! [];refine ⟨szl (by decide),fun p1 h1=>?_⟩
 simp! [Mem.upd_del,ap h1];refine cb (b:=b+59) hp (by decide) (by decide) fun x1 M1 a1 b1 d1=>?_
 obtain ⟨w,ew,hw,w2,w1⟩:∃w:Int,atI [D.int 2,.int 3,.int 5,.int 97,.int 997] x1=some (.int w)/\w.toNat∈[2,3,5,97,997]/\2<=w/\w<=997:=by
  have:x1=0\/x1=1\/x1=2\/x1=3\/x1=4:=by lia
  rcases this with rfl|rfl|rfl|rfl|rfl
  all_goals exact ⟨_,rfl,by decide,by decide,by decide⟩
 simp! [ew];refine cb (b:=b+58) d1.1 (by decide) (by decide) fun x2 M2 a2 b2 d2=>?_
 obtain ⟨many,hm,m0,m1⟩:∃many:Nat,2+x2=(many:Nat)/\0<many/\many<=40:=⟨(2+x2).toNat,by lia,by lia,by lia⟩
 simp! [hm];refine ⟨szl (by decide),fun l hl=>?_⟩
 have lo0:=zZ (xs:=([]:List Int).map D.int) hp (d1.trans d2) hl;simp! [↓dFor];refine cb (b:=b+57) lo0.has (by decide) (by decide) fun x3 M3 a3 b3 d3=>?_
 have lo1:=lo0.dr d3;obtain ⟨n3,hn3⟩:∃n3:Nat,1+x3=(n3:Nat):=⟨(1+x3).toNat,by lia⟩
 simp! [hn3];refine ⟨by lia,by lia,?_⟩
 refine du (fun xs δ N=>∃(gs:List Int) (c4 c5:Option D),gs.length+xs.length<=3/\gs.Nodup/\(gs≠[]\/0<xs.length)/\(∀g∈gs,0<=g/\g<(many:Int))/\δ=[some (.ref k.p),some (.int w),some (.int (many:Nat)),some (.ref l),c4,c5,none,none,none]/\Lo k (b+54+xs.length) M l (gs.map D.int) N)
  (fun _ _ _ _=>bS) ?_ ?_ _ _ _ ⟨[],none,none,by simp [cw];lia,by simp,.inr (by simp [cw];lia),by simp,rfl,lo1.le (by simp [cw];lia)⟩
 ·rintro δ N ⟨gs,c4,c5,gl,nd,hne,gr,rfl,lo⟩
  simp only [List.length_nil,Nat.add_zero] at gl lo;have g0:gs≠[]:=by
   rcases hne with q|q
   ·exact q
   ·simp at q
  dsimp only;rw [<- hK10];unfold jE rf;generalize hK8:iN ad (aS E)=K8;generalize hK5:iG ad (aS E)=K5;simp! [↓dFor];refine cb (b:=b+53) lo.has (by lia) (by lia) fun r N1 ra rb dr=>?_
  have lo2:=lo.dr dr;simp! [];refine ⟨szl (by decide),szl (by decide),fun l2 hl2=>?_⟩
  have ne2:=lo2.has.nep hl2;have nl:l≠l2:=fun z=>by rw [<- z,lo2.at'] at hl2;cases hl2
  have e0:[D.tup [.str "put",.str "a",.int (1+r)]]=bc [.put "a" (1+r)]:=by simp [bc,Rw.d]
  rw [e0];have lo3:Lo k (b+53) N1 l2 (bc [.put "a" (1+r)]) (N1.upd l2 (.lst (bc [.put "a" (1+r)]))):=zZ (xs:=bc [.put "a" (1+r)]) lo2.has lo2.has.refl hl2;generalize N1.upd l2 (.lst (bc [.put "a" (1+r)]))=N2 at lo3 ⊢;have atN:∀{c:Nat} {xs:List D} {N:Mem},Lo k c N1 l2 xs N->N l=some (.lst (gs.map D.int)):=fun q=>by rw [q.kp l lo.np lo.nq nl];exact lo2.at'
  simp only [dFor,dh,aa,List.getElem?_cons_succ,List.getElem?_cons_zero,b_,atN lo3,srcOf]
  refine du (fun xs δ N=>∃(g1 g2:List Int) (rows:List Rw) (c4 c5:Option D),gs=g1++g2/\xs=g2.map D.int/\JR many (1+r) rows g1/\rows.length+4*g2.length<=13/\δ=[some (.ref k.p),some (.int w),some (.int (many:Nat)),some (.ref l),c4,c5,some (.ref l2),none,none]/\Lo k (b+40+3*g2.length) N1 l2 (bc rows) N)
   (fun _ _ _ z=>?_) ?_ ?_ _ _ _ ⟨[],gs,[.put "a" (1+r)],c4,c5,rfl,rfl,.base,by simp;lia,rfl,lo3.le (by lia)⟩
  ·obtain ⟨_,_,_,_,_,_,_,_,_,_,q⟩:=z
   intro p hp';simp only [List.mem_singleton] at hp';subst hp';exact atN q
  ·rintro δ N ⟨g1,g2,rows,c4,c5,e1,e2,J,rl,rfl,lo4⟩
   have:g2=[]:=by cases g2 with|nil=>rfl|cons _ _=>simp at e2
   subst this;rw [List.append_nil] at e1;subst e1;simp only [List.length_nil,Nat.mul_zero,Nat.add_zero] at rl lo4;dsimp only;rw [<- hK8];exact xR hw w2 w1 m1 J (by lia) (by lia) (by lia) nd g0 (by lia) gr (lo2.le (by lia)) lo4 (fun C s t M' p J' d' hn=>h C s t gs M' p J' d' hn)
  ·rintro x xs δ N ⟨g1,g2,rows,c4,c5,e1,e2,J,rl,rfl,lo4⟩ E' hnx _ _ _
   cases g2 with
   |nil=>simp at e2
   |cons g g2=>
    simp only [List.map_cons,List.cons.injEq] at e2;obtain ⟨rfl,rfl⟩:=e2;simp only [List.length_cons] at rl lo4;obtain ⟨q0,q1⟩:=gr g (by rw [e1];simp)
    simp only [ao,List.set];rw [<- hK5];exact tT (b:=b+40+3*g2.length) m0 m1 (by lia) J q0 q1 (lo4.le (by lia)) fun rows' c4 N' l' J' lo5=>hnx _ _ ⟨g1++[g],g2,rows',_,_,by simp [e1],rfl,J',by lia,rfl,lo5⟩
 ·rintro x xs δ N ⟨gs,c4,c5,gl,nd,hne,gr,rfl,lo⟩ E' hnx _ _ _
  simp only [List.length_cons] at gl lo;simp only [ao,List.set];rw [<- hK2];refine tP (b:=b+54+xs.length) m0 m1 (by lia) (lo.le (by lia)) (fun g c5 N' q0 q1 hg lo'=>hnx _ _ ⟨gs,_,_,by lia,nd,.inl (fun z=>by rw [z] at hg;simp at hg),gr,rfl,lo'⟩) fun g c5 N' q0 q1 hg lo'=>hnx _ _ ⟨gs++[g],_,_,by simp;lia,?_,.inl (by simp),fun g' h'=>?_,rfl,lo'⟩
  ·exact List.nodup_append.mpr ⟨nd,by simp,fun a ha c hc e=>by rw [List.mem_singleton] at hc;subst hc;subst e;exact hg ha⟩
  ·rcases List.mem_append.mp h' with q|q
   ·exact gr g' q
   ·rw [List.mem_singleton] at q;subst q;exact ⟨q0,q1⟩
end
end Tw
namespace L3
open PySem L2
theorem xD(ts:List Str):(listText ts).length<=piled ts+5:=by
 rw [listText_eq_join,strLen_append,strLen_append];have e1:(("[":String):Str).length=1:=rfl;have e2:(("]":String):Str).length=1:=rfl
 by_cases h:ts=[]
 ·subst h
  have:(Str.join ", " ([]:List Str)).length=0:=rfl;lia
 ·have:=join_length_add ts h
  lia
end L3
namespace Tw
open PySem L2 L3
theorem yp{n:Nat}{xs:List D}(h:∀x∈xs,ShN n x):ShN (n+1) (.lst xs):=by
 refine ⟨by simp only [bZ];exact gb xs fun x hx=>(h x hx).1,by simp only [cQ,PyData.showable];exact nu xs fun x hx=>(h x hx).2.1,?_⟩
 simp only [cQ,PyData.shown,sz];have:=xD (PyData.shownAll (dk xs));have:=ki xs fun x hx=>(h x hx).2.2;lia
theorem wA:∀l:List au,xk (l.map kD)<=2002*l.length
 |[]=>by simp [xk]
 |k::l=>by
  have:=wA l;have:sz (kD k)<=2000:=by cases k<;>simp [kD,sz]
  simp only [List.map_cons,xk,List.length_cons];lia
theorem Dw{l:List au}(hp:∀k∈l,Pc k)(hl:l.length<=100):bZ 60 (mxD l)=true/\(cQ (mxD l)).showable=true/\(cQ (mxD l)).shown.length<=sizeLine:=by
 have h:ShN 60 (mxD l):=yp (n:=59) fun x hx=>by
  obtain ⟨k,hk,rfl⟩:=List.mem_map.mp hx;obtain ⟨i,hi,rfl⟩:=hp k hk;exact zb (s_ (by lia) (by lia))
 have h5:sz (mxD l)<=5+2002*l.length:=by show 5+xk (l.map kD)<=_;have:=wA l;lia
 have hs:sizeLine=16777216:=rfl;exact ⟨h.1,h.2.1,Nat.le_trans h.2.2 (by lia)⟩
section
variable {C:Cse}{s t:Sta}{gs:List Int}{ad:Ad}{M:Mem}{Q:DK}{E:DX}{ks:List au}
theorem Jnt.ul(J:Jnt C s t gs):(bw C s t).length=C.many:=by rw [J.un];simp
theorem Jnt.pc(J:Jnt C s t gs){l:List au}(h:l.Sublist (bw C s t)):∀k∈l,Pc k:=fun k hk=>by
 have:=h.subset hk;rw [J.un] at this;obtain ⟨i,hi,rfl⟩:=List.mem_map.mp this;have:=List.mem_range.mp hi;have:=J.m40;exact ⟨i,by lia,rfl⟩
theorem Jnt.na(J:Jnt C s t gs):NaOk C s t (C.nar s t).2/\(C.nar s t).2.length<=C.many*C.many+3*C.many+2/\(C.nar s t).2.length<=1722:=by
 obtain ⟨a,b,ea,eb,hab⟩:=J.e;obtain ⟨_,_,_,r4⟩:=fY J.o J.hs J.ht ea eb hab;have ul:=J.ul;rw [ul] at r4;have m40:=J.m40;have:C.many*C.many<=40*40:=Nat.mul_le_mul m40 m40;exact ⟨nar_naf.1.ok J.o (by lia) (by lia),r4,by lia⟩
theorem gY{EE:DX}{bx:BxQ EE fun d M'=>frz d M' Q}{d:D}(h:Jnt C s t gs)(e:d=mxD ks)(hl:ks.length<=1000)(q:Q (.bl (C.bare s t ks)) M):calls (jm ad) EE [aZ C s t,d] M (fun d M'=>frz d M' Q) bx:=by
 subst e;obtain ⟨a,b,ea,eb,hab⟩:=h.e;exact aQ (fun _ _ q=>tL h.o h.hs h.ht ea eb hab hl q) q
theorem uZ{xs:List D}(h:0<xs.length):e_ xs none (some (-1))=xs.take (xs.length-1):=by
 unfold e_;rw [HT.jt,List.drop_zero,Nat.sub_zero];congr 1;simp only [HT.sIx];rw [if_pos (by decide)]
 lia
end
end Tw
namespace Tw
open PySem L2 L3
section
variable {C:Cse}{s t:Sta}{gs:List Int}{ad:Ad}{M:Mem}{EE:DX}{D':DEnds}{k:Pt}{b:Nat}{c0 c5 c6 c7:Option D}
def fC(gs:List Int):D:=.lst ((LS.df LS.bG gs).map D.int)
theorem lM:fC gs=mxD ((LS.df LS.bG gs).map Sum.inl):=by unfold fC mxD;rw [jO]
theorem dH:(LS.df LS.bG gs).length=gs.length:=(LS.eB LS.bG gs).length_eq
theorem DB{x:Int}{c8:Option D}(J:Jnt C s t gs)(hx:x∉gs)(hr:∀M',D'.rt (.bl true) M'):
  iQ ad EE D' [c0,some (.ref k.p),some (aZ C s t),some (fC gs),some (.int (C.many:Nat)),c5,c6,c7,c8,some (.int x)] M:=by
 have gl:=J.gl;have sl:=dH (gs:=gs);have hs:fC gs=.lst ((LS.df LS.bG gs).map D.int):=rfl;unfold iQ;simp! [hs];refine ⟨szl (by decide),fun p1 h1=>?_⟩
 simp! [Mem.upd_del,ap h1];refine ⟨szl (by simp;lia),fun p2 h2=>?_⟩
 simp! [Mem.upd_del,ap h2];have e1:(LS.df LS.bG gs).map D.int++[D.int x]=(LS.df LS.bG gs++[x]).map D.int:=by simp
 rw [e1,fw];refine ⟨by simp;lia,fun p3 h3=>?_⟩
 simp! [Mem.upd_del,ap h3];have l3:=dH (gs:=LS.df LS.bG gs++[x]);simp only [List.length_append,List.length_cons,List.length_nil] at l3;refine gY J (ks:=(LS.df LS.bG (LS.df LS.bG gs++[x])).map Sum.inl) (by unfold mxD;rw [jO]) (by simp;lia) ?_
 rw [J.bare_more (x:=x) hx (cK x |>.mpr (by simp)) fun g h=>(cK g).mpr (by simp [cK,h])]
 simp! [];exact hr _
theorem Ee(J:Jnt C s t gs)(hp:Has k (b+1) M)(hr:∀M',D'.rt (.bl true) M'):
  iI ad EE D' [c0,some (.ref k.p),some (aZ C s t),some (fC gs),some (.int (C.many:Nat)),c5,c6,c7,none,none] M:=by
 have gl:=J.gl;have m40:=J.m40;have sl:=dH (gs:=gs);have hs:fC gs=.lst ((LS.df LS.bG gs).map D.int):=rfl;unfold iI;generalize hK3:mo ad EE=K3;simp only [aB,el,jo,bq,fk,a9,aa,dNil,List.getElem?_cons_succ,List.getElem?_cons_zero,cj,List.map_cons,List.map_nil,List.cons_append,List.nil_append,Option.join_some];refine ⟨by lia,by lia,?_⟩
 refine iF (fun d=>match d with|.int i=>decide (i∉gs)|_=>false) id bS (by simp [cw];lia) (fun x hx K q=>?_) (fun x hx _ K q=>q) ?_
 ·simp only [cw,List.mem_map,List.mem_range] at hx
  obtain ⟨i,hi,rfl⟩:=hx;rw [Int.zero_add] at q ⊢;have hi':mw M (.int (i:Nat)) (fC gs)=some (decide (((i:Nat):Int)∈gs)):=by
   have:=qe (M:=M) (k:=.inl ((i:Nat):Int)) (d:=fC gs) (ks:=(LS.df LS.bG gs).map Sum.inl) (.inl lM);have e:decide ((Sum.inl ((i:Nat):Int):au)∈(LS.df LS.bG gs).map Sum.inl)=decide (((i:Nat):Int)∈gs):=by congr 1;simp [cK]
   rw [e] at this;exact this
  simp only [aE,az,aa,eO,List.getElem?_cons_succ,List.getElem?_cons_zero,hi'];simpa using q
 ·intro p8 h8
  rw [List.map_id];obtain ⟨os,eo,ho⟩:∃os:List Int,((cw 0 (Int.toNat (C.many:Nat))).filter fun d=>match d with|.int i=>decide (i∉gs)|_=>false)=os.map D.int/\((∀o∈os,o∉gs)/\os.length<=40):=by
   have hl:=List.length_filter_le (fun d=>match d with|.int i=>decide (i∉gs)|_=>false) (cw 0 (Int.toNat (C.many:Nat)))
   have lr:(cw 0 (Int.toNat (C.many:Nat))).length=C.many:=by simp [cw]
   obtain ⟨vs,e1,e2⟩:=jU (P:=fun v=>v∉gs) (ys:=(cw 0 (Int.toNat (C.many:Nat))).filter fun d=>match d with|.int i=>decide (i∉gs)|_=>false) fun i y e=>by
    have hy:=List.mem_filter.mp (List.mem_of_getElem? e);obtain ⟨j,_,rfl⟩:=List.mem_map.mp hy.1;exact ⟨_,rfl,by simpa using hy.2⟩
   refine ⟨vs,e1,e2,?_⟩;have:=congrArg List.length e1;rw [List.length_map] at this;lia
  rw [eo];simp only [gx,List.set,List.getElem?_cons_succ,List.getElem?_cons_zero];refine frzN (Q:=fun d M'=>K3 D' [c0,some (.ref k.p),some (aZ C s t),some (fC gs),some (.int (C.many:Nat)),c5,c6,c7,some d,none] M') h8 ?_;rw [<- hK3];unfold mo;generalize hK2:lj ad EE=K2;simp! [];refine ⟨szl (by decide),fun p9 h9=>?_⟩
  simp! [Mem.upd_del,ap h9];refine ⟨gb _ fun x hx=>by obtain ⟨v,_,rfl⟩:=List.mem_map.mp hx;rfl,?_⟩
  cases os with
  |nil=>exact hr _
  |cons o1 os=>
   have e3:¬ff ((o1::os).map D.int) []=true:=by simp [ff]
   rw [if_neg e3,<- hK2];generalize ho1:o1::os=os1 at ho ⊢;have lo1:0<os1.length:=by rw [<- ho1];simp
   unfold lj;generalize hK1:iQ ad EE=K1;simp! [List.length_map];refine cb (b:=b) hp (by lia) (by have:=ho.2;lia) fun r N1 a1 b1 d1=>?_
   obtain ⟨j,rfl⟩:=Int.eq_ofNat_of_zero_le a1;have hj:j<os1.length:=by lia
   have ea:atI (os1.map D.int) (j:Nat)=some (.int os1[j]):=by rw [cP (by lia),Int.toNat_natCast,List.getElem?_map,List.getElem?_eq_getElem hj];rfl
   simp! [ea];rw [<- hK1];exact DB J (ho.1 _ (List.getElem_mem hj)) hr
theorem Ec(J:Jnt C s t gs)(hp:Has k (b+1) M)(hr:∀M',D'.rt (.bl true) M'):
  iV ad EE D' [c0,some (.ref k.p),some (aZ C s t),some (fC gs),some (.int (C.many:Nat)),c5,c6,c7,none,none] M:=by
 have gl:=J.gl;have g0:0<gs.length:=List.length_pos_iff.mpr J.g0;have sl:=dH (gs:=gs);have hs:fC gs=.lst ((LS.df LS.bG gs).map D.int):=rfl;have t4:=Ee (ad:=ad) (EE:=EE) (D':=D') (c0:=c0) (c5:=c5) (c6:=c6) (c7:=c7) J hp hr;unfold iV;generalize iI ad EE=K4 at t4 ⊢;simp! [];refine gY J (ks:=(LS.df LS.bG gs).map Sum.inl) lM (by simp;lia) ?_
 rw [J.bare_yes];simp! [];show if (true != true)=true then _ else _
 rw [if_neg (by simp)]
 simp only [hs,b_,seqL];intro p1 h1;simp! [Mem.upd_del,ap h1];have ct:e_ ((LS.df LS.bG gs).map D.int) none (some (-1))=((LS.df LS.bG gs).take (gs.length-1)).map D.int:=by
  rw [uZ (by rw [List.length_map];lia),List.length_map,sl,List.map_take]
 rw [ct];refine gY J (ks:=((LS.df LS.bG gs).take (gs.length-1)).map Sum.inl) (by unfold mxD;rw [jO]) (by simp;lia) ?_
 have nd:(LS.df LS.bG gs).Nodup:=(LS.eB LS.bG gs).nodup_iff.mpr J.nd;have hn:gs.length-1<(LS.df LS.bG gs).length:=by lia
 rw [J.bare_no ⟨(LS.df LS.bG gs)[gs.length-1],(cK _).mp (List.getElem_mem hn),fun z=>by
  obtain ⟨y,hy,e⟩:=List.mem_map.mp z;have e':=Sum.inl.inj e;subst e';rw [<- List.take_append_drop (gs.length-1) (LS.df LS.bG gs)] at nd;refine (List.nodup_append.mp nd).2.2 _ hy _ ?_ rfl;rw [List.drop_eq_getElem_cons hn];exact List.mem_cons_self⟩]
 simp! [];show if (false != false)=true then _ else _
 rw [if_neg (by simp)]
 exact t4
theorem Cs(J:Jnt C s t gs)(hp:Has k (b+1) M)(hr:∀M',D'.rt (.bl true) M'):
  iU ad EE D' [c0,some (.ref k.p),some (aZ C s t),some (fC gs),some (.int (C.many:Nat)),some (.lst (askD C s t (C.nar s t).2)),some (fC gs),c7,none,none] M:=by
 have gl:=J.gl;have g0:0<gs.length:=List.length_pos_iff.mpr J.g0;have sl:=dH (gs:=gs);have ul:=J.ul;have m40:=J.m40;have hs:fC gs=.lst ((LS.df LS.bG gs).map D.int):=rfl;obtain ⟨a,b',ea,eb,hab⟩:=J.e;obtain ⟨r1,r2,r3,r4⟩:=fY J.o J.hs J.ht ea eb hab;rw [J.nar] at r3;obtain ⟨na,_,_⟩:=J.na;have hl:=r3 (((LS.df LS.bG gs).drop 1).map Sum.inl) (List.mem_map.mpr ⟨0,List.mem_range.mpr (by simp;lia),by simp [List.map_drop]⟩)
 have t5:=Ec (ad:=ad) (EE:=EE) (D':=D') (c0:=c0) (c5:=some (.lst (askD C s t (C.nar s t).2))) (c6:=some (fC gs)) (c7:=c7) J hp hr;unfold iU;generalize iV ad EE=K5 at t5 ⊢;have ct:e_ ((LS.df LS.bG gs).map D.int) (some 1) none=((LS.df LS.bG gs).drop 1).map D.int:=by
  have:=cutD_lo (xs:=(LS.df LS.bG gs).map D.int) (k:=1);rw [List.map_drop];exact this
 simp! [hs,ct];intro p1 h1;simp! [Mem.upd_del,ap h1];refine ⟨szl (by decide),?_⟩
 have en:D.tup [.lst (askD C s t (C.nar s t).2),.lst (((LS.df LS.bG gs).drop 1).map D.int)]=oV C s t (C.nar s t).2 (((LS.df LS.bG gs).drop 1).map Sum.inl):=by unfold oV mxD;rw [jO]
 rw [en];refine aQ (d:=.bl false) (fun _ _ q=>jx J.o J.hs J.ht ea eb hab (by lia) na (by simp;lia) hl.1 (fun _=>q) fun z=>by rw [hl.2] at z;cases z) ?_
 simp! [];show if (false != false)=true then _ else _
 rw [if_neg (by simp)]
 exact t5
theorem oX{α:Type}(f:α->Str):∀xs:List α,dj (xs.map fun x=>D.str (f x))=some (xs.map f)
 |[]=>rfl
 |x::xs=>by simp only [List.map_cons,dj,oX f xs]
theorem DM(J:Jnt C s t gs)(hp:Has k (b+1) M)(hr:∀M',D'.rt (.bl true) M'):
  iM ad EE D' [c0,some (.ref k.p),some (aZ C s t),some (fC gs),some (.int (C.many:Nat)),some (.lst (askD C s t (C.nar s t).2)),some (fC gs),some (.lst ((C.nar s t).2.map fun l=>D.str (cQ (mxD l)).shown)),none,none] M:=by
 have gl:=J.gl;have sl:=dH (gs:=gs);have ul:=J.ul;have m40:=J.m40;obtain ⟨a,b',ea,eb,hab⟩:=J.e;obtain ⟨r1,r2,r3,r4⟩:=fY J.o J.hs J.ht ea eb hab;rw [J.nar] at r1 r2 r3;obtain ⟨na,l1,l2⟩:=J.na;have ta:=tO (nar_naf (C:=C) (s:=s) (t:=t)).1.nd fun l hl=>J.pc ((nar_naf (C:=C) (s:=s) (t:=t)).1.sb l hl);have t6:=Cs (ad:=ad) (EE:=EE) (D':=D') (c0:=c0) (c7:=some (.lst ((C.nar s t).2.map fun l=>D.str (cQ (mxD l)).shown))) J hp hr;unfold iM;generalize iU ad EE=K6 at t6 ⊢;simp only [aB,bC,u6,aE,az,jG,bR,a9,aa,dNil,cG,seqL,b_,List.getElem?_cons_succ,List.getElem?_cons_zero,List.length_map];have es:dj ((C.nar s t).2.map fun l=>D.str (cQ (mxD l)).shown)=some ((C.nar s t).2.map fun l=>(cQ (mxD l)).shown):=oX (fun l=>(cQ (mxD l)).shown) _;rw [es];dsimp only;rw [ta,List.length_map];refine ⟨by lia,rfl,rfl,?_⟩
 have ed:∀(N:Mem) (x:Int),(!aN (dv N (.int x)) (dv N (.int x)))=false:=fun N x=>by simp [dv,aN]
 rw [ed];simp! [];refine ⟨szl (by decide),?_⟩
 have en:D.tup [.lst (askD C s t (C.nar s t).2),fC gs]=oV C s t (C.nar s t).2 ((LS.df LS.bG gs).map Sum.inl):=by unfold oV;rw [lM]
 rw [en];refine aQ (d:=.bl true) (fun _ _ q=>jx J.o J.hs J.ht ea eb hab (by lia) na (by simp;lia) r2 (fun z=>by rw [r1] at z;cases z) fun _=>⟨r3,q⟩) ?_
 simp! [];show if (true != true)=true then _ else _
 rw [if_neg (by simp)]
 exact t6
theorem Dz(J:Jnt C s t gs)(hp:Has k (b+1) M)(hr:∀M',D'.rt (.bl true) M'):
  iO ad EE D' [c0,some (.ref k.p),some (aZ C s t),some (fC gs),some (.int (C.many:Nat)),some (.lst (askD C s t (C.nar s t).2)),some (fC gs),none,none,none] M:=by
 have gl:=J.gl;have sl:=dH (gs:=gs);have ul:=J.ul;have m40:=J.m40;obtain ⟨na,l1,l2⟩:=J.na;have la:(askD C s t (C.nar s t).2).length=(C.nar s t).2.length:=by simp [askD]
 have t7:=DM (ad:=ad) (EE:=EE) (D':=D') (c0:=c0) J hp hr;have t8:iC ad EE D' [c0,some (.ref k.p),some (aZ C s t),some (fC gs),some (.int (C.many:Nat)),some (.lst (askD C s t (C.nar s t).2)),some (fC gs),none,none,none] M:=by
  unfold iC;generalize iM ad EE=K7 at t7 ⊢;simp only [aB,el,jo,bq,dh,aa,List.getElem?_cons_succ,List.getElem?_cons_zero,b_,srcOf,cj,List.map_cons,List.map_nil,List.cons_append,List.nil_append];refine eF (fun d=>match d with|.tup (m::_)=>.str (cQ m).shown|_=>.non) bS (by rw [la];lia) (fun x hx K q=>?_) ?_
  ·obtain ⟨l,hl,rfl⟩:=List.mem_map.mp hx
   obtain ⟨s1,s2,s3⟩:=Dw (J.pc ((nar_naf (C:=C) (s:=s) (t:=t)).1.sb l hl)) (na.ll l hl);simp only [bR,az,a9,aa,dC,dNil,bz,b_,atI_0,List.getElem?_cons_zero];exact ⟨s1,s2,s3,q⟩
  ·intro p7 h7
   have e1:(askD C s t (C.nar s t).2).map (fun d=>match d with|.tup (m::_)=>.str (cQ m).shown|_=>.non)=(C.nar s t).2.map fun l=>D.str (cQ (mxD l)).shown:=by unfold askD;rw [List.map_map];rfl
   rw [e1];simp only [gx,List.set,List.getElem?_cons_succ,List.getElem?_cons_zero];exact frzN (Q:=fun d M'=>K7 D' [c0,some (.ref k.p),some (aZ C s t),some (fC gs),some (.int (C.many:Nat)),some (.lst (askD C s t (C.nar s t).2)),some (fC gs),some d,none,none] M') h7 t7
 have sf:bZ 60 (fC gs)=true:=by
  unfold fC;simp only [bZ];exact gb _ fun x hx=>by obtain ⟨v,_,rfl⟩:=List.mem_map.mp hx;rfl
 unfold iO;generalize iC ad EE=K8 at t8 ⊢;simp only [aB,bC,u6,aE,az,aa,List.getElem?_cons_succ,List.getElem?_cons_zero];refine ⟨sf,sf,?_⟩;have e3:(!aN (dv M (fC gs)) (dv M (fC gs)))=false:=by
  show (!aN (fC gs) (fC gs))=false;rw [ng sf];rfl
 rw [e3];simp! [la];have e1:¬(((C.many:Nat):Int)*((C.many:Nat):Int)+3*((C.many:Nat):Int)+2<(((C.nar s t).2.length:Nat):Int)):=by
  have:(((C.nar s t).2.length:Nat):Int)<=((C.many*C.many+3*C.many+2:Nat):Int):=Int.ofNat_le.mpr l1;rw [Int.natCast_add,Int.natCast_add,Int.natCast_mul,Int.natCast_mul] at this;exact Int.not_lt.mpr this
 rw [if_neg e1];refine ⟨?_,?_,t8⟩
 ·exact .inl ⟨by lia,by lia⟩
 ·exact .inl ⟨by lia,by lia⟩
end
theorem tN(ad:Ad)(ns:List Int)(hl:ns.length<=63):wQ ad [.ml (ns.map D.int)] (fun _=>none) (fun d _=>d=.bl true) kq:=by
 simp only [CH];unfold nK oR oS nM;generalize hK9:iO ad (aS kq)=K9;simp only [aB,bd,aC,a9,aa,dNil,startN,List.map_cons,List.map_nil,List.length_cons,List.length_nil,List.replicate,List.cons_append,List.nil_append,List.getElem?_cons_succ,List.getElem?_cons_zero];refine ⟨trivial,calls_of fun Q' E' hq _=>u3 fun k M1 h1 _=>hq _ _ ?_⟩;simp only [aB,bd,ao,List.set,ko,aC,a9,aa,dC,dNil,List.getElem?_cons_succ,List.getElem?_cons_zero];refine ⟨rfl,calls_of fun Q' E' hq _=>pJ (b:=10) (h1.le (by decide)) fun C s t gs M2 p J d2 hp=>hq _ _ ?_⟩
 obtain ⟨a,b,ea,eb,hab⟩:=J.e;have ul:=J.ul;have m40:=J.m40;obtain ⟨na,l1,l2⟩:=J.na;have ec:aZ C s t=.tup [.tup [.int C.w,.tup (C.names.map D.str),.int (C.many:Nat),.tup (bc C.rows),.str C.mn],s.d,t.d,.int (C.most:Nat)]:=rfl;have fz:∀{Q:DK},Q (.tup [aZ C s t,fC gs]) M2->frzT (.tup [aZ C s t,.ref p]) (M2.upd p (.lst ((LS.df LS.bG gs).map D.int))) Q:=fun {Q} h=>by
  rw [ec] at h ⊢;simp only [frzT,frzs,frz,Mem.upd_same,Mem.upd_del,ap hp];exact h
 refine fz ?_;simp only [d_,bD,dZ,ao,List.set,List.length_cons,List.length_nil];refine ⟨trivial,?_⟩;simp only [aB,bd,az,aa,dC,List.getElem?_cons_succ,List.getElem?_cons_zero,ec,bz,b_,atI_0,atI_2,ao,List.set,ko,aC,a9,dNil];rw [<- ec];refine ⟨rfl,k7 J.o J.hs J.ht ea eb hab (by lia) (by lia) ?_⟩
 simp only [d_,bD,dZ,ao,List.set,List.length_cons,List.length_nil];refine ⟨trivial,?_⟩;rw [J.nar,<- lM,<- hK9];exact Dz (b:=9) J d2.1 fun M'=>⟨M',fun _ _ e=>e,rfl⟩
end Tw
namespace Tw
open PySem L2 L3
def uU(K:W.Frag):Sp:=fun vs H Q _=>∃(a:Addr) (ns:List Int),vs=[.ref a]/\ug H/\SqL K H a (ns.map V.int)/\ns.length<=63/\∀H',Q (.bl true) H'
theorem zG{α:Type}{P:List α->Prop}(h:∀a0,P [a0]):∀us:List α,us.length=1->P us
 |[a0],_=>h a0
theorem pj{α:Type}{P:List α->Prop}(h:∀a0 a1,P [a0,a1]):∀us:List α,us.length=2->P us
 |[a0,a1],_=>h a0 a1
theorem u7{α:Type}{P:List α->Prop}(h:∀a0 a1 a2,P [a0,a1,a2]):∀us:List α,us.length=3->P us
 |[a0,a1,a2],_=>h a0 a1 a2
theorem us4{α:Type}{P:List α->Prop}(h:∀a0 a1 a2 a3,P [a0,a1,a2,a3]):∀us:List α,us.length=4->P us
 |[a0,a1,a2,a3],_=>h a0 a1 a2 a3
structure Nf(K:W.Frag)(x:Str)(st:Stmt)(f:Addr)(fd:FuncData):Prop where
 a:W.nsIn K mainGlobals x=some (some (.ref f))
 F:Fun K x x st f fd
structure Mf(K:W.Frag)(C:Addr)(x q:Str)(st:Stmt)(f:Addr)(fd:FuncData):Prop where
 a:W.findIn K (.ref C) x=some (some (.ref f))
 i:W.isFn K (.ref f)=true
 F:Fun K x q st f fd
theorem all_mk{l:W.OpenLaw}{w:World}{K:W.Frag}{h:Heap}{mg:Str->Option Value}{fa C_Askings C_Walk C_Dry C_NoCase f1 f2 f3 f4 f5 f6 f7 f8 f9 f10 f11 f12 f13 f14 f15 f16 f17 f18 f19 f20 f21 f22 f23 f24 f25 f26 f27 f28 f29 f30 f31 f32 f33 f34 f35 f36 f37 f38:Addr}(X:K.In h)(G:h.Ns mainGlobals mg)(hfa:mg "law"=some (.ref fa))
  {e1 e2 e3 e4 e5 e6 e7 e8 e9 e10 e11 e12 e13 e14 e15 e16 e17 e18 e19 e20 e21 e22 e23 e24 e25 e26 e27 e28 e29 e30 e31 e32 e33 e34 e35 e36 e37 e38:FuncData}
  (aC_Askings:W.nsIn K mainGlobals "Askings"=some (some (.ref C_Askings)))
  (aC_Walk:W.nsIn K mainGlobals "Walk"=some (some (.ref C_Walk)))
  (aC_Dry:W.nsIn K mainGlobals "Dry"=some (some (.ref C_Dry)))
  (aC_NoCase:W.nsIn K mainGlobals "NoCase"=some (some (.ref C_NoCase)))
  (l1:Mf K C_Walk "__init__" "Walk.__init__" C9 f1 e1)
  (l2:Mf K C_Walk "note_step" "Walk.note_step" BX f2 e2)
  (l3:Mf K C_Walk "look" "Walk.look" vM f3 e3)
  (l4:Nf K "run" wL f4 e4)
  (l5:Nf K "mark" x6 f5 e5)
  (l6:Nf K "do_rows" ub f6 e6)
  (l7:Nf K "do_row" vk f7 e7)
  (l8:Nf K "do_if" uX f8 e8)
  (l9:Nf K "do_again" vZ f9 e9)
  (l10:Nf K "number_of" wU f10 e10)
  (l11:Nf K "piece_read" Bt f11 e11)
  (l12:Nf K "joined" wK f12 e12)
  (l13:Nf K "all_things" u8 f13 e13)
  (l14:Nf K "number_in" vV f14 e14)
  (l15:Nf K "is_just" vI f15 e15)
  (l16:Nf K "are_just" wI f16 e16)
  (l17:Nf K "unlike" wo f17 e17)
  (l18:Nf K "marks" vR f18 e18)
  (l19:Nf K "unlike_of" wT f19 e19)
  (l20:Nf K "is_mix" wN f20 e20)
  (l21:Nf K "stand_of" x8 f21 e21)
  (l22:Nf K "number_mixed" AK f22 e22)
  (l23:Nf K "verdict_of" uy f23 e23)
  (l24:Mf K C_Askings "__init__" "Askings.__init__" AA f24 e24)
  (l25:Mf K C_Askings "ask" "Askings.ask" B6 f25 e25)
  (l26:Mf K C_Askings "is_cause" "Askings.is_cause" Ao f26 e26)
  (l27:Nf K "narrowed" wz f27 e27)
  (l28:Nf K "halved" wu f28 e28)
  (l29:Nf K "thinned" vn f29 e29)
  (l30:Nf K "all_one_less" Bz f30 e30)
  (l31:Nf K "is_narrowed" AO f31 e31)
  (l32:Nf K "has_narrowed_form" A1 f32 e32)
  (l33:Nf K "is_asking" uV f33 e33)
  (l34:Nf K "is_bare" vT f34 e34)
  (l35:Nf K "_law_tape" vL f35 e35)
  (l36:Nf K "_law_draw" vO f36 e36)
  (l37:Nf K "_law_joint" vF f37 e37)
  (l38:Nf K "law" eA f38 e38)
  (x_Dry:W.excIn K C_Dry [.type "ValueError",.type "Exception",.type "BaseException",.type "object"] "ValueError.__new__"=true)
  (x_NoCase:W.excIn K C_NoCase [.type "ValueError",.type "Exception",.type "BaseException",.type "object"] "ValueError.__new__"=true)
  (pg_Askings:W.plainGet K C_Askings Str.empty=true)
  (hd_Askings:W.hasDictIn K C_Askings=true)
  (po_Askings:W.plainOver K C_Askings=true)
  (sa_Askings:W.findIn K (.ref C_Askings) "__setattr__"=some (some (.builtin "object.__setattr__")))
  (mk_Askings:W.makesIn K C_Askings=true)
  (kc_Askings:W.keepIn K (.ref C_Askings)=true)
  (pg_Walk:W.plainGet K C_Walk Str.empty=true)
  (hd_Walk:W.hasDictIn K C_Walk=true)
  (po_Walk:W.plainOver K C_Walk=true)
  (sa_Walk:W.findIn K (.ref C_Walk) "__setattr__"=some (some (.builtin "object.__setattr__")))
  (mk_Walk:W.makesIn K C_Walk=true)
  (kc_Walk:W.keepIn K (.ref C_Walk)=true)
  (n_Askings_case:W.findIn K (.ref C_Askings) "case"=some none)
  (n_Askings_told:W.findIn K (.ref C_Askings) "told"=some none)
  (n_Askings_two:W.findIn K (.ref C_Askings) "two"=some none)
  (n_Walk_most:W.findIn K (.ref C_Walk) "most"=some none)
  (n_Walk_numbers:W.findIn K (.ref C_Walk) "numbers"=some none)
  (n_Walk_pieces:W.findIn K (.ref C_Walk) "pieces"=some none)
  (n_Walk_plan:W.findIn K (.ref C_Walk) "plan"=some none)
  (n_Walk_steps:W.findIn K (.ref C_Walk) "steps"=some none)
  (z_all:W.nsIn K mainGlobals "all"=some none)
  (z_any:W.nsIn K mainGlobals "any"=some none)
  (z_bool:W.nsIn K mainGlobals "bool"=some none)
  (z_dict:W.nsIn K mainGlobals "dict"=some none)
  (z_enumerate:W.nsIn K mainGlobals "enumerate"=some none)
  (z_isinstance:W.nsIn K mainGlobals "isinstance"=some none)
  (z_len:W.nsIn K mainGlobals "len"=some none)
  (z_list:W.nsIn K mainGlobals "list"=some none)
  (z_range:W.nsIn K mainGlobals "range"=some none)
  (z_repr:W.nsIn K mainGlobals "repr"=some none)
  (z_set:W.nsIn K mainGlobals "set"=some none)
  (z_sorted:W.nsIn K mainGlobals "sorted"=some none)
  (z_str:W.nsIn K mainGlobals "str"=some none)
  (z_tuple:W.nsIn K mainGlobals "tuple"=some none)
  (z_zip:W.nsIn K mainGlobals "zip"=some none):
  ∃fd:FuncData,(∀(s:Shared) (v:Value),BindsTo s fd ⟨[v],[]⟩ [("_law_script",v)])/\∀base:Heap,K.In base->base.Ns mainGlobals mg->FnOk l.prog w K mg base CX0 33 fa fd ["_law_script"] (uU K):=by
 have e:=hfa.symm.trans (W.mg_of X G l38.a);cases e;obtain ⟨_,_,kV,dc,pm,an,cd,ct,_,rfl,_⟩:=l38.F.ex;have b1:=l1.F.binds (ps:=["self","plan","stand","most"]) fun _ _ _ _ _ _=>us4 fun _ _ _ _=>rfl;have b2:=l2.F.binds (ps:=["self","place","number"]) fun _ _ _ _ _ _=>u7 fun _ _ _=>rfl;have b3:=l3.F.binds (ps:=["self","place","name"]) fun _ _ _ _ _ _=>u7 fun _ _ _=>rfl;have b4:=l4.F.binds (ps:=["plan","stand","most"]) fun _ _ _ _ _ _=>u7 fun _ _ _=>rfl;have b5:=l5.F.binds (ps:=["plan","stand","most"]) fun _ _ _ _ _ _=>u7 fun _ _ _=>rfl;have b6:=l6.F.binds (ps:=["walk","rows","place"]) fun _ _ _ _ _ _=>u7 fun _ _ _=>rfl;have b7:=l7.F.binds (ps:=["walk","row","place"]) fun _ _ _ _ _ _=>u7 fun _ _ _=>rfl;have b8:=l8.F.binds (ps:=["walk","row","place"]) fun _ _ _ _ _ _=>u7 fun _ _ _=>rfl;have b9:=l9.F.binds (ps:=["walk","row","place"]) fun _ _ _ _ _ _=>u7 fun _ _ _=>rfl;have b10:=l10.F.binds (ps:=["plan","numbers","pieces","row"]) fun _ _ _ _ _ _=>us4 fun _ _ _ _=>rfl;have b11:=l11.F.binds (ps:=["plan","numbers","row"]) fun _ _ _ _ _ _=>u7 fun _ _ _=>rfl;have b12:=l12.F.binds (ps:=["word","y","z","wheel"]) fun _ _ _ _ _ _=>us4 fun _ _ _ _=>rfl;have b13:=l13.F.binds (ps:=["plan"]) fun _ _ _ _ _ _=>zG fun _=>rfl;have b14:=l14.F.binds (ps:=["plan","stand","thing"]) fun _ _ _ _ _ _=>u7 fun _ _ _=>rfl;have b15:=l15.F.binds (ps:=["thing","told"]) fun _ _ _ _ _ _=>pj fun _ _=>rfl;have b16:=l16.F.binds (ps:=["things","told"]) fun _ _ _ _ _ _=>pj fun _ _=>rfl;have b17:=l17.F.binds (ps:=["plan","one","other"]) fun _ _ _ _ _ _=>u7 fun _ _ _=>rfl;have b18:=l18.F.binds (ps:=["case"]) fun _ _ _ _ _ _=>zG fun _=>rfl;have b19:=l19.F.binds (ps:=["case"]) fun _ _ _ _ _ _=>zG fun _=>rfl;have b20:=l20.F.binds (ps:=["things","thing"]) fun _ _ _ _ _ _=>pj fun _ _=>rfl;have b21:=l21.F.binds (ps:=["case","mix"]) fun _ _ _ _ _ _=>pj fun _ _=>rfl;have b22:=l22.F.binds (ps:=["case","mix","thing"]) fun _ _ _ _ _ _=>u7 fun _ _ _=>rfl;have b23:=l23.F.binds (ps:=["two","one"]) fun _ _ _ _ _ _=>pj fun _ _=>rfl;have b24:=l24.F.binds (ps:=["self","case"]) fun _ _ _ _ _ _=>pj fun _ _=>rfl;have b25:=l25.F.binds (ps:=["self","mix"]) fun _ _ _ _ _ _=>pj fun _ _=>rfl;have b26:=l26.F.binds (ps:=["self","mix"]) fun _ _ _ _ _ _=>pj fun _ _=>rfl;have b27:=l27.F.binds (ps:=["case"]) fun _ _ _ _ _ _=>zG fun _=>rfl;have b28:=l28.F.binds (ps:=["askings","cause"]) fun _ _ _ _ _ _=>pj fun _ _=>rfl;have b29:=l29.F.binds (ps:=["askings","cause"]) fun _ _ _ _ _ _=>pj fun _ _=>rfl;have b30:=l30.F.binds (ps:=["mix"]) fun _ _ _ _ _ _=>zG fun _=>rfl;have b31:=l31.F.binds (ps:=["case","thing"]) fun _ _ _ _ _ _=>pj fun _ _=>rfl;have b32:=l32.F.binds (ps:=["things","thing"]) fun _ _ _ _ _ _=>pj fun _ _=>rfl;have b33:=l33.F.binds (ps:=["things","thing"]) fun _ _ _ _ _ _=>pj fun _ _=>rfl;have b34:=l34.F.binds (ps:=["case","mix"]) fun _ _ _ _ _ _=>pj fun _ _=>rfl;have b35:=l35.F.binds (ps:=["_law_script"]) fun _ _ _ _ _ _=>zG fun _=>rfl;have b36:=l36.F.binds (ps:=["_law_tape_here","_law_many"]) fun _ _ _ _ _ _=>pj fun _ _=>rfl;have b37:=l37.F.binds (ps:=["_law_tape_here"]) fun _ _ _ _ _ _=>zG fun _=>rfl;have b38:=l38.F.binds (ps:=["_law_script"]) fun _ _ _ _ _ _=>zG fun _=>rfl
 let ad:Ad:={ C_Askings:=C_Askings,C_Walk:=C_Walk,C_Dry:=C_Dry,C_NoCase:=C_NoCase,a_q4:=f1,d_q4:=e1,a_q3:=f2,d_q3:=e2,a_q18:=f3,d_q18:=e3,a_q36:=f4,d_q36:=e4,a_q35:=f5,d_q35:=e5,a_q24:=f6,d_q24:=e6,a_q32:=f7,d_q32:=e7,a_q33:=f8,d_q33:=e8,a_q22:=f9,d_q22:=e9,a_q13:=f10,d_q13:=e10,a_q9:=f11,d_q9:=e11,a_q30:=f12,d_q30:=e12,a_q10:=f13,d_q10:=e13,a_q17:=f14,d_q17:=e14,a_q27:=f15,d_q27:=e15,a_q20:=f16,d_q20:=e16,a_q28:=f17,d_q28:=e17,a_q34:=f18,d_q34:=e18,a_q19:=f19,d_q19:=e19,a_q31:=f20,d_q31:=e20,a_q23:=f21,d_q23:=e21,a_q5:=f22,d_q5:=e22,a_q12:=f23,d_q12:=e23,a_q2:=f24,d_q2:=e24,a_q8:=f25,d_q8:=e25,a_q1:=f26,d_q1:=e26,a_q21:=f27,d_q21:=e27,a_q29:=f28,d_q29:=e28,a_q26:=f29,d_q26:=e29,a_q6:=f30,d_q6:=e30,a_q7:=f31,d_q7:=e31,a_q0:=f32,d_q0:=e32,a_q16:=f33,d_q16:=e33,a_q25:=f34,d_q25:=e34,a_q14:=f35,d_q14:=e35,a_q15:=f36,d_q15:=e36,a_q11:=f37,d_q11:=e37,a_law:=fa,d_law:=W.fnOf "law" "law" (eY eA) (dQ eA) (ar eA) .none kV dc pm an cd ct }
 have T:En K mg ad:={
  c_Askings:=⟨pg_Askings,hd_Askings,po_Askings,sa_Askings⟩
  mC_Askings:=W.mg_of X G aC_Askings
  mk_Askings:=⟨mk_Askings,l24.a,l24.i,kc_Askings⟩
  c_Walk:=⟨pg_Walk,hd_Walk,po_Walk,sa_Walk⟩
  mC_Walk:=W.mg_of X G aC_Walk
  mk_Walk:=⟨mk_Walk,l1.a,l1.i,kc_Walk⟩
  n_Askings_case:=n_Askings_case
  n_Askings_told:=n_Askings_told
  n_Askings_two:=n_Askings_two
  n_Walk_most:=n_Walk_most
  n_Walk_numbers:=n_Walk_numbers
  n_Walk_pieces:=n_Walk_pieces
  n_Walk_plan:=n_Walk_plan
  n_Walk_steps:=n_Walk_steps
  x_Dry:=jM X x_Dry
  mC_Dry:=W.mg_of X G aC_Dry
  x_NoCase:=jM X x_NoCase
  mC_NoCase:=W.mg_of X G aC_NoCase
  F_q4:=l1.F
  b_q4:=b1
  k_q4:=l1.F.kp
  F_q3:=l2.F
  b_q3:=b2
  k_q3:=l2.F.kp
  me_q3:=⟨l2.a,l2.i,l2.F.kp⟩
  F_q18:=l3.F
  b_q18:=b3
  k_q18:=l3.F.kp
  me_q18:=⟨l3.a,l3.i,l3.F.kp⟩
  F_q36:=l4.F
  b_q36:=b4
  k_q36:=l4.F.kp
  m_q36:=W.mg_of X G l4.a
  F_q35:=l5.F
  b_q35:=b5
  k_q35:=l5.F.kp
  m_q35:=W.mg_of X G l5.a
  F_q24:=l6.F
  b_q24:=b6
  k_q24:=l6.F.kp
  m_q24:=W.mg_of X G l6.a
  F_q32:=l7.F
  b_q32:=b7
  k_q32:=l7.F.kp
  m_q32:=W.mg_of X G l7.a
  F_q33:=l8.F
  b_q33:=b8
  k_q33:=l8.F.kp
  m_q33:=W.mg_of X G l8.a
  F_q22:=l9.F
  b_q22:=b9
  k_q22:=l9.F.kp
  m_q22:=W.mg_of X G l9.a
  F_q13:=l10.F
  b_q13:=b10
  k_q13:=l10.F.kp
  m_q13:=W.mg_of X G l10.a
  F_q9:=l11.F
  b_q9:=b11
  k_q9:=l11.F.kp
  m_q9:=W.mg_of X G l11.a
  F_q30:=l12.F
  b_q30:=b12
  k_q30:=l12.F.kp
  m_q30:=W.mg_of X G l12.a
  F_q10:=l13.F
  b_q10:=b13
  k_q10:=l13.F.kp
  m_q10:=W.mg_of X G l13.a
  F_q17:=l14.F
  b_q17:=b14
  k_q17:=l14.F.kp
  m_q17:=W.mg_of X G l14.a
  F_q27:=l15.F
  b_q27:=b15
  k_q27:=l15.F.kp
  m_q27:=W.mg_of X G l15.a
  F_q20:=l16.F
  b_q20:=b16
  k_q20:=l16.F.kp
  m_q20:=W.mg_of X G l16.a
  F_q28:=l17.F
  b_q28:=b17
  k_q28:=l17.F.kp
  m_q28:=W.mg_of X G l17.a
  F_q34:=l18.F
  b_q34:=b18
  k_q34:=l18.F.kp
  m_q34:=W.mg_of X G l18.a
  F_q19:=l19.F
  b_q19:=b19
  k_q19:=l19.F.kp
  m_q19:=W.mg_of X G l19.a
  F_q31:=l20.F
  b_q31:=b20
  k_q31:=l20.F.kp
  m_q31:=W.mg_of X G l20.a
  F_q23:=l21.F
  b_q23:=b21
  k_q23:=l21.F.kp
  m_q23:=W.mg_of X G l21.a
  F_q5:=l22.F
  b_q5:=b22
  k_q5:=l22.F.kp
  m_q5:=W.mg_of X G l22.a
  F_q12:=l23.F
  b_q12:=b23
  k_q12:=l23.F.kp
  m_q12:=W.mg_of X G l23.a
  F_q2:=l24.F
  b_q2:=b24
  k_q2:=l24.F.kp
  F_q8:=l25.F
  b_q8:=b25
  k_q8:=l25.F.kp
  me_q8:=⟨l25.a,l25.i,l25.F.kp⟩
  F_q1:=l26.F
  b_q1:=b26
  k_q1:=l26.F.kp
  me_q1:=⟨l26.a,l26.i,l26.F.kp⟩
  F_q21:=l27.F
  b_q21:=b27
  k_q21:=l27.F.kp
  m_q21:=W.mg_of X G l27.a
  F_q29:=l28.F
  b_q29:=b28
  k_q29:=l28.F.kp
  m_q29:=W.mg_of X G l28.a
  F_q26:=l29.F
  b_q26:=b29
  k_q26:=l29.F.kp
  m_q26:=W.mg_of X G l29.a
  F_q6:=l30.F
  b_q6:=b30
  k_q6:=l30.F.kp
  m_q6:=W.mg_of X G l30.a
  F_q7:=l31.F
  b_q7:=b31
  k_q7:=l31.F.kp
  m_q7:=W.mg_of X G l31.a
  F_q0:=l32.F
  b_q0:=b32
  k_q0:=l32.F.kp
  m_q0:=W.mg_of X G l32.a
  F_q16:=l33.F
  b_q16:=b33
  k_q16:=l33.F.kp
  m_q16:=W.mg_of X G l33.a
  F_q25:=l34.F
  b_q25:=b34
  k_q25:=l34.F.kp
  m_q25:=W.mg_of X G l34.a
  F_q14:=l35.F
  b_q14:=b35
  k_q14:=l35.F.kp
  m_q14:=W.mg_of X G l35.a
  F_q15:=l36.F
  b_q15:=b36
  k_q15:=l36.F.kp
  m_q15:=W.mg_of X G l36.a
  F_q11:=l37.F
  b_q11:=b37
  k_q11:=l37.F.kp
  m_q11:=W.mg_of X G l37.a
  F_law:=l38.F
  b_law:=b38
  k_law:=l38.F.kp
  m_law:=W.mg_of X G l38.a
  z_all:=W.mg_none_of X G z_all
  z_any:=W.mg_none_of X G z_any
  z_bool:=W.mg_none_of X G z_bool
  z_dict:=W.mg_none_of X G z_dict
  z_enumerate:=W.mg_none_of X G z_enumerate
  z_isinstance:=W.mg_none_of X G z_isinstance
  z_len:=W.mg_none_of X G z_len
  z_list:=W.mg_none_of X G z_list
  z_range:=W.mg_none_of X G z_range
  z_repr:=W.mg_none_of X G z_repr
  z_set:=W.mg_none_of X G z_set
  z_sorted:=W.mg_none_of X G z_sorted
  z_str:=W.mg_none_of X G z_str
  z_tuple:=W.mg_none_of X G z_tuple
  z_zip:=W.mg_none_of X G z_zip
 }
 refine ⟨W.fnOf "law" "law" (eY eA) (dQ eA) (ar eA) .none kV dc pm an cd ct,fun s v=>.of_eq rfl,fun base _ _=>?_⟩;exact (AT (C3 (P:=l.prog) (w:=w) (base:=base) T)).imp fun vs H Q E ⟨a,ns,e,hO,hS,hl,k⟩=>by subst e;exact xU hO hS (tN ad ns hl) k
theorem walk{l:W.OpenLaw}{q:Program}{loose:List Str}{XP:(Str->Option Value)->Heap->Prop}{YP:World->Heap->Prop}{d:DefRec}{K:Params->W.Frag}(hn:l.most=some 63)(hdf:d.params.defaults=[])
  (hY:∀(w:World) (h:Heap),YP w h->(K w.params).In h)
  (F:∀(w:World) (mg:Str->Option Value) (fa:Addr) (h:Heap),(K w.params).In h->h.Ns mainGlobals mg->mg d.name=some (.ref fa)->
   ∃fd:FuncData,(∀(s:Shared) (u:Value),BindsTo s fd ⟨[u],[]⟩ [("_law_script",u)])/\∀base:Heap,(K w.params).In base->base.Ns mainGlobals mg->FnOk l.prog w (K w.params) mg base CX0 33 fa fd ["_law_script"] (uU (K w.params))):
  W.WalkO q loose XP YP l.row.toRowW d [] (fun f vs=>PySem.call f vs):=
 L2.yF (n:=63) (k:=33) (x:="_law_script") (CX:=fun _=>CX0) (sp:=fun w=>uU (K w.params)) hn (by decide) hdf ⟨rfl,by decide,by decide,rfl⟩ hY F (fun _ _ a ns hl hO hS=>⟨a,ns,rfl,hO,hS,hl,fun _=>rfl⟩) fun _ _ _ _ _ z=>z
end Tw
open PySem PySem.W PyProof.Rows
namespace PySem.W.Fast
theorem tw5899366198691129112:0=0:=rfl
theorem tw13378407372759301326:0=0:=rfl
theorem tw18352369964702978008:0=0:=rfl
theorem tw2997817139548400441:0=0:=rfl
theorem tw15203779382282535517:0=0:=rfl
theorem tw1657233342067236838:0=0:=rfl
theorem tw17782364623360041555:0=0:=rfl
theorem tw13331757648345446705:0=0:=rfl
theorem tw7951419259127642876:0=0:=rfl
theorem tw11368966339074927829:0=0:=rfl
theorem tw16674564957299893899:0=0:=rfl
theorem tw3907891241564336505:0=0:=rfl
theorem tw5508429329123195108:0=0:=rfl
theorem tw9962689337895851633:0=0:=rfl
theorem tw16001446430190710192:0=0:=rfl
theorem tw5155621920542565526:0=0:=rfl
theorem tw10375953182672162917:0=0:=rfl
theorem tw771719526742346092:0=0:=rfl
theorem tw10833039209531723120:0=0:=rfl
theorem tw11851778340135421944:0=0:=rfl
theorem tw7321308682415625123:0=0:=rfl
theorem tw2860788352401696665:0=0:=rfl
theorem tw12045462549481213275:0=0:=rfl
theorem tw9496073680249961597:0=0:=rfl
theorem tw13990425619392976060:0=0:=rfl
theorem tw1660530478275272476:0=0:=rfl
theorem tw13762405835920897757:0=0:=rfl
theorem tw1251806633396741459:0=0:=rfl
theorem tw3332296089624073729:0=0:=rfl
theorem tw9371629001197060166:0=0:=rfl
theorem tw9944094326753292318:0=0:=rfl
theorem tw1684611356072298056:0=0:=rfl
theorem tw15980621626359200095:0=0:=rfl
theorem tw6673363914275346174:0=0:=rfl
theorem tw15423960314621345636:0=0:=rfl
theorem tw12052404949361476069:0=0:=rfl
theorem tw5556579373767265165:0=0:=rfl
end PySem.W.Fast
set_option maxRecDepth 100000 in
set_option maxHeartbeats 0 in
theorem PySem.Challenge.cw_twinstride_k64_whole_causes_of_several_t_holds : PySem.Challenge.rw_twinstride_k64_whole_causes_of_several_t.Holds := by
 w_on;o_law;k_head;(case hw=>w_witness2)
 k_fill
 refine Tw.walk (l:=PySem.Challenge.rw_twinstride_k64_whole_causes_of_several_t) rfl rfl (fun w h Y=>W.kIn_of Y) ?F
 case F=>
  intro w mg fa h KX G hmg;refine' Tw.all_mk KX G hmg ..
  any_goals k_is
  any_goals (first|refine' Tw.Nf.mk ?_ (L2.v5 ?_ ?_ ?_)|refine' Tw.Mf.mk ?_ ?_ (L2.v5 ?_ ?_ ?_))
  any_goals k_is
  any_goals k_exc
